import PyProof.Rows.All
import Wide.All
import OpenK.AllK
import Wide.FinOn
import Lean
import PyProof.EqAt
import PyProof.EqKinds
import PyProof.TupleCall
import KE.KUnpack
import PyProof.StrWalks
import PyProof.Rows.SortStr
import PyProof.FactsAll.dict_1
import PyProof.FactsAll.subtypes_3
import PyProof.FactsAll.subtypes_4
import PyProof.StrLawsIn
import PyProof.ListMulRoad
import PyProof.FactsAll.tuple
import PyProof.FactsAll.str
import KE.KIntText
import PyProof.StrBlockH
import PyProof.Rows.FStr
import PyProof.StrLawsTight
import PySem.Challenge.RW_goneday_k04_whole_days_go_along
set_option Elab.async false
set_option linter.all false
set_option maxRecDepth 100000
-- CHANGE: your row's module here, as the last of these rows
/-! THE HAND LAYER, for ints, bools, texts, own classes, LISTS and tuples (index, slices, in, append, pop ..), calls, loops. Paste it whole ahead of your own text; what your proof does not reach may be deleted. -/
namespace L2
open PySem PySem.Spec PyProof.Rows

/-- a key: an int or a str -/
abbrev Key := Sum Int Str
def keyIs : Key → Value → Bool
  | .inl k, v => Value.isInt k v
  | .inr x, v => Value.isStrOf x v
def keyH (w : World) : Key → Int
  | .inl k => hashInt k
  | .inr x => hashStr w x
theorem keyIs_shape : ∀ {k : Key} {v : Value}, keyIs k v = true → (∃ i t, k = Sum.inl i ∧ v = Value.int i t) ∨ (∃ x t, k = Sum.inr x ∧ v = Value.str x t)
  | .inl i, v, h => by
    obtain ⟨t, e⟩ := Value.isInt_shape (k := i) (v := v) h
    exact .inl ⟨i, t, rfl, e⟩
  | .inr x, v, h => by
    obtain ⟨t, e⟩ := Value.isStrOf_shape (x := x) (v := v) h
    exact .inr ⟨x, t, rfl, e⟩
theorem key_ll (a b : Int) : decide ((Sum.inl a : Key) = Sum.inl b) = (a == b) := by
  by_cases e : a = b
  · subst e; simp
  · have h : ¬ (Sum.inl a : Key) = Sum.inl b := fun q => e (Sum.inl.inj q)
    rw [decide_eq_false h]
    exact (beq_eq_false_iff_ne.mpr e).symm
theorem key_rr (a b : Str) : decide ((Sum.inr a : Key) = Sum.inr b) = decide (a = b) := by
  by_cases e : a = b
  · subst e; simp
  · have h : ¬ (Sum.inr a : Key) = Sum.inr b := fun q => e (Sum.inr.inj q)
    rw [decide_eq_false h, decide_eq_false e]
theorem key_lr (a : Int) (b : Str) : decide ((Sum.inl a : Key) = Sum.inr b) = false := decide_eq_false (fun q => nomatch q)
theorem key_rl (a : Str) (b : Int) : decide ((Sum.inr a : Key) = Sum.inl b) = false := decide_eq_false (fun q => nomatch q)

def mixKind (prog : Program) (w : World) : PySem.KeyKind prog w Key where
  is := keyIs
  hash := keyH w
  inj := fun v a b ha hb => by
    rcases keyIs_shape ha with ⟨i, t, rfl, rfl⟩ | ⟨x, t, rfl, rfl⟩
    · rcases keyIs_shape hb with ⟨j, u, rfl, e⟩ | ⟨y, u, rfl, e⟩
      · injection e with e1 _; rw [e1]
      · exact nomatch e
    · rcases keyIs_shape hb with ⟨j, u, rfl, e⟩ | ⟨y, u, rfl, e⟩
      · exact nomatch e
      · injection e with e1 _; rw [e1]
  byValue := fun k v h => by
    rcases keyIs_shape h with ⟨i, t, rfl, rfl⟩ | ⟨x, t, rfl, rfl⟩ <;> rfl
  pyHash := fun hv h => by
    rcases keyIs_shape hv with ⟨i, t, rfl, rfl⟩ | ⟨x, t, rfl, rfl⟩
    · exact wpAny_pyHash_int h
    · exact wpAny_pyHash_str h
  eqBool := fun hu hv h => by
    rcases keyIs_shape hu with ⟨i, t, rfl, rfl⟩ | ⟨x, t, rfl, rfl⟩
    · rcases keyIs_shape hv with ⟨j, u, rfl, rfl⟩ | ⟨y, u, rfl, rfl⟩
      · rw [key_ll] at h; exact wpAny_eqBool_int h
      · rw [key_lr] at h; exact SeqAt.EqAt.int_str i t y u _ _ _ _ h
    · rcases keyIs_shape hv with ⟨j, u, rfl, rfl⟩ | ⟨y, u, rfl, rfl⟩
      · rw [key_rl] at h; exact SeqAt.EqAt.str_int x t j u _ _ _ _ h
      · rw [key_rr] at h; exact wpAny_eqBool_str h
  «strs» := fun k x t v h => by
    rcases keyIs_shape h with ⟨i, u, rfl, e⟩ | ⟨y, u, rfl, e⟩
    · exact nomatch e
    · injection e with e1 _
      subst e1
      cases v <;> rfl

end L2

namespace L2
open PySem PySem.Spec PyProof.Rows

/-- a value, without the heap -/
inductive V where
  | non | bl (b : Bool) | int (i : Int) | str (x : Str) | byt (b : Array UInt8) | flt (b : UInt64) | ref (a : Addr) | ty (n : String)
  deriving DecidableEq

def RelV : V → Value → Prop
  | .non, u => u = Value.none
  | .bl b, u => u = Value.bool b
  | .int i, u => ∃ t, u = Value.int i t
  | .str x, u => ∃ t, u = Value.str x t
  | .byt b, u => ∃ t, u = Value.bytes b t
  | .flt b, u => ∃ t, u = Value.float b t
  | .ref a, u => u = Value.ref a
  | .ty n, u => u = Value.type n

abbrev Vals : List V → List Value → Prop := Paired RelV
theorem Vals.length {xs : List V} {us : List Value} (r : Vals xs us) : xs.length = us.length := Paired.length r
theorem Vals.get : ∀ {xs : List V} {us : List Value} {i : Nat} {x : V}, Vals xs us → xs[i]? = some x → ∃ u, us[i]? = some u ∧ RelV x u
  | _, _, _, _, .nil, e => by simp at e
  | _, _, 0, _, .cons r _, e => by simp at e; subst e; exact ⟨_, rfl, r⟩
  | _, _, i + 1, x, .cons _ t, e => by
    obtain ⟨u, h1, h2⟩ := Vals.get (i := i) (x := x) t (by simpa using e)
    exact ⟨u, by simpa using h1, h2⟩
theorem Vals.set {x : V} {u : Value} (r : RelV x u) : ∀ {xs : List V} {us : List Value} (i : Nat), Vals xs us → Vals (xs.set i x) (us.set i u)
  | _, _, _, .nil => .nil
  | _, _, 0, .cons _ t => .cons r t
  | _, _, i + 1, .cons q t => .cons q (Vals.set r i t)
theorem Vals.append : ∀ {xs ys : List V} {us ws : List Value}, Vals xs us → Vals ys ws → Vals (xs ++ ys) (us ++ ws)
  | _, _, _, _, .nil, s => s
  | _, _, _, _, .cons r t, s => .cons r (Vals.append t s)
theorem Vals.take : ∀ {xs : List V} {us : List Value} (n : Nat), Vals xs us → Vals (xs.take n) (us.take n)
  | _, _, 0, _ => .nil
  | _, _, _ + 1, .nil => .nil
  | _, _, n + 1, .cons r t => .cons r (Vals.take n t)
theorem Vals.drop : ∀ {xs : List V} {us : List Value} (n : Nat), Vals xs us → Vals (xs.drop n) (us.drop n)
  | _, _, 0, r => r
  | _, _, _ + 1, .nil => .nil
  | _, _, n + 1, .cons _ t => Vals.drop n t
def RelO : Option V → Option Value → Prop
  | some v, some u => RelV v u
  | none, none => True
  | _, _ => False
def KV {κ : Type} : List (κ × V) → List (κ × Value) → Prop := Paired fun (p : κ × V) (q : κ × Value) => p.1 = q.1 ∧ RelV p.2 q.2

/-- a key of a dict (00_mix): an int or a text -/
def kV : Key → V
  | .inl i => .int i
  | .inr x => .str x

/-- what stands at a tracked address -/
inductive HO where
  /-- a list -/
  | lst (xs : List V)
  /-- a tuple (never changes) -/
  | tup (xs : List V)
  /-- a dict whose keys are ints and texts; one whose keys are tuples of ints and texts (the empty one is both) -/
  | dK (kvs : List (Key × V)) | dT (kvs : List (List Key × V))
  /-- a set of ints: its members, its size -/
  | set (S : Int → Bool) (n : Nat)
  /-- an instance of the class at C, its dict at dx, its attributes -/
  | ins (C dx : Addr) (fs : List (Str × V))
  /-- the dict of the instance at x -/
  | own (x : Addr)
  /-- the dict of an exception -/
  | xd (fs : List (Str × V))
  /-- a bound method, f of x -/
  | met (f x : Addr)
  /-- a range object lo, lo + 1, .. below hi -/
  | rng (lo hi : Int)
  /-- a thing that is known to the object (the script; a dict while a loop walks it): read, never written while it is so -/
  | frz (o : Obj) (u : HO)
  /-- a code object's table -/
  | tbl (ps : Array Value)
  /-- any other thing, by what is true of its one object (a def of one's own: SetO a S n := HO.ext fun h => ..) -/
  | ext (φ : Heap → Prop)

abbrev Hp := Addr → Option HO
def upd (H : Hp) (a : Addr) (o : HO) : Hp := fun b => if b = a then some o else H b
theorem upd_same {H : Hp} {a : Addr} {o : HO} : upd H a o a = some o := by unfold upd; rw [if_pos rfl]
theorem upd_ne {H : Hp} {a b : Addr} {o : HO} (h : b ≠ a) : upd H a o b = H b := by unfold upd; rw [if_neg h]
theorem ne_of_none {H : Hp} {a b : Addr} {o : HO} (h : H a = some o) (h' : H b = none) : a ≠ b := by
  intro e; subst e; rw [h] at h'; cases h'

section
variable (P : Program) (w : World)
def ObjOk (H : Hp) (h : Heap) (a : Addr) : HO → Prop
  | .lst xs => xs.length ≤ sizeLine ∧ ∃ (its : List Value) (n : Nat), Vals xs its ∧ h.get? a = some { cls := .type "list", data := .seq its.toArray n }
  | .tup xs => xs.length ≤ sizeLine ∧ ∃ its : List Value, Vals xs its ∧ IsTup h a its.toArray
  | .dK kvs => kvs.length ≤ sizeLine ∧ (a == sysModules) = false ∧ ∃ vs, KV kvs vs ∧ h.DictOf (mixKind P w) a vs
  | .dT kvs => kvs.length ≤ sizeLine ∧ (a == sysModules) = false ∧ ∃ xs : List (List Key × Addr × Value),
      Paired (fun (p : List Key × V) (q : List Key × Addr × Value) => p.1 = q.1 ∧ H q.2.1 = some (.tup (p.1.map kV)) ∧ RelV p.2 q.2.2) kvs xs ∧
      ∃ o es ep, h.get? a = some o ∧ o.ExactDict ∧ o.data = .dict es ep ∧ es.toList = xs.map (entryOfKey (tupleKind (mixKind P w))) ∧ (xs.map (·.1)).Nodup
  | .set S n => h.SetOf (intKind P w) a S n
  | .ins C dx fs => H dx = some (.own a) ∧ fs.length ≤ 1000 ∧ dx ≠ a ∧ h.get? a = some (PySem.W.instObj C dx) ∧
      ∃ mA, h.Ns1 dx mA ∧ (∀ f, RelO (fs.lookup f) (mA f)) ∧ PySem.Within mA (fs.map (·.1))
  | .own _ => ∃ o, h.get? a = some o
  | .xd fs => ∃ mA, h.Ns1 a mA ∧ ∀ f, RelO (fs.lookup f) (mA f)
  | .rng lo hi => ∃ t u v, h.get? a = some { cls := .type "range", data := .fields #[.int lo t, .int hi u, .int 1 v] }
  | .frz o u => h.get? a = some o ∧ ObjOk H h a u
  | .tbl ps => h.get? a = some { cls := .none, data := .fields ps }
  | .met f x => h.get? a = some (PySem.W.methodObj (.ref f) (.ref x))
  | .ext φ => φ h ∧ (∃ o, h.get? a = some o) ∧ ∀ h1 h2 : Heap, φ h1 → (∀ o, h1.get? a = some o → h2.get? a = some o) → φ h2
/-- the abstract heap is held -/
def HOk (H : Hp) (h : Heap) : Prop := ∀ a o, H a = some o → ObjOk P w H h a o
end

section
variable {P : Program} {w : World} {H H' : Hp} {h h' : Heap} {a : Addr} {o : HO}
theorem ObjOk.lt (x : ObjOk P w H h a o) : a < h.objs.size := by
  cases o with
  | lst xs => obtain ⟨_, _, _, _, e⟩ := x; exact Heap.lt_size e
  | tup xs => obtain ⟨_, _, _, p⟩ := x; exact p.lt
  | dK kvs => obtain ⟨_, _, _, _, o, _, _, e, _⟩ := x; exact Heap.lt_size e
  | dT kvs => obtain ⟨_, _, _, _, o, _, _, e, _⟩ := x; exact Heap.lt_size e
  | set S n => obtain ⟨o, _, _, _, e, _⟩ := x; exact Heap.lt_size e
  | ins C dx fs => obtain ⟨_, _, _, e, _⟩ := x; exact Heap.lt_size e
  | own y => obtain ⟨_, e⟩ := x; exact Heap.lt_size e
  | xd fs => obtain ⟨_, ⟨_, _, _, e, _⟩, _⟩ := x; exact Heap.lt_size e
  | rng lo hi => obtain ⟨_, _, _, e⟩ := x; exact Heap.lt_size e
  | frz ob u => obtain ⟨e, _⟩ := x; exact Heap.lt_size e
  | tbl ps => exact Heap.lt_size (show h.get? a = some _ from x)
  | met f y => exact Heap.lt_size (show h.get? a = some _ from x)
  | ext φ => obtain ⟨_, ⟨_, e⟩, _⟩ := x; exact Heap.lt_size e
theorem Paired.mapP {α β : Type} {F G : α → β → Prop} : ∀ {l₁ : List α} {l₂ : List β}, Paired F l₁ l₂ → (∀ a b, F a b → G a b) → Paired G l₁ l₂
  | _, _, .nil, _ => .nil
  | _, _, .cons r t, f => .cons (f _ _ r) (Paired.mapP t f)
/-- what an object's description leans on: its own object, its own dict, the tuples -/
theorem ObjOk.stay (x : ObjOk P w H h a o) (k : ∀ b u, (b = a ∨ H b = some (.own a)) → h.get? b = some u → h'.get? b = some u)
    (ho : ∀ b, H b = some (.own a) → H' b = some (.own a)) (ht : ∀ b xs, H b = some (.tup xs) → H' b = some (.tup xs)) : ObjOk P w H' h' a o := by
  induction o with
  | lst xs => obtain ⟨z, its, n, r, e⟩ := x; exact ⟨z, its, n, r, k _ _ (.inl rfl) e⟩
  | tup xs => obtain ⟨z, its, r, ob, e, c⟩ := x; exact ⟨z, its, r, ob, k _ _ (.inl rfl) e, c⟩
  | dK kvs => obtain ⟨z, y, vs, r, ob, es, ep, e, c⟩ := x; exact ⟨z, y, vs, r, ob, es, ep, k _ _ (.inl rfl) e, c⟩
  | dT kvs =>
    obtain ⟨z, y, xs, r, ob, es, ep, e, c⟩ := x
    exact ⟨z, y, xs, Paired.mapP r fun p q z => ⟨z.1, ht _ _ z.2.1, z.2.2⟩, ob, es, ep, k _ _ (.inl rfl) e, c⟩
  | set S n => obtain ⟨ob, es, ep, t, e, c⟩ := x; exact ⟨ob, es, ep, t, k _ _ (.inl rfl) e, c⟩
  | ins C dx fs =>
    obtain ⟨d, z, ne, e, mA, ⟨od, es, ep, e2, c⟩, r⟩ := x
    exact ⟨ho _ d, z, ne, k _ _ (.inl rfl) e, mA, ⟨od, es, ep, k _ _ (.inr d) e2, c⟩, r⟩
  | own y => obtain ⟨ob, e⟩ := x; exact ⟨ob, k _ _ (.inl rfl) e⟩
  | xd fs => obtain ⟨mA, ⟨od, es, ep, e, c⟩, r⟩ := x; exact ⟨mA, ⟨od, es, ep, k _ _ (.inl rfl) e, c⟩, r⟩
  | rng lo hi => obtain ⟨t, u, v, e⟩ := x; exact ⟨t, u, v, k _ _ (.inl rfl) e⟩
  | frz ob u ih => obtain ⟨e, q⟩ := x; exact ⟨k _ _ (.inl rfl) e, ih q⟩
  | tbl ps =>
    have e : h.get? a = some { cls := .none, data := .fields ps } := x
    show h'.get? a = some { cls := .none, data := .fields ps }
    exact k a _ (.inl rfl) e
  | met f y =>
    have e : h.get? a = some (PySem.W.methodObj (.ref f) (.ref y)) := x
    show h'.get? a = some (PySem.W.methodObj (.ref f) (.ref y))
    exact k a _ (.inl rfl) e
  | ext φ => obtain ⟨p, ⟨o, e⟩, st⟩ := x; exact ⟨st _ _ p fun o q => k _ _ (.inl rfl) q, ⟨o, k _ _ (.inl rfl) e⟩, st⟩
theorem HOk.lt (x : HOk P w H h) (e : H a = some o) : a < h.objs.size := (x a o e).lt
theorem HOk.fresh (x : HOk P w H h) (e : h.objs.size ≤ a) : H a = none := by
  cases q : H a with
  | none => rfl
  | some u => exact absurd (Nat.lt_of_lt_of_le (x.lt q) e) (Nat.lt_irrefl _)
/-- every object of the heap is kept -/
theorem HOk.kept (x : HOk P w H h) (k : ∀ b u, h.get? b = some u → h'.get? b = some u) : HOk P w H h' := fun a o e =>
  (x a o e).stay (fun b u _ q => k b u q) (fun _ q => q) fun _ _ q => q
/-- a new object is laid and tracked -/
theorem HOk.laid (x : HOk P w H h) (k : ∀ b u, h.get? b = some u → h'.get? b = some u) (hp : h.objs.size ≤ a) (new : ObjOk P w (upd H a o) h' a o) : HOk P w (upd H a o) h' := fun b u e => by
  have hn := x.fresh hp
  by_cases hb : b = a
  · subst hb; rw [upd_same] at e; cases e; exact new
  · rw [upd_ne hb] at e
    exact (x b u e).stay (fun c v _ q => k c v q) (fun c q => by rw [upd_ne (ne_of_none q hn)]; exact q) fun c xs q => by rw [upd_ne (ne_of_none q hn)]; exact q
end

/-- what may be read as u: it is u, or a known u -/
def Rd (H : Hp) (a : Addr) (u : HO) : Prop := H a = some u ∨ ∃ o, H a = some (.frz o u)
theorem Rd.of {H : Hp} {a : Addr} {u : HO} (h : H a = some u) : Rd H a u := .inl h
theorem Rd.ok {P : Program} {w : World} {H : Hp} {h : Heap} {a : Addr} {u : HO} (r : Rd H a u) (x : HOk P w H h) : ObjOk P w H h a u := by
  rcases r with r | ⟨o, r⟩
  · exact x a u r
  · obtain ⟨_, q⟩ := x a _ r
    exact q
/-- what may be written -/
def Mut : Option HO → Prop
  | some (.lst _) => True
  | some (.dK _) => True
  | some (.dT _) => True
  | some (.set _ _) => True
  | some (.ins _ _ _) => True
  | some (.ext _) => True
  | _ => False
section
variable {P : Program} {w : World} {H : Hp} {h h' : Heap} {x e : Addr} {o' : HO}
/-- the object at e is changed: x itself, or the dict of the instance x -/
theorem HOk.write (ok : HOk P w H h) (mu : Mut (H x)) (he : e = x ∨ H e = some (.own x)) (k : ∀ b u, b ≠ e → h.get? b = some u → h'.get? b = some u) (heo : ∃ u, h'.get? e = some u)
    (new : ObjOk P w (upd H x o') h' x o') : HOk P w (upd H x o') h' := fun b u q => by
  have nown : ∀ c y, H c = some (.own y) → c ≠ x := fun c y r z => by subst z; rw [r] at mu; exact mu
  have ntup : ∀ c xs, H c = some (.tup xs) → c ≠ x := fun c xs r z => by subst z; rw [r] at mu; exact mu
  by_cases hb : b = x
  · subst hb; rw [upd_same] at q; cases q; exact new
  · rw [upd_ne hb] at q
    by_cases hbe : b = e
    · have q' : H b = some (.own x) := by
        rcases he with z | z
        · exact absurd (hbe.trans z) hb
        · rw [hbe]; exact z
      rw [q] at q'; cases q'
      obtain ⟨v, hv⟩ := heo
      exact ⟨v, by rw [hbe]; exact hv⟩
    · refine (ok b u q).stay (fun c v hc r => k c v ?_ r) (fun c r => by rw [upd_ne (nown c b r)]; exact r) fun c xs r => by rw [upd_ne (ntup c xs r)]; exact r
      rcases hc with rfl | hc
      · exact hbe
      · rintro rfl
        rcases he with z | z
        · exact nown c b hc z
        · rw [hc] at z; cases z; exact hb rfl
end

/-! ### kept unless tracked; of the frames at fs (the callers') the slots may change (an exception that passes writes there); of the records at ex (iterators) nothing is said -/
structure Un (fs ex : List Addr) (H H' : Hp) (h h' : Heap) : Prop where
  keep : ∀ b o, h.get? b = some o → H b = none → b ∉ fs → b ∉ ex → h'.get? b = some o
  slot : ∀ b o, h.get? b = some o → H b = none → b ∈ fs → b ∉ ex → ∃ sl, h'.get? b = some { o with slots := sl }
  free : ∀ b o, h.get? b = some o → H b = none → b ∉ ex → H' b = none
  there : ∀ b o, h.get? b = some o → b ∉ ex → ∃ o', h'.get? b = some o'
  tups : ∀ b xs, H b = some (.tup xs) → H' b = some (.tup xs)
  frzs : ∀ b o u, H b = some (.frz o u) → H' b = some (.frz o u)
  tbls : ∀ b ps, H b = some (.tbl ps) → ∃ more, H' b = some (.tbl (ps ++ more))
section
variable {fs fs' ex ex' : List Addr} {H H1 H2 : Hp} {h h1 h2 h' : Heap} {a x e : Addr} {o : HO}
theorem Un.any (u : Un fs ex H H1 h h1) {b : Addr} {ob : Obj} (q : h.get? b = some ob) (n : H b = none) (hx : b ∉ ex) : ∃ sl, h1.get? b = some { ob with slots := sl } := by
  by_cases hb : b ∈ fs
  · exact u.slot b ob q n hb hx
  · exact ⟨ob.slots, u.keep b ob q n hb hx⟩
theorem Un.trans (a : Un fs ex H H1 h h1) (b : Un fs ex H1 H2 h1 h2) : Un fs ex H H2 h h2 where
  keep := fun c ob q n hc hx => b.keep c ob (a.keep c ob q n hc hx) (a.free c ob q n hx) hc hx
  slot := fun c ob q n hc hx => by
    obtain ⟨sl, e1⟩ := a.slot c ob q n hc hx
    obtain ⟨sl', e2⟩ := b.slot c _ e1 (a.free c ob q n hx) hc hx
    exact ⟨sl', e2⟩
  free := fun c ob q n hx => by
    obtain ⟨o', e1⟩ := a.there c ob q hx
    exact b.free c o' e1 (a.free c ob q n hx) hx
  there := fun c ob q hx => by
    obtain ⟨o', e1⟩ := a.there c ob q hx
    exact b.there c o' e1 hx
  tups := fun c xs q => b.tups c xs (a.tups c xs q)
  frzs := fun c ob xs q => b.frzs c ob xs (a.frzs c ob xs q)
  tbls := fun c ps q => by
    obtain ⟨m1, e1⟩ := a.tbls c ps q
    obtain ⟨m2, e2⟩ := b.tbls c _ e1
    exact ⟨m1 ++ m2, by rw [e2, Array.append_assoc]⟩
theorem Un.kept (k : ∀ b u, h.get? b = some u → h'.get? b = some u) : Un fs ex H H h h' :=
  ⟨fun b ob q _ _ _ => k b ob q, fun b ob q _ _ _ => ⟨ob.slots, k b ob q⟩, fun _ _ _ n _ => n, fun b ob q _ => ⟨ob, k b ob q⟩, fun _ _ q => q, fun _ _ _ q => q, fun _ ps q => ⟨#[], by rw [q]; simp⟩⟩
theorem Un.refl : Un fs ex H H h h := Un.kept fun _ _ q => q
theorem Un.laid (k : ∀ b u, h.get? b = some u → h'.get? b = some u) (hp : h.objs.size ≤ a) (hn : H a = none) : Un fs ex H (upd H a o) h h' where
  keep := fun b u q _ _ _ => k b u q
  slot := fun b u q _ _ _ => ⟨u.slots, k b u q⟩
  free := fun b u q n _ => by rw [upd_ne (Nat.ne_of_lt (Nat.lt_of_lt_of_le (Heap.lt_size q) hp))]; exact n
  there := fun b u q _ => ⟨u, k b u q⟩
  tups := fun b xs q => by rw [upd_ne (ne_of_none q hn)]; exact q
  frzs := fun b u xs q => by rw [upd_ne (ne_of_none q hn)]; exact q
  tbls := fun b ps q => ⟨#[], by rw [upd_ne (ne_of_none q hn), q]; simp⟩
theorem Un.write (mu : Mut (H x)) (he : e = x ∨ H e = some (.own x)) (k : ∀ b u, b ≠ e → h.get? b = some u → h'.get? b = some u) (heo : ∃ u, h'.get? e = some u) : Un fs ex H (upd H x o) h h' := by
  have hx : ∀ b, H b = none → b ≠ x := fun b n z => by subst z; rw [n] at mu; exact mu
  have hb : ∀ b, H b = none → b ≠ e := fun b n z => by
    subst z
    rcases he with r | r
    · exact hx b n r
    · rw [n] at r; cases r
  have hm : ∀ b u, H b = some u → ¬ Mut (some u) → b ≠ x := fun b u q nm z => by subst z; rw [q] at mu; exact nm mu
  refine ⟨fun b u q n _ _ => k b u (hb b n) q, fun b u q n _ _ => ⟨u.slots, k b u (hb b n) q⟩, fun b u q n _ => by rw [upd_ne (hx b n)]; exact n, fun b u q _ => ?_,
    fun b xs q => by rw [upd_ne (hm b _ q fun z => z)]; exact q, fun b u xs q => by rw [upd_ne (hm b _ q fun z => z)]; exact q, fun b ps q => ⟨#[], by rw [upd_ne (hm b _ q fun z => z), q]; simp⟩⟩
  by_cases hbe : b = e
  · subst hbe; exact heo
  · exact ⟨u, k b u hbe q⟩
theorem Un.mono (u : Un fs ex H H1 h h1) (hs : ∀ b ∈ fs, b ∈ fs') (hx : ∀ b ∈ ex, b ∈ ex') : Un fs' ex' H H1 h h1 :=
  ⟨fun b ob q n hb he => u.keep b ob q n (fun z => hb (hs b z)) fun z => he (hx b z), fun _ _ q n _ he => u.any q n fun z => he (hx _ z), fun b ob q n he => u.free b ob q n fun z => he (hx b z), fun b ob q he => u.there b ob q fun z => he (hx b z), u.tups, u.frzs, u.tbls⟩
end

/-! ### the heap without what is tracked -/
def trk (h : Heap) (H : Hp) : List Addr := (List.range h.objs.size).filter fun a => (H a).isSome
def hidT (h : Heap) (H : Hp) : Heap := PySem.W.hideAll h (trk h H)
theorem hidT_size (h : Heap) (H : Hp) : (hidT h H).objs.size = h.objs.size := PySem.W.hideAll_size _ _
theorem hidT_get {h : Heap} {H : Hp} {b : Addr} {o : Obj} (e : h.get? b = some o) (n : H b = none) : (hidT h H).get? b = some o :=
  PySem.W.hideAll_get _ e fun hm => by
    have q : (H b).isSome = true := (List.mem_filter.mp hm).2
    rw [n] at q; simp at q
theorem of_hidT {h : Heap} {H : Hp} {b : Addr} {o : Obj} (e : (hidT h H).get? b = some o) : h.get? b = some o ∧ H b = none := by
  have e' : h.get? b = some o := PySem.W.of_hideAll (trk h H) e
  refine ⟨e', ?_⟩
  cases q : H b with
  | none => rfl
  | some x =>
    have hm : b ∈ trk h H := List.mem_filter.mpr ⟨List.mem_range.mpr (Heap.lt_size e'), by simp [q]⟩
    have z : (hidT h H).get? b = none := PySem.W.hideAll_none (trk h H) hm
    rw [z] at e; cases e

/-! ### OpenK's ledger, filled with every new object but one -/
def allNews (g h : Heap) (L : Addr) : List (Addr × Obj) := (List.range h.objs.size).filterMap fun a => if a = L ∨ (g.get? a).isSome = true then none else (h.get? a).map fun o => (a, o)
def rest (g h : Heap) (L d : Addr) : List (Addr × Obj) := (allNews g h L).filter fun p => decide (p.1 ≠ d)
end L2

namespace L2
open PySem PySem.Spec PyProof.Rows

/-- the module's facts, over the base: the heap at the law's entry without what is tracked there -/
structure Mod (K : PySem.W.Frag) (mg : Str → Option Value) (base : Heap) : Prop where
  kin : K.In base
  glob : base.Ns mainGlobals mg
  blt : ∃ mb, base.Ns builtinsNs mb ∧ ∀ x : Str, x ≠ "__name__" → mb x = bootBuiltins x
  nolimit : base.NoLimit

/-- the context: a def's body (or a comprehension's block) running. base: fixed through the whole law; s₀, H₀: the entry; outer: the frames whose slots others may change (a def's callers); stack: all frames that run;
   ex: iterators that were made ahead of the entry and are walked here (a comprehension's); fn: the names whose cells were made at the entry (a def: all; a comprehension's block: its own); calm: not within an except suite; pn: pins that every state bears; xe: what is wanted of an exception that leaves the code -/
structure Cx where
  prog : Program
  w : World
  K : PySem.W.Frag
  mg : Str → Option Value
  base : Heap
  A : Around
  N : List Str
  s₀ : Shared
  H₀ : Hp
  env : Env
  outer : List Env
  stack : List Env
  ex : List Addr
  fn : Str → Bool
  calm : Bool
  pn : List (Addr × Obj)
  xe : Value → Shared → Prop
/-- the callers' frames -/
def frs (l : List Env) : List Addr := l.filterMap (·.frame)
abbrev Cx.fs (X : Cx) : List Addr := frs X.outer

def Vis (sc : Scope) (x : Str) : Prop := sc.names.lookup x = some .local ∨ sc.names.lookup x = some .cell ∨ sc.names.lookup x = some .free
def Loc (sc : Scope) (x : Str) : Prop := sc.names.lookup x = some .local ∨ sc.names.lookup x = some .cell
def Look (env : Env) (h : Heap) (m : Str → Option Value) (x : Str) (u : Value) : Prop :=
  (env.kindOf x = some .local ∧ m x = some u) ∨ ((env.kindOf x = some .cell ∨ env.kindOf x = some .free) ∧ ∃ c, env.cells.lookup x = some c ∧ h.IsCell c (some u))

structure Cx.Ok (X : Cx) : Prop where
  mod : Mod X.K X.mg X.base
  kind : X.env.scope.kind = .function
  glob : X.env.globals = mainGlobals
  blt : X.env.builtins = builtinsNs
  above : X.s₀.heap.objs.size ≤ X.env.locals
  inj : ∀ x y c, X.env.cells.lookup x = some c → X.env.cells.lookup y = some c → x = y
  has : ∀ x, (X.env.kindOf x = some .cell ∨ X.env.kindOf x = some .free) → ∃ c, X.env.cells.lookup x = some c
  cab : ∀ x c, X.fn x = true → X.env.cells.lookup x = some c → X.s₀.heap.objs.size ≤ c
  hd : X.calm = true → X.A.handled = none
  frames : X.A.frames = some X.stack
  stk : X.stack = X.outer ∨ (X.stack = X.env :: X.outer ∧ X.env.frame = some X.env.locals)
  exf : ∀ b ∈ X.ex, b ≠ X.env.locals ∧ ∀ x c, X.env.cells.lookup x = some c → c ≠ b
  bs : ∀ b o, X.base.get? b = some o → X.s₀.heap.get? b = some o ∧ X.H₀ b = none
  bsz : X.base.objs.size ≤ X.s₀.heap.objs.size
  noex : ∀ b o, X.base.get? b = some o → b ∉ X.ex
  exfs : ∀ b ∈ X.ex, b ∉ X.fs
  funs : X.s₀.heap.FunFrames X.base X.outer
  frf : ∀ b ∈ X.fs, X.H₀ b = none

structure Inv (X : Cx) (pins : List (Addr × Obj)) (σ : List (Option V)) (H : Hp) (s : Shared) : Prop where
  ok : X.Ok
  os : s.os = X.s₀.os
  bare : AllBare s.gens
  base : Un X.fs X.ex X.H₀ H X.s₀.heap s.heap
  loc : ∃ m, s.heap.Ns X.env.locals m ∧ ∀ (i : Nat) (x : Str) (v : V), X.N[i]? = some x → σ[i]? = some (some v) → Vis X.env.scope x → ∃ u, RelV v u ∧ Look X.env s.heap m x u
  cell : ∀ x c, X.env.cells.lookup x = some c → ∃ v, s.heap.IsCell c v
  free : H X.env.locals = none
  freeC : ∀ x c, X.env.cells.lookup x = some c → H c = none
  pin : ∀ p ∈ X.pn ++ pins, s.heap.get? p.1 = some p.2 ∧ H p.1 = none ∧ p.1 ≠ X.env.locals ∧ p.1 ∉ X.fs ∧ ∀ v, p.2.data ≠ .cell v
  hok : HOk X.prog X.w H s.heap
  len : σ.length = X.N.length

section
variable {X : Cx} {pins : List (Addr × Obj)} {σ : List (Option V)} {H H' : Hp} {s : Shared} {h' : Heap}

theorem Cx.Ok.nofr (ok : X.Ok) {b : Addr} {o : Obj} (e : X.base.get? b = some o) : b ∉ X.fs := fun hb => by
  have := (ok.funs.mem hb).1
  rw [e] at this; cases this
theorem Inv.bs (I : Inv X pins σ H s) : ∀ b o, X.base.get? b = some o → s.heap.get? b = some o ∧ H b = none := fun b o e =>
  ⟨I.base.keep b o (I.ok.bs b o e).1 (I.ok.bs b o e).2 (I.ok.nofr e) (I.ok.noex b o e), I.base.free b o (I.ok.bs b o e).1 (I.ok.bs b o e).2 (I.ok.noex b o e)⟩
theorem Inv.bk (I : Inv X pins σ H s) : ∀ b o, X.base.get? b = some o → s.heap.get? b = some o := fun b o e => (I.bs b o e).1
theorem Inv.mod (I : Inv X pins σ H s) : Mod X.K X.mg X.base := I.ok.mod
theorem Inv.kIn (I : Inv X pins σ H s) : X.K.In s.heap := I.ok.mod.kin.keeps I.bk
theorem Inv.nolimit (I : Inv X pins σ H s) : s.heap.NoLimit := I.ok.mod.nolimit.keeps I.bk
/-- the frame over the base: for OpenK's rules (K.In X.base is I.mod.kin) -/
theorem Inv.fr (I : Inv X pins σ H s) : ∃ m, Fr X.base X.env.locals s.heap m :=
  let ⟨m, hn, _⟩ := I.loc
  ⟨m, hn, I.bk, Nat.le_trans I.ok.bsz I.ok.above⟩
theorem Inv.lt (I : Inv X pins σ H s) : X.env.locals < s.heap.objs.size := let ⟨_, hn, _⟩ := I.loc; hn.lt
theorem Inv.sz (I : Inv X pins σ H s) : X.s₀.heap.objs.size ≤ s.heap.objs.size := Nat.le_trans I.ok.above (Nat.le_of_lt I.lt)
theorem Inv.nofs (I : Inv X pins σ H s) {a : Addr} (h : s.heap.objs.size ≤ a) : a ∉ X.fs := fun hb => by
  obtain ⟨_, o, ho, _⟩ := I.ok.funs.mem hb
  exact absurd (Nat.lt_of_lt_of_le (Heap.lt_size ho) (Nat.le_trans I.sz h)) (Nat.lt_irrefl _)
theorem Inv.cne (I : Inv X pins σ H s) : ∀ x c, X.env.cells.lookup x = some c → c ≠ X.env.locals := fun x c e z => by
  obtain ⟨v, o, ho, hd⟩ := I.cell x c e
  obtain ⟨m, ⟨o', es, ep, ho', hd', _⟩, _⟩ := I.loc
  rw [z, ho'] at ho; cases ho; rw [hd'] at hd; cases hd
theorem Inv.funs (I : Inv X pins σ H s) : s.heap.FunFrames X.base X.outer := by
  have all : ∀ (l : List Env), (∀ b ∈ frs l, b ∈ X.fs) → X.s₀.heap.FunFrames X.base l → s.heap.FunFrames X.base l := by
    intro l
    induction l with
    | nil => intro _ _; trivial
    | cons env r ih =>
      intro hs hl
      obtain ⟨hk, ⟨L, o, hf, hn, ho, hd⟩, hr⟩ := hl
      have hL : L ∈ X.fs := hs L (by unfold frs; rw [List.filterMap_cons, hf]; exact List.mem_cons_self)
      obtain ⟨sl, e⟩ := I.base.slot L o ho (I.ok.frf L hL) hL fun z => I.ok.exfs L z hL
      exact ⟨hk, ⟨L, _, hf, hn, e, hd⟩, ih (fun b hb => hs b (by unfold frs; rw [List.filterMap_cons, hf]; exact List.mem_cons_of_mem _ hb)) hr⟩
  exact all X.outer (fun _ hb => hb) I.ok.funs

/-- the frames that run, for a call -/
theorem Inv.stack (I : Inv X pins σ H s) : s.heap.FunFrames X.base X.stack := by
  rcases I.ok.stk with e | ⟨e, hf⟩
  · rw [e]; exact I.funs
  · rw [e]
    obtain ⟨m, hn, _⟩ := I.loc
    refine .cons (by rw [I.ok.kind]; decide) hf hn ?_ I.funs
    exact Heap.get?_none_of_le (Nat.le_trans I.ok.bsz I.ok.above)
theorem Inv.stkSub (I : Inv X pins σ H s) : ∀ b ∈ frs X.stack, b ∈ X.env.locals :: X.fs := fun b hb => by
  rcases I.ok.stk with e | ⟨e, hf⟩
  · rw [e] at hb; exact List.mem_cons_of_mem _ hb
  · rw [e] at hb
    unfold frs at hb
    rw [List.filterMap_cons, hf] at hb
    exact hb
theorem Inv.stkFree (I : Inv X pins σ H s) : ∀ b ∈ frs X.stack, H b = none := fun b hb => by
  rcases List.mem_cons.mp (I.stkSub b hb) with e | hb
  · rw [e]; exact I.free
  · obtain ⟨_, o, ho, _⟩ := I.ok.funs.mem hb
    exact I.base.free b o ho (I.ok.frf b hb) fun z => I.ok.exfs b z hb

/-- THE STEP: the untracked objects but the frame and the records at ch are kept (the callers' frames up to slots), the frame's map is kept, the new abstract heap is held -/
theorem Inv.step {g' : Array GenState} {t' : Nat} {d' : Drawn} {ch : List Addr} (I : Inv X pins σ H s)
    (hch : ∀ b ∈ ch, (b ∈ X.ex ∨ X.s₀.heap.objs.size ≤ b) ∧ b ≠ X.env.locals ∧ (∀ x c, X.env.cells.lookup x = some c → c ≠ b) ∧ ∀ p ∈ X.pn ++ pins, p.1 ≠ b)
    (keep : ∀ b o, b ≠ X.env.locals → b ∉ X.fs → b ∉ ch → s.heap.get? b = some o → H b = none → h'.get? b = some o)
    (slot : ∀ b o, b ≠ X.env.locals → b ∈ X.fs → b ∉ ch → s.heap.get? b = some o → H b = none → ∃ sl, h'.get? b = some { o with slots := sl }) (free : ∀ b o, b ∉ ch → s.heap.get? b = some o → H b = none → H' b = none)
    (there : ∀ b o, b ∉ ch → s.heap.get? b = some o → ∃ o', h'.get? b = some o')
    (tups : ∀ b xs, H b = some (.tup xs) → H' b = some (.tup xs)) (frzs : ∀ b o u, H b = some (.frz o u) → H' b = some (.frz o u)) (tbls : ∀ b ps, H b = some (.tbl ps) → ∃ more, H' b = some (.tbl (ps ++ more)))
    (ns : ∀ m, s.heap.Ns X.env.locals m → h'.Ns X.env.locals m) (hok : HOk X.prog X.w H' h') (hg : AllBare g') :
    Inv X pins σ H' { s with heap := h', gens := g', drawn := d', toks := t' } := by
  have neL : ∀ b o, X.s₀.heap.get? b = some o → b ≠ X.env.locals := fun b o e => Nat.ne_of_lt (Nat.lt_of_lt_of_le (Heap.lt_size e) I.ok.above)
  have neC : ∀ b o, X.s₀.heap.get? b = some o → b ∉ X.ex → b ∉ ch := fun b o e hx hb => by
    rcases (hch b hb).1 with z | z
    · exact hx z
    · exact absurd (Nat.lt_of_lt_of_le (Heap.lt_size e) z) (Nat.lt_irrefl _)
  have cellK : ∀ x c, X.env.cells.lookup x = some c → ∀ v, s.heap.IsCell c v → h'.IsCell c v := fun x c e v ⟨o, ho, hd⟩ => by
    have nch : c ∉ ch := fun z => (hch c z).2.2.1 x c e rfl
    by_cases hc : c ∈ X.fs
    · obtain ⟨sl, q⟩ := slot c o (I.cne x c e) hc nch ho (I.freeC x c e)
      exact ⟨_, q, hd⟩
    · exact ⟨o, keep c o (I.cne x c e) hc nch ho (I.freeC x c e), hd⟩
  refine ⟨I.ok, I.os, hg, ⟨fun b o e n hb hx => ?_, fun b o e n hb hx => ?_, fun b o e n hx => ?_, fun b o e hx => ?_, fun b xs e => tups b xs (I.base.tups b xs e), fun b o xs e => frzs b o xs (I.base.frzs b o xs e), fun b ps e => ?_⟩, ?_, fun x c e => ?_, ?_, fun x c e => ?_, fun p hp => ?_, hok, I.len⟩
  · exact keep b o (neL b o e) hb (neC b o e hx) (I.base.keep b o e n hb hx) (I.base.free b o e n hx)
  · obtain ⟨sl, e1⟩ := I.base.slot b o e n hb hx
    obtain ⟨sl', e2⟩ := slot b _ (neL b o e) hb (neC b o e hx) e1 (I.base.free b o e n hx)
    exact ⟨sl', e2⟩
  · obtain ⟨o', e1⟩ := I.base.there b o e hx
    exact free b o' (neC b o e hx) e1 (I.base.free b o e n hx)
  · obtain ⟨o', e1⟩ := I.base.there b o e hx
    exact there b o' (neC b o e hx) e1
  · obtain ⟨m1, e1⟩ := I.base.tbls b ps e
    obtain ⟨m2, e2⟩ := tbls b _ e1
    exact ⟨m1 ++ m2, by rw [e2, Array.append_assoc]⟩
  · obtain ⟨m, hn, hl⟩ := I.loc
    refine ⟨m, ns m hn, fun i x v e1 e2 e3 => ?_⟩
    obtain ⟨u, r, l⟩ := hl i x v e1 e2 e3
    refine ⟨u, r, ?_⟩
    rcases l with l | ⟨k, c, e, z⟩
    · exact .inl l
    · exact .inr ⟨k, c, e, cellK x c e _ z⟩
  · obtain ⟨v, z⟩ := I.cell x c e
    exact ⟨v, cellK x c e v z⟩
  · obtain ⟨m, ⟨o, _, _, ho, _⟩, _⟩ := I.loc
    exact free _ o (fun z => (hch _ z).2.1 rfl) ho I.free
  · obtain ⟨v, o, ho, hd⟩ := I.cell x c e
    exact free c o (fun z => (hch c z).2.2.1 x c e rfl) ho (I.freeC x c e)
  · obtain ⟨e, n, ne, nf, d⟩ := I.pin p hp
    have nch : p.1 ∉ ch := fun z => (hch p.1 z).2.2.2 p hp rfl
    exact ⟨keep p.1 p.2 ne nf nch e n, free p.1 p.2 nch e n, ne, nf, d⟩
/-- .. where the frame's own object is kept too -/
theorem Inv.un {t' : Nat} (I : Inv X pins σ H s) (u : Un X.fs [] H H' s.heap h') (hok : HOk X.prog X.w H' h') : Inv X pins σ H' { s with heap := h', toks := t' } := by
  obtain ⟨m, ⟨o, es, ep, ho, r⟩, _⟩ := id I.loc
  obtain ⟨sl, hL⟩ := u.any ho I.free (by simp)
  exact I.step (g' := s.gens) (d' := s.drawn) (ch := []) (fun _ z => nomatch z) (fun b o _ hb _ e n => u.keep b o e n hb (by simp)) (fun b o _ hb _ e n => u.slot b o e n hb (by simp)) (fun b o _ e n => u.free b o e n (by simp)) (fun b o _ e => u.there b o e (by simp)) u.tups u.frzs u.tbls (fun m' hm => by
    obtain ⟨o', es', ep', ho', r'⟩ := hm
    rw [ho] at ho'; cases ho'
    exact ⟨_, es', ep', hL, r'⟩) hok I.bare
/-- behind a call (or a comprehension's block): the slots of this frame may have changed too, the records at ch may have turned -/
theorem Inv.call {g' : Array GenState} {t' : Nat} {d' : Drawn} {ch : List Addr} (I : Inv X pins σ H s) (u : Un (frs X.stack) ch H H' s.heap h') (hok : HOk X.prog X.w H' h') (hg : AllBare g')
    (hch : ∀ b ∈ ch, (b ∈ X.ex ∨ X.s₀.heap.objs.size ≤ b) ∧ b ≠ X.env.locals ∧ (∀ x c, X.env.cells.lookup x = some c → c ≠ b) ∧ ∀ p ∈ X.pn ++ pins, p.1 ≠ b) :
    Inv X pins σ H' { s with heap := h', gens := g', drawn := d', toks := t' } := by
  obtain ⟨m, ⟨o, es, ep, ho, r⟩, _⟩ := id I.loc
  obtain ⟨sl, hL⟩ := u.any ho I.free fun z => (hch _ z).2.1 rfl
  exact I.step (ch := ch) hch (fun b o hL hb hc e n => u.keep b o e n (fun z => (List.mem_cons.mp (I.stkSub b z)).elim hL hb) hc) (fun b o _ _ hc e n => u.any e n hc) (fun b o hc e n => u.free b o e n hc) (fun b o hc e => u.there b o e hc) u.tups u.frzs u.tbls (fun m' hm => by
    obtain ⟨o', es', ep', ho', r'⟩ := hm
    rw [ho] at ho'; cases ho'
    exact ⟨_, es', ep', hL, r'⟩) hok hg
/-- an untracked record of ours (an iterator) has turned -/
theorem Inv.turned {t' : Nat} {it : Addr} (I : Inv X pins σ H s) (k : ∀ b o, b ≠ it → s.heap.get? b = some o → h'.get? b = some o) (hn : H it = none) (hL : it ≠ X.env.locals)
    (h1 : it ∈ X.ex ∨ X.s₀.heap.objs.size ≤ it) (h2 : ∀ x c, X.env.cells.lookup x = some c → c ≠ it) (h3 : ∀ p ∈ X.pn ++ pins, p.1 ≠ it) : Inv X pins σ H { s with heap := h', toks := t' } := by
  have nit : ∀ b u, H b = some u → b ≠ it := fun b u e z => by rw [z, hn] at e; cases e
  refine I.step (g' := s.gens) (d' := s.drawn) (ch := [it]) (fun b hb => ?_) (fun b o _ _ hc e _ => k b o (fun z => hc (by simp [z])) e) (fun b o _ _ hc e _ => ⟨o.slots, k b o (fun z => hc (by simp [z])) e⟩) (fun _ _ _ _ n => n)
    (fun b o hc e => ⟨o, k b o (fun z => hc (by simp [z])) e⟩) (fun _ _ e => e) (fun _ _ _ e => e) (fun b ps e => ⟨#[], by rw [e]; simp⟩) (fun m hm => ?_) (fun b u e => ?_) I.bare
  · have e : b = it := by simpa using hb
    subst e
    exact ⟨h1, hL, h2, h3⟩
  · obtain ⟨o, es, ep, ho, r⟩ := hm
    exact ⟨o, es, ep, k _ o (Ne.symm hL) ho, r⟩
  · refine (I.hok b u e).stay (fun c v hc q => k c v ?_ q) (fun _ q => q) fun _ _ q => q
    rcases hc with z | z
    · rw [z]; exact nit b u e
    · exact nit c _ z
theorem Inv.tok (I : Inv X pins σ H s) (t : Nat) : Inv X pins σ H { s with toks := t } := I.un (h' := s.heap) (t' := t) Un.refl I.hok
/-- all objects kept -/
theorem Inv.kept {t' : Nat} (I : Inv X pins σ H s) (k : ∀ b u, s.heap.get? b = some u → h'.get? b = some u) : Inv X pins σ H { s with heap := h', toks := t' } := I.un (Un.kept k) (I.hok.kept k)
/-- a new object laid and tracked -/
theorem Inv.laid {a : Addr} {o : HO} {t' : Nat} (I : Inv X pins σ H s) (k : ∀ b u, s.heap.get? b = some u → h'.get? b = some u) (hp : s.heap.objs.size ≤ a) (new : ObjOk X.prog X.w (upd H a o) h' a o) :
    Inv X pins σ (upd H a o) { s with heap := h', toks := t' } := I.un (Un.laid k hp (I.hok.fresh hp)) (I.hok.laid k hp new)
/-- an object written -/
theorem Inv.write {x e : Addr} {o : HO} {t' : Nat} (I : Inv X pins σ H s) (mu : Mut (H x)) (he : e = x ∨ H e = some (.own x)) (k : ∀ b u, b ≠ e → s.heap.get? b = some u → h'.get? b = some u) (heo : ∃ u, h'.get? e = some u)
    (new : ObjOk X.prog X.w (upd H x o) h' x o) : Inv X pins σ (upd H x o) { s with heap := h', toks := t' } := I.un (Un.write mu he k heo) (I.hok.write mu he k heo new)
/-- forgetting slots, pins -/
theorem Inv.weak {σ' : List (Option V)} (I : Inv X pins σ H s) (hl : σ'.length = σ.length) (w : ∀ (i : Nat) v, σ'[i]? = some (some v) → σ[i]? = some (some v)) : Inv X pins σ' H s :=
  ⟨I.ok, I.os, I.bare, I.base, let ⟨m, hn, hl'⟩ := I.loc; ⟨m, hn, fun i x v e1 e2 e3 => hl' i x v e1 (w i v e2) e3⟩, I.cell, I.free, I.freeC, I.pin, I.hok, hl.trans I.len⟩
theorem Inv.pins_of {pins' : List (Addr × Obj)} (I : Inv X pins σ H s) (h : ∀ p ∈ pins', s.heap.get? p.1 = some p.2 ∧ H p.1 = none ∧ p.1 ≠ X.env.locals ∧ p.1 ∉ X.fs ∧ ∀ v, p.2.data ≠ .cell v) : Inv X pins' σ H s :=
  ⟨I.ok, I.os, I.bare, I.base, I.loc, I.cell, I.free, I.freeC, fun p hp => (List.mem_append.mp hp).elim (fun z => I.pin p (List.mem_append_left _ z)) (h p), I.hok, I.len⟩

theorem nodup_ix {N : List Str} (hN : N.Nodup) {i j : Nat} {x : Str} (a : N[i]? = some x) (b : N[j]? = some x) : i = j := by
  obtain ⟨h1, e1⟩ := List.getElem?_eq_some_iff.mp a
  obtain ⟨h2, e2⟩ := List.getElem?_eq_some_iff.mp b
  exact (List.getElem_inj hN).mp (e1.trans e2.symm)

/-- a name is stored; what changed -/
theorem store_ok2 {M : Model} {A : Around} {E : Value → Shared → Prop} {i : Nat} {x : Str} {v : V} {u : Value} {Q : Unit → Shared → Prop} (I : Inv X pins σ H s) (hN : X.N.Nodup) (hi : X.N[i]? = some x) (hx : Loc X.env.scope x) (r : RelV v u)
    (h : ∀ s', Inv X pins (σ.set i (some v)) H s' → (∃ a, Heap.SameBut a s.heap s'.heap ∧ (a = X.env.locals ∨ X.env.cells.lookup x = some a)) → Q () s') (hf : X.fn x = true ∨ X.env.scope.names.lookup x = some .local := by first | exact .inl rfl | exact .inr rfl | assumption) : wpAny M A (storeName X.env x u) Q E s := by
  obtain ⟨m, hn, hl⟩ := id I.loc
  have hcls : (X.env.scope.kind == .class || (X.env.scope.kind == .module && X.env.locals != X.env.globals)) = false := by rw [I.ok.kind]; rfl
  have hiσ : i < σ.length := by rw [I.len]; exact (List.getElem?_eq_some_iff.mp hi).1
  have cne := I.cne
  have tracked : ∀ {a : Addr} {h' : Heap}, (∃ o, s.heap.get? a = some o ∧ H a = none) → Heap.SameBut a s.heap h' → HOk X.prog X.w H h' := fun {a h'} ha hs b ob e => by
    obtain ⟨_, _, hfree⟩ := ha
    refine (I.hok b ob e).stay (fun c w' hc q => (hs.2 c ?_).trans q) (fun _ q => q) fun _ _ q => q
    rintro rfl
    rcases hc with rfl | hc
    · rw [hfree] at e; cases e
    · rw [hfree] at hc; cases hc
  rcases hx with hk | hk
  · refine wpAny_storeName_local hk hn (fun h' hn' hs => ?_) hcls
    obtain ⟨oL, _, _, hoL, _⟩ := id hn
    refine h _ ⟨I.ok, I.os, I.bare, ⟨fun b o e n hb hx => ?_, fun b o e n hb hx => ?_, I.base.free, fun b o e hx => ?_, I.base.tups, I.base.frzs, I.base.tbls⟩, ⟨_, hn', fun j y v' e1 e2 e3 => ?_⟩, fun y c e => ?_, I.free, I.freeC, fun p hp => ?_, tracked ⟨oL, hoL, I.free⟩ hs, by simpa using I.len⟩ ⟨_, hs, .inl rfl⟩
    · exact (hs.2 b (Nat.ne_of_lt (Nat.lt_of_lt_of_le (Heap.lt_size e) I.ok.above))).trans (I.base.keep b o e n hb hx)
    · obtain ⟨sl, e1⟩ := I.base.slot b o e n hb hx
      exact ⟨sl, (hs.2 b (Nat.ne_of_lt (Nat.lt_of_lt_of_le (Heap.lt_size e) I.ok.above))).trans e1⟩
    · obtain ⟨o', e1⟩ := I.base.there b o e hx
      exact ⟨o', (hs.2 b (Nat.ne_of_lt (Nat.lt_of_lt_of_le (Heap.lt_size e) I.ok.above))).trans e1⟩
    · by_cases hj : j = i
      · subst hj
        rw [hi] at e1; cases e1
        rw [List.getElem?_set_self hiσ] at e2
        cases e2
        exact ⟨u, r, .inl ⟨hk, by simp⟩⟩
      · rw [List.getElem?_set_ne (Ne.symm hj)] at e2
        obtain ⟨u', r', q⟩ := hl j y v' e1 e2 e3
        refine ⟨u', r', ?_⟩
        rcases q with ⟨k, e⟩ | ⟨k, c, e, z⟩
        · refine .inl ⟨k, ?_⟩
          have : y ≠ x := fun e => hj (nodup_ix hN e1 (e ▸ hi))
          simp [this, e]
        · exact .inr ⟨k, c, e, z.sameBut hs (cne y c e)⟩
    · obtain ⟨w', z⟩ := I.cell y c e
      exact ⟨w', z.sameBut hs (cne y c e)⟩
    · obtain ⟨e, n, ne, nf, d⟩ := I.pin p hp
      exact ⟨(hs.2 p.1 ne).trans e, n, ne, nf, d⟩
  · have hfn : X.fn x = true := by
      rcases hf with z | z
      · exact z
      · rw [z] at hk; cases hk
    obtain ⟨c, hc⟩ := I.ok.has x (.inl hk)
    obtain ⟨w', z⟩ := I.cell x c hc
    refine wpAny_storeName_cell I.ok.kind hk hc z (fun h' hc' hs => ?_)
    obtain ⟨oc, hoc, hocd⟩ := id z
    refine h { s with heap := h' } ⟨I.ok, I.os, I.bare, ⟨fun b o e n hb hx => ?_, fun b o e n hb hx => ?_, I.base.free, fun b o e hx => ?_, I.base.tups, I.base.frzs, I.base.tbls⟩, ⟨m, hn.sameBut hs (Ne.symm (cne x c hc)), fun j y v' e1 e2 e3 => ?_⟩, fun y c' e => ?_, I.free, I.freeC, fun p hp => ?_, tracked ⟨oc, hoc, I.freeC x c hc⟩ hs, by simpa using I.len⟩ ⟨c, hs, .inr hc⟩
    · exact (hs.2 b (Nat.ne_of_lt (Nat.lt_of_lt_of_le (Heap.lt_size e) (I.ok.cab x c hfn hc)))).trans (I.base.keep b o e n hb hx)
    · obtain ⟨sl, e1⟩ := I.base.slot b o e n hb hx
      exact ⟨sl, (hs.2 b (Nat.ne_of_lt (Nat.lt_of_lt_of_le (Heap.lt_size e) (I.ok.cab x c hfn hc)))).trans e1⟩
    · obtain ⟨o', e1⟩ := I.base.there b o e hx
      exact ⟨o', (hs.2 b (Nat.ne_of_lt (Nat.lt_of_lt_of_le (Heap.lt_size e) (I.ok.cab x c hfn hc)))).trans e1⟩
    · by_cases hj : j = i
      · subst hj
        rw [hi] at e1; cases e1
        rw [List.getElem?_set_self hiσ] at e2
        cases e2
        exact ⟨u, r, .inr ⟨.inl hk, c, hc, hc'⟩⟩
      · rw [List.getElem?_set_ne (Ne.symm hj)] at e2
        obtain ⟨u', r', q⟩ := hl j y v' e1 e2 e3
        refine ⟨u', r', ?_⟩
        rcases q with q | ⟨k, c', e, z'⟩
        · exact .inl q
        · refine .inr ⟨k, c', e, z'.sameBut hs ?_⟩
          rintro rfl
          exact hj (nodup_ix hN e1 (I.ok.inj _ _ _ e hc ▸ hi))
    · by_cases hcc : c' = c
      · subst hcc; exact ⟨_, hc'⟩
      · obtain ⟨w2, z2⟩ := I.cell y c' e
        exact ⟨w2, z2.sameBut hs hcc⟩
    · obtain ⟨e, n, ne, nf, d⟩ := I.pin p hp
      refine ⟨(hs.2 p.1 ?_).trans e, n, ne, nf, d⟩
      intro q
      rw [q, hoc] at e
      have q' : oc = p.2 := Option.some.inj e
      exact d w' (by rw [← q']; exact hocd)
theorem store_ok {M : Model} {A : Around} {E : Value → Shared → Prop} {i : Nat} {x : Str} {v : V} {u : Value} {Q : Unit → Shared → Prop} (I : Inv X pins σ H s) (hN : X.N.Nodup) (hi : X.N[i]? = some x) (hx : Loc X.env.scope x) (r : RelV v u)
    (h : ∀ s', Inv X pins (σ.set i (some v)) H s' → Q () s') (hf : X.fn x = true ∨ X.env.scope.names.lookup x = some .local := by first | exact .inl rfl | exact .inr rfl | assumption) : wpAny M A (storeName X.env x u) Q E s :=
  store_ok2 I hN hi hx r (fun s' I' _ => h s' I') hf
/-- behind a call or a block, the state as it is -/
theorem Inv.call' {s' : Shared} {ch : List Addr} (I : Inv X pins σ H s) (ho : s'.os = s.os) (u : Un (frs X.stack) ch H H' s.heap s'.heap) (hok : HOk X.prog X.w H' s'.heap) (hg : AllBare s'.gens)
    (hch : ∀ b ∈ ch, (b ∈ X.ex ∨ X.s₀.heap.objs.size ≤ b) ∧ b ≠ X.env.locals ∧ (∀ x c, X.env.cells.lookup x = some c → c ≠ b) ∧ ∀ p ∈ X.pn ++ pins, p.1 ≠ b) : Inv X pins σ H' s' := by
  obtain ⟨h', g', d', t', o'⟩ := s'
  have e : o' = s.os := ho
  subst e
  exact I.call (g' := g') (t' := t') (d' := d') u hok hg hch
end

/-! ### the judgements -/
/-- an exception: its class, its own dict's address (where it has one), the abstract heap behind it -/
abbrev XK := Value → Option Addr → Hp → Prop
abbrev St := List (Option V)
abbrev VK := V → Hp → Prop
/-- an expression's reading; a test's; an argument list's -/
abbrev TE := St → Hp → VK → Prop
abbrev TT := St → Hp → (Bool → Hp → Prop) → Prop
abbrev TA := St → Hp → (List V → Hp → Prop) → Prop
/-- what is wanted behind a statement -/
structure Ends where
  nx : St → Hp → Prop
  rt : VK
  bk : St → Hp → Prop := fun _ _ => False
  ct : St → Hp → Prop := fun _ _ => False
abbrev TS := Ends → St → Hp → Prop

def EP (X : Cx) (pins : List (Addr × Obj)) (σ : St) (Q : VK) (u : Value) (s' : Shared) : Prop := ∃ v H', Inv X pins σ H' s' ∧ RelV v u ∧ Q v H'
def TP (X : Cx) (pins : List (Addr × Obj)) (σ : St) (Q : Bool → Hp → Prop) (b : Bool) (s' : Shared) : Prop := ∃ H', Inv X pins σ H' s' ∧ Q b H'
def AP (X : Cx) (pins : List (Addr × Obj)) (σ : St) (Q : List V → Hp → Prop) (us : List Value) (s' : Shared) : Prop := ∃ vs H', Inv X pins σ H' s' ∧ Vals vs us ∧ Q vs H'
def SP (X : Cx) (pins : List (Addr × Obj)) (D : Ends) (f : Flow) (s' : Shared) : Prop :=
  match f with
  | .next => ∃ σ' H', Inv X pins σ' H' s' ∧ D.nx σ' H'
  | .brk => ∃ σ' H', Inv X pins σ' H' s' ∧ D.bk σ' H'
  | .cont => ∃ σ' H', Inv X pins σ' H' s' ∧ D.ct σ' H'
  | .ret u => ∃ v σ' H', Inv X pins σ' H' s' ∧ RelV v u ∧ D.rt v H'

def PE (X : Cx) (e : Expr) (t : TE) : Prop :=
  ∀ (pins : List (Addr × Obj)) (s : Shared) (σ : St) (H : Hp) (Q : VK), Inv X pins σ H s → t σ H Q → wpAny (model X.prog X.w) X.A (eval e X.env) (EP X pins σ Q) X.xe s
def PT (X : Cx) (e : Expr) (t : TT) : Prop :=
  ∀ (pins : List (Addr × Obj)) (s : Shared) (σ : St) (H : Hp) (Q : Bool → Hp → Prop), Inv X pins σ H s → t σ H Q → wpAny (model X.prog X.w) X.A (isTrue e X.env (eval e X.env)) (TP X pins σ Q) X.xe s
/-- a test whatever its 'whole' is (and, or) -/
def PW (X : Cx) (e : Expr) (t : TT) : Prop :=
  ∀ (whole : Sem Value) (pins : List (Addr × Obj)) (s : Shared) (σ : St) (H : Hp) (Q : Bool → Hp → Prop), Inv X pins σ H s → t σ H Q → wpAny (model X.prog X.w) X.A (isTrue e X.env whole) (TP X pins σ Q) X.xe s
theorem PW.pt {X : Cx} {e : Expr} {t : TT} (h : PW X e t) : PT X e t := h _
/-- an argument list (no star), from the left -/
def PA (X : Cx) (es : List Expr) (t : TA) : Prop :=
  ∀ (pos : Pos) (pins : List (Addr × Obj)) (s : Shared) (σ : St) (H : Hp) (Q : List V → Hp → Prop), Inv X pins σ H s → t σ H Q → wpAny (model X.prog X.w) X.A (spliced (backTo pos (starEach es X.env))) (AP X pins σ Q) X.xe s
def PS (X : Cx) (st : Stmt) (t : TS) : Prop :=
  ∀ (pins : List (Addr × Obj)) (s : Shared) (σ : St) (H : Hp) (D : Ends), Inv X pins σ H s → t D σ H → wpAny (model X.prog X.w) X.A (exec st X.env) (SP X pins D) X.xe s
def PSs (X : Cx) (st : List Stmt) (t : TS) : Prop :=
  ∀ (pins : List (Addr × Obj)) (s : Shared) (σ : St) (H : Hp) (D : Ends), Inv X pins σ H s → t D σ H → wpAny (model X.prog X.w) X.A (execs st X.env) (SP X pins D) X.xe s
/-- weaken the end -/
theorem thn {α : Type} {t : Sem α} {Q Q' : α → Shared → Prop} {M : Model} {A : Around} {E : Value → Shared → Prop} {s : Shared} (h : wpAny M A t Q E s) (hQ : ∀ a s, Q a s → Q' a s) : wpAny M A t Q' E s := wpAny_mono h hQ fun _ _ x => x
end L2

namespace L2
open PySem PySem.Spec PyProof.Rows
section
variable {X : Cx}

/-- two expressions in a row -/
theorem bin {a b : Expr} {ta tb : TE} (ha : PE X a ta) (hb : PE X b tb) {pins : List (Addr × Obj)} {s : Shared} {σ : St} {H : Hp} {R : V → V → Hp → Prop} (I : Inv X pins σ H s) (h : ta σ H fun x H1 => tb σ H1 fun y H2 => R x y H2)
    {α : Type} {Q : α → Shared → Prop} {f : Value → Value → Sem α}
    (hf : ∀ v u s2 x y H2, Inv X pins σ H2 s2 → RelV x v → RelV y u → R x y H2 → wpAny (model X.prog X.w) X.A (f v u) Q X.xe s2) :
    wpAny (model X.prog X.w) X.A (eval a X.env) (fun v s₁ => wpAny (model X.prog X.w) X.A (eval b X.env) (fun u s₂ => wpAny (model X.prog X.w) X.A (f v u) Q X.xe s₂) X.xe s₁) X.xe s := by
  refine thn (ha pins s σ H _ I h) fun v s1 ⟨x, H1, I1, r1, q1⟩ => ?_
  refine thn (hb pins s1 σ H1 _ I1 q1) fun u s2 ⟨y, H2, I2, r2, q2⟩ => ?_
  exact hf v u s2 x y H2 I2 r1 r2 q2

/-! ### names and constants -/
def tVar (i : Nat) : TE := fun σ H Q => ∃ v, σ[i]? = some (some v) ∧ Q v H
def tC (v : V) : TE := fun _ H Q => Q v H
theorem pe_var {i : Nat} {x : Str} {pos : Pos} (hN : X.N[i]? = some x) (hv : Vis X.env.scope x) (hd : (x == ("__debug__" : Str)) = false := by decide) (hcd : (x == ("__classdict__" : Str)) = false := by decide) : PE X (.Name x pos) (tVar i) := by
  intro pins s σ H Q I h
  obtain ⟨v, e, h⟩ := h
  obtain ⟨m, hn, hl⟩ := I.loc
  obtain ⟨u, r, l⟩ := hl i x v hN e hv
  have fin : EP X pins σ Q u s := ⟨v, H, I, r, h⟩
  rcases l with ⟨hk, hm⟩ | ⟨hk, c, hc, hcell⟩
  · exact wpAny_Name (wpAny_loadName_local I.ok.kind hk hn hm fin) hd
  · rcases hk with hk | hk
    · exact wpAny_Name (wpAny_loadName_cell I.ok.kind hk hc hcell fin) hd
    · exact wpAny_Name (wpAny_loadName_free I.ok.kind hk hc hcell fin hcd) hd
theorem pe_int {i j pos} : PE X (.Constant (.int i) j pos) (tC (.int i)) := fun _ _ _ H _ I h => wpAny_Constant_int ⟨.int i, H, I.tok _, ⟨_, rfl⟩, h⟩
theorem pe_bl {b j pos} : PE X (.Constant (.bool b) j pos) (tC (.bl b)) := fun _ _ _ H _ I h => Constant_bool ⟨.bl b, H, I, rfl, h⟩
theorem pe_str {x j pos} : PE X (.Constant (.str x) j pos) (tC (.str x)) := fun _ _ _ H _ I h => Calls.Constant_str ⟨.str x, H, I.tok _, ⟨_, rfl⟩, h⟩

/-- a global name of the def -/
def Gl (X : Cx) (x : Str) : Prop := X.env.kindOf x = some .globalImplicit
theorem ld_glob {E : Value → Shared → Prop} {pins : List (Addr × Obj)} {s : Shared} {σ : St} {H : Hp} {x : Str} {u : Value} {pos : Pos} {Q : Value → Shared → Prop} (I : Inv X pins σ H s) (hg : Gl X x) (hm : X.mg x = some u) (h : Q u s)
    (hd : (x == ("__debug__" : Str)) = false := by decide) : wpAny (model X.prog X.w) X.A (eval (.Name x pos) X.env) Q E s :=
  Calls.Name_function_global I.ok.kind hg (Calls.loadGlobal_global (by rw [I.ok.glob]; exact I.mod.glob.keeps I.bk) hm h) hd
theorem ld_blt {E : Value → Shared → Prop} {pins : List (Addr × Obj)} {s : Shared} {σ : St} {H : Hp} {x : Str} {u : Value} {pos : Pos} {Q : Value → Shared → Prop} (I : Inv X pins σ H s) (hg : Gl X x) (hm : X.mg x = none) (hv : bootBuiltins x = some u) (h : Q u s)
    (hn : x ≠ "__name__" := by decide) (hd : (x == ("__debug__" : Str)) = false := by decide) : wpAny (model X.prog X.w) X.A (eval (.Name x pos) X.env) Q E s := by
  obtain ⟨mb, h1, h2⟩ := I.mod.blt
  exact Calls.Name_function_global I.ok.kind hg (Calls.loadGlobal_builtin (by rw [I.ok.glob]; exact I.mod.glob.keeps I.bk) hm (by rw [I.ok.blt]; exact h1.keeps I.bk) ((h2 x hn).trans hv) h) hd
/-- a module's constant, a class, a function, as a value -/
theorem pe_glob {x : Str} {v : V} {u : Value} {pos : Pos} (hg : Gl X x) (hm : X.mg x = some u) (r : RelV v u) (hd : (x == ("__debug__" : Str)) = false := by decide) : PE X (.Name x pos) (tC v) :=
  fun _ _ _ H _ I h => ld_glob I hg hm ⟨v, H, I, r, h⟩ hd
theorem pe_bltn {x : Str} {v : V} {u : Value} {pos : Pos} (hg : Gl X x) (hm : X.mg x = none) (hv : bootBuiltins x = some u) (r : RelV v u) (hn : x ≠ "__name__" := by decide) (hd : (x == ("__debug__" : Str)) = false := by decide) : PE X (.Name x pos) (tC v) :=
  fun _ _ _ H _ I h => ld_blt I hg hm hv ⟨v, H, I, r, h⟩ hn hd

/-! ### arithmetic -/
/-- two ints -/
def t2I (ta tb : TE) (k : Int → Int → Hp → Prop) : St → Hp → Prop := fun σ H => ta σ H fun x H1 => tb σ H1 fun y H2 => ∃ i j, x = .int i ∧ y = .int j ∧ k i j H2
def tAdd (ta tb : TE) : TE := fun σ H Q => t2I ta tb (fun i j H2 => Q (.int (i + j)) H2) σ H
def tSub (ta tb : TE) : TE := fun σ H Q => t2I ta tb (fun i j H2 => Q (.int (i - j)) H2) σ H
/-- the left factor below 2^64 -/
def tMul (ta tb : TE) : TE := fun σ H Q => t2I ta tb (fun i j H2 => (-(2 ^ 64) < i ∧ i < 2 ^ 64) ∧ Q (.int (i * j)) H2) σ H
variable {a b : Expr} {ta tb : TE} {pos : Pos}
/-! ### comparisons -/
def PC (X : Cx) (op : CmpOp) (a b : Expr) (t : TE) : Prop :=
  ∀ (pins : List (Addr × Obj)) (s : Shared) (σ : St) (H : Hp) (Q : VK), Inv X pins σ H s → t σ H Q →
    wpAny (model X.prog X.w) X.A (eval a X.env) (fun v s₁ => wpAny (model X.prog X.w) X.A (eval b X.env) (fun u s₂ => wpAny (model X.prog X.w) X.A (compareOp op v u) (EP X pins σ Q) X.xe s₂) X.xe s₁) X.xe s
theorem nobehind (b : Expr) {op : CmpOp} (h : op ≠ .In) (h2 : op ≠ .NotIn) : behindInMarks op b = false := by
  have e1 : (op == CmpOp.In) = false := by cases op <;> first | rfl | exact absurd rfl h
  have e2 : (op == CmpOp.NotIn) = false := by cases op <;> first | rfl | exact absurd rfl h2
  cases b <;> simp [behindInMarks, e1, e2]
def tCmp (p : Int → Int → Bool) (ta tb : TE) : TE := fun σ H Q => t2I ta tb (fun i j H2 => Q (.bl (p i j)) H2) σ H
abbrev tLt : TE → TE → TE := tCmp fun i j => decide (i < j)
abbrev tLe : TE → TE → TE := tCmp fun i j => decide (i ≤ j)
abbrev tGt : TE → TE → TE := tCmp fun i j => decide (j < i)
abbrev tGe : TE → TE → TE := tCmp fun i j => decide (j ≤ i)
abbrev tEqI : TE → TE → TE := tCmp fun i j => decide (i = j)
abbrev tNeI : TE → TE → TE := tCmp fun i j => !decide (i = j)
/-- is None -/
def tIsN (ta : TE) : TE := fun σ H Q => ta σ H fun x H1 => Q (.bl (decide (x = .non))) H1
def tNotN (ta : TE) : TE := fun σ H Q => ta σ H fun x H1 => Q (.bl (!decide (x = .non))) H1
/-- a comparison as a value, as a test -/
def tB (t : TE) : TT := fun σ H Q => t σ H fun x H1 => ∃ c, x = .bl c ∧ Q c H1
theorem pt_cmp {op : CmpOp} {t : TE} (h : PC X op a b t) (h1 : behindInMarks op b = false := by first | exact nobehind _ (by decide) (by decide) | rfl) : PT X (.Compare a [op] [b] pos) (tB t) := by
  intro pins s σ H Q I hw
  refine wpAny_isTrue_Compare1 (thn (h pins s σ H _ I hw) fun v s1 h1 => thn h1 fun u s2 h2 => thn h2 fun c s3 ⟨x, H1, I1, r1, q1⟩ => ?_) h1
  obtain ⟨d, rfl, q⟩ := q1
  cases r1
  exact wpAny_truthy_bool ⟨H1, I1, q⟩
/-- an expression whose value is a bool, as a test -/
theorem pt_val {e : Expr} {t : TE} (h : PE X e t) (he : ∀ whole, isTrue e X.env whole = (do let v ← whole; standAt e.pos; holding [v] (truthy v)) := by intro _; rfl) : PT X e (tB t) := by
  intro pins s σ H Q I hw
  refine isTrue_plain (thn (h pins s σ H _ I hw) fun v s1 ⟨x, H1, I1, r1, q1⟩ => ?_) (he _)
  obtain ⟨d, rfl, q⟩ := q1
  cases r1
  exact wpAny_truthy_bool ⟨H1, I1, q⟩

/-! ### and, or, not -/
variable {tA tB' : TT} {rest : List Expr}
def tAnd (t u : TT) : TT := fun σ H Q => t σ H fun c H1 => if c = true then u σ H1 Q else Q false H1
def tOr (t u : TT) : TT := fun σ H Q => t σ H fun c H1 => if c = true then Q true H1 else u σ H1 Q
def tNot (t : TT) : TT := fun σ H Q => t σ H fun c H1 => Q (!c) H1
theorem pw_and1 (ha : PT X a tA) : PW X (.BoolOp .And [a] pos) tA := by
  intro wh pins s σ H Q I h
  refine isTrue_and (thn (ha pins s σ H Q I h) fun c s1 e => ?_)
  cases c with
  | true => exact isTrue_and_nil e
  | false => exact e
theorem pw_or1 (ha : PT X a tA) : PW X (.BoolOp .Or [a] pos) tA := by
  intro wh pins s σ H Q I h
  refine isTrue_or (thn (ha pins s σ H Q I h) fun c s1 e => ?_)
  cases c with
  | false => exact isTrue_or_nil e
  | true => exact e
theorem pw_and (ha : PT X a tA) (hb : PW X (.BoolOp .And (b :: rest) pos) tB') : PW X (.BoolOp .And (a :: b :: rest) pos) (tAnd tA tB') := by
  intro wh pins s σ H Q I h
  refine isTrue_and (thn (ha pins s σ H _ I h) fun c s1 ⟨H1, I1, q1⟩ => ?_)
  cases c with
  | true => exact hb wh pins s1 σ H1 Q I1 q1
  | false => exact ⟨H1, I1, q1⟩
theorem pw_or (ha : PT X a tA) (hb : PW X (.BoolOp .Or (b :: rest) pos) tB') : PW X (.BoolOp .Or (a :: b :: rest) pos) (tOr tA tB') := by
  intro wh pins s σ H Q I h
  refine isTrue_or (thn (ha pins s σ H _ I h) fun c s1 ⟨H1, I1, q1⟩ => ?_)
  cases c with
  | true => exact ⟨H1, I1, q1⟩
  | false => exact hb wh pins s1 σ H1 Q I1 q1
theorem pt_not (ha : PT X a tA) : PT X (.UnaryOp .Not a pos) (tNot tA) := by
  intro pins s σ H Q I h
  exact isTrue_not (ha pins s σ H (fun c H1 => Q (!c) H1) I h)
/-- .. as values (bools) -/
def tAndV (ta tb : TE) : TE := fun σ H Q => ta σ H fun x H1 => ∃ c, x = .bl c ∧ if c = true then tb σ H1 Q else Q (.bl false) H1
def tOrV (ta tb : TE) : TE := fun σ H Q => ta σ H fun x H1 => ∃ c, x = .bl c ∧ if c = true then Q (.bl true) H1 else tb σ H1 Q
def tNotV (ta : TE) : TE := fun σ H Q => ta σ H fun x H1 => ∃ c, x = .bl c ∧ Q (.bl (!c)) H1
theorem pe_one {op} {t : TE} (h : PE X a t) : PE X (.BoolOp op [a] pos) t := fun pins s σ H Q I hw => BoolOp_one (h pins s σ H Q I hw)
theorem pe_and (ha : PE X a ta) (hb : PE X (.BoolOp .And (b :: rest) pos) tb) : PE X (.BoolOp .And (a :: b :: rest) pos) (tAndV ta tb) := by
  intro pins s σ H Q I h
  refine BoolOp_and (thn (ha pins s σ H _ I h) fun v s1 ⟨x, H1, I1, r1, q1⟩ => ?_)
  obtain ⟨c, rfl, q1⟩ := q1
  cases r1
  refine wpAny_truthy_bool ?_
  cases c with
  | true => exact hb pins s1 σ H1 Q I1 q1
  | false => exact ⟨.bl false, H1, I1, rfl, q1⟩
theorem pe_or (ha : PE X a ta) (hb : PE X (.BoolOp .Or (b :: rest) pos) tb) : PE X (.BoolOp .Or (a :: b :: rest) pos) (tOrV ta tb) := by
  intro pins s σ H Q I h
  refine BoolOp_or (thn (ha pins s σ H _ I h) fun v s1 ⟨x, H1, I1, r1, q1⟩ => ?_)
  obtain ⟨c, rfl, q1⟩ := q1
  cases r1
  refine wpAny_truthy_bool ?_
  cases c with
  | false => exact hb pins s1 σ H1 Q I1 q1
  | true => exact ⟨.bl true, H1, I1, rfl, q1⟩
theorem pe_not (ha : PE X a ta) : PE X (.UnaryOp .Not a pos) (tNotV ta) := by
  intro pins s σ H Q I h
  refine UnaryOp_ (thn (ha pins s σ H _ I h) fun v s1 ⟨x, H1, I1, r1, q1⟩ => ?_)
  obtain ⟨c, rfl, q1⟩ := q1
  cases r1
  exact not_of (wpAny_truthy_bool ⟨.bl (!c), H1, I1, rfl, q1⟩)
/-- a if t else b -/
def tIf (t : TT) (ta tb : TE) : TE := fun σ H Q => t σ H fun c H1 => if c = true then ta σ H1 Q else tb σ H1 Q
theorem pe_ifExp {c : Expr} (hc : PT X c tA) (ha : PE X a ta) (hb : PE X b tb) : PE X (.IfExp c a b pos) (tIf tA ta tb) := by
  intro pins s σ H Q I h
  refine wpAny_IfExp (thn (hc pins s σ H _ I h) fun d s1 ⟨H1, I1, q1⟩ => ?_)
  cases d with
  | true => exact ha pins s1 σ H1 Q I1 q1
  | false => exact hb pins s1 σ H1 Q I1 q1
end
end L2

namespace L2
open PySem PySem.Spec PyProof.Rows

/-! ### a list, a tuple that is read: tracked, frozen, or an object of the module -/
def SqL (K : PySem.W.Frag) (H : Hp) (a : Addr) (xs : List V) : Prop :=
  Rd H a (.lst xs) ∨
    ∃ (o : Obj) (its : Array Value) (n : Nat), K.lookup a = some o ∧ o.cls = .type "list" ∧ o.dict = none ∧ o.data = .seq its n ∧ its.size ≤ sizeLine ∧ Vals xs its.toList
def SqT (K : PySem.W.Frag) (H : Hp) (a : Addr) (xs : List V) : Prop :=
  Rd H a (.tup xs) ∨
    ∃ (o : Obj) (its : Array Value) (n : Nat), K.lookup a = some o ∧ o.cls = .type "tuple" ∧ o.data = .seq its n ∧ its.size ≤ sizeLine ∧ Vals xs its.toList
def absV : Value → Option V
  | .none => some .non
  | .bool b => some (.bl b)
  | .int i _ => some (.int i)
  | .str x _ => some (.str x)
  | .bytes b _ => some (.byt b)
  | .float b _ => some (.flt b)
  | .ref a => some (.ref a)
  | .type n => some (.ty n)
  | _ => none
theorem RelV.abs {x : V} {u : Value} (r : RelV x u) : absV u = some x := by
  cases x with
  | non => cases r; rfl
  | bl _ => cases r; rfl
  | int _ => obtain ⟨t, rfl⟩ := r; rfl
  | str _ => obtain ⟨t, rfl⟩ := r; rfl
  | byt _ => obtain ⟨t, rfl⟩ := r; rfl
  | flt _ => obtain ⟨t, rfl⟩ := r; rfl
  | ref _ => cases r; rfl
  | ty _ => cases r; rfl
theorem RelV.inj {x y : V} {u : Value} (r : RelV x u) (q : RelV y u) : x = y := Option.some.inj (r.abs.symm.trans q.abs)
theorem Vals.inj : ∀ {xs ys : List V} {us : List Value}, Vals xs us → Vals ys us → xs = ys
  | _, _, _, .nil, .nil => rfl
  | _, _, _, .cons r t, .cons r' t' => by rw [r.inj r', Vals.inj t t']
section
variable {X : Cx} {pins : List (Addr × Obj)} {σ : St} {H : Hp} {s : Shared} {a : Addr} {xs ys : List V}
theorem SqL.of {K : PySem.W.Frag} (h : H a = some (.lst xs)) : SqL K H a xs := .inl (.inl h)
theorem SqT.of {K : PySem.W.Frag} (h : H a = some (.tup xs)) : SqT K H a xs := .inl (.inl h)
theorem Inv.list (I : Inv X pins σ H s) (h : SqL X.K H a xs) : ∃ its : List Value, Vals xs its ∧ PlainL s.heap a its.toArray ∧ xs.length ≤ sizeLine := by
  rcases h with h | ⟨o, its, n, hk, hc, hd, hs, hz, r⟩
  · obtain ⟨z, its, n, r, e⟩ := h.ok I.hok
    exact ⟨its, r, ⟨_, n, e, rfl, rfl, rfl⟩, z⟩
  · refine ⟨its.toList, r, ⟨o, n, I.kIn a o hk, hc, hd, by simpa using hs⟩, ?_⟩
    have e := r.length
    simp only [Array.length_toList] at e
    omega
theorem Inv.tuple (I : Inv X pins σ H s) (h : SqT X.K H a xs) : ∃ its : List Value, Vals xs its ∧ IsTup s.heap a its.toArray ∧ xs.length ≤ sizeLine := by
  rcases h with h | ⟨o, its, n, hk, hc, hs, hz, r⟩
  · obtain ⟨z, its, r, p⟩ := h.ok I.hok
    exact ⟨its, r, p, z⟩
  · refine ⟨its.toList, r, ⟨o, I.kIn a o hk, hc, n, by simpa using hs⟩, ?_⟩
    have e := r.length
    simp only [Array.length_toList] at e
    omega
theorem Inv.list_inj (I : Inv X pins σ H s) (h : SqL X.K H a xs) (h' : SqL X.K H a ys) : xs = ys := by
  obtain ⟨its, r, ⟨o, n, e, _, _, d⟩, _⟩ := I.list h
  obtain ⟨its', r', ⟨o', n', e', _, _, d'⟩, _⟩ := I.list h'
  rw [e] at e'; cases e'
  rw [d] at d'
  injection d' with d1 _
  have : its = its' := by simpa using congrArg Array.toList d1
  subst this
  exact r.inj r'
end

/-! ### another wish about exceptions -/
abbrev Cx.wish (X : Cx) (E : Value → Shared → Prop) : Cx := { X with xe := E }
/-- no exception leaves -/
abbrev Cx.nox (X : Cx) : Cx := X.wish fun _ _ => False
theorem Cx.Ok.wish {X : Cx} (ok : X.Ok) (E : Value → Shared → Prop) : (X.wish E).Ok :=
  ⟨ok.mod, ok.kind, ok.glob, ok.blt, ok.above, ok.inj, ok.has, ok.cab, ok.hd, ok.frames, ok.stk, ok.exf, ok.bs, ok.bsz, ok.noex, ok.exfs, ok.funs, ok.frf⟩
theorem Cx.Ok.unwish {X : Cx} {E : Value → Shared → Prop} (ok : (X.wish E).Ok) : X.Ok :=
  ⟨ok.mod, ok.kind, ok.glob, ok.blt, ok.above, ok.inj, ok.has, ok.cab, ok.hd, ok.frames, ok.stk, ok.exf, ok.bs, ok.bsz, ok.noex, ok.exfs, ok.funs, ok.frf⟩
section
variable {X : Cx} {pins : List (Addr × Obj)} {σ : St} {H : Hp} {s : Shared} {E : Value → Shared → Prop}
theorem Inv.wish (I : Inv X pins σ H s) (E : Value → Shared → Prop) : Inv (X.wish E) pins σ H s := ⟨I.ok.wish E, I.os, I.bare, I.base, I.loc, I.cell, I.free, I.freeC, I.pin, I.hok, I.len⟩
theorem Inv.unwish (I : Inv (X.wish E) pins σ H s) : Inv X pins σ H s := ⟨I.ok.unwish, I.os, I.bare, I.base, I.loc, I.cell, I.free, I.freeC, I.pin, I.hok, I.len⟩
theorem SP.unwish {D : Ends} {f : Flow} {s' : Shared} (h : SP (X.wish E) pins D f s') : SP X pins D f s' := by
  cases f with
  | next => obtain ⟨σ', H', I, q⟩ := h; exact ⟨σ', H', I.unwish, q⟩
  | brk => obtain ⟨σ', H', I, q⟩ := h; exact ⟨σ', H', I.unwish, q⟩
  | cont => obtain ⟨σ', H', I, q⟩ := h; exact ⟨σ', H', I.unwish, q⟩
  | ret u => obtain ⟨v, σ', H', I, r, q⟩ := h; exact ⟨v, σ', H', I.unwish, r, q⟩
theorem PE.nox {e : Expr} {t : TE} (h : PE X.nox e t) : PE X e t := fun pins s σ H Q I hw =>
  wpAny_mono (h pins s σ H Q (I.wish _) hw) (fun _ _ ⟨v, H', I', r, q⟩ => ⟨v, H', I'.unwish, r, q⟩) fun _ _ z => False.elim z
theorem PT.nox {e : Expr} {t : TT} (h : PT X.nox e t) : PT X e t := fun pins s σ H Q I hw =>
  wpAny_mono (h pins s σ H Q (I.wish _) hw) (fun _ _ ⟨H', I', q⟩ => ⟨H', I'.unwish, q⟩) fun _ _ z => False.elim z
theorem PSs.nox {st : List Stmt} {t : TS} (h : PSs X.nox st t) : PSs X st t := fun pins s σ H D I hw =>
  wpAny_mono (h pins s σ H D (I.wish _) hw) (fun _ _ q => q.unwish) fun _ _ z => False.elim z
end

/-! ### blocks and small statements -/
section
variable {X : Cx} {st : Stmt} {rest : List Stmt} {t u : TS} {e : Expr} {te : TE} {pos : Pos}
def tNext : TS := fun D σ H => D.nx σ H
def tSeq (t u : TS) : TS := fun D σ H => t { D with nx := u D } σ H
theorem pss_nil : PSs X [] tNext := fun _ _ σ H _ I h => wpAny_execs_nil ⟨σ, H, I, h⟩
theorem pss_cons (h1 : PS X st t) (h2 : PSs X rest u) : PSs X (st :: rest) (tSeq t u) := by
  intro pins s σ H D I h
  refine wpAny_execs_cons (thn (h1 pins s σ H { D with nx := u D } I h) fun f s1 q => ?_)
  cases f with
  | next =>
    obtain ⟨σ', H', I', q⟩ := q
    exact h2 pins s1 σ' H' D I' q
  | ret v => exact q
  | brk => exact q
  | cont => exact q
theorem pss_one (h1 : PS X st t) : PSs X [st] t := by
  intro pins s σ H D I h
  refine wpAny_execs_cons (thn (h1 pins s σ H D I h) fun f s1 q => ?_)
  cases f with
  | next => exact wpAny_execs_nil q
  | ret v => exact q
  | brk => exact q
  | cont => exact q
def tBreak : TS := fun D σ H => D.bk σ H
def tCont : TS := fun D σ H => D.ct σ H
/-- an expression whose value is dropped -/
def tDrop (te : TE) : TS := fun D σ H => te σ H fun _ H1 => D.nx σ H1
def tRet (te : TE) : TS := fun D σ H => te σ H D.rt
theorem ps_ret (he : PE X e te) : PS X (.Return (some e) pos) (tRet te) := by
  intro pins s σ H D I h
  exact wpAny_Return_some (thn (he pins s σ H _ I h) fun v s1 ⟨x, H1, I1, r1, q1⟩ => ⟨x, σ, H1, I1, r1, q1⟩)
def tRetN : TS := fun D _ H => D.rt .non H
def tIfS (c : TT) (t u : TS) : TS := fun D σ H => c σ H fun b H1 => if b = true then t D σ H1 else u D σ H1
theorem ps_if {c : Expr} {a b : List Stmt} {tc : TT} (hc : PT X c tc) (ha : PSs X a t) (hb : PSs X b u) : PS X (.If c a b pos) (tIfS tc t u) := by
  intro pins s σ H D I h
  refine wpAny_If (thn (hc pins s σ H _ I h) fun d s1 ⟨H1, I1, q1⟩ => ?_)
  cases d with
  | true => exact ha pins s1 σ H1 D I1 q1
  | false => exact hb pins s1 σ H1 D I1 q1
/-- code that the proof never comes to -/
def tNever : TS := fun _ _ _ => False
theorem ps_never : PS X st tNever := fun _ _ _ _ _ _ h => h.elim
end

/-! ### targets -/
abbrev TG := V → St → Hp → (St → Hp → Prop) → Prop
abbrev TGs := List V → St → Hp → (St → Hp → Prop) → Prop
def PG (X : Cx) (target : Expr) (t : TG) : Prop :=
  ∀ (pins : List (Addr × Obj)) (s : Shared) (σ : St) (H : Hp) (v : V) (u : Value) (Q : St → Hp → Prop), Inv X pins σ H s → RelV v u → t v σ H Q →
    wpAny (model X.prog X.w) X.A (assign target X.env u) (fun _ s' => ∃ σ' H', Inv X pins σ' H' s' ∧ Q σ' H') X.xe s
/-- several targets, one after another -/
def PGs (X : Cx) (ts : List Expr) (t : TGs) : Prop :=
  ∀ (pins : List (Addr × Obj)) (s : Shared) (σ : St) (H : Hp) (vs : List V) (us : List Value) (Q : St → Hp → Prop), Inv X pins σ H s → Vals vs us → t vs σ H Q →
    wpAny (model X.prog X.w) X.A (assignInOrder ((assignEach ts X.env).map (·.2)) us) (fun _ s' => ∃ σ' H', Inv X pins σ' H' s' ∧ Q σ' H') X.xe s
/-- o[i] = v, by values -/
abbrev TSet := V → V → V → Hp → (Hp → Prop) → Prop
def PSet (X : Cx) (t : TSet) : Prop :=
  ∀ (pins : List (Addr × Obj)) (s : Shared) (σ : St) (H : Hp) (o i v : V) (ov iv u : Value) (Q : Hp → Prop), Inv X pins σ H s → RelV o ov → RelV i iv → RelV v u → t o i v H Q →
    wpAny (model X.prog X.w) X.A (setItem ov iv u) (fun _ s' => ∃ H', Inv X pins σ H' s' ∧ Q H') X.xe s
/-- a op= b, by values -/
abbrev TIp := V → V → Hp → VK → Prop
def PIp (X : Cx) (op : Operator) (t : TIp) : Prop :=
  ∀ (pins : List (Addr × Obj)) (s : Shared) (σ : St) (H : Hp) (x y : V) (v u : Value) (Q : VK), Inv X pins σ H s → RelV x v → RelV y u → t x y H Q →
    wpAny (model X.prog X.w) X.A (inplaceOp op v u) (EP X pins σ Q) X.xe s
section
variable {X : Cx} {pos : Pos}
def gName (i : Nat) : TG := fun v σ H Q => Q (σ.set i (some v)) H
theorem pg_name {i : Nat} {x : Str} (hN : X.N.Nodup) (hi : X.N[i]? = some x) (hx : Loc X.env.scope x) (hf : X.fn x = true ∨ X.env.scope.names.lookup x = some .local := by first | exact .inl rfl | exact .inr rfl | assumption) : PG X (.Name x pos) (gName i) := by
  intro pins s σ H v u Q I r h
  exact wpAny_assign_Name (store_ok I hN hi hx r (fun s' I' => ⟨_, H, I', h⟩) hf)
def gNil : TGs := fun vs σ H Q => vs = [] ∧ Q σ H
def gCons (t : TG) (u : TGs) : TGs := fun vs σ H Q => ∃ v r, vs = v :: r ∧ t v σ H fun σ' H' => u r σ' H' Q
theorem pgs_nil : PGs X [] gNil := by
  intro pins s σ H vs us Q I r h
  obtain ⟨e, h⟩ := h
  subst e
  cases r
  exact assignInOrder_nil ⟨σ, H, I, h⟩
theorem pgs_cons {e : Expr} {es : List Expr} {t : TG} {u : TGs} (h1 : PG X e t) (h2 : PGs X es u)
    (hs : (assignEach (e :: es) X.env).map (·.2) = assign e X.env :: (assignEach es X.env).map (·.2) := by rfl) : PGs X (e :: es) (gCons t u) := by
  intro pins s σ H vs us Q I r h
  obtain ⟨v, vr, e1, h⟩ := h
  subst e1
  cases r with
  | cons r rr =>
    rw [hs]
    refine assignInOrder_cons (thn (h1 pins s σ H _ _ _ I r h) fun _ s1 ⟨σ1, H1, I1, q1⟩ => ?_)
    exact h2 pins s1 σ1 H1 _ _ Q I1 rr q1
/-- (a, b, ..) = a tuple of that length -/
def gTup (K : PySem.W.Frag) (n : Nat) (t : TGs) : TG := fun v σ H Q => ∃ a xs, v = .ref a ∧ SqT K H a xs ∧ xs.length = n ∧ t xs σ H Q
theorem pg_tup {es : List Expr} {k : Nat} {t : TGs} {n : Nat} (hc : X.calm = true) (h : PGs X es t)
    (hn : (assignEach es X.env).length = n := by rfl) (hst : (assignEach es X.env).findIdx? (·.1) = none := by rfl) : PG X (.Tuple es k pos) (gTup X.K n t) := by
  intro pins s σ H v u Q I r hw
  obtain ⟨a, xs, e1, hq, hl, hw⟩ := hw
  subst e1
  cases r
  obtain ⟨its, rv, ht, hz⟩ := I.tuple hq
  refine assign_Tuple_tuple (I.ok.hd hc) ht (by simp [hn, ← hl, rv.length]) hst fun h' hx => ?_
  have I1 : Inv X pins σ H { s with heap := h' } := I.kept (t' := s.toks) fun b o e => hx b o (Nat.ne_of_lt (Heap.lt_size e)) e
  exact h pins _ σ H xs _ Q I1 (by simpa using rv) hw
/-- o[i] = .. -/
def gSub (to ti : TE) (t : TSet) : TG := fun v σ H Q => to σ H fun o H1 => ti σ H1 fun i H2 => t o i v H2 fun H3 => Q σ H3
theorem pg_sub {o i : Expr} {to ti : TE} {t : TSet} (ho : PE X o to) (hi : PE X i ti) (hs : PSet X t)
    (ha : ∀ v, assign (.Subscript o i pos) X.env v = (do
      let ov ← holding [v] (eval o X.env)
      let iv ← holding [v, ov] (eval i X.env)
      standAt pos
      holding [v, ov, iv] (setItem ov iv v)
      release [v, ov, iv] []) := by intro _; rfl) : PG X (.Subscript o i pos) (gSub to ti t) := by
  intro pins s σ H v u Q I r h
  rw [ha]
  refine wpAny_bind (wpAny_holding (thn (ho pins s σ H _ I h) fun ov s1 ⟨x, H1, I1, r1, q1⟩ => ?_))
  refine wpAny_bind (wpAny_holding (thn (hi pins s1 σ H1 _ I1 q1) fun iv s2 ⟨y, H2, I2, r2, q2⟩ => ?_))
  refine wpAny_bind (wpAny_standAt (wpAny_bind (wpAny_holding (thn (hs pins s2 σ H2 x y v ov iv u _ I2 r1 r2 r q2) fun _ s3 ⟨H3, I3, q3⟩ => ?_))))
  exact wpAny_release ⟨σ, H3, I3, q3⟩
/-- target = value -/
def tAsg (te : TE) (g : TG) : TS := fun D σ H => te σ H fun x H1 => g x σ H1 D.nx
theorem ps_asg {tg e : Expr} {te : TE} {g : TG} (he : PE X e te) (hg : PG X tg g) (hs : swapsWithSole [tg] e pos.line X.env = pure false := by rfl) (hw : swappedStores [tg] e X.env = pure none := by rfl)
    (h1 : (assignEach [tg] X.env).map (·.2) = [assign tg X.env] := by rfl) : PS X (.Assign [tg] e pos) (tAsg te g) := by
  intro pins s σ H D I h
  refine wpAny_Assign_stores (thn (he pins s σ H _ I h) fun v s1 ⟨x, H1, I1, r1, q1⟩ => ?_) hs hw
  rw [h1]
  exact thn (hg pins s1 σ H1 x v _ I1 r1 q1) fun _ s2 q => q
/-- name = value -/
theorem ps_set {i : Nat} {x : Str} {e : Expr} {te : TE} {pos' : Pos} (hN : X.N.Nodup) (hi : X.N[i]? = some x) (hx : Loc X.env.scope x) (he : PE X e te) (hs : swapsWith e (some (.Name x pos')) pos.line X.env = pure false := by rfl) (hf : X.fn x = true ∨ X.env.scope.names.lookup x = some .local := by first | exact .inl rfl | exact .inr rfl | assumption) :
    PS X (.Assign [.Name x pos'] e pos) (tAsg te (gName i)) := by
  intro pins s σ H D I h
  refine wpAny_Assign_Name (thn (he pins s σ H _ I h) fun v s1 ⟨y, H1, I1, r1, q1⟩ => ?_) hs
  exact store_ok I1 hN hi hx r1 (fun s2 I2 => ⟨_, H1, I2, q1⟩) hf
/-- a, b = x, y with plain local names: stored from the right; the pair itself is not tracked (the opening rows as in PyProof/Rows/TupAssign.lean:23) -/
def tPar (i j : Nat) (ta : TA) : TS := fun D σ H => ta σ H fun vs H1 => ∃ v w, vs = [v, w] ∧ D.nx ((σ.set i (some v)).set j (some w)) H1
theorem ps_par {i j : Nat} {x y : Str} {a b : Expr} {ta : TA} {px py pt : Pos} {kt k2 pt2} (hc : X.calm = true) (hN : X.N.Nodup) (hi : X.N[i]? = some x) (hj : X.N[j]? = some y) (hij : i ≠ j)
    (hx : X.env.scope.names.lookup x = some .local) (hy : X.env.scope.names.lookup y = some .local) (ha : PA X [a, b] ta)
    (hw : swappedStores [.Tuple [.Name x px, .Name y py] kt pt] (.Tuple [a, b] k2 pt2) X.env = pure (some [x, y]))
    (hs : swapsWithSole [.Tuple [.Name x px, .Name y py] kt pt] (.Tuple [a, b] k2 pt2) pos.line X.env = pure false := by rfl) :
    PS X (.Assign [.Tuple [.Name x px, .Name y py] kt pt] (.Tuple [a, b] k2 pt2) pos) (tPar i j ta) := by
  intro pins s σ H D I h
  rw [exec_Assign_arm]
  refine wpAny_bind (wpAny_standAt ?_)
  rw [hs]
  refine wpAny_bind (wpAny_pure ?_)
  rw [if_neg (by decide)]
  refine wpAny_bind (Tuple_ (thn (ha _ pins s σ H _ I h) fun us s1 ⟨vs, H1, I1, r1, q1⟩ => ?_))
  obtain ⟨v, w, e1, q1⟩ := q1
  subst e1
  obtain ⟨u1, u2, rfl, rv, rw'⟩ : ∃ u1 u2, us = [u1, u2] ∧ RelV v u1 ∧ RelV w u2 := by
    cases r1 with
    | cons p q =>
      cases q with
      | cons p' q' =>
        cases q'
        exact ⟨_, _, rfl, p, p'⟩
  refine wpAny_newObj_type ?_ (by show 2 ≤ sizeLine; decide)
  have I2 : Inv X pins σ H1 { s1 with heap := s1.heap.push { cls := .type "tuple", data := .seq [u1, u2].toArray } } := I1.kept (t' := s1.toks) fun b o e => Heap.get?_push_of_some _ e
  rw [hw]
  refine wpAny_bind (wpAny_pure ?_)
  show wpAny (model X.prog X.w) X.A (do rule "assign.swapped-stores"; let items ← unpackItems (.ref s1.heap.objs.size) 2 none; assignInOrder [fun v => bindName X.env y v, fun v => bindName X.env x v] items.reverse; pure Flow.next) _ _ _
  refine wpAny_bind (wpAny_rule (wpAny_bind (unpackItems_tuple (items := #[u1, u2]) (I.ok.hd hc) (IsTup.new s1.heap _) fun h' hx' => ?_)))
  have I3 := I2.kept (h' := h') (t' := s1.toks) fun b o e => hx' b o (Nat.ne_of_lt (Heap.lt_size e)) e
  show wpAny _ _ (assignInOrder [fun v => bindName X.env y v, fun v => bindName X.env x v] [u2, u1] >>= fun _ => pure Flow.next) _ _ _
  refine wpAny_bind (assignInOrder_cons (wpAny_bindName (store_ok I3 hN hj (.inl hy) rw' (fun s2 I4 => ?_) (.inr hy))))
  refine assignInOrder_cons (wpAny_bindName (store_ok I4 hN hi (.inl hx) rv (fun s3 I5 => assignInOrder_nil (wpAny_pure ?_)) (.inr hx)))
  rw [List.set_comm _ _ (Ne.symm hij)] at I5
  exact ⟨_, H1, I5, q1⟩
/-- name op= e -/
def tAug (i : Nat) (te : TE) (ti : TIp) : TS := fun D σ H => ∃ x, σ[i]? = some (some x) ∧ te σ H fun y H1 => ti x y H1 fun z H2 => D.nx (σ.set i (some z)) H2
/-- o[i] op= e -/
def tAugS (to ti te : TE) (tget : V → V → Hp → VK → Prop) (tip : TIp) (tset : TSet) : TS := fun D σ H => to σ H fun o H1 => ti σ H1 fun i H2 => tget o i H2 fun x H3 => te σ H3 fun y H4 => tip x y H4 fun z H5 => tset o i z H5 fun H6 => D.nx σ H6
/-- o[i], by values -/
def PGet (X : Cx) (t : V → V → Hp → VK → Prop) : Prop :=
  ∀ (pins : List (Addr × Obj)) (s : Shared) (σ : St) (H : Hp) (o i : V) (ov iv : Value) (Q : VK), Inv X pins σ H s → RelV o ov → RelV i iv → t o i H Q →
    wpAny (model X.prog X.w) X.A (getItem ov iv) (EP X pins σ Q) X.xe s
/-- ints -/
def ipI (f : Int → Int → Int) : TIp := fun x y H Q => ∃ i j, x = .int i ∧ y = .int j ∧ Q (.int (f i j)) H
end

/-! ### while -/
section
variable {X : Cx} {pos : Pos}
/-- the invariant W with its measure -/
def tWhile (c : TT) (tb : TS) : TS := fun D σ H => ∃ W : Nat → St → Hp → Prop, (∃ m, W m σ H) ∧ ∀ m σ H, W m σ H →
  c σ H fun b H1 => if b = true then ∃ N : St → Hp → Prop, (∀ σ' H', N σ' H' → ∃ m', m' < m ∧ W m' σ' H') ∧ tb { D with nx := N, ct := N, bk := D.nx } σ H1 else D.nx σ H1
theorem ps_while {c : Expr} {body : List Stmt} {tc : TT} {tb : TS} (hp : PassesOwn (model X.prog X.w) X.A X.env X.xe) (hc : PT X c tc) (hb : PSs X body tb) : PS X (.While c body [] pos) (tWhile tc tb) := by
  intro pins s σ H D I h
  obtain ⟨W, ⟨m0, w0⟩, turn⟩ := h
  refine wpAny_While (codeAny_whileLoop (fun n s' => ∃ σ' H', Inv X pins σ' H' s' ∧ W n σ' H') ?_ m0 ⟨σ, H, I, w0⟩)
  rintro n s1 ⟨σ1, H1, I1, w1⟩
  refine wpAny_passesOwn hp (thn (hc pins s1 σ1 H1 _ I1 (turn n σ1 H1 w1)) fun b s2 ⟨H2, I2, q2⟩ => ?_)
  cases b with
  | true =>
    obtain ⟨N, hN, q2⟩ := q2
    rw [if_pos rfl]
    refine wpAny_passesOwn hp (thn (hb pins s2 σ1 H2 _ I2 q2) fun f s3 q3 => ?_)
    cases f with
    | next =>
      obtain ⟨σ3, H3, I3, n3⟩ := q3
      obtain ⟨m', hm, w3⟩ := hN σ3 H3 n3
      exact ⟨m', hm, σ3, H3, I3, w3⟩
    | cont =>
      obtain ⟨σ3, H3, I3, n3⟩ := q3
      obtain ⟨m', hm, w3⟩ := hN σ3 H3 n3
      exact ⟨m', hm, σ3, H3, I3, w3⟩
    | brk => exact q3
    | ret v => exact q3
  | false =>
    rw [if_neg Bool.false_ne_true]
    exact wpAny_execs_nil ⟨σ1, H2, I2, q2⟩
end

/-! ### what a loop or a comprehension walks -/
/-- at turn i: it yields x (the heap may grow), or it stops -/
structure It where
  go : Nat → Hp → Prop
  yld : Nat → Hp → V → Hp → Prop
  stop : Nat → Hp → Prop
/-- the iterator's own objects may turn: they are not the frame's, not pinned, younger than the entry (or a comprehension's own) -/
def FpOk (X : Cx) (pins : List (Addr × Obj)) (H : Hp) (b : Addr) : Prop :=
  H b = none ∧ b ≠ X.env.locals ∧ b ∉ X.fs ∧ (b ∈ X.ex ∨ X.s₀.heap.objs.size ≤ b) ∧ (∀ x c, X.env.cells.lookup x = some c → c ≠ b) ∧ ∀ p ∈ X.pn ++ pins, p.1 ≠ b
theorem Inv.fpOk {X : Cx} {pins : List (Addr × Obj)} {σ : St} {H H' : Hp} {s : Shared} {b : Addr} (I : Inv X pins σ H s) (hb : s.heap.objs.size ≤ b) (hn : H' b = none) : FpOk X pins H' b := by
  refine ⟨hn, Nat.ne_of_gt (Nat.lt_of_lt_of_le I.lt hb), I.nofs hb, .inr (Nat.le_trans I.sz hb), fun x c e z => ?_, fun p hp z => ?_⟩
  · obtain ⟨v, q⟩ := I.cell x c e
    exact absurd (Nat.lt_of_lt_of_le q.lt (by rw [z]; exact hb)) (Nat.lt_irrefl _)
  · exact absurd (Nat.lt_of_lt_of_le (Heap.lt_size (I.pin p hp).1) (by rw [z]; exact hb)) (Nat.lt_irrefl _)
structure Turn (P : Program) (w : World) (K : PySem.W.Frag) (tg : Expr) (J : It) (fp : List Addr) (it : Addr) (tn : Nat → Heap → Prop) : Prop where
  mem : it ∈ fp
  obj : ∀ i h, tn i h → ∀ b ∈ fp, ∃ o, h.get? b = some o ∧ ∀ v, o.data ≠ .cell v
  keep : ∀ i h h', tn i h → (∀ b ∈ fp, ∀ o, h.get? b = some o → h'.get? b = some o) → tn i h'
  item : ∀ (X : Cx), X.prog = P → X.w = w → X.K = K → X.calm = true → ∀ (i : Nat) (pins : List (Addr × Obj)) (s : Shared) (σ : St) (H : Hp) (E : Value → Shared → Prop), Inv X pins σ H s → (∀ b ∈ fp, FpOk X pins H b) → tn i s.heap → J.go i H →
    wpAny (model P w) X.A (pyNext (.ref it)) (fun r s1 => ∃ u, r = some u ∧
      wpAny (model P w) X.A (letOwnedTupleGo tg (.ref it) u) (fun _ s2 => ∃ x H', Inv X pins σ H' s2 ∧ RelV x u ∧ J.yld i H x H' ∧ tn (i + 1) s2.heap ∧ ∀ b ∈ fp, H' b = none) E s1) E s
  done : ∀ (X : Cx), X.prog = P → X.w = w → X.K = K → X.calm = true → ∀ (i : Nat) (pins : List (Addr × Obj)) (s : Shared) (σ : St) (H : Hp) (E : Value → Shared → Prop), Inv X pins σ H s → (∀ b ∈ fp, FpOk X pins H b) → tn i s.heap → J.stop i H →
    wpAny (model P w) X.A (pyNext (.ref it)) (fun r s1 => r = none ∧ Inv X pins σ H s1) E s
  self : ∀ (A : Around) (i : Nat) (s : Shared) (Q : Value → Shared → Prop) (E : Value → Shared → Prop), tn i s.heap → Q (.ref it) s → wpAny (model P w) A (pyIter (.ref it)) Q E s
abbrev TI := St → Hp → (It → Hp → Prop) → Prop
/-- an iterator has come -/
def PIE (X : Cx) (pins : List (Addr × Obj)) (σ : St) (tg : Expr) (R : It → Hp → Prop) (itv : Value) (s2 : Shared) : Prop :=
  ∃ (it : Addr) (fp : List Addr) (tn : Nat → Heap → Prop) (J : It) (H' : Hp), itv = .ref it ∧ Inv X pins σ H' s2 ∧ Turn X.prog X.w X.K tg J fp it tn ∧ tn 0 s2.heap ∧ (∀ b ∈ fp, FpOk X pins H' b) ∧ R J H'
def PI (X : Cx) (tg iter : Expr) (wi : TI) : Prop :=
  ∀ (pins : List (Addr × Obj)) (s : Shared) (σ : St) (H : Hp) (R : It → Hp → Prop), Inv X pins σ H s → wi σ H R →
    wpAny (model X.prog X.w) X.A (eval iter X.env) (fun v s1 => wpAny (model X.prog X.w) X.A (pyIter v) (PIE X pins σ tg R) X.xe s1) X.xe s

/-- the step ahead of the store is nothing for an iterator that keeps no tuple -/
theorem go_of {M : Model} {A : Around} {E : Value → Shared → Prop} {s : Shared} {tg : Expr} {it : Addr} {u : Value} {o : Obj} {n : String} {vs : Array Value} {Q : Unit → Shared → Prop} (ho : s.heap.get? it = some o) (hc : o.cls = .type n) (hd : o.data = .fields vs)
    (hn : ["enumerate", "zip", "dict_itemiterator", "dict_reverseitemiterator", "odict_iterator", "itertools.zip_longest", "itertools.pairwise"].contains n = false) (hQ : Q () s) : wpAny M A (letOwnedTupleGo tg (.ref it) u) Q E s := by
  unfold letOwnedTupleGo
  cases tg <;> first
    | exact wpAny_pure hQ
    | (cases u <;> first
        | exact wpAny_pure hQ
        | (refine wpAny_bind (wpAny_load ho ?_)
           rw [hc, hd]
           show wpAny M A (if (["enumerate", "zip", "dict_itemiterator", "dict_reverseitemiterator", "odict_iterator", "itertools.zip_longest", "itertools.pairwise"].contains n && vs[0]? == some (rawInt _)) = true then _ else _) Q E s
           rw [if_neg (by intro h; rw [hn, Bool.false_and] at h; cases h)]
           exact wpAny_pure hQ))

/-- the list at a, as it stands at each turn (a loop may append to it) -/
def Itl (K : PySem.W.Frag) (a : Addr) : It :=
  ⟨fun i H => ∃ xs x, SqL K H a xs ∧ xs[i]? = some x, fun i H x H' => H' = H ∧ ∀ xs, SqL K H a xs → xs[i]? = some x, fun i H => ∃ xs, SqL K H a xs ∧ xs.length ≤ i⟩
def Itt (K : PySem.W.Frag) (a : Addr) : It :=
  ⟨fun i H => ∃ xs x, SqT K H a xs ∧ xs[i]? = some x, fun i H x H' => H' = H ∧ ∀ xs, SqT K H a xs → xs[i]? = some x, fun i H => ∃ xs, SqT K H a xs ∧ xs.length ≤ i⟩
/-- lo, lo + 1, .. (n of them) -/
def Itr (lo : Int) (n : Nat) : It := ⟨fun i _ => i < n, fun i H x H' => H' = H ∧ x = .int (lo + i), fun i _ => n ≤ i⟩
theorem turn_list {P : Program} {w : World} {K : PySem.W.Frag} {tg : Expr} (a it : Addr) : Turn P w K tg (Itl K a) [it] it (fun i h => h.IsListIter it a i) where
  mem := by simp
  obj := fun i h st b hb => by
    have e : b = it := by simpa using hb
    subst e
    obtain ⟨o, e, c, d⟩ := st
    exact ⟨o, e, fun v z => by rw [d] at z; cases z⟩
  keep := fun i h h' st k => st.at fun o e => k it (by simp) o e
  item := by
    intro X hP hw hK hc i pins s σ H E I hf st hg
    subst hP hw hK
    obtain ⟨xs, x, hq, hx⟩ := hg
    obtain ⟨its, rv, p, hz⟩ := I.list hq
    obtain ⟨u, hu, ru⟩ := rv.get hx
    obtain ⟨f0, f1, f2, f3, f4, f5⟩ := hf it (by simp)
    refine wpAny_pyNext_list_item st p.isList (x := u) (by simpa using hu) fun h' st' sb => ?_
    have I1 : Inv X pins σ H { s with heap := h' } := I.turned (t' := s.toks) (fun b o hb e => (sb.2 b hb).trans e) f0 f1 f3 f4 f5
    obtain ⟨o, e, c, d⟩ := id st'
    exact ⟨u, rfl, go_of (s := { s with heap := h' }) e c d (by decide) ⟨x, H, I1, ru, ⟨rfl, fun ys hy => by rw [I.list_inj hy hq]; exact hx⟩, st', fun b hb => (hf b hb).1⟩⟩
  done := by
    intro X hP hw hK hc i pins s σ H E I hf st hg
    subst hP hw hK
    obtain ⟨xs, hq, hx⟩ := hg
    obtain ⟨its, rv, p, hz⟩ := I.list hq
    obtain ⟨f0, f1, f2, f3, f4, f5⟩ := hf it (by simp)
    have hl := rv.length
    exact wpAny_pyNext_list_end (I.ok.hd hc) st p.isList (by simp; omega) fun h' eb => ⟨rfl, I.turned (t' := s.toks) (fun b o hb e => eb b o hb e) f0 f1 f3 f4 f5⟩
  self := fun _ _ _ _ _ st h => wpAny_pyIter_listiter st h
theorem turn_range {P : Program} {w : World} {K : PySem.W.Frag} {tg : Expr} (it : Addr) (lo : Int) (n : Nat) : Turn P w K tg (Itr lo n) [it] it (fun i h => IsRangeIter h it (lo + (i : Nat) * 1) ((n : Int) - (i : Nat)) 1) where
  mem := by simp
  obj := fun i h st b hb => by
    have e : b = it := by simpa using hb
    subst e
    exact ⟨_, st, fun v z => by
      have z' : Data.fields _ = Data.cell v := z
      cases z'⟩
  keep := fun i h h' st k => k it (by simp) _ st
  item := by
    intro X hP hw hK hc i pins s σ H E I hf st hg
    subst hP hw hK
    obtain ⟨f0, f1, f2, f3, f4, f5⟩ := hf it (by simp)
    have W := Walks.range (prog := X.prog) (w := X.w) (I.ok.hd hc) it lo 1 n
    refine W.item i s _ _ hg st fun v h' tk hv st' kk => ?_
    obtain ⟨t, rfl⟩ := hv
    have I1 : Inv X pins σ H { s with heap := h', toks := tk } := I.turned (fun b o hb e => kk b o (by simpa using hb) e) f0 f1 f3 f4 f5
    refine ⟨_, rfl, go_of (s := { s with heap := h', toks := tk }) (n := "range_iterator") st' rfl rfl (by decide) ⟨.int (lo + i), H, I1, ⟨t, ?_⟩, ⟨rfl, rfl⟩, st', fun b hb => (hf b hb).1⟩⟩
    rw [Int.mul_one]
  done := by
    intro X hP hw hK hc i pins s σ H E I hf st hg
    subst hP hw hK
    obtain ⟨f0, f1, f2, f3, f4, f5⟩ := hf it (by simp)
    exact wpAny_pyNext_range_end (I.ok.hd hc) st (by have : n ≤ i := hg; omega) fun h' eb => ⟨rfl, I.turned (t' := s.toks) (fun b o hb e => eb b o hb e) f0 f1 f3 f4 f5⟩
  self := fun _ _ _ _ _ st h => wpAny_pyIter_rangeiter st h
end L2

namespace L2
open PySem PySem.Spec PyProof.Rows
section
variable {X : Cx} {tg : Expr}
def iList (K : PySem.W.Frag) (tl : TE) : TI := fun σ H R => tl σ H fun x H1 => ∃ a, x = .ref a ∧ (∃ xs, SqL K H1 a xs) ∧ R (Itl K a) H1
def iTup (K : PySem.W.Frag) (tl : TE) : TI := fun σ H R => tl σ H fun x H1 => ∃ a, x = .ref a ∧ (∃ xs, SqT K H1 a xs) ∧ R (Itt K a) H1
theorem pi_list {l : Expr} {tl : TE} (hl : PE X l tl) : PI X tg l (iList X.K tl) := by
  intro pins s σ H R I h
  refine thn (hl pins s σ H _ I h) fun v s1 ⟨x, H1, I1, r1, q1⟩ => ?_
  obtain ⟨a, e, ⟨xs, hq⟩, q⟩ := q1
  subst e
  cases r1
  obtain ⟨its, rv, p, hz⟩ := I1.list hq
  refine wpAny_pyIter_list p.isList ?_
  refine ⟨s1.heap.objs.size, [s1.heap.objs.size], _, _, H1, rfl, I1.kept (t' := s1.toks) fun b o e => Heap.get?_push_of_some _ e, turn_list a _, ⟨_, Heap.get?_push_size _ rfl, rfl, rfl⟩, fun b hb => ?_, q⟩
  have e : b = s1.heap.objs.size := by simpa using hb
  subst e
  exact I1.fpOk (Nat.le_refl _) (I1.hok.fresh (Nat.le_refl _))
/-- a range object just made, walked -/
theorem range_it {pins : List (Addr × Obj)} {σ : St} {H : Hp} {s : Shared} {R : It → Hp → Prop} {E : Value → Shared → Prop} {lo hi : Int} {t u v : Tok} {tk : Nat} (I : Inv X pins σ H s) (h1 : -(2 ^ 62) ≤ lo) (h2 : lo < 2 ^ 62) (h3 : -(2 ^ 62) ≤ hi) (h4 : hi < 2 ^ 62)
    (q : R (Itr lo (hi - lo).toNat) H) : wpAny (model X.prog X.w) X.A (pyIter (.ref s.heap.objs.size)) (PIE X pins σ tg R) E { s with heap := s.heap.push { cls := .type "range", data := .fields #[.int lo t, .int hi u, .int 1 v] }, toks := tk } := by
  refine wpAny_pyIter_range (IsRange.new ..) (small_one h1 h2 h3 h4) ?_
  have I1 : Inv X pins σ H { s with heap := s.heap.push { cls := .type "range", data := .fields #[.int lo t, .int hi u, .int 1 v] }, toks := tk } := I.kept fun b o e => Heap.get?_push_of_some _ e
  refine ⟨(s.heap.push { cls := .type "range", data := .fields #[.int lo t, .int hi u, .int 1 v] }).objs.size, [(s.heap.push { cls := .type "range", data := .fields #[.int lo t, .int hi u, .int 1 v] }).objs.size], _, _, H, rfl,
    I1.kept (t' := tk) fun b o e => Heap.get?_push_of_some _ e, turn_range _ lo (hi - lo).toNat, ?_, fun b hb => ?_, q⟩
  · have e1 : lo + ((0 : Nat) : Int) * 1 = lo := by simp
    have e2 : (((hi - lo).toNat : Nat) : Int) - ((0 : Nat) : Int) = Builtin.Range.rangeSize lo hi 1 := by rw [rangeSize_one]; split <;> omega
    show IsRangeIter _ _ (lo + ((0 : Nat) : Int) * 1) ((((hi - lo).toNat : Nat) : Int) - ((0 : Nat) : Int)) 1
    rw [e1, e2]
    exact Heap.get?_push_size _ rfl
  · have e : b = (s.heap.push { cls := .type "range", data := .fields #[.int lo t, .int hi u, .int 1 v] }).objs.size := by simpa using hb
    subst e
    exact I1.fpOk (Nat.le_refl _) (I1.hok.fresh (Nat.le_refl _))
def iRng1 (ta : TA) : TI := fun σ H R => ta σ H fun vs H1 => ∃ j : Int, vs = [.int j] ∧ -(2 ^ 62) ≤ j ∧ j < 2 ^ 62 ∧ R (Itr 0 j.toNat) H1
def iRng2 (ta : TA) : TI := fun σ H R => ta σ H fun vs H1 => ∃ i j : Int, vs = [.int i, .int j] ∧ (-(2 ^ 62) ≤ i ∧ i < 2 ^ 62 ∧ -(2 ^ 62) ≤ j ∧ j < 2 ^ 62) ∧ R (Itr i (j - i).toNat) H1
theorem pi_range1 {a : Expr} {ta : TA} {p pos : Pos} (hg : Gl X "range") (hm : X.mg "range" = none) (ha : PA X [a] ta) (hs : starEach [a] X.env = [(false, eval a X.env)] := by rfl) : PI X tg (.Call (.Name "range" p) [a] [] pos) (iRng1 ta) := by
  intro pins s σ H R I h
  refine Call_ (ld_blt I hg hm boot_range (PyProof.Rows.callWith_type1 (thn (ha pos pins s σ H _ I h) fun us s1 ⟨vs, H1, I1, r1, q1⟩ => ?_) hs rfl))
  obtain ⟨j, e, q1, q2, q⟩ := q1
  subst e
  cases r1 with
  | cons r rr =>
    cases rr
    obtain ⟨t, rfl⟩ := r
    exact call_range_1 (range_it I1 (by omega) (by omega) q1 q2 (by simpa using q))
theorem pi_range2 {a b : Expr} {ta : TA} {p pos : Pos} (hg : Gl X "range") (hm : X.mg "range" = none) (ha : PA X [a, b] ta) (hs : starEach [a, b] X.env = [(false, eval a X.env), (false, eval b X.env)] := by rfl) (hs2 : starEach [b] X.env = [(false, eval b X.env)] := by rfl) :
    PI X tg (.Call (.Name "range" p) [a, b] [] pos) (iRng2 ta) := by
  intro pins s σ H R I h
  refine Call_ (ld_blt I hg hm boot_range (PyProof.Rows.callWith_type1 (thn (ha pos pins s σ H _ I h) fun us s1 ⟨vs, H1, I1, r1, q1⟩ => ?_) (by rw [hs, hs2]) (by rw [hs2]; rfl)))
  obtain ⟨i, j, e, ⟨q1, q2, q3, q4⟩, q⟩ := q1
  subst e
  cases r1 with
  | cons r rr =>
    cases rr with
    | cons r' rr =>
      cases rr
      obtain ⟨t, rfl⟩ := r
      obtain ⟨t', rfl⟩ := r'
      exact call_range_2 (range_it I1 q1 q2 q3 q4 q)

/-! ### for -/
/-- W: the invariant by the turn and a measure; N: what the body is to reach -/
def tFor (wi : TI) (g : TG) (tb : TS) : TS := fun D σ H => wi σ H fun J H1 => ∃ W : Nat → Nat → St → Hp → Prop, (∃ m, W 0 m σ H1) ∧ ∀ i m σ H, W i m σ H →
  (J.stop i H ∧ D.nx σ H) ∨ (J.go i H ∧ ∃ N : St → Hp → Prop, (∀ σ' H', N σ' H' → ∃ m', m' < m ∧ W (i + 1) m' σ' H') ∧ ∀ x H', J.yld i H x H' → g x σ H' fun σ2 H2 => tb { D with nx := N, ct := N, bk := D.nx } σ2 H2)
/-- the records at fp as they stand -/
def pinsAt (fp : List Addr) (h : Heap) : List (Addr × Obj) := fp.filterMap fun b => (h.get? b).map fun o => (b, o)
theorem mem_pinsAt {fp : List Addr} {h : Heap} {b : Addr} {o : Obj} (hb : b ∈ fp) (e : h.get? b = some o) : (b, o) ∈ pinsAt fp h := List.mem_filterMap.mpr ⟨b, hb, by rw [e]; rfl⟩
theorem of_pinsAt {fp : List Addr} {h : Heap} {p : Addr × Obj} (hp : p ∈ pinsAt fp h) : p.1 ∈ fp ∧ h.get? p.1 = some p.2 := by
  obtain ⟨b, hb, e⟩ := List.mem_filterMap.mp hp
  cases q : h.get? b with
  | none => rw [q] at e; cases e
  | some o =>
    rw [q] at e
    have e' : (b, o) = p := Option.some.inj e
    subst e'
    exact ⟨hb, q⟩
theorem Inv.pinned {pins : List (Addr × Obj)} {σ : St} {H : Hp} {s : Shared} {fp : List Addr} (I : Inv X pins σ H s) (hf : ∀ b ∈ fp, FpOk X pins H b) (ho : ∀ b ∈ fp, ∃ o, s.heap.get? b = some o ∧ ∀ v, o.data ≠ .cell v) : Inv X (pins ++ pinsAt fp s.heap) σ H s :=
  I.pins_of fun p hp => (List.mem_append.mp hp).elim (fun z => I.pin p (List.mem_append_right _ z)) fun z => by
    obtain ⟨hb, e⟩ := of_pinsAt z
    obtain ⟨f0, f1, f2, _⟩ := hf p.1 hb
    obtain ⟨o, e', d⟩ := ho p.1 hb
    rw [e] at e'; cases e'
    exact ⟨e, f0, f1, f2, d⟩
theorem Inv.unpinned {pins pl : List (Addr × Obj)} {σ : St} {H : Hp} {s : Shared} (I : Inv X (pins ++ pl) σ H s) : Inv X pins σ H s := I.pins_of fun p hp => I.pin p (List.mem_append_right _ (List.mem_append_left _ hp))
theorem ps_for {iter : Expr} {body : List Stmt} {wi : TI} {g : TG} {tb : TS} {pos : Pos} (hp : PassesOwn (model X.prog X.w) X.A X.env X.xe) (hc : X.calm = true) (hi : PI X tg iter wi) (hg : PG X tg g) (hb : PSs X body tb)
    (hs : ∀ x, foldedSetIterable iter X.env x = pure x := by intro _; rfl) : PS X (.For tg iter body [] pos) (tFor wi g tb) := by
  intro pins s σ H D I h
  refine wpAny_For (thn (hi pins s σ H _ I h) fun v s1 h1 => thn h1 fun itv s2 h2 => ?_) hs
  obtain ⟨it, fp, tn, J, H2, e, I2, T, st2, f2, W, ⟨m0, w0⟩, turn⟩ := h2
  subst e
  -- what stays true of the iterator's objects through the loop
  have stat : ∀ {H' : Hp}, (∀ b ∈ fp, H' b = none) → ∀ b ∈ fp, FpOk X pins H' b := fun hn b hb => ⟨hn b hb, (f2 b hb).2⟩
  refine codeAny_forLoop_any (fun n s' => ∃ i σ' H', Inv X pins σ' H' s' ∧ tn i s'.heap ∧ (∀ b ∈ fp, H' b = none) ∧ W i n σ' H') ?_ m0 ⟨0, σ, H2, I2, st2, fun b hb => (f2 b hb).1, w0⟩
  rintro n s3 ⟨i, σ3, H3, I3, st3, fr3, w3⟩
  rcases turn i n σ3 H3 w3 with ⟨stop, qn⟩ | ⟨go, N, hN, step⟩
  · refine wpAny_passesOwn hp (thn (T.done X rfl rfl rfl hc i pins s3 σ3 H3 X.xe I3 (stat fr3) st3 stop) fun r s4 ⟨hr, I4⟩ => ?_)
    subst hr
    exact wpAny_execs_nil ⟨σ3, H3, I4, qn⟩
  · refine wpAny_passesOwn hp (thn (T.item X rfl rfl rfl hc i pins s3 σ3 H3 X.xe I3 (stat fr3) st3 go) fun r s4 ⟨u, hr, h4⟩ => ?_)
    subst hr
    refine wpAny_passesOwn hp (thn h4 fun _ s5 ⟨x, H5, I5, r5, y5, st5, fr5⟩ => ?_)
    have I5' := I5.pinned (stat fr5) (T.obj _ _ st5)
    refine wpAny_passesOwn hp (thn (hg _ s5 σ3 H5 x u _ I5' r5 (step x H5 y5)) fun _ s6 ⟨σ6, H6, I6, q6⟩ => ?_)
    refine wpAny_passesOwn hp (thn (hb _ s6 σ6 H6 _ I6 q6) fun f s7 q7 => ?_)
    have again : ∀ {σ7 : St} {H7 : Hp}, Inv X (pins ++ pinsAt fp s5.heap) σ7 H7 s7 → N σ7 H7 → ∃ m, m < n ∧ ∃ i σ' H', Inv X pins σ' H' s7 ∧ tn i s7.heap ∧ (∀ b ∈ fp, H' b = none) ∧ W i m σ' H' := fun {σ7 H7} I7 n7 => by
      obtain ⟨m', hm, w7⟩ := hN σ7 H7 n7
      refine ⟨m', hm, i + 1, σ7, H7, I7.unpinned, T.keep _ _ _ st5 fun b hb o e => (I7.pin (b, o) (List.mem_append_right _ (List.mem_append_right _ (mem_pinsAt hb e)))).1, fun b hb => ?_, w7⟩
      obtain ⟨o, e, d⟩ := T.obj _ _ st5 b hb
      exact (I7.pin (b, o) (List.mem_append_right _ (List.mem_append_right _ (mem_pinsAt hb e)))).2.1
    cases f with
    | next => obtain ⟨σ7, H7, I7, n7⟩ := q7; exact again I7 n7
    | cont => obtain ⟨σ7, H7, I7, n7⟩ := q7; exact again I7 n7
    | brk => obtain ⟨σ7, H7, I7, q7⟩ := q7; exact ⟨σ7, H7, I7.unpinned, q7⟩
    | ret v => obtain ⟨x7, σ7, H7, I7, r7, q7⟩ := q7; exact ⟨x7, σ7, H7, I7.unpinned, r7, q7⟩
end

/-! ### the forms one uses -/
end L2

namespace L2
open PySem PySem.Spec PyProof.Rows

abbrev R2 := V → V → Hp → VK → Prop
/-- a two-place operation on values: f is binaryOp op, inplaceOp op or compareOp op -/
def OpR (X : Cx) (f : Value → Value → Sem Value) (r : R2) : Prop :=
  ∀ (pins : List (Addr × Obj)) (s : Shared) (σ : St) (H : Hp) (x y : V) (v u : Value) (Q : VK), Inv X pins σ H s → RelV x v → RelV y u → r x y H Q →
    wpAny (model X.prog X.w) X.A (f v u) (EP X pins σ Q) X.xe s
/-- a one-place operation -/
def UnR (X : Cx) (f : Value → Sem Value) (r : V → Hp → VK → Prop) : Prop :=
  ∀ (pins : List (Addr × Obj)) (s : Shared) (σ : St) (H : Hp) (x : V) (v : Value) (Q : VK), Inv X pins σ H s → RelV x v → r x H Q →
    wpAny (model X.prog X.w) X.A (f v) (EP X pins σ Q) X.xe s
/-- a call of a value that is known (a builtin, a type) with values -/
def CallR (X : Cx) (f : Value) (r : List V → Hp → VK → Prop) : Prop :=
  ∀ (pins : List (Addr × Obj)) (s : Shared) (σ : St) (H : Hp) (xs : List V) (us : List Value) (Q : VK), Inv X pins σ H s → Vals xs us → r xs H Q →
    wpAny (model X.prog X.w) X.A (call f us) (EP X pins σ Q) X.xe s
/-- a value's truth -/
def TruR (X : Cx) (r : V → Hp → (Bool → Hp → Prop) → Prop) : Prop :=
  ∀ (pins : List (Addr × Obj)) (s : Shared) (σ : St) (H : Hp) (x : V) (v : Value) (Q : Bool → Hp → Prop), Inv X pins σ H s → RelV x v → r x H Q →
    wpAny (model X.prog X.w) X.A (truthy v) (TP X pins σ Q) X.xe s

def tOp (r : R2) (ta tb : TE) : TE := fun σ H Q => ta σ H fun x H1 => tb σ H1 fun y H2 => r x y H2 Q
def tUn (r : V → Hp → VK → Prop) (ta : TE) : TE := fun σ H Q => ta σ H fun x H1 => r x H1 Q
/-- ints in, under C, and a value out -/
def rI (C : Int → Int → Prop) (g : Int → Int → V) : R2 := fun x y H Q => ∃ i j, x = .int i ∧ y = .int j ∧ C i j ∧ Q (g i j) H
def rI0 (g : Int → Int → V) : R2 := fun x y H Q => ∃ i j, x = .int i ∧ y = .int j ∧ Q (g i j) H
def rU (g : Int → V) : V → Hp → VK → Prop := fun x H Q => ∃ i, x = .int i ∧ Q (g i) H

section
variable {X : Cx} {a b c : Expr} {ta tb tc : TE} {pos : Pos}

theorem binT (ha : PE X a ta) (hb : PE X b tb) {pins : List (Addr × Obj)} {s : Shared} {σ : St} {H : Hp} {R : V → V → Hp → Prop} (I : Inv X pins σ H s)
    (h : ta σ H fun x H1 => tb σ H1 fun y H2 => R x y H2) {Q : Value → Shared → Prop} {f : Value → Value → Sem Value}
    (hf : ∀ v u s2 x y H2, Inv X pins σ H2 s2 → RelV x v → RelV y u → R x y H2 → wpAny (model X.prog X.w) X.A (f v u) Q X.xe s2) :
    wpAny (model X.prog X.w) X.A (eval a X.env) (fun v s₁ => wpAny (model X.prog X.w) X.A (eval b X.env) (fun u s₂ => wpAny (model X.prog X.w) X.A (f v u) Q X.xe s₂) X.xe s₁) X.xe s := by
  refine thn (ha pins s σ H _ I h) fun v s1 ⟨x, H1, I1, r1, q1⟩ => ?_
  refine thn (hb pins s1 σ H1 _ I1 q1) fun u s2 ⟨y, H2, I2, r2, q2⟩ => ?_
  exact hf v u s2 x y H2 I2 r1 r2 q2

theorem pe_op {op : Operator} {r : R2} (ho : OpR X (binaryOp op) r) (ha : PE X a ta) (hb : PE X b tb) : PE X (.BinOp a op b pos) (tOp r ta tb) := by
  intro pins s σ H Q I h
  exact wpAny_BinOp (binT ha hb I h fun v u s2 x y H2 I2 rx ry q => ho pins s2 σ H2 x y v u Q I2 rx ry q)
/-! ### ints -/
theorem opI {f : Value → Value → Sem Value} {C : Int → Int → Prop} {g : Int → Int → Int}
    (rule : ∀ (i j : Int) (t u : Tok) (s : Shared) (Q : Value → Shared → Prop) (E : Value → Shared → Prop), C i j → Q (.int (g i j) s.toks) { s with toks := s.toks + 1 } → wpAny (model X.prog X.w) X.A (f (.int i t) (.int j u)) Q E s) :
    OpR X f (rI C fun i j => .int (g i j)) := by
  intro pins s σ H x y v u Q I rx ry h
  obtain ⟨i, j, rfl, rfl, hc, q⟩ := h
  obtain ⟨t, rfl⟩ := rx
  obtain ⟨t', rfl⟩ := ry
  exact rule i j t t' s _ _ hc ⟨.int (g i j), H, I.tok _, ⟨_, rfl⟩, q⟩
theorem opI0 {f : Value → Value → Sem Value} {g : Int → Int → Int}
    (rule : ∀ (i j : Int) (t u : Tok) (s : Shared) (Q : Value → Shared → Prop) (E : Value → Shared → Prop), Q (.int (g i j) s.toks) { s with toks := s.toks + 1 } → wpAny (model X.prog X.w) X.A (f (.int i t) (.int j u)) Q E s) :
    OpR X f (rI0 fun i j => .int (g i j)) := by
  intro pins s σ H x y v u Q I rx ry h
  obtain ⟨i, j, rfl, rfl, q⟩ := h
  obtain ⟨t, rfl⟩ := rx
  obtain ⟨t', rfl⟩ := ry
  exact rule i j t t' s _ _ ⟨.int (g i j), H, I.tok _, ⟨_, rfl⟩, q⟩
theorem opB0 {f : Value → Value → Sem Value} {g : Int → Int → Bool}
    (rule : ∀ (i j : Int) (t u : Tok) (s : Shared) (Q : Value → Shared → Prop) (E : Value → Shared → Prop), Q (.bool (g i j)) s → wpAny (model X.prog X.w) X.A (f (.int i t) (.int j u)) Q E s) :
    OpR X f (rI0 fun i j => .bl (g i j)) := by
  intro pins s σ H x y v u Q I rx ry h
  obtain ⟨i, j, rfl, rfl, q⟩ := h
  obtain ⟨t, rfl⟩ := rx
  obtain ⟨t', rfl⟩ := ry
  exact rule i j t t' s _ _ ⟨.bl (g i j), H, I, rfl, q⟩

def CDiv (i j : Int) : Prop := 0 < j ∧ j < 1073741824
def CDivN (i j : Int) : Prop := j ≠ 0 ∧ j.natAbs < 1073741824
def CPow (i j : Int) : Prop := 0 ≤ j ∧ j ≤ 1000000 ∧ i.natAbs < 2 ^ 64
def CMul (i j : Int) : Prop := (-(2 ^ 64) < i ∧ i < 2 ^ 64) ∨ (-(2 ^ 64) < j ∧ j < 2 ^ 64)
theorem CMul.ok {i j : Int} (h : CMul i j) : IntMulOk i j := by
  rcases h with ⟨h1, h2⟩ | ⟨h1, h2⟩
  · exact .of_left (intBits_le_64 h1 h2)
  · exact .of_right (intBits_le_64 h1 h2)
theorem op_add : OpR X (binaryOp .Add) (rI0 fun i j => .int (i + j)) := opI0 fun _ _ _ _ _ _ _ q => add_int q
theorem op_sub : OpR X (binaryOp .Sub) (rI0 fun i j => .int (i - j)) := opI0 fun _ _ _ _ _ _ _ q => sub_int q
theorem op_mul : OpR X (binaryOp .Mult) (rI CMul fun i j => .int (i * j)) := opI fun _ _ _ _ _ _ _ hc q => mul_int q hc.ok
/-- // by a positive divisor -/
theorem op_fdiv : OpR X (binaryOp .FloorDiv) (rI CDiv fun i j => .int (i / j)) := opI fun i j _ _ _ _ _ hc q => by
  have h1 : (0 : Int) < j := hc.1
  have h2 : j < 1073741824 := hc.2
  exact floordiv_int (by omega) (by rw [Int.fdiv_eq_ediv_of_nonneg i (by omega)]; exact q) (.inl (PyProof.noPylong_small (by omega)))
/-- % by a positive divisor of any size -/
theorem op_mod : OpR X (binaryOp .Mod) (rI (fun _ j => 0 < j) fun i j => .int (i % j)) := opI fun i j _ _ _ _ _ hc q => by
  have h1 : (0 : Int) < j := hc
  exact mod_int' (by omega) (by rw [Int.fmod_eq_emod_of_nonneg i (by omega)]; exact q)
theorem op_pow : OpR X (binaryOp .Pow) (rI CPow fun i j => .int (i ^ j.toNat)) := opI fun _ _ _ _ _ _ _ hc q => pow_int_small hc.1 hc.2.1 hc.2.2 q
/-! ### bools among ints: n += (a < b) -/
end

/-! ### comparisons -/
/-- the scalars that == tells apart as data does -/
def scal : V → V → Bool
  | .non, .non => true | .non, .int _ => true | .int _, .non => true | .non, .bl _ => true | .bl _, .non => true | .non, .str _ => true | .str _, .non => true
  | .int _, .int _ => true | .bl _, .bl _ => true | .str _, .str _ => true | .byt _, .byt _ => true
  | .int _, .str _ => true | .str _, .int _ => true | .bl _, .str _ => true | .str _, .bl _ => true
  | _, _ => false
def rEq : R2 := fun x y H Q => scal x y = true ∧ Q (.bl (decide (x = y))) H
def rNe : R2 := fun x y H Q => scal x y = true ∧ Q (.bl (!decide (x = y))) H

theorem dec_int {i j : Int} : decide (V.int i = V.int j) = (i == j) := by
  rw [Bool.eq_iff_iff]
  simp
theorem dec_bl {i j : Bool} : decide (V.bl i = V.bl j) = (i == j) := by
  rw [Bool.eq_iff_iff]
  simp
theorem dec_str {i j : Str} : decide (V.str i = V.str j) = (i == j) := by
  rw [Bool.eq_iff_iff]
  simp
theorem dec_byt {i j : Array UInt8} : decide (V.byt i = V.byt j) = (i.toList == j.toList) := by
  rw [Bool.eq_iff_iff]
  cases i
  cases j
  simp

section
variable {X : Cx} {a b c : Expr} {ta tb tc : TE} {pos : Pos}
theorem fin_bl {pins : List (Addr × Obj)} {σ : St} {H : Hp} {s : Shared} {Q : VK} {k k' : Bool} (I : Inv X pins σ H s) (q : Q (.bl k) H) (e : k = k') : EP X pins σ Q (.bool k') s := by
  subst e
  exact ⟨.bl k, H, I, rfl, q⟩
theorem op_eq : OpR X (compareOp .Eq) rEq := by
  intro pins s σ H x y v u Q I rx ry h
  obtain ⟨hs, q⟩ := h
  cases x with
  | non =>
    cases rx
    cases y with
    | non => cases ry; exact PySem.EqNone.eq_none_none (fin_bl I q (by simp))
    | bl j => cases ry; exact PySem.EqNone.eq_none_bool (fin_bl I q (by simp))
    | int j => obtain ⟨t', rfl⟩ := ry; exact PySem.EqNone.eq_none_int (fin_bl I q (by simp))
    | str j => obtain ⟨t', rfl⟩ := ry; exact PySem.EqNone.eq_none_str (fin_bl I q (by simp))
    | _ => exact absurd (show false = true from hs) Bool.false_ne_true
  | bl i =>
    cases rx
    cases y with
    | non => cases ry; exact PySem.EqNone.eq_bool_none (fin_bl I q (by simp))
    | bl j => cases ry; exact eq_bool (fin_bl I q dec_bl)
    | str j => obtain ⟨t', rfl⟩ := ry; exact PySem.EqMixed.eq_bool_str (fin_bl I q (by simp))
    | _ => exact absurd (show false = true from hs) Bool.false_ne_true
  | int i =>
    obtain ⟨t, rfl⟩ := rx
    cases y with
    | non => cases ry; exact PySem.EqNone.eq_int_none (fin_bl I q (by simp))
    | int j => obtain ⟨t', rfl⟩ := ry; exact eq_int (fin_bl I q dec_int)
    | str j => obtain ⟨t', rfl⟩ := ry; exact PySem.EqMixed.eq_int_str (fin_bl I q (by simp))
    | _ => exact absurd (show false = true from hs) Bool.false_ne_true
  | str i =>
    obtain ⟨t, rfl⟩ := rx
    cases y with
    | non => cases ry; exact PySem.EqNone.eq_str_none (fin_bl I q (by simp))
    | bl j => cases ry; exact PySem.EqMixed.eq_str_bool (fin_bl I q (by simp))
    | int j => obtain ⟨t', rfl⟩ := ry; exact PySem.EqMixed.eq_str_int (fin_bl I q (by simp))
    | str j => obtain ⟨t', rfl⟩ := ry; exact eq_str (fin_bl I q dec_str)
    | _ => exact absurd (show false = true from hs) Bool.false_ne_true
  | byt i =>
    obtain ⟨t, rfl⟩ := rx
    cases y with
    | byt j => obtain ⟨t', rfl⟩ := ry; exact PySem.W.eq_bytes (fin_bl I q dec_byt)
    | _ => exact absurd (show false = true from hs) Bool.false_ne_true
  | _ => cases y <;> exact absurd (show false = true from hs) Bool.false_ne_true
theorem op_ne : OpR X (compareOp .NotEq) rNe := by
  intro pins s σ H x y v u Q I rx ry h
  obtain ⟨hs, q⟩ := h
  cases x with
  | non =>
    cases rx
    cases y with
    | non => cases ry; exact PySem.EqNone.ne_none_none (fin_bl I q (by simp))
    | bl j => cases ry; exact PySem.EqNone.ne_none_bool (fin_bl I q (by simp))
    | int j => obtain ⟨t', rfl⟩ := ry; exact PySem.EqNone.ne_none_int (fin_bl I q (by simp))
    | str j => obtain ⟨t', rfl⟩ := ry; exact PySem.EqNone.ne_none_str (fin_bl I q (by simp))
    | _ => exact absurd (show false = true from hs) Bool.false_ne_true
  | bl i =>
    cases rx
    cases y with
    | non => cases ry; exact PySem.EqNone.ne_bool_none (fin_bl I q (by simp))
    | bl j => cases ry; exact ne_bool (fin_bl I q (congrArg not dec_bl))
    | str j => obtain ⟨t', rfl⟩ := ry; exact PySem.EqMixed.ne_bool_str (fin_bl I q (by simp))
    | _ => exact absurd (show false = true from hs) Bool.false_ne_true
  | int i =>
    obtain ⟨t, rfl⟩ := rx
    cases y with
    | non => cases ry; exact PySem.EqNone.ne_int_none (fin_bl I q (by simp))
    | int j => obtain ⟨t', rfl⟩ := ry; exact ne_int (fin_bl I q (congrArg not dec_int))
    | str j => obtain ⟨t', rfl⟩ := ry; exact PySem.EqMixed.ne_int_str (fin_bl I q (by simp))
    | _ => exact absurd (show false = true from hs) Bool.false_ne_true
  | str i =>
    obtain ⟨t, rfl⟩ := rx
    cases y with
    | non => cases ry; exact PySem.EqNone.ne_str_none (fin_bl I q (by simp))
    | bl j => cases ry; exact PySem.EqMixed.ne_str_bool (fin_bl I q (by simp))
    | int j => obtain ⟨t', rfl⟩ := ry; exact PySem.EqMixed.ne_str_int (fin_bl I q (by simp))
    | str j => obtain ⟨t', rfl⟩ := ry; exact ne_str (fin_bl I q (congrArg not dec_str))
    | _ => exact absurd (show false = true from hs) Bool.false_ne_true
  | byt i =>
    obtain ⟨t, rfl⟩ := rx
    cases y with
    | byt j => obtain ⟨t', rfl⟩ := ry; exact PySem.W.ne_bytes (fin_bl I q (congrArg not dec_byt))
    | _ => exact absurd (show false = true from hs) Bool.false_ne_true
  | _ => cases y <;> exact absurd (show false = true from hs) Bool.false_ne_true

theorem op_lt : OpR X (compareOp .Lt) (rI0 fun i j => .bl (decide (i < j))) := opB0 fun _ _ _ _ _ _ _ q => lt_int q
theorem op_le : OpR X (compareOp .LtE) (rI0 fun i j => .bl (decide (i ≤ j))) := opB0 fun _ _ _ _ _ _ _ q => le_int q
theorem op_gt : OpR X (compareOp .Gt) (rI0 fun i j => .bl (decide (j < i))) := opB0 fun _ _ _ _ _ _ _ q => gt_int q
theorem op_ge : OpR X (compareOp .GtE) (rI0 fun i j => .bl (decide (j ≤ i))) := opB0 fun _ _ _ _ _ _ _ q => ge_int q
theorem op_lt_str : OpR X (compareOp .Lt) (fun x y H Q => ∃ i j, x = .str i ∧ y = .str j ∧ Q (.bl (decide (i.cps.toList < j.cps.toList))) H) := by
  intro pins s σ H x y v u Q I rx ry h
  obtain ⟨i, j, rfl, rfl, q⟩ := h
  obtain ⟨t, rfl⟩ := rx
  obtain ⟨t', rfl⟩ := ry
  exact lt_str (fin_bl I q rfl)
/-- the one string within the other -/
theorem op_in_str : OpR X (compareOp .In) (fun x y H Q => ∃ i j, x = .str i ∧ y = .str j ∧ Q (.bl (!(Builtin.Str.occurrences j i 0 j.length 1).isEmpty)) H) := by
  intro pins s σ H x y v u Q I rx ry h
  obtain ⟨i, j, rfl, rfl, q⟩ := h
  obtain ⟨t, rfl⟩ := rx
  obtain ⟨t', rfl⟩ := ry
  exact in_str (fin_bl I q rfl)

/-- is, is not of two objects that are tracked lists or instances -/
def isObj : HO → Bool
  | .lst _ => true
  | .ins _ _ _ => true
  | _ => false
/-- two rules for one operation: by cases -/
theorem OpR.or {f : Value → Value → Sem Value} {r r' : R2} (h : OpR X f r) (h' : OpR X f r') : OpR X f (fun x y H Q => r x y H Q ∨ r' x y H Q) := by
  intro pins s σ H x y v u Q I rx ry q
  rcases q with q | q
  · exact h pins s σ H x y v u Q I rx ry q
  · exact h' pins s σ H x y v u Q I rx ry q

theorem nomark (b : Expr) {op : CmpOp} (h : op ≠ .In := by decide) (h2 : op ≠ .NotIn := by decide) : behindInMarks op b = false := by
  have e1 : (op == CmpOp.In) = false := by cases op <;> first | rfl | exact absurd rfl h
  have e2 : (op == CmpOp.NotIn) = false := by cases op <;> first | rfl | exact absurd rfl h2
  cases b <;> simp [behindInMarks, e1, e2]
/-- a comparison as a value; hm: nomark b, or (for in, not in) by with_unfolding_all rfl -/
theorem pe_cmpR {op : CmpOp} {r : R2} (ho : OpR X (compareOp op) r) (ha : PE X a ta) (hb : PE X b tb) (hm : behindInMarks op b = false) : PE X (.Compare a [op] [b] pos) (tOp r ta tb) := by
  intro pins s σ H Q I h
  exact wpAny_Compare1 (binT ha hb I h fun v u s2 x y H2 I2 rx ry q => ho pins s2 σ H2 x y v u Q I2 rx ry q) hm
/-- a reading of a value as a test -/
def tTest (t : TE) : TT := fun σ H Q => t σ H fun x H' => ∃ k, x = .bl k ∧ Q k H'
theorem pt_cmpR {op : CmpOp} {r : R2} (ho : OpR X (compareOp op) r) (ha : PE X a ta) (hb : PE X b tb) (hm : behindInMarks op b = false) : PT X (.Compare a [op] [b] pos) (tTest (tOp r ta tb)) := by
  intro pins s σ H Q I h
  refine wpAny_isTrue_Compare1 (thn (ha pins s σ H _ I h) fun v s1 ⟨x, H1, I1, r1, q1⟩ => thn (hb pins s1 σ H1 _ I1 q1) fun u s2 ⟨y, H2, I2, r2, q2⟩ =>
    thn (ho pins s2 σ H2 x y v u _ I2 r1 r2 q2) fun c s3 ⟨z, H3, I3, r3, k, e, q3⟩ => ?_) hm
  subst e
  cases r3
  exact wpAny_truthy_bool ⟨H3, I3, q3⟩
/-- a op1 b op2 c -/
def tChain (r r' : R2) (ta tb tc : TE) : TE := fun σ H Q => ta σ H fun x H1 => tb σ H1 fun y H2 => r x y H2 fun z H3 => ∃ k, z = .bl k ∧
  (if k = true then tc σ H3 fun w' H4 => r' y w' H4 Q else Q (.bl false) H3)
theorem pe_chain {op op' : CmpOp} {r r' : R2} (ho : OpR X (compareOp op) r) (ho' : OpR X (compareOp op') r') (ha : PE X a ta) (hb : PE X b tb) (hc : PE X c tc)
    (hm : lastMarks [op, op'] [b, c] = false := by with_unfolding_all rfl) : PE X (.Compare a [op, op'] [b, c] pos) (tChain r r' ta tb tc) := by
  intro pins s σ H Q I h
  refine Compare_chain (thn (ha pins s σ H _ I h) fun v s1 ⟨x, H1, I1, r1, q1⟩ => chain_link (thn (hb pins s1 σ H1 _ I1 q1) fun u s2 ⟨y, H2, I2, r2, q2⟩ =>
    thn (ho pins s2 σ H2 x y v u _ I2 r1 r2 q2) fun d s3 ⟨z, H3, I3, r3, k, e, q3⟩ => ?_)) hm
  subst e
  cases r3
  refine wpAny_truthy_bool ?_
  cases k with
  | false => exact ite_ff ⟨.bl false, H3, I3, rfl, q3⟩
  | true => exact ite_tt (chain_last (thn (hc pins s3 σ H3 _ I3 q3) fun w' s4 ⟨z', H4, I4, r4, q4⟩ => ho' pins s4 σ H4 y z' u w' Q I4 r2 r4 q4))
theorem pt_chain {op op' : CmpOp} {r r' : R2} (ho : OpR X (compareOp op) r) (ho' : OpR X (compareOp op') r') (ha : PE X a ta) (hb : PE X b tb) (hc : PE X c tc)
    (hm : lastMarks [op, op'] [b, c] = false := by with_unfolding_all rfl) : PT X (.Compare a [op, op'] [b, c] pos) (tTest (tChain r r' ta tb tc)) := by
  intro pins s σ H Q I h
  refine isTrue_chain (thn (ha pins s σ H _ I h) fun v s1 ⟨x, H1, I1, r1, q1⟩ => test_link (thn (hb pins s1 σ H1 _ I1 q1) fun u s2 ⟨y, H2, I2, r2, q2⟩ =>
    thn (ho pins s2 σ H2 x y v u _ I2 r1 r2 q2) fun d s3 ⟨z, H3, I3, r3, k, e, q3⟩ => ?_)) hm
  subst e
  cases r3
  refine wpAny_truthy_bool ?_
  cases k with
  | false =>
    obtain ⟨k', e', q'⟩ := q3
    cases e'
    exact ite_ff ⟨H3, I3, q'⟩
  | true =>
    refine ite_tt (test_last (thn (hc pins s3 σ H3 _ I3 q3) fun w' s4 ⟨z', H4, I4, r4, q4⟩ => thn (ho' pins s4 σ H4 y z' u w' _ I4 r2 r4 q4) fun d' s5 ⟨z2, H5, I5, r5, k2, e2, q5⟩ => ?_))
    subst e2
    cases r5
    exact wpAny_truthy_bool ⟨H5, I5, q5⟩

/-! ### truth -/
/-- a value's truth by the abstract heap -/
def TruV (K : PySem.W.Frag) (x : V) (H : Hp) (k : Bool) : Prop :=
  match x with
  | .non => k = false
  | .bl b => k = b
  | .int i => k = (i != 0)
  | .str y => y.length ≤ sizeLine ∧ k = ((y.length : Int) != 0)
  | .byt y => y.size ≤ sizeLine ∧ k = ((y.size : Int) != 0)
  | .ref p => (∃ xs, SqL K H p xs ∧ k = !xs.isEmpty) ∨ (∃ xs, SqT K H p xs ∧ k = !xs.isEmpty) ∨ ∃ kvs, H p = some (.dK kvs) ∧ k = !kvs.isEmpty
  | _ => False
theorem isEmpty_kv {κ : Type} {kvs : List (κ × V)} {vs : List (κ × Value)} (r : KV kvs vs) : (!vs.isEmpty) = !kvs.isEmpty := by
  cases r <;> rfl
theorem isEmpty_of {xs : List V} {its : List Value} (r : Vals xs its) : (!its.toArray.isEmpty) = !xs.isEmpty := by
  cases r <;> simp
theorem line63 : (sizeLine : Nat) < 2 ^ 63 := by rw [sizeLine_eq]; decide
theorem tru_ok : TruR X (fun x H Q => ∃ k, TruV X.K x H k ∧ Q k H) := by
  intro pins s σ H x v Q I rx h
  obtain ⟨k, e, q⟩ := h
  have hl := line63
  have hs : sizeLine = 16777216 := sizeLine_eq
  cases x with
  | non =>
    cases rx
    have e' : k = false := e
    subst e'
    exact truthy_none ⟨H, I, q⟩
  | bl b =>
    cases rx
    have e' : k = b := e
    subst e'
    exact wpAny_truthy_bool ⟨H, I, q⟩
  | int i =>
    obtain ⟨t, rfl⟩ := rx
    have e' : k = (i != 0) := e
    subst e'
    exact PySem.P.truthy_int ⟨H, I, q⟩
  | str y =>
    obtain ⟨t, rfl⟩ := rx
    obtain ⟨hy, e'⟩ : y.length ≤ sizeLine ∧ k = ((y.length : Int) != 0) := e
    subst e'
    exact PySem.P.truthy_str (by omega) ⟨H, I.tok _, q⟩
  | byt y =>
    obtain ⟨t, rfl⟩ := rx
    obtain ⟨hy, e'⟩ : y.size ≤ sizeLine ∧ k = ((y.size : Int) != 0) := e
    subst e'
    exact PySem.W.truthy_bytes (by omega) ⟨H, I.tok _, q⟩
  | ref p =>
    cases rx
    have e' : (∃ xs, SqL X.K H p xs ∧ k = !xs.isEmpty) ∨ (∃ xs, SqT X.K H p xs ∧ k = !xs.isEmpty) ∨ ∃ kvs, H p = some (.dK kvs) ∧ k = !kvs.isEmpty := e
    rcases e' with ⟨xs, hx, e'⟩ | ⟨xs, hx, e'⟩ | ⟨kvs, hx, e'⟩
    · subst e'
      obtain ⟨its, r, pl, hz⟩ := I.list hx
      have hlen := r.length
      exact wpAny_truthy_list pl.isList (by simp only [List.size_toArray]; omega) ⟨H, I.tok _, by rw [isEmpty_of r]; exact q⟩
    · subst e'
      obtain ⟨its, r, pl, hz⟩ := I.tuple hx
      have hlen := r.length
      exact truthy_tuple pl (by simp only [List.size_toArray]; omega) ⟨H, I.tok _, by rw [isEmpty_of r]; exact q⟩
    · subst e'
      obtain ⟨hz, hS, vs, r, m⟩ : kvs.length ≤ sizeLine ∧ (p == sysModules) = false ∧ ∃ vs, KV kvs vs ∧ s.heap.DictOf (mixKind X.prog X.w) p vs := I.hok p _ hx
      have hlen : kvs.length = vs.length := Paired.length r
      exact wpAny_truthy_dict hS m (by omega) ⟨H, I.tok _, by rw [isEmpty_kv r]; exact q⟩
  | _ => exact (show False from e).elim
/-! ### strs and bytes -/
def PlainIxT (b : Expr) : Prop := ∀ o i, subscripted b false o i = operate [o, i] (getItem o i)
/-! ### scalar builtins, by CallR -/
theorem vals1 {x : V} {us : List Value} (r : Vals [x] us) : ∃ u, us = [u] ∧ RelV x u := by
  cases r with
  | cons r1 r2 => cases r2; exact ⟨_, rfl, r1⟩
theorem vals2 {x y : V} {us : List Value} (r : Vals [x, y] us) : ∃ u w', us = [u, w'] ∧ RelV x u ∧ RelV y w' := by
  cases r with
  | cons r1 r2 =>
    cases r2 with
    | cons r3 r4 => cases r4; exact ⟨_, _, rfl, r1, r3⟩
theorem call_max2 (hc : X.calm = true) : CallR X (.builtin "max") (fun xs H Q => ∃ i j, xs = [.int i, .int j] ∧ Q (.int (if j > i then j else i)) H) := by
  intro pins s σ H xs us Q I r h
  obtain ⟨i, j, rfl, q⟩ := h
  obtain ⟨u, w', rfl, ⟨t, rfl⟩, ⟨t', rfl⟩⟩ := vals2 r
  refine max_two_ints (I.ok.hd hc) fun h' tk k => ⟨_, H, I.kept k, ?_, q⟩
  by_cases hj : j > i
  · rw [if_pos hj, if_pos hj]; exact ⟨_, rfl⟩
  · rw [if_neg hj, if_neg hj]; exact ⟨_, rfl⟩
theorem call_min2 (hc : X.calm = true) : CallR X (.builtin "min") (fun xs H Q => ∃ i j, xs = [.int i, .int j] ∧ Q (.int (if j < i then j else i)) H) := by
  intro pins s σ H xs us Q I r h
  obtain ⟨i, j, rfl, q⟩ := h
  obtain ⟨u, w', rfl, ⟨t, rfl⟩, ⟨t', rfl⟩⟩ := vals2 r
  refine min_two_ints (I.ok.hd hc) fun h' tk k => ⟨_, H, I.kept k, ?_, q⟩
  by_cases hj : j < i
  · rw [if_pos hj, if_pos hj]; exact ⟨_, rfl⟩
  · rw [if_neg hj, if_neg hj]; exact ⟨_, rfl⟩
theorem call_int1 : CallR X (.type "int") (fun xs H Q => (∃ i, xs = [.int i] ∧ Q (.int i) H) ∨ ∃ k, xs = [.bl k] ∧ Q (.int (if k then 1 else 0)) H) := by
  intro pins s σ H xs us Q I r h
  rcases h with ⟨i, rfl, q⟩ | ⟨k, rfl, q⟩
  · obtain ⟨u, rfl, t, rfl⟩ := vals1 r
    exact call_int_int ⟨.int i, H, I, ⟨_, rfl⟩, q⟩
  · obtain ⟨u, rfl, r1⟩ := vals1 r
    cases r1
    exact call_int_bool ⟨.int (if k then 1 else 0), H, I.tok _, ⟨_, rfl⟩, q⟩
theorem call_str_int : CallR X (.type "str") (fun xs H Q => ∃ i, xs = [.int i] ∧ i.natAbs.log2 < 1920 ∧ Q (.str (toString i)) H) := by
  intro pins s σ H xs us Q I r h
  obtain ⟨i, rfl, hz, q⟩ := h
  obtain ⟨u, rfl, t, rfl⟩ := vals1 r
  exact PySem.P.str_of_int hz ⟨.str _, H, I.tok _, ⟨_, rfl⟩, q⟩
/-- len of a str, a bytes, a list, a tuple -/
def LenV (K : PySem.W.Frag) (x : V) (H : Hp) (n : Nat) : Prop :=
  match x with
  | .str y => y.length ≤ sizeLine ∧ n = y.length
  | .byt y => y.size ≤ sizeLine ∧ n = y.size
  | .ref p => (∃ xs, SqL K H p xs ∧ n = xs.length) ∨ ∃ xs, SqT K H p xs ∧ n = xs.length
  | _ => False
theorem call_len : CallR X (.builtin "len") (fun xs H Q => ∃ x n, xs = [x] ∧ LenV X.K x H n ∧ Q (.int n) H) := by
  intro pins s σ H xs us Q I r h
  obtain ⟨x, n, rfl, e, q⟩ := h
  obtain ⟨u, rfl, rx⟩ := vals1 r
  have hl := line63
  have hs : sizeLine = 16777216 := sizeLine_eq
  cases x with
  | str y =>
    obtain ⟨t, rfl⟩ := rx
    obtain ⟨hy, e'⟩ : y.length ≤ sizeLine ∧ n = y.length := e
    subst e'
    exact len_str (by omega) ⟨.int _, H, I.tok _, ⟨_, rfl⟩, q⟩
  | byt y =>
    obtain ⟨t, rfl⟩ := rx
    obtain ⟨hy, e'⟩ : y.size ≤ sizeLine ∧ n = y.size := e
    subst e'
    exact PySem.W.len_bytes (by omega) ⟨.int _, H, I.tok _, ⟨_, rfl⟩, q⟩
  | ref p =>
    cases rx
    have e' : (∃ xs, SqL X.K H p xs ∧ n = xs.length) ∨ ∃ xs, SqT X.K H p xs ∧ n = xs.length := e
    rcases e' with ⟨xs, hx, e'⟩ | ⟨xs, hx, e'⟩
    · subst e'
      obtain ⟨its, r', pl, hz⟩ := I.list hx
      have hlen := r'.length
      exact Calls.call_len_list pl.isList (by simp only [List.size_toArray]; omega) ⟨.int xs.length, H, I.tok _, ⟨_, by simp only [List.size_toArray]; rw [hlen]⟩, q⟩
    · subst e'
      obtain ⟨its, r', pl, hz⟩ := I.tuple hx
      have hlen := r'.length
      exact len_tuple pl (by simp only [List.size_toArray]; omega) ⟨.int xs.length, H, I.tok _, ⟨_, by simp only [List.size_toArray]; rw [hlen]⟩, q⟩
  | _ => exact (show False from e).elim
/-- divmod: a new tuple -/
theorem call_divmod : CallR X (.builtin "divmod") (fun xs H Q => ∃ i j, xs = [.int i, .int j] ∧ CDiv i j ∧ ∀ p, H p = none → Q (.ref p) (upd H p (.tup [.int (i / j), .int (i % j)]))) := by
  intro pins s σ H xs us Q I r h
  obtain ⟨i, j, rfl, ⟨h1, h2⟩, q⟩ := h
  obtain ⟨u, w', rfl, ⟨t, rfl⟩, ⟨t', rfl⟩⟩ := vals2 r
  refine divmod_int (by omega) ?_ (.inl (PyProof.noPylong_small (by omega)))
  rw [Int.fdiv_eq_ediv_of_nonneg i (by omega), Int.fmod_eq_emod_of_nonneg i (by omega)]
  have hn : H s.heap.objs.size = none := I.hok.fresh (Nat.le_refl _)
  refine ⟨.ref s.heap.objs.size, _, ?_, rfl, q _ hn⟩
  refine I.laid (fun b o e => Heap.get?_push_of_some _ e) (Nat.le_refl _) ⟨by simp only [List.length_cons, List.length_nil]; rw [sizeLine_eq]; decide, [.int (i / j) s.toks, .int (i % j) (s.toks + 1)], .cons ⟨_, rfl⟩ (.cons ⟨_, rfl⟩ .nil), ?_⟩
  exact ⟨_, Heap.get?_push_size s.heap rfl, rfl, 0, rfl⟩
end
end L2

namespace L2
open PySem PySem.Spec PyProof.Rows

/-! ### an instance, its attributes a map -/
structure ObjM (h : Heap) (x dx C : Addr) (mA : Str → Option Value) : Prop where
  obj : h.get? x = some (PySem.W.instObj C dx)
  ns : h.Ns1 dx mA
  ne : dx ≠ x

section
variable {prog : Program} {w : World} {A : Around} {E : Value → Shared → Prop} {s : Shared} {K : PySem.W.Frag} {x dx C f : Addr} {mA : Str → Option Value} {name : Str} {v : Value}

end

/-! ### the attributes as a list of pairs -/
def putF (f : Str) (v : V) : List (Str × V) → List (Str × V)
  | [] => [(f, v)]
  | (g, x) :: r => if g = f then (g, v) :: r else (g, x) :: putF f v r
section
variable {P : Program} {w : World} {H H' : Hp} {h h' : Heap} {a C dx : Addr} {fs fs' : List (Str × V)}
end

/-! ### what of the text a class must have -/
structure Cls (K : PySem.W.Frag) (C : Addr) : Prop where
  pg : PySem.W.plainGet K C Str.empty = true
  hd : PySem.W.hasDictIn K C = true
  po : PySem.W.plainOver K C = true
  sa : PySem.W.findIn K (.ref C) "__setattr__" = some (some (.builtin "object.__setattr__"))
theorem Cls.get {K : PySem.W.Frag} {C : Addr} (c : Cls K C) (f : Str) : PySem.W.plainGet K C f = true := c.pg
/-- no class of it has the name -/
def NoAttr (K : PySem.W.Frag) (C : Addr) (f : Str) : Prop := PySem.W.findIn K (.ref C) f = some none
/-- a constant of the class -/
structure Con (K : PySem.W.Frag) (C : Addr) (f : Str) (v : V) (u : Value) : Prop where
  at_ : PySem.W.findIn K (.ref C) f = some (some u)
  rel : RelV v u
  get : PySem.W.specialIn K u "__get__" = some none
  cp : PySem.W.copiedNames.contains f = false
/-- a method: a plain def of the class or of one above it -/
structure Meth (K : PySem.W.Frag) (C : Addr) (m : Str) (f : Addr) : Prop where
  at_ : PySem.W.findIn K (.ref C) m = some (some (.ref f))
  fn : PySem.W.isFn K (.ref f) = true
  kp : PySem.W.keepIn K (.ref f) = true

section
variable {X : Cx} {pins : List (Addr × Obj)} {σ : St} {H : Hp} {s : Shared} {a C dx : Addr} {fs : List (Str × V)} {f : Str} {v : V} {A : Around} {E : Value → Shared → Prop}

/-- a new instance, tracked, without attributes -/
theorem Inv.made (I : Inv X pins σ H s) : Inv X pins σ (upd (upd H s.heap.objs.size (.own (s.heap.objs.size + 1))) (s.heap.objs.size + 1) (.ins C s.heap.objs.size []))
    { s with heap := (s.heap.push PySem.W.emptyDict).push (PySem.W.instObj C s.heap.objs.size) } := by
  have e1 : (s.heap.push PySem.W.emptyDict).get? s.heap.objs.size = some PySem.W.emptyDict := Heap.get?_push_size s.heap rfl
  have e2 : ((s.heap.push PySem.W.emptyDict).push (PySem.W.instObj C s.heap.objs.size)).get? (s.heap.objs.size + 1) = some (PySem.W.instObj C s.heap.objs.size) := by
    have := Heap.get?_push_size (s.heap.push PySem.W.emptyDict) (o := PySem.W.instObj C s.heap.objs.size) rfl
    rwa [Heap.size_push] at this
  have e3 : (s.heap.push PySem.W.emptyDict).Ns s.heap.objs.size (fun _ => none) := ⟨PySem.W.emptyDict, #[], _, e1, rfl, (fun e he => absurd he (by simp)), fun _ => rfl⟩
  have I1 := I.laid (a := s.heap.objs.size) (o := .own (s.heap.objs.size + 1)) (h' := s.heap.push PySem.W.emptyDict) (t' := s.toks) (fun b u q => Heap.get?_push_of_some _ q) (Nat.le_refl _) ⟨_, e1⟩
  refine I1.laid (a := s.heap.objs.size + 1) (o := .ins C s.heap.objs.size []) (t' := s.toks) (fun b u q => Heap.get?_push_of_some _ q) (Nat.le_of_eq (Heap.size_push _ _)) ?_
  have ne : s.heap.objs.size ≠ s.heap.objs.size + 1 := Nat.ne_of_lt (Nat.lt_succ_self _)
  refine ⟨by rw [upd_ne ne, upd_same], Nat.zero_le _, ne, e2, fun _ => none, (Heap.Ns1.of_empty e3).at fun o q => Heap.get?_push_of_some _ q, fun _ => True.intro, fun y hy => absurd rfl hy⟩

end

/-! ### readings and rules -/
/-- e.f, an attribute of the instance -/
def tFld (K : PySem.W.Frag) (ta : TE) (f : Str) : TE := fun σ H Q => ta σ H fun x H1 => ∃ a C dx fs v, x = .ref a ∧ H1 a = some (.ins C dx fs) ∧ Cls K C ∧ NoAttr K C f ∧ fs.lookup f = some v ∧ Q v H1
/-- e.f, a constant of the class -/
def tCon (K : PySem.W.Frag) (ta : TE) (f : Str) : TE := fun σ H Q => ta σ H fun x H1 => ∃ a C dx fs v u, x = .ref a ∧ H1 a = some (.ins C dx fs) ∧ Cls K C ∧ Con K C f v u ∧ fs.lookup f = none ∧ Q v H1
/-- e.f = value -/
def sFld (K : PySem.W.Frag) (ta tv : TE) (f : Str) : TS := fun D σ H => tv σ H fun y H1 => ta σ H1 fun x H2 => ∃ a C dx fs, x = .ref a ∧ H2 a = some (.ins C dx fs) ∧ Cls K C ∧ NoAttr K C f ∧ fs.length < 1000 ∧
  D.nx σ (upd H2 a (.ins C dx (putF f y fs)))
/-- an augmented operator on two values -/
def InOp (X : Cx) (op : Operator) (rd : V → V → Hp → VK → Prop) : Prop :=
  ∀ (pins : List (Addr × Obj)) (s : Shared) (σ : St) (H : Hp) (x y : V) (u v : Value) (Q : VK), Inv X pins σ H s → RelV x u → RelV y v → rd x y H Q → wpAny (model X.prog X.w) X.A (inplaceOp op u v) (EP X pins σ Q) X.xe s
/-- e.f op= value -/
def sFldAug (K : PySem.W.Frag) (ta tv : TE) (rd : V → V → Hp → VK → Prop) (f : Str) : TS := fun D σ H => ta σ H fun x H1 => ∃ a C dx fs v, x = .ref a ∧ H1 a = some (.ins C dx fs) ∧ Cls K C ∧ NoAttr K C f ∧ fs.lookup f = some v ∧
  tv σ H1 fun y H2 => rd v y H2 fun z H3 => ∃ dx' fs', H3 a = some (.ins C dx' fs') ∧ fs'.length < 1000 ∧ D.nx σ (upd H3 a (.ins C dx' (putF f z fs')))

section
variable {X : Cx} {o e value : Expr} {f : Str} {pos pos' tpos : Pos} {ta tv : TE}
def rAdd : V → V → Hp → VK → Prop := fun x y H Q => ∃ i j, x = .int i ∧ y = .int j ∧ Q (.int (i + j)) H
def rSub : V → V → Hp → VK → Prop := fun x y H Q => ∃ i j, x = .int i ∧ y = .int j ∧ Q (.int (i - j)) H
end

/-! ### isinstance -/
section
variable {X : Cx} {pins : List (Addr × Obj)} {σ : St} {H : Hp} {s : Shared} {A : Around} {E : Value → Shared → Prop} {Q : Value → Shared → Prop} {c : Value} {b : Bool}
/-- the type of a value, as the fragment's deciders take it; for an instance its class -/
inductive TyOf (K : PySem.W.Frag) (H : Hp) : V → Value → Prop where
  | non : TyOf K H .non (.type "NoneType")
  | bl (x : Bool) : TyOf K H (.bl x) (.type "bool")
  | int (i : Int) : TyOf K H (.int i) (.type "int")
  | str (x : Str) : TyOf K H (.str x) (.type "str")
  | flt (x : UInt64) : TyOf K H (.flt x) (.type "float")
  | lst {a : Addr} {xs : List V} (e : H a = some (.lst xs)) : TyOf K H (.ref a) (.type "list")
  | frz {a : Addr} {o : Obj} {xs : List V} (e : H a = some (.frz o (.lst xs))) : TyOf K H (.ref a) (.type "list")
  | tup {a : Addr} {xs : List V} (e : H a = some (.tup xs)) : TyOf K H (.ref a) (.type "tuple")
  | dK {a : Addr} {kvs : List (Key × V)} (e : H a = some (.dK kvs)) : TyOf K H (.ref a) (.type "dict")
  | dT {a : Addr} {kvs : List (List Key × V)} (e : H a = some (.dT kvs)) : TyOf K H (.ref a) (.type "dict")
  | ins {a C dx : Addr} {fs : List (Str × V)} (e : H a = some (.ins C dx fs)) (cl : Cls K C) (ha : PySem.W.findIn K (.ref C) "__class__" = some (some (.builtin "object.__class__")))
      (hn : PySem.W.specialIn K (.builtin "object.__class__") "__get__" = some (some (.builtin "getset_descriptor.__get__"))) (htk : PySem.W.takesIn K (.builtin "object.__class__") = some true)
      (hm : PySem.W.mroIn K C (.type "object") = some true) : TyOf K H (.ref a) (.ref C)
end
end L2

namespace L2
open PySem PySem.Spec PyProof.Rows

/-! ### room -/
structure Room (k : Nat) (A : Around) : Prop where
  hd : A.handled = none
  dp : A.depth + 3 * k + 5 < recursionLimit
  un : A.units + 16 * k + 200 < cLine
theorem Room.mono {j k : Nat} {A : Around} (r : Room k A) (h : j ≤ k) : Room j A := ⟨r.hd, by have := r.dp; omega, by have := r.un; omega⟩
theorem Room.deeper {k : Nat} {A : Around} (r : Room (k + 1) A) (env : Env) : Room k (A.deeper env) :=
  ⟨r.hd, by have := r.dp; show A.depth + 1 + 3 * k + 5 < _; omega, by have := r.un; show A.units + 3 + 16 * k + 200 < _; omega⟩
theorem Room.in1 {k : Nat} {A : Around} (r : Room (k + 1) A) : Room k A.in1 :=
  ⟨r.hd, by have := r.dp; show A.depth + 3 * k + 5 < _; omega, by have := r.un; show A.units + 1 + 16 * k + 200 < _; omega⟩
theorem Room.depth {k : Nat} {A : Around} (r : Room k A) : A.depth < recursionLimit := by have := r.dp; omega
theorem Room.units {k : Nat} {A : Around} (r : Room k A) : A.units + 64 < cLine := by have := r.un; omega
/-! ### argument lists and displays -/
def tNil : TA := fun _ H Q => Q [] H
def tCons (ta : TE) (tr : TA) : TA := fun σ H Q => ta σ H fun x H1 => tr σ H1 fun xs H2 => Q (x :: xs) H2
section
variable {X : Cx} {e : Expr} {es : List Expr} {te : TE} {t : TA} {pos : Pos}
theorem pa_nil : PA X [] tNil := fun _ _ _ _ H Q I h => Calls.spliced_nil ⟨[], H, I, .nil, h⟩
theorem pa_cons (ha : PE X e te) (hr : PA X es t) (hs : starEach (e :: es) X.env = (false, eval e X.env) :: starEach es X.env := by rfl) : PA X (e :: es) (tCons te t) := by
  intro pos pins s σ H Q I h
  rw [hs]
  show wpAny _ _ (spliced ((false, eval e X.env) :: backTo pos (starEach es X.env))) _ _ s
  refine Calls.spliced_cons (thn (ha pins s σ H _ I h) fun u s1 ⟨x, H1, I1, r1, q1⟩ => ?_)
  exact thn (hr pos pins s1 σ H1 _ I1 q1) fun us s2 ⟨xs, H2, I2, r2, q2⟩ => ⟨x :: xs, H2, I2, .cons r1 r2, q2⟩

/-- a tuple, a list of written items -/
def tTup (t : TA) : TE := fun σ H Q => t σ H fun xs H1 => xs.length ≤ sizeLine ∧ ∀ p, H1 p = none → Q (.ref p) (upd H1 p (.tup xs))
def tLst (t : TA) : TE := fun σ H Q => t σ H fun xs H1 => xs.length ≤ sizeLine ∧ ∀ p, H1 p = none → Q (.ref p) (upd H1 p (.lst xs))
theorem pe_tup {x1} (h : PA X es t) : PE X (.Tuple es x1 pos) (tTup t) := by
  intro pins s σ H Q I hq
  refine wpAny_Tuple_spliced (thn (h pos pins s σ H _ I hq) fun us s1 ⟨xs, H1, I1, r, z, q⟩ => ⟨by rw [← r.length]; exact z, ?_⟩)
  have hf : H1 s1.heap.objs.size = none := I1.hok.fresh (Nat.le_refl _)
  refine ⟨.ref s1.heap.objs.size, upd H1 s1.heap.objs.size (.tup xs), I1.laid (t' := s1.toks) (fun b u e => Heap.get?_push_of_some _ e) (Nat.le_refl _) ?_, rfl, q _ hf⟩
  exact ⟨z, us, r, ⟨_, Heap.get?_push_size _ rfl, rfl, _, rfl⟩⟩
theorem pe_lst (h : PA X es t) : PE X (.List es pos) (tLst t) := by
  intro pins s σ H Q I hq
  refine wpAny_List_spliced (thn (h pos pins s σ H _ I hq) fun us s1 ⟨xs, H1, I1, r, z, q⟩ => ⟨by rw [← r.length]; exact z, ?_⟩)
  have hf : H1 s1.heap.objs.size = none := I1.hok.fresh (Nat.le_refl _)
  refine ⟨.ref s1.heap.objs.size, upd H1 s1.heap.objs.size (.lst xs), I1.laid (t' := s1.toks) (fun b u e => Heap.get?_push_of_some _ e) (Nat.le_refl _) ?_, rfl, q _ hf⟩
  exact ⟨z, us, 0, r, Heap.get?_push_size _ rfl⟩
end

/-! ### what a def promises -/
/-- a def's promise: the bound arguments in the parameters' order, the heap, the wanted end, the wanted exception -/
abbrev Sp := List V → Hp → VK → XK → Prop
/-- how an exception lies behind a call (file 08 gives it): the callers' frames, abstract heap and state ahead of the call, the wish, the exception, the state -/
abbrev CXT := List Env → Hp → Shared → XK → Value → Shared → Prop

/-- the state at a call -/
structure Env0 (P : Program) (w : World) (K : PySem.W.Frag) (mg : Str → Option Value) (base : Heap) (A : Around) (outer : List Env) (s : Shared) (H : Hp) : Prop where
  frames : A.frames = some outer
  mod : Mod K mg base
  bs : ∀ b o, base.get? b = some o → s.heap.get? b = some o ∧ H b = none
  bsz : base.objs.size ≤ s.heap.objs.size
  funs : s.heap.FunFrames base outer
  frf : ∀ b ∈ frs outer, H b = none
  hok : HOk P w H s.heap
  bare : AllBare s.gens
/-- a call's end -/
def CE (outer : List Env) (P : Program) (w : World) (H : Hp) (s : Shared) (Q : VK) (u : Value) (s' : Shared) : Prop :=
  ∃ v H', s'.os = s.os ∧ AllBare s'.gens ∧ Un (frs outer) [] H H' s.heap s'.heap ∧ HOk P w H' s'.heap ∧ RelV v u ∧ Q v H'
def CR (CX : CXT) (outer : List Env) (P : Program) (w : World) (H : Hp) (s : Shared) (Q : VK) (E : XK) (r : Result) (s' : Shared) : Prop :=
  match r with
  | .ok (.ret u) => CE outer P w H s Q u s'
  | .ok _ => False
  | .error e => CX outer H s E e s'
structure FnOk (P : Program) (w : World) (K : PySem.W.Frag) (mg : Str → Option Value) (base : Heap) (CX : CXT) (k : Nat) (f : Addr) (fd : FuncData) (ps : List Str) (sp : Sp) : Prop where
  len : ∀ vs H Q E, sp vs H Q E → vs.length = ps.length
  run : ∀ (A : Around) (outer : List Env) (s : Shared) (H : Hp) (args : Args) (us : List Value) (vs : List V) (Q : VK) (E : XK), Room k A → Env0 P w K mg base A outer s H → BindsTo s fd args (ps.zip us) → Vals vs us → sp vs H Q E →
    codeAny (model P w) A (.call (.ref f) args) (CR CX outer P w H s Q E) s
theorem FnOk.mono {P : Program} {w : World} {K : PySem.W.Frag} {mg : Str → Option Value} {base : Heap} {CX : CXT} {j k : Nat} {f : Addr} {fd : FuncData} {ps : List Str} {sp : Sp} (F : FnOk P w K mg base CX j f fd ps sp) (h : j ≤ k) :
    FnOk P w K mg base CX k f fd ps sp := ⟨F.len, fun A outer s H args us vs Q E hr => F.run A outer s H args us vs Q E (hr.mono h)⟩
/-- a weaker promise -/
theorem FnOk.imp {P : Program} {w : World} {K : PySem.W.Frag} {mg : Str → Option Value} {base : Heap} {CX : CXT} {k : Nat} {f : Addr} {fd : FuncData} {ps : List Str} {sp sp' : Sp} (F : FnOk P w K mg base CX k f fd ps sp)
    (h : ∀ vs H Q E, sp' vs H Q E → sp vs H Q E) : FnOk P w K mg base CX k f fd ps sp' :=
  ⟨fun vs H Q E q => F.len vs H Q E (h _ _ _ _ q), fun A outer s H args us vs Q E hr he hb hv hs => F.run A outer s H args us vs Q E hr he hb hv (h _ _ _ _ hs)⟩

theorem Env0.in1 {P : Program} {w : World} {K : PySem.W.Frag} {mg : Str → Option Value} {base : Heap} {A : Around} {outer : List Env} {s : Shared} {H : Hp} (e : Env0 P w K mg base A outer s H) :
    Env0 P w K mg base A.in1 outer s H := ⟨e.frames, e.mod, e.bs, e.bsz, e.funs, e.frf, e.hok, e.bare⟩

section
variable {X : Cx} {pins : List (Addr × Obj)} {σ : St} {H : Hp} {s s' : Shared}
/-- from a body: what a callee wants -/
theorem Inv.env0 (I : Inv X pins σ H s) : Env0 X.prog X.w X.K X.mg X.base X.A X.stack s H :=
  ⟨I.ok.frames, I.ok.mod, I.bs, Nat.le_trans I.ok.bsz I.sz, I.stack, I.stkFree, I.hok, I.bare⟩
/-- behind a call -/
theorem Inv.after {Q : VK} {u : Value} (I : Inv X pins σ H s) (h : CE X.stack X.prog X.w H s Q u s') : EP X pins σ Q u s' := by
  obtain ⟨v, H', os, bare, un, hok, r, q⟩ := h
  obtain ⟨hh, g, d, t, os'⟩ := s'
  obtain rfl : os' = s.os := os
  exact ⟨v, H', I.call (h' := hh) (g' := g) (d' := d) (t' := t) (ch := []) un hok bare (fun b z => absurd z (by simp)), r, q⟩
end

/-! ### calls -/
/-- f(..): the written arguments, then the defaults dvs; E: what is wanted of an exception -/
def tCall (sp : Sp) (dvs : List V) (E : XK) (t : TA) : TE := fun σ H Q => t σ H fun vs H1 => sp (vs ++ dvs) H1 Q E
/-- o.m(..) of an instance of the class at C -/
def tMeth (C : Addr) (m : Str) (sp : Sp) (dvs : List V) (E : XK) (ta : TE) (t : TA) : TE := fun σ H Q => ta σ H fun x H1 => ∃ a dx fs, x = .ref a ∧ H1 a = some (.ins C dx fs) ∧ fs.lookup m = none ∧
  t σ H1 fun vs H2 => sp (x :: (vs ++ dvs)) H2 Q E
/-- C(..): a new instance and its dict, then __init__ -/
def tMake (C : Addr) (sp : Sp) (dvs : List V) (E : XK) (t : TA) : TE := fun σ H Q => t σ H fun vs H1 => ∀ x dx, H1 x = none → H1 dx = none → dx ≠ x →
  sp (.ref x :: (vs ++ dvs)) (upd (upd H1 dx (.own x)) x (.ins C dx [])) (fun v H2 => v = .non ∧ Q (.ref x) H2) E

/-- how the parameters are bound: us the positional arguments, kw the keywords' values by name, ds the defaults that fill up -/
def Binds (K : PySem.W.Frag) (fd : FuncData) (ps : List Str) (ds : List Value) : Prop :=
  ∀ (s : Shared) (us : List Value), K.In s.heap → (us ++ ds).length = ps.length → BindsTo s fd ⟨us, []⟩ (ps.zip (us ++ ds))
/-- every parameter is given -/
theorem Binds.all {K : PySem.W.Frag} {fd : FuncData} {ps : List Str} (h : ∀ us : List Value, us.length = ps.length → bindArgs fd ⟨us, []⟩ = pure (ps.zip us)) : Binds K fd ps [] := fun s us _ hl => by
  rw [List.append_nil] at hl ⊢
  exact .of_eq (h us hl)

/-- an exception of a callee reaches what this body wants of exceptions -/
def Passes (CX : CXT) (X : Cx) (E : XK) : Prop := ∀ (pins : List (Addr × Obj)) (σ : St) (H : Hp) (s : Shared) (e : Value) (s' : Shared), Inv X pins σ H s → CX X.stack H s E e s' → X.xe e s'

section
variable {X : Cx} {CX : CXT} {k : Nat} {f C : Addr} {fd : FuncData} {ps : List Str} {sp : Sp} {dvs : List V} {ds : List Value} {E : XK} {x m : Str} {p pos apos : Pos} {e o : Expr} {es : List Expr} {ta : TE} {t : TA}

/-- the callee runs -/
theorem run_fn {pins : List (Addr × Obj)} {σ : St} {H : Hp} {s : Shared} {Q : VK} {us : List Value} {vs : List V} (F : FnOk X.prog X.w X.K X.mg X.base CX k f fd ps sp) (hr : Room k X.A) (hb : Binds X.K fd ps ds) (hd : Vals dvs ds) (hx : Passes CX X E)
    (I : Inv X pins σ H s) (r : Vals vs us) (h : sp (vs ++ dvs) H Q E) : wpAny (model X.prog X.w) X.A (call (.ref f) us) (EP X pins σ Q) X.xe s := by
  have r2 : Vals (vs ++ dvs) (us ++ ds) := r.append hd
  have hl : (us ++ ds).length = ps.length := by rw [← r2.length]; exact F.len _ _ _ _ h
  refine wpAny_call (codeAny_mono (F.run X.A X.stack s H ⟨us, []⟩ (us ++ ds) (vs ++ dvs) Q E hr I.env0 (hb s us I.kIn hl) r2 h) fun r s' hq => ?_)
  cases r with
  | error e => exact hx pins σ H s e s' I hq
  | ok fl =>
    cases fl with
    | ret u => exact I.after hq
    | next => exact False.elim hq
    | brk => exact False.elim hq
    | cont => exact False.elim hq

theorem pe_call (F : FnOk X.prog X.w X.K X.mg X.base CX k f fd ps sp) (hr : Room k X.A) (hg : Gl X x) (hm : X.mg x = some (.ref f)) (hk : PySem.W.keepIn X.K (.ref f) = true) (hb : Binds X.K fd ps ds) (hd : Vals dvs ds) (hx : Passes CX X E)
    (ha : PA X (e :: es) t) (hdb : (x == ("__debug__" : Str)) = false := by decide) (he : starEach (e :: es) X.env = (false, eval e X.env) :: starEach es X.env := by rfl) (hpl : (backTo pos (starEach es X.env)).any (·.1) = false := by rfl) :
    PE X (.Call (.Name x p) (e :: es) [] pos) (tCall sp dvs E t) := by
  intro pins s σ H Q I h
  refine wpAny_Call_Name_kw (ld_glob I hg hm ?_ hdb)
  refine PySem.W.callWith_K (h₀ := X.base) I.ok.mod.kin hk (thn (ha pos pins s σ H _ I h) fun us s1 ⟨vs, H1, I1, r, q⟩ => ⟨I1.kIn, ?_⟩) he hpl
  exact run_fn F hr hb hd hx I1 r q
/-- what a class must have to be made -/
structure Mk (K : PySem.W.Frag) (C f : Addr) : Prop where
  makes : PySem.W.makesIn K C = true
  init : PySem.W.findIn K (.ref C) "__init__" = some (some (.ref f))
  fn : PySem.W.isFn K (.ref f) = true
  kp : PySem.W.keepIn K (.ref C) = true

end

/-! ### keywords -/
/-- the values of the keywords, from the left -/
def PK (X : Cx) (kws : List Keyword) (t : TA) : Prop :=
  ∀ (pos : Pos) (pins : List (Addr × Obj)) (s : Shared) (σ : St) (H : Hp) (Q : List V → Hp → Prop), Inv X pins σ H s → t σ H Q → wpAny (model X.prog X.w) X.A (evalAll ((backToKw pos (keywordEach kws X.env)).map (·.2))) (AP X pins σ Q) X.xe s
section
variable {X : Cx} {CX : CXT} {k : Nat} {f C : Addr} {fd : FuncData} {ps ks : List Str} {sp : Sp} {E : XK} {x m : Str} {p pos apos kpos : Pos} {e o : Expr} {es : List Expr} {kws : List Keyword} {te ta : TE} {t tk : TA} {nm : Option Str}
/-- how a call with keywords binds: g puts the positional values us and the keywords' values ws (names ks) in the parameters' order, defaults among them -/
structure KBinds (K : PySem.W.Frag) (fd : FuncData) (ps ks : List Str) (g : List Value → List Value → List Value) (gV : List V → List V → List V) : Prop where
  to : ∀ (s : Shared) (us ws : List Value), K.In s.heap → (g us ws).length = ps.length → BindsTo s fd ⟨us, ks.zip ws⟩ (ps.zip (g us ws))
  rel : ∀ {vs : List V} {us : List Value} {zs : List V} {ws : List Value}, Vals vs us → Vals zs ws → Vals (gV vs zs) (g us ws)
def tCallK (sp : Sp) (gV : List V → List V → List V) (E : XK) (t tk : TA) : TE := fun σ H Q => t σ H fun vs H1 => tk σ H1 fun zs H2 => sp (gV vs zs) H2 Q E
variable {g : List Value → List Value → List Value} {gV : List V → List V → List V}
end

/-! ### a def's body keeps its promise -/
/-- names: the parameters first -/
structure FnScope (N P : List Str) (sc : Scope) : Prop where
  kind : sc.kind = .function
  co : sc.isCoroutine = false
  gen : sc.isGenerator = false
  nd : N.Nodup
  pre : N.take P.length = P
  par : ∀ x ∈ P, sc.names.lookup x = some .local ∨ sc.names.lookup x = some .cell
  nofree : ∀ y ∈ sc.names, y.2 ≠ .free

theorem bindL_out {kindOf : Str → Option NameKind} {x : Str} : ∀ {binds : List (Str × Value)} {m : Str → Option Value}, (∀ v, (x, v) ∉ binds) → bindL kindOf binds m x = m x
  | [], _, _ => rfl
  | (n, v) :: r, m, h => by
    unfold bindL
    rw [bindL_out fun w hw => h w (List.mem_cons_of_mem _ hw)]
    split
    · have : x ≠ n := by rintro rfl; exact h v List.mem_cons_self
      simp [this]
    · rfl
theorem bindC_out {kindOf : Str → Option NameKind} {x : Str} : ∀ {binds : List (Str × Value)} {m : Str → Option Value}, (∀ v, (x, v) ∉ binds) → bindC kindOf binds m x = m x
  | [], _, _ => rfl
  | (n, v) :: r, m, h => by
    unfold bindC
    rw [bindC_out fun w hw => h w (List.mem_cons_of_mem _ hw)]
    split
    · rfl
    · have : x ≠ n := by rintro rfl; exact h v List.mem_cons_self
      simp [this]
theorem bindL_get {kindOf : Str → Option NameKind} {x : Str} {v : Value} : ∀ {P : List Str} {vs : List Value} {i : Nat} {m : Str → Option Value}, P.Nodup → P[i]? = some x → vs[i]? = some v → kindOf x = some .local →
    bindL kindOf (P.zip vs) m x = some v
  | [], _, _, _, _, h, _, _ => by simp at h
  | _ :: _, [], _, _, _, _, h, _ => by simp at h
  | p :: P, w :: vs, 0, m, nd, h1, h2, hk => by
    simp at h1 h2; subst h1; subst h2
    show bindL kindOf ((p, w) :: P.zip vs) m p = _
    unfold bindL
    rw [bindL_out fun v hv => (List.nodup_cons.mp nd).1 (List.of_mem_zip hv).1, if_pos hk]
    simp
  | p :: P, w :: vs, i + 1, m, nd, h1, h2, hk => by
    show bindL kindOf ((p, w) :: P.zip vs) m x = _
    unfold bindL
    exact bindL_get (i := i) (List.nodup_cons.mp nd).2 (by simpa using h1) (by simpa using h2) hk
theorem bindC_get {kindOf : Str → Option NameKind} {x : Str} {v : Value} : ∀ {P : List Str} {vs : List Value} {i : Nat} {m : Str → Option Value}, P.Nodup → P[i]? = some x → vs[i]? = some v → kindOf x ≠ some .local →
    bindC kindOf (P.zip vs) m x = some v
  | [], _, _, _, _, h, _, _ => by simp at h
  | _ :: _, [], _, _, _, _, h, _ => by simp at h
  | p :: P, w :: vs, 0, m, nd, h1, h2, hk => by
    simp at h1 h2; subst h1; subst h2
    show bindC kindOf ((p, w) :: P.zip vs) m p = _
    unfold bindC
    rw [bindC_out fun v hv => (List.nodup_cons.mp nd).1 (List.of_mem_zip hv).1, if_neg hk]
    simp
  | p :: P, w :: vs, i + 1, m, nd, h1, h2, hk => by
    show bindC kindOf ((p, w) :: P.zip vs) m x = _
    unfold bindC
    exact bindC_get (i := i) (List.nodup_cons.mp nd).2 (by simpa using h1) (by simpa using h2) hk

/-- the names' values at the entry -/
def start (N : List Str) (vs : List V) : St := vs.map some ++ List.replicate (N.length - vs.length) none

/-- the context of a def's body, at its entry; an exception leaves the frame, then lies as CX says -/
def cxOf (CX : CXT) (P : Program) (w : World) (K : PySem.W.Frag) (mg : Str → Option Value) (base : Heap) (N : List Str) (qual : Str) (scope : Scope) (f : Addr) (cd : Value) (A : Around) (outer : List Env) (s : Shared) (H : Hp) (E : XK) : Cx where
  prog := P
  w := w
  K := K
  mg := mg
  base := base
  A := A.deeper (envOfC qual scope s.heap.objs.size f cd)
  N := N
  s₀ := s
  H₀ := H
  env := envOfC qual scope s.heap.objs.size f cd
  outer := outer
  stack := envOfC qual scope s.heap.objs.size f cd :: outer
  ex := []
  calm := true
  fn := fun _ => true
  pn := []
  xe := fun e s' => wpAny (model P w) (A.deeper (envOfC qual scope s.heap.objs.size f cd)) (leaving (envOfC qual scope s.heap.objs.size f cd) e) (fun _ s'' => CX outer H s E e s'') (fun e' s'' => CX outer H s E e' s'') s'

theorem cell_has {sc : Scope} {n : Nat} {x : Str} (h : sc.names.lookup x = some .cell) : ∃ c, (cellsFrom n sc.names []).lookup x = some c := by
  have q := PySem.W.cellsFrom_some sc.names n [] (.inl h)
  exact Option.isSome_iff_exists.mp q

theorem inv_start {CX : CXT} {P : Program} {w : World} {K : PySem.W.Frag} {mg : Str → Option Value} {base : Heap} {N ps : List Str} {qual : Str} {scope : Scope} {f : Addr} {cd : Value} {A : Around} {outer : List Env} {s s1 : Shared} {H : Hp} {E : XK} {us : List Value} {vs : List V}
    (S : FnScope N ps scope) (hd : A.handled = none) (e0 : Env0 P w K mg base A outer s H) (hl : vs.length = ps.length) (r : Vals vs us)
    (x : InCallC s s.heap.objs.size (bindL (envOfC qual scope s.heap.objs.size f cd).kindOf (ps.zip us) fun _ => none) (cellsFrom (s.heap.objs.size + 1) scope.names []) (bindC (envOfC qual scope s.heap.objs.size f cd).kindOf (ps.zip us) fun _ => none) s1) :
    Inv (cxOf CX P w K mg base N qual scope f cd A outer s H E) [] (start N vs) H s1 := by
  have hpl : ps.length ≤ N.length := by have := congrArg List.length S.pre; rw [List.length_take] at this; omega
  obtain ⟨h1, tk, rfl, hk⟩ := x.done
  have noA : ∀ b : Addr, b ∉ (cxOf CX P w K mg base N qual scope f cd A outer s H E).ex := fun b z => absurd (show b ∈ ([] : List Addr) from z) (by simp)
  refine ⟨⟨e0.mod, S.kind, rfl, rfl, Nat.le_refl _, fun y z c h1 h2 => ?_, fun y hy => ?_, fun y c _ h => ?_, fun _ => hd, Around.frames_deeper e0.frames, .inr ⟨rfl, rfl⟩, fun b z => absurd z (noA b), e0.bs, e0.bsz, fun b _ _ => noA b, fun b z => absurd z (noA b), e0.funs, e0.frf⟩,
    rfl, e0.bare, Un.kept hk, ⟨_, x.toInCall.ns, fun i y v h1 h2 h3 => ?_⟩, fun y c h => ⟨_, x.cell y c h⟩, e0.hok.fresh (Nat.le_refl _), fun y c h => ?_, fun p hp => absurd (show p ∈ ([] : List (Addr × Obj)) from hp) (by simp), e0.hok.kept hk, ?_⟩
  · exact name_of_addr x.apart (PySem.mem_of_lookup h1) (PySem.mem_of_lookup h2)
  · have hy : scope.names.lookup y = some .cell ∨ scope.names.lookup y = some .free := hy
    rcases hy with hy | hy
    · exact cell_has hy
    · exact absurd rfl (S.nofree _ (PySem.mem_of_lookup hy))
  · exact Nat.le_of_lt (x.above y c (PySem.mem_of_lookup h))
  · have hi : i < vs.length := by
      unfold start at h2
      by_cases hi : i < vs.length
      · exact hi
      · rw [List.getElem?_append_right (by simpa using hi)] at h2
        rw [List.getElem?_replicate] at h2
        split at h2 <;> cases h2
    have ha : vs[i]? = some v := by
      unfold start at h2
      rw [List.getElem?_append_left (by simpa using hi), List.getElem?_map] at h2
      cases e : vs[i]? with
      | none => rw [e] at h2; cases h2
      | some a => rw [e] at h2; cases h2; rfl
    obtain ⟨u, hu, rv⟩ := r.get ha
    have hp : ps[i]? = some y := by
      rw [← S.pre, List.getElem?_take_of_lt (by omega)]; exact h1
    have ndP : ps.Nodup := by rw [← S.pre]; exact S.nd.sublist (List.take_sublist _ _)
    refine ⟨u, rv, ?_⟩
    rcases S.par y (List.mem_of_getElem? hp) with k | k
    · exact .inl ⟨k, bindL_get ndP hp hu k⟩
    · obtain ⟨c, e⟩ := cell_has (n := s.heap.objs.size + 1) k
      refine .inr ⟨.inl k, c, e, ?_⟩
      have q := x.cell y c e
      rw [bindC_get ndP hp hu (by show scope.names.lookup y ≠ _; rw [k]; decide)] at q
      exact q
  · exact e0.hok.fresh (Nat.le_of_lt (x.above y c (PySem.mem_of_lookup h)))
  · unfold start
    show _ = N.length
    rw [List.length_append, List.length_map, List.length_replicate]
    omega

/-- THE RULE: a def (or a method) of the text, by its body. The body's reading t is chosen for each entry; it is run at the parameters' values -/
theorem fn_of {CX : CXT} {P : Program} {w : World} {K : PySem.W.Frag} {mg : Str → Option Value} {base : Heap} {k : Nat} {f : Addr} {name qual : Str} {params : Arguments} {body : List Stmt} {scope : Scope} {dV kV doc pm cdv ct oc : Value} {an od : Option Addr}
    {osl : Array (Option Value)} {N ps : List Str} {sp : Sp} (lk : K.lookup f = some ⟨oc, od, .func (PySem.W.fnOf name qual params body scope dV kV doc pm an cdv ct), osl⟩) (hcd : PySem.W.codeIn K cdv qual = true) (S : FnScope N ps scope)
    (len : ∀ vs H Q E, sp vs H Q E → vs.length = ps.length)
    (hbody : ∀ (A : Around) (outer : List Env) (s : Shared) (H : Hp) (vs : List V) (Q : VK) (E : XK), Room k (A.deeper (envOfC qual scope s.heap.objs.size f cdv)) → sp vs H Q E →
      ∃ t, PSs (cxOf CX P w K mg base N qual scope f cdv A outer s H E) body t ∧ t { nx := fun _ H' => Q .non H', rt := Q } (start N vs) H) :
    FnOk P w K mg base CX (k + 1) f (PySem.W.fnOf name qual params body scope dV kV doc pm an cdv ct) ps sp := by
  refine ⟨len, fun A outer s H args us vs Q E hr e0 hb r hsp => ?_⟩
  have hl := len _ _ _ _ hsp
  have KX : K.In s.heap := e0.mod.kin.keeps fun b o e => (e0.bs b o e).1
  have lim : s.heap.NoLimit := e0.mod.nolimit.keeps fun b o e => (e0.bs b o e).1
  have hkind : ∀ y ∈ ps.zip us, scope.names.lookup y.1 = some .local ∨ (scope.names.lookup y.1 = some .cell ∧ ((cellsFrom (s.heap.objs.size + 1) scope.names []).lookup y.1).isSome = true) := fun ⟨n, v⟩ hy => by
    rcases S.par n (List.of_mem_zip hy).1 with q | q
    · exact .inl q
    · exact .inr ⟨q, PySem.W.cellsFrom_some _ _ _ (.inl q)⟩
  refine codeAny_call_function hr.depth (KX _ _ lk) rfl S.co S.gen rfl (PySem.W.codeRec_of KX hcd) (hb _ _ _ _ ?_)
  refine wpAny_newFunctionEnv_cells S.kind hkind fun env he s1 x => ?_
  subst he
  refine ⟨lim.keeps x.toInCall.keep, codeAny_func ?_⟩
  obtain ⟨t, ht, hq⟩ := hbody A outer s H vs Q E (hr.deeper _) hsp
  have I : Inv (cxOf CX P w K mg base N qual scope f cdv A outer s H E) [] (start N vs) H s1 := inv_start S hr.hd e0 hl r x
  refine wpAny_mono (ht [] s1 (start N vs) H _ I hq) (fun fl s' hs => ?_) fun e s' hs => hs
  have fin : ∀ {σ' : St} {H' : Hp} {v : V} {u : Value}, Inv (cxOf CX P w K mg base N qual scope f cdv A outer s H E) [] σ' H' s' → RelV v u → Q v H' → CE outer P w H s Q u s' :=
    fun {σ' H' v u} J rv q => ⟨v, H', J.os, J.bare, J.base, J.hok, rv, q⟩
  cases fl with
  | ret u =>
    obtain ⟨v, σ', H', J, rv, q⟩ := hs
    exact fin J rv q
  | next =>
    obtain ⟨σ', H', J, q⟩ := hs
    exact fin (v := V.non) (u := Value.none) J rfl q
  | brk =>
    obtain ⟨_, _, _, q⟩ := hs
    exact False.elim q
  | cont =>
    obtain ⟨_, _, _, q⟩ := hs
    exact False.elim q
end L2

namespace L2
open PySem PySem.Spec PyProof.Rows
section
variable {X : Cx} {x : Str} {p pos : Pos} {e : Expr} {es : List Expr} {t : TA} {id T : String} {r : List V → Hp → VK → Prop}

def tCB (r : List V → Hp → VK → Prop) (t : TA) : TE := fun σ H Q => t σ H fun vs H1 => r vs H1 Q
/-- f(e, ..), f a built-in function -/
theorem pe_callB (hc : CallR X (.builtin id) r) (hg : Gl X x) (hm : X.mg x = none) (hv : bootBuiltins x = some (.builtin id)) (ha : PA X (e :: es) t) (hn : x ≠ "__name__" := by decide) (hdb : (x == ("__debug__" : Str)) = false := by decide)
    (he : starEach (e :: es) X.env = (false, eval e X.env) :: starEach es X.env := by rfl) (hpl : (backTo pos (starEach es X.env)).any (·.1) = false := by rfl) : PE X (.Call (.Name x p) (e :: es) [] pos) (tCB r t) := by
  intro pins s σ H Q I h
  refine wpAny_Call_Name_kw (ld_blt I hg hm hv ?_ hn hdb)
  exact PyProof.Rows.callWith_builtin1 (thn (ha pos pins s σ H _ I h) fun us s1 ⟨vs, H1, I1, r1, q1⟩ => hc pins s1 σ H1 vs us Q I1 r1 q1) he hpl
/-- T(e, ..), T a built-in type -/
theorem pe_callTy (hc : CallR X (.type T) r) (hg : Gl X x) (hm : X.mg x = none) (hv : bootBuiltins x = some (.type T)) (ha : PA X (e :: es) t) (hn : x ≠ "__name__" := by decide) (hdb : (x == ("__debug__" : Str)) = false := by decide)
    (he : starEach (e :: es) X.env = (false, eval e X.env) :: starEach es X.env := by rfl) (hpl : (backTo pos (starEach es X.env)).any (·.1) = false := by rfl) : PE X (.Call (.Name x p) (e :: es) [] pos) (tCB r t) := by
  intro pins s σ H Q I h
  refine wpAny_Call_Name_kw (ld_blt I hg hm hv ?_ hn hdb)
  exact PyProof.Rows.callWith_type1 (thn (ha pos pins s σ H _ I h) fun us s1 ⟨vs, H1, I1, r1, q1⟩ => hc pins s1 σ H1 vs us Q I1 r1 q1) he hpl
end
end L2

namespace HT
open PySem PyProof.Rows

/-- t < u of tuples of ints -/
def lexLt : List Int → List Int → Bool
  | [], [] => false
  | [], _ :: _ => true
  | _ :: _, [] => false
  | x :: xs, y :: ys => if x = y then lexLt xs ys else decide (x < y)
theorem lexLt_cons (x y : Int) (xs ys : List Int) : lexLt (x :: xs) (y :: ys) = if x = y then lexLt xs ys else decide (x < y) := rfl
theorem lexLt_nil_nil : lexLt [] [] = false := rfl
theorem lexLt_nil_cons (y : Int) (ys : List Int) : lexLt [] (y :: ys) = true := rfl
theorem lexLt_cons_nil (x : Int) (xs : List Int) : lexLt (x :: xs) [] = false := rfl

theorem eqAt_int (A : Around) (s : Shared) (a : Int) (t : Tok) (c : Int) (u : Tok) : ∃ e, SeqAt.EqAt A s (.int a t) (.int c u) e ∧ (e = true ↔ a = c) :=
  ⟨(a == c), SeqAt.EqAt.int_int a t c u, by simp⟩
theorem rcLt_int (A : Around) (s : Shared) (a : Int) (t : Tok) (c : Int) (u : Tok) (prog : Program) (w : World) (E : Value → Shared → Prop) (Q : Value → Shared → Prop) (h : Q (.bool (decide (a < c))) s) :
    wpAny (model prog w) A (richCompare .Lt (.int a t) (.int c u)) Q E s :=
  (PyProof.Rows.lt_int h : wpAny (model prog w) A (compareOp .Lt (.int a t) (.int c u)) Q E s)

section
open PySem.SeqAt
open PySem.AutoSeq1 (wpAny_loadPart')
open PySem.MeetsSeq PySem.MeetsSeq2 PySem.MeetsSeq3

theorem tuple_lt_ints (l b : Addr) (items items2 : Array Value) (n n2 : Nat) (dd dd2 : Option Addr) (sl sl2 : Array (Option Value)) (ns ms : List Int) (hi : IntsAre items.toList ns) (hj : IntsAre items2.toList ms) :
    Meets (Builtin.«tuple.__lt__» ⟨[.ref l, .ref b], []⟩)
      (fun _ R s => s.heap.get? l = some { cls := .type "tuple", dict := dd, data := .seq items n, slots := sl } ∧ s.heap.get? b = some { cls := .type "tuple", dict := dd2, data := .seq items2 n2, slots := sl2 } ∧
        R (.ok (.ret (.bool (lexLt ns ms)))) s) :=
  .of_wp fun prog w A R s h => by
    obtain ⟨hp, g, d, tk, os⟩ := s; obtain ⟨hl, hb, h⟩ := h
    have f2 := AutoSeq1.sub_tuple_tuple
    have z1 : items.size = ns.length := by rw [← hi.length]; simp
    have z2 : items2.size = ms.length := by rw [← hj.length]; simp
    wp_walk using wpAny_loadPart' hl, wpAny_loadPart' hb, wpAny_forIn_list _ (fun rest b s' => b.1 = none ∧ s' = ⟨hp, g, d, tk, os⟩ ∧ ∃ (vs ws : List Value) (ns' ms' : List Int), rest = vs.zip ws ∧
      IntsAre vs ns' ∧ IntsAre ws ms' ∧ ns'.length + items2.size = ms'.length + items.size ∧ R (.ok (.ret (.bool (lexLt ns' ms')))) ⟨hp, g, d, tk, os⟩) _
    case turn =>
      rintro ⟨y, x⟩ rest b s' ⟨hb', rfl, vs, ws, ns', ms', hz, hvi, hwi, hlen, hR⟩
      cases hvi with
      | nil => rw [List.zip_nil_left] at hz; cases hz
      | cons a t hvi' =>
        cases hwi with
        | nil => rw [List.zip_nil_right] at hz; cases hz
        | cons c u hwi' =>
          rw [List.zip_cons_cons] at hz
          injection hz with hyx hrest
          injection hyx with hy hx
          subst hy hx
          rw [lexLt_cons] at hR
          simp only [List.length_cons] at hlen
          obtain ⟨e, he, hiff⟩ := eqAt_int A.in1 ⟨hp, g, d, tk, os⟩ a t c u
          refine wpAny_bind (he prog w _ _ ?_)
          cases e with
          | true =>
            rw [if_pos (hiff.mp rfl)] at hR
            wp_walk
            exact ⟨rfl, rfl, _, _, _, _, hrest, hvi', hwi', by omega, hR⟩
          | false =>
            rw [if_neg (fun q => absurd (hiff.mpr q) Bool.false_ne_true)] at hR
            have hri := rcLt_int A.in1 ⟨hp, g, d, tk, os⟩ a t c u prog w
            wp_walk using hri
            exact ⟨_, rfl, by simpa using hR⟩
    case fin =>
      rintro ⟨b1, b2⟩ s' ⟨hb', rfl, vs, ws, ns', ms', hz, hvi, hwi, hlen, hR⟩
      simp only at hb'
      subst hb'
      have hv : lexLt ns' ms' = decide (items.size < items2.size) := by
        cases hvi with
        | nil =>
          cases hwi with
          | nil =>
            simp only [List.length_nil] at hlen
            rw [lexLt_nil_nil]
            exact (decide_eq_false (by omega)).symm
          | cons c u hw =>
            simp only [List.length_nil, List.length_cons] at hlen
            rw [lexLt_nil_cons]
            exact (decide_eq_true (by omega)).symm
        | cons a t hv =>
          cases hwi with
          | nil =>
            simp only [List.length_nil, List.length_cons] at hlen
            rw [lexLt_cons_nil]
            exact (decide_eq_false (by omega)).symm
          | cons c u hw =>
            rw [List.zip_cons_cons] at hz
            cases hz
      rw [hv] at hR
      wp_walk
      exact ⟨_, rfl, by simpa [Builtin.Tuple.tupleCompareSizes] using hR⟩
    case h =>
      exact ⟨rfl, rfl, items.toList, items2.toList, ns, ms, rfl, hi, hj, by omega, h⟩
end

section
variable {prog : Program} {w : World} {A : Around} {E : Value → Shared → Prop} {s : Shared}

theorem lt_tupInts {l b : Addr} {items items2 : Array Value} {ns ms : List Int} {Q : Value → Shared → Prop} (hl : IsTup s.heap l items) (hb : IsTup s.heap b items2) (hi : IntsAre items.toList ns) (hj : IntsAre items2.toList ms)
    (hu : A.units < cLine) (h : Q (.bool (lexLt ns ms)) s) : wpAny (model prog w) A (compareOp .Lt (.ref l) (.ref b)) Q E s := by
  obtain ⟨⟨cls, dd, data, sl⟩, ho, hc, n, hd⟩ := id hl
  obtain ⟨⟨cls2, dd2, data2, sl2⟩, ho2, hc2, n2, hd2⟩ := id hb
  simp only at hc hd hc2 hd2
  subst hc hd hc2 hd2
  exact richCompare_meets_room (op := .Lt) ⟨_, ho, rfl⟩ ⟨_, ho2, rfl⟩ PySem.F.slot_tuple_lt PySem.F.entry_tuple_lt (PySem.F.args_tuple_lt_2 _ _) (tuple_lt_ints l b items items2 n n2 dd dd2 sl sl2 ns ms hi hj)
    ⟨ho, ho2, show Value.bool (lexLt ns ms) ≠ Value.notImplemented ∧ Q (.bool (lexLt ns ms)) s from ⟨(fun x => nomatch x), h⟩⟩ hu

/-! ### t[a:b], not the whole -/
/-- a slice's bound as a place among n (d where it is left out) -/
def sIx (n d : Nat) : Option Int → Nat
  | none => d
  | some v => if v < 0 then (v + (n : Int)).toNat else min v.toNat n
theorem sIx_none (n d : Nat) : sIx n d none = d := rfl
theorem sIx_nat (n d k : Nat) : sIx n d (some (k : Int)) = min k n := by
  show (if (k : Int) < 0 then ((k : Int) + (n : Int)).toNat else min (k : Int).toNat n) = min k n
  rw [if_neg (by omega), Int.toNat_natCast]
end
end HT

namespace L2
open PySem PySem.Spec PyProof.Rows

/-! ### the parts of a slice -/
abbrev TO := St → Hp → (Option Int → Hp → Prop) → Prop
/-- a slice's part (left out, or an int) -/
def PO (X : Cx) (e : Option Expr) (t : TO) : Prop :=
  ∀ (pins : List (Addr × Obj)) (s : Shared) (σ : St) (H : Hp) (Q : Option Int → Hp → Prop), Inv X pins σ H s → t σ H Q →
    wpAny (model X.prog X.w) X.A (evalPart e X.env) (fun u s' => ∃ o H', Inv X pins σ H' s' ∧ IsPart u o ∧ Q o H') X.xe s
def tNoPart : TO := fun _ H Q => Q none H
def tPart (t : TE) : TO := fun σ H Q => t σ H fun x H1 => ∃ i, x = .int i ∧ Q (some i) H1

theorem intsAre_of {ns : List Int} : ∀ {us : List Value}, Vals (ns.map V.int) us → IntsAre us ns := by
  induction ns with
  | nil => intro us r; rw [List.map_nil] at r; cases r; exact .nil
  | cons n ns ih =>
    intro us r
    rw [List.map_cons] at r
    cases r with
    | cons r1 r2 =>
      obtain ⟨t, e⟩ := r1
      subst e
      exact .cons n t (ih r2)

section
variable {X : Cx} {e : Expr} {te : TE} {lo hi : Option Expr} {tl th : TO} {pos p2 : Pos}

/-- what a slice of a value is, by values: the slice object stands at sl -/
def SlR (X : Cx) (r : V → Option Int → Option Int → Hp → VK → Prop) : Prop :=
  ∀ (pins : List (Addr × Obj)) (s : Shared) (σ : St) (H : Hp) (x : V) (v vl vu : Value) (lo hi : Option Int) (sl : Addr) (Q : VK), Inv X pins σ H s → RelV x v → s.heap.IsSliceOf sl vl vu .none → IsPart vl lo → IsPart vu hi → r x lo hi H Q →
    ∃ T id, typeLookup (.type T) "__getitem__" = pure (some (.builtin id)) ∧ s.TypeIs v T ∧ wpAny (model X.prog X.w) X.A (getItem v (.ref sl)) (EP X pins σ Q) X.xe s
theorem SlR.or {r r' : V → Option Int → Option Int → Hp → VK → Prop} (h : SlR X r) (h' : SlR X r') : SlR X (fun x lo hi H Q => r x lo hi H Q ∨ r' x lo hi H Q) := by
  intro pins s σ H x v vl vu lo hi sl Q I rx hs pl pu q
  rcases q with q | q
  · exact h pins s σ H x v vl vu lo hi sl Q I rx hs pl pu q
  · exact h' pins s σ H x v vl vu lo hi sl Q I rx hs pl pu q
def tSl (r : V → Option Int → Option Int → Hp → VK → Prop) (te : TE) (tl th : TO) : TE := fun σ H Q => te σ H fun x H1 => tl σ H1 fun l H2 => th σ H2 fun u H3 => r x l u H3 Q
/-- the items of xs[lo:hi] -/
def cutV (xs : List V) (lo hi : Option Int) : List V := (xs.drop (HT.sIx xs.length 0 lo)).take (HT.sIx xs.length xs.length hi - HT.sIx xs.length 0 lo)
/-- t[lo:hi], not the whole of it (the whole would be t itself) -/
def rSlT (K : PySem.W.Frag) : V → Option Int → Option Int → Hp → VK → Prop := fun x lo hi H Q => ∃ a xs, x = .ref a ∧ SqT K H a xs ∧
  ¬ (HT.sIx xs.length 0 lo = 0 ∧ HT.sIx xs.length xs.length hi = xs.length) ∧ ∀ p, H p = none → Q (.ref p) (upd H p (.tup (cutV xs lo hi)))
/-! ### t < u, t + u -/
def rLtT (K : PySem.W.Frag) : R2 := fun x y H Q => ∃ a b ns ms, x = .ref a ∧ y = .ref b ∧ SqT K H a (ns.map V.int) ∧ SqT K H b (ms.map V.int) ∧ Q (.bl (HT.lexLt ns ms)) H
theorem op_ltT (hu : X.A.units < cLine) : OpR X (compareOp .Lt) (rLtT X.K) := by
  intro pins s σ H x y v u Q I rx ry h
  obtain ⟨a, b, ns, ms, rfl, rfl, ha, hb, q⟩ := h
  cases rx
  cases ry
  obtain ⟨its, r1, p1, _⟩ := I.tuple ha
  obtain ⟨its2, r2, p2, _⟩ := I.tuple hb
  have i1 : IntsAre its.toArray.toList ns := intsAre_of r1
  have i2 : IntsAre its2.toArray.toList ms := intsAre_of r2
  exact HT.lt_tupInts p1 p2 i1 i2 hu ⟨.bl (HT.lexLt ns ms), H, I, rfl, q⟩
/-- t + u, t not empty: u empty gives t itself -/
def rCatT (K : PySem.W.Frag) : R2 := fun x y H Q => ∃ a b xs ys, x = .ref a ∧ y = .ref b ∧ SqT K H a xs ∧ SqT K H b ys ∧ xs ≠ [] ∧ xs.length + ys.length ≤ sizeLine ∧
  (ys = [] → Q (.ref a) H) ∧ (ys ≠ [] → ∀ p, H p = none → Q (.ref p) (upd H p (.tup (xs ++ ys))))
end
end L2

namespace L2
open PySem PySem.Spec PyProof.Rows

/-! ### places -/
/-- the place that an index of any sign means -/
def ixN (n : Nat) (i : Int) : Option Nat := if 0 ≤ i then (if i < n then some i.toNat else none) else if -(n : Int) ≤ i then some (i + n).toNat else none
def atI {α : Type} (xs : List α) (i : Int) : Option α := (ixN xs.length i).bind fun j => xs[j]?
theorem ixN_seq {n : Nat} {i : Int} {j : Nat} (h : ixN n i = some j) : seqIndex? i n = some j ∧ j < n ∧ -(n : Int) ≤ i ∧ i < n := by
  unfold ixN at h
  by_cases h0 : 0 ≤ i
  · rw [if_pos h0] at h
    by_cases h1 : i < n
    · rw [if_pos h1] at h
      have e : i.toNat = j := Option.some.inj h
      exact ⟨by rw [seqIndex_of h0 h1, e], by omega, by omega, h1⟩
    · rw [if_neg h1] at h; cases h
  · rw [if_neg h0] at h
    by_cases h1 : -(n : Int) ≤ i
    · rw [if_pos h1] at h
      have e : (i + n).toNat = j := Option.some.inj h
      exact ⟨by rw [seqIndex_neg (by omega) h1, e], by omega, h1, by omega⟩
    · rw [if_neg h1] at h; cases h
theorem atI_get {α : Type} {xs : List α} {i : Int} {v : α} (h : atI xs i = some v) : ∃ j, seqIndex? i xs.length = some j ∧ xs[j]? = some v ∧ j < xs.length ∧ -(xs.length : Int) ≤ i ∧ i < xs.length := by
  unfold atI at h
  cases e : ixN xs.length i with
  | none => rw [e] at h; cases h
  | some j =>
    rw [e] at h
    obtain ⟨h1, h2, h3, h4⟩ := ixN_seq e
    exact ⟨j, h1, h, h2, h3, h4⟩
theorem atI_nat {α : Type} {xs : List α} {j : Nat} {v : α} (h : xs[j]? = some v) : atI xs (j : Int) = some v := by
  have hj : j < xs.length := (List.getElem?_eq_some_iff.mp h).1
  have e : ixN xs.length (j : Int) = some j := by
    unfold ixN
    rw [if_pos (by omega), if_pos (by omega)]; simp
  unfold atI; rw [e]; exact h
/-! ### what may be subscripted -/
/-- what stands as an index of a plain subscript -/
def PlainIx (b : Expr) : Prop := ∀ o i, subscripted b false o i = operate [o, i] (getItem o i)
/-- a subscript by values -/
def IxR (X : Cx) (r : R2) : Prop :=
  ∀ (value slice : Expr) (pins : List (Addr × Obj)) (s : Shared) (σ : St) (H : Hp) (x y : V) (v u : Value) (Q : VK), Inv X pins σ H s → RelV x v → RelV y u → r x y H Q →
    subscripted slice false v u = operate [v, u] (getItem v u) → wpAny (model X.prog X.w) X.A (subscriptTail value slice v u) (EP X pins σ Q) X.xe s
/-- a call of a builtin's method by values: the receiver, the arguments -/
def MtR (X : Cx) (id : String) (r : V → List V → Hp → VK → Prop) : Prop :=
  ∀ (pins : List (Addr × Obj)) (s : Shared) (σ : St) (H : Hp) (x : V) (xs : List V) (v : Value) (us : List Value) (Q : VK), Inv X pins σ H s → RelV x v → Vals xs us → r x xs H Q →
    wpAny (model X.prog X.w) X.A (call (.builtin id) (v :: us)) (EP X pins σ Q) X.xe s
section
variable {X : Cx} {a b : Expr} {ta tb : TE} {pos : Pos}
theorem IxR.or {r r' : R2} (h : IxR X r) (h' : IxR X r') : IxR X (fun x y H Q => r x y H Q ∨ r' x y H Q) := by
  intro value slice pins s σ H x y v u Q I rx ry q hs
  rcases q with q | q
  · exact h value slice pins s σ H x y v u Q I rx ry q hs
  · exact h' value slice pins s σ H x y v u Q I rx ry q hs
theorem MtR.or {id : String} {r r' : V → List V → Hp → VK → Prop} (h : MtR X id r) (h' : MtR X id r') : MtR X id (fun x xs H Q => r x xs H Q ∨ r' x xs H Q) := by
  intro pins s σ H x xs v us Q I rx rs q
  rcases q with q | q
  · exact h pins s σ H x xs v us Q I rx rs q
  · exact h' pins s σ H x xs v us Q I rx rs q
/-- a[b] -/
theorem pe_ix {r : R2} (hr : IxR X r) (ha : PE X a ta) (hb : PE X b tb) (hs : PlainIx b) : PE X (.Subscript a b pos) (tOp r ta tb) := by
  intro pins s σ H Q I h
  exact Subscript_ (binT ha hb I h fun v u s2 x y H2 I2 rx ry q => hr a b pins s2 σ H2 x y v u Q I2 rx ry q (hs _ _))

def rIxL (K : PySem.W.Frag) : R2 := fun x y H Q => ∃ p xs i v, x = .ref p ∧ y = .int i ∧ SqL K H p xs ∧ atI xs i = some v ∧ Q v H
def rIxT (K : PySem.W.Frag) : R2 := fun x y H Q => ∃ p xs i v, x = .ref p ∧ y = .int i ∧ SqT K H p xs ∧ atI xs i = some v ∧ Q v H
def rIxS : R2 := fun x y H Q => ∃ z i c, x = .str z ∧ y = .int i ∧ z.length ≤ sizeLine ∧ atI z.cps.toList i = some c ∧ Q (.str ⟨#[c]⟩) H
theorem ix_list : IxR X (rIxL X.K) := by
  intro value slice pins s σ H x y v u Q I rx ry h hs
  obtain ⟨p, xs, i, z, rfl, rfl, hq, he, q⟩ := h
  cases rx
  obtain ⟨t, rfl⟩ := ry
  obtain ⟨its, r, pl, hz⟩ := I.list hq
  obtain ⟨j, h1, h2, h3, h4, h5⟩ := atI_get he
  obtain ⟨w, ew, rw'⟩ := r.get h2
  have hl := r.length
  have hn := line63
  have fin : EP X pins σ Q w s := ⟨z, H, I, rw', q⟩
  by_cases h0 : 0 ≤ i
  · have hj : i.toNat = j := by
      rw [seqIndex_of h0 h5] at h1
      exact Option.some.inj h1
    exact item_listR pl.isList h0 (by omega) (by rw [hj]; simpa using ew) fin hs
  · have hj : (i + (its.toArray.size : Int)).toNat = j := by
      rw [seqIndex_neg (by omega) h4] at h1
      rw [List.size_toArray, ← hl]
      exact Option.some.inj h1
    exact subscriptTail_builtinR (x := w) pl.isList.typeIs slot_list_getitem.lookup
      (wpAny_getItem_list_neg (Q := fun r s' => r = w ∧ EP X pins σ Q r s') pl.isList (by omega) (by rw [List.size_toArray] <;> omega) (by omega) (by rw [hj]; simpa using ew) ⟨rfl, fin⟩) hs
theorem ix_tup : IxR X (rIxT X.K) := by
  intro value slice pins s σ H x y v u Q I rx ry h hs
  obtain ⟨p, xs, i, z, rfl, rfl, hq, he, q⟩ := h
  cases rx
  obtain ⟨t, rfl⟩ := ry
  obtain ⟨its, r, pl, hz⟩ := I.tuple hq
  obtain ⟨j, h1, h2, h3, h4, h5⟩ := atI_get he
  obtain ⟨w, ew, rw'⟩ := r.get h2
  have hl := r.length
  have hn := line63
  have fin : EP X pins σ Q w s := ⟨z, H, I, rw', q⟩
  exact subscriptTail_builtinR (x := w) pl.typeIs slot_tuple_getitem.lookup
    (getItem_tuple (j := j) (Q := fun r s' => r = w ∧ EP X pins σ Q r s') pl (by omega) (by omega) (by rw [List.size_toArray, ← hl]; exact h1) (by simpa using ew) ⟨rfl, fin⟩) hs
/-- list, tuple or str -/
def rIx (K : PySem.W.Frag) : R2 := fun x y H Q => rIxL K x y H Q ∨ rIxT K x y H Q ∨ rIxS x y H Q
/-! ### xs[i] = v, any sign -/
/-- the list's object behind a store -/
theorem mapSeq_set (its : List Value) (n j : Nat) (u : Value) : Obj.mapSeq (·.setIfInBounds j u) { cls := .type "list", data := .seq its.toArray n } = { cls := .type "list", data := .seq (its.set j u).toArray n } := by
  simp [Obj.mapSeq]
theorem Inv.lst {pins : List (Addr × Obj)} {σ : St} {H : Hp} {s : Shared} {p : Addr} {xs : List V} (I : Inv X pins σ H s) (h : H p = some (.lst xs)) :
    ∃ (its : List Value) (n : Nat), Vals xs its ∧ s.heap.get? p = some { cls := .type "list", data := .seq its.toArray n } ∧ xs.length ≤ sizeLine := by
  obtain ⟨z, its, n, r, e⟩ := I.hok p _ h
  exact ⟨its, n, r, e, z⟩
/-- the list at p is written by an update of its object -/
theorem Inv.lstUpd {pins : List (Addr × Obj)} {σ : St} {H : Hp} {s : Shared} {p : Addr} {xs ys : List V} {its its' : List Value} {n n' : Nat} {f : Obj → Obj} (I : Inv X pins σ H s) (h : H p = some (.lst xs))
    (ho : s.heap.get? p = some { cls := .type "list", data := .seq its.toArray n }) (hf : f { cls := .type "list", data := .seq its.toArray n } = { cls := .type "list", data := .seq its'.toArray n' }) (r : Vals ys its') (hz : ys.length ≤ sizeLine) (t : Nat) :
    Inv X pins σ (upd H p (.lst ys)) { s with heap := s.heap.update p f, toks := t } := by
  have e : (s.heap.update p f).get? p = some { cls := .type "list", data := .seq its'.toArray n' } := by
    rw [Heap.get?_update_self f ho (by rw [hf] <;> rfl), hf]
  refine I.write (x := p) (e := p) (by rw [h]; trivial) (.inl rfl) (fun b u hb q => (Heap.get?_update_other _ _ (Ne.symm hb)).trans q) ⟨_, e⟩ ?_
  exact ⟨hz, its', n', r, e⟩
def rSetL : V → V → V → Hp → (Hp → Prop) → Prop := fun o i v H Q => ∃ p xs k j, o = .ref p ∧ i = .int k ∧ H p = some (.lst xs) ∧ ixN xs.length k = some j ∧ Q (upd H p (.lst (xs.set j v)))
theorem set_list : PSet X rSetL := by
  intro pins s σ H o i v ov iv u Q I ro ri rv h
  obtain ⟨p, xs, k, j, rfl, rfl, hp, hj, q⟩ := h
  cases ro
  obtain ⟨t, rfl⟩ := ri
  obtain ⟨its, n, r, ho, hz⟩ := I.lst hp
  obtain ⟨h1, h2, h3, h4⟩ := ixN_seq hj
  have hl := r.length
  have hn := line63
  have I' : Inv X pins σ (upd H p (.lst (xs.set j v))) { s with heap := s.heap.update p (Obj.mapSeq (·.setIfInBounds j u)) } :=
    I.lstUpd hp ho (mapSeq_set its n j u) (r.set rv j) (by rw [List.length_set]; exact hz) s.toks
  by_cases h0 : 0 ≤ k
  · have hk : k.toNat = j := by
      rw [seqIndex_of h0 h4] at h1
      exact Option.some.inj h1
    exact PySem.W.ki_setAt ho h0 (by omega) (by rw [List.size_toArray, ← hl]; exact h4) (by rw [hk]; exact ⟨_, I', q⟩)
  · have hk : (k + (its.toArray.size : Int)).toNat = j := by
      rw [seqIndex_neg (by omega) h3] at h1
      rw [List.size_toArray, ← hl]
      exact Option.some.inj h1
    exact PySem.W.ki_setBack ho (by omega) (by rw [List.size_toArray, ← hl]; exact h3) (by omega) (by rw [hk]; exact ⟨_, I', q⟩)

/-! ### slices -/
/-- xs[lo:hi] of a list: a new list -/
def rSlL (K : PySem.W.Frag) : V → Option Int → Option Int → Hp → VK → Prop := fun x lo hi H Q => ∃ a xs, x = .ref a ∧ SqL K H a xs ∧ ∀ p, H p = none → Q (.ref p) (upd H p (.lst (cutV xs lo hi)))
/-! ### in, not in: flat items -/
def flatV : V → Bool
  | .non => true
  | .bl _ => true
  | .int _ => true
  | .str _ => true
  | _ => false
/-- == of flat values -/
def eqV : V → V → Bool
  | .non, .non => true
  | .bl a, .bl b => a == b
  | .bl a, .int b => (if a then 1 else 0) == b
  | .int a, .bl b => a == (if b then 1 else 0)
  | .int a, .int b => a == b
  | .str a, .str b => a == b
  | _, _ => false
/-- the items' answers, read off the values (a value's own answer does not lean on its token) -/
def eqU (x : V) (u : Value) : Bool := match u with
  | .none => eqV .non x
  | .bool b => eqV (.bl b) x
  | .int i _ => eqV (.int i) x
  | .str z _ => eqV (.str z) x
  | _ => false
def inV (x : V) (xs : List V) : Bool := xs.any fun y => eqV y x
/-- x in a list or tuple of flat items -/
def rIn (K : PySem.W.Frag) (neg : Bool) : R2 := fun x y H Q => ∃ p xs, y = .ref p ∧ (SqL K H p xs ∨ SqT K H p xs) ∧ flatV x = true ∧ xs.all flatV = true ∧ Q (.bl (if neg then !inV x xs else inV x xs)) H
/-! ### len, list(x), tuple(x) of any list or tuple that is read -/
theorem call_len_seq : CallR X (.builtin "len") (fun xs H Q => ∃ p ys, xs = [.ref p] ∧ (SqL X.K H p ys ∨ SqT X.K H p ys) ∧ Q (.int ys.length) H) := by
  intro pins s σ H xs us Q I r h
  obtain ⟨p, ys, rfl, hq, q⟩ := h
  obtain ⟨u, rfl, rx⟩ := vals1 r
  cases rx
  have hn := line63
  rcases hq with hq | hq
  · obtain ⟨its, r', pl, hz⟩ := I.list hq
    have hlen := r'.length
    exact Calls.call_len_list pl.isList (by simp only [List.size_toArray] <;> omega) ⟨.int ys.length, H, I.tok _, ⟨s.toks + 1, by rw [List.size_toArray, hlen]⟩, q⟩
  · obtain ⟨its, r', pl, hz⟩ := I.tuple hq
    have hlen := r'.length
    exact len_tuple pl (by simp only [List.size_toArray] <;> omega) ⟨.int ys.length, H, I.tok _, ⟨s.toks + 1, by rw [List.size_toArray, hlen]⟩, q⟩
theorem call_len_str : CallR X (.builtin "len") (fun xs H Q => ∃ z, xs = [.str z] ∧ z.length ≤ sizeLine ∧ Q (.int z.length) H) := by
  intro pins s σ H xs us Q I r h
  obtain ⟨z, rfl, hz, q⟩ := h
  obtain ⟨u, rfl, t, rfl⟩ := vals1 r
  have hn := line63
  exact len_str (by omega) ⟨.int z.length, H, I.tok _, ⟨_, rfl⟩, q⟩
theorem CallR.or {f : Value} {r r' : List V → Hp → VK → Prop} (h : CallR X f r) (h' : CallR X f r') : CallR X f (fun xs H Q => r xs H Q ∨ r' xs H Q) := by
  intro pins s σ H xs us Q I rs q
  rcases q with q | q
  · exact h pins s σ H xs us Q I rs q
  · exact h' pins s σ H xs us Q I rs q
/-! ### the call of a builtin's method: o.m(..) -/
/-- the value is of that builtin type -/
def tyV (K : PySem.W.Frag) (T : String) (x : V) (H : Hp) : Prop := match x with
  | .str _ => T = "str"
  | .int _ => T = "int"
  | .ref p => (T = "list" ∧ ∃ xs, SqL K H p xs) ∨ (T = "tuple" ∧ ∃ o, K.lookup p = some o ∧ o.cls = .type "tuple" ∧ o.dict = none) ∨
      (T = "dict" ∧ ((∃ kvs, H p = some (.dK kvs)) ∨ ∃ kvs, H p = some (.dT kvs))) ∨ (T = "set" ∧ ∃ S n, H p = some (.set S n))
  | _ => False
theorem tyV_is {pins : List (Addr × Obj)} {σ : St} {H : Hp} {s : Shared} {T : String} {x : V} {v : Value} (I : Inv X pins σ H s) (r : RelV x v) (ty : tyV X.K T x H) :
    s.TypeIs v T ∧ ∀ a, v = .ref a → ∃ ob, s.heap.get? a = some ob ∧ ob.dict = none := by
  cases x with
  | str z =>
    obtain ⟨t, rfl⟩ := r
    cases (show T = "str" from ty)
    exact ⟨typeIs_str s z t, fun _ e => nomatch e⟩
  | int i =>
    obtain ⟨t, rfl⟩ := r
    cases (show T = "int" from ty)
    exact ⟨typeIs_int s i t, fun _ e => nomatch e⟩
  | ref p =>
    cases r
    rcases ty with ⟨rfl, xs, hq⟩ | ⟨rfl, o, hk, hc, hd⟩ | ⟨rfl, hk⟩ | ⟨rfl, S, n, hk⟩
    · obtain ⟨its, _, pl, _⟩ := I.list hq
      refine ⟨pl.isList.typeIs, fun a e => ?_⟩
      cases e
      obtain ⟨o, n, e, c, hd, _⟩ := pl
      exact ⟨o, e, hd⟩
    · refine ⟨⟨o, I.kIn p o hk, hc⟩, fun a e => ?_⟩
      cases e
      exact ⟨o, I.kIn _ o hk, hd⟩
    · have z : ∃ o, s.heap.get? p = some o ∧ o.ExactDict := by
        rcases hk with ⟨kvs, hk⟩ | ⟨kvs, hk⟩
        · obtain ⟨_, _, _, _, o, _, _, e, ex, _⟩ := I.hok p _ hk
          exact ⟨o, e, ex⟩
        · obtain ⟨_, _, _, _, o, _, _, e, ex, _⟩ := I.hok p _ hk
          exact ⟨o, e, ex⟩
      obtain ⟨o, e, ex⟩ := z
      refine ⟨⟨o, e, ex.1⟩, fun a e2 => ?_⟩
      cases e2
      exact ⟨o, e, ex.2.1⟩
    · obtain ⟨o, _, _, _, e, ex, _⟩ := I.hok p _ hk
      refine ⟨⟨o, e, ex.1⟩, fun a e2 => ?_⟩
      cases e2
      exact ⟨o, e, ex.2.1⟩
  | _ => exact False.elim ty
def tBM0 (K : PySem.W.Frag) (T : String) (r : V → List V → Hp → VK → Prop) (to : TE) : TE := fun σ H Q => to σ H fun x H1 => tyV K T x H1 ∧ r x [] H1 Q
def tBM (K : PySem.W.Frag) (T : String) (r : V → List V → Hp → VK → Prop) (to : TE) (t : TA) : TE := fun σ H Q => to σ H fun x H1 => tyV K T x H1 ∧ t σ H1 fun xs H2 => r x xs H2 Q
variable {o e : Expr} {es : List Expr} {to : TE} {t : TA} {name : Str} {apos cpos : Pos} {T id : String} {r : V → List V → Hp → VK → Prop}
theorem pe_bm (pa : PlainAttrs T) (slot : Slot T name id) (hty : typeOf (.builtin id) = pure (.type "method_descriptor")) (hm : MtR X id r) (ho : PE X o to) (ha : PA X (e :: es) t)
    (hbase : attributeBase o name X.env (eval o X.env) = eval o X.env := by rfl)
    (hfew : ((backTo cpos (starEach (e :: es) X.env)).all (fun x => !x.1) && (backToKw cpos (keywordEach [] X.env)).all (fun x => x.1.isSome)
      && decide ((e :: es).length + ([] : List Keyword).length + (if ([] : List Keyword).isEmpty then 0 else 1) < 30)) = true := by rfl)
    (hline : (apos.endLine == cpos.line) = true := by rfl) (hs : starEach (e :: es) X.env = (false, eval e X.env) :: starEach es X.env := by rfl) (hplain : (backTo cpos (starEach es X.env)).any (·.1) = false := by rfl) :
    PE X (.Call (.Attribute o name apos) (e :: es) [] cpos) (tBM X.K T r to t) := by
  intro pins s σ H Q I h
  refine wpAny_Call_method_late hbase hfew hline rfl (thn (ho pins s σ H _ I h) fun v s1 ⟨x, H1, I1, r1, ty, q1⟩ => ?_)
  obtain ⟨h1, h2⟩ := tyV_is I1 r1 ty
  refine ⟨T, id, pa, slot, hty, h1, h2, ?_⟩
  have hA := ha cpos pins s1 σ H1 _ I1 q1
  rw [hs] at hA ⊢
  refine Calls.callWith_builtin (by show (false || (backTo cpos (starEach es X.env)).any (·.1)) = false; rw [hplain] <;> rfl) (Calls.evalArgs_plain ?_)
  exact thn hA fun us s2 ⟨vs, H2, I2, r2, q2⟩ => hm pins s2 σ H2 x vs v us Q I2 r1 r2 q2
/- xs.append(e), list.index on a module's tuple .. are MtR facts of 06m -/
end
end L2

namespace L2
open PySem PySem.Spec PyProof.Rows

def MtM (X : Cx) (id : String) (r : V → List V → Hp → VK → Prop) : Prop :=
  ∀ (pins : List (Addr × Obj)) (s : Shared) (σ : St) (H : Hp) (x : V) (xs : List V) (v : Value) (us : List Value) (Q : VK), Inv X pins σ H s → RelV x v → Vals xs us → r x xs H Q →
    wpAny (model X.prog X.w) X.A (call (.builtin id) (v :: us)) (EP X pins σ Q) X.xe s

/-! ### lists of values -/
theorem Vals.one : ∀ {x : V} {us : List Value}, Vals [x] us → ∃ u, us = [u] ∧ RelV x u
  | _, _, .cons r .nil => ⟨_, rfl, r⟩
theorem Vals.two : ∀ {x y : V} {us : List Value}, Vals [x, y] us → ∃ u v, us = [u, v] ∧ RelV x u ∧ RelV y v
  | _, _, _, .cons r (.cons q .nil) => ⟨_, _, rfl, r, q⟩
theorem Vals.zero : ∀ {us : List Value}, Vals [] us → us = []
  | _, .nil => rfl
theorem Vals.dropLast {xs : List V} {us : List Value} (h : Vals xs us) : Vals xs.dropLast us.dropLast := by
  induction h with
  | nil => exact .nil
  | cons r t ih =>
    cases t with
    | nil => exact .nil
    | cons q t' => exact .cons r ih
theorem Vals.eraseIdx : ∀ {xs : List V} {us : List Value} (i : Nat), Vals xs us → Vals (xs.eraseIdx i) (us.eraseIdx i)
  | _, _, _, .nil => .nil
  | _, _, 0, .cons _ t => t
  | _, _, i + 1, .cons r t => .cons r (Vals.eraseIdx i t)
theorem Vals.reverse {xs : List V} {us : List Value} (h : Vals xs us) : Vals xs.reverse us.reverse := by
  induction h with
  | nil => exact .nil
  | cons r t ih => rw [List.reverse_cons, List.reverse_cons]; exact Vals.append ih (.cons r .nil)
section
variable {X : Cx} {pins : List (Addr × Obj)} {σ : St} {H : Hp} {s : Shared} {l b : Addr} {xs ys zs : List V}

/-! ### the two steps: a tracked list is rewritten, a new list is laid -/
theorem Inv.lset {its its' : List Value} {n : Nat} {f : Array Value → Array Value} {t' : Nat} (I : Inv X pins σ H s) (hH : H l = some (.lst xs))
    (e : s.heap.get? l = some { cls := .type "list", data := .seq its.toArray n }) (hf : f its.toArray = its'.toArray) (hv : Vals ys its') (hz : ys.length ≤ sizeLine) :
    Inv X pins σ (upd H l (.lst ys)) { s with heap := s.heap.update l (Obj.mapSeq f), toks := t' } := by
  have q := PySem.IsL.update e f
  rw [hf] at q
  refine I.write (x := l) (e := l) (by rw [hH]; exact trivial) (.inl rfl) (fun b' u hb hu => (Heap.get?_update_other s.heap (Obj.mapSeq f) (Ne.symm hb)).trans hu) ⟨_, q⟩ ?_
  exact ⟨hz, its', _, hv, q⟩
theorem Inv.lnew {its : List Value} {t' : Nat} (I : Inv X pins σ H s) (hv : Vals ys its) (hz : ys.length ≤ sizeLine) :
    Inv X pins σ (upd H s.heap.objs.size (.lst ys)) { s with heap := s.heap.push { cls := .type "list", data := .seq its.toArray }, toks := t' } :=
  I.laid (fun _ _ q => Heap.get?_push_of_some _ q) (Nat.le_refl _) ⟨hz, its, 0, hv, Heap.get?_push_size _ rfl⟩
theorem Inv.fresh (I : Inv X pins σ H s) : H s.heap.objs.size = none := I.hok.fresh (Nat.le_refl _)
theorem Inv.lstM (I : Inv X pins σ H s) (hH : H l = some (.lst xs)) : xs.length ≤ sizeLine ∧ ∃ (its : List Value) (n : Nat), Vals xs its ∧ xs.length = its.length ∧ s.heap.get? l = some { cls := .type "list", data := .seq its.toArray n } := by
  obtain ⟨z, its, n, r, e⟩ := I.hok l _ hH
  exact ⟨z, its, n, r, r.length, e⟩

end

section
variable {X : Cx}

/-! ### methods -/
def rAppend : V → List V → Hp → VK → Prop := fun x vs H Q => ∃ l xs y, x = .ref l ∧ vs = [y] ∧ H l = some (.lst xs) ∧ xs.length < sizeLine ∧ Q .non (upd H l (.lst (xs ++ [y])))
theorem mt_append : MtM X "list.append" rAppend := by
  intro pins s σ H x vs v us Q I rx rv h
  obtain ⟨l, xs, y, rfl, rfl, hH, hz, q⟩ := h
  cases rx
  obtain ⟨u, rfl, ru⟩ := rv.one
  obtain ⟨z, its, n, r, hl, e⟩ := I.lstM hH
  refine call_meets F.slot_list_append ⟨_, e, rfl⟩ F.entry_list_append (F.args_list_append_2 _ _) (PySem.list_append l its.toArray n u (by rw [List.size_toArray]; omega)) ⟨e, ?_⟩
  refine ⟨.non, _, I.lset (its' := its ++ [u]) hH e (by simp) (r.append (.cons ru .nil)) ?_, rfl, q⟩
  rw [List.length_append, List.length_singleton]
  omega

def rExtend : V → List V → Hp → VK → Prop := fun x vs H Q => ∃ l b xs zs, x = .ref l ∧ vs = [.ref b] ∧ H l = some (.lst xs) ∧ H b = some (.lst zs) ∧ xs.length + zs.length ≤ sizeLine ∧ Q .non (upd H l (.lst (xs ++ zs)))
def rPop : V → List V → Hp → VK → Prop := fun x vs H Q => ∃ l xs y, x = .ref l ∧ vs = [] ∧ H l = some (.lst xs) ∧ xs[xs.length - 1]? = some y ∧ Q y (upd H l (.lst xs.dropLast))
def rPopAt : V → List V → Hp → VK → Prop := fun x vs H Q => ∃ l xs i k y, x = .ref l ∧ vs = [.int i] ∧ H l = some (.lst xs) ∧ -(2 ^ 63) ≤ i ∧ i < 2 ^ 63 ∧ seqIndex? i xs.length = some k ∧ xs[k]? = some y ∧ Q y (upd H l (.lst (xs.eraseIdx k)))
def rReverse : V → List V → Hp → VK → Prop := fun x vs H Q => ∃ l xs, x = .ref l ∧ vs = [] ∧ H l = some (.lst xs) ∧ Q .non (upd H l (.lst xs.reverse))
def rClear : V → List V → Hp → VK → Prop := fun x vs H Q => ∃ l xs, x = .ref l ∧ vs = [] ∧ H l = some (.lst xs) ∧ Q .non (upd H l (.lst []))
/-! ### list + list, list += list, list * int -/
def rCat : R2 := fun x y H Q => ∃ l b xs zs, x = .ref l ∧ y = .ref b ∧ H l = some (.lst xs) ∧ H b = some (.lst zs) ∧ xs.length + zs.length ≤ sizeLine ∧ ∀ p, H p = none → Q (.ref p) (upd H p (.lst (xs ++ zs)))
/-- a list times an int (a negative one is nothing) -/
def rRep : R2 := fun x y H Q => ∃ l k xs, x = .ref l ∧ y = .int k ∧ H l = some (.lst xs) ∧ -(2 ^ 63) ≤ k ∧ k < 2 ^ 63 ∧ xs.length * k.toNat ≤ sizeLine ∧
  ∀ p, H p = none → Q (.ref p) (upd H p (.lst (List.replicate k.toNat xs).flatten))
/-! ### del xs[i] -/
end

/-! ### xs[a:b] = ys -/
section
variable {prog : Program} {w : World} {A : Around} {E : Value → Shared → Prop} {s : Shared}
set_option maxRecDepth 100000 in
end

section
variable {X : Cx}
end
end L2

namespace Att
open PySem PySem.W PySem.Calls PyProof.Rows

/-! ### the script -/
theorem ints_of_wellAll {P : Params} {h : Heap} : ∀ (ns : List Int) (vs : List Value), WellAll P h vs (ns.map WData.int) → IntsAre vs ns := by
  intro ns
  induction ns with
  | nil =>
    intro vs w
    rw [List.map_nil] at w
    cases w
    exact .nil
  | cons n ns ih =>
    intro vs w
    rw [List.map_cons] at w
    cases w with
    | cons a b =>
      cases a
      exact .cons _ _ (ih _ b)

theorem script_of {l : OpenLaw} {n : Nat} (hn : l.most = some n) {P : Params} {h : Heap} {args : List WData} {vals : List Value}
    (hpre : l.row.toRowW.claim.pre args = true) (hwl : WellAll P h vals args) :
    ∃ a vs ns, vals = [Value.ref a] ∧ args = [WData.list (ns.map WData.int)] ∧ h.get? a = some { cls := .type "list", data := .seq vs.toArray } ∧ IntsAre vs ns ∧ ns.length ≤ n := by
  have hsh : WShape.hasAll [] args [.list .int] = true := (pre_splitW hpre).1
  have hc : l.pre.holds [] { args := args } = true := (pre_splitW hpre).2
  obtain ⟨d, r, rfl, h1, h2⟩ := hasAllW_cons hsh
  obtain rfl := hasAllW_nil h2
  obtain ⟨xs, rfl, h3⟩ := hasW_list h1
  obtain ⟨ns, rfl⟩ := items_int h3
  have hlen : ns.length ≤ n := by
    unfold OpenLaw.pre at hc
    have h4 : (WTm.not (.lt (.lit (.int (n : Int))) (.len (.arg 0)))).holds [] { args := [.list (ns.map .int)] } = true := by
      have h4 := (holds_andW hc).1
      rw [hn] at h4
      exact h4
    have h5 := condW_of h4 (w_not (w_lt w_lit (w_len_list (w_arg rfl))))
    rw [List.length_map] at h5
    refine Nat.le_of_not_lt fun q => ?_
    have q' : (n : Int) < ((ns.length : Nat) : Int) := by omega
    first
      | (rw [decide_eq_true q'] at h5; exact absurd h5 (by decide))
      | (simp at h5; omega)
  cases hwl with
  | cons w1 w2 =>
    cases w2
    cases w1 with
    | list ho hall => exact ⟨_, _, ns, rfl, rfl, ho, ints_of_wellAll ns _ hall, hlen⟩

theorem post_true (l : OpenLaw) (args : List WData) : l.row.toRowW.claim.post args (.bool true) args = true :=
  postW_of (r := l.row.toRowW) (X := (true == true))
    (show WShape.has [] (.bool true) .bool = true by first | rfl | decide | simp [WShape.has, WShape.arms, WShape.armsAll])
    (show (WTm.eq .res (.lit (.bool true))).value [] { args := args, res := some (.bool true), after := args } = some (.bool (true == true)) from w_eq_bool (w_res rfl) w_lit) rfl

/-! ### the attachment: holds_open's last premise (the goal 'hc' behind k_head) from a wpAny of the law's body -/
/-- the same from a codeAny of the CALL (for a layer whose function contracts speak of calls) -/
theorem attach_call {l : OpenLaw} {n : Nat} {q : Program} {loose : List Str} {XP : (Str → Option Value) → Heap → Prop} {YP : World → Heap → Prop} {d : DefRec}
    (hn : l.most = some n) (hdf : d.params.defaults = [])
    (call : ∀ (w : World) (s₀ s₁ : Shared) (mg mb : Str → Option Value) (fa : Addr) (o : Obj) (pm cd doc : Value) (a : Addr) (vs : List Value) (ns : List Int),
      Ground q loose [] XP w s₀ mg mb s₁.heap → YP w s₁.heap →
      s₁.heap.get? fa = some o → o.data = .func (docDef d.name d.params d.body d.scope pm cd doc) → s₁.heap.CodeRec cd d.name → mg d.name = some (.ref fa) →
      s₁.heap.get? a = some { cls := .type "list", data := .seq vs.toArray } → IntsAre vs ns → ns.length ≤ n → s₁.gens = #[] →
      codeAny (model l.prog w) callerA (.call (.ref fa) ⟨[.ref a], []⟩) (fun r s' => r = .ok (.ret (.bool true)) ∧ OldK s₁.heap s'.heap ∧ s'.os = s₁.os ∧ AllBare s'.gens) s₁) :
    WalkO q loose XP YP l.row.toRowW d [] (fun f vs => PySem.call f vs) := by
  intro w s₀ s₁ mg mb G Y fa o pm cd doc dV kV ho hd hcd hD hmg hg args vals as hpre hlay hrd hwl hlo
  obtain rfl : dV = .none := Dflts.none hD hdf
  obtain rfl : kV = .none := Dflts.noKw hD
  obtain ⟨a, vs, ns, rfl, rfl, hobj, hints, hlen⟩ := script_of hn hpre hwl
  refine enter_call (codeAny_mono (call w s₀ s₁ mg mb fa o pm cd doc a vs ns G Y ho (fd_plain hd) hcd hmg hobj hints hlen hg) fun r s' hq => ?_)
  obtain ⟨rfl, h2, h3, h4⟩ := hq
  exact ⟨.inl ⟨.bool true, .bool true, [], rfl, fun _ => rfl, .bool true, post_true l _, fun _ => ⟨List.Pairwise.nil, fun _ hm => (nomatch hm)⟩⟩, h2, h3, h4⟩

/-! ### rules over ANY heap (no ledger) from facts about the written part K: the library's own take a ledger (News) for what they write -/
section
variable {prog : Program} {w : World} {A : Around} {E : Value → Shared → Prop} {s : Shared} {K : Frag}

/-! the whole heap as the ledger: makes every rule that writes through a ledger a rule over any heap -/
def noObjs (h : Heap) : Heap := { h with objs := #[] }
def ledger (h : Heap) (L d : Addr) : List (Addr × Obj) := (List.range h.objs.size).filterMap fun a => if a = L ∨ a = d then none else (h.get? a).map fun o => (a, o)
end
end Att

namespace L2
open PySem PySem.Spec PyProof.Rows

theorem vals_ints : ∀ {vs : List Value} {ns : List Int}, IntsAre vs ns → Vals (ns.map V.int) vs
  | _, _, .nil => .nil
  | _, _, .cons n t h => .cons ⟨t, rfl⟩ (vals_ints h)

/-- nothing is tracked but the script, known to the object (or it is an object of the module) -/
def Only (H : Hp) : Prop := ∀ b, H b = none ∨ ∃ o xs, H b = some (.frz o (.lst xs))

/-- THE HEAD: the law's promise, at the heap behind the top. F, the promise of the law's def, may use that base is part of the heap (so K.In base, base.Ns mainGlobals mg stand in Mod) -/
theorem law_call {P : Program} {w : World} {K : PySem.W.Frag} {mg mb : Str → Option Value} {CX : CXT} {k : Nat} {fa a : Addr} {fd : FuncData} {x : Str} {sp : Sp} {s₁ : Shared} {vs : List Value} {ns : List Int}
    (KX : K.In s₁.heap) (hns : s₁.heap.Ns mainGlobals mg) (hb : s₁.heap.Ns builtinsNs mb) (hbb : ∀ x : Str, x ≠ "__name__" → mb x = bootBuiltins x) (hlim : s₁.heap.NoLimit) (hg : s₁.gens = #[])
    (ha : s₁.heap.get? a = some { cls := .type "list", data := .seq vs.toArray }) (hi : IntsAre vs ns) (hl : ns.length ≤ sizeLine) (hr : Room k callerA)
    (F : ∀ base : Heap, K.In base → base.Ns mainGlobals mg → FnOk P w K mg base CX k fa fd [x] sp) (hbind : ∀ (s : Shared) (u : Value), BindsTo s fd ⟨[u], []⟩ [(x, u)])
    (hsp : ∀ H : Hp, Only H → SqL K H a (ns.map V.int) → sp [.ref a] H (fun v _ => v = .bl true) fun _ _ _ => False)
    (hCX : ∀ H e s', CX [] H s₁ (fun _ _ _ => False) e s' → False) :
    codeAny (model P w) callerA (.call (.ref fa) ⟨[.ref a], []⟩) (fun r s' => r = .ok (.ret (.bool true)) ∧ OldK s₁.heap s'.heap ∧ s'.os = s₁.os ∧ AllBare s'.gens) s₁ := by
  have rv := vals_ints hi
  have lenV := hi.length
  -- from an abstract heap in which nothing but the script may be tracked
  have core : ∀ H : Hp, Only H → SqL K H a (ns.map V.int) → HOk P w H s₁.heap → (∀ b, H b ≠ none → b = a) → (H a ≠ none → K.lookup a = none) →
      codeAny (model P w) callerA (.call (.ref fa) ⟨[.ref a], []⟩) (fun r s' => r = .ok (.ret (.bool true)) ∧ OldK s₁.heap s'.heap ∧ s'.os = s₁.os ∧ AllBare s'.gens) s₁ := by
    intro H hO hS hok hA hK
    have base_of : ∀ {b : Addr} {o : Obj}, s₁.heap.get? b = some o → H b = none → (hidT s₁.heap H).get? b = some o := fun e n => hidT_get e n
    have noA : ∀ {b : Addr} {o : Obj} {es : Array DictEntry} {ep : Nat}, s₁.heap.get? b = some o → o.data = .dict es ep → H b = none := fun {b o es ep} e d => by
      cases q : H b with
      | none => rfl
      | some u =>
        have e' : b = a := hA b (by rw [q]; simp)
        subst e'
        rw [ha] at e; cases e
        have d' : Data.seq vs.toArray _ = Data.dict es ep := d
        cases d'
    have nsK : ∀ {b : Addr} {m : Str → Option Value}, s₁.heap.Ns b m → (hidT s₁.heap H).Ns b m := fun {b m} ⟨o, es, ep, e, d, r⟩ => ⟨o, es, ep, base_of e (noA e d), d, r⟩
    have hKb : K.In (hidT s₁.heap H) := fun b o e => base_of (KX b o e) (by
      cases q : H b with
      | none => rfl
      | some u =>
        have e' : b = a := hA b (by rw [q]; simp)
        subst e'
        rw [hK (by rw [q]; simp)] at e; cases e)
    have hM : Mod K mg (hidT s₁.heap H) := ⟨hKb, nsK hns, ⟨mb, nsK hb, hbb⟩, let ⟨mc, h1, h2⟩ := hlim; ⟨mc, nsK h1, h2⟩⟩
    have e0 : Env0 P w K mg (hidT s₁.heap H) callerA [] s₁ H := ⟨rfl, hM, fun b o e => of_hidT e, Nat.le_of_eq (hidT_size _ _), trivial, fun b hb => absurd (show b ∈ ([] : List Addr) from hb) (by simp), hok, .of_eq hg⟩
    refine codeAny_mono ((F _ hKb (nsK hns)).run callerA [] s₁ H ⟨[.ref a], []⟩ [.ref a] [.ref a] _ _ hr e0 (hbind s₁ (.ref a)) (.cons rfl .nil) (hsp H hO hS)) fun r s' h => ?_
    cases r with
    | error e => exact (hCX H e s' h).elim
    | ok fl =>
      cases fl with
      | next => exact False.elim h
      | brk => exact False.elim h
      | cont => exact False.elim h
      | ret u =>
        obtain ⟨v, H', os, bare, un, hok', r', q⟩ := h
        have q' : v = .bl true := q
        subst q'
        obtain rfl : u = Value.bool true := r'
        refine ⟨rfl, OldK.of_keep fun b o e => ?_, os, bare⟩
        cases q : H b with
        | none => exact un.keep b o e q (by intro z; exact absurd (show b ∈ ([] : List Addr) from z) (by simp)) (by simp)
        | some u =>
          rcases hO b with z | ⟨ob, xs, z⟩
          · rw [q] at z; cases z
          · have z2 := un.frzs b ob _ z
            obtain ⟨e1, _⟩ := hok b _ z
            obtain ⟨e2, _⟩ := hok' b _ z2
            rw [e] at e1; cases e1
            exact e2
  cases hk : K.lookup a with
  | some o =>
    -- the script is one of the module's own objects
    have e := KX a o hk
    rw [ha] at e
    cases e
    refine core (fun _ => none) (fun _ => .inl rfl) (.inr ⟨_, vs.toArray, _, hk, rfl, rfl, rfl, by rw [List.size_toArray, lenV]; exact hl, by simpa using rv⟩) (fun b u z => by have z' : (none : Option HO) = some u := z; cases z') (fun b z => absurd rfl z) fun z => absurd rfl z
  | none =>
    refine core (fun b => if b = a then some (.frz { cls := .type "list", data := .seq vs.toArray } (.lst (ns.map V.int))) else none) (fun b => ?_) (.inl (.inr ⟨{ cls := .type "list", data := .seq vs.toArray }, if_pos rfl⟩)) (fun b u z => ?_) (fun b z => ?_) fun _ => hk
    · by_cases hb : b = a
      · exact .inr ⟨_, _, if_pos hb⟩
      · exact .inl (if_neg hb)
    · by_cases hb : b = a
      · have z' := (if_pos hb).symm.trans z
        cases z'
        subst hb
        exact ⟨ha, by rw [List.length_map]; exact hl, vs, _, rv, ha⟩
      · have z' := (if_neg hb).symm.trans z
        cases z'
    · by_cases hb : b = a
      · exact hb
      · exact absurd (if_neg hb) z
end L2

namespace L2
open PySem PySem.Spec PyProof.Rows

abbrev KOf {K : PySem.W.Frag} {h : Heap} (_ : K.In h) : PySem.W.Frag := K

/-- the goal that k_head leaves (case hc), from the law's promise. F gives the function object fd (K's own) once, then the promise over every base -/
theorem walk_of {l : PySem.W.OpenLaw} {n k : Nat} {q : Program} {loose : List Str} {XP : (Str → Option Value) → Heap → Prop} {YP : World → Heap → Prop} {d : DefRec} {K : Params → PySem.W.Frag} {CX : World → CXT} {sp : World → Sp} {x : Str}
    (hn : l.most = some n) (hn2 : n ≤ sizeLine) (hdf : d.params.defaults = []) (hr : Room k callerA)
    (hY : ∀ (w : World) (h : Heap), YP w h → (K w.params).In h)
    (F : ∀ (w : World) (mg : Str → Option Value) (fa : Addr) (h : Heap), (K w.params).In h → h.Ns mainGlobals mg → mg d.name = some (.ref fa) →
      ∃ fd : FuncData, (∀ (s : Shared) (u : Value), BindsTo s fd ⟨[u], []⟩ [(x, u)]) ∧
        ∀ base : Heap, (K w.params).In base → base.Ns mainGlobals mg → FnOk l.prog w (K w.params) mg base (CX w) k fa fd [x] (sp w))
    (hsp : ∀ (w : World) (H : Hp) (a : Addr) (ns : List Int), ns.length ≤ n → Only H → SqL (K w.params) H a (ns.map V.int) → sp w [.ref a] H (fun v _ => v = .bl true) fun _ _ _ => False)
    (hCX : ∀ (w : World) (H : Hp) (s : Shared) (e : Value) (s' : Shared), CX w [] H s (fun _ _ _ => False) e s' → False) :
    PySem.W.WalkO q loose XP YP l.row.toRowW d [] (fun f vs => PySem.call f vs) := by
  refine Att.attach_call hn hdf fun w s₀ s₁ mg mb fa o pm cd doc a vs ns G Y ho hd hcd hmg hobj hints hlen hg => ?_
  have KX := hY w _ Y
  obtain ⟨fd, hb, hF⟩ := F w mg fa _ KX G.T.g hmg
  exact law_call KX G.T.g G.T.b G.T.builtins G.T.nolimit hg hobj hints (Nat.le_trans hlen hn2) hr hF hb (fun H hO hS => hsp w H a ns hlen hO hS) fun H e s' => hCX w H s₁ e s'
end L2

/- THE LAST THEOREM (shape; LID, My.* are yours):
   My.Adr: a structure of the addresses that your layer names (classes, functions); My.Txt K t: a structure (Prop) of the equations over K;
   My.txt_mk : {K} {implicit addresses ..} (e1 : nsIn K mainGlobals "law" = some (some (.ref f))) (e2 : K.lookup f = some ⟨oc, od, .func (fnOf "law" "law" params body scope dV kV doc pm an cdv ct), sl⟩) (e3 : codeIn K cdv "law" = true) .. : ∃ t, My.Txt K t

set_option maxRecDepth 100000 in
set_option maxHeartbeats 0 in
theorem PySem.Challenge.cw_LID_holds : PySem.Challenge.rw_LID.Holds := by
  w_on; o_law; k_head; (case hw => w_witness2)
  k_fill
  refine L2.walk_of (l := PySem.Challenge.rw_LID) (n := 63) (k := 40) (x := "script") (CX := fun w => ..) (sp := fun _ => My.sp_law) rfl (by decide) rfl ⟨rfl, by decide, by decide⟩ (fun w h Y => PySem.W.kIn_of Y) ?F ?S ?C
  case F =>
    intro w mg fa h KX G hmg
    have T : ∃ t, My.Txt (L2.KOf KX) t := by
      dsimp only [L2.KOf]                          -- K must stand as «<heap const> w.params» for k_is
      refine' My.txt_mk ?e1 ?e2 ?e3 ..
      (case e1 => PySem.W.k_is)                    -- in the order: a name -> its address -> its object -> its parts
      (case e2 => PySem.W.k_is)
      ..
    obtain ⟨t, T⟩ := T
    have e0 := hmg.symm.trans (PySem.W.mg_of KX G T.law)
    cases e0                                       -- fa is the law's own address
    exact ⟨_, fun s u => .of_eq rfl, fun base kb nb => My.law_fn T kb nb⟩     -- if «.of_eq rfl» comes too early: refine' ⟨_, ?b, fun base kb nb => My.law_fn T kb nb⟩; exact fun s u => .of_eq rfl
  case S => exact fun w H a ns hl hO hS => ..
  case C => exact ..
(the tactic k_is has no namespace: write k_is) -/

/-! SHORT WORDS over the layer: a def of the text, its body, what a loop and a test want. -/
namespace L2
open PySem PySem.Spec PyProof.Rows

/-! ### the text by places -/
/-- the j-th statement of a class's body -/
def inClass (s : Stmt) (j : Nat) : Stmt := match s with
  | .ClassDef _ _ _ body _ _ _ _ _ _ _ => body.getD j (.Pass ⟨0, 0, 0, 0⟩)
  | _ => .Pass ⟨0, 0, 0, 0⟩
def defArgs (s : Stmt) : Arguments := match s with
  | .FunctionDef _ a _ _ _ _ _ _ _ _ => a
  | _ => { posonlyargs := [], args := [], vararg := none, kwonlyargs := [], kw_defaults := [], kwarg := none, defaults := [] }
def defBody (s : Stmt) : List Stmt := match s with
  | .FunctionDef _ _ b _ _ _ _ _ _ _ => b
  | _ => []
def defScope (s : Stmt) : Scope := match s with
  | .FunctionDef _ _ _ _ _ _ sc _ _ _ => sc
  | _ => { kind := .function, names := [], isGenerator := false, isCoroutine := false }

/-! ### no exception leaves a def -/
abbrev CX0 : CXT := fun _ _ _ _ _ _ => False
abbrev E0 : XK := fun _ _ _ => False
theorem pass0 {X : Cx} : Passes CX0 X E0 := fun _ _ _ _ _ _ _ h => h.elim

/-! ### a def (or method) of the text as it stands behind the top -/
structure Fun (K : PySem.W.Frag) (x qual : Str) (st : Stmt) (f : Addr) (fd : FuncData) : Prop where
  ex : ∃ (oc : Value) (od : Option Addr) (kV doc pm : Value) (an : Option Addr) (cdv ct : Value) (osl : Array (Option Value)),
    fd = PySem.W.fnOf x qual (defArgs st) (defBody st) (defScope st) .none kV doc pm an cdv ct ∧ K.lookup f = some ⟨oc, od, .func fd, osl⟩ ∧ PySem.W.codeIn K cdv qual = true
  kp : PySem.W.keepIn K (.ref f) = true
section
variable {P : Program} {w : World} {K : PySem.W.Frag} {mg : Str → Option Value} {base : Heap}
/-- THE RULE for a def: its body as a term of rules, and the reading of that term -/
theorem Fun.ok {x qual : Str} {st : Stmt} {f : Addr} {fd : FuncData} {N ps : List Str} {k : Nat} {sp : Sp} (F : Fun K x qual st f fd) (S : FnScope N ps (defScope st)) (len : ∀ vs H Q E, sp vs H Q E → vs.length = ps.length)
    (hbody : ∀ (cdv : Value) (A : Around) (outer : List Env) (s : Shared) (H : Hp) (vs : List V) (Q : VK) (E : XK), Room k (A.deeper (envOfC qual (defScope st) s.heap.objs.size f cdv)) → sp vs H Q E →
      ∃ t, PSs (cxOf CX0 P w K mg base N qual (defScope st) f cdv A outer s H E).nox (defBody st) t ∧ t { nx := fun _ H' => Q .non H', rt := Q } (start N vs) H) : FnOk P w K mg base CX0 (k + 1) f fd ps sp := by
  obtain ⟨oc, od, kV, doc, pm, an, cdv, ct, osl, rfl, lk, hcd⟩ := F.ex
  refine fn_of lk hcd S len fun A outer s H vs Q E hr hsp => ?_
  obtain ⟨t, h, q⟩ := hbody cdv A outer s H vs Q E hr hsp
  exact ⟨t, h.nox, q⟩
/-- how its arguments bind (no defaults): h is «fun _ _ _ _ _ _ us hl => match us, hl with | [_, _], _ => rfl», one _ a parameter -/
theorem Fun.binds {x qual : Str} {st : Stmt} {f : Addr} {fd : FuncData} {ps : List Str} (F : Fun K x qual st f fd)
    (h : ∀ (kV doc pm : Value) (an : Option Addr) (cdv ct : Value) (us : List Value), us.length = ps.length → bindArgs (PySem.W.fnOf x qual (defArgs st) (defBody st) (defScope st) .none kV doc pm an cdv ct) ⟨us, []⟩ = pure (ps.zip us)) : Binds K fd ps [] := by
  obtain ⟨oc, od, kV, doc, pm, an, cdv, ct, osl, rfl, lk, hcd⟩ := F.ex
  exact .all (h kV doc pm an cdv ct)
theorem fun_mk {x qual : Str} {st : Stmt} {f : Addr} {oc : Value} {od an : Option Addr} {osl : Array (Option Value)} {kV doc pm cdv ct : Value} (l : K.lookup f = some ⟨oc, od, .func (PySem.W.fnOf x qual (defArgs st) (defBody st) (defScope st) .none kV doc pm an cdv ct), osl⟩)
    (c : PySem.W.codeIn K cdv qual = true) (k : PySem.W.keepIn K (.ref f) = true) : Fun K x qual st f (PySem.W.fnOf x qual (defArgs st) (defBody st) (defScope st) .none kV doc pm an cdv ct) := ⟨⟨oc, od, kV, doc, pm, an, cdv, ct, osl, rfl, l, c⟩, k⟩
end
/-! ### expressions in short: the name that stands in the i-th slot -/
section
variable {X : Cx}
theorem pv (i : Nat) {x : Str} {pos : Pos} (hN : X.N[i]? = some x := by rfl) (hv : Vis X.env.scope x := by first | exact Or.inl rfl | exact Or.inr (Or.inl rfl) | exact Or.inr (Or.inr rfl)) (hd : (x == ("__debug__" : Str)) = false := by decide)
    (hcd : (x == ("__classdict__" : Str)) = false := by decide) : PE X (.Name x pos) (tVar i) := pe_var hN hv hd hcd
end

/-! ### tests -/
/-! ### heaps -/
/-- all that was tracked is as it was -/
def Same (H H' : Hp) : Prop := ∀ b o, H b = some o → H' b = some o
theorem Same.refl (H : Hp) : Same H H := fun _ _ h => h
theorem Same.trans {H H1 H2 : Hp} (a : Same H H1) (b : Same H1 H2) : Same H H2 := fun c o h => b c o (a c o h)
theorem Same.free {H H' : Hp} (e : Same H H') {l : Addr} (h : H' l = Option.none) : H l = Option.none := by
  cases q : H l with
  | none => rfl
  | some o =>
    rw [e l o q] at h
    cases h
theorem Same.seq {K : PySem.W.Frag} {H H' : Hp} {a : Addr} {xs : List V} (e : Same H H') (h : SqL K H a xs) : SqL K H' a xs := by
  rcases h with (h | ⟨o, h⟩) | h
  · exact .inl (.inl (e _ _ h))
  · exact .inl (.inr ⟨o, e _ _ h⟩)
  · exact .inr h

end L2

namespace L2
open PySem PySem.Spec PyProof.Rows

/-! ### the closure of a comprehension's block -/
def closL (env : Env) (names : List (Str × NameKind)) (cs : List (Str × Addr)) : List (Str × Addr) :=
  names.foldl (fun cs p => if (p.2 == NameKind.free) = true then (p.1, (env.cells.lookup p.1).getD 0) :: cs else cs) cs
theorem closFor {scope : Scope} {env : Env} (h : ∀ y ∈ scope.names, y.2 = .free → ∃ c, env.cells.lookup y.1 = some c) : closureFor scope env = pure (closL env scope.names []) := by
  unfold closureFor
  have key : ∀ (l : List (Str × NameKind)) (cs : List (Str × Addr)), (∀ y ∈ l, y.2 = .free → ∃ c, env.cells.lookup y.1 = some c) →
      (forIn l cs fun (x : Str × NameKind) (r : List (Str × Addr)) => (if (x.2 == NameKind.free) = true then do let a ← cellOf env x.1; pure (ForInStep.yield ((x.1, a) :: r)) else pure (ForInStep.yield r) : Sem (ForInStep (List (Str × Addr))))) = pure (closL env l cs) := by
    intro l
    induction l with
    | nil => intro cs _; rfl
    | cons p r ih =>
      intro cs hl
      rw [List.forIn_cons]
      by_cases hk : (p.2 == NameKind.free) = true
      · obtain ⟨c, hc⟩ := hl p List.mem_cons_self (by simpa using hk)
        rw [if_pos hk]
        have e : cellOf env p.1 = pure c := by unfold cellOf; rw [hc]
        rw [e]
        simp only [pure_bind]
        rw [ih _ fun y hy => hl y (List.mem_cons_of_mem _ hy)]
        unfold closL
        rw [List.foldl_cons, if_pos hk, hc]
        rfl
      · rw [if_neg hk]
        simp only [pure_bind]
        rw [ih _ fun y hy => hl y (List.mem_cons_of_mem _ hy)]
        unfold closL
        rw [List.foldl_cons, if_neg hk]
  have := key scope.names [] h
  simp only [bind_pure]
  exact this
theorem closL_of {env : Env} : ∀ (l : List (Str × NameKind)) (cs : List (Str × Addr)) {x : Str} {c : Addr}, (∀ y ∈ l, y.2 = .free → ∃ c, env.cells.lookup y.1 = some c) → (∀ y d, cs.lookup y = some d → env.cells.lookup y = some d) →
    (closL env l cs).lookup x = some c → env.cells.lookup x = some c
  | [], cs, x, c, _, hc, h => hc x c h
  | p :: r, cs, x, c, hl, hc, h => by
    unfold closL at h
    rw [List.foldl_cons] at h
    by_cases hk : (p.2 == NameKind.free) = true
    · rw [if_pos hk] at h
      refine closL_of r _ (fun y hy => hl y (List.mem_cons_of_mem _ hy)) (fun y d e => ?_) h
      obtain ⟨a, ha⟩ := hl p List.mem_cons_self (by simpa using hk)
      rw [List.lookup_cons] at e
      cases hx : y == p.1 with
      | true =>
        rw [hx] at e
        have hy : y = p.1 := by simpa using hx
        rw [ha] at e
        cases e
        rw [hy]; exact ha
      | false => rw [hx] at e; exact hc y d e
    · rw [if_neg hk] at h
      exact closL_of r cs (fun y hy => hl y (List.mem_cons_of_mem _ hy)) hc h
theorem closL_keep {env : Env} : ∀ (l : List (Str × NameKind)) (cs : List (Str × Addr)) {x : Str}, (∃ c, cs.lookup x = some c) → ∃ c, (closL env l cs).lookup x = some c
  | [], cs, x, h => h
  | p :: r, cs, x, ⟨c, h⟩ => by
    unfold closL
    rw [List.foldl_cons]
    by_cases hk : (p.2 == NameKind.free) = true
    · rw [if_pos hk]
      refine closL_keep r _ ?_
      rw [List.lookup_cons]
      cases hx : x == p.1 with
      | true => exact ⟨_, rfl⟩
      | false => exact ⟨c, h⟩
    · rw [if_neg hk]; exact closL_keep r cs ⟨c, h⟩
theorem closL_has {env : Env} : ∀ (l : List (Str × NameKind)) (cs : List (Str × Addr)) {x : Str}, (x, NameKind.free) ∈ l → ∃ c, (closL env l cs).lookup x = some c
  | [], _, _, h => by simp at h
  | p :: r, cs, x, h => by
    unfold closL
    rw [List.foldl_cons]
    rcases List.mem_cons.mp h with e | e
    · subst e
      rw [if_pos (by rfl)]
      exact closL_keep r _ ⟨(env.cells.lookup x).getD 0, by rw [List.lookup_cons]; simp⟩
    · exact closL_has r _ e
theorem relabel_lookup {env : Env} {scope : Scope} {x : Str} (h : (relabel scope env).names.lookup x = some .cell ∨ (relabel scope env).names.lookup x = some .free) (hc : ∀ y ∈ scope.names, y.2 ≠ .cell) : (x, NameKind.free) ∈ scope.names := by
  have key : ∀ (l : List (Str × NameKind)), (∀ y ∈ l, y.2 ≠ .cell) →
      ((l.map fun (n, k) => if (k == NameKind.free && env.scope.kind == .function && env.kindOf n == some .cell) then (n, NameKind.cell) else (n, k)).lookup x = some .cell ∨
       (l.map fun (n, k) => if (k == NameKind.free && env.scope.kind == .function && env.kindOf n == some .cell) then (n, NameKind.cell) else (n, k)).lookup x = some .free) → (x, NameKind.free) ∈ l := by
    intro l
    induction l with
    | nil => intro _ h; simp at h
    | cons p r ih =>
      obtain ⟨n, k⟩ := p
      intro hl h
      rw [List.map_cons] at h
      have hk : k ≠ .cell := hl (n, k) List.mem_cons_self
      by_cases hx : x = n
      · subst hx
        by_cases hq : (k == NameKind.free && env.scope.kind == .function && env.kindOf x == some .cell) = true
        · have : k = .free := by simp only [Bool.and_eq_true, beq_iff_eq] at hq; exact hq.1.1
          subst this; exact List.mem_cons_self
        · simp only [if_neg hq, List.lookup_cons, beq_self_eq_true] at h
          rcases h with h | h
          · exact absurd (Option.some.inj h) hk
          · have e := Option.some.inj h; subst e; exact List.mem_cons_self
      · have hb : (x == n) = false := by simpa using hx
        refine List.mem_cons_of_mem _ (ih (fun y hy => hl y (List.mem_cons_of_mem _ hy)) ?_)
        by_cases hq : (k == NameKind.free && env.scope.kind == .function && env.kindOf n == some .cell) = true
        · simpa only [if_pos hq, List.lookup_cons, hb] using h
        · simpa only [if_neg hq, List.lookup_cons, hb] using h
  exact key scope.names hc h
theorem relabel_free {env : Env} {scope : Scope} {x : Str} (h : scope.names.lookup x = some .free) : (relabel scope env).names.lookup x = some .cell ∨ (relabel scope env).names.lookup x = some .free := by
  have key : ∀ (l : List (Str × NameKind)), l.lookup x = some .free →
      ((l.map fun (n, k) => if (k == NameKind.free && env.scope.kind == .function && env.kindOf n == some .cell) then (n, NameKind.cell) else (n, k)).lookup x = some .cell ∨
       (l.map fun (n, k) => if (k == NameKind.free && env.scope.kind == .function && env.kindOf n == some .cell) then (n, NameKind.cell) else (n, k)).lookup x = some .free) := by
    intro l
    induction l with
    | nil => intro h; simp at h
    | cons p r ih =>
      obtain ⟨n, k⟩ := p
      intro h
      rw [List.map_cons]
      by_cases hx : x = n
      · subst hx
        rw [List.lookup_cons, beq_self_eq_true] at h
        have e : k = .free := Option.some.inj h
        by_cases hq : (k == NameKind.free && env.scope.kind == .function && env.kindOf x == some .cell) = true
        · left; simp only [if_pos hq, List.lookup_cons, beq_self_eq_true]
        · right; simp only [if_neg hq, List.lookup_cons, beq_self_eq_true]; rw [e]
      · have hb : (x == n) = false := by simpa using hx
        rw [List.lookup_cons, hb] at h
        by_cases hq : (k == NameKind.free && env.scope.kind == .function && env.kindOf n == some .cell) = true
        · simpa only [if_pos hq, List.lookup_cons, hb] using ih h
        · simpa only [if_neg hq, List.lookup_cons, hb] using ih h
  exact key scope.names h

/-! ### a comprehension's block -/
structure CompScope (sc : Scope) (N N' : List Str) (k : Nat) (fr : List Nat) (scope : Scope) : Prop where
  kind : scope.kind = .function
  cell : ∀ y ∈ scope.names, y.2 ≠ .cell
  names : ∀ y ∈ scope.names, y.2 = .local → scope.names.lookup y.1 = some .local
  nd : N'.Nodup
  slot : fr.map (fun j => N[j]?) = (N'.drop k).map some
  frees : ∀ x ∈ N'.drop k, scope.names.lookup x = some .free
  outer : ∀ y ∈ scope.names, y.2 = .free → sc.names.lookup y.1 = some .cell ∨ sc.names.lookup y.1 = some .free
  outer' : ∀ x ∈ N'.drop k, sc.names.lookup x = some .cell ∨ sc.names.lookup x = some .free
  len : N'.length = k + fr.length
def compCx (X : Cx) (scope : Scope) (N' : List Str) (fp : List Addr) (C : Addr) (s : Shared) (H : Hp) : Cx where
  prog := X.prog
  w := X.w
  K := X.K
  mg := X.mg
  base := X.base
  A := X.A
  N := N'
  s₀ := s
  H₀ := H
  env := compEnvC scope (closL X.env scope.names []) C X.env
  outer := X.stack
  stack := X.stack
  ex := fp
  fn := fun _ => false
  calm := X.calm
  pn := []
  xe := fun _ _ => False
/-- the block's slots at each turn: the targets unknown, the outer names' values -/
def st0 (k : Nat) (fr : List Nat) (σ : St) : St := List.replicate k none ++ fr.map fun j => (σ[j]?).join
def Keep (σ σ' : St) : Prop := σ.length = σ'.length ∧ ∀ (i : Nat) v, σ[i]? = some (some v) → σ'[i]? = some (some v)
section
variable {X : Cx} {pins : List (Addr × Obj)} {σ : St} {H : Hp} {s : Shared} {scope : Scope} {N' : List Str} {k : Nat} {fr : List Nat} {fp : List Addr}
theorem comp_ok (S : CompScope X.env.scope X.N N' k fr scope) (I : Inv X pins σ H s) (hf : ∀ b ∈ fp, FpOk X pins H b) (hlt : ∀ b ∈ fp, b < s.heap.objs.size) :
    (compCx X scope N' fp s.heap.objs.size s H).Ok := by
  have hcell : ∀ y ∈ scope.names, y.2 = .free → ∃ c, X.env.cells.lookup y.1 = some c := fun y hy e => I.ok.has y.1 (S.outer y hy e)
  have hcl : ∀ x c, (closL X.env scope.names []).lookup x = some c → X.env.cells.lookup x = some c := fun x c e => closL_of scope.names [] hcell (fun _ _ z => by simp at z) e
  refine ⟨I.ok.mod, S.kind, I.ok.glob, I.ok.blt, Nat.le_refl _, fun x y c h1 h2 => I.ok.inj x y c (hcl x c h1) (hcl y c h2), fun x hx => closL_has _ _ (relabel_lookup hx S.cell), fun x c h => absurd h (by simp [compCx]), I.ok.hd, I.ok.frames, .inl rfl, fun b hb => ⟨Nat.ne_of_lt (hlt b hb), fun x c e => (hf b hb).2.2.2.2.1 x c (hcl x c e)⟩,
    I.bs, Nat.le_trans I.ok.bsz I.sz, fun b o e hb => ?_, fun b hb hb' => ?_, I.stack, I.stkFree⟩
  · rcases (hf b hb).2.2.2.1 with z | z
    · exact I.ok.noex b o e z
    · exact absurd (Nat.lt_of_lt_of_le (Heap.lt_size e) (Nat.le_trans I.ok.bsz z)) (Nat.lt_irrefl _)
  · rcases List.mem_cons.mp (I.stkSub b hb') with z | z
    · exact (hf b hb).2.1 z
    · exact (hf b hb).2.2.1 z
theorem comp_inv (S : CompScope X.env.scope X.N N' k fr scope) (I : Inv X pins σ H s) (hf : ∀ b ∈ fp, FpOk X pins H b) (hlt : ∀ b ∈ fp, b < s.heap.objs.size) {h' : Heap} {t' : Nat}
    (hn : h'.Ns s.heap.objs.size (fun _ => none)) (hk : ∀ b o, s.heap.get? b = some o → h'.get? b = some o) :
    Inv (compCx X scope N' fp s.heap.objs.size s H) [] (st0 k fr σ) H { s with heap := h', toks := t' } := by
  have hcell : ∀ y ∈ scope.names, y.2 = .free → ∃ c, X.env.cells.lookup y.1 = some c := fun y hy e => I.ok.has y.1 (S.outer y hy e)
  have hcl : ∀ x c, (closL X.env scope.names []).lookup x = some c → X.env.cells.lookup x = some c := fun x c e => closL_of scope.names [] hcell (fun _ _ z => by simp at z) e
  refine ⟨comp_ok S I hf hlt, rfl, I.bare, Un.kept hk, ⟨_, hn, fun i x v h1 h2 h3 => ?_⟩, fun x c e => ?_, I.hok.fresh (Nat.le_refl _), fun x c e => I.freeC x c (hcl x c e), fun p hp => absurd hp (by simp [compCx]), I.hok.kept hk, ?_⟩
  · have hi : k ≤ i := by
      rcases Nat.lt_or_ge i k with z | z
      · exfalso
        unfold st0 at h2
        rw [List.getElem?_append_left (by simpa using z), List.getElem?_replicate, if_pos z] at h2
        cases h2
      · exact z
    have h2' : (fr.map fun j => (σ[j]?).join)[i - k]? = some (some v) := by
      unfold st0 at h2
      rw [List.getElem?_append_right (by simpa using hi)] at h2
      simpa using h2
    have h1' : (N'.drop k)[i - k]? = some x := by
      rw [List.getElem?_drop, Nat.add_sub_cancel' hi]; exact h1
    have hmem : x ∈ N'.drop k := List.mem_of_getElem? h1'
    have e2 : (fr.map fun j => X.N[j]?)[i - k]? = some (some x) := by
      rw [S.slot, List.getElem?_map, h1']; rfl
    obtain ⟨j, hj, ej⟩ : ∃ j, fr[i - k]? = some j ∧ X.N[j]? = some x := by
      rw [List.getElem?_map] at e2
      cases e : fr[i - k]? with
      | none => rw [e] at e2; cases e2
      | some j => rw [e] at e2; exact ⟨j, rfl, Option.some.inj e2⟩
    have hv : σ[j]? = some (some v) := by
      rw [List.getElem?_map, hj] at h2'
      have h3' : (σ[j]?).join = some v := Option.some.inj h2'
      cases e : σ[j]? with
      | none => rw [e] at h3'; cases h3'
      | some o => rw [e] at h3'; rw [show o = some v from h3']
    obtain ⟨m, hn0, hl⟩ := I.loc
    have ho := S.outer' x hmem
    obtain ⟨u, ru, lk⟩ := hl j x v ej hv (.inr ho)
    refine ⟨u, ru, .inr ⟨relabel_free (S.frees x hmem), ?_⟩⟩
    rcases lk with ⟨z, _⟩ | ⟨_, c, hc, hx⟩
    · exfalso
      rcases ho with ho | ho
      · exact absurd (z.symm.trans ho) (by simp)
      · exact absurd (z.symm.trans ho) (by simp)
    · obtain ⟨c', hc'⟩ := closL_has (env := X.env) scope.names [] (PySem.mem_of_lookup (S.frees x hmem))
      have := hcl x c' hc'
      rw [hc] at this; cases this
      obtain ⟨o, ho, hd⟩ := hx
      exact ⟨c, hc', o, hk c o ho, hd⟩
  · obtain ⟨v, o, ho, hd⟩ := I.cell x c (hcl x c e)
    exact ⟨v, o, hk c o ho, hd⟩
  · unfold st0
    show _ = N'.length
    rw [List.length_append, List.length_replicate, List.length_map, S.len]
end
end L2

namespace L2
open PySem PySem.Spec PyProof.Rows
section
variable {prog : Program} {w : World} {A : Around} {E : Value → Shared → Prop} {R : Result → Shared → Prop} {s : Shared}
theorem compLoop_go {elt target iter : Expr} {ifs : List Expr} {scope : Scope} {pos : Pos} {it acc : Value} {env : Env} (I : Nat → Shared → Prop)
    (turn : ∀ n s, I n s → wpAny (model prog w) A (pyNext it) (fun r s₁ => match r with
      | none => R (.ok .next) s₁
      | some v => wpAny (model prog w) A (letOwnedTupleGo target it v) (fun _ s₁' => wpAny (model prog w) A (assign target env v) (fun _ s₂ =>
          wpAny (model prog w) A (forIn ifs true fun c r => if r = true then do let ok ← isTrue c env (eval c env); pure (ForInStep.yield ok) else pure (ForInStep.yield r)) (fun ok s₃ =>
            if ok = true then wpAny (model prog w) A (eval elt env) (fun x s₄ =>
              wpAny (model prog w) A (call (.builtin "list.append") [acc, x]) (fun _ s₅ => ∃ m, m < n ∧ I m s₅) (fun _ _ => False) s₄) (fun _ _ => False) s₃
            else ∃ m, m < n ∧ I m s₃) (fun _ _ => False) s₂) (fun _ _ => False) s₁') (fun _ _ => False) s₁) (fun _ _ => False) s)
    (n : Nat) (h : I n s) :
    codeAny (model prog w) A (.compLoop (.ListComp elt [⟨target, iter, ifs, 0⟩] scope pos) 0 it acc env) R s := by
  refine codeAny_loop rfl I (fun n s hI => ?_) n h
  show wpAny _ A ((compTurn (.ListComp elt [⟨target, iter, ifs, 0⟩] scope pos) 0 it acc env).onRaise (fun x => do noteFrame x env; theTreesLotGoes x)) _ _ s
  refine wpAny_noted ?_
  rw [compTurn_list]
  refine wpAny_bind (wpAny_standAt (wpAny_bind (wpAny_mono (turn n s hI) (fun r s₁ h₁ => ?_) fun _ _ h' => h'.elim)))
  cases r with
  | none => exact wpAny_pure h₁
  | some v =>
    refine wpAny_bind (wpAny_mono h₁ (fun _ s₁' h₁' => ?_) fun _ _ h' => h'.elim)
    refine wpAny_bind (wpAny_mono h₁' (fun _ s₂ h₂ => wpAny_bind (wpAny_mono h₂ (fun ok s₃ h₃ => ?_) fun _ _ h' => h'.elim)) fun _ _ h' => h'.elim)
    cases ok with
    | false => exact wpAny_pure ⟨rfl, h₃⟩
    | true =>
      exact wpAny_bind (wpAny_bind (wpAny_mono h₃ (fun x s₄ h₄ => wpAny_bind (wpAny_mono h₄ (fun _ s₅ h₅ => wpAny_pure (wpAny_pure ⟨rfl, h₅⟩)) fun _ _ h' => h'.elim)) fun _ _ h' => h'.elim))
end
/-- the tests of a comprehension: none, or one -/
def PIfs (X : Cx) (ifs : List Expr) (t : TT) : Prop :=
  ∀ (pins : List (Addr × Obj)) (s : Shared) (σ : St) (H : Hp) (Q : Bool → Hp → Prop), Inv X pins σ H s → t σ H Q →
    wpAny (model X.prog X.w) X.A (forIn ifs true fun c r => if r = true then do let ok ← isTrue c X.env (eval c X.env); pure (ForInStep.yield ok) else pure (ForInStep.yield r)) (TP X pins σ Q) X.xe s
def tYes : TT := fun _ H Q => Q true H
theorem pf_nil {X : Cx} : PIfs X [] tYes := fun pins s σ H Q I h => wpAny_tests_nil ⟨H, I, h⟩
theorem HOk.but {P : Program} {w : World} {H : Hp} {h h' : Heap} {C : Addr} (x : HOk P w H h) (hC : H C = none) (k : ∀ b o, b ≠ C → h.get? b = some o → h'.get? b = some o) : HOk P w H h' := fun a o e => by
  refine (x a o e).stay (fun b u hb q => k b u ?_ q) (fun _ q => q) fun _ _ q => q
  intro z
  subst z
  rcases hb with z | z
  · rw [← z, hC] at e; cases e
  · rw [hC] at z; cases z
/-- [elt for tg in iter if c]: W: the word by the turn and a measure -/
def tComp (wi : TI) (g : TG) (tc : TT) (te : TE) (k : Nat) (fr : List Nat) : TE := fun σ H Q => wi σ H fun J H1 => ∀ D, H1 D = none → ∃ W : Nat → Nat → Hp → Prop, (∃ m, W 0 m (upd H1 D (.lst []))) ∧ ∀ i m H, W i m H →
  (J.stop i H ∧ Q (.ref D) H) ∨ (J.go i H ∧ ∀ x H', J.yld i H x H' → g x (st0 k fr σ) H' fun σ2 H2 => Keep (st0 k fr σ) σ2 ∧ tc σ2 H2 fun ok H3 =>
    if ok = true then te σ2 H3 fun y H4 => ∃ ys, H4 D = some (.lst ys) ∧ ys.length < sizeLine ∧ ∃ m', m' < m ∧ W (i + 1) m' (upd H4 D (.lst (ys ++ [y])))
    else ∃ m', m' < m ∧ W (i + 1) m' H3)
section
variable {X : Cx} {tg iter elt : Expr} {ifs : List Expr} {scope : Scope} {N' : List Str} {k : Nat} {fr : List Nat} {wi : TI} {g : TG} {tc : TT} {te : TE} {pos : Pos}
theorem comp_run {use : Option (Value → Sem Unit)} {Q' : Value → Shared → Prop} {pins : List (Addr × Obj)} {s : Shared} {σ : St} {H : Hp} {Q : VK} (hc : X.calm = true) (S : CompScope X.env.scope X.N N' k fr scope) (hi : PI X tg iter wi)
    (hg : ∀ fp C s H, PG (compCx X scope N' fp C s H) tg g) (hf : ∀ fp C s H, PIfs (compCx X scope N' fp C s H) ifs tc) (he : ∀ fp C s H, PE (compCx X scope N' fp C s H) elt te)
    (I : Inv X pins σ H s) (h : tComp wi g tc te k fr σ H Q)
    (hQ : ∀ D C s' H', C ≠ X.env.locals → Inv X pins σ H' s' → (∀ h', Heap.SameBut C s'.heap h' → Inv X pins σ H' { s' with heap := h' }) → Q (.ref D) H' → (∃ m, s'.heap.Ns C m) → X.env.locals < C → H' C = none ∧ (∀ x c, X.env.cells.lookup x = some c → c ≠ C) ∧ (∀ p ∈ X.pn ++ pins, p.1 ≠ C) → compPost (model X.prog X.w) X.A X.xe use Q' (.ref D) C (.ok .next) s') :
    wpAny (model X.prog X.w) X.A (eval iter X.env) (fun x s₁ => wpAny (model X.prog X.w) X.A (pyIter x) (fun it s₂ => wpAny (model X.prog X.w) X.A (newList []) (fun acc s₃ =>
      wpAny (model X.prog X.w) X.A (newFunctionEnv scope X.env.globals (closL X.env scope.names []) [] X.env.qual none .none (some X.env)) (fun cenv s₄ =>
        codeAny (model X.prog X.w) X.A (.compStart (.ListComp elt [⟨tg, iter, ifs, 0⟩] scope pos) 0 it acc { cenv with scope := relabel scope X.env }) (compPost (model X.prog X.w) X.A X.xe use Q' acc cenv.locals) s₄) X.xe s₃) X.xe s₂) X.xe s₁) X.xe s := by
  refine thn (hi pins s σ H _ I h) fun v s1 h1 => thn h1 fun itv s2 h2 => ?_
  obtain ⟨it, fp, tn, J, H2, e, I2, T, st2, f2, wW⟩ := h2
  subst e
  refine wpAny_newObj_type ?_
  have hD0 : H2 s2.heap.objs.size = none := I2.hok.fresh (Nat.le_refl _)
  obtain ⟨W, ⟨m0, w0⟩, turn⟩ := wW _ hD0
  generalize hD : s2.heap.objs.size = D at *
  have I3 : Inv X pins σ (upd H2 D (.lst [])) { s2 with heap := s2.heap.push { cls := .type "list", dict := none, data := .seq ([] : List Value).toArray } } := by
    have := I2.lnew (ys := []) (its := []) (t' := s2.toks) .nil (Nat.zero_le _)
    rw [hD] at this
    exact this
  generalize hs3 : ({ s2 with heap := s2.heap.push { cls := .type "list", dict := none, data := .seq ([] : List Value).toArray } } : Shared) = s3 at *
  have up23 : ∀ b o, s2.heap.get? b = some o → s3.heap.get? b = some o := fun b o e => by rw [← hs3]; exact Heap.get?_push_of_some _ e
  have fpD : ∀ b ∈ fp, b ≠ D := fun b hb z => by
    obtain ⟨o, ho, _⟩ := T.obj _ _ st2 b hb
    have := Heap.lt_size ho
    rw [hD, z] at this
    exact Nat.lt_irrefl _ this
  have f3 : ∀ b ∈ fp, FpOk X pins (upd H2 D (.lst [])) b := fun b hb => ⟨by rw [upd_ne (fpD b hb)]; exact (f2 b hb).1, (f2 b hb).2⟩
  have st3 : tn 0 s3.heap := T.keep _ _ _ st2 fun b hb o e => up23 b o e
  have lt3 : ∀ b ∈ fp, b < s3.heap.objs.size := fun b hb => by obtain ⟨o, ho, _⟩ := T.obj _ _ st3 b hb; exact Heap.lt_size ho
  refine wpAny_newFunctionEnv S.cell (by intro y hy; simp at hy) (fun h₁ hns₁ hsb₁ => ?_) S.kind
  have up34 : ∀ b o, s3.heap.get? b = some o → h₁.get? b = some o := fun b o e => hsb₁.extBut b o (Nat.ne_of_lt (Heap.lt_size e)) (Heap.get?_push_of_some _ e)
  have I4 := comp_inv (t' := s3.toks + ([] : List (Str × Value)).length) S I3 f3 lt3 hns₁ up34
  have st4 : tn 0 h₁ := T.keep _ _ _ st3 fun b hb o e => up34 b o e
  generalize hX' : compCx X scope N' fp s3.heap.objs.size s3 (upd H2 D (.lst [])) = X' at *
  have hg' : PG X' tg g := by rw [← hX']; exact hg _ _ _ _
  have hf' : PIfs X' ifs tc := by rw [← hX']; exact hf _ _ _ _
  have he' : PE X' elt te := by rw [← hX']; exact he _ _ _ _
  have eP : X'.prog = X.prog := by rw [← hX']; rfl
  have eW : X'.w = X.w := by rw [← hX']; rfl
  have eK : X'.K = X.K := by rw [← hX']; rfl
  have eA : X'.A = X.A := by rw [← hX']; rfl
  have eC : X'.calm = true := by rw [← hX']; exact hc
  have eE : X'.xe = fun _ _ => False := by rw [← hX']; rfl
  have eEnv : X'.env = compEnvC scope (closL X.env scope.names []) s3.heap.objs.size X.env := by rw [← hX']; rfl
  have fpx : ∀ {H' : Hp}, (∀ b ∈ fp, H' b = none) → ∀ b ∈ fp, FpOk X' [] H' b := fun {H'} hn b hb => by
    refine ⟨hn b hb, ?_, ?_, .inl ?_, ?_, ?_⟩
    · rw [eEnv]; exact Nat.ne_of_lt (lt3 b hb)
    · have := I4.ok.exfs b (by rw [← hX']; exact hb); exact this
    · rw [← hX']; exact hb
    · have := I4.ok.exf b (by rw [← hX']; exact hb); exact this.2
    · intro p hp; rw [← hX'] at hp; simp [compCx] at hp
  -- behind the block
  have fin : ∀ (s' : Shared) (H' : Hp) (σ' : St), Inv X' [] σ' H' s' → Q (.ref D) H' → compPost (model X.prog X.w) X.A X.xe use Q' (.ref D) s3.heap.objs.size (.ok .next) s' := fun s' H' σ' J q => by
    have un : Un (frs X.stack) fp (upd H2 D (.lst [])) H' s3.heap s'.heap := by have := J.base; rw [← hX'] at this; exact this
    have jos : s'.os = s3.os := by have := J.os; rw [← hX'] at this; exact this
    have hC : H' s3.heap.objs.size = none := by have := J.free; rw [eEnv] at this; exact this
    have hok' : HOk X.prog X.w H' s'.heap := by have := J.hok; rw [eP, eW] at this; exact this
    have back : ∀ h', Heap.SameBut s3.heap.objs.size s'.heap h' → Inv X pins σ H' { s' with heap := h' } := fun h' hs' => by
      have un' : Un (frs X.stack) fp (upd H2 D (.lst [])) H' s3.heap h' :=
        ⟨fun b o e n h1 h2 => hs'.extBut b o (Nat.ne_of_lt (Heap.lt_size e)) (un.keep b o e n h1 h2), fun b o e n h1 h2 => by
          obtain ⟨sl, z⟩ := un.slot b o e n h1 h2
          exact ⟨sl, hs'.extBut b _ (Nat.ne_of_lt (Heap.lt_size e)) z⟩, un.free, fun b o e h2 => by
          obtain ⟨o', z⟩ := un.there b o e h2
          exact ⟨o', hs'.extBut b o' (Nat.ne_of_lt (Heap.lt_size e)) z⟩, un.tups, un.frzs, un.tbls⟩
      exact Inv.call' (s' := { s' with heap := h' }) I3 jos un' (hok'.but hC hs'.extBut) J.bare fun b hb => ⟨(f3 b hb).2.2.2.1, (f3 b hb).2.1, (f3 b hb).2.2.2.2.1, (f3 b hb).2.2.2.2.2⟩
    have nsC : ∃ m, s'.heap.Ns s3.heap.objs.size m := by
      obtain ⟨m, hn, _⟩ := J.loc
      rw [eEnv] at hn
      exact ⟨m, hn⟩
    exact hQ D s3.heap.objs.size s' H' (Nat.ne_of_gt I3.lt) (back s'.heap (.refl ..)) back q nsC I3.lt
      ⟨hC, fun x c e => by obtain ⟨v, o, ho, _⟩ := I3.cell x c e; exact Nat.ne_of_lt (Heap.lt_size ho), fun p hp => Nat.ne_of_lt (Heap.lt_size (I3.pin p hp).1)⟩
  have loop : ∀ s4 : Shared, s4 = ({ s3 with heap := h₁, toks := s3.toks + ([] : List (Str × Value)).length } : Shared) →
      codeAny (model X.prog X.w) X.A (.compLoop (.ListComp elt [⟨tg, iter, ifs, 0⟩] scope pos) 0 (.ref it) (.ref D) X'.env) (compPost (model X.prog X.w) X.A X.xe use Q' (.ref D) s3.heap.objs.size) s4 := by
    rintro s4 rfl
    refine compLoop_go (fun n s' => ∃ i H', Inv X' [] (st0 k fr σ) H' s' ∧ tn i s'.heap ∧ (∀ b ∈ fp, H' b = none) ∧ W i n H') ?_ m0 ⟨0, _, I4, st4, fun b hb => (f3 b hb).1, w0⟩
    rintro n s5 ⟨i, H5, I5, st5, fr5, w5⟩
    rcases turn i n H5 w5 with ⟨stop, qn⟩ | ⟨go, step⟩
    · have := T.done X' eP eW eK eC i [] s5 _ H5 (fun _ _ => False) I5 (fpx fr5) st5 stop
      rw [eA] at this
      refine thn this fun r s6 ⟨hr, I6⟩ => ?_
      subst hr
      exact fin s6 H5 _ I6 qn
    · have := T.item X' eP eW eK eC i [] s5 _ H5 (fun _ _ => False) I5 (fpx fr5) st5 go
      rw [eA] at this
      refine thn this fun r s6 ⟨u, hr, h6⟩ => ?_
      subst hr
      refine thn h6 fun _ s7 ⟨x, H7, I7, r7, y7, st7, fr7⟩ => ?_
      have I7' := I7.pinned (fpx fr7) (T.obj _ _ st7)
      have h8 := hg' _ s7 _ H7 x u _ I7' r7 (step x H7 y7)
      rw [eP, eW, eA, eE] at h8
      refine thn h8 fun _ s8 ⟨σ8, H8, I8, kp, q8⟩ => ?_
      have h9 := hf' _ s8 σ8 H8 _ I8 q8
      rw [eP, eW, eA, eE] at h9
      have again : ∀ {s9 : Shared} {H9 : Hp} {n' : Nat}, Inv X' ([] ++ pinsAt fp s7.heap) σ8 H9 s9 → n' < n → W (i + 1) n' H9 → ∃ m, m < n ∧ ∃ i H', Inv X' [] (st0 k fr σ) H' s9 ∧ tn i s9.heap ∧ (∀ b ∈ fp, H' b = none) ∧ W i m H' := fun {s9 H9 n'} I9 hn' w9 => by
        refine ⟨n', hn', i + 1, H9, I9.unpinned.weak kp.1 kp.2, T.keep _ _ _ st7 fun b hb o e => (I9.pin (b, o) (List.mem_append_right _ (List.mem_append_right _ (mem_pinsAt hb e)))).1, fun b hb => ?_, w9⟩
        obtain ⟨o, e, d⟩ := T.obj _ _ st7 b hb
        exact (I9.pin (b, o) (List.mem_append_right _ (List.mem_append_right _ (mem_pinsAt hb e)))).2.1
      refine thn h9 fun ok s9 ⟨H9, I9, q9⟩ => ?_
      cases ok with
      | false =>
        rw [if_neg Bool.false_ne_true] at q9
        obtain ⟨m', hm', w9⟩ := q9
        rw [if_neg Bool.false_ne_true]
        exact again I9 hm' w9
      | true =>
        rw [if_pos rfl] at q9
        rw [if_pos rfl]
        have h10 := he' _ s9 σ8 H9 _ I9 q9
        rw [eP, eW, eA, eE] at h10
        refine thn h10 fun y s10 ⟨yv, H10, I10, r10, ys, hys, hz, m', hm', w10⟩ => ?_
        have h11 := mt_append (X := X') _ s10 σ8 H10 (.ref D) [yv] (.ref D) [y] (fun _ H' => W (i + 1) m' H') I10 rfl (.cons r10 .nil) ⟨D, ys, yv, rfl, rfl, hys, hz, w10⟩
        rw [eP, eW, eA, eE] at h11
        exact thn h11 fun _ s11 ⟨_, H11, I11, _, q11⟩ => again I11 hm' q11
  have hE : ({ newEnv scope s3.heap.objs.size X.env.globals (closL X.env scope.names []) X.env.qual none .none (some X.env) builtinsNs with scope := relabel scope X.env } : Env) = X'.env := by
    rw [eEnv]; rfl
  have goal := codeAny_compStart_list (elt := elt) (target := tg) (iter := iter) (ifs := ifs) (rest := []) (scope := scope) (pos := pos) (loop _ rfl) (T.self X.A 0 _ _ _ st4 (loop _ rfl))
  rw [← hE] at goal
  exact goal
/-- a list comprehension -/
theorem pe_comp (hc : X.calm = true) (S : CompScope X.env.scope X.N N' k fr scope) (hi : PI X tg iter wi)
    (hg : ∀ fp C s H, PG (compCx X scope N' fp C s H) tg g) (hf : ∀ fp C s H, PIfs (compCx X scope N' fp C s H) ifs tc) (he : ∀ fp C s H, PE (compCx X scope N' fp C s H) elt te)
    (hs : ∀ x, foldedSetIterable iter X.env x = pure x := by intro _; rfl) : PE X (.ListComp elt [⟨tg, iter, ifs, 0⟩] scope pos) (tComp wi g tc te k fr) := by
  intro pins s σ H Q I h
  have hcell : ∀ y ∈ scope.names, y.2 = .free → ∃ c, X.env.cells.lookup y.1 = some c := fun y hy e => I.ok.has y.1 (S.outer y hy e)
  rw [eval_ListComp]
  refine wpAny_comprehension_free (use := none) rfl hs (closFor hcell) S.kind S.names (comp_run hc S hi hg hf he I h ?_)
  intro D C s' H' hC J back q ns hlt _
  obtain ⟨m, hn⟩ := ns
  exact ⟨m, hn, fun h' hs' => ⟨.ref D, H', back h' hs', rfl, q⟩⟩
end
end L2

namespace L2
open PySem PySem.Spec PyProof.Rows
section
variable {X : Cx}
theorem op_mulB : OpR X (binaryOp .Mult) (rI IntMulOk fun i j => .int (i * j)) := opI fun _ _ _ _ _ _ _ hc q => mul_int q hc
theorem call_sum (hc : X.calm = true) : CallR X (.builtin "sum") (fun xs H Q => ∃ (a : Addr) (ns : List Int), xs = [.ref a] ∧ SqL X.K H a (ns.map V.int) ∧ Q (.int ns.sum) H) := by
  intro pins s σ H xs us Q I r h
  obtain ⟨a, ns, rfl, hl, q⟩ := h
  obtain ⟨u, rfl, rx⟩ := vals1 r
  cases rx
  obtain ⟨its, rv, p, hz⟩ := I.list hl
  have hi : IntsAre its ns := intsAre_of rv
  have hall : AllInts its.toArray := hi.allInts
  obtain ⟨ys, hys⟩ := hall.items
  have hn : numsOf its.toArray.toList = ns := by rw [show its.toArray.toList = its from rfl, hi.numsOf]
  rw [hys, nums_intItems] at hn
  have hl' := p.isList
  rw [hys] at hl'
  refine sum_intListG (I.ok.hd hc) hl' fun h' tk t' hk => ?_
  refine ⟨.int ns.sum, H, I.kept hk, ⟨t', ?_⟩, q⟩
  rw [preSum_eq, List.take_of_length_le (by simp), hn]
end
end L2
namespace Att
open PySem PySem.W PySem.Calls PyProof.Rows
/-- the bits of a script's ints -/
theorem bits_le {ns : List Int} (h : WData.layableAll [WData.list (ns.map WData.int)] = true) : ∀ n ∈ ns, Builtin.Int.intBits n ≤ 1048576 := by
  have h1 : (WData.list (ns.map WData.int)).layable = true := by simpa [WData.layableAll] using h
  have h2 : (WData.list (ns.map WData.int)).weight ≤ 1048576 := (PySem.W.layableW_iff.mp h1).2.2
  have key : ∀ l : List Int, ∀ n ∈ l, Builtin.Int.intBits n ≤ WData.weightAll (l.map WData.int) := by
    intro l
    induction l with
    | nil => intro n hn; simp at hn
    | cons x r ih =>
      intro n hn
      have e : WData.weightAll ((x :: r).map WData.int) = Builtin.Int.intBits x + 1 + WData.weightAll (r.map WData.int) := by
        rw [List.map_cons, WData.weightAll, WData.weight]; rfl
      rw [e]
      rcases List.mem_cons.mp hn with z | z
      · subst z; omega
      · have := ih n z; omega
  intro n hn
  have e : (WData.list (ns.map WData.int)).weight = WData.weightAll (ns.map WData.int) := by rw [WData.weight]
  rw [e] at h2
  exact Nat.le_trans (key ns n hn) h2
theorem attach_callB {l : OpenLaw} {n : Nat} {q : Program} {loose : List Str} {XP : (Str → Option Value) → Heap → Prop} {YP : World → Heap → Prop} {d : DefRec}
    (hn : l.most = some n) (hdf : d.params.defaults = [])
    (call : ∀ (w : World) (s₀ s₁ : Shared) (mg mb : Str → Option Value) (fa : Addr) (o : Obj) (pm cd doc : Value) (a : Addr) (vs : List Value) (ns : List Int),
      Ground q loose [] XP w s₀ mg mb s₁.heap → YP w s₁.heap →
      s₁.heap.get? fa = some o → o.data = .func (docDef d.name d.params d.body d.scope pm cd doc) → s₁.heap.CodeRec cd d.name → mg d.name = some (.ref fa) →
      s₁.heap.get? a = some { cls := .type "list", data := .seq vs.toArray } → IntsAre vs ns → ns.length ≤ n → (∀ z ∈ ns, Builtin.Int.intBits z ≤ 1048576) → s₁.gens = #[] →
      codeAny (model l.prog w) callerA (.call (.ref fa) ⟨[.ref a], []⟩) (fun r s' => r = .ok (.ret (.bool true)) ∧ OldK s₁.heap s'.heap ∧ s'.os = s₁.os ∧ AllBare s'.gens) s₁) :
    WalkO q loose XP YP l.row.toRowW d [] (fun f vs => PySem.call f vs) := by
  intro w s₀ s₁ mg mb G Y fa o pm cd doc dV kV ho hd hcd hD hmg hg args vals as hpre hlay hrd hwl hlo
  obtain rfl : dV = .none := Dflts.none hD hdf
  obtain rfl : kV = .none := Dflts.noKw hD
  obtain ⟨a, vs, ns, rfl, rfl, hobj, hints, hlen⟩ := script_of hn hpre hwl
  have hb : ∀ z ∈ ns, Builtin.Int.intBits z ≤ 1048576 := bits_le hlay
  refine enter_call (codeAny_mono (call w s₀ s₁ mg mb fa o pm cd doc a vs ns G Y ho (fd_plain hd) hcd hmg hobj hints hlen hb hg) fun r s' hq => ?_)
  obtain ⟨rfl, h2, h3, h4⟩ := hq
  exact ⟨.inl ⟨.bool true, .bool true, [], rfl, fun _ => rfl, .bool true, post_true l _, fun _ => ⟨List.Pairwise.nil, fun _ hm => (nomatch hm)⟩⟩, h2, h3, h4⟩
end Att
namespace L2
open PySem PySem.Spec PyProof.Rows
theorem walk_ofB {l : PySem.W.OpenLaw} {n k : Nat} {q : Program} {loose : List Str} {XP : (Str → Option Value) → Heap → Prop} {YP : World → Heap → Prop} {d : DefRec} {K : Params → PySem.W.Frag} {CX : World → CXT} {sp : World → Sp} {x : Str}
    (hn : l.most = some n) (hn2 : n ≤ sizeLine) (hdf : d.params.defaults = []) (hr : Room k callerA)
    (hY : ∀ (w : World) (h : Heap), YP w h → (K w.params).In h)
    (F : ∀ (w : World) (mg : Str → Option Value) (fa : Addr) (h : Heap), (K w.params).In h → h.Ns mainGlobals mg → mg d.name = some (.ref fa) →
      ∃ fd : FuncData, (∀ (s : Shared) (u : Value), BindsTo s fd ⟨[u], []⟩ [(x, u)]) ∧
        ∀ base : Heap, (K w.params).In base → base.Ns mainGlobals mg → FnOk l.prog w (K w.params) mg base (CX w) k fa fd [x] (sp w))
    (hsp : ∀ (w : World) (H : Hp) (a : Addr) (ns : List Int), ns.length ≤ n → (∀ z ∈ ns, Builtin.Int.intBits z ≤ 1048576) → Only H → SqL (K w.params) H a (ns.map V.int) → sp w [.ref a] H (fun v _ => v = .bl true) fun _ _ _ => False)
    (hCX : ∀ (w : World) (H : Hp) (s : Shared) (e : Value) (s' : Shared), CX w [] H s (fun _ _ _ => False) e s' → False) :
    PySem.W.WalkO q loose XP YP l.row.toRowW d [] (fun f vs => PySem.call f vs) := by
  refine Att.attach_callB hn hdf fun w s₀ s₁ mg mb fa o pm cd doc a vs ns G Y ho hd hcd hmg hobj hints hlen hb hg => ?_
  have KX := hY w _ Y
  obtain ⟨fd, hbi, hF⟩ := F w mg fa _ KX G.T.g hmg
  exact law_call KX G.T.g G.T.b G.T.builtins G.T.nolimit hg hobj hints (Nat.le_trans hlen hn2) hr hF hbi (fun H hO hS => hsp w H a ns hlen hb hO hS) fun H e s' => hCX w H s₁ e s'
theorem walk_ofBK {l : PySem.W.OpenLaw} {n k : Nat} {q : Program} {loose : List Str} {XP : (Str → Option Value) → Heap → Prop} {YP : World → Heap → Prop} {d : DefRec} {K : Params → PySem.W.Frag} {CX : CXT} {sp : PySem.W.Frag → Sp} {x : Str}
    (hn : l.most = some n) (hn2 : n ≤ sizeLine) (hdf : d.params.defaults = []) (hr : Room k callerA)
    (hY : ∀ (w : World) (h : Heap), YP w h → (K w.params).In h)
    (F : ∀ (w : World) (mg : Str → Option Value) (fa : Addr) (h : Heap), (K w.params).In h → h.Ns mainGlobals mg → mg d.name = some (.ref fa) →
      ∃ fd : FuncData, (∀ (s : Shared) (u : Value), BindsTo s fd ⟨[u], []⟩ [(x, u)]) ∧
        ∀ base : Heap, (K w.params).In base → base.Ns mainGlobals mg → FnOk l.prog w (K w.params) mg base CX k fa fd [x] (sp (K w.params)))
    (hsp : ∀ (K : PySem.W.Frag) (H : Hp) (a : Addr) (ns : List Int), ns.length ≤ n → (∀ z ∈ ns, Builtin.Int.intBits z ≤ 1048576) → Only H → SqL K H a (ns.map V.int) → sp K [.ref a] H (fun v _ => v = .bl true) fun _ _ _ => False)
    (hCX : ∀ (H : Hp) (s : Shared) (e : Value) (s' : Shared), CX [] H s (fun _ _ _ => False) e s' → False) :
    PySem.W.WalkO q loose XP YP l.row.toRowW d [] (fun f vs => PySem.call f vs) :=
  walk_ofB (K := K) (CX := fun _ => CX) (sp := fun w => sp (K w.params)) hn hn2 hdf hr hY F (fun w H a ns h1 hb h2 h3 => hsp (K w.params) H a ns h1 hb h2 h3) fun _ H s e s' => hCX H s e s'
/-- all that was tracked but at p is as it was -/
def SameE (p : Addr) (H H' : Hp) : Prop := ∀ b o, H b = some o → b ≠ p → H' b = some o
theorem SameE.refl (p : Addr) (H : Hp) : SameE p H H := fun _ _ h _ => h
theorem SameE.trans {p : Addr} {H H1 H2 : Hp} (a : SameE p H H1) (b : SameE p H1 H2) : SameE p H H2 := fun c o h n => b c o (a c o h n) n
theorem Same.e {p : Addr} {H H1 : Hp} (a : Same H H1) : SameE p H H1 := fun c o h _ => a c o h
theorem Same.new {H : Hp} {p : Addr} {o : HO} (h : H p = none) : Same H (upd H p o) := fun b u e => by rw [upd_ne (ne_of_none e h)]; exact e
theorem SameE.put {H : Hp} {p : Addr} {o : HO} : SameE p H (upd H p o) := fun b u e n => by rw [upd_ne n]; exact e
theorem SameE.seq {K : PySem.W.Frag} {H H' : Hp} {a p : Addr} {xs ys : List V} (e : SameE p H H') (h : SqL K H a xs) (hp : H p = some (.lst ys)) (hn : a ≠ p) : SqL K H' a xs := by
  rcases h with (h | ⟨o, h⟩) | h
  · exact .inl (.inl (e _ _ h hn))
  · exact .inl (.inr ⟨o, e _ _ h hn⟩)
  · exact .inr h
end L2

namespace L2
open PySem PySem.Spec PyProof.Rows
def FR (J : It) (g : TG) (tb : TS) (D : Ends) (σ : St) (H1 : Hp) : Prop := ∃ W : Nat → Nat → St → Hp → Prop, (∃ m, W 0 m σ H1) ∧ ∀ i m σ H, W i m σ H →
  (J.stop i H ∧ D.nx σ H) ∨ (J.go i H ∧ ∃ N : St → Hp → Prop, (∀ σ' H', N σ' H' → ∃ m', m' < m ∧ W (i + 1) m' σ' H') ∧ ∀ x H', J.yld i H x H' → g x σ H' fun σ2 H2 => tb { D with nx := N, ct := N, bk := D.nx } σ2 H2)
theorem tFor_rng1 {ta : TA} {g : TG} {tb : TS} : tFor (iRng1 ta) g tb = fun D σ H => ta σ H fun vs H1 => ∃ j : Int, vs = [.int j] ∧ -(2 ^ 62) ≤ j ∧ j < 2 ^ 62 ∧ FR (Itr 0 j.toNat) g tb D σ H1 := rfl
theorem tFor_rng2 {ta : TA} {g : TG} {tb : TS} : tFor (iRng2 ta) g tb = fun D σ H => ta σ H fun vs H1 => ∃ i j : Int, vs = [.int i, .int j] ∧ (-(2 ^ 62) ≤ i ∧ i < 2 ^ 62 ∧ -(2 ^ 62) ≤ j ∧ j < 2 ^ 62) ∧ FR (Itr i (j - i).toNat) g tb D σ H1 := rfl
theorem tFor_list {K : PySem.W.Frag} {tl : TE} {g : TG} {tb : TS} : tFor (iList K tl) g tb = fun D σ H => tl σ H fun x H1 => ∃ a, x = .ref a ∧ (∃ xs, SqL K H1 a xs) ∧ FR (Itl K a) g tb D σ H1 := rfl
theorem tFor_tup {K : PySem.W.Frag} {tl : TE} {g : TG} {tb : TS} : tFor (iTup K tl) g tb = fun D σ H => tl σ H fun x H1 => ∃ a, x = .ref a ∧ (∃ xs, SqT K H1 a xs) ∧ FR (Itt K a) g tb D σ H1 := rfl
def CmR (J : It) (g : TG) (tc : TT) (te : TE) (k : Nat) (fr : List Nat) (σ : St) (H1 : Hp) (Q : VK) : Prop := ∀ D, H1 D = none → ∃ W : Nat → Nat → Hp → Prop, (∃ m, W 0 m (upd H1 D (.lst []))) ∧ ∀ i m H, W i m H →
  (J.stop i H ∧ Q (.ref D) H) ∨ (J.go i H ∧ ∀ x H', J.yld i H x H' → g x (st0 k fr σ) H' fun σ2 H2 => Keep (st0 k fr σ) σ2 ∧ tc σ2 H2 fun ok H3 =>
    if ok = true then te σ2 H3 fun y H4 => ∃ ys, H4 D = some (.lst ys) ∧ ys.length < sizeLine ∧ ∃ m', m' < m ∧ W (i + 1) m' (upd H4 D (.lst (ys ++ [y])))
    else ∃ m', m' < m ∧ W (i + 1) m' H3)
theorem tComp_rng1 {ta : TA} {g : TG} {tc : TT} {te : TE} {k : Nat} {fr : List Nat} : tComp (iRng1 ta) g tc te k fr = fun σ H Q => ta σ H fun vs H1 => ∃ j : Int, vs = [.int j] ∧ -(2 ^ 62) ≤ j ∧ j < 2 ^ 62 ∧ CmR (Itr 0 j.toNat) g tc te k fr σ H1 Q := rfl
theorem tComp_rng2 {ta : TA} {g : TG} {tc : TT} {te : TE} {k : Nat} {fr : List Nat} : tComp (iRng2 ta) g tc te k fr = fun σ H Q => ta σ H fun vs H1 => ∃ i j : Int, vs = [.int i, .int j] ∧ (-(2 ^ 62) ≤ i ∧ i < 2 ^ 62 ∧ -(2 ^ 62) ≤ j ∧ j < 2 ^ 62) ∧ CmR (Itr i (j - i).toNat) g tc te k fr σ H1 Q := rfl
theorem tComp_list {K : PySem.W.Frag} {tl : TE} {g : TG} {tc : TT} {te : TE} {k : Nat} {fr : List Nat} : tComp (iList K tl) g tc te k fr = fun σ H Q => tl σ H fun x H1 => ∃ a, x = .ref a ∧ (∃ xs, SqL K H1 a xs) ∧ CmR (Itl K a) g tc te k fr σ H1 Q := rfl
theorem tComp_tup {K : PySem.W.Frag} {tl : TE} {g : TG} {tc : TT} {te : TE} {k : Nat} {fr : List Nat} : tComp (iTup K tl) g tc te k fr = fun σ H Q => tl σ H fun x H1 => ∃ a, x = .ref a ∧ (∃ xs, SqT K H1 a xs) ∧ CmR (Itt K a) g tc te k fr σ H1 Q := rfl
theorem keep_set {fr : List Nat} {σ : St} {v : Option V} : Keep (st0 1 fr σ) ((st0 1 fr σ).set 0 v) := by
  refine ⟨by simp, fun i w h => ?_⟩
  cases i with
  | zero => simp [st0, List.replicate] at h
  | succ i => simpa [st0, List.replicate] using h
/-- [te for x in range(lo, ..)]: n of them, each f i -/
theorem comp_range {lo : Int} {n : Nat} {te : TE} {fr : List Nat} {σ : St} {H : Hp} {Q : VK} (f : Nat → V) (hn : n ≤ 1000000)
    (ht : ∀ (i : Nat) (H' : Hp) (R : VK), i < n → Same H H' → (∀ H'', Same H' H'' → R (f i) H'') → te ((st0 1 fr σ).set 0 (some (.int (lo + i)))) H' R)
    (hq : ∀ D H', H D = none → Same H H' → H' D = some (.lst ((List.range n).map f)) → Q (.ref D) H') : CmR (Itr lo n) (gName 0) tYes te 1 fr σ H Q := by
  intro D hD
  refine ⟨fun i m H' => m = n - i ∧ i ≤ n ∧ Same H H' ∧ H' D = some (.lst ((List.range i).map f)), ⟨n, by simp, Nat.zero_le _, Same.new hD, by rw [upd_same]; rfl⟩, ?_⟩
  rintro i m H1 ⟨rfl, hi, s1, e1⟩
  by_cases hlt : i < n
  · refine .inr ⟨hlt, fun x H' y => ?_⟩
    obtain ⟨e, y⟩ := y
    subst e y
    refine ⟨keep_set, ?_⟩
    show te _ _ _
    refine ht i H' _ hlt s1 fun H2 s2 => ?_
    refine ⟨_, s2 D _ e1, ?_, n - (i + 1), by omega, rfl, hlt, ?_, ?_⟩
    · rw [List.length_map, List.length_range, sizeLine_eq]; omega
    · exact fun b o h => by rw [upd_ne (ne_of_none h hD)]; exact s2 b o (s1 b o h)
    · rw [upd_same, List.range_succ, List.map_append]; rfl
  · have e : i = n := by omega
    subst e
    exact .inl ⟨Nat.le_refl _, hq D H1 hD s1 e1⟩
theorem cxK {CX : CXT} {P : Program} {w : World} {K : PySem.W.Frag} {mg : Str → Option Value} {base : Heap} {N : List Str} {qual : Str} {scope : Scope} {f : Addr} {cd : Value} {A : Around} {outer : List Env} {s : Shared} {H : Hp} {E : XK} : (cxOf CX P w K mg base N qual scope f cd A outer s H E).K = K := rfl
theorem cmK {X : Cx} {scope : Scope} {N' : List Str} {fp : List Addr} {C : Addr} {s : Shared} {H : Hp} : (compCx X scope N' fp C s H).K = X.K := rfl
theorem ixL {K : PySem.W.Frag} {p : Addr} {xs : List V} {i : Int} {v : V} {H : Hp} {Q : VK} (h : SqL K H p xs) (hv : atI xs i = some v) (q : Q v H) : rIxL K (.ref p) (.int i) H Q := ⟨p, xs, i, v, rfl, rfl, h, hv, q⟩
theorem ixT {K : PySem.W.Frag} {p : Addr} {xs : List V} {i : Int} {v : V} {H : Hp} {Q : VK} (h : SqT K H p xs) (hv : atI xs i = some v) (q : Q v H) : rIxT K (.ref p) (.int i) H Q := ⟨p, xs, i, v, rfl, rfl, h, hv, q⟩
theorem min_if {a b : Int} : (if b < a then b else a) = min a b := by
  by_cases h : b < a
  · rw [if_pos h]; omega
  · rw [if_neg h]; omega
theorem bt_divmod : bootBuiltins "divmod" = some (.builtin "divmod") := by decide +kernel
theorem bt_isinstance : bootBuiltins "isinstance" = some (.builtin "isinstance") := by decide +kernel
theorem bt_int : bootBuiltins "int" = some (.type "int") := by decide +kernel
theorem bt_bool : bootBuiltins "bool" = some (.type "bool") := by decide +kernel
theorem bt_str : bootBuiltins "str" = some (.type "str") := by decide +kernel
/-- a display of written ints -/
def intsOf : List Expr → Option (List Int)
  | [] => some []
  | .Constant (.int i) _ _ :: r => (intsOf r).map (i :: ·)
  | _ :: _ => none
end L2

namespace L2
open PySem PySem.Spec PyProof.Rows PySem.W
/-- an exception flies out of a call: what stood and is not tracked is kept (in B, which no flight touches), what is tracked is as H' tells; E of its class -/
def CXr (P : Program) (w : World) : CXT := fun outer H s E ev s' => ∃ (e : Addr) (cls a0 : Value) (B : Heap) (H' : Hp), ev = .ref e ∧ s'.os = s.os ∧ AllBare s'.gens ∧ Heap.FlyingW B outer e cls a0 s'.heap ∧ HOk P w H' B ∧
  Un (frs outer) [] H H' s.heap s'.heap ∧ (∀ b o, s.heap.get? b = some o → H b = none → b ∉ frs outer → B.get? b = some o) ∧ (∀ b o, s.heap.get? b = some o → b ∉ frs outer → ∃ o', B.get? b = some o') ∧ E cls none H'
section
variable {P : Program} {w : World} {K : PySem.W.Frag} {mg : Str → Option Value} {base : Heap} {N : List Str} {qual : Str} {scope : Scope} {f : Addr} {cd : Value} {A : Around} {outer : List Env} {s : Shared} {H : Hp} {E : XK}
end
/-! ### raise C(args), C an own class under a class of Python's own, without an __init__ -/
section
variable {X : Cx}
def tRaise (ta : TA) (Ex : Hp → Prop) : TS := fun _ σ H => ta σ H fun vs H1 => vs.length ≤ sizeLine ∧ Ex H1
end
section
variable {P : Program} {w : World} {K : PySem.W.Frag} {mg : Str → Option Value} {base : Heap}
end
end L2

namespace L2
open PySem PySem.Spec PyProof.Rows PySem.W
section
variable {M : Model} {A : Around} {E : Value → Shared → Prop}
variable {nm q : Str} {C N : Addr} {bs bm : List Value} {hdct : Bool} {sn : List Str} {sub : List Value} {ab : Bool} {col : Option Bool} {dd : Option Addr} {k0 k1 k2 k3 k5 : Option Value} {newId : String}
variable {nm' q' : Str} {C' N' : Addr} {bs' bm' : List Value} {hdct' : Bool} {sn' : List Str} {sub' : List Value} {ab' : Bool} {col' : Option Bool} {dd' : Option Addr} {k0' k1' k2' k3' k5' : Option Value} {newId' : String}
end
/-! ### behind an except .. as n: n is gone -/
section
variable {X : Cx} {pins : List (Addr × Obj)} {σ : St} {H : Hp} {s : Shared}
end
end L2

namespace L2
open PySem PySem.Spec PyProof.Rows PySem.W
/-- an exception of the class C lies at e -/
def ExcAt (e : Addr) (C : Value) (h : Heap) : Prop := ∃ o, h.get? e = some o ∧ o.cls = C
theorem ObjOk.there {P : Program} {w : World} {H : Hp} {h : Heap} {a : Addr} {o : HO} (x : ObjOk P w H h a o) : ∃ ob, h.get? a = some ob := by
  cases o with
  | lst xs => obtain ⟨_, _, _, _, e⟩ := x; exact ⟨_, e⟩
  | tup xs => obtain ⟨_, _, _, ob, e, _⟩ := x; exact ⟨_, e⟩
  | dK kvs => obtain ⟨_, _, _, _, o, _, _, e, _⟩ := x; exact ⟨_, e⟩
  | dT kvs => obtain ⟨_, _, _, _, o, _, _, e, _⟩ := x; exact ⟨_, e⟩
  | set S n => obtain ⟨o, _, _, _, e, _⟩ := x; exact ⟨_, e⟩
  | ins C dx fs => obtain ⟨_, _, _, e, _⟩ := x; exact ⟨_, e⟩
  | own y => exact x
  | xd fs => obtain ⟨_, ⟨_, _, _, e, _⟩, _⟩ := x; exact ⟨_, e⟩
  | rng lo hi => obtain ⟨_, _, _, e⟩ := x; exact ⟨_, e⟩
  | frz ob u => obtain ⟨e, _⟩ := x; exact ⟨_, e⟩
  | tbl ps => exact ⟨_, (show h.get? a = some _ from x)⟩
  | met f y => exact ⟨_, (show h.get? a = some _ from x)⟩
  | ext φ => exact x.2.1
/-- the suite's context -/
abbrev Cx.inEx (X : Cx) (e : Addr) : Cx := { X with A := X.A.mark (some (.ref e)), calm := false, xe := fun _ _ => False }
theorem Cx.Ok.inEx {X : Cx} (ok : X.Ok) (e : Addr) : (X.inEx e).Ok :=
  ⟨ok.mod, ok.kind, ok.glob, ok.blt, ok.above, ok.inj, ok.has, ok.cab, fun z => absurd z (by simp), ok.frames, ok.stk, ok.exf, ok.bs, ok.bsz, ok.noex, ok.exfs, ok.funs, ok.frf⟩
section
variable {X : Cx} {pins : List (Addr × Obj)} {σ : St} {H : Hp} {s : Shared}
theorem Inv.inEx (I : Inv X pins σ H s) (e : Addr) : Inv (X.inEx e) pins σ H s := ⟨I.ok.inEx e, I.os, I.bare, I.base, I.loc, I.cell, I.free, I.freeC, I.pin, I.hok, I.len⟩
end
section
variable {X : Cx} {CX : CXT} {k : Nat} {f C C' : Addr} {fd : FuncData} {ps : List Str} {sp : Sp} {x c n : Str} {p cp ep np hp tp : Pos} {a : Expr} {as : List Expr} {b₀ : Stmt} {suite : List Stmt} {t : TA} {i : Nat} {ts : TS}
def tTry (sp : Sp) (t : TA) (C : Addr) (i : Nat) (ts : TS) : TS := fun D σ H => t σ H fun vs H1 => sp vs H1 (fun _ H2 => D.nx σ H2) (fun cls _ H2 => cls = .ref C ∧ ∀ e, H2 e = none →
  ts { nx := fun σ' H' => D.nx (σ'.set i none) H', rt := fun _ _ => False } (σ.set i (some (.ref e))) (upd H2 e (.ext (ExcAt e (.ref C)))))
end
end L2

namespace L2
open PySem PySem.Spec PyProof.Rows
section
variable {X : Cx}
theorem bools_of {bs : List Bool} {its : List Value} (r : Vals (bs.map V.bl) its) : its = bs.map Value.bool := by
  induction bs generalizing its with
  | nil => cases r; rfl
  | cons b bs ih =>
    rw [List.map_cons] at r
    cases r with
    | cons r1 r2 =>
      rw [List.map_cons, ← ih r2]
      exact congrArg (· :: _) r1
theorem range_all (bs : List Bool) (f : Nat → Bool) (h : ∀ i, i < bs.length → f i = bs.getD i true) : (List.range bs.length).all f = bs.all id := by
  rw [Bool.eq_iff_iff, List.all_eq_true, List.all_eq_true]
  constructor
  · intro z b hb
    obtain ⟨i, hi, e⟩ := List.getElem_of_mem hb
    have := z i (List.mem_range.mpr hi)
    rw [h i hi, List.getD_eq_getElem?_getD, List.getElem?_eq_getElem hi] at this
    rw [← e]; exact this
  · intro z i hi
    have hi := List.mem_range.mp hi
    rw [h i hi, List.getD_eq_getElem?_getD, List.getElem?_eq_getElem hi]
    exact z _ (List.getElem_mem hi)
theorem bool_at {bs : List Bool} {i : Nat} {v : Value} (h : (bs.map Value.bool).toArray[i]? = some v) : v = .bool (bs.getD i true) := by
  have h' : (bs.map Value.bool)[i]? = some v := by simpa using h
  rw [List.getElem?_map] at h'
  cases e : bs[i]? with
  | none => rw [e] at h'; cases h'
  | some b =>
    rw [e] at h'
    rw [List.getD_eq_getElem?_getD, e]
    exact (Option.some.inj h').symm
theorem iter_boolList {prog : Program} {w : World} {A : Around} {E : Value → Shared → Prop} {s : Shared} {l : Addr} {items : Array Value} {Q : Value → Shared → Prop} (hl : s.heap.IsList l items)
    (h : ∀ s₂ : Shared, s₂ = { s with heap := s.heap.push { cls := .type "list_iterator", data := .fields #[.ref l, .int 0 0] } } →
      (s₂.heap.IsListIter s.heap.objs.size l 0 ∧ s₂.heap.IsList l items) → l ≠ s.heap.objs.size → Q (.ref s.heap.objs.size) s₂) : wpAny (model prog w) A (pyIter (.ref l)) Q E s := by
  have hlt : l < s.heap.objs.size := by obtain ⟨_, e, _⟩ := hl; exact Heap.lt_size e
  exact wpAny_pyIter_list hl (h _ rfl ⟨⟨_, Heap.get?_push_size _ rfl, rfl, rfl⟩, hl.push _⟩ (Nat.ne_of_lt hlt))
theorem call_all (hc : X.calm = true) : CallR X (.builtin "all") (fun xs H Q => ∃ (a : Addr) (bs : List Bool), xs = [.ref a] ∧ SqL X.K H a (bs.map V.bl) ∧ Q (.bl (bs.all id)) H) := by
  intro pins s σ H xs us Q I r h
  obtain ⟨a, bs, rfl, hl, q⟩ := h
  obtain ⟨u, rfl, rx⟩ := vals1 r
  cases rx
  obtain ⟨its, rv, p, hz⟩ := I.list hl
  have hi := bools_of rv
  subst hi
  refine call_all_walk (iter_boolList p.isList fun s₂ e st hlI => ?_)
  subst e
  refine ⟨_, _, _, _, _, _, fun i => bs.getD i true, rfl, Walks.list (A := X.A.in1) (I.ok.hd hc) _ a hlI _, st, fun i v s' Q' E' hP hq => by rw [bool_at hP]; exact wpAny_truthy_bool hq, fun h' tk hk => ?_⟩
  have e := range_all bs (fun i => bs.getD i true) fun _ _ => rfl
  have e2 : (List.map Value.bool bs).toArray.size = bs.length := by simp
  rw [e2, e]
  exact ⟨.bl (bs.all id), H, I.kept (old_kept hk), rfl, q⟩
end
end L2

namespace L2
open PySem PySem.Spec PyProof.Rows PySem.W PySem.Calls PySem.Builtin.ObjectAttr PySem.Builtin PySem.Builtin.Getset_descriptor
section
variable {prog : Program} {w : World} {A : Around} {E : Value → Shared → Prop} {s : Shared} {K : PySem.W.Frag} {x C : Addr}
theorem ExcAt.type {M : Model} {h : Heap} (p : ExcAt x (.ref C) h) : Looks M h (typeOf (.ref x)) (.ref C) := by
  obtain ⟨o, h1, h2⟩ := p
  exact h2 ▸ (Looks.ld h1).andThen .now
structure ExcK (K : PySem.W.Frag) (C : Addr) : Prop where
  ga : findIn K (.ref C) "__getattribute__" = some (some (.builtin "BaseException.__getattribute__"))
  hk : findIn K (.ref C) "__getattr__" = some none
  cl : findIn K (.ref C) "__class__" = some (some (.builtin "object.__class__"))
  gt : specialIn K (.builtin "object.__class__") "__get__" = some (some (.builtin "getset_descriptor.__get__"))
  tk : takesIn K (.builtin "object.__class__") = some true
  ob : mroIn K C (.type "object") = some true
  be : mroIn K C (.type "BaseException") = some true
  cd : (clsIn K C).isSome = true
end
section
variable {X : Cx}
end
end L2

namespace L2
open PySem PySem.Spec PyProof.Rows PySem.W
mutual
/-- a value as data: texts, numbers, truths, None, tuples and lists of these -/
inductive Rep (K : PySem.W.Frag) (H : Hp) : V → PyData → Prop
  | non : Rep K H .non .none
  | bl (b : Bool) : Rep K H (.bl b) (.bool b)
  | int (i : Int) : Rep K H (.int i) (.int i)
  | str (x : Str) : Rep K H (.str x) (.str x)
  | tup {a : Addr} {xs : List V} {ds : List PyData} : SqT K H a xs → Reps K H xs ds → Rep K H (.ref a) (.tuple ds)
  | lst {a : Addr} {xs : List V} {ds : List PyData} : SqL K H a xs → Reps K H xs ds → Rep K H (.ref a) (.list ds)
inductive Reps (K : PySem.W.Frag) (H : Hp) : List V → List PyData → Prop
  | nil : Reps K H [] []
  | cons {v : V} {d : PyData} {vs : List V} {ds : List PyData} : Rep K H v d → Reps K H vs ds → Reps K H (v :: vs) (d :: ds)
end
section
variable {X : Cx} {pins : List (Addr × Obj)} {σ : St} {H : Hp} {s : Shared}
mutual
theorem rep_reads (I : Inv X pins σ H s) : ∀ {v : V} {d : PyData} {u : Value}, Rep X.K H v d → RelV v u → ∃ as, Reads s.heap u d as
  | _, _, _, .non, r => by cases r; exact ⟨_, Reads.none⟩
  | _, _, _, .bl b, r => by cases r; exact ⟨_, Reads.bool b⟩
  | _, _, _, .int i, r => by obtain ⟨t, rfl⟩ := r; exact ⟨_, Reads.int i t⟩
  | _, _, _, .str x, r => by obtain ⟨t, rfl⟩ := r; exact ⟨_, Reads.str x t⟩
  | _, _, _, .tup h hs, r => by
    cases r
    obtain ⟨its, rv, ⟨o, e, c, n, dd⟩, _⟩ := I.tuple h
    obtain ⟨as, q⟩ := reps_reads I hs rv
    exact ⟨as, reads_tuple_at e c dd (by simpa using q)⟩
  | _, _, _, .lst h hs, r => by
    cases r
    obtain ⟨its, rv, ⟨o, n, e, c, _, dd⟩, _⟩ := I.list h
    obtain ⟨as, q⟩ := reps_reads I hs rv
    exact ⟨_, reads_list_at e c dd (by simpa using q)⟩
theorem reps_reads (I : Inv X pins σ H s) : ∀ {vs : List V} {ds : List PyData} {us : List Value}, Reps X.K H vs ds → Vals vs us → ∃ as, ReadsAll s.heap us ds as
  | _, _, _, .nil, r => by cases r; exact ⟨_, ReadsAll.nil⟩
  | _, _, _, .cons h hs, r => by
    cases r with
    | cons r1 r2 =>
      obtain ⟨as, q⟩ := rep_reads I h r1
      obtain ⟨bs, p⟩ := reps_reads I hs r2
      exact ⟨_, ReadsAll.cons q p⟩
end
end
section
variable {X : Cx}
abbrev Shp (d : PyData) : Prop := SeqAt.shaped d = true
def rEqD (K : PySem.W.Frag) : R2 := fun x y H Q => ∃ dx dy, Rep K H x dx ∧ Rep K H y dy ∧ Shp dx ∧ Shp dy ∧ Q (.bl (PyData.eqv dx dy)) H
def rNeD (K : PySem.W.Frag) : R2 := fun x y H Q => ∃ dx dy, Rep K H x dx ∧ Rep K H y dy ∧ Shp dx ∧ Shp dy ∧ Q (.bl (!PyData.eqv dx dy)) H
theorem Same.tup {K : PySem.W.Frag} {H H' : Hp} {a : Addr} {xs : List V} (e : Same H H') (h : SqT K H a xs) : SqT K H' a xs := by
  rcases h with (h | ⟨o, h⟩) | h
  · exact .inl (.inl (e _ _ h))
  · exact .inl (.inr ⟨o, e _ _ h⟩)
  · exact .inr h
end

/-- a comprehension over a list, a tuple or a range: the items that pass, each turned by f -/
structure Src (J : It) (H : Hp) (xs : List V) : Prop where
  go : ∀ i H', Same H H' → i < xs.length → J.go i H'
  yl : ∀ i H' x H'', Same H H' → J.yld i H' x H'' → H'' = H' ∧ xs[i]? = some x
  st : ∀ i H', Same H H' → xs.length ≤ i → J.stop i H'
theorem Src.list {K : PySem.W.Frag} {H : Hp} {a : Addr} {xs : List V} (h : SqL K H a xs) : Src (Itl K a) H xs :=
  ⟨fun i H' s hi => ⟨xs, xs[i], s.seq h, by simp [hi]⟩, fun i H' x H'' s y => ⟨y.1, y.2 xs (s.seq h)⟩, fun i H' s hi => ⟨xs, s.seq h, hi⟩⟩
theorem Src.tup {K : PySem.W.Frag} {H : Hp} {a : Addr} {xs : List V} (h : SqT K H a xs) : Src (Itt K a) H xs :=
  ⟨fun i H' s hi => ⟨xs, xs[i], s.tup h, by simp [hi]⟩, fun i H' x H'' s y => ⟨y.1, y.2 xs (s.tup h)⟩, fun i H' s hi => ⟨xs, s.tup h, hi⟩⟩
theorem bt_all : bootBuiltins "all" = some (.builtin "all") := by decide +kernel
end L2

/-! data, with a set of addresses (lists under way) that it must not reach -/
namespace L2
open PySem PySem.Spec PyProof.Rows PySem.W
/-- a list of one number, whatever it is -/
def IsPack (p : Addr) (h : Heap) : Prop := ∃ (n : Int) (t : Tok) (k : Nat), h.get? p = some { cls := .type "list", data := .seq #[.int n t] k }
abbrev packO (p : Addr) : HO := .ext (IsPack p)
abbrev packD : PyData := .dict [(.none, .none)]
/-- the script: a list that is only read -/
abbrev scrD (ds : List PyData) : PyData := .dict [(.none, .list ds)]
abbrev Ex := Addr → Prop
abbrev H00 : Hp := fun _ => none
mutual
inductive Dt (K : PySem.W.Frag) (H : Hp) (O : Ex) : V → PyData → Prop
  | non : Dt K H O .non .none
  | bl (b : Bool) : Dt K H O (.bl b) (.bool b)
  | int (i : Int) : Dt K H O (.int i) (.int i)
  | str (x : Str) : Dt K H O (.str x) (.str x)
  | tup {a : Addr} {xs : List V} {ds : List PyData} : Rd H a (.tup xs) → ¬ O a → Dts K H O xs ds → Dt K H O (.ref a) (.tuple ds)
  | tupK {a : Addr} {xs : List V} {ds : List PyData} : SqT K H00 a xs → Dts K H O xs ds → Dt K H O (.ref a) (.tuple ds)
  | lst {a : Addr} {xs : List V} {ds : List PyData} : Rd H a (.lst xs) → ¬ O a → Dts K H O xs ds → Dt K H O (.ref a) (.list ds)
  | pack {p : Addr} : H p = some (packO p) → ¬ O p → Dt K H O (.ref p) packD
  | dct0 {a : Addr} : H a = some (.dK []) → ¬ O a → Dt K H O (.ref a) (.dict [])
  | scr {a : Addr} {xs : List V} {ds : List PyData} : (Rd H a (.lst xs) ∧ ¬ O a) ∨ SqL K H00 a xs → Dts K H O xs ds → Dt K H O (.ref a) (scrD ds)
inductive Dts (K : PySem.W.Frag) (H : Hp) (O : Ex) : List V → List PyData → Prop
  | nil : Dts K H O [] []
  | cons {v : V} {d : PyData} {vs : List V} {ds : List PyData} : Dt K H O v d → Dts K H O vs ds → Dts K H O (v :: vs) (d :: ds)
end
theorem Rd.same {H H' : Hp} {a : Addr} {u : HO} (s : ∀ o, H a = some o → H' a = some o) (h : Rd H a u) : Rd H' a u := by
  rcases h with h | ⟨o, h⟩
  · exact .inl (s _ h)
  · exact .inr ⟨o, s _ h⟩
theorem Rd.trk {H : Hp} {a : Addr} {u : HO} (h : Rd H a u) : H a ≠ none := by
  rcases h with h | ⟨o, h⟩ <;> rw [h] <;> exact fun z => nomatch z
section
variable {K : PySem.W.Frag}
/-- the data stays where all but O stays, and reaches no newly named address that was not tracked -/
structure Step (H H' : Hp) (O O' : Ex) : Prop where
  keep : ∀ b o, H b = some o → ¬ O b → H' b = some o
  out : ∀ b, H b ≠ none → ¬ O b → ¬ O' b
mutual
theorem Dt.step {H H' : Hp} {O O' : Ex} (S : Step H H' O O') : ∀ {v : V} {d : PyData}, Dt K H O v d → Dt K H' O' v d
  | _, _, .non => .non
  | _, _, .bl b => .bl b
  | _, _, .int i => .int i
  | _, _, .str x => .str x
  | _, _, .tup h n r => .tup (h.same fun o e => S.keep _ o e n) (S.out _ h.trk n) (Dts.step S r)
  | _, _, .tupK h r => .tupK h (Dts.step S r)
  | _, _, .lst h n r => .lst (h.same fun o e => S.keep _ o e n) (S.out _ h.trk n) (Dts.step S r)
  | _, _, .pack h n => .pack (S.keep _ _ h n) (S.out _ (by rw [h]; exact fun z => nomatch z) n)
  | _, _, .dct0 h n => .dct0 (S.keep _ _ h n) (S.out _ (by rw [h]; exact fun z => nomatch z) n)
  | _, _, .scr h r => .scr (h.imp (fun h => ⟨h.1.same fun o e => S.keep _ o e h.2, S.out _ h.1.trk h.2⟩) id) (Dts.step S r)
theorem Dts.step {H H' : Hp} {O O' : Ex} (S : Step H H' O O') : ∀ {vs : List V} {ds : List PyData}, Dts K H O vs ds → Dts K H' O' vs ds
  | _, _, .nil => .nil
  | _, _, .cons h r => .cons (Dt.step S h) (Dts.step S r)
end
theorem Step.same {H H' : Hp} {O : Ex} (s : Same H H') : Step H H' O O := ⟨fun b o e _ => s b o e, fun _ _ n => n⟩
theorem Dt.mono {H H' : Hp} {O : Ex} {v : V} {d : PyData} (s : Same H H') (h : Dt K H O v d) : Dt K H' O v d := h.step (.same s)
theorem Dts.mono {H H' : Hp} {O : Ex} {v : List V} {d : List PyData} (s : Same H H') (h : Dts K H O v d) : Dts K H' O v d := h.step (.same s)
theorem Dts.length {H : Hp} {O : Ex} : ∀ {vs : List V} {ds : List PyData}, Dts K H O vs ds → vs.length = ds.length
  | _, _, .nil => rfl
  | _, _, .cons _ r => by rw [List.length_cons, List.length_cons, Dts.length r]
theorem Dts.get {H : Hp} {O : Ex} : ∀ {vs : List V} {ds : List PyData} {i : Nat} {v : V}, Dts K H O vs ds → vs[i]? = some v → ∃ d, ds[i]? = some d ∧ Dt K H O v d
  | _, _, _, _, .nil, e => by simp at e
  | _, _, 0, _, .cons h _, e => by simp at e; subst e; exact ⟨_, rfl, h⟩
  | _, _, i + 1, _, .cons _ r, e => by simpa using Dts.get (i := i) r (by simpa using e)
theorem Dts.getD {H : Hp} {O : Ex} : ∀ {vs : List V} {ds : List PyData} {i : Nat} {d : PyData}, Dts K H O vs ds → ds[i]? = some d → ∃ v, vs[i]? = some v ∧ Dt K H O v d
  | _, _, _, _, .nil, e => by simp at e
  | _, _, 0, _, .cons h _, e => by simp at e; subst e; exact ⟨_, rfl, h⟩
  | _, _, i + 1, _, .cons _ r, e => by simpa using Dts.getD (i := i) r (by simpa using e)
theorem Dts.append {H : Hp} {O : Ex} : ∀ {vs ws : List V} {ds es : List PyData}, Dts K H O vs ds → Dts K H O ws es → Dts K H O (vs ++ ws) (ds ++ es)
  | _, _, _, _, .nil, s => s
  | _, _, _, _, .cons h r, s => .cons h (Dts.append r s)
theorem Dts.take {H : Hp} {O : Ex} : ∀ {vs : List V} {ds : List PyData} (n : Nat), Dts K H O vs ds → Dts K H O (vs.take n) (ds.take n)
  | _, _, 0, _ => .nil
  | _, _, _ + 1, .nil => .nil
  | _, _, n + 1, .cons h r => .cons h (Dts.take n r)
theorem Dts.drop {H : Hp} {O : Ex} : ∀ {vs : List V} {ds : List PyData} (n : Nat), Dts K H O vs ds → Dts K H O (vs.drop n) (ds.drop n)
  | _, _, 0, r => r
  | _, _, _ + 1, .nil => .nil
  | _, _, n + 1, .cons _ r => Dts.drop n r
theorem Dts.reverse {H : Hp} {O : Ex} : ∀ {vs : List V} {ds : List PyData}, Dts K H O vs ds → Dts K H O vs.reverse ds.reverse
  | _, _, .nil => .nil
  | _, _, .cons h r => by rw [List.reverse_cons, List.reverse_cons]; exact (Dts.reverse r).append (.cons h .nil)
theorem Dts.ints {H : Hp} {O : Ex} : ∀ (ns : List Int), Dts K H O (ns.map V.int) (ns.map PyData.int)
  | [] => .nil
  | n :: r => .cons (.int n) (Dts.ints r)
/-- what lies within reach as data, be it a list under way itself -/
inductive Sh (K : PySem.W.Frag) (H : Hp) (O : Ex) : V → PyData → Prop
  | dt {v : V} {d : PyData} : Dt K H O v d → Sh K H O v d
  | own {l : Addr} {vs : List V} {ds : List PyData} : H l = some (.lst vs) → Dts K H O vs ds → Sh K H O (.ref l) (.list ds)
theorem Sh.mono {H H' : Hp} {O : Ex} {v : V} {d : PyData} (s : Same H H') : Sh K H O v d → Sh K H' O v d
  | .dt h => .dt (h.mono s)
  | .own h r => .own (s _ _ h) (r.mono s)
/-- without the set -/
theorem Dt.all {H : Hp} {O : Ex} {v : V} {d : PyData} (h : Dt K H O v d) : Dt K H (fun _ => False) v d := h.step ⟨fun _ _ e _ => e, fun _ _ _ z => z⟩
theorem Dts.all {H : Hp} {O : Ex} {v : List V} {d : List PyData} (h : Dts K H O v d) : Dts K H (fun _ => False) v d := h.step ⟨fun _ _ e _ => e, fun _ _ _ z => z⟩
theorem Sh.all {H : Hp} {O : Ex} {v : V} {d : PyData} : Sh K H O v d → Dt K H (fun _ => False) v d
  | .dt h => h.all
  | .own h r => .lst (.inl h) (fun z => z) r.all
theorem SqT.of0 {H : Hp} {a : Addr} {xs : List V} (h : SqT K H00 a xs) : SqT K H a xs := by
  rcases h with (h | ⟨o, h⟩) | h
  · cases h
  · cases h
  · exact .inr h
theorem SqL.of0 {H : Hp} {a : Addr} {xs : List V} (h : SqL K H00 a xs) : SqL K H a xs := by
  rcases h with (h | ⟨o, h⟩) | h
  · cases h
  · cases h
  · exact .inr h
theorem Sh.tup {H : Hp} {O : Ex} {v : V} {ds : List PyData} (h : Sh K H O v (.tuple ds)) : ∃ a xs, v = .ref a ∧ SqT K H a xs ∧ Dts K H O xs ds := by
  cases h with
  | dt h =>
    cases h with
    | tup h _ r => exact ⟨_, _, rfl, .inl h, r⟩
    | tupK h r => exact ⟨_, _, rfl, h.of0, r⟩
theorem Sh.lstR {H : Hp} {O : Ex} {v : V} {ds : List PyData} (h : Sh K H O v (.list ds)) : ∃ a xs, v = .ref a ∧ Rd H a (.lst xs) ∧ Dts K H O xs ds := by
  cases h with
  | dt h =>
    cases h with
    | lst h _ r => exact ⟨_, _, rfl, h, r⟩
  | own h r => exact ⟨_, _, rfl, .inl h, r⟩
theorem Sh.lst {H : Hp} {O : Ex} {v : V} {ds : List PyData} (h : Sh K H O v (.list ds)) : ∃ a xs, v = .ref a ∧ SqL K H a xs ∧ Dts K H O xs ds := by
  obtain ⟨a, xs, e, h, r⟩ := h.lstR
  exact ⟨a, xs, e, .inl h, r⟩
theorem Sh.scr {H : Hp} {O : Ex} {v : V} {ds : List PyData} (h : Sh K H O v (scrD ds)) : ∃ a xs, v = .ref a ∧ SqL K H a xs ∧ Dts K H O xs ds := by
  cases h with
  | dt h =>
    cases h with
    | scr h r =>
      rcases h with h | h
      · exact ⟨_, _, rfl, .inl h.1, r⟩
      · exact ⟨_, _, rfl, h.of0, r⟩
theorem Sh.int {H : Hp} {O : Ex} {v : V} {i : Int} (h : Sh K H O v (.int i)) : v = .int i := by cases h with | dt h => cases h; rfl
theorem Sh.bl {H : Hp} {O : Ex} {v : V} {i : Bool} (h : Sh K H O v (.bool i)) : v = .bl i := by cases h with | dt h => cases h; rfl
theorem Sh.str {H : Hp} {O : Ex} {v : V} {i : Str} (h : Sh K H O v (.str i)) : v = .str i := by cases h with | dt h => cases h; rfl
theorem Sh.non {H : Hp} {O : Ex} {v : V} (h : Sh K H O v .none) : v = .non := by cases h with | dt h => cases h; rfl
def scalD : PyData → Bool
  | .none | .bool _ | .int _ | .str _ => true
  | _ => false
theorem Dt.scal {H H' : Hp} {O O' : Ex} {v : V} {d : PyData} (h : Dt K H O v d) (e : scalD d = true) : Dt K H' O' v d := by
  cases h with
  | non => exact .non
  | bl b => exact .bl b
  | int i => exact .int i
  | str x => exact .str x
  | _ => exact absurd (show false = true from e) (by decide)
/-! the data as the model's equality reads it -/
def plainD : PyData → Bool := fun d => SeqAt.shaped d
end
section
variable {X : Cx} {pins : List (Addr × Obj)} {σ : St} {H : Hp} {s : Shared}
mutual
theorem dt_reads (I : Inv X pins σ H s) {O : Ex} : ∀ {v : V} {d : PyData} {u : Value}, Dt X.K H O v d → d.canLay0 = true → RelV v u → ∃ as, Reads s.heap u d as
  | _, _, _, .non, _, r => by cases r; exact ⟨_, Reads.none⟩
  | _, _, _, .bl b, _, r => by cases r; exact ⟨_, Reads.bool b⟩
  | _, _, _, .int i, _, r => by obtain ⟨t, rfl⟩ := r; exact ⟨_, Reads.int i t⟩
  | _, _, _, .str x, _, r => by obtain ⟨t, rfl⟩ := r; exact ⟨_, Reads.str x t⟩
  | _, _, _, .tup h _ hs, c, r => by
    cases r
    obtain ⟨its, rv, ⟨o, e, c', n, dd⟩, _⟩ := I.tuple (.inl h)
    obtain ⟨as, q⟩ := dts_reads I hs (by simpa [PyData.canLay0] using c) rv
    exact ⟨as, reads_tuple_at e c' dd (by simpa using q)⟩
  | _, _, _, .tupK h hs, c, r => by
    cases r
    obtain ⟨its, rv, ⟨o, e, c', n, dd⟩, _⟩ := I.tuple h.of0
    obtain ⟨as, q⟩ := dts_reads I hs (by simpa [PyData.canLay0] using c) rv
    exact ⟨as, reads_tuple_at e c' dd (by simpa using q)⟩
  | _, _, _, .lst h _ hs, c, r => by
    cases r
    obtain ⟨its, rv, ⟨o, n, e, c', _, dd⟩, _⟩ := I.list (.inl h)
    obtain ⟨as, q⟩ := dts_reads I hs (by simpa [PyData.canLay0] using c) rv
    exact ⟨_, reads_list_at e c' dd (by simpa using q)⟩
  | _, _, _, .pack _ _, c, _ => by simp [PyData.canLay0] at c
  | _, _, _, .dct0 _ _, c, _ => by simp [PyData.canLay0] at c
  | _, _, _, .scr _ _, c, _ => by simp [PyData.canLay0] at c
theorem dts_reads (I : Inv X pins σ H s) {O : Ex} : ∀ {vs : List V} {ds : List PyData} {us : List Value}, Dts X.K H O vs ds → PyData.canLayAll0 ds = true → Vals vs us → ∃ as, ReadsAll s.heap us ds as
  | _, _, _, .nil, _, r => by cases r; exact ⟨_, ReadsAll.nil⟩
  | _, _, _, .cons h hs, c, r => by
    rw [PyData.canLayAll0, Bool.and_eq_true] at c
    cases r with
    | cons r1 r2 =>
      obtain ⟨as, q⟩ := dt_reads I h c.1 r1
      obtain ⟨bs, p⟩ := dts_reads I hs c.2 r2
      exact ⟨_, ReadsAll.cons q p⟩
end
end
end L2

namespace L2
open PySem PySem.Spec PyProof.Rows PySem.W
inductive Sl where
  | v (d : PyData)
  | o (ds : List PyData)
abbrev Dl := List (Option Sl)
/-- a slot: data, or a list under way -/
def SlotOk (K : PySem.W.Frag) (H : Hp) (O0 O : Ex) (x : Option V) : Option Sl → Prop
  | none => True
  | some (.v d) => ∃ v, x = some v ∧ Dt K H O v d
  | some (.o ds) => ∃ l vs, x = some (.ref l) ∧ O l ∧ ¬ O0 l ∧ H l = some (.lst vs) ∧ Dts K H O vs ds
/-- the state of a def's body: the entry's heap H0 with the callers' lists under way O0; now H and O; the slots -/
structure Wd (K : PySem.W.Frag) (H0 : Hp) (O0 : Ex) (H : Hp) (O : Ex) (σ : St) (δ : Dl) : Prop where
  same : Same H0 H
  sub : ∀ l, O0 l → O l
  new : ∀ l, O l → O0 l ∨ H0 l = none
  trk : ∀ l, O l → H l ≠ none
  len : σ.length = δ.length
  sl : ∀ (i : Nat) y, δ[i]? = some y → SlotOk K H O0 O ((σ[i]?).join) y
  dis : ∀ (i j : Nat) ds es l, δ[i]? = some (some (.o ds)) → δ[j]? = some (some (.o es)) → σ[i]? = some (some (.ref l)) → σ[j]? = some (some (.ref l)) → i = j
section
variable {K : PySem.W.Frag} {H0 H H' : Hp} {O0 O : Ex} {σ : St} {δ : Dl}
theorem SlotOk.mono {x : Option V} {y : Option Sl} (s : Same H H') (h : SlotOk K H O0 O x y) : SlotOk K H' O0 O x y := by
  match y, h with
  | none, _ => exact True.intro
  | some (.v d), ⟨v, e, r⟩ => exact ⟨v, e, r.mono s⟩
  | some (.o ds), ⟨l, vs, e, a, b, c, r⟩ => exact ⟨l, vs, e, a, b, s _ _ c, r.mono s⟩
theorem Wd.mono (s : Same H H') (w : Wd K H0 O0 H O σ δ) : Wd K H0 O0 H' O σ δ :=
  ⟨w.same.trans s, w.sub, w.new, fun l h z => (by
    cases e : H l with
    | none => exact w.trk l h e
    | some o => rw [s _ _ e] at z; cases z), w.len, fun i y e => (w.sl i y e).mono s, w.dis⟩
theorem Wd.val (w : Wd K H0 O0 H O σ δ) {i : Nat} {d : PyData} (e : δ[i]? = some (some (.v d))) : ∃ v, σ[i]? = some (some v) ∧ Dt K H O v d := by
  obtain ⟨v, h, r⟩ := w.sl i _ e
  refine ⟨v, ?_, r⟩
  cases q : σ[i]? with
  | none => rw [q] at h; cases h
  | some o => rw [q] at h; rw [show o = some v from h]
theorem Wd.own (w : Wd K H0 O0 H O σ δ) {i : Nat} {ds : List PyData} (e : δ[i]? = some (some (.o ds))) : ∃ l vs, σ[i]? = some (some (.ref l)) ∧ O l ∧ ¬ O0 l ∧ H l = some (.lst vs) ∧ Dts K H O vs ds := by
  obtain ⟨l, vs, h, r⟩ := w.sl i _ e
  refine ⟨l, vs, ?_, r⟩
  cases q : σ[i]? with
  | none => rw [q] at h; cases h
  | some o => rw [q] at h; rw [show o = some (.ref l) from h]
/-- a slot is set to data -/
theorem Wd.set (w : Wd K H0 O0 H O σ δ) {i : Nat} {v : V} {d : PyData} (h : Dt K H O v d) : Wd K H0 O0 H O (σ.set i (some v)) (δ.set i (some (.v d))) := by
  refine ⟨w.same, w.sub, w.new, w.trk, by simp [w.len], fun j y e => ?_, fun j k ds es l e1 e2 e3 e4 => ?_⟩
  · by_cases hj : j = i
    · subst hj
      have hl : j < δ.length := by
        have := (List.getElem?_eq_some_iff.mp e).1; simpa using this
      rw [List.getElem?_set_self hl] at e
      cases e
      rw [List.getElem?_set_self (by rw [w.len]; exact hl)]
      exact ⟨v, rfl, h⟩
    · rw [List.getElem?_set_ne (Ne.symm hj)] at e ⊢
      exact w.sl j y e
  · have ne : ∀ {j : Nat} {ds : List PyData}, (δ.set i (some (.v d)))[j]? = some (some (.o ds)) → j ≠ i := fun {j ds} e z => by
      subst z
      by_cases hl : j < δ.length
      · rw [List.getElem?_set_self hl] at e; cases e
      · rw [List.getElem?_eq_none (by simpa using hl)] at e; cases e
    have n1 := ne e1; have n2 := ne e2
    rw [List.getElem?_set_ne (Ne.symm n1)] at e1 e3
    rw [List.getElem?_set_ne (Ne.symm n2)] at e2 e4
    exact w.dis j k ds es l e1 e2 e3 e4
end
/-! ### readings over data -/
abbrev DT := Dl → (PyData → Prop) → Prop
abbrev DA := Dl → (List PyData → Prop) → Prop
abbrev DB := Dl → (Bool → Prop) → Prop
structure DEnds where
  nx : Dl → Prop
  rt : PyData → Prop
  bk : Dl → Prop := fun _ => False
  ct : Dl → Prop := fun _ => False
abbrev DS := DEnds → Dl → Prop
section
variable (K : PySem.W.Frag) (H0 : Hp) (O0 : Ex)
def up (t : DT) : TE := fun σ H R => ∃ O δ Qd, Wd K H0 O0 H O σ δ ∧ t δ Qd ∧ ∀ d v H', Qd d → Same H H' → Dt K H' O v d → R v H'
def upS (t : DT) : TE := fun σ H R => ∃ O δ Qd, Wd K H0 O0 H O σ δ ∧ t δ Qd ∧ ∀ d v H', Qd d → Same H H' → Sh K H' O v d → R v H'
def upA (t : DA) : TA := fun σ H R => ∃ O δ Qd, Wd K H0 O0 H O σ δ ∧ t δ Qd ∧ ∀ ds vs H', Qd ds → Same H H' → Dts K H' O vs ds → R vs H'
def upT (t : DB) : TT := fun σ H R => ∃ O δ Qd, Wd K H0 O0 H O σ δ ∧ t δ Qd ∧ ∀ b H', Qd b → Same H H' → R b H'
def upD (t : DS) : TS := fun D σ H => ∃ O δ E, Wd K H0 O0 H O σ δ ∧ t E δ ∧ (∀ O' δ' σ' H', E.nx δ' → Wd K H0 O0 H' O' σ' δ' → Step H H' O O' → D.nx σ' H') ∧ (∀ d v H', E.rt d → Same H0 H' → Dt K H' O0 v d → D.rt v H') ∧
  (∀ O' δ' σ' H', E.bk δ' → Wd K H0 O0 H' O' σ' δ' → Step H H' O O' → D.bk σ' H') ∧ (∀ O' δ' σ' H', E.ct δ' → Wd K H0 O0 H' O' σ' δ' → Step H H' O O' → D.ct σ' H')
end
theorem PE.imp {X : Cx} {e : Expr} {t u : TE} (h : PE X e t) (i : ∀ σ H Q, u σ H Q → t σ H Q) : PE X e u := fun pins s σ H Q I z => h pins s σ H Q I (i σ H Q z)
theorem PT.imp {X : Cx} {e : Expr} {t u : TT} (h : PT X e t) (i : ∀ σ H Q, u σ H Q → t σ H Q) : PT X e u := fun pins s σ H Q I z => h pins s σ H Q I (i σ H Q z)
theorem PW.imp {X : Cx} {e : Expr} {t u : TT} (h : PW X e t) (i : ∀ σ H Q, u σ H Q → t σ H Q) : PW X e u := fun wh pins s σ H Q I z => h wh pins s σ H Q I (i σ H Q z)
theorem PA.imp {X : Cx} {e : List Expr} {t u : TA} (h : PA X e t) (i : ∀ σ H Q, u σ H Q → t σ H Q) : PA X e u := fun pos pins s σ H Q I z => h pos pins s σ H Q I (i σ H Q z)
theorem PS.imp {X : Cx} {e : Stmt} {t u : TS} (h : PS X e t) (i : ∀ D σ H, u D σ H → t D σ H) : PS X e u := fun pins s σ H D I z => h pins s σ H D I (i D σ H z)
theorem PSs.imp {X : Cx} {e : List Stmt} {t u : TS} (h : PSs X e t) (i : ∀ D σ H, u D σ H → t D σ H) : PSs X e u := fun pins s σ H D I z => h pins s σ H D I (i D σ H z)
section
variable {X : Cx} {H0 : Hp} {O0 : Ex}
abbrev DE (X : Cx) (H0 : Hp) (O0 : Ex) (e : Expr) (t : DT) : Prop := PE X e (up X.K H0 O0 t)
abbrev DF (X : Cx) (H0 : Hp) (O0 : Ex) (e : Expr) (t : DT) : Prop := PE X e (upS X.K H0 O0 t)
theorem df {e : Expr} {t : DT} (h : DE X H0 O0 e t) : DF X H0 O0 e t := h.imp fun σ H Q ⟨O, δ, Qd, w, q, k⟩ => ⟨O, δ, Qd, w, q, fun d v H' a b c => k d v H' a b (.dt c)⟩
/-! names, constants -/
def dVar (i : Nat) : DT := fun δ Q => ∃ d, δ[i]? = some (some (.v d)) ∧ Q d
def dOwn (i : Nat) : DT := fun δ Q => ∃ ds, δ[i]? = some (some (.o ds)) ∧ Q (.list ds)
def dC (d : PyData) : DT := fun _ Q => Q d
theorem dv (i : Nat) {x : Str} {pos : Pos} (hN : X.N[i]? = some x := by rfl) (hv : Vis X.env.scope x := by first | exact Or.inl rfl | exact Or.inr (Or.inl rfl) | exact Or.inr (Or.inr rfl))
    (hd : (x == ("__debug__" : Str)) = false := by decide) (hcd : (x == ("__classdict__" : Str)) = false := by decide) : DE X H0 O0 (.Name x pos) (dVar i) :=
  (pe_var hN hv hd hcd).imp fun σ H Q ⟨O, δ, Qd, w, ⟨d, e, q⟩, k⟩ => by
    obtain ⟨v, h, r⟩ := w.val e
    exact ⟨v, h, k d v H q (Same.refl _) r⟩
theorem dc {e : Expr} {v : V} {d : PyData} (h : PE X e (tC v)) (r : ∀ H O, Dt X.K H O v d) : DE X H0 O0 e (dC d) := h.imp fun σ H Q ⟨O, δ, Qd, w, q, k⟩ => k d v H q (Same.refl _) (r H O)
theorem de_int {i j pos} : DE X H0 O0 (.Constant (.int i) j pos) (dC (.int i)) := dc pe_int fun _ _ => .int i
theorem de_bl {b j pos} : DE X H0 O0 (.Constant (.bool b) j pos) (dC (.bool b)) := dc pe_bl fun _ _ => .bl b
theorem de_str {x j pos} : DE X H0 O0 (.Constant (.str x) j pos) (dC (.str x)) := dc pe_str fun _ _ => .str x
/-! argument lists, displays -/
def dNil : DA := fun _ Q => Q []
def dCons (t : DT) (u : DA) : DA := fun δ Q => t δ fun d => u δ fun ds => Q (d :: ds)
theorem da_nil : PA X [] (upA X.K H0 O0 dNil) := pa_nil.imp fun σ H Q ⟨O, δ, Qd, w, q, k⟩ => k [] [] H q (Same.refl _) .nil
theorem da_cons {e : Expr} {es : List Expr} {t : DT} {u : DA} (h : DE X H0 O0 e t) (hs : PA X es (upA X.K H0 O0 u)) (he : starEach (e :: es) X.env = (false, eval e X.env) :: starEach es X.env := by rfl) : PA X (e :: es) (upA X.K H0 O0 (dCons t u)) :=
  (pa_cons h hs he).imp fun σ H Q ⟨O, δ, Qd, w, q, k⟩ => ⟨O, δ, _, w, q, fun d v H1 q1 s1 r1 => ⟨O, δ, _, w.mono s1, q1, fun ds vs H2 q2 s2 r2 => k (d :: ds) (v :: vs) H2 q2 (s1.trans s2) (.cons (r1.mono s2) r2)⟩⟩
def dTup (t : DA) : DT := fun δ Q => t δ fun ds => ds.length ≤ sizeLine ∧ Q (.tuple ds)
def dLst (t : DA) : DT := fun δ Q => t δ fun ds => ds.length ≤ sizeLine ∧ Q (.list ds)
theorem nex {H : Hp} {O : Ex} {σ : St} {δ : Dl} {H1 : Hp} {p : Addr} {K : PySem.W.Frag} (w : Wd K H0 O0 H O σ δ) (s : Same H H1) (hp : H1 p = none) : ¬ O p := fun z => (w.mono s).trk p z hp
theorem de_tup {es : List Expr} {t : DA} {x1} {pos : Pos} (h : PA X es (upA X.K H0 O0 t)) : DE X H0 O0 (.Tuple es x1 pos) (dTup t) :=
  (pe_tup h).imp fun σ H Q ⟨O, δ, Qd, w, q, k⟩ => ⟨O, δ, _, w, q, fun ds vs H1 q1 s1 r1 => ⟨by rw [r1.length]; exact q1.1, fun p hp => k _ _ _ q1.2 (s1.trans (Same.new hp)) (.tup (.inl upd_same) (nex w s1 hp) (r1.mono (Same.new hp)))⟩⟩
end
end L2

namespace L2
open PySem PySem.Spec PyProof.Rows PySem.W
theorem Step.refl (H : Hp) (O : Ex) : Step H H O O := ⟨fun _ _ e _ => e, fun _ _ n => n⟩
theorem Step.trans {H H1 H2 : Hp} {O O1 O2 : Ex} (a : Step H H1 O O1) (b : Step H1 H2 O1 O2) : Step H H2 O O2 := by
  refine ⟨fun c o e n => ?_, fun c e n => ?_⟩
  · have h1 := a.keep c o e n
    exact b.keep c o h1 (a.out c (by rw [e]; exact fun z => nomatch z) n)
  · cases q : H c with
    | none => exact absurd q e
    | some o => exact b.out c (by rw [a.keep c o q n]; exact fun z => nomatch z) (a.out c e n)
section
variable {X : Cx} {H0 : Hp} {O0 : Ex}
/-! ### two-place operations -/
def OpD (K : PySem.W.Frag) (r : R2) (rd : PyData → PyData → (PyData → Prop) → Prop) : Prop :=
  ∀ (H : Hp) (O : Ex) (x y : V) (dx dy : PyData) (Qd : PyData → Prop) (R : VK), (∀ l, O l → H l ≠ none) → Sh K H O x dx → Sh K H O y dy → rd dx dy Qd → (∀ d v H', Qd d → Same H H' → Dt K H' O v d → R v H') → r x y H R
def dOp (rd : PyData → PyData → (PyData → Prop) → Prop) (ta tb : DT) : DT := fun δ Q => ta δ fun x => tb δ fun y => rd x y Q
theorem opd {K : PySem.W.Frag} {r : R2} {rd : PyData → PyData → (PyData → Prop) → Prop} {ta tb : DT} (hd : OpD K r rd) : ∀ σ H Q, up K H0 O0 (dOp rd ta tb) σ H Q → tOp r (upS K H0 O0 ta) (upS K H0 O0 tb) σ H Q :=
  fun σ H Q ⟨O, δ, Qd, w, q, k⟩ => ⟨O, δ, _, w, q, fun x v H1 q1 s1 r1 => ⟨O, δ, _, w.mono s1, q1, fun y u H2 q2 s2 r2 => hd H2 O v u x y Qd _ (w.mono (s1.trans s2)).trk (r1.mono s2) r2 q2 fun d z H3 qd s3 r3 => k d z H3 qd (s1.trans (s2.trans s3)) r3⟩⟩
theorem de_op {a b : Expr} {ta tb : DT} {op : Operator} {r : R2} {rd : PyData → PyData → (PyData → Prop) → Prop} {pos : Pos} (ho : OpR X (binaryOp op) r) (hd : OpD X.K r rd) (ha : DF X H0 O0 a ta) (hb : DF X H0 O0 b tb) : DE X H0 O0 (.BinOp a op b pos) (dOp rd ta tb) := (pe_op ho ha hb).imp (opd hd)
theorem de_cmp {a b : Expr} {ta tb : DT} {op : CmpOp} {r : R2} {rd : PyData → PyData → (PyData → Prop) → Prop} {pos : Pos} (ho : OpR X (compareOp op) r) (hd : OpD X.K r rd) (ha : DF X H0 O0 a ta) (hb : DF X H0 O0 b tb) (hm : behindInMarks op b = false) : DE X H0 O0 (.Compare a [op] [b] pos) (dOp rd ta tb) := (pe_cmpR ho ha hb hm).imp (opd hd)
def dTest (t : DT) : DB := fun δ Q => t δ fun d => ∃ b, d = .bool b ∧ Q b
theorem dt_cmp {a b : Expr} {ta tb : DT} {op : CmpOp} {r : R2} {rd : PyData → PyData → (PyData → Prop) → Prop} {pos : Pos} (ho : OpR X (compareOp op) r) (hd : OpD X.K r rd) (ha : DF X H0 O0 a ta) (hb : DF X H0 O0 b tb) (hm : behindInMarks op b = false) : PT X (.Compare a [op] [b] pos) (upT X.K H0 O0 (dTest (dOp rd ta tb))) :=
  (pt_cmpR ho ha hb hm).imp fun σ H Q ⟨O, δ, Qd, w, q, k⟩ => opd hd σ H _ ⟨O, δ, _, w, q, fun d v H' ⟨b, e, qb⟩ s r => by subst e; cases r; exact ⟨b, rfl, k b H' qb s⟩⟩
theorem dt_val {e : Expr} {t : DT} (h : DE X H0 O0 e t) (he : ∀ whole, isTrue e X.env whole = (do let v ← whole; standAt e.pos; holding [v] (truthy v)) := by intro _; rfl) : PT X e (upT X.K H0 O0 (dTest t)) :=
  (pt_val h he).imp fun σ H Q ⟨O, δ, Qd, w, q, k⟩ => ⟨O, δ, _, w, q, fun d v H' ⟨b, e, qb⟩ s r => by subst e; cases r; exact ⟨b, rfl, k b H' qb s⟩⟩
def dAnd (t u : DB) : DB := fun δ Q => t δ fun c => if c = true then u δ Q else Q false
def dOr (t u : DB) : DB := fun δ Q => t δ fun c => if c = true then Q true else u δ Q
def dNot (t : DB) : DB := fun δ Q => t δ fun c => Q (!c)
theorem dw_and1 {a : Expr} {t : DB} {pos : Pos} (h : PT X a (upT X.K H0 O0 t)) : PW X (.BoolOp .And [a] pos) (upT X.K H0 O0 t) := pw_and1 h
theorem dw_or1 {a : Expr} {t : DB} {pos : Pos} (h : PT X a (upT X.K H0 O0 t)) : PW X (.BoolOp .Or [a] pos) (upT X.K H0 O0 t) := pw_or1 h
theorem dw_and {a b : Expr} {rest : List Expr} {t u : DB} {pos : Pos} (h : PT X a (upT X.K H0 O0 t)) (hb : PW X (.BoolOp .And (b :: rest) pos) (upT X.K H0 O0 u)) : PW X (.BoolOp .And (a :: b :: rest) pos) (upT X.K H0 O0 (dAnd t u)) :=
  (pw_and h hb).imp fun σ H Q ⟨O, δ, Qd, w, q, k⟩ => ⟨O, δ, _, w, q, fun c H1 q1 s1 => by
    cases c with
    | true => exact ⟨O, δ, _, w.mono s1, q1, fun b H2 q2 s2 => k b H2 q2 (s1.trans s2)⟩
    | false => exact k false H1 q1 s1⟩
theorem dw_or {a b : Expr} {rest : List Expr} {t u : DB} {pos : Pos} (h : PT X a (upT X.K H0 O0 t)) (hb : PW X (.BoolOp .Or (b :: rest) pos) (upT X.K H0 O0 u)) : PW X (.BoolOp .Or (a :: b :: rest) pos) (upT X.K H0 O0 (dOr t u)) :=
  (pw_or h hb).imp fun σ H Q ⟨O, δ, Qd, w, q, k⟩ => ⟨O, δ, _, w, q, fun c H1 q1 s1 => by
    cases c with
    | false => exact ⟨O, δ, _, w.mono s1, q1, fun b H2 q2 s2 => k b H2 q2 (s1.trans s2)⟩
    | true => exact k true H1 q1 s1⟩
theorem dt_not {a : Expr} {t : DB} {pos : Pos} (h : PT X a (upT X.K H0 O0 t)) : PT X (.UnaryOp .Not a pos) (upT X.K H0 O0 (dNot t)) :=
  (pt_not h).imp fun σ H Q ⟨O, δ, Qd, w, q, k⟩ => ⟨O, δ, _, w, q, fun c H1 q1 s1 => k (!c) H1 q1 s1⟩
/-! and, or, not as values -/
def dAndV (t u : DT) : DT := fun δ Q => t δ fun d => ∃ c, d = .bool c ∧ if c = true then u δ Q else Q (.bool false)
def dOrV (t u : DT) : DT := fun δ Q => t δ fun d => ∃ c, d = .bool c ∧ if c = true then Q (.bool true) else u δ Q
def dNotV (t : DT) : DT := fun δ Q => t δ fun d => ∃ c, d = .bool c ∧ Q (.bool (!c))
theorem de_one {op} {a : Expr} {t : DT} {pos : Pos} (h : DE X H0 O0 a t) : DE X H0 O0 (.BoolOp op [a] pos) t := pe_one h
theorem de_and {a b : Expr} {rest : List Expr} {t u : DT} {pos : Pos} (h : DE X H0 O0 a t) (hb : DE X H0 O0 (.BoolOp .And (b :: rest) pos) u) : DE X H0 O0 (.BoolOp .And (a :: b :: rest) pos) (dAndV t u) :=
  (pe_and h hb).imp fun σ H Q ⟨O, δ, Qd, w, q, k⟩ => ⟨O, δ, _, w, q, fun d v H1 ⟨c, e, q1⟩ s1 r => by
    subst e; cases r
    refine ⟨c, rfl, ?_⟩
    cases c with
    | true => exact ⟨O, δ, _, w.mono s1, q1, fun d v H2 q2 s2 r2 => k d v H2 q2 (s1.trans s2) r2⟩
    | false => exact k _ _ H1 q1 s1 (.bl false)⟩
theorem de_not {a : Expr} {t : DT} {pos : Pos} (h : DE X H0 O0 a t) : DE X H0 O0 (.UnaryOp .Not a pos) (dNotV t) :=
  (pe_not h).imp fun σ H Q ⟨O, δ, Qd, w, q, k⟩ => ⟨O, δ, _, w, q, fun d v H1 ⟨c, e, q1⟩ s1 r => by
    subst e; cases r
    exact ⟨c, rfl, k _ _ H1 q1 s1 (.bl _)⟩⟩
def dIf (c : DB) (t u : DT) : DT := fun δ Q => c δ fun b => if b = true then t δ Q else u δ Q
theorem de_ifExp {c a b : Expr} {tc : DB} {t u : DT} {pos : Pos} (hc : PT X c (upT X.K H0 O0 tc)) (ha : DE X H0 O0 a t) (hb : DE X H0 O0 b u) : DE X H0 O0 (.IfExp c a b pos) (dIf tc t u) :=
  (pe_ifExp hc ha hb).imp fun σ H Q ⟨O, δ, Qd, w, q, k⟩ => ⟨O, δ, _, w, q, fun c H1 q1 s1 => by
    cases c with
    | true => exact ⟨O, δ, _, w.mono s1, q1, fun d v H2 q2 s2 r2 => k d v H2 q2 (s1.trans s2) r2⟩
    | false => exact ⟨O, δ, _, w.mono s1, q1, fun d v H2 q2 s2 r2 => k d v H2 q2 (s1.trans s2) r2⟩⟩
/-- a chain of two comparisons -/
def dChain (rd rd' : PyData → PyData → (PyData → Prop) → Prop) (ta tb tc : DT) : DT := fun δ Q => ta δ fun x => tb δ fun y => rd x y fun z => ∃ k, z = .bool k ∧ if k = true then tc δ fun u => rd' y u Q else Q (.bool false)
theorem chd {K : PySem.W.Frag} {r r' : R2} {rd rd' : PyData → PyData → (PyData → Prop) → Prop} {ta tb tc : DT} (hd : OpD K r rd) (hd' : OpD K r' rd') : ∀ σ H Q, up K H0 O0 (dChain rd rd' ta tb tc) σ H Q → tChain r r' (upS K H0 O0 ta) (upS K H0 O0 tb) (upS K H0 O0 tc) σ H Q :=
  fun σ H Q ⟨O, δ, Qd, w, q, k⟩ => ⟨O, δ, _, w, q, fun x v H1 q1 s1 r1 => ⟨O, δ, _, w.mono s1, q1, fun y u H2 q2 s2 r2 => hd H2 O v u x y _ _ (w.mono (s1.trans s2)).trk (r1.mono s2) r2 q2 fun d z H3 ⟨c, e, q3⟩ s3 r3 => by
    subst e; cases r3
    refine ⟨c, rfl, ?_⟩
    cases c with
    | true => exact ⟨O, δ, _, w.mono (s1.trans (s2.trans s3)), q3, fun u' p H4 q4 s4 r4 => hd' H4 O u p y u' Qd _ (w.mono (s1.trans (s2.trans (s3.trans s4)))).trk (r2.mono (s3.trans s4)) r4 q4 fun d z H5 qd s5 r5 => k d z H5 qd (s1.trans (s2.trans (s3.trans (s4.trans s5)))) r5⟩
    | false => exact k _ _ H3 q3 (s1.trans (s2.trans s3)) (.bl false)⟩⟩
theorem de_chain {a b c : Expr} {ta tb tc : DT} {op op' : CmpOp} {r r' : R2} {rd rd' : PyData → PyData → (PyData → Prop) → Prop} {pos : Pos} (ho : OpR X (compareOp op) r) (ho' : OpR X (compareOp op') r') (hd : OpD X.K r rd) (hd' : OpD X.K r' rd') (ha : DF X H0 O0 a ta) (hb : DF X H0 O0 b tb) (hc : DF X H0 O0 c tc)
    (hm : lastMarks [op, op'] [b, c] = false := by with_unfolding_all rfl) : DE X H0 O0 (.Compare a [op, op'] [b, c] pos) (dChain rd rd' ta tb tc) := (pe_chain ho ho' ha hb hc hm).imp (chd hd hd')
theorem dt_chain {a b c : Expr} {ta tb tc : DT} {op op' : CmpOp} {r r' : R2} {rd rd' : PyData → PyData → (PyData → Prop) → Prop} {pos : Pos} (ho : OpR X (compareOp op) r) (ho' : OpR X (compareOp op') r') (hd : OpD X.K r rd) (hd' : OpD X.K r' rd') (ha : DF X H0 O0 a ta) (hb : DF X H0 O0 b tb) (hc : DF X H0 O0 c tc)
    (hm : lastMarks [op, op'] [b, c] = false := by with_unfolding_all rfl) : PT X (.Compare a [op, op'] [b, c] pos) (upT X.K H0 O0 (dTest (dChain rd rd' ta tb tc))) :=
  (pt_chain ho ho' ha hb hc hm).imp fun σ H Q ⟨O, δ, Qd, w, q, k⟩ => chd hd hd' σ H _ ⟨O, δ, _, w, q, fun d v H' ⟨b, e, qb⟩ s r => by subst e; cases r; exact ⟨b, rfl, k b H' qb s⟩⟩
/-! ### calls -/
def spD (K : PySem.W.Frag) (F : List PyData → (PyData → Prop) → Prop) : Sp := fun vs H Q _ => ∃ O ds Qd, (∀ l, O l → H l ≠ none) ∧ Dts K H O vs ds ∧ F ds Qd ∧ ∀ d v H', Qd d → Same H H' → Dt K H' O v d → Q v H'
def dCall (F : List PyData → (PyData → Prop) → Prop) (t : DA) : DT := fun δ Q => t δ fun ds => F ds Q
theorem dcall {K : PySem.W.Frag} {F : List PyData → (PyData → Prop) → Prop} {t : DA} {E : XK} : ∀ σ H Q, up K H0 O0 (dCall F t) σ H Q → tCall (spD K F) [] E (upA K H0 O0 t) σ H Q :=
  fun σ H Q ⟨O, δ, Qd, w, q, k⟩ => ⟨O, δ, _, w, q, fun ds vs H1 q1 s1 r1 => ⟨O, ds, Qd, (w.mono s1).trk, by rw [List.append_nil]; exact r1, q1, fun d v H2 q2 s2 r2 => k d v H2 q2 (s1.trans s2) r2⟩⟩
/-- arguments that may be lists under way -/
inductive Shs (K : PySem.W.Frag) (H : Hp) (O : Ex) : List V → List PyData → Prop
  | nil : Shs K H O [] []
  | cons {v : V} {d : PyData} {vs : List V} {ds : List PyData} : Sh K H O v d → Shs K H O vs ds → Shs K H O (v :: vs) (d :: ds)
theorem Shs.mono {K : PySem.W.Frag} {H H' : Hp} {O : Ex} (s : Same H H') : ∀ {vs : List V} {ds : List PyData}, Shs K H O vs ds → Shs K H' O vs ds
  | _, _, .nil => .nil
  | _, _, .cons h r => .cons (h.mono s) (Shs.mono s r)
theorem Shs.all {K : PySem.W.Frag} {H : Hp} {O : Ex} : ∀ {vs : List V} {ds : List PyData}, Shs K H O vs ds → Dts K H (fun _ => False) vs ds
  | _, _, .nil => .nil
  | _, _, .cons h r => .cons h.all r.all
def upB (K : PySem.W.Frag) (H0 : Hp) (O0 : Ex) (t : DA) : TA := fun σ H R => ∃ O δ Qd, Wd K H0 O0 H O σ δ ∧ t δ Qd ∧ ∀ ds vs H', Qd ds → Same H H' → Shs K H' O vs ds → R vs H'
theorem db_nil : PA X [] (upB X.K H0 O0 dNil) := pa_nil.imp fun σ H Q ⟨O, δ, Qd, w, q, k⟩ => k [] [] H q (Same.refl _) .nil
theorem db_cons {e : Expr} {es : List Expr} {t : DT} {u : DA} (h : DF X H0 O0 e t) (hs : PA X es (upB X.K H0 O0 u)) (he : starEach (e :: es) X.env = (false, eval e X.env) :: starEach es X.env := by rfl) : PA X (e :: es) (upB X.K H0 O0 (dCons t u)) :=
  (pa_cons h hs he).imp fun σ H Q ⟨O, δ, Qd, w, q, k⟩ => ⟨O, δ, _, w, q, fun d v H1 q1 s1 r1 => ⟨O, δ, _, w.mono s1, q1, fun ds vs H2 q2 s2 r2 => k (d :: ds) (v :: vs) H2 q2 (s1.trans s2) (.cons (r1.mono s2) r2)⟩⟩
def dCallS (F : List PyData → (PyData → Prop) → Prop) (t : DA) : DT := fun δ Q => t δ fun ds => F ds fun d => scalD d = true ∧ Q d
def CallD (K : PySem.W.Frag) (r : List V → Hp → VK → Prop) (rd : List PyData → (PyData → Prop) → Prop) : Prop :=
  ∀ (H : Hp) (O : Ex) (xs : List V) (ds : List PyData) (Qd : PyData → Prop) (R : VK), (∀ l, O l → H l ≠ none) → Shs K H O xs ds → rd ds Qd → (∀ d v H', Qd d → Same H H' → Dt K H' O v d → R v H') → r xs H R
theorem dcb {K : PySem.W.Frag} {r : List V → Hp → VK → Prop} {rd : List PyData → (PyData → Prop) → Prop} {t : DA} (hd : CallD K r rd) : ∀ σ H Q, up K H0 O0 (dCall rd t) σ H Q → tCB r (upB K H0 O0 t) σ H Q :=
  fun σ H Q ⟨O, δ, Qd, w, q, k⟩ => ⟨O, δ, _, w, q, fun ds vs H1 q1 s1 r1 => hd H1 O vs ds Qd _ (w.mono s1).trk r1 q1 fun d v H2 q2 s2 r2 => k d v H2 q2 (s1.trans s2) r2⟩
/-! ### statements -/
def dSeq (t u : DS) : DS := fun E δ => t { E with nx := u E } δ
theorem dss_cons {st : Stmt} {rest : List Stmt} {t u : DS} (h : PS X st (upD X.K H0 O0 t)) (h2 : PSs X rest (upD X.K H0 O0 u)) : PSs X (st :: rest) (upD X.K H0 O0 (dSeq t u)) :=
  (pss_cons h h2).imp fun D σ H ⟨O, δ, E, w, q, k1, k2, k3, k4⟩ => ⟨O, δ, _, w, q, fun O' δ' σ' H' z w' S => ⟨O', δ', E, w', z, fun O2 δ2 σ2 H2 z2 w2 S2 => k1 O2 δ2 σ2 H2 z2 w2 (S.trans S2), k2, fun O2 δ2 σ2 H2 z2 w2 S2 => k3 O2 δ2 σ2 H2 z2 w2 (S.trans S2), fun O2 δ2 σ2 H2 z2 w2 S2 => k4 O2 δ2 σ2 H2 z2 w2 (S.trans S2)⟩, k2, k3, k4⟩
def dNext : DS := fun E δ => E.nx δ
theorem dss_nil : PSs X [] (upD X.K H0 O0 dNext) := pss_nil.imp fun D σ H ⟨O, δ, E, w, q, k1, k2, k3, k4⟩ => k1 O δ σ H q w (Step.refl _ _)
theorem dss_one {st : Stmt} {t : DS} (h : PS X st (upD X.K H0 O0 t)) : PSs X [st] (upD X.K H0 O0 t) := pss_one h
def dSet (i : Nat) (t : DT) : DS := fun E δ => t δ fun d => E.nx (δ.set i (some (.v d)))
theorem ds_set {i : Nat} {x : Str} {e : Expr} {t : DT} {pos pos' : Pos} (hN : X.N.Nodup) (hi : X.N[i]? = some x) (hx : Loc X.env.scope x) (he : DE X H0 O0 e t) (hs : swapsWith e (some (.Name x pos')) pos.line X.env = pure false := by rfl) (hf : X.fn x = true ∨ X.env.scope.names.lookup x = some .local := by first | exact .inl rfl | exact .inr rfl | assumption) :
    PS X (.Assign [.Name x pos'] e pos) (upD X.K H0 O0 (dSet i t)) :=
  (ps_set hN hi hx he hs hf).imp fun D σ H ⟨O, δ, E, w, q, k1, k2, k3, k4⟩ => ⟨O, δ, _, w, q, fun d v H1 q1 s1 r1 => k1 O _ _ H1 q1 ((w.mono s1).set r1) (.same s1)⟩
def dRet (t : DT) : DS := fun E δ => t δ E.rt
theorem back {K : PySem.W.Frag} {H : Hp} {O : Ex} {σ : St} {δ : Dl} (w : Wd K H0 O0 H O σ δ) : Step H H O O0 := ⟨fun _ _ e _ => e, fun b _ n z => n (w.sub b z)⟩
theorem ds_ret {e : Expr} {t : DT} {pos : Pos} (he : DE X H0 O0 e t) : PS X (.Return (some e) pos) (upD X.K H0 O0 (dRet t)) :=
  (ps_ret he).imp fun D σ H ⟨O, δ, E, w, q, k1, k2, k3, k4⟩ => ⟨O, δ, _, w, q, fun d v H1 q1 s1 r1 => k2 d v H1 q1 (w.same.trans s1) (r1.step (back (w.mono s1)))⟩
def dRetO (i : Nat) : DS := fun E δ => ∃ ds, δ[i]? = some (some (.o ds)) ∧ E.rt (.list ds)
def dIfS (c : DB) (t u : DS) : DS := fun E δ => c δ fun b => if b = true then t E δ else u E δ
theorem ds_if {c : Expr} {a b : List Stmt} {tc : DB} {t u : DS} {pos : Pos} (hc : PT X c (upT X.K H0 O0 tc)) (ha : PSs X a (upD X.K H0 O0 t)) (hb : PSs X b (upD X.K H0 O0 u)) : PS X (.If c a b pos) (upD X.K H0 O0 (dIfS tc t u)) :=
  (ps_if hc ha hb).imp fun D σ H ⟨O, δ, E, w, q, k1, k2, k3, k4⟩ => ⟨O, δ, _, w, q, fun c H1 q1 s1 => by
    have g : ∀ {t' : DS}, t' E δ → upD X.K H0 O0 t' D σ H1 := fun z => ⟨O, δ, E, w.mono s1, z, fun O2 δ2 σ2 H2 z2 w2 S2 => k1 O2 δ2 σ2 H2 z2 w2 (Step.trans (.same s1) S2), k2, fun O2 δ2 σ2 H2 z2 w2 S2 => k3 O2 δ2 σ2 H2 z2 w2 (Step.trans (.same s1) S2), fun O2 δ2 σ2 H2 z2 w2 S2 => k4 O2 δ2 σ2 H2 z2 w2 (Step.trans (.same s1) S2)⟩
    cases c with
    | true => exact g q1
    | false => exact g q1⟩
def dDrop (t : DT) : DS := fun E δ => t δ fun _ => E.nx δ
/-! lists under way -/
def upF (K : PySem.W.Frag) (H0 : Hp) (O0 : Ex) (t : DA) : TE := fun σ H R => ∃ O δ Qd, Wd K H0 O0 H O σ δ ∧ t δ Qd ∧ ∀ ds vs p H', Qd ds → Same H H' → H' p = none → Dts K H' O vs ds → R (.ref p) (upd H' p (.lst vs))
abbrev FE (X : Cx) (H0 : Hp) (O0 : Ex) (e : Expr) (t : DA) : Prop := PE X e (upF X.K H0 O0 t)
def dL (t : DA) : DT := fun δ Q => t δ fun ds => Q (.list ds)
theorem fe {e : Expr} {t : DA} (h : FE X H0 O0 e t) : DE X H0 O0 e (dL t) :=
  h.imp fun σ H Q ⟨O, δ, Qd, w, q, k⟩ => ⟨O, δ, _, w, q, fun ds vs p H1 q1 s1 hp r1 => k _ _ _ q1 (s1.trans (Same.new hp)) (.lst (.inl upd_same) (nex w s1 hp) (r1.mono (Same.new hp)))⟩
def dFin (t : DA) : DA := fun δ Q => t δ fun ds => ds.length ≤ sizeLine ∧ Q ds
theorem fe_lst {es : List Expr} {t : DA} {pos : Pos} (h : PA X es (upA X.K H0 O0 t)) : FE X H0 O0 (.List es pos) (dFin t) :=
  (pe_lst h).imp fun σ H Q ⟨O, δ, Qd, w, q, k⟩ => ⟨O, δ, _, w, q, fun ds vs H1 q1 s1 r1 => ⟨by rw [r1.length]; exact q1.1, fun p hp => k _ _ _ _ q1.2 s1 hp r1⟩⟩
def dNew (i : Nat) (t : DA) : DS := fun E δ => t δ fun ds => E.nx (δ.set i (some (.o ds)))
def dApp (i : Nat) (t : DT) : DS := fun E δ => ∃ ds, δ[i]? = some (some (.o ds)) ∧ t δ fun d => ds.length < sizeLine ∧ E.nx (δ.set i (some (.o (ds ++ [d]))))
end
end L2

namespace L2
open PySem PySem.Spec PyProof.Rows PySem.W
structure SrcP (J : It) (P : Hp → Prop) (vs : List V) : Prop where
  go : ∀ i H', P H' → i < vs.length → J.go i H'
  yl : ∀ i H' x H'', P H' → i < vs.length → J.yld i H' x H'' → H'' = H' ∧ vs[i]? = some x
  st : ∀ i H', P H' → vs.length ≤ i → J.stop i H'
def KeepA (H1 : Hp) (a : Addr) (H' : Hp) : Prop := ∀ o, H1 a = some o → H' a = some o
theorem SqL.keep {K : PySem.W.Frag} {H H' : Hp} {a : Addr} {xs : List V} (s : KeepA H a H') (h : SqL K H a xs) : SqL K H' a xs := by
  rcases h with (h | ⟨o, h⟩) | h
  · exact .inl (.inl (s _ h))
  · exact .inl (.inr ⟨o, s _ h⟩)
  · exact .inr h
theorem SqT.keep {K : PySem.W.Frag} {H H' : Hp} {a : Addr} {xs : List V} (s : KeepA H a H') (h : SqT K H a xs) : SqT K H' a xs := by
  rcases h with (h | ⟨o, h⟩) | h
  · exact .inl (.inl (s _ h))
  · exact .inl (.inr ⟨o, s _ h⟩)
  · exact .inr h
theorem SrcP.list {K : PySem.W.Frag} {H : Hp} {a : Addr} {vs : List V} (h : SqL K H a vs) : SrcP (Itl K a) (KeepA H a) vs :=
  ⟨fun i H' s hi => ⟨vs, vs[i], h.keep s, by simp [hi]⟩, fun i H' x H'' s _ y => ⟨y.1, y.2 vs (h.keep s)⟩, fun i H' s hi => ⟨vs, h.keep s, hi⟩⟩
theorem SrcP.tup {K : PySem.W.Frag} {H : Hp} {a : Addr} {vs : List V} (h : SqT K H a vs) : SrcP (Itt K a) (KeepA H a) vs :=
  ⟨fun i H' s hi => ⟨vs, vs[i], h.keep s, by simp [hi]⟩, fun i H' x H'' s _ y => ⟨y.1, y.2 vs (h.keep s)⟩, fun i H' s hi => ⟨vs, h.keep s, hi⟩⟩
def rangeD (lo : Int) (n : Nat) : List PyData := (List.range n).map fun (k : Nat) => .int (lo + k)
theorem SrcP.rng {lo : Int} {n : Nat} : SrcP (Itr lo n) (fun _ => True) ((List.range n).map fun (k : Nat) => V.int (lo + k)) := by
  refine ⟨fun i H' s hi => (by simpa using hi : i < n), fun i H' x H'' s hi y => ⟨y.1, ?_⟩, fun i H' s hi => (by simpa using hi : n ≤ i)⟩
  obtain ⟨_, rfl⟩ := y
  have hn : i < n := by simpa using hi
  simp [hn]
theorem Dts.rng {K : PySem.W.Frag} {H : Hp} {O : Ex} {lo : Int} : ∀ (l : List Nat), Dts K H O (l.map fun (k : Nat) => V.int (lo + k)) (l.map fun (k : Nat) => PyData.int (lo + k))
  | [] => .nil
  | n :: r => .cons (.int _) (Dts.rng r)
/-! targets -/
abbrev DG := PyData → Dl → (Dl → Prop) → Prop
def GD (K : PySem.W.Frag) (g : TG) (dg : DG) : Prop := ∀ (H0 : Hp) (O0 : Ex) (H : Hp) (O : Ex) (σ : St) (δ : Dl) (v : V) (x : PyData) (R : St → Hp → Prop) (Qd : Dl → Prop), Wd K H0 O0 H O σ δ → Dt K H O v x → dg x δ Qd → (∀ δ' σ', Qd δ' → Wd K H0 O0 H O σ' δ' → R σ' H) → g v σ H R
def dgName (i : Nat) : DG := fun x δ Q => Q (δ.set i (some (.v x)))
theorem gd_name {K : PySem.W.Frag} {i : Nat} : GD K (gName i) (dgName i) := fun H0 O0 H O σ δ v x R Qd w r q k => k _ _ q (w.set r)
abbrev DGs := List PyData → Dl → (Dl → Prop) → Prop
def GDs (K : PySem.W.Frag) (g : TGs) (dg : DGs) : Prop := ∀ (H0 : Hp) (O0 : Ex) (H : Hp) (O : Ex) (σ : St) (δ : Dl) (vs : List V) (xs : List PyData) (R : St → Hp → Prop) (Qd : Dl → Prop), Wd K H0 O0 H O σ δ → Dts K H O vs xs → dg xs δ Qd → (∀ δ' σ', Qd δ' → Wd K H0 O0 H O σ' δ' → R σ' H) → g vs σ H R
def dgNil : DGs := fun xs δ Q => xs = [] ∧ Q δ
def dgCons (t : DG) (u : DGs) : DGs := fun xs δ Q => ∃ x r, xs = x :: r ∧ t x δ fun δ' => u r δ' Q
theorem gds_nil {K : PySem.W.Frag} : GDs K gNil dgNil := fun H0 O0 H O σ δ vs xs R Qd w r ⟨e, q⟩ k => by subst e; cases r; exact ⟨rfl, k _ _ q w⟩
theorem gds_cons {K : PySem.W.Frag} {t : TG} {u : TGs} {dt : DG} {du : DGs} (h : GD K t dt) (h2 : GDs K u du) : GDs K (gCons t u) (dgCons dt du) := fun H0 O0 H O σ δ vs xs R Qd w r ⟨x, rr, e, q⟩ k => by
  subst e
  cases r with
  | cons r1 r2 => exact ⟨_, _, rfl, h H0 O0 H O σ δ _ _ _ _ w r1 q fun δ' σ' q' w' => h2 H0 O0 H O σ' δ' _ _ R Qd w' r2 q' k⟩
def dgTup (n : Nat) (t : DGs) : DG := fun x δ Q => ∃ xs, x = .tuple xs ∧ xs.length = n ∧ t xs δ Q
theorem gd_tup {K : PySem.W.Frag} {n : Nat} {t : TGs} {dt : DGs} (h : GDs K t dt) : GD K (gTup K n t) (dgTup n dt) := fun H0 O0 H O σ δ v x R Qd w r ⟨xs, e, hl, q⟩ k => by
  subst e
  obtain ⟨a, vs, rfl, hs, rr⟩ := (Sh.dt r).tup
  exact ⟨a, vs, rfl, hs, by rw [rr.length]; exact hl, h H0 O0 H O σ δ _ _ R Qd w rr q k⟩
section
variable {X : Cx} {H0 : Hp} {O0 : Ex}
def dAsg (t : DT) (g : DG) : DS := fun E δ => t δ fun d => g d δ E.nx
theorem ds_asg {tg e : Expr} {t : DT} {g : TG} {dg : DG} {pos : Pos} (he : DE X H0 O0 e t) (hg : PG X tg g) (gd : GD X.K g dg) (hs : swapsWithSole [tg] e pos.line X.env = pure false := by rfl) (hw : swappedStores [tg] e X.env = pure none := by rfl)
    (h1 : (assignEach [tg] X.env).map (·.2) = [assign tg X.env] := by rfl) : PS X (.Assign [tg] e pos) (upD X.K H0 O0 (dAsg t dg)) :=
  (ps_asg he hg hs hw h1).imp fun D σ H ⟨O, δ, E, w, q, k1, k2, k3, k4⟩ => ⟨O, δ, _, w, q, fun d v H1 q1 s1 r1 => gd H0 O0 H1 O σ δ v d _ _ (w.mono s1) r1 q1 fun δ' σ' q' w' => k1 O δ' σ' H1 q' w' (.same s1)⟩
def dPar (i j : Nat) (t : DA) : DS := fun E δ => t δ fun ds => ∃ x y, ds = [x, y] ∧ E.nx ((δ.set i (some (.v x))).set j (some (.v y)))
theorem ds_par {i j : Nat} {x y : Str} {a b : Expr} {ta : DA} {px py pt pos : Pos} {kt k2 pt2} (hc : X.calm = true) (hN : X.N.Nodup) (hi : X.N[i]? = some x) (hj : X.N[j]? = some y) (hij : i ≠ j)
    (hx : X.env.scope.names.lookup x = some .local) (hy : X.env.scope.names.lookup y = some .local) (ha : PA X [a, b] (upA X.K H0 O0 ta))
    (hw : swappedStores [.Tuple [.Name x px, .Name y py] kt pt] (.Tuple [a, b] k2 pt2) X.env = pure (some [x, y]))
    (hs : swapsWithSole [.Tuple [.Name x px, .Name y py] kt pt] (.Tuple [a, b] k2 pt2) pos.line X.env = pure false := by rfl) :
    PS X (.Assign [.Tuple [.Name x px, .Name y py] kt pt] (.Tuple [a, b] k2 pt2) pos) (upD X.K H0 O0 (dPar i j ta)) :=
  (ps_par hc hN hi hj hij hx hy ha hw hs).imp fun D σ H ⟨O, δ, E, w, q, k1, k2, k3, k4⟩ => ⟨O, δ, _, w, q, fun ds vs H1 ⟨d1, d2, e, q1⟩ s1 r1 => by
    subst e
    cases r1 with
    | cons r1 r2 =>
      cases r2 with
      | cons r2 r3 =>
        cases r3
        exact ⟨_, _, rfl, k1 _ _ _ _ q1 (((w.mono s1).set r1).set r2) (.same s1)⟩⟩
/-! ### for -/
def forW (g : DG) (tb : DS) (E : DEnds) : List PyData → Dl → Prop
  | [], δ => E.nx δ
  | x :: xs, δ => g x δ fun δ2 => tb { E with nx := forW g tb E xs, ct := forW g tb E xs, bk := E.nx } δ2
theorem for_step {K : PySem.W.Frag} {J : It} {P : Hp → Prop} {vs : List V} {xs : List PyData} {g : TG} {dg : DG} {tb : DS} {D : Ends} {E : DEnds} {σ : St} {H : Hp} {O : Ex} {δ : Dl} (S : SrcP J P vs) (gd : GD K g dg)
    (hP : ∀ H' O', Step H H' O O' → P H') (r : Dts K H O vs xs) (w : Wd K H0 O0 H O σ δ) (q : forW dg tb E xs δ)
    (k1 : ∀ O' δ' σ' H', E.nx δ' → Wd K H0 O0 H' O' σ' δ' → Step H H' O O' → D.nx σ' H') (k2 : ∀ d v H', E.rt d → Same H0 H' → Dt K H' O0 v d → D.rt v H') : FR J g (upD K H0 O0 tb) D σ H := by
  refine ⟨fun i m σ' H' => ∃ O' δ', m = vs.length - i ∧ i ≤ vs.length ∧ Wd K H0 O0 H' O' σ' δ' ∧ Step H H' O O' ∧ forW dg tb E (xs.drop i) δ', ⟨vs.length, O, δ, by simp, Nat.zero_le _, w, Step.refl _ _, by simpa using q⟩, ?_⟩
  rintro i m σ1 H1 ⟨O1, δ1, rfl, hi, w1, S1, q1⟩
  by_cases hlt : i < vs.length
  · refine .inr ⟨S.go i H1 (hP _ _ S1) hlt, fun σ' H' => ∃ O' δ', Wd K H0 O0 H' O' σ' δ' ∧ Step H H' O O' ∧ forW dg tb E (xs.drop (i + 1)) δ', fun σ' H' ⟨O', δ', w', S', q'⟩ => ⟨vs.length - (i + 1), by omega, O', δ', rfl, hlt, w', S', q'⟩, fun x H' y => ?_⟩
    have yy := S.yl i H1 x H' (hP _ _ S1) hlt y
    clear y
    obtain ⟨e, y⟩ := yy
    subst e
    obtain ⟨d, ed, rd⟩ := r.get y
    have hd : xs.drop i = d :: xs.drop (i + 1) := by
      rw [List.drop_eq_getElem_cons (h := (List.getElem?_eq_some_iff.mp ed).1), (List.getElem?_eq_some_iff.mp ed).2]
    rw [hd] at q1
    refine gd H0 O0 _ O1 σ1 δ1 x d _ _ w1 (rd.step S1) q1 fun δ2 σ2 q2 w2 => ?_
    refine ⟨O1, δ2, _, w2, q2, fun O' δ' σ' H' z w' S' => ⟨O', δ', w', S1.trans S', z⟩, k2, fun O' δ' σ' H' z w' S' => k1 O' δ' σ' H' z w' (S1.trans S'), fun O' δ' σ' H' z w' S' => ⟨O', δ', w', S1.trans S', z⟩⟩
  · have e : i = vs.length := by omega
    subst e
    refine .inl ⟨S.st _ H1 (hP _ _ S1) (Nat.le_refl _), ?_⟩
    rw [r.length, List.drop_of_length_le (Nat.le_refl _)] at q1
    exact k1 O1 δ1 σ1 H1 q1 w1 S1
def forI (g : DG) (tb : DS) (E : DEnds) (xs : List PyData) (δ : Dl) : Prop := ∃ I : Nat → Dl → Prop, I 0 δ ∧ (∀ i x δ, xs[i]? = some x → I i δ → g x δ fun δ2 => tb { E with nx := I (i + 1), ct := I (i + 1), bk := E.nx } δ2) ∧ ∀ δ, I xs.length δ → E.nx δ
theorem for_stepI {K : PySem.W.Frag} {J : It} {P : Hp → Prop} {vs : List V} {xs : List PyData} {g : TG} {dg : DG} {tb : DS} {D : Ends} {E : DEnds} {σ : St} {H : Hp} {O : Ex} {δ : Dl} (S : SrcP J P vs) (gd : GD K g dg)
    (hP : ∀ H' O', Step H H' O O' → P H') (r : Dts K H O vs xs) (w : Wd K H0 O0 H O σ δ) (q : forI dg tb E xs δ)
    (k1 : ∀ O' δ' σ' H', E.nx δ' → Wd K H0 O0 H' O' σ' δ' → Step H H' O O' → D.nx σ' H') (k2 : ∀ d v H', E.rt d → Same H0 H' → Dt K H' O0 v d → D.rt v H') : FR J g (upD K H0 O0 tb) D σ H := by
  obtain ⟨Iv, q0, qs, qe⟩ := q
  refine ⟨fun i m σ' H' => ∃ O' δ', m = vs.length - i ∧ i ≤ vs.length ∧ Wd K H0 O0 H' O' σ' δ' ∧ Step H H' O O' ∧ Iv i δ', ⟨vs.length, O, δ, by simp, Nat.zero_le _, w, Step.refl _ _, q0⟩, ?_⟩
  rintro i m σ1 H1 ⟨O1, δ1, rfl, hi, w1, S1, q1⟩
  by_cases hlt : i < vs.length
  · refine .inr ⟨S.go i H1 (hP _ _ S1) hlt, fun σ' H' => ∃ O' δ', Wd K H0 O0 H' O' σ' δ' ∧ Step H H' O O' ∧ Iv (i + 1) δ', fun σ' H' ⟨O', δ', w', S', q'⟩ => ⟨vs.length - (i + 1), by omega, O', δ', rfl, hlt, w', S', q'⟩, fun x H' y => ?_⟩
    have yy := S.yl i H1 x H' (hP _ _ S1) hlt y
    clear y
    obtain ⟨e, y⟩ := yy
    subst e
    obtain ⟨d, ed, rd⟩ := r.get y
    refine gd H0 O0 _ O1 σ1 δ1 x d _ _ w1 (rd.step S1) (qs i d δ1 ed q1) fun δ2 σ2 q2 w2 => ?_
    refine ⟨O1, δ2, _, w2, q2, fun O' δ' σ' H' z w' S' => ⟨O', δ', w', S1.trans S', z⟩, k2, fun O' δ' σ' H' z w' S' => k1 O' δ' σ' H' z w' (S1.trans S'), fun O' δ' σ' H' z w' S' => ⟨O', δ', w', S1.trans S', z⟩⟩
  · have e : i = vs.length := by omega
    subst e
    refine .inl ⟨S.st _ H1 (hP _ _ S1) (Nat.le_refl _), ?_⟩
    rw [r.length] at q1
    exact k1 O1 δ1 σ1 H1 (qe δ1 q1) w1 S1
def dFor (t : DT) (g : DG) (tb : DS) : DS := fun E δ => t δ fun d => ∃ xs, d = .list xs ∧ forW g tb E xs δ
def dForT (t : DT) (g : DG) (tb : DS) : DS := fun E δ => t δ fun d => ∃ xs, d = .tuple xs ∧ forW g tb E xs δ
def dForR (t : DA) (g : DG) (tb : DS) : DS := fun E δ => t δ fun ds => ∃ j : Int, ds = [.int j] ∧ -(2 ^ 62) ≤ j ∧ j < 2 ^ 62 ∧ forW g tb E (rangeD 0 j.toNat) δ
def dForR2 (t : DA) (g : DG) (tb : DS) : DS := fun E δ => t δ fun ds => ∃ i j : Int, ds = [.int i, .int j] ∧ (-(2 ^ 62) ≤ i ∧ i < 2 ^ 62 ∧ -(2 ^ 62) ≤ j ∧ j < 2 ^ 62) ∧ forW g tb E (rangeD i (j - i).toNat) δ
section
variable {tg iter : Expr} {body : List Stmt} {t : DT} {ta : DA} {g : TG} {dg : DG} {tb : DS} {pos p ps : Pos}
theorem ds_for (hp : PassesOwn (model X.prog X.w) X.A X.env X.xe) (hc : X.calm = true) (hi : DE X H0 O0 iter t) (hg : PG X tg g) (gd : GD X.K g dg) (hb : PSs X body (upD X.K H0 O0 tb)) (hs : ∀ x, foldedSetIterable iter X.env x = pure x := by intro _; rfl) :
    PS X (.For tg iter body [] pos) (upD X.K H0 O0 (dFor t dg tb)) :=
  (ps_for hp hc (pi_list hi) hg hb hs).imp fun D σ H ⟨O, δ, E, w, q, k1, k2, k3, k4⟩ => ⟨O, δ, _, w, q, fun d v H1 ⟨xs, e, q1⟩ s1 r1 => by
    subst e
    cases r1 with
    | lst h n r =>
      refine ⟨_, rfl, ⟨_, .inl h⟩, for_step (SrcP.list (.inl h)) gd (fun H' O' S o e => S.keep _ _ e n) r (w.mono s1) q1 (fun O' δ' σ' H' z w' S => k1 O' δ' σ' H' z w' (Step.trans (.same s1) S)) k2⟩⟩
end
def dForI (t : DT) (g : DG) (tb : DS) : DS := fun E δ => t δ fun d => ∃ xs, d = .list xs ∧ forI g tb E xs δ
def dForTI (t : DT) (g : DG) (tb : DS) : DS := fun E δ => t δ fun d => ∃ xs, d = .tuple xs ∧ forI g tb E xs δ
def dForRI (t : DA) (g : DG) (tb : DS) : DS := fun E δ => t δ fun ds => ∃ j : Int, ds = [.int j] ∧ -(2 ^ 62) ≤ j ∧ j < 2 ^ 62 ∧ forI g tb E (rangeD 0 j.toNat) δ
def dForR2I (t : DA) (g : DG) (tb : DS) : DS := fun E δ => t δ fun ds => ∃ i j : Int, ds = [.int i, .int j] ∧ (-(2 ^ 62) ≤ i ∧ i < 2 ^ 62 ∧ -(2 ^ 62) ≤ j ∧ j < 2 ^ 62) ∧ forI g tb E (rangeD i (j - i).toNat) δ
section
variable {tg iter : Expr} {body : List Stmt} {t : DT} {ta : DA} {g : TG} {dg : DG} {tb : DS} {pos p ps : Pos}
theorem ds_forI (hp : PassesOwn (model X.prog X.w) X.A X.env X.xe) (hc : X.calm = true) (hi : DE X H0 O0 iter t) (hg : PG X tg g) (gd : GD X.K g dg) (hb : PSs X body (upD X.K H0 O0 tb)) (hs : ∀ x, foldedSetIterable iter X.env x = pure x := by intro _; rfl) :
    PS X (.For tg iter body [] pos) (upD X.K H0 O0 (dForI t dg tb)) :=
  (ps_for hp hc (pi_list hi) hg hb hs).imp fun D σ H ⟨O, δ, E, w, q, k1, k2, k3, k4⟩ => ⟨O, δ, _, w, q, fun d v H1 ⟨xs, e, q1⟩ s1 r1 => by
    subst e
    cases r1 with
    | lst h n r =>
      refine ⟨_, rfl, ⟨_, .inl h⟩, for_stepI (SrcP.list (.inl h)) gd (fun H' O' S o e => S.keep _ _ e n) r (w.mono s1) q1 (fun O' δ' σ' H' z w' S => k1 O' δ' σ' H' z w' (Step.trans (.same s1) S)) k2⟩⟩
theorem ds_forRI (hp : PassesOwn (model X.prog X.w) X.A X.env X.xe) (hc : X.calm = true) {a : Expr} (hgl : Gl X "range") (hm : X.mg "range" = none) (ha : PA X [a] (upA X.K H0 O0 ta)) (hg : PG X tg g) (gd : GD X.K g dg) (hb : PSs X body (upD X.K H0 O0 tb))
    (hst : starEach [a] X.env = [(false, eval a X.env)] := by rfl) (hs : ∀ x, foldedSetIterable (.Call (.Name "range" p) [a] [] ps) X.env x = pure x := by intro _; rfl) :
    PS X (.For tg (.Call (.Name "range" p) [a] [] ps) body [] pos) (upD X.K H0 O0 (dForRI ta dg tb)) :=
  (ps_for hp hc (pi_range1 hgl hm ha hst) hg hb hs).imp fun D σ H ⟨O, δ, E, w, q, k1, k2, k3, k4⟩ => ⟨O, δ, _, w, q, fun ds vs H1 ⟨j, e, b1, b2, q1⟩ s1 r1 => by
    subst e
    cases r1 with
    | cons r1 r2 =>
      cases r2; cases r1
      exact ⟨j, rfl, b1, b2, for_stepI SrcP.rng gd (fun _ _ _ => trivial) (Dts.rng _) (w.mono s1) q1 (fun O' δ' σ' H' z w' S => k1 O' δ' σ' H' z w' (Step.trans (.same s1) S)) k2⟩⟩
end
/-! ### a list under way is let be -/
/-- ahead of a statement -/
def dFrz (i : Nat) (t : DS) : DS := fun E δ => ∃ ds, δ[i]? = some (some (.o ds)) ∧ t E (δ.set i (some (.v (.list ds))))
/-! ### comprehensions -/
def dst0 (k : Nat) (fr : List Nat) (δ : Dl) : Dl := List.replicate k none ++ fr.map fun j => (δ[j]?).join
def compW (g : DG) (tc : DB) (te : DT) (δ0 : Dl) : List PyData → List PyData → (List PyData → Prop) → Prop
  | [], acc, Q => Q acc
  | x :: xs, acc, Q => g x δ0 fun δ2 => tc δ2 fun ok => if ok = true then te δ2 fun y => compW g tc te δ0 xs (acc ++ [y]) Q else compW g tc te δ0 xs acc Q
theorem Wd.comp {K : PySem.W.Frag} {H : Hp} {O : Ex} {σ : St} {δ : Dl} (w : Wd K H0 O0 H O σ δ) {k : Nat} {fr : List Nat} (hf : fr.Nodup) : Wd K H0 O0 H O (st0 k fr σ) (dst0 k fr δ) := by
  have at1 : ∀ {α : Type} (l : List (Option α)) (i : Nat), (List.replicate k none ++ fr.map fun j => (l[j]?).join)[i]? = if i < k then some none else (fr[i - k]?).map fun j => (l[j]?).join := by
    intro α l i
    by_cases h : i < k
    · rw [if_pos h, List.getElem?_append_left (by simpa using h), List.getElem?_replicate, if_pos h]
    · rw [if_neg h, List.getElem?_append_right (by simpa using Nat.le_of_not_lt h), List.getElem?_map]; simp
  have un : ∀ {α : Type} (l : List (Option α)) (i : Nat) (x : α), (List.replicate k none ++ fr.map fun j => (l[j]?).join)[i]? = some (some x) → ∃ j, fr[i - k]? = some j ∧ k ≤ i ∧ l[j]? = some (some x) := by
    intro α l i x h
    rw [at1] at h
    split at h
    · cases h
    · cases e : fr[i - k]? with
      | none => rw [e] at h; cases h
      | some j =>
        rw [e] at h
        refine ⟨j, rfl, by omega, ?_⟩
        have h' : (l[j]?).join = some x := Option.some.inj h
        cases q : l[j]? with
        | none => rw [q] at h'; cases h'
        | some o => rw [q] at h'; rw [show o = some x from h']
  refine ⟨w.same, w.sub, w.new, w.trk, by simp [st0, dst0], fun i y e => ?_, fun i j ds es l e1 e2 e3 e4 => ?_⟩
  · match y, e with
    | none, _ => exact True.intro
    | some x, e =>
      obtain ⟨j, hj, hk, ej⟩ := un δ i x e
      have q := w.sl j _ ej
      have e2 : ((st0 k fr σ)[i]?).join = (σ[j]?).join := by
        unfold st0; rw [at1, if_neg (by omega), hj]; rfl
      rw [e2]; exact q
  · obtain ⟨a, ha, ka, ea⟩ := un δ i _ e1
    obtain ⟨b, hb, kb, eb⟩ := un δ j _ e2
    obtain ⟨a', ha', _, ea'⟩ := un σ i _ e3
    obtain ⟨b', hb', _, eb'⟩ := un σ j _ e4
    rw [ha] at ha'; cases ha'
    rw [hb] at hb'; cases hb'
    have := w.dis a b ds es l ea eb ea' eb'
    subst this
    have e5 := (List.getElem?_inj (l := fr) (i := i - k) (j := j - k) (List.getElem?_eq_some_iff.mp ha).1 hf).mp (by rw [ha, hb])
    omega
theorem comp_step {K : PySem.W.Frag} {J : It} {P : Hp → Prop} {vs : List V} {xs : List PyData} {g : TG} {dg : DG} {tc : TT} {dc : DB} {te : TE} {de : DT} {k : Nat} {fr : List Nat} {σ : St} {H : Hp} {O : Ex} {δ : Dl} {Qd : List PyData → Prop} {Q : VK} (S : SrcP J P vs) (gd : GD K g dg) (hf : fr.Nodup)
    (hk : ∀ v : V, ∀ σ' : St, ∀ H' : Hp, ∀ R : St → Hp → Prop, g v (st0 k fr σ) H' R → g v (st0 k fr σ) H' fun σ2 H2 => Keep (st0 k fr σ) σ2 ∧ R σ2 H2)
    (hc : ∀ σ H Q, upT K H0 O0 dc σ H Q → tc σ H Q) (he : ∀ σ H Q, up K H0 O0 de σ H Q → te σ H Q)
    (hP : ∀ D H', H D = none → SameE D H H' → P H') (r : Dts K H O vs xs) (w : Wd K H0 O0 H O σ δ) (hz : vs.length ≤ sizeLine) (q : compW dg dc de (dst0 k fr δ) xs [] Qd)
    (k1 : ∀ ds us p H', Qd ds → Same H H' → H' p = none → Dts K H' O us ds → Q (.ref p) (upd H' p (.lst us))) : CmR J g tc te k fr σ H Q := by
  intro D hD
  have w0 : Wd K H0 O0 H O (st0 k fr σ) (dst0 k fr δ) := w.comp hf
  have nD : ¬ O D := fun z => w.trk D z hD
  have D0 : H0 D = none := by
    cases e : H0 D with
    | none => rfl
    | some o => rw [w.same _ _ e] at hD; cases hD
  -- with D excluded
  have ex : ∀ H', SameE D H H' → H' D ≠ none → Wd K H0 O0 H' (fun a => O a ∨ a = D) (st0 k fr σ) (dst0 k fr δ) := fun H' s' hd => by
    have S' : Step H H' O (fun a => O a ∨ a = D) := ⟨fun b o e _ => s' b o e (ne_of_none e hD), fun b hb hn z => z.elim hn fun q => hb (by rw [q]; exact hD)⟩
    refine ⟨fun b o e => s' b o (w.same b o e) (fun z => by rw [z, D0] at e; cases e), fun l z => .inl (w.sub l z), fun l z => z.elim (w.new l) fun q => .inr (by rw [q]; exact D0), fun l z => ?_, w0.len, fun j y e => ?_, w0.dis⟩
    · by_cases ql : l = D
      · rw [ql]; exact hd
      · have hl := w.trk l (z.resolve_right ql)
        cases e : H l with
        | none => exact absurd e hl
        | some o => rw [s' l o e ql]; exact fun z => nomatch z
    · have z := w0.sl j y e
      match y, z with
      | none, _ => exact True.intro
      | some (.v d), ⟨v, e', r⟩ => exact ⟨v, e', r.step S'⟩
      | some (.o ds'), ⟨l, us, e', a1, a2, a3, r⟩ => exact ⟨l, us, e', .inl a1, a2, s' _ _ a3 (fun z => nD (by rw [← z]; exact a1)), r.step S'⟩
  refine ⟨fun i m H' => ∃ acc ys, m = vs.length - i ∧ i ≤ vs.length ∧ SameE D H H' ∧ H' D = some (.lst ys) ∧ ys.length ≤ i ∧ Dts K H' (fun a => O a ∨ a = D) ys acc ∧ compW dg dc de (dst0 k fr δ) (xs.drop i) acc Qd, ⟨vs.length, [], [], by simp, Nat.zero_le _, fun b o e n => by rw [upd_ne n]; exact e, upd_same, Nat.zero_le _, .nil, by simpa using q⟩, ?_⟩
  rintro i m H1 ⟨acc, ys, rfl, hi, s1, e1, hy, ra, q1⟩
  by_cases hlt : i < vs.length
  · refine .inr ⟨S.go i H1 (hP D H1 hD s1) hlt, fun x H' y => ?_⟩
    have yy := S.yl i H1 x H' (hP D H1 hD s1) hlt y
    clear y
    obtain ⟨e, y⟩ := yy
    subst e
    obtain ⟨d, ed, rd⟩ := r.get y
    have hd : xs.drop i = d :: xs.drop (i + 1) := by
      rw [List.drop_eq_getElem_cons (h := (List.getElem?_eq_some_iff.mp ed).1), (List.getElem?_eq_some_iff.mp ed).2]
    rw [hd] at q1
    have w1 := ex _ s1 (by rw [e1]; exact fun z => nomatch z)
    have S' : Step H H' O (fun a => O a ∨ a = D) := ⟨fun b o e _ => s1 b o e (ne_of_none e hD), fun b hb hn z => z.elim hn fun q => hb (by rw [q]; exact hD)⟩
    refine hk x σ _ _ (gd H0 O0 _ _ _ _ x d _ _ w1 (rd.step S') q1 fun δ2 σ2 q2 w2 => ?_)
    refine hc σ2 _ _ ⟨_, δ2, _, w2, q2, fun ok H3 q3 s3 => ?_⟩
    cases ok with
    | true =>
      rw [if_pos rfl]
      refine he σ2 H3 _ ⟨_, δ2, _, w2.mono s3, q3, fun d' v H4 q4 s4 r4 => ?_⟩
      have e4 := s4 _ _ (s3 _ _ e1)
      have sD : Step H4 (upd H4 D (.lst (ys ++ [v]))) (fun a => O a ∨ a = D) (fun a => O a ∨ a = D) := ⟨fun b o e n => by rw [upd_ne (fun z => n (.inr z))]; exact e, fun _ _ n => n⟩
      refine ⟨ys, e4, by omega, vs.length - (i + 1), by omega, acc ++ [d'], ys ++ [v], rfl, hlt, fun b o e n => by rw [upd_ne n]; exact s4 _ _ (s3 _ _ (s1 b o e n)), upd_same, by simpa using hy, ?_, q4⟩
      exact ((ra.mono (s3.trans s4)).append (.cons r4 .nil)).step sD
    | false =>
      rw [if_neg (by decide)]
      exact ⟨vs.length - (i + 1), by omega, acc, ys, rfl, hlt, fun b o e n => s3 _ _ (s1 b o e n), s3 _ _ e1, by omega, ra.mono s3, q3⟩
  · have e : i = vs.length := by omega
    subst e
    refine .inl ⟨S.st _ H1 (hP D H1 hD s1) (Nat.le_refl _), ?_⟩
    rw [r.length, List.drop_of_length_le (Nat.le_refl _)] at q1
    -- the list D, new over the rest
    have hrest : ∃ H2 : Hp, H2 D = none ∧ Same H H2 ∧ H1 = upd H2 D (.lst ys) := by
      refine ⟨fun b => if b = D then none else H1 b, by simp, fun b o e => ?_, ?_⟩
      · have n := ne_of_none e hD
        show (if b = D then none else H1 b) = some o
        rw [if_neg n]; exact s1 b o e n
      · funext b
        by_cases z : b = D
        · rw [z, upd_same]; exact e1
        · rw [upd_ne z]; show H1 b = if b = D then none else H1 b; rw [if_neg z]
    obtain ⟨H2, h2, s2, rfl⟩ := hrest
    refine k1 acc ys D H2 q1 s2 h2 (ra.step ⟨fun b o e n => ?_, fun b _ n z => n (.inl z)⟩)
    rw [upd_ne (fun z => n (.inr z))] at e; exact e
def compI (g : DG) (tc : DB) (te : DT) (δ0 : Dl) (xs : List PyData) (Q : List PyData → Prop) : Prop := ∃ I : Nat → List PyData → Prop, I 0 [] ∧ (∀ i x acc, xs[i]? = some x → I i acc → g x δ0 fun δ2 => tc δ2 fun ok => if ok = true then te δ2 fun y => I (i + 1) (acc ++ [y]) else I (i + 1) acc) ∧ ∀ acc, I xs.length acc → Q acc
theorem comp_stepI {K : PySem.W.Frag} {J : It} {P : Hp → Prop} {vs : List V} {xs : List PyData} {g : TG} {dg : DG} {tc : TT} {dc : DB} {te : TE} {de : DT} {k : Nat} {fr : List Nat} {σ : St} {H : Hp} {O : Ex} {δ : Dl} {Qd : List PyData → Prop} {Q : VK} (S : SrcP J P vs) (gd : GD K g dg) (hf : fr.Nodup)
    (hk : ∀ v : V, ∀ σ' : St, ∀ H' : Hp, ∀ R : St → Hp → Prop, g v (st0 k fr σ) H' R → g v (st0 k fr σ) H' fun σ2 H2 => Keep (st0 k fr σ) σ2 ∧ R σ2 H2)
    (hc : ∀ σ H Q, upT K H0 O0 dc σ H Q → tc σ H Q) (he : ∀ σ H Q, up K H0 O0 de σ H Q → te σ H Q)
    (hP : ∀ D H', H D = none → SameE D H H' → P H') (r : Dts K H O vs xs) (w : Wd K H0 O0 H O σ δ) (hz : vs.length ≤ sizeLine) (q : compI dg dc de (dst0 k fr δ) xs Qd)
    (k1 : ∀ ds us p H', Qd ds → Same H H' → H' p = none → Dts K H' O us ds → Q (.ref p) (upd H' p (.lst us))) : CmR J g tc te k fr σ H Q := by
  obtain ⟨Iv, q0, qs, qe⟩ := q
  intro D hD
  have w0 : Wd K H0 O0 H O (st0 k fr σ) (dst0 k fr δ) := w.comp hf
  have nD : ¬ O D := fun z => w.trk D z hD
  have D0 : H0 D = none := by
    cases e : H0 D with
    | none => rfl
    | some o => rw [w.same _ _ e] at hD; cases hD
  -- with D excluded
  have ex : ∀ H', SameE D H H' → H' D ≠ none → Wd K H0 O0 H' (fun a => O a ∨ a = D) (st0 k fr σ) (dst0 k fr δ) := fun H' s' hd => by
    have S' : Step H H' O (fun a => O a ∨ a = D) := ⟨fun b o e _ => s' b o e (ne_of_none e hD), fun b hb hn z => z.elim hn fun q => hb (by rw [q]; exact hD)⟩
    refine ⟨fun b o e => s' b o (w.same b o e) (fun z => by rw [z, D0] at e; cases e), fun l z => .inl (w.sub l z), fun l z => z.elim (w.new l) fun q => .inr (by rw [q]; exact D0), fun l z => ?_, w0.len, fun j y e => ?_, w0.dis⟩
    · by_cases ql : l = D
      · rw [ql]; exact hd
      · have hl := w.trk l (z.resolve_right ql)
        cases e : H l with
        | none => exact absurd e hl
        | some o => rw [s' l o e ql]; exact fun z => nomatch z
    · have z := w0.sl j y e
      match y, z with
      | none, _ => exact True.intro
      | some (.v d), ⟨v, e', r⟩ => exact ⟨v, e', r.step S'⟩
      | some (.o ds'), ⟨l, us, e', a1, a2, a3, r⟩ => exact ⟨l, us, e', .inl a1, a2, s' _ _ a3 (fun z => nD (by rw [← z]; exact a1)), r.step S'⟩
  refine ⟨fun i m H' => ∃ acc ys, m = vs.length - i ∧ i ≤ vs.length ∧ SameE D H H' ∧ H' D = some (.lst ys) ∧ ys.length ≤ i ∧ Dts K H' (fun a => O a ∨ a = D) ys acc ∧ Iv i acc, ⟨vs.length, [], [], by simp, Nat.zero_le _, fun b o e n => by rw [upd_ne n]; exact e, upd_same, Nat.zero_le _, .nil, q0⟩, ?_⟩
  rintro i m H1 ⟨acc, ys, rfl, hi, s1, e1, hy, ra, q1⟩
  by_cases hlt : i < vs.length
  · refine .inr ⟨S.go i H1 (hP D H1 hD s1) hlt, fun x H' y => ?_⟩
    have yy := S.yl i H1 x H' (hP D H1 hD s1) hlt y
    clear y
    obtain ⟨e, y⟩ := yy
    subst e
    obtain ⟨d, ed, rd⟩ := r.get y
    have w1 := ex _ s1 (by rw [e1]; exact fun z => nomatch z)
    have S' : Step H H' O (fun a => O a ∨ a = D) := ⟨fun b o e _ => s1 b o e (ne_of_none e hD), fun b hb hn z => z.elim hn fun q => hb (by rw [q]; exact hD)⟩
    refine hk x σ _ _ (gd H0 O0 _ _ _ _ x d _ _ w1 (rd.step S') (qs i d acc ed q1) fun δ2 σ2 q2 w2 => ?_)
    refine hc σ2 _ _ ⟨_, δ2, _, w2, q2, fun ok H3 q3 s3 => ?_⟩
    cases ok with
    | true =>
      rw [if_pos rfl]
      refine he σ2 H3 _ ⟨_, δ2, _, w2.mono s3, q3, fun d' v H4 q4 s4 r4 => ?_⟩
      have e4 := s4 _ _ (s3 _ _ e1)
      have sD : Step H4 (upd H4 D (.lst (ys ++ [v]))) (fun a => O a ∨ a = D) (fun a => O a ∨ a = D) := ⟨fun b o e n => by rw [upd_ne (fun z => n (.inr z))]; exact e, fun _ _ n => n⟩
      refine ⟨ys, e4, by omega, vs.length - (i + 1), by omega, acc ++ [d'], ys ++ [v], rfl, hlt, fun b o e n => by rw [upd_ne n]; exact s4 _ _ (s3 _ _ (s1 b o e n)), upd_same, by simpa using hy, ?_, q4⟩
      exact ((ra.mono (s3.trans s4)).append (.cons r4 .nil)).step sD
    | false =>
      rw [if_neg (by decide)]
      exact ⟨vs.length - (i + 1), by omega, acc, ys, rfl, hlt, fun b o e n => s3 _ _ (s1 b o e n), s3 _ _ e1, by omega, ra.mono s3, q3⟩
  · have e : i = vs.length := by omega
    subst e
    refine .inl ⟨S.st _ H1 (hP D H1 hD s1) (Nat.le_refl _), ?_⟩
    rw [r.length] at q1
    -- the list D, new over the rest
    have hrest : ∃ H2 : Hp, H2 D = none ∧ Same H H2 ∧ H1 = upd H2 D (.lst ys) := by
      refine ⟨fun b => if b = D then none else H1 b, by simp, fun b o e => ?_, ?_⟩
      · have n := ne_of_none e hD
        show (if b = D then none else H1 b) = some o
        rw [if_neg n]; exact s1 b o e n
      · funext b
        by_cases z : b = D
        · rw [z, upd_same]; exact e1
        · rw [upd_ne z]; show H1 b = if b = D then none else H1 b; rw [if_neg z]
    obtain ⟨H2, h2, s2, rfl⟩ := hrest
    refine k1 acc ys D H2 (qe acc q1) s2 h2 (ra.step ⟨fun b o e n => ?_, fun b _ n z => n (.inl z)⟩)
    rw [upd_ne (fun z => n (.inr z))] at e; exact e
/-- a comprehension over a list -/
def dComp (t : DT) (g : DG) (tc : DB) (te : DT) (k : Nat) (fr : List Nat) : DA := fun δ Q => t δ fun d => ∃ xs, d = .list xs ∧ xs.length ≤ sizeLine ∧ compW g tc te (dst0 k fr δ) xs [] Q
def dCompT (t : DT) (g : DG) (tc : DB) (te : DT) (k : Nat) (fr : List Nat) : DA := fun δ Q => t δ fun d => ∃ xs, d = .tuple xs ∧ xs.length ≤ sizeLine ∧ compW g tc te (dst0 k fr δ) xs [] Q
def dCompR (ta : DA) (g : DG) (tc : DB) (te : DT) (k : Nat) (fr : List Nat) : DA := fun δ Q => ta δ fun ds => ∃ j : Int, ds = [.int j] ∧ -(2 ^ 62) ≤ j ∧ j < sizeLine ∧ compW g tc te (dst0 k fr δ) (rangeD 0 j.toNat) [] Q
def dYes : DB := fun _ Q => Q true
def KeepG (g : TG) (k : Nat) : Prop := ∀ (fr : List Nat) (σ : St) (v : V) (H' : Hp) (R : St → Hp → Prop), g v (st0 k fr σ) H' R → g v (st0 k fr σ) H' fun σ2 H2 => Keep (st0 k fr σ) σ2 ∧ R σ2 H2
theorem keepName : KeepG (gName 0) 1 := fun fr σ v H' R h => ⟨keep_set, h⟩
section
variable {tg iter elt : Expr} {ifs : List Expr} {scope : Scope} {N' : List Str} {k : Nat} {fr : List Nat} {g : TG} {dg : DG} {t : DT} {ta : DA} {tc : DB} {te : DT} {pos p ps : Pos}
end
def dCompI (t : DT) (g : DG) (tc : DB) (te : DT) (k : Nat) (fr : List Nat) : DA := fun δ Q => t δ fun d => ∃ xs, d = .list xs ∧ xs.length ≤ sizeLine ∧ compI g tc te (dst0 k fr δ) xs Q
def dCompTI (t : DT) (g : DG) (tc : DB) (te : DT) (k : Nat) (fr : List Nat) : DA := fun δ Q => t δ fun d => ∃ xs, d = .tuple xs ∧ xs.length ≤ sizeLine ∧ compI g tc te (dst0 k fr δ) xs Q
def dCompRI (ta : DA) (g : DG) (tc : DB) (te : DT) (k : Nat) (fr : List Nat) : DA := fun δ Q => ta δ fun ds => ∃ j : Int, ds = [.int j] ∧ -(2 ^ 62) ≤ j ∧ j < sizeLine ∧ compI g tc te (dst0 k fr δ) (rangeD 0 j.toNat) Q
section
variable {tg iter elt : Expr} {ifs : List Expr} {scope : Scope} {N' : List Str} {k : Nat} {fr : List Nat} {g : TG} {dg : DG} {t : DT} {ta : DA} {tc : DB} {te : DT} {pos p ps : Pos}
end
end
end L2

namespace L2
open PySem PySem.Spec PyProof.Rows PySem.W
/-! ### what operations do to data -/
section
variable {K : PySem.W.Frag}
def dI (g : Int → Int → PyData) : PyData → PyData → (PyData → Prop) → Prop := fun x y Q => ∃ i j, x = .int i ∧ y = .int j ∧ Q (g i j)
def dIC (C : Int → Int → Prop) (g : Int → Int → PyData) : PyData → PyData → (PyData → Prop) → Prop := fun x y Q => ∃ i j, x = .int i ∧ y = .int j ∧ C i j ∧ Q (g i j)
theorem od_int {g : Int → Int → Int} : OpD K (rI0 fun i j => .int (g i j)) (dI fun i j => .int (g i j)) := fun H O x y dx dy Qd R _ hx hy ⟨i, j, e1, e2, q⟩ k => by
  subst e1 e2; cases hx.int; cases hy.int; exact ⟨i, j, rfl, rfl, k _ _ H q (Same.refl _) (.int _)⟩
theorem od_bl {g : Int → Int → Bool} : OpD K (rI0 fun i j => .bl (g i j)) (dI fun i j => .bool (g i j)) := fun H O x y dx dy Qd R _ hx hy ⟨i, j, e1, e2, q⟩ k => by
  subst e1 e2; cases hx.int; cases hy.int; exact ⟨i, j, rfl, rfl, k _ _ H q (Same.refl _) (.bl _)⟩
theorem od_intC {C : Int → Int → Prop} {g : Int → Int → Int} : OpD K (rI C fun i j => .int (g i j)) (dIC C fun i j => .int (g i j)) := fun H O x y dx dy Qd R _ hx hy ⟨i, j, e1, e2, c, q⟩ k => by
  subst e1 e2; cases hx.int; cases hy.int; exact ⟨i, j, rfl, rfl, c, k _ _ H q (Same.refl _) (.int _)⟩
/-- == and != of data -/
def rEqX (K : PySem.W.Frag) : R2 := fun x y H Q => ∃ O dx dy, Sh K H O x dx ∧ Sh K H O y dy ∧ Shp dx ∧ Shp dy ∧ Q (.bl (PyData.eqv dx dy)) H
def rNeX (K : PySem.W.Frag) : R2 := fun x y H Q => ∃ O dx dy, Sh K H O x dx ∧ Sh K H O y dy ∧ Shp dx ∧ Shp dy ∧ Q (.bl (!PyData.eqv dx dy)) H
theorem op_eqX {X : Cx} (hu : X.A.units + 64 < cLine) : OpR X (compareOp .Eq) (rEqX X.K) := by
  intro pins s σ H x y v u Q I rx ry h
  obtain ⟨O, dx, dy, hx, hy, sx, sy, q⟩ := h
  obtain ⟨as, ra⟩ := dt_reads I hx.all (SeqAt.canLay_of_shaped sx) rx
  obtain ⟨bs, rb⟩ := dt_reads I hy.all (SeqAt.canLay_of_shaped sy) ry
  exact SeqAt.compareEq_shaped ra rb sx sy hu (fin_bl I q rfl)
theorem op_neX {X : Cx} (hu : X.A.units + 64 < cLine) : OpR X (compareOp .NotEq) (rNeX X.K) := by
  intro pins s σ H x y v u Q I rx ry h
  obtain ⟨O, dx, dy, hx, hy, sx, sy, q⟩ := h
  obtain ⟨as, ra⟩ := dt_reads I hx.all (SeqAt.canLay_of_shaped sx) rx
  obtain ⟨bs, rb⟩ := dt_reads I hy.all (SeqAt.canLay_of_shaped sy) ry
  exact SeqAt.compareNe_shaped ra rb sx sy hu (fin_bl I q rfl)
def dEq : PyData → PyData → (PyData → Prop) → Prop := fun x y Q => Shp x ∧ Shp y ∧ Q (.bool (PyData.eqv x y))
def dNe : PyData → PyData → (PyData → Prop) → Prop := fun x y Q => Shp x ∧ Shp y ∧ Q (.bool (!PyData.eqv x y))
theorem od_eq : OpD K (rEqX K) dEq := fun H O x y dx dy Qd R _ hx hy ⟨a, b, q⟩ k => ⟨O, dx, dy, hx, hy, a, b, k _ _ H q (Same.refl _) (.bl _)⟩
theorem od_ne : OpD K (rNeX K) dNe := fun H O x y dx dy Qd R _ hx hy ⟨a, b, q⟩ k => ⟨O, dx, dy, hx, hy, a, b, k _ _ H q (Same.refl _) (.bl _)⟩
/-- a place of a list or a tuple -/
def dIxL : PyData → PyData → (PyData → Prop) → Prop := fun x y Q => ∃ ds i d, x = .list ds ∧ y = .int i ∧ atI ds i = some d ∧ Q d
def dIxT : PyData → PyData → (PyData → Prop) → Prop := fun x y Q => ∃ ds i d, x = .tuple ds ∧ y = .int i ∧ atI ds i = some d ∧ Q d
theorem Dts.atI {H : Hp} {O : Ex} {vs : List V} {ds : List PyData} {i : Int} {d : PyData} (r : Dts K H O vs ds) (e : L2.atI ds i = some d) : ∃ v, L2.atI vs i = some v ∧ Dt K H O v d := by
  unfold L2.atI at e ⊢
  rw [r.length]
  cases q : ixN ds.length i with
  | none => rw [q] at e; cases e
  | some j => rw [q] at e; exact r.getD e
theorem od_ixL : OpD K (rIxL K) dIxL := fun H O x y dx dy Qd R _ hx hy ⟨ds, i, d, e1, e2, e3, q⟩ k => by
  subst e1 e2
  obtain ⟨a, vs, rfl, hs, r⟩ := hx.lst
  cases hy.int
  obtain ⟨v, hv, rv⟩ := r.atI e3
  exact ⟨a, vs, i, v, rfl, rfl, hs, hv, k d v H q (Same.refl _) rv⟩
theorem od_ixT : OpD K (rIxT K) dIxT := fun H O x y dx dy Qd R _ hx hy ⟨ds, i, d, e1, e2, e3, q⟩ k => by
  subst e1 e2
  obtain ⟨a, vs, rfl, hs, r⟩ := hx.tup
  cases hy.int
  obtain ⟨v, hv, rv⟩ := r.atI e3
  exact ⟨a, vs, i, v, rfl, rfl, hs, hv, k d v H q (Same.refl _) rv⟩
end
/-! ### lists: +, slices, list(), len, in, any, all -/
section
variable {X : Cx} {H0 : Hp} {O0 : Ex}
def rCatG : R2 := fun x y H Q => ∃ l b xs zs, x = .ref l ∧ y = .ref b ∧ Rd H l (.lst xs) ∧ Rd H b (.lst zs) ∧ xs.length + zs.length ≤ sizeLine ∧ ∀ p, H p = none → Q (.ref p) (upd H p (.lst (xs ++ zs)))
def dCat (ta tb : DT) : DA := fun δ Q => ta δ fun x => tb δ fun y => ∃ xs ys, x = .list xs ∧ y = .list ys ∧ xs.length + ys.length ≤ sizeLine ∧ Q (xs ++ ys)
def dCatT : PyData → PyData → (PyData → Prop) → Prop := fun x y Q => ∃ xs ys, x = .tuple xs ∧ y = .tuple ys ∧ xs ≠ [] ∧ xs.length + ys.length ≤ sizeLine ∧ Q (.tuple (xs ++ ys))
def cutD (xs : List PyData) (lo hi : Option Int) : List PyData := (xs.drop (HT.sIx xs.length 0 lo)).take (HT.sIx xs.length xs.length hi - HT.sIx xs.length 0 lo)
/-- the bounds of a slice -/
abbrev DO := Dl → (Option Int → Prop) → Prop
def upO (K : PySem.W.Frag) (H0 : Hp) (O0 : Ex) (t : DO) : TO := fun σ H R => ∃ O δ Qd, Wd K H0 O0 H O σ δ ∧ t δ Qd ∧ ∀ d H', Qd d → Same H H' → R d H'
def dNoPart : DO := fun _ Q => Q none
def dPart (t : DT) : DO := fun δ Q => t δ fun d => ∃ i, d = .int i ∧ Q (some i)
theorem PO.imp {X : Cx} {e : Option Expr} {t u : TO} (h : PO X e t) (i : ∀ σ H Q, u σ H Q → t σ H Q) : PO X e u := fun pins s σ H Q I z => h pins s σ H Q I (i σ H Q z)
def dSlL (t : DT) (tl th : DO) : DA := fun δ Q => t δ fun d => tl δ fun l => th δ fun u => ∃ xs, d = .list xs ∧ Q (cutD xs l u)
def dSlT (t : DT) (tl th : DO) : DT := fun δ Q => t δ fun d => tl δ fun l => th δ fun u => ∃ xs, d = .tuple xs ∧ ¬ (HT.sIx xs.length 0 l = 0 ∧ HT.sIx xs.length xs.length u = xs.length) ∧ Q (.tuple (cutD xs l u))
theorem de_ix {a b : Expr} {ta tb : DT} {r : R2} {rd : PyData → PyData → (PyData → Prop) → Prop} {pos : Pos} (ho : IxR X r) (hd : OpD X.K r rd) (ha : DF X H0 O0 a ta) (hb : DF X H0 O0 b tb) (hs : ∀ v u, subscripted b false v u = operate [v, u] (getItem v u) := by intro _ _; rfl) : DE X H0 O0 (.Subscript a b pos) (dOp rd ta tb) := (pe_ix ho ha hb hs).imp (opd hd)
/-! builtins -/
def dLen : List PyData → (PyData → Prop) → Prop := fun ds Q => ∃ xs, (ds = [.list xs] ∨ ds = [.tuple xs]) ∧ Q (.int xs.length)
def dLenS : List PyData → (PyData → Prop) → Prop := fun ds Q => ∃ xs, ds = [scrD xs] ∧ Q (.int xs.length)
theorem cd_len {K : PySem.W.Frag} : CallD K (fun xs H Q => ∃ p ys, xs = [.ref p] ∧ (SqL K H p ys ∨ SqT K H p ys) ∧ Q (.int ys.length) H) dLen := fun H O xs ds Qd R _ hs ⟨ys, e, q⟩ k => by
  rcases e with e | e <;> subst e
  · cases hs with
    | cons h r =>
      cases r
      obtain ⟨a, vs, rfl, h1, d1⟩ := h.lst
      exact ⟨a, vs, rfl, .inl h1, by rw [d1.length]; exact k _ _ H q (Same.refl _) (.int _)⟩
  · cases hs with
    | cons h r =>
      cases r
      obtain ⟨a, vs, rfl, h1, d1⟩ := h.tup
      exact ⟨a, vs, rfl, .inr h1, by rw [d1.length]; exact k _ _ H q (Same.refl _) (.int _)⟩
theorem cd_lenS {K : PySem.W.Frag} : CallD K (fun xs H Q => ∃ p ys, xs = [.ref p] ∧ (SqL K H p ys ∨ SqT K H p ys) ∧ Q (.int ys.length) H) dLenS := fun H O xs ds Qd R _ hs ⟨ys, e, q⟩ k => by
  subst e
  cases hs with
  | cons h r =>
    cases r
    obtain ⟨a, vs, rfl, h1, d1⟩ := h.scr
    exact ⟨a, vs, rfl, .inl h1, by rw [d1.length]; exact k _ _ H q (Same.refl _) (.int _)⟩
def dTupOf : List PyData → (PyData → Prop) → Prop := fun ds Q => ∃ xs, ds = [.list xs] ∧ Q (.tuple xs)
theorem Dts.bools {K : PySem.W.Frag} {H : Hp} {O : Ex} : ∀ {bs : List Bool} {vs : List V}, Dts K H O vs (bs.map PyData.bool) → vs = bs.map V.bl
  | [], _, r => by rw [List.map_nil] at r; cases r; rfl
  | b :: bs, _, r => by
    rw [List.map_cons] at r
    cases r with
    | cons h r => cases h; rw [List.map_cons, Dts.bools r]
def dAny (g : List Bool → Bool) : List PyData → (PyData → Prop) → Prop := fun ds Q => ∃ bs : List Bool, ds = [.list (bs.map .bool)] ∧ Q (.bool (g bs))
theorem cd_any {K : PySem.W.Frag} {g : List Bool → Bool} : CallD K (fun xs H Q => ∃ (a : Addr) (bs : List Bool), xs = [.ref a] ∧ SqL K H a (bs.map V.bl) ∧ Q (.bl (g bs)) H) (dAny g) := fun H O xs ds Qd R tr hs ⟨bs, e, q⟩ k => by
  subst e
  cases hs with
  | cons h r =>
    cases r
    obtain ⟨a, vs, rfl, h1, d1⟩ := h.lst
    cases d1.bools
    exact ⟨a, bs, rfl, h1, k _ _ H q (Same.refl _) (.bl _)⟩
def dTwo (g : Int → Int → Int) : List PyData → (PyData → Prop) → Prop := fun ds Q => ∃ i j, ds = [.int i, .int j] ∧ Q (.int (g i j))
theorem cd_two {K : PySem.W.Frag} {g : Int → Int → Int} : CallD K (fun xs H Q => ∃ i j, xs = [.int i, .int j] ∧ Q (.int (g i j)) H) (dTwo g) := fun H O xs ds Qd R tr hs ⟨i, j, e, q⟩ k => by
  subst e
  cases hs with
  | cons h r =>
    cases r with
    | cons h2 r =>
      cases r; cases h.int; cases h2.int
      exact ⟨i, j, rfl, k _ _ H q (Same.refl _) (.int _)⟩
def tyD : PyData → String
  | .none => "NoneType" | .bool _ => "bool" | .int _ => "int" | .str _ => "str" | .list _ => "list" | .tuple _ => "tuple" | .dict _ => "dict"
/-! in -/
def eqS : PyData → PyData → Bool := PyData.eqv
def dIn (neg : Bool) : PyData → PyData → (PyData → Prop) → Prop := fun x y Q => ∃ ds, (y = .list ds ∨ y = .tuple ds) ∧ scalD x = true ∧ ds.all scalD = true ∧ Q (.bool (if neg then !(ds.any fun d => PyData.eqv d x) else ds.any fun d => PyData.eqv d x))
end
section
variable {P : Program} {w : World} {K : PySem.W.Frag} {mg : Str → Option Value} {base : Heap}
def startD (N : List Str) (ds : List PyData) : Dl := ds.map (fun d => some (.v d)) ++ List.replicate (N.length - ds.length) none
theorem wd_start {H : Hp} {O : Ex} {N : List Str} {vs : List V} {ds : List PyData} (tr : ∀ l, O l → H l ≠ none) (r : Dts K H O vs ds) : Wd K H O H O (start N vs) (startD N ds) := by
  have hl := r.length
  have at1 : ∀ (i : Nat) y, (startD N ds)[i]? = some y → (∃ d, ds[i]? = some d ∧ y = some (.v d)) ∨ y = none := fun i y e => by
    unfold startD at e
    by_cases h : i < ds.length
    · rw [List.getElem?_append_left (by simpa using h), List.getElem?_map] at e
      cases q : ds[i]? with
      | none => rw [q] at e; cases e
      | some d => rw [q] at e; exact .inl ⟨d, rfl, (Option.some.inj e).symm⟩
    · rw [List.getElem?_append_right (by simpa using Nat.le_of_not_lt h), List.getElem?_replicate] at e
      split at e
      · exact .inr (Option.some.inj e).symm
      · cases e
  refine ⟨Same.refl _, fun _ z => z, fun _ z => .inl z, tr, by simp [start, startD, hl], fun i y e => ?_, fun i j ds' es l e1 => ?_⟩
  · rcases at1 i y e with ⟨d, hd, rfl⟩ | rfl
    · obtain ⟨v, hv, rv⟩ := r.getD hd
      refine ⟨v, ?_, rv⟩
      unfold start
      rw [List.getElem?_append_left (by simpa using (List.getElem?_eq_some_iff.mp hv).1), List.getElem?_map, hv]; rfl
    · exact True.intro
  · rcases at1 i _ e1 with ⟨d, _, z⟩ | z <;> cases z
/-- a def over data -/
theorem Fun.okD {x qual : Str} {st : Stmt} {f : Addr} {fd : FuncData} {N ps : List Str} {k : Nat} {F : List PyData → (PyData → Prop) → Prop} (Fu : Fun K x qual st f fd) (S : FnScope N ps (defScope st)) (len : ∀ ds Q, F ds Q → ds.length = ps.length)
    (hbody : ∀ (cdv : Value) (A : Around) (outer : List Env) (s : Shared) (H : Hp) (O : Ex) (ds : List PyData) (Q : PyData → Prop) (E : XK), Room k (A.deeper (envOfC qual (defScope st) s.heap.objs.size f cdv)) → F ds Q →
      ∃ t, PSs (cxOf CX0 P w K mg base N qual (defScope st) f cdv A outer s H E).nox (defBody st) (upD K H O t) ∧ t { nx := fun _ => Q .none, rt := Q } (startD N ds)) : FnOk P w K mg base CX0 (k + 1) f fd ps (spD K F) := by
  refine Fu.ok S (fun vs H Q E h => ?_) (fun cdv A outer s H vs Q E hr h => ?_)
  · obtain ⟨O, ds, Qd, _, r, q, _⟩ := h
    rw [r.length]; exact len _ _ q
  · obtain ⟨O, ds, Qd, tr, r, q, k⟩ := h
    obtain ⟨t, ht, q'⟩ := hbody cdv A outer s H O ds Qd E hr q
    refine ⟨_, ht, O, _, _, wd_start tr r, q', fun O' δ' σ' H' z w' S' => ?_, fun d v H' z s' r' => k d v H' z s' r', fun _ _ _ _ z => z.elim, fun _ _ _ _ z => z.elim⟩
    exact k _ _ _ z w'.same .non
end
end L2

namespace L2
open PySem PySem.Spec PyProof.Rows PySem.W
section
variable {X : Cx} {H0 : Hp} {O0 : Ex}
theorem pf_nilD : PIfs X [] (upT X.K H0 O0 dYes) := fun pins s σ H Q I h => by
  obtain ⟨O, δ, Qd, w, q, k⟩ := h
  exact pf_nil pins s σ H Q I (k true H q (Same.refl _))
/-! isinstance -/
theorem call_isinX : CallR X (.builtin "isinstance") (fun xs H Q => ∃ O d T b x, xs = [x, .ty T] ∧ Dt X.K H O x d ∧ (∀ x, d ≠ .dict [(.none, x)]) ∧ kitOne X.K (.type (tyD d)) (.type T) = some b ∧ Q (.bl b) H) := by
  intro pins s σ H xs us Q I r h
  obtain ⟨O, d, T, b, x, rfl, hd, hp, hk, q⟩ := h
  obtain ⟨u, w', rfl, rx, rt⟩ := vals2 r
  cases (show w' = Value.type T from rt)
  have fin : ∀ tk, EP X pins σ Q (.bool b) { s with toks := tk } := fun tk => ⟨.bl b, H, I.tok tk, rfl, q⟩
  cases hd with
  | non => cases (show u = Value.none from rx); exact kia_one kitx_none I.kIn True.intro hk (fun z => nomatch z) fin
  | bl y => cases (show u = Value.bool y from rx); exact kia_one kitx_bool I.kIn True.intro hk (fun z => nomatch z) fin
  | int i => obtain ⟨t, e⟩ := (show ∃ t, u = Value.int i t from rx); cases e; exact kia_one kitx_int I.kIn True.intro hk (fun z => nomatch z) fin
  | str y => obtain ⟨t, e⟩ := (show ∃ t, u = Value.str y t from rx); cases e; exact kia_one kitx_str I.kIn True.intro hk (fun z => nomatch z) fin
  | @tup a xs ds h n rr =>
    cases (show u = Value.ref a from rx)
    obtain ⟨its, rv, ⟨o, e, c, _⟩, _⟩ := I.tuple (.inl h)
    exact kia_one kitx_tuple I.kIn ⟨o, e, c⟩ hk (fun z => nomatch z) fin
  | @tupK a xs ds h rr =>
    cases (show u = Value.ref a from rx)
    obtain ⟨its, rv, ⟨o, e, c, _⟩, _⟩ := I.tuple h.of0
    exact kia_one kitx_tuple I.kIn ⟨o, e, c⟩ hk (fun z => nomatch z) fin
  | @lst a xs ds h n rr =>
    cases (show u = Value.ref a from rx)
    obtain ⟨its, rv, ⟨o, _, e, c, _⟩, _⟩ := I.list (.inl h)
    exact kia_one kitx_list I.kIn ⟨o, e, c⟩ hk (fun z => nomatch z) fin
  | pack h n => exact absurd rfl (hp _)
  | scr h r => exact absurd rfl (hp _)
  | @dct0 a h n =>
    cases (show u = Value.ref a from rx)
    obtain ⟨_, _, _, _, o, _, _, e, c, _⟩ := (show ObjOk X.prog X.w H s.heap a (.dK []) from I.hok a _ h)
    exact kia_one kitx_dict I.kIn ⟨o, e, c.1⟩ hk (fun z => nomatch z) fin
def dIsin (K : PySem.W.Frag) (T : String) (t : DT) : DT := fun δ Q => t δ fun d => ∃ b, kitOne K (.type (tyD d)) (.type T) = some b ∧ (∀ x, d ≠ .dict [(.none, x)]) ∧ Q (.bool b)
theorem de_isin {T : String} {a c : Expr} {t : DT} {np p : Pos} (hg : Gl X "isinstance") (hm : X.mg "isinstance" = none) (hv : bootBuiltins "isinstance" = some (.builtin "isinstance")) (ha : DF X H0 O0 a t) (hc : PE X c (tC (.ty T)))
    (hs : starEach [a, c] X.env = (false, eval a X.env) :: starEach [c] X.env := by rfl) (hs2 : starEach [c] X.env = [(false, eval c X.env)] := by rfl) (hb : (backTo p (starEach [c] X.env)).any (·.1) = false := by rfl) : DE X H0 O0 (.Call (.Name "isinstance" np) [a, c] [] p) (dIsin X.K T t) :=
  (pe_callB call_isinX hg hm hv (pa_cons ha (pa_cons hc pa_nil hs2) hs) (he := hs) (hpl := hb)).imp fun σ H Q ⟨O, δ, Qd, w, q, k⟩ => ⟨O, δ, _, w, q, fun d v H1 ⟨b, e, hp, q1⟩ s1 r1 => ⟨fun _ => False, d, T, b, v, rfl, r1.all, hp, e, k _ _ H1 q1 s1 (.bl b)⟩⟩
/-! texts -/
def dAddS : PyData → PyData → (PyData → Prop) → Prop := fun x y Q => ∃ i j, x = .str i ∧ y = .str j ∧ i.length + j.length ≤ sizeLine ∧ Q (.str (i ++ j))
def dIxS : PyData → PyData → (PyData → Prop) → Prop := fun x y Q => ∃ z i c, x = .str z ∧ y = .int i ∧ z.length ≤ sizeLine ∧ atI z.cps.toList i = some c ∧ Q (.str ⟨#[c]⟩)
def rSlS : V → Option Int → Option Int → Hp → VK → Prop := fun x lo hi H Q => ∃ z, x = .str z ∧ z.length ≤ sizeLine ∧ Q (.str (Txt.slice z lo hi)) H
def dSlS (t : DT) (tl th : DO) : DT := fun δ Q => t δ fun d => tl δ fun l => th δ fun u => ∃ z, d = .str z ∧ z.length ≤ sizeLine ∧ Q (.str (Txt.slice z l u))
def dJoin (to : DT) (t : DT) : DT := fun δ Q => to δ fun x => ∃ z : Str, x = .str z ∧ t δ fun y => ∃ (ys : List Str), y = .list (ys.map .str) ∧ (ys.map (·.length)).sum + ys.length * z.length ≤ 16777216 ∧ Q (.str (Txt.join z ys))
/-! more calls -/
def dInt : List PyData → (PyData → Prop) → Prop := fun ds Q => (∃ i, ds = [.int i] ∧ Q (.int i)) ∨ ∃ b, ds = [.bool b] ∧ Q (.int (if b then 1 else 0))
theorem cd_int {K : PySem.W.Frag} : CallD K (fun xs H Q => (∃ i, xs = [.int i] ∧ Q (.int i) H) ∨ ∃ k, xs = [.bl k] ∧ Q (.int (if k then 1 else 0)) H) dInt := fun H O xs ds Qd R tr hs h k => by
  rcases h with ⟨i, e, q⟩ | ⟨b, e, q⟩ <;> subst e
  · cases hs with
    | cons h r => cases r; cases h.int; exact .inl ⟨i, rfl, k _ _ H q (Same.refl _) (.int _)⟩
  · cases hs with
    | cons h r => cases r; cases h.bl; exact .inr ⟨b, rfl, k _ _ H q (Same.refl _) (.int _)⟩
def dListOf (t : DA) : DA := fun δ Q => t δ fun ds => ∃ xs, (ds = [.list xs] ∨ ds = [.tuple xs]) ∧ Q xs
/-! xs[::-1] -/
def dRev (t : DT) : DA := fun δ Q => t δ fun d => ∃ xs, d = .list xs ∧ Q xs.reverse
end
end L2

namespace L2
open PySem PySem.Spec PyProof.Rows PySem.W
section
variable {X : Cx} {pins : List (Addr × Obj)} {σ : St} {H : Hp} {s : Shared}
theorem Inv.swap {p : Addr} {o' : HO} (I : Inv X pins σ H s) (mu : Mut (H p)) (new : ObjOk X.prog X.w (upd H p o') s.heap p o') : Inv X pins σ (upd H p o') s := by
  have hp : ∃ o, H p = some o := by
    cases e : H p with
    | none => rw [e] at mu; exact mu.elim
    | some o => exact ⟨o, rfl⟩
  obtain ⟨o, ho⟩ := hp
  have nn : ∀ {b : Addr}, H b = none → b ≠ p := fun hb z => by rw [z, ho] at hb; cases hb
  have nt : ∀ {b : Addr} {xs : List V}, H b = some (.tup xs) → b ≠ p := fun hb z => by rw [z] at hb; rw [hb] at mu; exact mu
  have nw : ∀ {b y : Addr}, H b = some (.own y) → b ≠ p := fun hb z => by rw [z] at hb; rw [hb] at mu; exact mu
  have nf : ∀ {b : Addr} {ob : Obj} {u : HO}, H b = some (.frz ob u) → b ≠ p := fun hb z => by rw [z] at hb; rw [hb] at mu; exact mu
  have nb : ∀ {b : Addr} {ps : Array Value}, H b = some (.tbl ps) → b ≠ p := fun hb z => by rw [z] at hb; rw [hb] at mu; exact mu
  have ub := I.base
  refine ⟨I.ok, I.os, I.bare, ⟨ub.keep, ub.slot, fun b ob e n hx => ?_, ub.there, fun b xs z => ?_, fun b ob u z => ?_, fun b ps z => ?_⟩, I.loc, I.cell, ?_, fun x c e => ?_, fun q hq => ?_, fun b u e => ?_, I.len⟩
  · have := ub.free b ob e n hx; rw [upd_ne (nn this)]; exact this
  · have := ub.tups b xs z; rw [upd_ne (nt this)]; exact this
  · have := ub.frzs b ob u z; rw [upd_ne (nf this)]; exact this
  · obtain ⟨m, this⟩ := ub.tbls b ps z; exact ⟨m, by rw [upd_ne (nb this)]; exact this⟩
  · rw [upd_ne (nn I.free)]; exact I.free
  · have := I.freeC x c e; rw [upd_ne (nn this)]; exact this
  · obtain ⟨a, b, c⟩ := I.pin q hq
    exact ⟨a, by rw [upd_ne (nn b)]; exact b, c⟩
  · by_cases hb : b = p
    · subst hb; rw [upd_same] at e; cases e; exact new
    · rw [upd_ne hb] at e
      exact (I.hok b u e).stay (fun _ _ _ q => q) (fun c z => by rw [upd_ne (nw z)]; exact z) fun c xs z => by rw [upd_ne (nt z)]; exact z
theorem Inv.open {p : Addr} (I : Inv X pins σ H s) (e : H p = some (packO p)) : ∃ n, Inv X pins σ (upd H p (.lst [.int n])) s := by
  obtain ⟨⟨n, t, k, h⟩, _, _⟩ := (show ObjOk X.prog X.w H s.heap p (packO p) from I.hok p _ e)
  exact ⟨n, I.swap (by rw [e]; exact True.intro) ⟨(show 1 ≤ sizeLine by decide), [.int n t], k, .cons ⟨t, rfl⟩ .nil, h⟩⟩
theorem Inv.shut {p : Addr} {n : Int} (I : Inv X pins σ H s) (e : H p = some (.lst [.int n])) : Inv X pins σ (upd H p (packO p)) s := by
  obtain ⟨_, its, k, r, h⟩ := (show ObjOk X.prog X.w H s.heap p (.lst [.int n]) from I.hok p _ e)
  cases r with
  | cons r1 r2 =>
    cases r2
    obtain ⟨t, rfl⟩ := r1
    refine I.swap (by rw [e]; exact True.intro) ⟨⟨n, t, k, h⟩, ⟨_, h⟩, fun h1 h2 ⟨n, t, k, z⟩ kk => ⟨n, t, k, kk _ z⟩⟩
/-- a body that works at one pack: it is open there, and shut behind -/
theorem PSs.pack {st : List Stmt} {t : TS} (h : PSs X st t) : PSs X st (fun D σ H => ∃ p, H p = some (packO p) ∧ ∀ n, t { nx := fun σ' H' => ∃ n', H' p = some (.lst [.int n']) ∧ D.nx σ' (upd H' p (packO p)), rt := fun v H' => ∃ n', H' p = some (.lst [.int n']) ∧ D.rt v (upd H' p (packO p)) } σ (upd H p (.lst [.int n]))) := by
  intro pins s σ H D I ⟨p, e, q⟩
  obtain ⟨n, I1⟩ := I.open e
  refine thn (h pins s σ _ _ I1 (q n)) fun f s1 z => ?_
  cases f with
  | next => obtain ⟨σ', H', J, n', e', q'⟩ := z; exact ⟨σ', _, J.shut e', q'⟩
  | ret u => obtain ⟨v, σ', H', J, r, n', e', q'⟩ := z; exact ⟨v, σ', _, J.shut e', r, q'⟩
  | brk => obtain ⟨_, _, _, z⟩ := z; exact z.elim
  | cont => obtain ⟨_, _, _, z⟩ := z; exact z.elim
/-- a body that gives a new pack -/
theorem PSs.newPack {st : List Stmt} {t : TS} (h : PSs X st t) : PSs X st (fun D σ H => t { nx := fun _ _ => False, rt := fun v H' => ∃ p n, v = .ref p ∧ H' p = some (.lst [.int n]) ∧ D.rt v (upd H' p (packO p)) } σ H) := by
  intro pins s σ H D I q
  refine thn (h pins s σ _ _ I q) fun f s1 z => ?_
  cases f with
  | next => obtain ⟨_, _, _, z⟩ := z; exact z.elim
  | ret u => obtain ⟨v, σ', H', J, r, p, n', e, e', q'⟩ := z; subst e; exact ⟨_, σ', _, J.shut e', r, q'⟩
  | brk => obtain ⟨_, _, _, z⟩ := z; exact z.elim
  | cont => obtain ⟨_, _, _, z⟩ := z; exact z.elim
end
/-- what a draw tells: any digit below the size -/
def F_take : List PyData → (PyData → Prop) → Prop := fun ds Q => ∃ z : Int, ds = [packD, .int z] ∧ 0 < z ∧ z ≤ 1000000 ∧ ∀ i : Int, 0 ≤ i → i < z → Q (.int i)
/-- a pack of a script's cell -/
def F_pack : List PyData → (PyData → Prop) → Prop := fun ds Q => ∃ (ns : List Int) (i : Int), ds = [scrD (ns.map .int), .int i] ∧ (∀ z ∈ ns, Builtin.Int.intBits z ≤ 1048576) ∧ 0 ≤ i ∧ i ≤ 64 ∧ Q packD
theorem atI_c0 {α : Type} {a : α} {l : List α} : atI (a :: l) 0 = some a := atI_nat (j := 0) rfl
theorem atI_c1 {α : Type} {a b : α} {l : List α} : atI (a :: b :: l) 1 = some b := atI_nat (j := 1) rfl
theorem atI_c2 {α : Type} {a b c : α} {l : List α} : atI (a :: b :: c :: l) 2 = some c := atI_nat (j := 2) rfl
theorem atI_c3 {α : Type} {a b c d : α} {l : List α} : atI (a :: b :: c :: d :: l) 3 = some d := atI_nat (j := 3) rfl
theorem atI_c4 {α : Type} {a b c d e : α} {l : List α} : atI (a :: b :: c :: d :: e :: l) 4 = some e := atI_nat (j := 4) rfl
theorem shp_int {i : Int} : Shp (.int i) := rfl
theorem shp_bl {i : Bool} : Shp (.bool i) := rfl
theorem shp_non : Shp .none := rfl
theorem eqv_str {x y : Str} : PyData.eqv (.str x) (.str y) = (x == y) := by simp [PyData.eqv]
theorem eqv_int {x y : Int} : PyData.eqv (.int x) (.int y) = (x == y) := by simp [PyData.eqv]
theorem eqv_bool {x y : Bool} : PyData.eqv (.bool x) (.bool y) = (x == y) := by simp [PyData.eqv]
theorem shp_str {x : Str} : Shp (.str x) ↔ PyData.strOk x = true := by
  unfold Shp SeqAt.shaped
  simp [PyData.canLay0, PyData.depth]
theorem sIx_none {n d : Nat} : HT.sIx n d none = d := rfl
theorem sIx_in {n d : Nat} {i : Int} (h0 : 0 ≤ i) (h1 : i ≤ n) : HT.sIx n d (some i) = i.toNat := by
  obtain ⟨j, rfl⟩ := Int.eq_ofNat_of_zero_le h0
  rw [HT.sIx_nat, Int.toNat_natCast]
  omega
theorem cutD_take {xs : List PyData} {i : Int} (h0 : 0 ≤ i) (h1 : i ≤ xs.length) : cutD xs none (some i) = xs.take i.toNat := by
  unfold cutD; rw [sIx_none, sIx_in h0 h1]; simp
theorem cutD_drop {xs : List PyData} {i : Int} (h0 : 0 ≤ i) (h1 : i ≤ xs.length) : cutD xs (some i) none = xs.drop i.toNat := by
  unfold cutD; rw [sIx_none, sIx_in h0 h1, List.take_of_length_le (by rw [List.length_drop]; exact Nat.le_refl _)]
theorem rangeD_at {lo : Int} {n i : Nat} {x : PyData} (h : (rangeD lo n)[i]? = some x) : i < n ∧ x = .int (lo + i) := by
  unfold rangeD at h
  rw [List.getElem?_map] at h
  by_cases hi : i < n
  · rw [List.getElem?_range hi] at h; exact ⟨hi, (Option.some.inj h).symm⟩
  · rw [List.getElem?_eq_none (by simpa using hi)] at h; cases h
end L2

namespace L2
open PySem PySem.Spec PyProof.Rows

/-! ### lists of pairs as tables -/
section
variable {κ : Type} [DecidableEq κ]
def valV (kvs : List (κ × V)) (k : κ) : Option V := (kvs.find? fun kv => decide (kv.1 = k)).map (·.2)
/-- in its place, or at the end -/
def putK (kvs : List (κ × V)) (k : κ) (v : V) : List (κ × V) :=
  if (kvs.any fun kv => decide (kv.1 = k)) = true then kvs.map (fun kv => if kv.1 = k then (kv.1, v) else kv) else kvs ++ [(k, v)]
def dropK (kvs : List (κ × V)) (k : κ) : List (κ × V) := kvs.filter fun kv => decide (kv.1 ≠ k)

theorem valV_pos {p : κ × V} {r : List (κ × V)} {k : κ} (e : p.1 = k) : valV (p :: r) k = some p.2 := by simp [valV, List.find?_cons, e]
theorem valV_neg {p : κ × V} {r : List (κ × V)} {k : κ} (e : ¬ p.1 = k) : valV (p :: r) k = valV r k := by simp [valV, List.find?_cons, e]
theorem valV_any (k : κ) : ∀ kvs : List (κ × V), (kvs.any fun kv => decide (kv.1 = k)) = (valV kvs k).isSome
  | [] => rfl
  | p :: r => by
    rw [List.any_cons]
    by_cases e : p.1 = k
    · simp only [valV_pos e, decide_eq_true e, Bool.true_or, Option.isSome_some]
    · rw [valV_neg e, decide_eq_false e, Bool.false_or]; exact valV_any k r
theorem RelO.isSome_eq {o : Option V} {u : Option Value} (r : RelO o u) : o.isSome = u.isSome := by
  cases o with
  | none => cases u with
    | none => rfl
    | some _ => exact (show False from r).elim
  | some _ => cases u with
    | none => exact (show False from r).elim
    | some _ => rfl
theorem RelO.getD {o : Option V} {u : Option Value} {d : V} {d' : Value} (r : RelO o u) (rd : RelV d d') : RelV (o.getD d) (u.getD d') := by
  cases o with
  | none => cases u with
    | none => exact rd
    | some _ => exact (show False from r).elim
  | some _ => cases u with
    | none => exact (show False from r).elim
    | some _ => exact r

/-- raw tables of the same keys -/
theorem KV.val {kvs : List (κ × V)} {vs : List (κ × Value)} (r : KV kvs vs) (k : κ) : RelO (valV kvs k) (valueAt vs k) := by
  unfold KV at r
  induction r with
  | nil => exact True.intro
  | @cons p q ps qs h t ih =>
    obtain ⟨h1, h2⟩ := h
    by_cases e : p.1 = k
    · have e' : q.1 = k := h1.symm.trans e
      have b : valueAt (q :: qs) k = some q.2 := by simp [valueAt, List.find?_cons, e']
      rw [valV_pos e, b]; exact h2
    · have e' : ¬ q.1 = k := fun z => e (h1.trans z)
      have b : valueAt (q :: qs) k = valueAt qs k := by simp [valueAt, List.find?_cons, e']
      rw [valV_neg e, b]; exact ih
theorem KV.any {kvs : List (κ × V)} {vs : List (κ × Value)} (r : KV kvs vs) (k : κ) : (kvs.any fun kv => decide (kv.1 = k)) = vs.any fun kv => decide (kv.1 = k) := by
  unfold KV at r
  induction r with
  | nil => rfl
  | cons h t ih => rw [List.any_cons, List.any_cons, ih, h.1]
theorem KV.repl {kvs : List (κ × V)} {vs : List (κ × Value)} (r : KV kvs vs) (k : κ) {y : V} {u : Value} (ry : RelV y u) :
    KV (kvs.map fun kv => if kv.1 = k then (kv.1, y) else kv) (vs.map fun kv => if kv.1 = k then (kv.1, u) else kv) := by
  unfold KV at r ⊢
  induction r with
  | nil => exact .nil
  | @cons p q ps qs h t ih =>
    rw [List.map_cons, List.map_cons]
    refine .cons ?_ ih
    obtain ⟨h1, h2⟩ := h
    by_cases e : p.1 = k
    · rw [if_pos e, if_pos (h1.symm.trans e)]; exact ⟨h1, ry⟩
    · rw [if_neg e, if_neg (fun z => e (h1.trans z))]; exact ⟨h1, h2⟩
theorem KV.put {kvs : List (κ × V)} {vs : List (κ × Value)} (r : KV kvs vs) (k : κ) {y : V} {u : Value} (ry : RelV y u) : KV (putK kvs k y) (stored vs k u) := by
  unfold putK stored
  rw [r.any k]
  by_cases e : (vs.any fun kv => decide (kv.1 = k)) = true
  · rw [if_pos e, if_pos e]; exact r.repl k ry
  · rw [if_neg e, if_neg e]; exact Paired.snoc r ⟨rfl, ry⟩
theorem KV.drop {kvs : List (κ × V)} {vs : List (κ × Value)} (r : KV kvs vs) (k : κ) : KV (dropK kvs k) (without vs k) := by
  unfold KV at r ⊢
  unfold dropK without
  induction r with
  | nil => exact .nil
  | @cons p q ps qs h t ih =>
    obtain ⟨h1, h2⟩ := h
    rw [List.filter_cons, List.filter_cons]
    by_cases e : p.1 = k
    · have a : ¬ decide (p.1 ≠ k) = true := by simp [e]
      have b : ¬ decide (q.1 ≠ k) = true := by simp [h1.symm.trans e]
      rw [if_neg a, if_neg b]; exact ih
    · have e' : ¬ q.1 = k := fun z => e (h1.trans z)
      have a : decide (p.1 ≠ k) = true := by simp [e]
      have b : decide (q.1 ≠ k) = true := by simp [e']
      rw [if_pos a, if_pos b]; exact .cons ⟨h1, h2⟩ ih
theorem KV.keys {kvs : List (κ × V)} {vs : List (κ × Value)} (r : KV kvs vs) : kvs.map (·.1) = vs.map (·.1) := by
  unfold KV at r
  induction r with
  | nil => rfl
  | cons h t ih => rw [List.map_cons, List.map_cons, ih, h.1]
theorem KV.length {kvs : List (κ × V)} {vs : List (κ × Value)} (r : KV kvs vs) : kvs.length = vs.length := Paired.length r
end


/-! ### a tracked dict, its keys ints and texts or tuples of these -/
/-- raw entries of a dict with tuple keys -/
abbrev KT (H : Hp) : List (List Key × V) → List (List Key × Addr × Value) → Prop := Paired fun p q => p.1 = q.1 ∧ H q.2.1 = some (.tup (p.1.map kV)) ∧ RelV p.2 q.2.2
theorem KT.val {H : Hp} {kvs : List (List Key × V)} {xs : List (List Key × Addr × Value)} (r : KT H kvs xs) (k : List Key) : RelO (valV kvs k) ((atKey xs k).map (·.2)) := by
  induction r with
  | nil => exact True.intro
  | @cons p q ps qs h t ih =>
    obtain ⟨h1, _, h2⟩ := h
    by_cases e : p.1 = k
    · have e' : q.1 = k := h1.symm.trans e
      have b : atKey (q :: qs) k = some q.2 := by simp [atKey, List.find?_cons, e']
      rw [valV_pos e, b]; exact h2
    · have e' : ¬ q.1 = k := fun z => e (h1.trans z)
      have b : atKey (q :: qs) k = atKey qs k := by simp [atKey, List.find?_cons, e']
      rw [valV_neg e, b]; exact ih
theorem KT.repl {H : Hp} {kvs : List (List Key × V)} {xs : List (List Key × Addr × Value)} (r : KT H kvs xs) (k : List Key) {y : V} {u : Value} (ry : RelV y u) :
    KT H (kvs.map fun kv => if kv.1 = k then (kv.1, y) else kv) (xs.map (putAt k u)) := by
  induction r with
  | nil => exact .nil
  | @cons p q ps qs h t ih =>
    rw [List.map_cons, List.map_cons]
    refine .cons ?_ ih
    obtain ⟨h1, h2, h3⟩ := h
    unfold putAt
    by_cases e : p.1 = k
    · rw [if_pos e, if_pos (h1.symm.trans e)]; exact ⟨h1, h2, ry⟩
    · rw [if_neg e, if_neg (fun z => e (h1.trans z))]; exact ⟨h1, h2, h3⟩
theorem KT.put {H : Hp} {kvs : List (List Key × V)} {xs : List (List Key × Addr × Value)} (r : KT H kvs xs) (k : List Key) {b : Addr} {y : V} {u : Value} (hb : H b = some (.tup (k.map kV))) (ry : RelV y u) :
    KT H (putK kvs k y) (storedH xs k b u) := by
  have e : (kvs.any fun kv => decide (kv.1 = k)) = (atKey xs k).isSome := by
    rw [valV_any, (r.val k).isSome_eq, Option.isSome_map]
  unfold putK storedH
  rw [e]
  by_cases q : (atKey xs k).isSome = true
  · rw [if_pos q, if_pos q]; exact r.repl k ry
  · rw [if_neg q, if_neg q]; exact Paired.snoc r ⟨rfl, hb, ry⟩
theorem KT.keeps {H H' : Hp} {kvs : List (List Key × V)} {xs : List (List Key × Addr × Value)} (r : KT H kvs xs) (ht : ∀ b ys, H b = some (.tup ys) → H' b = some (.tup ys)) : KT H' kvs xs :=
  Paired.mapP r fun _ _ z => ⟨z.1, ht _ _ z.2.1, z.2.2⟩

section
variable {P : Program} {w : World} {H : Hp} {h : Heap} {a : Addr}
end

/-- what the dict at a holds at the key y -/
def DGet (H : Hp) (a : Addr) (y : V) (r : Option V) : Prop :=
  (∃ kvs k, Rd H a (.dK kvs) ∧ y = kV k ∧ r = valV kvs k) ∨ ∃ kvs k b, Rd H a (.dT kvs) ∧ y = .ref b ∧ H b = some (.tup (k.map kV)) ∧ r = valV kvs k
/-- the heap behind a[y] = v -/
def DPut (H : Hp) (a : Addr) (y v : V) (H' : Hp) : Prop :=
  (∃ kvs k, H a = some (.dK kvs) ∧ y = kV k ∧ kvs.length < sizeLine ∧ H' = upd H a (.dK (putK kvs k v))) ∨
  ∃ kvs k b, H a = some (.dT kvs) ∧ y = .ref b ∧ H b = some (.tup (k.map kV)) ∧ kvs.length < sizeLine ∧ H' = upd H a (.dT (putK kvs k v))
theorem DGet.k {H : Hp} {a : Addr} {kvs : List (Key × V)} {k : Key} (e : H a = some (.dK kvs)) : DGet H a (kV k) (valV kvs k) := .inl ⟨kvs, k, .inl e, rfl, rfl⟩
theorem DGet.t {H : Hp} {a b : Addr} {kvs : List (List Key × V)} {k : List Key} (e : H a = some (.dT kvs)) (eb : H b = some (.tup (k.map kV))) : DGet H a (.ref b) (valV kvs k) := .inr ⟨kvs, k, b, .inl e, rfl, eb, rfl⟩
theorem DPut.k {H : Hp} {a : Addr} {kvs : List (Key × V)} {k : Key} {v : V} (e : H a = some (.dK kvs)) (hl : kvs.length < sizeLine) : DPut H a (kV k) v (upd H a (.dK (putK kvs k v))) := .inl ⟨kvs, k, e, rfl, hl, rfl⟩
theorem DPut.t {H : Hp} {a b : Addr} {kvs : List (List Key × V)} {k : List Key} {v : V} (e : H a = some (.dT kvs)) (eb : H b = some (.tup (k.map kV))) (hl : kvs.length < sizeLine) :
    DPut H a (.ref b) v (upd H a (.dT (putK kvs k v))) := .inr ⟨kvs, k, b, e, rfl, eb, hl, rfl⟩


section
variable {X : Cx} {pins : List (Addr × Obj)} {σ : St} {H : Hp} {s : Shared} {a : Addr} {y v : V} {u r : Value} {o : Option V} {A : Around} {E : Value → Shared → Prop}

end

section
variable {X : Cx} {pins : List (Addr × Obj)} {σ : St} {H : Hp} {s : Shared} {a : Addr} {kvs : List (Key × V)} {k : Key} {u : Value} {A : Around} {E : Value → Shared → Prop}
end


/-! ### readings and rules -/
/-- the element of a subscription, not a slice -/
def NoSl (i : Expr) : Prop := ∀ ov iv, subscripted i false ov iv = operate [ov, iv] (getItem ov iv)
/-- d[y] -/
def tDGet (td ty : TE) : TE := fun σ H Q => td σ H fun x H1 => ty σ H1 fun y H2 => ∃ a v, x = .ref a ∧ DGet H2 a y (some v) ∧ Q v H2
/-- y in d, y not in d -/
def tDIn (ty td : TE) : TE := fun σ H Q => ty σ H fun y H1 => td σ H1 fun x H2 => ∃ a o, x = .ref a ∧ DGet H2 a y o ∧ Q (.bl o.isSome) H2
def tDNotIn (ty td : TE) : TE := fun σ H Q => ty σ H fun y H1 => td σ H1 fun x H2 => ∃ a o, x = .ref a ∧ DGet H2 a y o ∧ Q (.bl (!o.isSome)) H2
/-- d[y] = v -/
def sDPut (td ty tv : TE) : TS := fun D σ H => tv σ H fun v H1 => td σ H1 fun x H2 => ty σ H2 fun y H3 => ∃ a H4, x = .ref a ∧ DPut H3 a y v H4 ∧ D.nx σ H4
/-- d[y] op= v -/
def sDAug (td ty tv : TE) (rd : V → V → Hp → VK → Prop) : TS := fun D σ H => td σ H fun x H1 => ty σ H1 fun y H2 => ∃ a v, x = .ref a ∧ DGet H2 a y (some v) ∧
  tv σ H2 fun y2 H3 => rd v y2 H3 fun z H4 => ∃ H5, DPut H4 a y z H5 ∧ D.nx σ H5
/-- del d[y] -/
def sDDel (td ty : TE) : TS := fun D σ H => td σ H fun x H1 => ty σ H1 fun y H2 => ∃ a kvs k, x = .ref a ∧ H2 a = some (.dK kvs) ∧ y = kV k ∧ (valV kvs k).isSome = true ∧ D.nx σ (upd H2 a (.dK (dropK kvs k)))

section
variable {X : Cx} {o i e value : Expr} {pos pos' tpos : Pos} {td ty tv : TE}
end


/-! ### displays -/
/-- {}, to be a dict of the kind that is wanted -/
def tDNewK : TE := fun _ H Q => ∀ p, H p = none → Q (.ref p) (upd H p (.dK []))
def tDNewT : TE := fun _ H Q => ∀ p, H p = none → Q (.ref p) (upd H p (.dT []))
section
variable {X : Cx} {pos : Pos}
end

/-- the pairs of a display, from the left -/
def tPairs : List (TE × TE) → St → Hp → (List (V × V) → Hp → Prop) → Prop
  | [], _, H, Q => Q [] H
  | (tk, tv) :: r, σ, H, Q => tk σ H fun x H1 => tv σ H1 fun y H2 => tPairs r σ H2 fun ps H3 => Q ((x, y) :: ps) H3
abbrev VV : List (V × V) → List (Value × Value) → Prop := Paired fun p q => RelV p.1 q.1 ∧ RelV p.2 q.2
def PPs (X : Cx) (pos : Pos) (keys : List (Option Expr)) (values : List Expr) (trs : List (TE × TE)) : Prop :=
  ∀ (pins : List (Addr × Obj)) (s : Shared) (σ : St) (H : Hp) (Q : List (V × V) → Hp → Prop), Inv X pins σ H s → tPairs trs σ H Q →
    wpAny (model X.prog X.w) X.A (evalPairs (pairTrees keys values X.env pos)) (fun vs s' => ∃ ps H', Inv X pins σ H' s' ∧ VV ps vs ∧ Q ps H') X.xe s
def mergeK (kvs more : List (Key × V)) : List (Key × V) := more.foldl (fun acc kv => putK acc kv.1 kv.2) kvs
/-- {k: v, ..} with keys ints and texts; the new dict stands empty while the pairs are made -/
def tDisp (trs : List (TE × TE)) : TE := fun σ H Q => ∀ p, H p = none → tPairs trs σ (upd H p (.dK [])) fun ps H2 => H2 p = some (.dK []) ∧ ∃ kvs : List (Key × V), ps = kvs.map (fun kv => (kV kv.1, kv.2)) ∧ kvs.length ≤ 15 ∧ Q (.ref p) (upd H2 p (.dK (mergeK [] kvs)))
/-! ### methods -/
/-- a method call o.m(e) of a built-in, with one argument: what must be seen of the text -/
structure M1 (X : Cx) (o : Expr) (m : Str) (apos : Pos) (e : Expr) (cpos : Pos) : Prop where
  base : attributeBase o m X.env (eval o X.env) = eval o X.env
  few : ((backTo cpos (starEach [e] X.env)).all (fun x => !x.1) && (backToKw cpos (keywordEach [] X.env)).all (fun x => x.1.isSome)
    && decide (([e] : List Expr).length + ([] : List Keyword).length + (if ([] : List Keyword).isEmpty then 0 else 1) < 30)) = true
  line : (apos.endLine == cpos.line) = true
  trees : backTo cpos (starEach [e] X.env) = [(false, eval e X.env)]
structure M2 (X : Cx) (o : Expr) (m : Str) (apos : Pos) (e f : Expr) (cpos : Pos) : Prop where
  base : attributeBase o m X.env (eval o X.env) = eval o X.env
  few : ((backTo cpos (starEach [e, f] X.env)).all (fun x => !x.1) && (backToKw cpos (keywordEach [] X.env)).all (fun x => x.1.isSome)
    && decide (([e, f] : List Expr).length + ([] : List Keyword).length + (if ([] : List Keyword).isEmpty then 0 else 1) < 30)) = true
  line : (apos.endLine == cpos.line) = true
  trees : backTo cpos (starEach [e, f] X.env) = [(false, eval e X.env), (false, eval f X.env)]

/-- a is a dict, whatever its keys -/
def IsD (H : Hp) (a : Addr) : Prop := (∃ kvs, Rd H a (.dK kvs)) ∨ ∃ kvs, Rd H a (.dT kvs)
section
variable {X : Cx} {pins : List (Addr × Obj)} {σ : St} {H : Hp} {s : Shared} {a : Addr} {y d : V} {u r : Value} {o : Option V} {A : Around} {E : Value → Shared → Prop}
end

def tDGet1 (td ty : TE) : TE := fun σ H Q => td σ H fun x H1 => ∃ a, x = .ref a ∧ IsD H1 a ∧ ty σ H1 fun y H2 => ∃ o, DGet H2 a y o ∧ Q (o.getD .non) H2
def tDGet2 (td ty tx : TE) : TE := fun σ H Q => td σ H fun x H1 => ∃ a, x = .ref a ∧ IsD H1 a ∧ ty σ H1 fun y H2 => tx σ H2 fun z H3 => ∃ o, DGet H3 a y o ∧ Q (o.getD z) H3
/-- d.pop(k): there; d.pop(k, x): there or not -/
def tDPop1 (td ty : TE) : TE := fun σ H Q => td σ H fun x H1 => ∃ a, x = .ref a ∧ IsD H1 a ∧ ty σ H1 fun y H2 => ∃ kvs k v, H2 a = some (.dK kvs) ∧ y = kV k ∧ valV kvs k = some v ∧ Q v (upd H2 a (.dK (dropK kvs k)))
def tDPop2 (td ty tx : TE) : TE := fun σ H Q => td σ H fun x H1 => ∃ a, x = .ref a ∧ IsD H1 a ∧ ty σ H1 fun y H2 => tx σ H2 fun z H3 => ∃ kvs k, H3 a = some (.dK kvs) ∧ y = kV k ∧
  (∀ v, valV kvs k = some v → Q v (upd H3 a (.dK (dropK kvs k)))) ∧ (valV kvs k = none → Q z H3)
section
variable {X : Cx} {o e f : Expr} {apos cpos : Pos} {td ty tx : TE}
end

/-! ### dict(d): a copy -/
section
variable {X : Cx} {pins : List (Addr × Obj)} {σ : St} {H : Hp} {s : Shared} {a : Addr} {kvs : List (Key × V)} {A : Around} {E : Value → Shared → Prop}
end


section
variable {X : Cx} {pins : List (Addr × Obj)} {σ : St} {H : Hp} {s : Shared} {a : Addr} {y : V} {u : Value} {A : Around} {E : Value → Shared → Prop}
end
end L2

namespace L2
open PySem PySem.Spec PyProof.Rows PySem.W
section
variable {X : Cx} {H0 : Hp} {O0 : Ex}
/-- {a: c, b: d}[e], texts -/
def dSel (a b c d : Str) (t : DT) : DT := fun δ Q => t δ fun y => (y = .str a ∧ Q (.str c)) ∨ (y = .str b ∧ Q (.str d))
/-- written texts and numbers -/
def litsOf : List Expr → Option (List PyData)
  | [] => some []
  | .Constant (.int i) _ _ :: r => (litsOf r).map (.int i :: ·)
  | .Constant (.str x) _ _ :: r => (litsOf r).map (.str x :: ·)
  | _ :: _ => none
def dLits (ds : List PyData) : DA := fun _ Q => Q ds
theorem da_lits : ∀ {es : List Expr} {ds : List PyData}, litsOf es = some ds → PA X es (upA X.K H0 O0 (dLits ds))
  | [], ds, h => by cases h; exact da_nil
  | e :: r, ds, h => by
    cases e with
    | Constant c j p =>
      cases c with
      | int i =>
        have h' : (litsOf r).map (.int i :: ·) = some ds := h
        cases q : litsOf r with
        | none => rw [q] at h'; cases h'
        | some ms => rw [q] at h'; cases h'; exact da_cons de_int (da_lits q)
      | str x =>
        have h' : (litsOf r).map (.str x :: ·) = some ds := h
        cases q : litsOf r with
        | none => rw [q] at h'; cases h'
        | some ms => rw [q] at h'; cases h'; exact da_cons de_str (da_lits q)
      | _ => cases h
    | _ => cases h
def litsE : Expr → Option (List PyData)
  | .List es _ => litsOf es
  | _ => none
theorem fe_lits {e : Expr} {ds : List PyData} (h : litsE e = some ds) : FE X H0 O0 e (dFin (dLits ds)) := by
  cases e with
  | List es p => exact fe_lst (da_lits h)
  | _ => cases h
end
end L2

namespace L2
open PySem PySem.Spec PyProof.Rows PySem.W
/-- a text that may be compared, of at most n signs -/
structure GoodS (n : Nat) (x : Str) : Prop where
  ok : PyData.strOk x = true
  le : x.length ≤ n
theorem strOk_iff {x : Str} : PyData.strOk x = true ↔ ∀ c ∈ x.cps.toList, c < 0x110000 := by
  unfold PyData.strOk
  rw [← Array.all_toList, List.all_eq_true]
  simp
theorem cps_append (x y : Str) : (x ++ y).cps = x.cps ++ y.cps := rfl
theorem len_append (x y : Str) : (x ++ y).length = x.length + y.length := by
  show (x.cps ++ y.cps).size = _
  rw [Array.size_append]; rfl
theorem GoodS.append {a b : Nat} {x y : Str} (h : GoodS a x) (h' : GoodS b y) : GoodS (a + b) (x ++ y) := by
  refine ⟨strOk_iff.mpr fun c hc => ?_, by rw [len_append]; have := h.le; have := h'.le; omega⟩
  rw [cps_append, Array.toList_append] at hc
  rcases List.mem_append.mp hc with z | z
  · exact strOk_iff.mp h.ok c z
  · exact strOk_iff.mp h'.ok c z
theorem GoodS.mono {a b : Nat} {x : Str} (h : GoodS a x) (hb : a ≤ b) : GoodS b x := ⟨h.ok, Nat.le_trans h.le hb⟩
theorem GoodS.slice {a : Nat} {x : Str} (h : GoodS a x) (l u : Option Int) : GoodS a (Txt.slice x l u) := by
  refine ⟨strOk_iff.mpr fun c hc => ?_, Nat.le_trans (Txt.slice_le x l u) h.le⟩
  unfold Txt.slice at hc
  split at hc
  · exact strOk_iff.mp h.ok c hc
  · simp only [List.mem_filterMap] at hc
    obtain ⟨i, _, hi⟩ := hc
    exact strOk_iff.mp h.ok c (by
      have := Array.mem_of_getElem? hi
      simpa using this)
theorem GoodS.join : ∀ {ys : List Str}, (∀ y ∈ ys, GoodS 1 y) → GoodS ys.length (Txt.join "" ys) := by
  have key : ∀ ys : List Str, (∀ y ∈ ys, GoodS 1 y) → GoodS ys.length (Str.join "" ys) := by
    intro ys
    induction ys with
    | nil => intro _; exact ⟨by decide +kernel, by decide +kernel⟩
    | cons y r ih =>
      intro h
      cases r with
      | nil => exact h y (by simp)
      | cons z r =>
        have a := h y (by simp)
        have b := ih fun w hw => h w (by simp [hw])
        have e : GoodS 0 ("" : Str) := ⟨by decide +kernel, by decide +kernel⟩
        have := (a.append e).append b
        refine this.mono ?_
        simp only [List.length_cons]; omega
  intro ys h
  have e : Txt.join "" ys = Str.join "" ys := StrLaws.glued_eq_join "" ys
  rw [e]; exact key ys h
/-- the letters -/
def abc : Str := "abcdefghijklmnopqrstuvwxyz"
theorem abc_ok : ∀ c ∈ abc.cps.toList, c < 0x110000 := by decide +kernel
def abcAt (j : Int) : Nat := (abc.cps.toList[j.toNat]?).getD 0
/-- data of at most n storeys -/
structure Lay (n : Nat) (d : PyData) : Prop where
  can : d.canLay0 = true
  dep : d.depth ≤ n
theorem Lay.mono {n m : Nat} {d : PyData} (h : Lay n d) (hn : n ≤ m) : Lay m d := ⟨h.can, Nat.le_trans h.dep hn⟩
end L2

namespace L2
open PySem PySem.Spec PyProof.Rows
section
variable {X : Cx} {pos : Pos}
/-- (a, b, ..) = a list of that length -/
def gLst (K : PySem.W.Frag) (n : Nat) (t : TGs) : TG := fun v σ H Q => ∃ a xs, v = .ref a ∧ SqL K H a xs ∧ xs.length = n ∧ t xs σ H Q
def dgLst (n : Nat) (t : DGs) : DG := fun x δ Q => ∃ xs, x = .list xs ∧ xs.length = n ∧ t xs δ Q
end
/-! a comprehension bound to a name -/
def PU (X : Cx) (e : Expr) (te : TE) : Prop := ∀ (i : Nat) (x : Str) (pos' spos : Pos) (hN : X.N.Nodup) (hxi : X.N[i]? = some x) (hx : Loc X.env.scope x) (hsw : swapsWith e (some (.Name x pos')) spos.line X.env = pure true)
  (hfn : X.fn x = true ∨ X.env.scope.names.lookup x = some .local), PS X (.Assign [.Name x pos'] e spos) (tAsg te (gName i))
theorem PU.imp {X : Cx} {e : Expr} {t u : TE} (h : PU X e t) (i : ∀ σ H Q, u σ H Q → t σ H Q) : PU X e u := fun i' x p1 p2 hN hxi hx hsw hfn => (h i' x p1 p2 hN hxi hx hsw hfn).imp fun D σ H z => i σ H _ z
section
variable {X : Cx} {H0 : Hp} {O0 : Ex}
section
variable {tg iter elt : Expr} {ifs : List Expr} {scope : Scope} {N' : List Str} {k : Nat} {fr : List Nat} {g : TG} {dg : DG} {t : DT} {ta : DA} {tc : DB} {te : DT} {pos p ps : Pos}
end
end
/-! == of data, the other way about -/
mutual
theorem eqv_comm : ∀ d e : PyData, PyData.eqv d e = PyData.eqv e d
  | .list xs, .list ys => by rw [PyData.eqv, PyData.eqv]; exact eqvAll_comm xs ys
  | .tuple xs, .tuple ys => by rw [PyData.eqv, PyData.eqv]; exact eqvAll_comm xs ys
  | .bool _, .bool _ | .int _, .int _ | .str _, .str _ => by simp only [PyData.eqv]; exact BEq.comm
  | .bool a, .int j | .int j, .bool a => by simp only [PyData.eqv]; exact BEq.comm
  | .none, .none => rfl
  | .dict _, .dict _ => by simp only [PyData.eqv]
  | .none, .bool _ | .none, .int _ | .none, .str _ | .none, .list _ | .none, .tuple _ | .none, .dict _ => by simp only [PyData.eqv]
  | .bool _, .none | .bool _, .str _ | .bool _, .list _ | .bool _, .tuple _ | .bool _, .dict _ => by simp only [PyData.eqv]
  | .int _, .none | .int _, .str _ | .int _, .list _ | .int _, .tuple _ | .int _, .dict _ => by simp only [PyData.eqv]
  | .str _, .none | .str _, .bool _ | .str _, .int _ | .str _, .list _ | .str _, .tuple _ | .str _, .dict _ => by simp only [PyData.eqv]
  | .list _, .none | .list _, .bool _ | .list _, .int _ | .list _, .str _ | .list _, .tuple _ | .list _, .dict _ => by simp only [PyData.eqv]
  | .tuple _, .none | .tuple _, .bool _ | .tuple _, .int _ | .tuple _, .str _ | .tuple _, .list _ | .tuple _, .dict _ => by simp only [PyData.eqv]
  | .dict _, .none | .dict _, .bool _ | .dict _, .int _ | .dict _, .str _ | .dict _, .list _ | .dict _, .tuple _ => by simp only [PyData.eqv]
theorem eqvAll_comm : ∀ xs ys : List PyData, PyData.eqvAll xs ys = PyData.eqvAll ys xs
  | [], [] => rfl
  | x :: xs, y :: ys => by rw [PyData.eqvAll, PyData.eqvAll, eqv_comm x y, eqvAll_comm xs ys]
  | [], _ :: _ => by rw [PyData.eqvAll, PyData.eqvAll]
  | _ :: _, [] => by rw [PyData.eqvAll, PyData.eqvAll]
end
end L2

namespace L2
open PySem PySem.Spec PyProof.Rows PySem.W
/-! a text walked sign by sign -/
def Its (z : Str) : It := ⟨fun i _ => i < z.cps.size, fun i H x H' => H' = H ∧ ∃ c, z.cps[i]? = some c ∧ x = .str ⟨#[c]⟩, fun i _ => z.cps.size ≤ i⟩
theorem itype_ok (z : Str) : ["enumerate", "zip", "dict_itemiterator", "dict_reverseitemiterator", "odict_iterator", "itertools.zip_longest", "itertools.pairwise"].contains (strIterType z) = false := by
  unfold strIterType; split <;> decide
theorem walks_str {P : Program} {w : World} {A : Around} (hh : A.handled = none) (I : Addr) (z : Str) (t : Tok) : Walks P w A I [I] [I] z.cps.size (SignAt z) (fun i h => h.IsStrIter I (strIterType z) z t i) := by
  unfold strIterType; split
  · exact Walks.strAscii hh I z t
  · exact Walks.strWide hh I z t
theorem turn_str {P : Program} {w : World} {K : PySem.W.Frag} {tg : Expr} (it : Addr) (z : Str) (t : Tok) : Turn P w K tg (Its z) [it] it (fun i h => h.IsStrIter it (strIterType z) z t i ∧ i ≤ z.cps.size) where
  mem := by simp
  obj := fun i h st b hb => by
    have e : b = it := by simpa using hb
    subst e
    obtain ⟨⟨o, e, c, d⟩, _⟩ := st
    exact ⟨o, e, fun v z => by rw [d] at z; cases z⟩
  keep := fun i h h' st k => by
    obtain ⟨⟨o, e, c, d⟩, l⟩ := st
    exact ⟨⟨o, k it (by simp) o e, c, d⟩, l⟩
  item := by
    intro X hP hw hK hc i pins s σ H E I hf st hg
    subst hP hw hK
    obtain ⟨f0, f1, f2, f3, f4, f5⟩ := hf it (by simp)
    have W := walks_str (P := X.prog) (w := X.w) (I.ok.hd hc) it z t
    refine W.item i s _ _ hg st.1 fun v h' tk hv st' kk => ?_
    obtain ⟨c, u, hc', rfl⟩ := hv
    have I1 : Inv X pins σ H { s with heap := h', toks := tk } := I.turned (fun b o hb e => kk b o (by simpa using hb) e) f0 f1 f3 f4 f5
    obtain ⟨o, e, cc, d⟩ := id st'
    exact ⟨_, rfl, go_of (s := { s with heap := h', toks := tk }) e cc d (itype_ok z) ⟨.str ⟨#[c]⟩, H, I1, ⟨u, rfl⟩, ⟨rfl, c, hc', rfl⟩, ⟨st', hg⟩, fun b hb => (hf b hb).1⟩⟩
  done := by
    intro X hP hw hK hc i pins s σ H E I hf st hg
    subst hP hw hK
    obtain ⟨f0, f1, f2, f3, f4, f5⟩ := hf it (by simp)
    have W := walks_str (P := X.prog) (w := X.w) (I.ok.hd hc) it z t
    have e : i = z.cps.size := Nat.le_antisymm st.2 hg
    subst e
    exact W.done s _ _ st.1 fun h' tk eb => ⟨rfl, I.turned (fun b o hb e => eb b o (by simpa using hb) e) f0 f1 f3 f4 f5⟩
  self := fun A i s Q E st h => by
    obtain ⟨st, _⟩ := st
    revert st
    unfold strIterType
    split
    · exact fun st => wpAny_pyIter_striter_ascii st h
    · exact fun st => wpAny_pyIter_striter_wide st h
def iStr (tl : TE) : TI := fun σ H R => tl σ H fun x H1 => ∃ z, x = .str z ∧ R (Its z) H1
theorem pi_str {X : Cx} {tg l : Expr} {tl : TE} (hl : PE X l tl) : PI X tg l (iStr tl) := by
  intro pins s σ H R I h
  refine thn (hl pins s σ H _ I h) fun v s1 ⟨x, H1, I1, r1, q1⟩ => ?_
  obtain ⟨z, e, q⟩ := q1
  subst e
  obtain ⟨t, rfl⟩ := r1
  refine wpAny_pyIter_strU ?_
  refine ⟨s1.heap.objs.size, [s1.heap.objs.size], _, _, H1, rfl, I1.kept (t' := s1.toks) fun b o e => Heap.get?_push_of_some _ e, turn_str _ z t, ⟨⟨_, Heap.get?_push_size _ rfl, rfl, rfl⟩, Nat.zero_le _⟩, fun b hb => ?_, q⟩
  have e : b = s1.heap.objs.size := by simpa using hb
  subst e
  exact I1.fpOk (Nat.le_refl _) (I1.hok.fresh (Nat.le_refl _))
/-- the signs of a text, as texts -/
def signsD (z : Str) : List PyData := z.cps.toList.map fun c => .str ⟨#[c]⟩
theorem SrcP.str {z : Str} : SrcP (Its z) (fun _ => True) (z.cps.toList.map fun c => V.str ⟨#[c]⟩) := by
  refine ⟨fun i H' s hi => (by simpa using hi : i < z.cps.size), fun i H' x H'' s hi y => ⟨y.1, ?_⟩, fun i H' s hi => (by simpa using hi : z.cps.size ≤ i)⟩
  obtain ⟨_, c, hc, rfl⟩ := y
  simp [hc]
theorem Dts.signs {K : PySem.W.Frag} {H : Hp} {O : Ex} : ∀ (l : List Nat), Dts K H O (l.map fun c => V.str ⟨#[c]⟩) (l.map fun c => PyData.str ⟨#[c]⟩)
  | [] => .nil
  | n :: r => .cons (.str _) (Dts.signs r)
section
variable {X : Cx} {H0 : Hp} {O0 : Ex}
def dCompSI (t : DT) (g : DG) (tc : DB) (te : DT) (k : Nat) (fr : List Nat) : DA := fun δ Q => t δ fun d => ∃ z, d = .str z ∧ z.length ≤ sizeLine ∧ compI g tc te (dst0 k fr δ) (signsD z) Q
def dCompR2I (ta : DA) (g : DG) (tc : DB) (te : DT) (k : Nat) (fr : List Nat) : DA := fun δ Q => ta δ fun ds => ∃ i j : Int, ds = [.int i, .int j] ∧ -(2 ^ 62) ≤ i ∧ j - i < sizeLine ∧ i < 2 ^ 62 ∧ -(2 ^ 62) ≤ j ∧ j < 2 ^ 62 ∧ compI g tc te (dst0 k fr δ) (rangeD i (j - i).toNat) Q
section
variable {tg iter elt : Expr} {ifs : List Expr} {scope : Scope} {N' : List Str} {k : Nat} {fr : List Nat} {g : TG} {dg : DG} {t : DT} {ta : DA} {tc : DB} {te : DT} {pos p ps : Pos}
theorem fe_compSI (hc : X.calm = true) (S : CompScope X.env.scope X.N N' k fr scope) (hi : DF X H0 O0 iter t) (gd : GD X.K g dg) (hk : KeepG g k) (hfr : fr.Nodup)
    (hg : ∀ fp C s H, PG (compCx X scope N' fp C s H) tg g) (hf : ∀ fp C s H, PIfs (compCx X scope N' fp C s H) ifs (upT X.K H0 O0 tc)) (he : ∀ fp C s H, PE (compCx X scope N' fp C s H) elt (up X.K H0 O0 te))
    (hs : ∀ x, foldedSetIterable iter X.env x = pure x := by intro _; rfl) : FE X H0 O0 (.ListComp elt [⟨tg, iter, ifs, 0⟩] scope pos) (dCompSI t dg tc te k fr) :=
  (pe_comp hc S (pi_str hi) hg hf he hs).imp fun σ H Q ⟨O, δ, Qd, w, q, kk⟩ => ⟨O, δ, _, w, q, fun d v H1 ⟨z, e, hz, q1⟩ s1 r1 => by
    subst e
    cases r1.str
    have hz' : (z.cps.toList.map fun c => V.str ⟨#[c]⟩).length ≤ sizeLine := by rw [List.length_map, Array.length_toList]; exact hz
    exact ⟨z, rfl, fun D hD => comp_stepI (P := fun _ => True) SrcP.str gd hfr (fun v _ H' R h => hk fr σ v H' R h) (fun _ _ _ z => z) (fun _ _ _ z => z) (fun _ _ _ _ => trivial) (Dts.signs _) (w.mono s1) hz' q1 (fun ds us p H' z s' hp r' => kk ds us p H' z (s1.trans s') hp r') D hD⟩⟩
end
/-! in, over data -/
def rInX (K : PySem.W.Frag) (neg : Bool) : R2 := fun x y H Q => ∃ O dx ds dy, Sh K H O x dx ∧ Sh K H O y dy ∧ (dy = .list ds ∨ dy = .tuple ds) ∧ Shp dx ∧ PyData.canLayAll0 ds = true ∧ Q (.bl (if neg then !(ds.any fun d => PyData.eqv d dx) else ds.any fun d => PyData.eqv d dx)) H
theorem room_in {A : Around} {k : Nat} {xs : List PyData} {d : PyData} (hd : Shp d) (hr : Room k A) : A.units + 1 + min (PyData.depthAll xs) d.depth < cLine := by
  have := SeqAt.depth_of_shaped hd
  have h1 : min (PyData.depthAll xs) d.depth ≤ d.depth := Nat.min_le_right _ _
  have := hr.un
  omega
theorem op_notInX {k : Nat} (hr : Room k X.A) : OpR X (compareOp .NotIn) (rInX X.K true) := by
  intro pins s σ H x y v u Q I rx ry h
  obtain ⟨O, dx, ds, dy, hx, hy, e, sx, sy, q⟩ := h
  obtain ⟨as, ra⟩ := dt_reads I hx.all (SeqAt.canLay_of_shaped sx) rx
  rcases e with e | e <;> subst e
  · obtain ⟨bs, rb⟩ := dt_reads I hy.all (by simpa [PyData.canLay0] using sy) ry
    exact SeqAt.notIn_list_reads rb ra sy (SeqAt.canLay_of_shaped sx) (room_in sx hr) (fin_bl I q rfl)
  · obtain ⟨bs, rb⟩ := dt_reads I hy.all (by simpa [PyData.canLay0] using sy) ry
    exact SeqAt.notIn_tuple_reads rb ra sy (SeqAt.canLay_of_shaped sx) (room_in sx hr) (fin_bl I q rfl)
def dInX (neg : Bool) : PyData → PyData → (PyData → Prop) → Prop := fun x y Q => ∃ ds, (y = .list ds ∨ y = .tuple ds) ∧ Shp x ∧ PyData.canLayAll0 ds = true ∧ Q (.bool (if neg then !(ds.any fun d => PyData.eqv d x) else ds.any fun d => PyData.eqv d x))
theorem od_inX {K : PySem.W.Frag} {neg : Bool} : OpD K (rInX K neg) (dInX neg) := fun H O x y dx dy Qd R _ hx hy ⟨ds, e, a, b, q⟩ k => ⟨O, dx, ds, dy, hx, hy, e, a, b, k _ _ H q (Same.refl _) (.bl _)⟩
/-! texts: len, <, in -/
def dLenT : List PyData → (PyData → Prop) → Prop := fun ds Q => ∃ z : Str, ds = [.str z] ∧ z.length ≤ sizeLine ∧ Q (.int z.length)
theorem cd_lenT {K : PySem.W.Frag} : CallD K (fun xs H Q => ∃ z, xs = [.str z] ∧ z.length ≤ sizeLine ∧ Q (.int z.length) H) dLenT := fun H O xs ds Qd R _ hs ⟨z, e, hz, q⟩ k => by
  subst e
  cases hs with
  | cons h r => cases r; cases h.str; exact ⟨z, rfl, hz, k _ _ H q (Same.refl _) (.int _)⟩
def dLtS : PyData → PyData → (PyData → Prop) → Prop := fun x y Q => ∃ i j : Str, x = .str i ∧ y = .str j ∧ Q (.bool (decide (i.cps.toList < j.cps.toList)))
def dInS : PyData → PyData → (PyData → Prop) → Prop := fun x y Q => ∃ i j : Str, x = .str i ∧ y = .str j ∧ Q (.bool (!(Builtin.Str.occurrences j i 0 j.length 1).isEmpty))
theorem od_inS {K : PySem.W.Frag} : OpD K (fun x y H Q => ∃ i j, x = .str i ∧ y = .str j ∧ Q (.bl (!(Builtin.Str.occurrences j i 0 j.length 1).isEmpty)) H) dInS := fun H O x y dx dy Qd R _ hx hy ⟨i, j, e1, e2, q⟩ k => by
  subst e1 e2; cases hx.str; cases hy.str; exact ⟨i, j, rfl, rfl, k _ _ H q (Same.refl _) (.bl _)⟩
/-! the whole of a tuple -/
def rSlX (K : PySem.W.Frag) : V → Option Int → Option Int → Hp → VK → Prop := fun x lo hi H Q => ∃ a xs, x = .ref a ∧ SqT K H a xs ∧
  ((HT.sIx xs.length 0 lo = 0 ∧ HT.sIx xs.length xs.length hi = xs.length) → Q x H) ∧ (¬ (HT.sIx xs.length 0 lo = 0 ∧ HT.sIx xs.length xs.length hi = xs.length) → ∀ p, H p = none → Q (.ref p) (upd H p (.tup (cutV xs lo hi))))
def dSlX (t : DT) (tl th : DO) : DT := fun δ Q => t δ fun d => tl δ fun l => th δ fun u => ∃ xs, d = .tuple xs ∧ Q (.tuple (cutD xs l u))
/-! sorted, of texts -/
def leS (a b : Str) : Bool := decide (a.cps.toList ≤ b.cps.toList)
def sortS (l : List Str) : List Str := l.mergeSort leS
theorem Dts.strs {K : PySem.W.Frag} {H : Hp} {O : Ex} : ∀ {ss : List Str} {vs : List V}, Dts K H O vs (ss.map PyData.str) → vs = ss.map V.str
  | [], _, r => by rw [List.map_nil] at r; cases r; rfl
  | b :: bs, _, r => by
    rw [List.map_cons] at r
    cases r with
    | cons h r => cases h; rw [List.map_cons, Dts.strs r]
theorem Dts.ofStrs {K : PySem.W.Frag} {H : Hp} {O : Ex} : ∀ (ss : List Str), Dts K H O (ss.map V.str) (ss.map PyData.str)
  | [] => .nil
  | s :: r => .cons (.str s) (Dts.ofStrs r)
def dSortS (t : DA) : DA := fun δ Q => t δ fun ds => ∃ ss : List Str, ds = [.list (ss.map .str)] ∧ ss.length < 64 ∧ Q ((sortS ss).map .str)
end
end L2

namespace PySem.SeqAt
open AutoSeq1 (wpAny_loadPart')
open MeetsSeq
section
variable {A : Around} {s : Shared}
end
end PySem.SeqAt
namespace L2
open PySem PySem.Spec PyProof.Rows PySem.W
section
variable {X : Cx} {pins : List (Addr × Obj)} {σ : St} {H : Hp} {s : Shared}
def isThing : PyData → Bool
  | .dict [(.none, _)] => false
  | _ => true
end
section
variable {X : Cx} {H0 : Hp} {O0 : Ex}
/-- a thing == a text -/
def rEqZ (K : PySem.W.Frag) : R2 := fun x y H Q => ∃ O dx z, Dt K H O x dx ∧ isThing dx = true ∧ y = .str z ∧ Q (.bl (PyData.eqv dx (.str z))) H
def dEqZ : PyData → PyData → (PyData → Prop) → Prop := fun x y Q => ∃ z, y = .str z ∧ isThing x = true ∧ Q (.bool (PyData.eqv x (.str z)))
theorem Sh.thing {K : PySem.W.Frag} {H : Hp} {O : Ex} {v : V} {d : PyData} (h : Sh K H O v d) : Dt K H (fun _ => False) v d := h.all
/-- a thing in a tuple of texts -/
def rInZ (K : PySem.W.Frag) : R2 := fun x y H Q => ∃ (O : Ex) (dx : PyData) (zs : List Str) (a : Addr), Dt K H O x dx ∧ isThing dx = true ∧ y = .ref a ∧ SqT K H a (zs.map V.str) ∧ Q (.bl (zs.any fun z => PyData.eqv (.str z) dx)) H
def dInZ : PyData → PyData → (PyData → Prop) → Prop := fun x y Q => ∃ zs : List Str, y = .tuple (zs.map .str) ∧ isThing x = true ∧ Q (.bool (zs.any fun z => PyData.eqv (.str z) x))
end
end L2
namespace L2
open PySem
theorem take_iff {z : Int} {Q : PyData → Prop} : F_take [packD, .int z] Q ↔ (0 < z ∧ z ≤ 1000000 ∧ ∀ i : Int, 0 ≤ i → i < z → Q (.int i)) := by
  constructor
  · rintro ⟨z', e, a, b, c⟩
    simp only [List.cons.injEq, PyData.int.injEq, and_true, true_and] at e
    subst e; exact ⟨a, b, c⟩
  · rintro ⟨a, b, c⟩; exact ⟨z, rfl, a, b, c⟩
end L2

/-! names, rules and deeds, as data -/
namespace L2
open PySem PySem.Spec PyProof.Rows PySem.W
def isStrB : PyData → Bool | .str _ => true | _ => false
def isIntB : PyData → Bool | .int _ => true | .bool _ => true | _ => false
def isBoolB : PyData → Bool | .bool _ => true | _ => false
def isTupB : PyData → Bool | .tuple _ => true | _ => false
theorem kit_str {K : PySem.W.Frag} (d : PyData) : kitOne K (.type (tyD d)) (.type "str") = some (isStrB d) := by cases d <;> rfl
theorem kit_int {K : PySem.W.Frag} (d : PyData) : kitOne K (.type (tyD d)) (.type "int") = some (isIntB d) := by cases d <;> rfl
theorem kit_bool {K : PySem.W.Frag} (d : PyData) : kitOne K (.type (tyD d)) (.type "bool") = some (isBoolB d) := by cases d <;> rfl
mutual
/-- things of any kind: their texts not too long, their dicts empty -/
def thg : PyData → Bool
  | .dict [] => true
  | .dict (_ :: _) => false
  | .str z => decide (z.length ≤ 1000)
  | .tuple l => thgs l
  | .list l => thgs l
  | .none => true
  | .bool _ => true
  | .int _ => true
def thgs : List PyData → Bool
  | [] => true
  | d :: r => thg d && thgs r
end
theorem thg_ne {d : PyData} (h : thg d = true) : ∀ x, d ≠ .dict [(.none, x)] := by
  rintro x rfl; simp [thg] at h
theorem thgs_all {l : List PyData} (h : ∀ d ∈ l, thg d = true) : thgs l = true := by
  induction l with
  | nil => rfl
  | cons e r ih => rw [thgs, h e (by simp), ih fun d hd => h d (by simp [hd])]; rfl
/-- one of these texts -/
def strIn (zs : List Str) (d : PyData) : Bool := zs.any fun z => PyData.eqv (.str z) d
def isWh : PyData → Bool | .int _ => true | _ => false
def isDy : PyData → Bool | .int i => decide (0 ≤ i) && decide (i ≤ 99999) | _ => false
def isNm : PyData → Bool | .str z => decide (1 ≤ z.length) && decide (z.length ≤ 8) && z.cps.toList.all (fun c => decide (c ∈ abc.cps.toList)) | _ => false
def isSn : PyData → Bool
  | .tuple [a] => PyData.eqv a (.str "coming")
  | .tuple [a, b] => strIn ["first", "last"] a && isNm b
  | _ => false
def isMn : PyData → Bool | .int i => decide (0 ≤ i) && decide (i ≤ 999) | _ => false
def isSpn (m u : PyData) : Bool := isMn m && strIn ["days", "months", "years"] u
def isRl : PyData → Bool
  | .tuple [a, b] => strIn ["while", "follow", "leave"] a && isNm b
  | .tuple [a, b, c, d, e] => strIn ["keep", "gone"] a && isNm b && (isSn c && isSpn d e)
  | _ => false
def ltD : PyData → PyData → Bool | .str a, .str b => decide (a.cps.toList < b.cps.toList) | _, _ => false
def riseD : List PyData → Bool
  | a :: b :: r => ltD a b && riseD (b :: r)
  | _ => true
def isMk : PyData → Bool | .tuple l => decide (l.length ≤ 4) && (l.all isNm && riseD l) | _ => false
def isTg : PyData → Bool | .tuple [a, b] => strIn ["paper", "kind"] a && isNm b | _ => false
def arePt (w : PyData) (ps : List PyData) : Bool :=
  if strIn ["end", "lift"] w then ps.length == 0
  else if strIn ["happens", "leave"] w then (match ps with | [a] => isNm a | _ => false)
  else if PyData.eqv w (.str "rule") then (match ps with | [a] => isRl a | _ => false)
  else if PyData.eqv w (.str "paper") then (match ps with | [a, b] => isNm a && isMk b | _ => false)
  else if PyData.eqv w (.str "hold") then (match ps with | [a, b] => isTg a && isBoolB b | _ => false)
  else false
def isDd : PyData → Bool
  | .tuple (w :: n :: x :: r) => isDy n && isNm x && arePt w r
  | _ => false
/-- a text of one to eight letters -/
structure Nm (z : Str) : Prop where
  lo : 1 ≤ z.length
  hi : z.length ≤ 8
  ab : ∀ c ∈ z.cps.toList, c ∈ abc.cps.toList
theorem Nm.is {z : Str} (h : Nm z) : isNm (.str z) = true := by
  simp only [isNm, decide_eq_true h.lo, decide_eq_true h.hi, Bool.true_and, List.all_eq_true, decide_eq_true_eq]
  exact h.ab
theorem nm_str {d : PyData} (h : isNm d = true) : ∃ z, d = .str z ∧ Nm z := by
  cases d with
  | str z =>
    simp only [isNm, Bool.and_eq_true, decide_eq_true_eq, List.all_eq_true] at h
    exact ⟨z, rfl, h.1.1, h.1.2, h.2⟩
  | _ => simp [isNm] at h
theorem Nm.ok {z : Str} (h : Nm z) : PyData.strOk z = true := strOk_iff.mpr fun c hc => abc_ok c (h.ab c hc)
/-! comprehensions -/
theorem compI_map {g : DG} {te : DT} {δ0 : Dl} {xs : List PyData} {Q : List PyData → Prop} (f : PyData → PyData)
    (h : ∀ x ∈ xs, ∀ R : PyData → Prop, R (f x) → g x δ0 fun δ2 => te δ2 R) (q : Q (xs.map f)) : compI g dYes te δ0 xs Q := by
  refine ⟨fun i acc => acc = (xs.take i).map f, rfl, ?_, ?_⟩
  · rintro i x acc hx rfl
    have := h x (List.mem_of_getElem? hx) (fun y => (xs.take i).map f ++ [y] = (xs.take (i + 1)).map f) (by rw [List.take_succ, hx]; simp)
    simpa [dYes] using this
  · rintro acc rfl
    rw [List.take_of_length_le (Nat.le_refl _)]; exact q
theorem compI_bools {g : DG} {te : DT} {δ0 : Dl} {xs : List PyData} {p : Bool → Prop} {gg : List Bool → Bool} (f : PyData → Bool)
    (h : ∀ x ∈ xs, ∀ R : PyData → Prop, R (.bool (f x)) → g x δ0 fun δ2 => te δ2 R) (q : p (gg (xs.map f))) : compI g dYes te δ0 xs fun ds => ∃ bs : List Bool, ds = bs.map PyData.bool ∧ p (gg bs) :=
  compI_map (fun x => .bool (f x)) h ⟨xs.map f, by rw [List.map_map]; rfl, q⟩
theorem strsE1 {a : Str} {P : List Str → Prop} : (∃ zs, [PyData.str a] = List.map PyData.str zs ∧ P zs) ↔ P [a] := by
  refine ⟨fun ⟨zs, e, h⟩ => ?_, fun h => ⟨_, rfl, h⟩⟩
  match zs, e with
  | [x], e => simp at e; rw [e]; exact h
theorem strsE2 {a b : Str} {P : List Str → Prop} : (∃ zs, [PyData.str a, PyData.str b] = List.map PyData.str zs ∧ P zs) ↔ P [a, b] := by
  refine ⟨fun ⟨zs, e, h⟩ => ?_, fun h => ⟨_, rfl, h⟩⟩
  match zs, e with
  | [x, y], e => simp at e; rw [e.1, e.2]; exact h
theorem strsE3 {a b c : Str} {P : List Str → Prop} : (∃ zs, [PyData.str a, PyData.str b, PyData.str c] = List.map PyData.str zs ∧ P zs) ↔ P [a, b, c] := by
  refine ⟨fun ⟨zs, e, h⟩ => ?_, fun h => ⟨_, rfl, h⟩⟩
  match zs, e with
  | [x, y, z], e => simp at e; rw [e.1, e.2.1, e.2.2]; exact h
def lenIs (d : PyData) (n : Int) : Bool := match d with | .tuple l => decide ((l.length : Int) = n) | _ => false
theorem thing_str {x : Str} : isThing (.str x) = true := rfl
theorem thing_int {x : Int} : isThing (.int x) = true := rfl
theorem thing_bool {x : Bool} : isThing (.bool x) = true := rfl
theorem thing_tup {x : List PyData} : isThing (.tuple x) = true := rfl
theorem thing_list {x : List PyData} : isThing (.list x) = true := rfl
/-! slices of texts -/
def cutN (xs : List Nat) (l u : Option Int) : List Nat := (xs.drop (HT.sIx xs.length 0 l)).take (HT.sIx xs.length xs.length u - HT.sIx xs.length 0 l)
theorem len_cps (x : Str) : x.length = x.cps.toList.length := by rw [Array.length_toList]; rfl
theorem Nm.of {z : Str} {l : List Nat} (e : z.cps.toList = l) (lo : 1 ≤ l.length) (hi : l.length ≤ 8) (ab : ∀ c ∈ l, c ∈ abc.cps.toList) : Nm z :=
  ⟨by rw [len_cps, e]; exact lo, by rw [len_cps, e]; exact hi, by rw [e]; exact ab⟩
end L2

/-! what names, rules and deeds are, laid open -/
namespace L2
open PySem PySem.Spec PyProof.Rows PySem.W
theorem eqv_str_iff {z : Str} {d : PyData} : PyData.eqv (.str z) d = true ↔ d = .str z := by
  cases d <;> simp [PyData.eqv]
  exact ⟨fun h => h.symm, fun h => h.symm⟩
theorem eqv_iff_str {z : Str} {d : PyData} : PyData.eqv d (.str z) = true ↔ d = .str z := by rw [eqv_comm]; exact eqv_str_iff
theorem strIn_iff {zs : List Str} {d : PyData} : strIn zs d = true ↔ ∃ z ∈ zs, d = .str z := by
  unfold strIn; simp only [List.any_eq_true, eqv_str_iff]
def ltS (a b : Str) : Prop := a.cps.toList < b.cps.toList
theorem ltS_trans {a b c : Str} (h : ltS a b) (h' : ltS b c) : ltS a c := List.lt_trans h h'
inductive SinceV : PyData → Prop
  | coming : SinceV (.tuple [.str "coming"])
  | first {h : Str} : Nm h → SinceV (.tuple [.str "first", .str h])
  | last {h : Str} : Nm h → SinceV (.tuple [.str "last", .str h])
def units : List Str := ["days", "months", "years"]
inductive RuleV : PyData → Prop
  | kg {w k u : Str} {s : PyData} {m : Int} : w ∈ (["keep", "gone"] : List Str) → Nm k → SinceV s → 0 ≤ m → m ≤ 999 → u ∈ units → RuleV (.tuple [.str w, .str k, s, .int m, .str u])
  | wfl {w k : Str} : w ∈ (["while", "follow", "leave"] : List Str) → Nm k → RuleV (.tuple [.str w, .str k])
def isDayN (n : Int) : Prop := 0 ≤ n ∧ n ≤ 99999
structure Mks (ms : List Str) : Prop where
  len : ms.length ≤ 4
  nm : ∀ m ∈ ms, Nm m
  up : ms.Pairwise ltS
inductive DeedV : PyData → Prop
  | paper {n : Int} {x k : Str} {ms : List Str} : isDayN n → Nm x → Nm k → Mks ms → DeedV (.tuple [.str "paper", .int n, .str x, .str k, .tuple (ms.map .str)])
  | two {w x y : Str} {n : Int} : w ∈ (["happens", "leave"] : List Str) → isDayN n → Nm x → Nm y → DeedV (.tuple [.str w, .int n, .str x, .str y])
  | rule {n : Int} {x : Str} {p : PyData} : isDayN n → Nm x → RuleV p → DeedV (.tuple [.str "rule", .int n, .str x, p])
  | one {w x : Str} {n : Int} : w ∈ (["end", "lift"] : List Str) → isDayN n → Nm x → DeedV (.tuple [.str w, .int n, .str x])
  | hold {n : Int} {x g y : Str} {b : Bool} : isDayN n → Nm x → g ∈ (["paper", "kind"] : List Str) → Nm y → DeedV (.tuple [.str "hold", .int n, .str x, .tuple [.str g, .str y], .bool b])
/-! each way -/
theorem isSn_iff {d : PyData} : isSn d = true ↔ SinceV d := by
  constructor
  · intro h
    unfold isSn at h
    split at h
    · rw [eqv_iff_str] at h; subst h; exact .coming
    · rw [Bool.and_eq_true, strIn_iff] at h
      obtain ⟨⟨z, hz, rfl⟩, hb⟩ := h
      obtain ⟨y, rfl, hy⟩ := nm_str hb
      simp only [List.mem_cons, List.not_mem_nil, or_false] at hz
      rcases hz with rfl | rfl
      · exact .first hy
      · exact .last hy
    · cases h
  · intro h
    cases h with
    | coming => unfold isSn; rw [eqv_iff_str]
    | first hy => simp only [isSn, hy.is, Bool.and_true]; exact strIn_iff.mpr ⟨_, by simp, rfl⟩
    | last hy => simp only [isSn, hy.is, Bool.and_true]; exact strIn_iff.mpr ⟨_, by simp, rfl⟩
theorem isSpn_iff {m u : PyData} : isSpn m u = true ↔ ∃ i z, m = .int i ∧ u = .str z ∧ 0 ≤ i ∧ i ≤ 999 ∧ z ∈ units := by
  unfold isSpn
  rw [Bool.and_eq_true, strIn_iff]
  constructor
  · rintro ⟨h, z, hz, rfl⟩
    cases m <;> simp [isMn] at h
    exact ⟨_, z, rfl, rfl, h.1, h.2, hz⟩
  · rintro ⟨i, z, rfl, rfl, h0, h1, hz⟩
    exact ⟨by simp [isMn, h0, h1], z, hz, rfl⟩
theorem isRl_iff {d : PyData} : isRl d = true ↔ RuleV d := by
  constructor
  · intro h
    unfold isRl at h
    split at h
    · rw [Bool.and_eq_true, strIn_iff] at h
      obtain ⟨⟨z, hz, rfl⟩, hb⟩ := h
      obtain ⟨y, rfl, hy⟩ := nm_str hb
      exact .wfl hz hy
    · rw [Bool.and_eq_true, Bool.and_eq_true, Bool.and_eq_true, strIn_iff, isSn_iff, isSpn_iff] at h
      obtain ⟨⟨⟨z, hz, rfl⟩, hb⟩, hs, i, u, rfl, rfl, h0, h1, hu⟩ := h
      obtain ⟨y, rfl, hy⟩ := nm_str hb
      exact .kg hz hy hs h0 h1 hu
    · cases h
  · intro h
    cases h with
    | kg hw hk hs h0 h1 hu =>
      simp only [isRl, hk.is, isSn_iff.mpr hs, isSpn_iff.mpr ⟨_, _, rfl, rfl, h0, h1, hu⟩, Bool.and_true]
      exact strIn_iff.mpr ⟨_, hw, rfl⟩
    | wfl hw hk => simp only [isRl, hk.is, Bool.and_true]; exact strIn_iff.mpr ⟨_, hw, rfl⟩
theorem riseD_iff : ∀ {ms : List Str}, riseD (ms.map .str) = true ↔ ms.Pairwise ltS
  | [] => by simp [riseD]
  | [a] => by simp [riseD]
  | a :: b :: r => by
    have ih := riseD_iff (ms := b :: r)
    rw [List.map_cons, List.map_cons, riseD, Bool.and_eq_true, ← List.map_cons, ih]
    simp only [ltD, decide_eq_true_eq]
    constructor
    · rintro ⟨h1, h2⟩
      rw [List.pairwise_cons]
      refine ⟨fun y hy => ?_, h2⟩
      rcases List.mem_cons.mp hy with z | z
      · rw [z]; exact h1
      · exact ltS_trans h1 ((List.pairwise_cons.mp h2).1 y z)
    · intro h
      rw [List.pairwise_cons] at h
      exact ⟨h.1 b (by simp), h.2⟩
theorem nms_strs : ∀ {l : List PyData}, l.all isNm = true → ∃ ms : List Str, l = ms.map .str ∧ ∀ m ∈ ms, Nm m
  | [], _ => ⟨[], rfl, by simp⟩
  | d :: r, h => by
    rw [List.all_cons, Bool.and_eq_true] at h
    obtain ⟨z, rfl, hz⟩ := nm_str h.1
    obtain ⟨ms, rfl, hm⟩ := nms_strs h.2
    exact ⟨z :: ms, rfl, fun m hm' => by
      rcases List.mem_cons.mp hm' with e | e
      · rw [e]; exact hz
      · exact hm m e⟩
theorem isMk_iff {d : PyData} : isMk d = true ↔ ∃ ms : List Str, d = .tuple (ms.map .str) ∧ Mks ms := by
  constructor
  · intro h
    unfold isMk at h
    split at h
    · rw [Bool.and_eq_true, Bool.and_eq_true, decide_eq_true_eq] at h
      obtain ⟨h4, ha, hr⟩ := h
      obtain ⟨ms, rfl, hm⟩ := nms_strs ha
      exact ⟨ms, rfl, by simpa using h4, hm, riseD_iff.mp hr⟩
    · cases h
  · rintro ⟨ms, rfl, h⟩
    simp only [isMk, List.length_map, decide_eq_true h.len, riseD_iff.mpr h.up, Bool.and_true, Bool.true_and, List.all_map, List.all_eq_true]
    exact fun m hm => (h.nm m hm).is
theorem isTg_iff {d : PyData} : isTg d = true ↔ ∃ g y, d = .tuple [.str g, .str y] ∧ g ∈ (["paper", "kind"] : List Str) ∧ Nm y := by
  constructor
  · intro h
    unfold isTg at h
    split at h
    · rw [Bool.and_eq_true, strIn_iff] at h
      obtain ⟨⟨z, hz, rfl⟩, hb⟩ := h
      obtain ⟨y, rfl, hy⟩ := nm_str hb
      exact ⟨z, y, rfl, hz, hy⟩
    · cases h
  · rintro ⟨g, y, rfl, hg, hy⟩
    simp only [isTg, hy.is, Bool.and_true]; exact strIn_iff.mpr ⟨_, hg, rfl⟩
theorem isDy_iff {d : PyData} : isDy d = true ↔ ∃ n, d = .int n ∧ isDayN n := by
  constructor
  · intro h
    cases d <;> simp [isDy] at h
    exact ⟨_, rfl, h.1, h.2⟩
  · rintro ⟨n, rfl, h0, h1⟩; simp [isDy, h0, h1]
theorem DeedV.is {d : PyData} (h : DeedV d) : isDd d = true := by
  have dy : ∀ {n : Int}, isDayN n → isDy (.int n) = true := fun h => isDy_iff.mpr ⟨_, rfl, h⟩
  have no : ∀ {zs : List Str} {w : Str}, w ∉ zs → strIn zs (.str w) = false := fun {zs w} h => by
    rw [Bool.eq_false_iff]; intro q
    obtain ⟨z, hz, e⟩ := strIn_iff.mp q
    injection e with e; rw [e] at h; exact h hz
  have ye : ∀ {zs : List Str} {w : Str}, w ∈ zs → strIn zs (.str w) = true := fun h => strIn_iff.mpr ⟨_, h, rfl⟩
  have nq : ∀ {z w : Str}, w ≠ z → PyData.eqv (.str w) (.str z) = false := fun {z w} h => by rw [eqv_str]; simpa using h
  have yq : ∀ {z : Str}, PyData.eqv (.str z) (.str z) = true := by intro z; rw [eqv_str]; simp
  cases h with
  | paper hn hx hk hm =>
    simp only [isDd, dy hn, hx.is, Bool.and_true, Bool.true_and, arePt]
    rw [if_neg (by rw [no (by decide +kernel)]; decide), if_neg (by rw [no (by decide +kernel)]; decide), if_neg (by rw [nq (by decide +kernel)]; decide), if_pos yq]
    simp only [hk.is, isMk_iff.mpr ⟨_, rfl, hm⟩, Bool.and_true]
  | two hw hn hx hy =>
    simp only [isDd, dy hn, hx.is, Bool.and_true, Bool.true_and, arePt]
    rename_i w x y n
    have h1 : w ∉ (["end", "lift"] : List Str) := by
      simp only [List.mem_cons, List.not_mem_nil, or_false] at hw
      rcases hw with rfl | rfl <;> decide +kernel
    rw [if_neg (by rw [no h1]; decide), if_pos (ye hw)]
    exact hy.is
  | rule hn hx hp =>
    simp only [isDd, dy hn, hx.is, Bool.and_true, Bool.true_and, arePt]
    rw [if_neg (by rw [no (by decide +kernel)]; decide), if_neg (by rw [no (by decide +kernel)]; decide), if_pos yq]
    exact isRl_iff.mpr hp
  | one hw hn hx =>
    simp only [isDd, dy hn, hx.is, Bool.and_true, Bool.true_and, arePt]
    rw [if_pos (ye hw)]; rfl
  | hold hn hx hg hy =>
    simp only [isDd, dy hn, hx.is, Bool.and_true, Bool.true_and, arePt]
    rw [if_neg (by rw [no (by decide +kernel)]; decide), if_neg (by rw [no (by decide +kernel)]; decide), if_neg (by rw [nq (by decide +kernel)]; decide), if_neg (by rw [nq (by decide +kernel)]; decide), if_pos yq]
    simp only [isTg_iff.mpr ⟨_, _, rfl, hg, hy⟩, isBoolB, Bool.and_true]
/-! what may be compared -/
theorem ok_of {zs : List Str} {w : Str} (h : w ∈ zs) (hz : ∀ z ∈ zs, PyData.strOk z = true ∧ z.length ≤ 1000) : PyData.strOk w = true ∧ w.length ≤ 1000 := hz w h
/-! things -/
theorem thgC {d : PyData} {r : List PyData} (h : thg d = true) (hr : thgs r = true) : thgs (d :: r) = true := by rw [thgs, h, hr]; rfl
theorem thgT {r : List PyData} (hr : thgs r = true) : thg (.tuple r) = true := by rw [thg]; exact hr
theorem Nm.thg {z : Str} (h : Nm z) : thg (.str z) = true := by rw [L2.thg]; exact decide_eq_true (Nat.le_trans h.hi (by decide))
theorem thg_lit {z : Str} (h : z.length ≤ 1000) : thg (.str z) = true := by rw [thg]; exact decide_eq_true h
theorem thgI {i : Int} : thg (.int i) = true := by rw [thg]
theorem thgB {i : Bool} : thg (.bool i) = true := by rw [thg]
theorem thgs_strs {ms : List Str} (h : ∀ m ∈ ms, Nm m) : thgs (ms.map .str) = true := thgs_all fun d hd => by
  obtain ⟨m, hm, rfl⟩ := List.mem_map.mp hd; exact (h m hm).thg
theorem SinceV.thg {d : PyData} (h : SinceV d) : L2.thg d = true := by
  cases h with
  | coming => exact thgT (thgC (thg_lit (by decide +kernel)) rfl)
  | first h => exact thgT (thgC (thg_lit (by decide +kernel)) (thgC h.thg rfl))
  | last h => exact thgT (thgC (thg_lit (by decide +kernel)) (thgC h.thg rfl))
theorem RuleV.thg {d : PyData} (h : RuleV d) : L2.thg d = true := by
  cases h with
  | kg hw hk hs _ _ hu => exact thgT (thgC (thg_lit (ok_of hw (by decide +kernel)).2) (thgC hk.thg (thgC hs.thg (thgC thgI (thgC (thg_lit (ok_of hu (by decide +kernel)).2) rfl)))))
  | wfl hw hk => exact thgT (thgC (thg_lit (ok_of hw (by decide +kernel)).2) (thgC hk.thg rfl))
theorem DeedV.thg {d : PyData} (h : DeedV d) : L2.thg d = true := by
  cases h with
  | paper hn hx hk hm => exact thgT (thgC (thg_lit (by decide +kernel)) (thgC thgI (thgC hx.thg (thgC hk.thg (thgC (thgT (thgs_strs hm.nm)) rfl)))))
  | two hw hn hx hy => exact thgT (thgC (thg_lit (ok_of hw (by decide +kernel)).2) (thgC thgI (thgC hx.thg (thgC hy.thg rfl))))
  | rule hn hx hp => exact thgT (thgC (thg_lit (by decide +kernel)) (thgC thgI (thgC hx.thg (thgC hp.thg rfl))))
  | one hw hn hx => exact thgT (thgC (thg_lit (ok_of hw (by decide +kernel)).2) (thgC thgI (thgC hx.thg rfl)))
  | hold hn hx hg hy => exact thgT (thgC (thg_lit (by decide +kernel)) (thgC thgI (thgC hx.thg (thgC (thgT (thgC (thg_lit (ok_of hg (by decide +kernel)).2) (thgC hy.thg rfl))) (thgC thgB rfl)))))
/-! slices of what is laid open -/
theorem cD_1n {a : PyData} {l : List PyData} : cutD (a :: l) (some 1) none = l := by
  rw [cutD_drop (by decide) (by simp only [List.length_cons]; omega)]; rfl
theorem cD_2n {a b : PyData} {l : List PyData} : cutD (a :: b :: l) (some 2) none = l := by
  rw [cutD_drop (by decide) (by simp only [List.length_cons]; omega)]; rfl
theorem cD_3n {a b c : PyData} {l : List PyData} : cutD (a :: b :: c :: l) (some 3) none = l := by
  rw [cutD_drop (by decide) (by simp only [List.length_cons]; omega)]; rfl
theorem cD_4n {a b c d : PyData} {l : List PyData} : cutD (a :: b :: c :: d :: l) (some 4) none = l := by
  rw [cutD_drop (by decide) (by simp only [List.length_cons]; omega)]; rfl
theorem cD_n1 {a : PyData} {l : List PyData} : cutD (a :: l) none (some 1) = [a] := by
  rw [cutD_take (by decide) (by simp only [List.length_cons]; omega)]; rfl
theorem cD_n2 {a b : PyData} {l : List PyData} : cutD (a :: b :: l) none (some 2) = [a, b] := by
  rw [cutD_take (by decide) (by simp only [List.length_cons]; omega)]; rfl
theorem cD_n3 {a b c : PyData} {l : List PyData} : cutD (a :: b :: c :: l) none (some 3) = [a, b, c] := by
  rw [cutD_take (by decide) (by simp only [List.length_cons]; omega)]; rfl
theorem cD_n4 {a b c d : PyData} {l : List PyData} : cutD (a :: b :: c :: d :: l) none (some 4) = [a, b, c, d] := by
  rw [cutD_take (by decide) (by simp only [List.length_cons]; omega)]; rfl
theorem cD_13 {a b c : PyData} {l : List PyData} : cutD (a :: b :: c :: l) (some 1) (some 3) = [b, c] := by
  unfold cutD
  rw [sIx_in (by decide) (by simp only [List.length_cons]; omega), sIx_in (by decide) (by simp only [List.length_cons]; omega)]
  rfl
end L2

namespace PySem
open Builtin
open AutoSeq1 (wpAny_loadPart')
end PySem
namespace L2
open PySem PySem.Spec PyProof.Rows PySem.W
section
variable {X : Cx} {H0 : Hp} {O0 : Ex}
/-! a tuple twice -/
def rRepT (K : PySem.W.Frag) : R2 := fun x y H Q => ∃ a xs, x = .ref a ∧ y = .int 2 ∧ SqT K H a xs ∧ xs ≠ [] ∧ xs.length ≤ 1000 ∧ ∀ p, H p = none → Q (.ref p) (upd H p (.tup (xs ++ xs)))
def dRepT : PyData → PyData → (PyData → Prop) → Prop := fun x y Q => ∃ xs, x = .tuple xs ∧ y = .int 2 ∧ xs ≠ [] ∧ xs.length ≤ 1000 ∧ Q (.tuple (xs ++ xs))
/-! {} , -i, upper -/
def dDct0 : DT := fun _ Q => Q (.dict [])
def dNeg (t : DT) : DT := fun δ Q => t δ fun d => ∃ i, d = .int i ∧ Q (.int (-i))
def dUpper (t : DT) : DT := fun δ Q => t δ fun d => ∃ z : Str, d = .str z ∧ z.length ≤ 1000000 ∧ Q (.str (Txt.upper z))
end
/-! t[::-1] -/
section
variable {X : Cx} {H0 : Hp} {O0 : Ex}
def dRevT (t : DT) : DT := fun δ Q => t δ fun d => ∃ xs, d = .tuple xs ∧ Q (.tuple xs.reverse)
end
theorem cD_nm1 {xs : List PyData} : cutD xs none (some (-1)) = xs.dropLast := by
  unfold cutD
  rw [sIx_none]
  have e : HT.sIx xs.length xs.length (some (-1)) = xs.length - 1 := by
    simp only [HT.sIx]
    rw [if_pos (by decide)]; omega
  rw [e, List.drop_zero, Nat.sub_zero, List.dropLast_eq_take]
section
variable {x : Option Expr} {n : Nat} {env : Env}
theorem swaps_Tuple {a b c} : swapsWith (.Tuple a b c) x n env = pure false := rfl
theorem swaps_BinOp {a b c d} : swapsWith (.BinOp a b c d) x n env = pure false := rfl
theorem swaps_Call {a b c d} : swapsWith (.Call a b c d) x n env = pure false := rfl
theorem swaps_Subscript {a b c} : swapsWith (.Subscript a b c) x n env = pure false := rfl
end
end L2

/-! defs that give a new list, which is the asker's own to go on with -/
namespace L2
open PySem PySem.Spec PyProof.Rows PySem.W
section
variable {X : Cx} {H0 : Hp} {O0 : Ex}
def upN (K : PySem.W.Frag) (H0 : Hp) (O0 : Ex) (t : DS) (te : DA) : TS := fun D σ H => ∃ O δ Qd, Wd K H0 O0 H O σ δ ∧ t { nx := fun δ' => te δ' Qd, rt := fun _ => False } δ ∧
  ∀ ds vs p H', Qd ds → Same H0 H' → H' p = none → Dts K H' O0 vs ds → D.rt (.ref p) (upd H' p (.lst vs))
def spN (K : PySem.W.Frag) (F : List PyData → (List PyData → Prop) → Prop) : Sp := fun vs H Q _ => ∃ O ds Qd, (∀ l, O l → H l ≠ none) ∧ Dts K H O vs ds ∧ F ds Qd ∧ ∀ es us p H', Qd es → Same H H' → H' p = none → Dts K H' O us es → Q (.ref p) (upd H' p (.lst us))
def dCallN (F : List PyData → (List PyData → Prop) → Prop) (t : DA) : DA := fun δ Q => t δ fun ds => F ds Q
end
section
variable {P : Program} {w : World} {K : PySem.W.Frag} {mg : Str → Option Value} {base : Heap}
end
section
variable {X : Cx} {H0 : Hp} {O0 : Ex}
/-! a list twice -/
def dRep2 (t : DA) : DA := fun δ Q => t δ fun ds => ds.length ≤ 1000 ∧ Q (ds ++ ds)
end
theorem wq_paper_happens : (Str.ofString "paper" == Str.ofString "happens") = false := by decide +kernel
theorem wq_paper_rule : (Str.ofString "paper" == Str.ofString "rule") = false := by decide +kernel
theorem wq_paper_end : (Str.ofString "paper" == Str.ofString "end") = false := by decide +kernel
theorem wq_paper_hold : (Str.ofString "paper" == Str.ofString "hold") = false := by decide +kernel
theorem wq_paper_lift : (Str.ofString "paper" == Str.ofString "lift") = false := by decide +kernel
theorem wq_paper_leave : (Str.ofString "paper" == Str.ofString "leave") = false := by decide +kernel
theorem wq_happens_paper : (Str.ofString "happens" == Str.ofString "paper") = false := by decide +kernel
theorem wq_happens_rule : (Str.ofString "happens" == Str.ofString "rule") = false := by decide +kernel
theorem wq_happens_end : (Str.ofString "happens" == Str.ofString "end") = false := by decide +kernel
theorem wq_happens_hold : (Str.ofString "happens" == Str.ofString "hold") = false := by decide +kernel
theorem wq_happens_lift : (Str.ofString "happens" == Str.ofString "lift") = false := by decide +kernel
theorem wq_happens_leave : (Str.ofString "happens" == Str.ofString "leave") = false := by decide +kernel
theorem wq_rule_paper : (Str.ofString "rule" == Str.ofString "paper") = false := by decide +kernel
theorem wq_rule_happens : (Str.ofString "rule" == Str.ofString "happens") = false := by decide +kernel
theorem wq_rule_end : (Str.ofString "rule" == Str.ofString "end") = false := by decide +kernel
theorem wq_rule_hold : (Str.ofString "rule" == Str.ofString "hold") = false := by decide +kernel
theorem wq_rule_lift : (Str.ofString "rule" == Str.ofString "lift") = false := by decide +kernel
theorem wq_rule_leave : (Str.ofString "rule" == Str.ofString "leave") = false := by decide +kernel
theorem wq_end_paper : (Str.ofString "end" == Str.ofString "paper") = false := by decide +kernel
theorem wq_end_happens : (Str.ofString "end" == Str.ofString "happens") = false := by decide +kernel
theorem wq_end_rule : (Str.ofString "end" == Str.ofString "rule") = false := by decide +kernel
theorem wq_end_hold : (Str.ofString "end" == Str.ofString "hold") = false := by decide +kernel
theorem wq_end_lift : (Str.ofString "end" == Str.ofString "lift") = false := by decide +kernel
theorem wq_end_leave : (Str.ofString "end" == Str.ofString "leave") = false := by decide +kernel
theorem wq_hold_paper : (Str.ofString "hold" == Str.ofString "paper") = false := by decide +kernel
theorem wq_hold_happens : (Str.ofString "hold" == Str.ofString "happens") = false := by decide +kernel
theorem wq_hold_rule : (Str.ofString "hold" == Str.ofString "rule") = false := by decide +kernel
theorem wq_hold_end : (Str.ofString "hold" == Str.ofString "end") = false := by decide +kernel
theorem wq_hold_lift : (Str.ofString "hold" == Str.ofString "lift") = false := by decide +kernel
theorem wq_hold_leave : (Str.ofString "hold" == Str.ofString "leave") = false := by decide +kernel
theorem wq_lift_paper : (Str.ofString "lift" == Str.ofString "paper") = false := by decide +kernel
theorem wq_lift_happens : (Str.ofString "lift" == Str.ofString "happens") = false := by decide +kernel
theorem wq_lift_rule : (Str.ofString "lift" == Str.ofString "rule") = false := by decide +kernel
theorem wq_lift_end : (Str.ofString "lift" == Str.ofString "end") = false := by decide +kernel
theorem wq_lift_hold : (Str.ofString "lift" == Str.ofString "hold") = false := by decide +kernel
theorem wq_lift_leave : (Str.ofString "lift" == Str.ofString "leave") = false := by decide +kernel
theorem wq_leave_paper : (Str.ofString "leave" == Str.ofString "paper") = false := by decide +kernel
theorem wq_leave_happens : (Str.ofString "leave" == Str.ofString "happens") = false := by decide +kernel
theorem wq_leave_rule : (Str.ofString "leave" == Str.ofString "rule") = false := by decide +kernel
theorem wq_leave_end : (Str.ofString "leave" == Str.ofString "end") = false := by decide +kernel
theorem wq_leave_hold : (Str.ofString "leave" == Str.ofString "hold") = false := by decide +kernel
theorem wq_leave_lift : (Str.ofString "leave" == Str.ofString "lift") = false := by decide +kernel
end L2

/-! texts made and taken apart -/
namespace L2
open PySem PySem.Spec PyProof.Rows PySem.W
section
variable {X : Cx} {H0 : Hp} {O0 : Ex}
/-! str(i), int(x), x.zfill(i) -/
def dStrI : List PyData → (PyData → Prop) → Prop := fun ds Q => ∃ i : Int, ds = [.int i] ∧ i.natAbs.log2 < 1920 ∧ Q (.str (toString i))
theorem cd_strI {K : PySem.W.Frag} : CallD K (fun xs H Q => ∃ i, xs = [.int i] ∧ i.natAbs.log2 < 1920 ∧ Q (.str (toString i)) H) dStrI := fun H O xs ds Qd R _ hs ⟨i, e, hz, q⟩ k => by
  subst e
  cases hs with
  | cons h r => cases r; cases h.int; exact ⟨i, rfl, hz, k _ _ H q (Same.refl _) (.str _)⟩
theorem call_intT : CallR X (.type "int") (fun xs H Q => ∃ (z : Str) (n : Int), xs = [.str z] ∧ PySem.intText? z = some n ∧ z.length ≤ 640 ∧ Q (.int n) H) := by
  intro pins s σ H xs us Q I r h
  obtain ⟨z, n, rfl, hn, hl, q⟩ := h
  obtain ⟨u, rfl, t, rfl⟩ := vals1 r
  exact KIN.call_text hn hl ⟨.int n, H, I.tok _, ⟨_, rfl⟩, q⟩
def dIntT : List PyData → (PyData → Prop) → Prop := fun ds Q => ∃ (z : Str) (n : Int), ds = [.str z] ∧ PySem.intText? z = some n ∧ z.length ≤ 640 ∧ Q (.int n)
theorem cd_intT {K : PySem.W.Frag} : CallD K (fun xs H Q => ∃ (z : Str) (n : Int), xs = [.str z] ∧ PySem.intText? z = some n ∧ z.length ≤ 640 ∧ Q (.int n) H) dIntT := fun H O xs ds Qd R _ hs ⟨z, n, e, hn, hl, q⟩ k => by
  subst e
  cases hs with
  | cons h r => cases r; cases h.str; exact ⟨z, n, rfl, hn, hl, k _ _ H q (Same.refl _) (.int _)⟩
theorem mt_zfill : MtR X "str.zfill" (fun x xs H Q => ∃ (z : Str) (i : Int), x = .str z ∧ xs = [.int i] ∧ PadOk i = true ∧ Q (.str (Txt.zfill z i)) H) := by
  intro pins s σ H x xs v us Q I rx rs h
  obtain ⟨z, i, rfl, rfl, hp, q⟩ := h
  obtain ⟨t, rfl⟩ := rx
  obtain ⟨u, rfl, t', rfl⟩ := vals1 rs
  exact SC.zfill hp fun t' k => ⟨.str _, H, I.tok _, ⟨_, rfl⟩, q⟩
def dZfill (to t : DT) : DT := fun δ Q => to δ fun x => ∃ z : Str, x = .str z ∧ t δ fun y => ∃ i : Int, y = .int i ∧ PadOk i = true ∧ Q (.str (Txt.zfill z i))
theorem de_zfill {o e : Expr} {to t : DT} {apos cpos : Pos} (ho : DE X H0 O0 o to) (ha : DE X H0 O0 e t) (hbase : attributeBase o "zfill" X.env (eval o X.env) = eval o X.env := by rfl)
    (hfew : ((backTo cpos (starEach [e] X.env)).all (fun x => !x.1) && (backToKw cpos (keywordEach [] X.env)).all (fun x => x.1.isSome) && decide ([e].length + ([] : List Keyword).length + (if ([] : List Keyword).isEmpty then 0 else 1) < 30)) = true := by rfl)
    (hline : (apos.endLine == cpos.line) = true := by rfl) (hst : starEach [e] X.env = (false, eval e X.env) :: starEach [] X.env := by rfl) (hplain : (backTo cpos (starEach [] X.env)).any (·.1) = false := by rfl) :
    DE X H0 O0 (.Call (.Attribute o "zfill" apos) [e] [] cpos) (dZfill to t) :=
  (pe_bm PySem.F.plainAttrs_str PySem.F.slot_str_zfill PySem.F.type_str_zfill mt_zfill ho (pa_cons ha pa_nil hst) hbase hfew hline hst hplain).imp fun σ H Q ⟨O, δ, Qd, w, q, k⟩ => ⟨O, δ, _, w, q, fun x v H1 ⟨z, e, q1⟩ s1 r1 => by
    subst e
    cases r1
    exact ⟨rfl, O, δ, _, w.mono s1, q1, fun y u H2 ⟨i, e, hz, q2⟩ s2 r2 => by subst e; cases r2; exact ⟨z, i, rfl, rfl, hz, k _ _ H2 q2 (s1.trans s2) (.str _)⟩⟩⟩
/-! x.split(y) -/
theorem vals_numbered : ∀ {l : List (Str × Tok)} {ys : List Str}, l.map (·.1) = ys → Vals (ys.map V.str) (strValues l)
  | [], _, rfl => .nil
  | (x, t) :: r, _, rfl => .cons ⟨t, rfl⟩ (vals_numbered (l := r) rfl)
theorem mt_split : MtR X "str.split" (fun x xs H Q => ∃ (z y : Str), x = .str z ∧ xs = [.str y] ∧ (y.length == 0) = false ∧ z.length ≤ 1000000 ∧ ∀ p, H p = none → Q (.ref p) (upd H p (.lst ((Txt.split z y).map V.str)))) := by
  intro pins s σ H x xs v us Q I rx rs h
  obtain ⟨z, y, rfl, rfl, hy, hz, q⟩ := h
  obtain ⟨t, rfl⟩ := rx
  obtain ⟨u, rfl, t', rfl⟩ := vals1 rs
  have hsl : (sizeLine : Nat) = 16777216 := by decide
  have hle := split_le z y
  have hq : ∀ (l : List (Str × Tok)) (k : Nat), l.map (·.1) = Txt.split z y → EP X pins σ Q (.ref s.heap.objs.size) { s with heap := s.heap.push { cls := .type "list", data := .seq (strValues l).toArray }, toks := k } := fun l k e =>
    ⟨.ref _, _, I.laid (t' := k) (o := .lst ((Txt.split z y).map V.str)) (fun b ob q => Heap.get?_push_of_some _ q) (Nat.le_refl _) ⟨by rw [List.length_map]; omega, _, 0, vals_numbered e, Heap.get?_push_size _ rfl⟩, rfl, q _ I.fresh⟩
  cases h1 : (decide (z.length < y.length) || decide (Builtin.Str.strKind z < Builtin.Str.strKind y))
  · cases hf : (Builtin.Str.occurrences z y 0 z.length (z.length + 1)).isEmpty
    · have hn : (Builtin.Str.partsBetween z (Builtin.Str.occurrences z y 0 z.length (z.length + 1)) y.length).length ≤ sizeLine := by
        rw [len_partsBetween]
        have := StrLaws.occ_length_le z y 0 z.length (z.length + 1)
        omega
      refine call_meets F.slot_str_split (typeIs_str _ _ _) F.entry_str_split (F.args_str_split_2 _ _) (meets_str_split_sep z y t t' h1 hy hf (by omega) hn) ?_
      show wants _ _ _ { s with toks := _, heap := s.heap.push { cls := .type "list", data := .seq (strsFrom s.toks (Builtin.Str.partsBetween z (Builtin.Str.occurrences z y 0 z.length (z.length + 1)) y.length)).toArray } }
      rw [strsFrom_eq]
      exact hq (numbered s.toks _) _ ((numbered_texts _ _).trans ((if_neg (ne_true_of_eq_false h1)).trans (if_neg (ne_true_of_eq_false hf))).symm)
    · exact call_meets F.slot_str_split (typeIs_str _ _ _) F.entry_str_split (F.args_str_split_2 _ _) (meets_str_split_not_found z y t t' h1 hy hf) (hq [(z, t)] s.toks ((if_neg (ne_true_of_eq_false h1)).trans (if_pos hf)).symm)
  · exact call_meets F.slot_str_split (typeIs_str _ _ _) F.entry_str_split (F.args_str_split_2 _ _) (meets_str_split_cannot_occur z y t t' h1) (hq [(z, t)] s.toks (if_pos h1).symm)
def dSplit (to t : DT) : DA := fun δ Q => to δ fun x => ∃ z : Str, x = .str z ∧ t δ fun y => ∃ y' : Str, y = .str y' ∧ (y'.length == 0) = false ∧ z.length ≤ 1000000 ∧ Q ((Txt.split z y').map .str)
theorem fe_split {o e : Expr} {to t : DT} {apos cpos : Pos} (ho : DE X H0 O0 o to) (ha : DE X H0 O0 e t) (hbase : attributeBase o "split" X.env (eval o X.env) = eval o X.env := by rfl)
    (hfew : ((backTo cpos (starEach [e] X.env)).all (fun x => !x.1) && (backToKw cpos (keywordEach [] X.env)).all (fun x => x.1.isSome) && decide ([e].length + ([] : List Keyword).length + (if ([] : List Keyword).isEmpty then 0 else 1) < 30)) = true := by rfl)
    (hline : (apos.endLine == cpos.line) = true := by rfl) (hst : starEach [e] X.env = (false, eval e X.env) :: starEach [] X.env := by rfl) (hplain : (backTo cpos (starEach [] X.env)).any (·.1) = false := by rfl) :
    FE X H0 O0 (.Call (.Attribute o "split" apos) [e] [] cpos) (dSplit to t) :=
  (pe_bm PySem.F.plainAttrs_str PySem.F.slot_str_split PySem.F.type_str_split mt_split ho (pa_cons ha pa_nil hst) hbase hfew hline hst hplain).imp fun σ H Q ⟨O, δ, Qd, w, q, k⟩ => ⟨O, δ, _, w, q, fun x v H1 ⟨z, e, q1⟩ s1 r1 => by
    subst e
    cases r1
    exact ⟨rfl, O, δ, _, w.mono s1, q1, fun y u H2 ⟨y', e, hy, hz, q2⟩ s2 r2 => by subst e; cases r2; exact ⟨z, y', rfl, rfl, hy, hz, fun p hp => k _ _ p H2 q2 (s1.trans s2) hp (Dts.ofStrs _)⟩⟩⟩
end
/-! f-strings -/
section
variable {X : Cx} {H0 : Hp} {O0 : Ex}
/-- a part of an f-string, a text -/
def PF (X : Cx) (H0 : Hp) (O0 : Ex) (e : Expr) (t : DT) : Prop := ∀ (pins : List (Addr × Obj)) (s : Shared) (σ : St) (H : Hp) (R : Str → Prop) (Q : VK), Inv X pins σ H s → (∃ O δ, Wd X.K H0 O0 H O σ δ ∧ t δ (fun d => ∃ z : Str, d = .str z ∧ z.length ≤ sizeLine ∧ R z) ∧ ∀ z H', R z → Same H H' → Q (.str z) H') → wpAny (model X.prog X.w) X.A (eval e X.env) (EP X pins σ Q) X.xe s
theorem pf_con {x j pos} : PF X H0 O0 (.Constant (.str x) j pos) (dC (.str x)) := fun pins s σ H R Q I h => by
  obtain ⟨O, δ, w, ⟨z, e, hz, q⟩, k⟩ := h
  injection e with e; subst e
  exact pe_str pins s σ H Q I (k _ H q (Same.refl _))
theorem pf_fmt {e : Expr} {t : DT} {pos : Pos} (h : DE X H0 O0 e t) : PF X H0 O0 (.FormattedValue e (-1) none pos) t := fun pins s σ H R Q I hh => by
  obtain ⟨O, δ, w, q, k⟩ := hh
  refine FormattedValue_plain (thn (h pins s σ H (fun v H1 => ∃ z : Str, v = .str z ∧ z.length ≤ sizeLine ∧ Q (.str z) H1) I ⟨O, δ, _, w, q, fun d v H1 ⟨z, e, hz, q1⟩ s1 r1 => by subst e; cases r1; exact ⟨z, rfl, hz, k _ H1 q1 s1⟩⟩) fun v s1 ⟨x, H1, I1, r1, z, e, hz, q1⟩ => ?_)
  subst e
  obtain ⟨t, rfl⟩ := r1
  exact formatField_str (fun t' tk => ⟨.str z, H1, I1.tok _, ⟨_, rfl⟩, q1⟩) hz
def dJs : List DT → Str → DT
  | [], out => fun _ Q => out.length ≤ sizeLine ∧ Q (.str out)
  | t :: ts, out => fun δ Q => t δ fun d => ∃ z : Str, d = .str z ∧ z.length ≤ sizeLine ∧ (out ++ z).length ≤ sizeLine ∧ dJs ts (out ++ z) δ Q
inductive PFs (X : Cx) (H0 : Hp) (O0 : Ex) : List Expr → List DT → Prop
  | nil : PFs X H0 O0 [] []
  | cons {e : Expr} {es : List Expr} {t : DT} {ts : List DT} : PF X H0 O0 e t → PFs X H0 O0 es ts → PFs X H0 O0 (e :: es) (t :: ts)
theorem pfs_join {es : List Expr} {ts : List DT} (h : PFs X H0 O0 es ts) : ∀ (out : Str) (pins : List (Addr × Obj)) (s : Shared) (σ : St) (H : Hp) (Q : VK), Inv X pins σ H s → up X.K H0 O0 (dJs ts out) σ H Q →
    wpAny (model X.prog X.w) X.A (joinParts out (evalEach es X.env)) (EP X pins σ Q) X.xe s := by
  induction h with
  | nil =>
    intro out pins s σ H Q I ⟨O, δ, Qd, w, ⟨hz, q⟩, k⟩
    exact joinParts_nil ⟨.str out, H, I.tok _, ⟨_, rfl⟩, k _ _ H q (Same.refl _) (.str out)⟩ hz
  | @cons e es t ts hp hs ih =>
    intro out pins s σ H Q I ⟨O, δ, Qd, w, q, k⟩
    show wpAny (model X.prog X.w) X.A (joinParts out (eval e X.env :: evalEach es X.env)) (EP X pins σ Q) X.xe s
    refine joinParts_cons (thn (hp pins s σ H (fun z => (out ++ z).length ≤ sizeLine ∧ dJs ts (out ++ z) δ Qd) (fun v H1 => ∃ z : Str, v = .str z ∧ (out ++ z).length ≤ sizeLine ∧ up X.K H0 O0 (dJs ts (out ++ z)) σ H1 Q) I ⟨O, δ, w, q, ?_⟩) fun v s1 ⟨x, H1, I1, r1, z, e, hz, q1⟩ => ?_)
    · rintro z H1 ⟨hz, q1⟩ s1
      exact ⟨z, rfl, hz, O, δ, Qd, w.mono s1, q1, fun d v H2 q2 s2 r2 => k d v H2 q2 (s1.trans s2) r2⟩
    · subst e
      obtain ⟨t', rfl⟩ := r1
      exact ⟨hz, ih _ _ _ _ _ _ I1 q1⟩
theorem de_fstr {e1 e2 : Expr} {es : List Expr} {ts : List DT} {pos : Pos} (h : PFs X H0 O0 (e1 :: e2 :: es) ts) : DE X H0 O0 (.JoinedStr (e1 :: e2 :: es) pos) (dJs ts Str.empty) := fun pins s σ H Q I hh =>
  JoinedStr_many (pfs_join h Str.empty pins s σ H Q I hh)
end
end L2

namespace L2
open PySem PySem.Spec PyProof.Rows PySem.W
section
variable {X : Cx} {H0 : Hp} {O0 : Ex}
/-! a statement that no road reaches -/
def dNever : DS := fun _ _ => False
theorem ds_never {st : Stmt} : PS X st (upD X.K H0 O0 dNever) := ps_never.imp fun D σ H ⟨O, δ, E, w, q, _⟩ => q.elim
/-! < of ints, of texts, of tuples of ints -/
def dInts (ns : List Int) : List PyData := ns.map .int
def dLtU : PyData → PyData → (PyData → Prop) → Prop := fun x y Q => (∃ i j : Int, x = .int i ∧ y = .int j ∧ Q (.bool (decide (i < j)))) ∨ (∃ i j : Str, x = .str i ∧ y = .str j ∧ Q (.bool (decide (i.cps.toList < j.cps.toList)))) ∨
  (∃ ns ms : List Int, x = .tuple (dInts ns) ∧ y = .tuple (dInts ms) ∧ Q (.bool (HT.lexLt ns ms)))
theorem Dts.vints {K : PySem.W.Frag} {H : Hp} {O : Ex} : ∀ {vs : List V} {ns : List Int}, Dts K H O vs (dInts ns) → vs = ns.map V.int
  | _, [], h => by cases h; rfl
  | _, n :: ns, h => by
    cases h with
    | cons h1 h2 => cases h1; rw [Dts.vints h2]; rfl
theorem od_ltU {K : PySem.W.Frag} : OpD K (fun x y H Q => (rI0 fun i j => .bl (decide (i < j))) x y H Q ∨ (∃ i j, x = .str i ∧ y = .str j ∧ Q (.bl (decide (i.cps.toList < j.cps.toList))) H) ∨ rLtT K x y H Q) dLtU := fun H O x y dx dy Qd R _ hx hy h k => by
  rcases h with ⟨i, j, e1, e2, q⟩ | ⟨i, j, e1, e2, q⟩ | ⟨ns, ms, e1, e2, q⟩
  · subst e1 e2; cases hx.int; cases hy.int; exact .inl ⟨i, j, rfl, rfl, k _ _ H q (Same.refl _) (.bl _)⟩
  · subst e1 e2; cases hx.str; cases hy.str; exact .inr (.inl ⟨i, j, rfl, rfl, k _ _ H q (Same.refl _) (.bl _)⟩)
  · subst e1 e2
    obtain ⟨a, vs, rfl, h1, d1⟩ := hx.tup
    obtain ⟨b, us, rfl, h2, d2⟩ := hy.tup
    refine .inr (.inr ⟨a, b, ns, ms, rfl, rfl, ?_, ?_, k _ _ H q (Same.refl _) (.bl _)⟩)
    · rw [← Dts.vints d1]; exact h1
    · rw [← Dts.vints d2]; exact h2
theorem op_ltU (hu : X.A.units + 64 < cLine) : OpR X (compareOp .Lt) (fun x y H Q => (rI0 fun i j => .bl (decide (i < j))) x y H Q ∨ (∃ i j, x = .str i ∧ y = .str j ∧ Q (.bl (decide (i.cps.toList < j.cps.toList))) H) ∨ rLtT X.K x y H Q) := OpR.or op_lt (OpR.or op_lt_str (op_ltT (by omega)))
end
end L2

/-! the walk goes to the head first: what a name stands for is put in before its rest is looked at -/
namespace L2
open PySem PySem.Spec PyProof.Rows PySem.W
section
variable {α : Type} {P : α → Prop}
theorem lz_v0 {a : PyData} {r : Dl} {P : PyData → Prop} : (∃ d, (some (Sl.v a) :: r)[0]? = some (some (Sl.v d)) ∧ P d) = P a := by simp
theorem lz_vS {x : Option Sl} {r : Dl} {i : Nat} {P : PyData → Prop} : (∃ d, (x :: r)[i + 1]? = some (some (Sl.v d)) ∧ P d) = (∃ d, r[i]? = some (some (Sl.v d)) ∧ P d) := by simp
theorem lz_vE {a : PyData} {l : Dl} {i : Nat} {P : PyData → Prop} : (∃ d, (l.set i (some (Sl.v a)))[i]? = some (some (Sl.v d)) ∧ P d) = (i < l.length ∧ P a) := by
  apply propext
  rw [List.getElem?_set_self']
  constructor
  · rintro ⟨d, e, p⟩
    by_cases h : i < l.length
    · rw [List.getElem?_eq_getElem h] at e; cases e; exact ⟨h, p⟩
    · rw [List.getElem?_eq_none (by omega)] at e; cases e
  · rintro ⟨h, p⟩
    exact ⟨a, by rw [List.getElem?_eq_getElem h]; rfl, p⟩
theorem lz_vN {x : Option Sl} {l : Dl} {i j : Nat} {P : PyData → Prop} (h : i ≠ j) : (∃ d, (l.set i x)[j]? = some (some (Sl.v d)) ∧ P d) = (∃ d, l[j]? = some (some (Sl.v d)) ∧ P d) := by rw [List.getElem?_set_ne h]
theorem lz_o0 {a : List PyData} {r : Dl} {P : List PyData → Prop} : (∃ d, (some (Sl.o a) :: r)[0]? = some (some (Sl.o d)) ∧ P d) = P a := by simp
theorem lz_oS {x : Option Sl} {r : Dl} {i : Nat} {P : List PyData → Prop} : (∃ d, (x :: r)[i + 1]? = some (some (Sl.o d)) ∧ P d) = (∃ d, r[i]? = some (some (Sl.o d)) ∧ P d) := by simp
theorem lz_oE {a : List PyData} {l : Dl} {i : Nat} {P : List PyData → Prop} : (∃ d, (l.set i (some (Sl.o a)))[i]? = some (some (Sl.o d)) ∧ P d) = (i < l.length ∧ P a) := by
  apply propext
  rw [List.getElem?_set_self']
  constructor
  · rintro ⟨d, e, p⟩
    by_cases h : i < l.length
    · rw [List.getElem?_eq_getElem h] at e; cases e; exact ⟨h, p⟩
    · rw [List.getElem?_eq_none (by omega)] at e; cases e
  · rintro ⟨h, p⟩
    exact ⟨a, by rw [List.getElem?_eq_getElem h]; rfl, p⟩
theorem lz_oN {x : Option Sl} {l : Dl} {i j : Nat} {P : List PyData → Prop} (h : i ≠ j) : (∃ d, (l.set i x)[j]? = some (some (Sl.o d)) ∧ P d) = (∃ d, l[j]? = some (some (Sl.o d)) ∧ P d) := by rw [List.getElem?_set_ne h]
theorem lz_b {a : Bool} {P : Bool → Prop} : (∃ b, PyData.bool a = .bool b ∧ P b) = P a := by simp
theorem lz_i {a : Int} {P : Int → Prop} : (∃ b, PyData.int a = .int b ∧ P b) = P a := by simp
theorem lz_s {a : Str} {P : Str → Prop} : (∃ b, PyData.str a = .str b ∧ P b) = P a := by simp
theorem lz_t {a : List PyData} {P : List PyData → Prop} : (∃ b, PyData.tuple a = .tuple b ∧ P b) = P a := by simp
theorem lz_l {a : List PyData} {P : List PyData → Prop} : (∃ b, PyData.list a = .list b ∧ P b) = P a := by simp
theorem lz_ii {a b : Int} {P : Int → Int → Prop} : (∃ i j, PyData.int a = .int i ∧ PyData.int b = .int j ∧ P i j) = P a b := by simp
theorem lz_ss {a b : Str} {P : Str → Str → Prop} : (∃ i j, PyData.str a = .str i ∧ PyData.str b = .str j ∧ P i j) = P a b := by simp
theorem lz_tt {a b : List PyData} {P : List PyData → List PyData → Prop} : (∃ i j, PyData.tuple a = .tuple i ∧ PyData.tuple b = .tuple j ∧ P i j) = P a b := by simp
theorem lz_ll {a b : List PyData} {P : List PyData → List PyData → Prop} : (∃ i j, PyData.list a = .list i ∧ PyData.list b = .list j ∧ P i j) = P a b := by simp
theorem lz_cons {a : PyData} {r : List PyData} {P : PyData → List PyData → Prop} : (∃ x y, a :: r = x :: y ∧ P x y) = P a r := propext ⟨fun ⟨_, _, e, p⟩ => by cases e; exact p, fun p => ⟨_, _, rfl, p⟩⟩
theorem lz_two {a b : PyData} {P : PyData → PyData → Prop} : (∃ x y, [a, b] = [x, y] ∧ P x y) = P a b := propext ⟨fun ⟨_, _, e, p⟩ => by cases e; exact p, fun p => ⟨_, _, rfl, p⟩⟩
theorem lz_tt0 {a : PyData} {r : List PyData} {P : PyData → Prop} : (∃ ds i d, PyData.tuple (a :: r) = .tuple ds ∧ PyData.int 0 = .int i ∧ atI ds i = some d ∧ P d) = P a := by simp [atI_c0]
theorem lz_tt1 {a b : PyData} {r : List PyData} {P : PyData → Prop} : (∃ ds i d, PyData.tuple (a :: b :: r) = .tuple ds ∧ PyData.int 1 = .int i ∧ atI ds i = some d ∧ P d) = P b := by simp [atI_c1]
theorem lz_tt2 {a b c : PyData} {r : List PyData} {P : PyData → Prop} : (∃ ds i d, PyData.tuple (a :: b :: c :: r) = .tuple ds ∧ PyData.int 2 = .int i ∧ atI ds i = some d ∧ P d) = P c := by simp [atI_c2]
theorem lz_tt3 {a b c e : PyData} {r : List PyData} {P : PyData → Prop} : (∃ ds i d, PyData.tuple (a :: b :: c :: e :: r) = .tuple ds ∧ PyData.int 3 = .int i ∧ atI ds i = some d ∧ P d) = P e := by simp [atI_c3]
theorem lz_ll0 {a : PyData} {r : List PyData} {P : PyData → Prop} : (∃ ds i d, PyData.list (a :: r) = .list ds ∧ PyData.int 0 = .int i ∧ atI ds i = some d ∧ P d) = P a := by simp [atI_c0]
theorem lz_ll1 {a b : PyData} {r : List PyData} {P : PyData → Prop} : (∃ ds i d, PyData.list (a :: b :: r) = .list ds ∧ PyData.int 1 = .int i ∧ atI ds i = some d ∧ P d) = P b := by simp [atI_c1]
theorem lz_ll2 {a b c : PyData} {r : List PyData} {P : PyData → Prop} : (∃ ds i d, PyData.list (a :: b :: c :: r) = .list ds ∧ PyData.int 2 = .int i ∧ atI ds i = some d ∧ P d) = P c := by simp [atI_c2]
theorem lz_tix {xs : List PyData} {k : Int} {P : PyData → Prop} : (∃ ds i d, PyData.tuple xs = .tuple ds ∧ PyData.int k = .int i ∧ atI ds i = some d ∧ P d) = (∃ d, atI xs k = some d ∧ P d) := by simp
theorem lz_lix {xs : List PyData} {k : Int} {P : PyData → Prop} : (∃ ds i d, PyData.list xs = .list ds ∧ PyData.int k = .int i ∧ atI ds i = some d ∧ P d) = (∃ d, atI xs k = some d ∧ P d) := by simp
end
end L2
namespace L2
open PySem PySem.Spec PyProof.Rows PySem.W
/-- a word of a tuple asked for -/
theorem lz_w {w v : Str} {r : List PyData} {l : Dl} {Q : Bool → Prop} : dTest (dOp dEqZ (dOp dIxT (dVar 0) (dC (.int 0))) (dC (.str v))) (some (.v (.tuple (.str w :: r))) :: l) Q = Q (w == v) := by
  simp [dTest, dOp, dEqZ, dIxT, dVar, dC, atI_c0, isThing, eqv_str]
theorem lz_wN {v : Str} {x : Option Sl} {l : Dl} {k : Nat} {Q : Bool → Prop} : dTest (dOp dEqZ (dOp dIxT (dVar 0) (dC (.int 0))) (dC (.str v))) (l.set (k + 1) x) Q = dTest (dOp dEqZ (dOp dIxT (dVar 0) (dC (.int 0))) (dC (.str v))) l Q := by
  simp only [dTest, dOp, dVar, dC, List.getElem?_set_ne (show k + 1 ≠ 0 by omega)]
end L2

namespace Day
def leap (y : Int) : Bool := decide (y % 400 = 0) || (decide (y % 4 = 0) && !decide (y % 100 = 0))
def ld (y : Int) : Int := if leap y = true then 1 else 0
def mdays : List Int := [31, 28, 31, 30, 31, 30, 31, 31, 30, 31, 30, 31]
def mlen (y m : Int) : Int := if m = 2 ∧ leap y = true then 29 else mdays.getD (m - 1).toNat 0
def lb (y : Int) : Int := (y - 1) / 4 - (y - 1) / 100 + (y - 1) / 400
def ystart (y : Int) : Int := 365 * (y - 2000) + lb y - lb 2000
def bef (y m : Int) : Int := ((List.range (m - 1).toNat).map fun (i : Nat) => mlen y (1 + (i : Int))).sum
def num (y m n : Int) : Int := ystart y + bef y m + n - 1
structure DateOf (d y m n : Int) : Prop where
  m1 : 1 ≤ m
  m12 : m ≤ 12
  n1 : 1 ≤ n
  nl : n ≤ mlen y m
  eq : num y m n = d
theorem ld01 (y : Int) : 0 ≤ ld y ∧ ld y ≤ 1 := by unfold ld; split <;> omega
theorem leap_iff (y : Int) : leap y = true ↔ (y % 400 = 0 ∨ (y % 4 = 0 ∧ y % 100 ≠ 0)) := by
  unfold leap; simp
theorem ystart_succ (y : Int) : ystart (y + 1) = ystart y + 365 + ld y := by
  unfold ystart lb ld
  by_cases h : leap y = true
  · rw [if_pos h]; have := (leap_iff y).mp h; omega
  · rw [if_neg h]; have := mt (leap_iff y).mpr h; omega
theorem ystart_mono {a b : Int} (h : a + 1 ≤ b) : ystart (a + 1) ≤ ystart b := by
  unfold ystart lb; omega
theorem mlen_2 (y : Int) : mlen y 2 = 28 + ld y := by
  unfold mlen ld
  by_cases h : leap y = true
  · rw [if_pos ⟨rfl, h⟩, if_pos h]; rfl
  · rw [if_neg (fun z => h z.2), if_neg h]; rfl
theorem mlen_ne {y m : Int} (h : m ≠ 2) : mlen y m = mdays.getD (m - 1).toNat 0 := by
  unfold mlen; rw [if_neg (fun z => h z.1)]
theorem mlen_all (y : Int) : mlen y 1 = 31 ∧ mlen y 3 = 31 ∧ mlen y 4 = 30 ∧ mlen y 5 = 31 ∧ mlen y 6 = 30 ∧ mlen y 7 = 31 ∧ mlen y 8 = 31 ∧ mlen y 9 = 30 ∧ mlen y 10 = 31 ∧ mlen y 11 = 30 ∧ mlen y 12 = 31 := by
  refine ⟨?_, ?_, ?_, ?_, ?_, ?_, ?_, ?_, ?_, ?_, ?_⟩ <;> (rw [mlen_ne (by decide)]; rfl)
theorem twelve {m : Int} (h1 : 1 ≤ m) (h2 : m ≤ 12) : m = 1 ∨ m = 2 ∨ m = 3 ∨ m = 4 ∨ m = 5 ∨ m = 6 ∨ m = 7 ∨ m = 8 ∨ m = 9 ∨ m = 10 ∨ m = 11 ∨ m = 12 := by omega
theorem mlen_bd {y m : Int} (h1 : 1 ≤ m) (h2 : m ≤ 12) : 28 ≤ mlen y m ∧ mlen y m ≤ 31 := by
  have := mlen_all y; have := mlen_2 y; have := ld01 y
  rcases twelve h1 h2 with h | h | h | h | h | h | h | h | h | h | h | h <;> subst h <;> omega
theorem bef_1 (y : Int) : bef y 1 = 0 := rfl
theorem bef_succ {y m : Int} (h : 1 ≤ m) : bef y (m + 1) = bef y m + mlen y m := by
  unfold bef
  have e : (m + 1 - 1).toNat = (m - 1).toNat + 1 := by omega
  rw [e, List.range_succ, List.map_append, List.sum_append]
  have e2 : (1 : Int) + (((m - 1).toNat : Nat) : Int) = m := by omega
  simp only [List.map_cons, List.map_nil, List.sum_cons, List.sum_nil, e2]
  omega
theorem bef_all (y : Int) : bef y 1 = 0 ∧ bef y 2 = 31 ∧ bef y 3 = 59 + ld y ∧ bef y 4 = 90 + ld y ∧ bef y 5 = 120 + ld y ∧ bef y 6 = 151 + ld y ∧ bef y 7 = 181 + ld y ∧ bef y 8 = 212 + ld y ∧ bef y 9 = 243 + ld y ∧ bef y 10 = 273 + ld y ∧ bef y 11 = 304 + ld y ∧ bef y 12 = 334 + ld y ∧ bef y 13 = 365 + ld y := by
  have h1 := bef_1 y
  have h2 : bef y 2 = bef y 1 + mlen y 1 := bef_succ (m := 1) (by decide)
  have h3 : bef y 3 = bef y 2 + mlen y 2 := bef_succ (m := 2) (by decide)
  have h4 : bef y 4 = bef y 3 + mlen y 3 := bef_succ (m := 3) (by decide)
  have h5 : bef y 5 = bef y 4 + mlen y 4 := bef_succ (m := 4) (by decide)
  have h6 : bef y 6 = bef y 5 + mlen y 5 := bef_succ (m := 5) (by decide)
  have h7 : bef y 7 = bef y 6 + mlen y 6 := bef_succ (m := 6) (by decide)
  have h8 : bef y 8 = bef y 7 + mlen y 7 := bef_succ (m := 7) (by decide)
  have h9 : bef y 9 = bef y 8 + mlen y 8 := bef_succ (m := 8) (by decide)
  have h10 : bef y 10 = bef y 9 + mlen y 9 := bef_succ (m := 9) (by decide)
  have h11 : bef y 11 = bef y 10 + mlen y 10 := bef_succ (m := 10) (by decide)
  have h12 : bef y 12 = bef y 11 + mlen y 11 := bef_succ (m := 11) (by decide)
  have h13 : bef y 13 = bef y 12 + mlen y 12 := bef_succ (m := 12) (by decide)
  have := mlen_all y; have := mlen_2 y
  omega
theorem bef_mono {y m : Int} (h1 : 1 ≤ m) : ∀ k : Nat, m + k ≤ 13 → bef y m ≤ bef y (m + k)
  | 0, _ => by simp
  | k + 1, h => by
    have ih := bef_mono (y := y) h1 k (by omega)
    have e : m + ((k + 1 : Nat) : Int) = (m + k) + 1 := by omega
    rw [e, bef_succ (by omega)]
    have := mlen_bd (y := y) (m := m + k) (by omega) (by omega)
    omega
theorem bef_le {y m m' : Int} (h1 : 1 ≤ m) (h2 : m ≤ m') (h3 : m' ≤ 13) : bef y m ≤ bef y m' := by
  have := bef_mono (y := y) h1 (m' - m).toNat (by omega)
  rw [show m + (((m' - m).toNat : Nat) : Int) = m' by omega] at this
  exact this
theorem bef_bd {y m : Int} (h1 : 1 ≤ m) (h2 : m ≤ 12) : 0 ≤ bef y m ∧ bef y m + mlen y m ≤ 365 + ld y := by
  have a := bef_le (y := y) (m := 1) (m' := m) (by decide) h1 (by omega)
  have b := bef_le (y := y) (m := m + 1) (m' := 13) (by omega) (by omega) (by decide)
  rw [bef_succ h1] at b
  have c := (bef_all y).1
  have e := (bef_all y).2.2.2.2.2.2.2.2.2.2.2.2
  omega
theorem bef_lt {y m m' : Int} (h1 : 1 ≤ m) (h2 : m < m') (h3 : m' ≤ 12) : bef y m + mlen y m ≤ bef y m' := by
  have b := bef_le (y := y) (m := m + 1) (m' := m') (by omega) (by omega) (by omega)
  rw [bef_succ h1] at b
  exact b
theorem DateOf.in {d y m n : Int} (h : DateOf d y m n) : ystart y ≤ d ∧ d < ystart (y + 1) := by
  have := bef_bd (y := y) h.m1 h.m12; have := h.n1; have := h.nl; have e := h.eq; have := ystart_succ y
  unfold num at e; omega
theorem DateOf.uniq {d y m n y' m' n' : Int} (h : DateOf d y m n) (h' : DateOf d y' m' n') : y = y' ∧ m = m' ∧ n = n' := by
  have a := h.in; have b := h'.in
  have ey : y = y' := by
    rcases Int.lt_trichotomy y y' with z | z | z
    · have := ystart_mono (a := y) (b := y') (by omega); omega
    · exact z
    · have := ystart_mono (a := y') (b := y) (by omega); omega
  subst ey
  have e := h.eq; have e' := h'.eq; unfold num at e e'
  have em : m = m' := by
    rcases Int.lt_trichotomy m m' with z | z | z
    · have := bef_lt (y := y) h.m1 z h'.m12; have := h.nl; have := h'.n1; omega
    · exact z
    · have := bef_lt (y := y) h'.m1 z h.m12; have := h'.nl; have := h.n1; omega
  subst em
  exact ⟨rfl, rfl, by omega⟩
def yearOf (d : Int) : Int :=
  if d < ystart (2000 + d * 400 / 146097) then 2000 + d * 400 / 146097 - 1
  else if ystart (2000 + d * 400 / 146097 + 1) ≤ d then 2000 + d * 400 / 146097 + 1
  else 2000 + d * 400 / 146097
theorem yearOf_ok (d : Int) : ystart (yearOf d) ≤ d ∧ d < ystart (yearOf d + 1) := by
  unfold yearOf
  have e : 2000 + d * 400 / 146097 - 1 + 1 = 2000 + d * 400 / 146097 := by omega
  by_cases h : d < ystart (2000 + d * 400 / 146097)
  · rw [if_pos h, e]
    refine ⟨?_, h⟩
    unfold ystart lb at *; omega
  · rw [if_neg h]
    by_cases h2 : ystart (2000 + d * 400 / 146097 + 1) ≤ d
    · rw [if_pos h2]
      refine ⟨h2, ?_⟩
      unfold ystart lb at *; omega
    · rw [if_neg h2]; omega
/-- later by k months from the date y m n -/
def mon (y m n k : Int) : Int := num ((y * 12 + m - 1 + k) / 12) ((y * 12 + m - 1 + k) % 12 + 1) (min n (mlen ((y * 12 + m - 1 + k) / 12) ((y * 12 + m - 1 + k) % 12 + 1)))
end Day

namespace Day
/-! months counted through: month M is month M % 12 + 1 of the year M / 12 -/
def fst (M : Int) : Int := num (M / 12) (M % 12 + 1) 1
def lenM (M : Int) : Int := mlen (M / 12) (M % 12 + 1)
theorem lenM_bd (M : Int) : 28 ≤ lenM M ∧ lenM M ≤ 31 := mlen_bd (by omega) (by omega)
theorem fst_succ (M : Int) : fst (M + 1) = fst M + lenM M := by
  unfold fst lenM num
  by_cases h : M % 12 + 1 = 12
  · rw [show (M + 1) / 12 = M / 12 + 1 by omega, show (M + 1) % 12 + 1 = 1 by omega, h, bef_1, ystart_succ]
    have := bef_all (M / 12); have := mlen_all (M / 12); omega
  · rw [show (M + 1) / 12 = M / 12 by omega, show (M + 1) % 12 + 1 = (M % 12 + 1) + 1 by omega, bef_succ (by omega)]
    omega
theorem fst_add (M : Int) : ∀ k : Nat, fst M + 28 * k ≤ fst (M + k)
  | 0 => by simp
  | k + 1 => by
    have h := fst_add M k
    have e := fst_succ (M + k)
    have b := lenM_bd (M + k)
    rw [show M + ((k + 1 : Nat) : Int) = M + k + 1 by omega, e]; omega
theorem fst_lt {M N : Int} (h : M < N) : fst M + lenM M ≤ fst N := by
  rw [← fst_succ]
  obtain ⟨k, hk⟩ := Int.eq_ofNat_of_zero_le (show 0 ≤ N - (M + 1) by omega)
  have := fst_add (M + 1) k
  rw [show M + 1 + (k : Int) = N by omega] at this; omega
/-- the day with the number n in month M -/
def Dn (M n : Int) : Int := fst M + n - 1
structure InM (d M n : Int) : Prop where
  n1 : 1 ≤ n
  nl : n ≤ lenM M
  eq : d = Dn M n
theorem DateOf.inM {d y m n : Int} (h : DateOf d y m n) : InM d (y * 12 + m - 1) n := by
  have e1 : (y * 12 + m - 1) / 12 = y := by have := h.m1; have := h.m12; omega
  have e2 : (y * 12 + m - 1) % 12 + 1 = m := by have := h.m1; have := h.m12; omega
  refine ⟨h.n1, ?_, ?_⟩
  · unfold lenM; rw [e1, e2]; exact h.nl
  · unfold Dn fst; rw [e1, e2, ← h.eq]; unfold num; omega
theorem InM.date {d M n : Int} (h : InM d M n) : DateOf d (M / 12) (M % 12 + 1) n :=
  ⟨by omega, by omega, h.n1, h.nl, by rw [h.eq]; unfold Dn fst num; omega⟩
theorem InM.lt {d e M N n k : Int} (h : InM d M n) (h' : InM e N k) : d < e ↔ M < N ∨ (M = N ∧ n < k) := by
  have a := h.eq; have b := h'.eq; have := h.n1; have := h.nl; have := h'.n1; have := h'.nl
  unfold Dn at a b
  rcases Int.lt_trichotomy M N with z | z | z
  · have := fst_lt z; constructor
    · intro _; exact .inl z
    · intro _; omega
  · subst z; constructor
    · intro _; exact .inr ⟨rfl, by omega⟩
    · rintro (z | ⟨_, z⟩) <;> omega
  · have := fst_lt z; constructor
    · intro _; omega
    · rintro (z | ⟨_, z⟩) <;> omega
theorem InM.uniq {d M N n k : Int} (h : InM d M n) (h' : InM d N k) : M = N ∧ n = k := by
  have a := h.lt h'; have b := h'.lt h
  have c : ¬ d < d := by omega
  have a' := fun z => c (a.mpr z)
  have b' := fun z => c (b.mpr z)
  have e : M = N := by
    rcases Int.lt_trichotomy M N with z | z | z
    · exact (a' (.inl z)).elim
    · exact z
    · exact (b' (.inl z)).elim
  refine ⟨e, ?_⟩
  rcases Int.lt_trichotomy n k with z | z | z
  · exact (a' (.inr ⟨e, z⟩)).elim
  · exact z
  · exact (b' (.inr ⟨e.symm, z⟩)).elim
theorem DateOf.lt {d e y m n y' m' n' : Int} (h : DateOf d y m n) (h' : DateOf e y' m' n') : d < e ↔ y < y' ∨ (y = y' ∧ (m < m' ∨ (m = m' ∧ n < n'))) := by
  rw [h.inM.lt h'.inM]
  have := h.m1; have := h.m12; have := h'.m1; have := h'.m12
  constructor
  · rintro (z | ⟨z, w⟩)
    · by_cases hy : y < y'
      · exact .inl hy
      · exact .inr ⟨by omega, .inl (by omega)⟩
    · exact .inr ⟨by omega, .inr ⟨by omega, w⟩⟩
  · rintro (z | ⟨z, w | ⟨w, v⟩⟩)
    · exact .inl (by omega)
    · exact .inl (by omega)
    · exact .inr ⟨by omega, v⟩
/-! later by months -/
def addM (M n k : Int) : Int := Dn (M + k) (min n (lenM (M + k)))
theorem mon_addM (y m n k : Int) : mon y m n k = addM (y * 12 + m - 1) n k := by
  unfold mon addM Dn fst lenM num
  omega
theorem addM_in {M n : Int} (k : Int) (h : 1 ≤ n) : InM (addM M n k) (M + k) (min n (lenM (M + k))) := ⟨by have := lenM_bd (M + k); omega, by omega, rfl⟩
theorem addM_mono {d e M N n i k : Int} (h : InM d M n) (h' : InM e N i) (le : d ≤ e) : addM M n k ≤ addM N i k := by
  have a := addM_in (M := M) k h.n1; have b := addM_in (M := N) k h'.n1
  have c : ¬ (addM N i k < addM M n k) := by
    rw [b.lt a]
    have c' : ¬ e < d := by omega
    rw [h'.lt h] at c'
    rintro (z | ⟨z, w⟩)
    · exact c' (.inl (by omega))
    · have z' : N = M := by omega
      subst z'
      exact c' (.inr ⟨rfl, by omega⟩)
  omega
theorem addM_two {M n a b : Int} (h : n ≤ 31) : 0 ≤ addM M n (a + b) - addM (M + a) (min n (lenM (M + a))) b ∧ addM M n (a + b) - addM (M + a) (min n (lenM (M + a))) b ≤ 3 := by
  have := lenM_bd (M + a); have := lenM_bd (M + (a + b))
  unfold addM Dn
  rw [show M + a + b = M + (a + b) by omega]
  omega
theorem addM_up {M n a b : Int} (h1 : 1 ≤ n) (hb : 0 ≤ b) : addM M n a ≤ addM M n (a + b) := by
  by_cases z : b = 0
  · subst z; rw [Int.add_zero]; omega
  · have x := addM_in (M := M) a h1; have y := addM_in (M := M) (a + b) h1
    have := (x.lt y).mpr (.inl (by omega)); omega
theorem addM_one {d M n : Int} (h : InM d M n) : 28 ≤ addM M n 1 - d ∧ addM M n 1 - d ≤ 31 := by
  have := lenM_bd M; have := lenM_bd (M + 1); have := h.n1; have := h.nl; have e := h.eq; have := fst_succ M
  unfold addM; unfold Dn at *; omega
theorem leap_next (y : Int) : ld y = 1 → ld (y + 1) = 0 := by
  unfold ld
  have a := leap_iff y; have b := leap_iff (y + 1)
  intro h
  have ly : leap y = true := by
    by_cases z : leap y = true
    · exact z
    · rw [if_neg z] at h; omega
  rw [if_neg]
  intro z
  have p := a.mp ly; have q := b.mp z; omega
theorem bef_dif (y z : Int) {m : Int} (h1 : 1 ≤ m) (h2 : m ≤ 12) : bef z m - bef y m = if 3 ≤ m then ld z - ld y else 0 := by
  obtain ⟨a1, a2, a3, a4, a5, a6, a7, a8, a9, a10, a11, a12, _⟩ := bef_all y
  obtain ⟨b1, b2, b3, b4, b5, b6, b7, b8, b9, b10, b11, b12, _⟩ := bef_all z
  rcases twelve h1 h2 with e | e | e | e | e | e | e | e | e | e | e | e <;> subst e
  · rw [a1, b1]; simp
  · rw [a2, b2]; simp
  · rw [a3, b3, if_pos (by omega)]; omega
  · rw [a4, b4, if_pos (by omega)]; omega
  · rw [a5, b5, if_pos (by omega)]; omega
  · rw [a6, b6, if_pos (by omega)]; omega
  · rw [a7, b7, if_pos (by omega)]; omega
  · rw [a8, b8, if_pos (by omega)]; omega
  · rw [a9, b9, if_pos (by omega)]; omega
  · rw [a10, b10, if_pos (by omega)]; omega
  · rw [a11, b11, if_pos (by omega)]; omega
  · rw [a12, b12, if_pos (by omega)]; omega
theorem addM_year {d y m n : Int} (h : DateOf d y m n) : mon y m n 12 - d = 365 ∨ mon y m n 12 - d = 366 := by
  have e1 : (y * 12 + m - 1 + 12) / 12 = y + 1 := by have := h.m1; have := h.m12; omega
  have e2 : (y * 12 + m - 1 + 12) % 12 + 1 = m := by have := h.m1; have := h.m12; omega
  unfold mon
  rw [e1, e2, ← h.eq]
  unfold num
  rw [ystart_succ]
  have b := bef_dif y (y + 1) h.m1 h.m12
  have l := leap_next y; have l1 := ld01 y; have l2 := ld01 (y + 1); have hn := h.n1; have hl := h.nl
  by_cases z : m = 2
  · subst z
    rw [if_neg (by omega)] at b
    have e := mlen_2 y; have e' := mlen_2 (y + 1)
    omega
  · have e : mlen (y + 1) m = mlen y m := by rw [mlen_ne z, mlen_ne z]
    rw [e, show min n (mlen y m) = n by omega]
    by_cases z3 : 3 ≤ m
    · rw [if_pos z3] at b; omega
    · rw [if_neg z3] at b; omega
theorem leap400 (y : Int) : leap (y + 400) = leap y := by
  have a := leap_iff y; have b := leap_iff (y + 400)
  have : leap (y + 400) = true ↔ leap y = true := by rw [a, b]; omega
  cases h : leap y <;> cases h' : leap (y + 400) <;> simp_all
theorem mlen400 (y m : Int) : mlen (y + 400) m = mlen y m := by unfold mlen; rw [leap400]
theorem bef400 (y m : Int) : bef (y + 400) m = bef y m := by unfold bef; simp only [mlen400]
theorem ystart400 (y : Int) : ystart (y + 400) = ystart y + 146097 := by unfold ystart lb; omega
theorem addM_400 {d y m n : Int} (h : DateOf d y m n) : mon y m n 4800 - d = 146097 := by
  have e1 : (y * 12 + m - 1 + 4800) / 12 = y + 400 := by have := h.m1; have := h.m12; omega
  have e2 : (y * 12 + m - 1 + 4800) % 12 + 1 = m := by have := h.m1; have := h.m12; omega
  unfold mon
  rw [e1, e2, mlen400, show min n (mlen y m) = n from by have := h.nl; omega, ← h.eq]
  unfold num
  rw [bef400, ystart400]; omega
/-- months behind the last of 31 days: a month's last -/
theorem addM_last {M k : Int} (h : lenM M = 31) : InM (addM M 31 k + 1) (M + k + 1) 1 := by
  have b := lenM_bd (M + k); have c := lenM_bd (M + k + 1)
  refine ⟨by omega, by omega, ?_⟩
  unfold addM Dn
  rw [fst_succ]; omega
/-- the day behind -/
theorem InM.next {d M n : Int} (h : InM d M n) : (n < lenM M ∧ InM (d + 1) M (n + 1)) ∨ (n = lenM M ∧ InM (d + 1) (M + 1) 1) := by
  have e := h.eq; have := h.n1; have := h.nl; have b := lenM_bd (M + 1)
  by_cases z : n < lenM M
  · exact .inl ⟨z, by omega, by omega, by unfold Dn at *; omega⟩
  · refine .inr ⟨by omega, by omega, by omega, ?_⟩
    unfold Dn at *; rw [fst_succ]; omega
theorem year_bd {d y m n : Int} (h : DateOf d y m n) (h0 : 0 ≤ d) (h1 : d < ystart 10000) : 2000 ≤ y ∧ y ≤ 9999 := by
  have a := h.in
  have e0 : ystart 2000 = 0 := by decide
  constructor
  · by_cases z : 2000 ≤ y
    · exact z
    · have := ystart_mono (a := y) (b := 2000) (by omega); omega
  · by_cases z : y ≤ 9999
    · exact z
    · have m1 : ystart 10000 ≤ ystart y := by
        have := ystart_mono (a := 9999) (b := y) (by omega)
        exact this
      omega
end Day

namespace L2
open PySem PySem.Spec PyProof.Rows PySem.W
/-! the text of a day -/
def d2 (m : Nat) : List Nat := [48 + m / 10, 48 + m % 10]
def d4 (y : Nat) : List Nat := [48 + y / 1000, 48 + y / 100 % 10, 48 + y / 10 % 10, 48 + y % 10]
theorem zfill_d2 : ∀ m : Fin 100, Txt.zfill (Str.ofString (toString (m.val : Int))) 2 = ⟨(d2 m.val).toArray⟩ := by decide +kernel
theorem int_d2 : ∀ m : Fin 100, PySem.intText? ⟨(d2 m.val).toArray⟩ = some (m.val : Int) := by decide +kernel
theorem digitN : ∀ d : Fin 10, (Nat.digitChar d.val).toNat = 48 + d.val := by decide
theorem digitN' {d : Nat} (h : d < 10) : (Nat.digitChar d).toNat = 48 + d := digitN ⟨d, h⟩
theorem str_d4 {y : Nat} (h1 : 1000 ≤ y) (h2 : y < 10000) : Str.ofString (toString (y : Int)) = ⟨(d4 y).toArray⟩ := by
  have e := KIN.signs_num y
  rw [Nat.toDigits_of_base_le (by decide) (by omega), Nat.toDigits_of_base_le (by decide) (by omega), Nat.toDigits_of_base_le (by decide) (by omega), Nat.toDigits_of_lt_base (by omega)] at e
  simp only [List.cons_append, List.nil_append, List.map_cons, List.map_nil] at e
  rw [digitN' (by omega), digitN' (by omega), digitN' (by omega), digitN' (by omega)] at e
  rw [show y / 10 / 10 / 10 = y / 1000 by omega, show y / 10 / 10 % 10 = y / 100 % 10 by omega] at e
  show _ = (⟨(d4 y).toArray⟩ : Str)
  cases hs : Str.ofString (toString (y : Int)) with
  | mk c =>
    rw [hs] at e
    congr 1
    apply Array.ext'
    rw [e]; rfl
theorem int_d4 {y : Nat} (h1 : 1000 ≤ y) (h2 : y < 10000) : PySem.intText? ⟨(d4 y).toArray⟩ = some (y : Int) := by
  rw [← str_d4 h1 h2]; exact KIN.num_reads (by omega) (by omega)
/-- the signs of a day's text -/
def dtL (y m n : Nat) : List Nat := d4 y ++ 45 :: (d2 m ++ 45 :: d2 n)
def dtx (y m n : Int) : Str := ⟨(dtL y.toNat m.toNat n.toNat).toArray⟩
theorem Str.ext_list {a b : Str} (h : a.cps.toList = b.cps.toList) : a = b := by
  cases a; cases b; congr 1; exact Array.ext' h
theorem app_list (a b : Str) : (a ++ b).cps.toList = a.cps.toList ++ b.cps.toList := by
  show (a.cps ++ b.cps).toList = _; exact Array.toList_append
theorem dtx_eq {y m n : Int} (hy : 1000 ≤ y ∧ y < 10000) (hm : 0 ≤ m ∧ m < 100) (hn : 0 ≤ n ∧ n < 100) :
    Str.empty ++ Str.ofString (toString y) ++ Str.ofString "-" ++ Txt.zfill (Str.ofString (toString m)) 2 ++ Str.ofString "-" ++ Txt.zfill (Str.ofString (toString n)) 2 = dtx y m n := by
  obtain ⟨y, rfl⟩ := Int.eq_ofNat_of_zero_le (show 0 ≤ y by omega)
  obtain ⟨m, rfl⟩ := Int.eq_ofNat_of_zero_le hm.1
  obtain ⟨n, rfl⟩ := Int.eq_ofNat_of_zero_le hn.1
  have e1 := str_d4 (y := y) (by omega) (by omega)
  have e2 := zfill_d2 ⟨m, by omega⟩; have e3 := zfill_d2 ⟨n, by omega⟩
  simp only at e2 e3
  rw [e1, e2, e3]
  apply Str.ext_list
  simp only [app_list]
  have h1 : (Str.ofString "-").cps.toList = [45] := by decide +kernel
  have h2 : Str.empty.cps.toList = [] := rfl
  rw [h1, h2]
  simp [dtx, dtL]
/-! taken apart -/
def splitL (c : Nat) : List Nat → List (List Nat)
  | [] => [[]]
  | x :: xs => if x = c then [] :: splitL c xs else match splitL c xs with | [] => [[x]] | p :: ps => (x :: p) :: ps
def glue (c : Nat) : List (List Nat) → List Nat
  | [] => []
  | [p] => p
  | p :: q :: r => p ++ c :: glue c (q :: r)
theorem splitL_free (c : Nat) : ∀ p : List Nat, c ∉ p → splitL c p = [p]
  | [], _ => rfl
  | x :: xs, h => by
    have hx : x ≠ c := fun e => h (by simp [e])
    have hr : c ∉ xs := fun e => h (by simp [e])
    unfold splitL; rw [if_neg hx, splitL_free c xs hr]
theorem splitL_app (c : Nat) (l : List Nat) : ∀ p : List Nat, c ∉ p → splitL c (p ++ c :: l) = p :: splitL c l
  | [], _ => by show splitL c (c :: l) = _; rw [splitL, if_pos rfl]
  | x :: xs, h => by
    have hx : x ≠ c := fun e => h (by simp [e])
    have hr : c ∉ xs := fun e => h (by simp [e])
    show splitL c (x :: (xs ++ c :: l)) = _
    rw [splitL, if_neg hx, splitL_app c l xs hr]
theorem splitL_glue (c : Nat) : ∀ ps : List (List Nat), ps ≠ [] → (∀ p ∈ ps, c ∉ p) → splitL c (glue c ps) = ps
  | [], h, _ => absurd rfl h
  | [p], _, h => splitL_free c p (h p (by simp))
  | p :: q :: r, _, h => by
    show splitL c (p ++ c :: glue c (q :: r)) = _
    rw [splitL_app c _ p (h p (by simp)), splitL_glue c (q :: r) (by simp) (fun x hx => h x (by simp at hx ⊢; exact .inr hx))]
theorem join_glue (c : Nat) : ∀ ps : List Str, (Str.join ⟨#[c]⟩ ps).cps.toList = glue c (ps.map fun p => p.cps.toList)
  | [] => rfl
  | [p] => rfl
  | p :: q :: r => by
    have ih := join_glue c (q :: r)
    show ((p ++ ⟨#[c]⟩ ++ Str.join ⟨#[c]⟩ (q :: r)) : Str).cps.toList = _
    rw [app_list, app_list, ih]
    show p.cps.toList ++ [c] ++ glue c _ = p.cps.toList ++ c :: glue c _
    simp
theorem split_one (x : Str) (c : Nat) : (Txt.split x ⟨#[c]⟩).map (fun p => p.cps.toList) = splitL c x.cps.toList := by
  have hj := StrLaws.join_split x ⟨#[c]⟩
  have hf := StrLaws.split_free x c
  by_cases hn : Txt.split x ⟨#[c]⟩ = []
  · exfalso
    revert hn
    unfold Txt.split
    split
    · simp
    · split
      · simp
      · intro h
        have := StrLaws.join_split x ⟨#[c]⟩
        have hl := congrArg List.length h
        rw [PyProof.Rows.len_partsBetween] at hl
        simp at hl
  · rw [← hj, join_glue, splitL_glue c _ (by simpa using hn) (fun p hp => by
      obtain ⟨q, hq, rfl⟩ := List.mem_map.mp hp; exact hf q hq)]
    rw [hj]
theorem split_dtx {y m n : Int} : Txt.split (dtx y m n) (Str.ofString "-") = [⟨(d4 y.toNat).toArray⟩, ⟨(d2 m.toNat).toArray⟩, ⟨(d2 n.toNat).toArray⟩] := by
  have e : Str.ofString "-" = ⟨#[45]⟩ := by decide +kernel
  rw [e]
  have h := split_one (dtx y m n) 45
  have e2 : (dtx y m n).cps.toList = d4 y.toNat ++ 45 :: (d2 m.toNat ++ 45 :: d2 n.toNat) := by simp [dtx, dtL]
  rw [e2, splitL_app 45 _ _ (by simp [d4]; omega), splitL_app 45 _ _ (by simp [d2]; omega), splitL_free 45 _ (by simp [d2]; omega)] at h
  have inj : ∀ {a b : List Str}, a.map (fun p => p.cps.toList) = b.map (fun p => p.cps.toList) → a = b := fun {a b} h => by
    induction a generalizing b with
    | nil => cases b with
      | nil => rfl
      | cons _ _ => simp at h
    | cons x xs ih => cases b with
      | nil => simp at h
      | cons z zs =>
        simp only [List.map_cons, List.cons.injEq] at h
        rw [Str.ext_list h.1, ih h.2]
  exact inj (h.trans (by simp))
/-! in order -/
theorem dtx_lt {y m n y' m' n' : Int} (hy : 1000 ≤ y ∧ y < 10000) (hm : 0 ≤ m ∧ m < 100) (hn : 0 ≤ n ∧ n < 100) (hy' : 1000 ≤ y' ∧ y' < 10000) (hm' : 0 ≤ m' ∧ m' < 100) (hn' : 0 ≤ n' ∧ n' < 100) :
    ((dtx y m n).cps.toList < (dtx y' m' n').cps.toList) ↔ (y < y' ∨ (y = y' ∧ (m < m' ∨ (m = m' ∧ n < n')))) := by
  obtain ⟨y, rfl⟩ := Int.eq_ofNat_of_zero_le (show 0 ≤ y by omega)
  obtain ⟨m, rfl⟩ := Int.eq_ofNat_of_zero_le hm.1
  obtain ⟨n, rfl⟩ := Int.eq_ofNat_of_zero_le hn.1
  obtain ⟨y', rfl⟩ := Int.eq_ofNat_of_zero_le (show 0 ≤ y' by omega)
  obtain ⟨m', rfl⟩ := Int.eq_ofNat_of_zero_le hm'.1
  obtain ⟨n', rfl⟩ := Int.eq_ofNat_of_zero_le hn'.1
  simp only [dtx, dtL, d4, d2, Int.toNat_natCast, List.cons_append, List.nil_append, List.cons_lt_cons_iff, Int.ofNat_lt, Int.natCast_inj, List.not_lt_nil, and_false, or_false, Nat.lt_irrefl, false_or, true_and, Nat.add_lt_add_iff_left, Nat.add_left_cancel_iff]
  have a1 : y = 1000 * (y / 1000) + 100 * (y / 100 % 10) + 10 * (y / 10 % 10) + y % 10 := by omega
  have a2 : y' = 1000 * (y' / 1000) + 100 * (y' / 100 % 10) + 10 * (y' / 10 % 10) + y' % 10 := by omega
  have b1 : m = 10 * (m / 10) + m % 10 := by omega
  have b2 : m' = 10 * (m' / 10) + m' % 10 := by omega
  have c1 : n = 10 * (n / 10) + n % 10 := by omega
  have c2 : n' = 10 * (n' / 10) + n' % 10 := by omega
  have hyy : (y < y' ↔ y / 1000 < y' / 1000 ∨ (y / 1000 = y' / 1000 ∧ (y / 100 % 10 < y' / 100 % 10 ∨ (y / 100 % 10 = y' / 100 % 10 ∧ (y / 10 % 10 < y' / 10 % 10 ∨ (y / 10 % 10 = y' / 10 % 10 ∧ y % 10 < y' % 10)))))) := by omega
  have hye : (y = y' ↔ y / 1000 = y' / 1000 ∧ y / 100 % 10 = y' / 100 % 10 ∧ y / 10 % 10 = y' / 10 % 10 ∧ y % 10 = y' % 10) := by omega
  have hmm : (m < m' ↔ m / 10 < m' / 10 ∨ (m / 10 = m' / 10 ∧ m % 10 < m' % 10)) := by omega
  have hme : (m = m' ↔ m / 10 = m' / 10 ∧ m % 10 = m' % 10) := by omega
  have hnn : (n < n' ↔ n / 10 < n' / 10 ∨ (n / 10 = n' / 10 ∧ n % 10 < n' % 10)) := by omega
  rw [hyy, hye, hmm, hme, hnn]
  clear hyy hye hmm hme hnn a1 a2 b1 b2 c1 c2
  constructor
  · intro h; simp only [and_or_left, and_assoc, or_assoc] at h ⊢; exact h
  · intro h; simp only [and_or_left, and_assoc, or_assoc] at h ⊢; exact h
theorem dtx_inj {y m n y' m' n' : Int} (hy : 1000 ≤ y ∧ y < 10000) (hm : 0 ≤ m ∧ m < 100) (hn : 0 ≤ n ∧ n < 100) (hy' : 1000 ≤ y' ∧ y' < 10000) (hm' : 0 ≤ m' ∧ m' < 100) (hn' : 0 ≤ n' ∧ n' < 100) (h : dtx y m n = dtx y' m' n') : y = y' ∧ m = m' ∧ n = n' := by
  have h1 : ¬ ((dtx y m n).cps.toList < (dtx y' m' n').cps.toList) := by rw [h]; exact List.lt_irrefl _
  have h2 : ¬ ((dtx y' m' n').cps.toList < (dtx y m n).cps.toList) := by rw [h]; exact List.lt_irrefl _
  rw [dtx_lt hy hm hn hy' hm' hn'] at h1
  rw [dtx_lt hy' hm' hn' hy hm hn] at h2
  omega
theorem dtx_len (y m n : Int) : (dtx y m n).length = 10 := by simp [dtx, dtL, d4, d2, Str.length]
theorem lexLt3 {a b c a' b' c' : Int} : HT.lexLt [a, b, c] [a', b', c'] = decide (a < a' ∨ (a = a' ∧ (b < b' ∨ (b = b' ∧ c < c')))) := by
  simp only [HT.lexLt]
  by_cases h1 : a < a' <;> by_cases h2 : a = a' <;> by_cases h3 : b < b' <;> by_cases h4 : b = b' <;> by_cases h5 : c < c' <;> simp_all <;> (intros; omega)
end L2

namespace K04
open PySem L2
def top (i : Nat) : Stmt := PySem.Challenge.pw_goneday_k04_whole_days_go_along.main.body.getD i (.Pass ⟨0, 0, 0, 0⟩)
abbrev s_is_whole : Stmt := top 12
abbrev s_is_day : Stmt := top 13
abbrev s_is_leap : Stmt := top 14
abbrev s_month_length : Stmt := top 15
abbrev s_leaps_before : Stmt := top 16
abbrev s_year_start : Stmt := top 17
abbrev s_year_of : Stmt := top 18
abbrev s_parts_of : Stmt := top 19
abbrev s_number_of : Stmt := top 20
abbrev s_is_date : Stmt := top 21
abbrev s_day_of : Stmt := top 22
abbrev s_date_of : Stmt := top 23
abbrev s_later : Stmt := top 24
abbrev s_show_day : Stmt := top 25
abbrev s_is_figures : Stmt := top 26
abbrev s_read_day : Stmt := top 27
abbrev s__law_mixed : Stmt := top 29
abbrev s__law_pack : Stmt := top 30
abbrev s__law_take : Stmt := top 31
abbrev s__law_near : Stmt := top 32
abbrev s__law_order : Stmt := top 33
abbrev s__law_same_way : Stmt := top 34
abbrev s__law_goes_on : Stmt := top 35
abbrev s__law_sizes_right : Stmt := top 36
abbrev s_law : Stmt := top 37
structure Adr where
  a_is_whole : Addr
  d_is_whole : FuncData
  a_is_day : Addr
  d_is_day : FuncData
  a_is_leap : Addr
  d_is_leap : FuncData
  a_month_length : Addr
  d_month_length : FuncData
  a_leaps_before : Addr
  d_leaps_before : FuncData
  a_year_start : Addr
  d_year_start : FuncData
  a_year_of : Addr
  d_year_of : FuncData
  a_parts_of : Addr
  d_parts_of : FuncData
  a_number_of : Addr
  d_number_of : FuncData
  a_is_date : Addr
  d_is_date : FuncData
  a_day_of : Addr
  d_day_of : FuncData
  a_date_of : Addr
  d_date_of : FuncData
  a_later : Addr
  d_later : FuncData
  a_show_day : Addr
  d_show_day : FuncData
  a_is_figures : Addr
  d_is_figures : FuncData
  a_read_day : Addr
  d_read_day : FuncData
  a__law_mixed : Addr
  d__law_mixed : FuncData
  a__law_pack : Addr
  d__law_pack : FuncData
  a__law_take : Addr
  d__law_take : FuncData
  a__law_near : Addr
  d__law_near : FuncData
  a__law_order : Addr
  d__law_order : FuncData
  a__law_same_way : Addr
  d__law_same_way : FuncData
  a__law_goes_on : Addr
  d__law_goes_on : FuncData
  a__law_sizes_right : Addr
  d__law_sizes_right : FuncData
  a_law : Addr
  d_law : FuncData
  u_LAST_WRITTEN : Value
  u_MONTH_DAYS : Value
  u_FIRST_YEAR : Value
  u_ROUND_DAYS : Value
  u_ROUND_YEARS : Value
  u_LAST_YEAR : Value
  u_NoDay : Addr
  u_FIGURES : Value
  u_NoText : Addr
structure Txt (K : PySem.W.Frag) (mg : Str → Option Value) (t : Adr) : Prop where
  F_is_whole : Fun K "is_whole" "is_whole" s_is_whole t.a_is_whole t.d_is_whole
  m_is_whole : mg "is_whole" = some (.ref t.a_is_whole)
  b_is_whole : Binds K t.d_is_whole ["thing"] []
  F_is_day : Fun K "is_day" "is_day" s_is_day t.a_is_day t.d_is_day
  m_is_day : mg "is_day" = some (.ref t.a_is_day)
  b_is_day : Binds K t.d_is_day ["thing"] []
  F_is_leap : Fun K "is_leap" "is_leap" s_is_leap t.a_is_leap t.d_is_leap
  m_is_leap : mg "is_leap" = some (.ref t.a_is_leap)
  b_is_leap : Binds K t.d_is_leap ["year"] []
  F_month_length : Fun K "month_length" "month_length" s_month_length t.a_month_length t.d_month_length
  m_month_length : mg "month_length" = some (.ref t.a_month_length)
  b_month_length : Binds K t.d_month_length ["year", "month"] []
  F_leaps_before : Fun K "leaps_before" "leaps_before" s_leaps_before t.a_leaps_before t.d_leaps_before
  m_leaps_before : mg "leaps_before" = some (.ref t.a_leaps_before)
  b_leaps_before : Binds K t.d_leaps_before ["year"] []
  F_year_start : Fun K "year_start" "year_start" s_year_start t.a_year_start t.d_year_start
  m_year_start : mg "year_start" = some (.ref t.a_year_start)
  b_year_start : Binds K t.d_year_start ["year"] []
  F_year_of : Fun K "year_of" "year_of" s_year_of t.a_year_of t.d_year_of
  m_year_of : mg "year_of" = some (.ref t.a_year_of)
  b_year_of : Binds K t.d_year_of ["day"] []
  F_parts_of : Fun K "parts_of" "parts_of" s_parts_of t.a_parts_of t.d_parts_of
  m_parts_of : mg "parts_of" = some (.ref t.a_parts_of)
  b_parts_of : Binds K t.d_parts_of ["day"] []
  F_number_of : Fun K "number_of" "number_of" s_number_of t.a_number_of t.d_number_of
  m_number_of : mg "number_of" = some (.ref t.a_number_of)
  b_number_of : Binds K t.d_number_of ["year", "month", "day"] []
  F_is_date : Fun K "is_date" "is_date" s_is_date t.a_is_date t.d_is_date
  m_is_date : mg "is_date" = some (.ref t.a_is_date)
  b_is_date : Binds K t.d_is_date ["year", "month", "day"] []
  F_day_of : Fun K "day_of" "day_of" s_day_of t.a_day_of t.d_day_of
  m_day_of : mg "day_of" = some (.ref t.a_day_of)
  b_day_of : Binds K t.d_day_of ["year", "month", "day"] []
  F_date_of : Fun K "date_of" "date_of" s_date_of t.a_date_of t.d_date_of
  m_date_of : mg "date_of" = some (.ref t.a_date_of)
  b_date_of : Binds K t.d_date_of ["day"] []
  F_later : Fun K "later" "later" s_later t.a_later t.d_later
  m_later : mg "later" = some (.ref t.a_later)
  b_later : Binds K t.d_later ["day", "many", "unit"] []
  F_show_day : Fun K "show_day" "show_day" s_show_day t.a_show_day t.d_show_day
  m_show_day : mg "show_day" = some (.ref t.a_show_day)
  b_show_day : Binds K t.d_show_day ["day"] []
  F_is_figures : Fun K "is_figures" "is_figures" s_is_figures t.a_is_figures t.d_is_figures
  m_is_figures : mg "is_figures" = some (.ref t.a_is_figures)
  b_is_figures : Binds K t.d_is_figures ["text", "length"] []
  F_read_day : Fun K "read_day" "read_day" s_read_day t.a_read_day t.d_read_day
  m_read_day : mg "read_day" = some (.ref t.a_read_day)
  b_read_day : Binds K t.d_read_day ["text"] []
  F__law_mixed : Fun K "_law_mixed" "_law_mixed" s__law_mixed t.a__law_mixed t.d__law_mixed
  m__law_mixed : mg "_law_mixed" = some (.ref t.a__law_mixed)
  b__law_mixed : Binds K t.d__law_mixed ["_law_cell"] []
  F__law_pack : Fun K "_law_pack" "_law_pack" s__law_pack t.a__law_pack t.d__law_pack
  m__law_pack : mg "_law_pack" = some (.ref t.a__law_pack)
  b__law_pack : Binds K t.d__law_pack ["_law_script", "_law_k"] []
  F__law_take : Fun K "_law_take" "_law_take" s__law_take t.a__law_take t.d__law_take
  m__law_take : mg "_law_take" = some (.ref t.a__law_take)
  b__law_take : Binds K t.d__law_take ["_law_pack_here", "_law_size"] []
  F__law_near : Fun K "_law_near" "_law_near" s__law_near t.a__law_near t.d__law_near
  m__law_near : mg "_law_near" = some (.ref t.a__law_near)
  b__law_near : Binds K t.d__law_near ["_law_pack_here"] []
  F__law_order : Fun K "_law_order" "_law_order" s__law_order t.a__law_order t.d__law_order
  m__law_order : mg "_law_order" = some (.ref t.a__law_order)
  b__law_order : Binds K t.d__law_order ["_law_one", "_law_other"] []
  F__law_same_way : Fun K "_law_same_way" "_law_same_way" s__law_same_way t.a__law_same_way t.d__law_same_way
  m__law_same_way : mg "_law_same_way" = some (.ref t.a__law_same_way)
  b__law_same_way : Binds K t.d__law_same_way ["_law_one", "_law_other"] []
  F__law_goes_on : Fun K "_law_goes_on" "_law_goes_on" s__law_goes_on t.a__law_goes_on t.d__law_goes_on
  m__law_goes_on : mg "_law_goes_on" = some (.ref t.a__law_goes_on)
  b__law_goes_on : Binds K t.d__law_goes_on ["_law_one", "_law_other", "_law_numbers", "_law_unit"] []
  F__law_sizes_right : Fun K "_law_sizes_right" "_law_sizes_right" s__law_sizes_right t.a__law_sizes_right t.d__law_sizes_right
  m__law_sizes_right : mg "_law_sizes_right" = some (.ref t.a__law_sizes_right)
  b__law_sizes_right : Binds K t.d__law_sizes_right ["_law_day"] []
  F_law : Fun K "law" "law" s_law t.a_law t.d_law
  m_law : mg "law" = some (.ref t.a_law)
  b_law : Binds K t.d_law ["_law_script"] []
  bt_law : ∀ (s : Shared) (u : Value), BindsTo s t.d_law ⟨[u], []⟩ [("_law_script", u)]
  c_LAST_WRITTEN : mg "LAST_WRITTEN" = some t.u_LAST_WRITTEN
  r_LAST_WRITTEN : RelV (.int 99999) t.u_LAST_WRITTEN
  c_MONTH_DAYS : mg "MONTH_DAYS" = some t.u_MONTH_DAYS
  e_MONTH_DAYS : ∃ a, t.u_MONTH_DAYS = .ref a ∧ ∀ H, SqT K H a [V.int 31, V.int 28, V.int 31, V.int 30, V.int 31, V.int 30, V.int 31, V.int 31, V.int 30, V.int 31, V.int 30, V.int 31]
  c_FIRST_YEAR : mg "FIRST_YEAR" = some t.u_FIRST_YEAR
  r_FIRST_YEAR : RelV (.int 2000) t.u_FIRST_YEAR
  c_ROUND_DAYS : mg "ROUND_DAYS" = some t.u_ROUND_DAYS
  r_ROUND_DAYS : RelV (.int 146097) t.u_ROUND_DAYS
  c_ROUND_YEARS : mg "ROUND_YEARS" = some t.u_ROUND_YEARS
  r_ROUND_YEARS : RelV (.int 400) t.u_ROUND_YEARS
  c_LAST_YEAR : mg "LAST_YEAR" = some t.u_LAST_YEAR
  r_LAST_YEAR : RelV (.int 9999) t.u_LAST_YEAR
  c_NoDay : mg "NoDay" = some (.ref t.u_NoDay)
  c_FIGURES : mg "FIGURES" = some t.u_FIGURES
  r_FIGURES : RelV (.str "0123456789") t.u_FIGURES
  c_NoText : mg "NoText" = some (.ref t.u_NoText)
  n_all : mg "all" = none
  n_bool : mg "bool" = none
  n_divmod : mg "divmod" = none
  n_int : mg "int" = none
  n_isinstance : mg "isinstance" = none
  n_len : mg "len" = none
  n_max : mg "max" = none
  n_min : mg "min" = none
  n_range : mg "range" = none
  n_str : mg "str" = none
  n_sum : mg "sum" = none
theorem sc_is_whole : FnScope ["thing"] ["thing"] (defScope s_is_whole) := ⟨rfl, rfl, rfl, by decide +kernel, rfl, by decide +kernel, by decide +kernel⟩
theorem sc_is_day : FnScope ["thing"] ["thing"] (defScope s_is_day) := ⟨rfl, rfl, rfl, by decide +kernel, rfl, by decide +kernel, by decide +kernel⟩
theorem sc_is_leap : FnScope ["year"] ["year"] (defScope s_is_leap) := ⟨rfl, rfl, rfl, by decide +kernel, rfl, by decide +kernel, by decide +kernel⟩
theorem sc_month_length : FnScope ["year", "month"] ["year", "month"] (defScope s_month_length) := ⟨rfl, rfl, rfl, by decide +kernel, rfl, by decide +kernel, by decide +kernel⟩
theorem sc_leaps_before : FnScope ["year", "past"] ["year"] (defScope s_leaps_before) := ⟨rfl, rfl, rfl, by decide +kernel, rfl, by decide +kernel, by decide +kernel⟩
theorem sc_year_start : FnScope ["year"] ["year"] (defScope s_year_start) := ⟨rfl, rfl, rfl, by decide +kernel, rfl, by decide +kernel, by decide +kernel⟩
theorem sc_year_of : FnScope ["day", "year"] ["day"] (defScope s_year_of) := ⟨rfl, rfl, rfl, by decide +kernel, rfl, by decide +kernel, by decide +kernel⟩
theorem sc_parts_of : FnScope ["day", "year", "left", "month"] ["day"] (defScope s_parts_of) := ⟨rfl, rfl, rfl, by decide +kernel, rfl, by decide +kernel, by decide +kernel⟩
theorem sc_number_of : FnScope ["year", "month", "day", "before"] ["year", "month", "day"] (defScope s_number_of) := ⟨rfl, rfl, rfl, by decide +kernel, rfl, by decide +kernel, by decide +kernel⟩
theorem sc_is_date : FnScope ["year", "month", "day"] ["year", "month", "day"] (defScope s_is_date) := ⟨rfl, rfl, rfl, by decide +kernel, rfl, by decide +kernel, by decide +kernel⟩
theorem sc_day_of : FnScope ["year", "month", "day"] ["year", "month", "day"] (defScope s_day_of) := ⟨rfl, rfl, rfl, by decide +kernel, rfl, by decide +kernel, by decide +kernel⟩
theorem sc_date_of : FnScope ["day"] ["day"] (defScope s_date_of) := ⟨rfl, rfl, rfl, by decide +kernel, rfl, by decide +kernel, by decide +kernel⟩
theorem sc_later : FnScope ["day", "many", "unit", "months", "parts", "place", "year", "month"] ["day", "many", "unit"] (defScope s_later) := ⟨rfl, rfl, rfl, by decide +kernel, rfl, by decide +kernel, by decide +kernel⟩
theorem sc_show_day : FnScope ["day", "parts", "year", "month", "number"] ["day"] (defScope s_show_day) := ⟨rfl, rfl, rfl, by decide +kernel, rfl, by decide +kernel, by decide +kernel⟩
theorem sc_is_figures : FnScope ["text", "length"] ["text", "length"] (defScope s_is_figures) := ⟨rfl, rfl, rfl, by decide +kernel, rfl, by decide +kernel, by decide +kernel⟩
theorem sc_read_day : FnScope ["text", "words", "year", "month", "number"] ["text"] (defScope s_read_day) := ⟨rfl, rfl, rfl, by decide +kernel, rfl, by decide +kernel, by decide +kernel⟩
theorem sc__law_mixed : FnScope ["_law_cell"] ["_law_cell"] (defScope s__law_mixed) := ⟨rfl, rfl, rfl, by decide +kernel, rfl, by decide +kernel, by decide +kernel⟩
theorem sc__law_pack : FnScope ["_law_script", "_law_k"] ["_law_script", "_law_k"] (defScope s__law_pack) := ⟨rfl, rfl, rfl, by decide +kernel, rfl, by decide +kernel, by decide +kernel⟩
theorem sc__law_take : FnScope ["_law_pack_here", "_law_size", "_law_digit"] ["_law_pack_here", "_law_size"] (defScope s__law_take) := ⟨rfl, rfl, rfl, by decide +kernel, rfl, by decide +kernel, by decide +kernel⟩
theorem sc__law_near : FnScope ["_law_pack_here", "_law_way", "_law_year", "_law_month"] ["_law_pack_here"] (defScope s__law_near) := ⟨rfl, rfl, rfl, by decide +kernel, rfl, by decide +kernel, by decide +kernel⟩
theorem sc__law_order : FnScope ["_law_one", "_law_other"] ["_law_one", "_law_other"] (defScope s__law_order) := ⟨rfl, rfl, rfl, by decide +kernel, rfl, by decide +kernel, by decide +kernel⟩
theorem sc__law_same_way : FnScope ["_law_one", "_law_other", "_law_due", "_law_day", "_law_year", "_law_month", "_law_number", "_law_following"] ["_law_one", "_law_other"] (defScope s__law_same_way) := ⟨rfl, rfl, rfl, by decide +kernel, rfl, by decide +kernel, by decide +kernel⟩
theorem sc__law_goes_on : FnScope ["_law_one", "_law_other", "_law_numbers", "_law_unit", "_law_first", "_law_second", "_law_third", "_law_both", "_law_two", "_law_apart"] ["_law_one", "_law_other", "_law_numbers", "_law_unit"] (defScope s__law_goes_on) := ⟨rfl, rfl, rfl, by decide +kernel, rfl, by decide +kernel, by decide +kernel⟩
theorem sc__law_sizes_right : FnScope ["_law_day"] ["_law_day"] (defScope s__law_sizes_right) := ⟨rfl, rfl, rfl, by decide +kernel, rfl, by decide +kernel, by decide +kernel⟩
theorem sc_law : FnScope ["_law_script", "_law_k", "_law_pack_here", "_law_one", "_law_other", "_law_numbers", "_law_unit", "_law_last", "_law_end"] ["_law_script"] (defScope s_law) := ⟨rfl, rfl, rfl, by decide +kernel, rfl, by decide +kernel, by decide +kernel⟩
theorem txt_mk {K : PySem.W.Frag} {h : Heap} {mg : Str → Option Value} (X : K.In h) (G : h.Ns mainGlobals mg)
    {f0 f1 f2 f3 f4 f5 f6 f7 f8 f9 f10 f11 f12 f13 f14 f15 f16 f17 f18 f19 f20 f21 f22 f23 f24 : Addr} {od0 an0 od1 an1 od2 an2 od3 an3 od4 an4 od5 an5 od6 an6 od7 an7 od8 an8 od9 an9 od10 an10 od11 an11 od12 an12 od13 an13 od14 an14 od15 an15 od16 an16 od17 an17 od18 an18 od19 an19 od20 an20 od21 an21 od22 an22 od23 an23 od24 an24 : Option Addr} {sl0 sl1 sl2 sl3 sl4 sl5 sl6 sl7 sl8 sl9 sl10 sl11 sl12 sl13 sl14 sl15 sl16 sl17 sl18 sl19 sl20 sl21 sl22 sl23 sl24 : Array (Option Value)} {oc0 kV0 dc0 pm0 cd0 ct0 oc1 kV1 dc1 pm1 cd1 ct1 oc2 kV2 dc2 pm2 cd2 ct2 oc3 kV3 dc3 pm3 cd3 ct3 oc4 kV4 dc4 pm4 cd4 ct4 oc5 kV5 dc5 pm5 cd5 ct5 oc6 kV6 dc6 pm6 cd6 ct6 oc7 kV7 dc7 pm7 cd7 ct7 oc8 kV8 dc8 pm8 cd8 ct8 oc9 kV9 dc9 pm9 cd9 ct9 oc10 kV10 dc10 pm10 cd10 ct10 oc11 kV11 dc11 pm11 cd11 ct11 oc12 kV12 dc12 pm12 cd12 ct12 oc13 kV13 dc13 pm13 cd13 ct13 oc14 kV14 dc14 pm14 cd14 ct14 oc15 kV15 dc15 pm15 cd15 ct15 oc16 kV16 dc16 pm16 cd16 ct16 oc17 kV17 dc17 pm17 cd17 ct17 oc18 kV18 dc18 pm18 cd18 ct18 oc19 kV19 dc19 pm19 cd19 ct19 oc20 kV20 dc20 pm20 cd20 ct20 oc21 kV21 dc21 pm21 cd21 ct21 oc22 kV22 dc22 pm22 cd22 ct22 oc23 kV23 dc23 pm23 cd23 ct23 oc24 kV24 dc24 pm24 cd24 ct24 : Value}
    {u_NoDay u_NoText : Addr}
    {u_LAST_WRITTEN u_FIRST_YEAR u_ROUND_DAYS u_ROUND_YEARS u_LAST_YEAR u_FIGURES : Value}
    {A_MONTH_DAYS : Addr} {dd_MONTH_DAYS : Option Addr} {its_MONTH_DAYS : Array Value} {n_MONTH_DAYS : Nat} {sl_MONTH_DAYS : Array (Option Value)}
    (a0 : PySem.W.nsIn K mainGlobals "is_whole" = some (some (.ref f0))) (l0 : K.lookup f0 = some ⟨oc0, od0, .func (PySem.W.fnOf "is_whole" "is_whole" (defArgs s_is_whole) (defBody s_is_whole) (defScope s_is_whole) .none kV0 dc0 pm0 an0 cd0 ct0), sl0⟩) (c0 : PySem.W.codeIn K cd0 "is_whole" = true) (k0 : PySem.W.keepIn K (.ref f0) = true)
    (a1 : PySem.W.nsIn K mainGlobals "is_day" = some (some (.ref f1))) (l1 : K.lookup f1 = some ⟨oc1, od1, .func (PySem.W.fnOf "is_day" "is_day" (defArgs s_is_day) (defBody s_is_day) (defScope s_is_day) .none kV1 dc1 pm1 an1 cd1 ct1), sl1⟩) (c1 : PySem.W.codeIn K cd1 "is_day" = true) (k1 : PySem.W.keepIn K (.ref f1) = true)
    (a2 : PySem.W.nsIn K mainGlobals "is_leap" = some (some (.ref f2))) (l2 : K.lookup f2 = some ⟨oc2, od2, .func (PySem.W.fnOf "is_leap" "is_leap" (defArgs s_is_leap) (defBody s_is_leap) (defScope s_is_leap) .none kV2 dc2 pm2 an2 cd2 ct2), sl2⟩) (c2 : PySem.W.codeIn K cd2 "is_leap" = true) (k2 : PySem.W.keepIn K (.ref f2) = true)
    (a3 : PySem.W.nsIn K mainGlobals "month_length" = some (some (.ref f3))) (l3 : K.lookup f3 = some ⟨oc3, od3, .func (PySem.W.fnOf "month_length" "month_length" (defArgs s_month_length) (defBody s_month_length) (defScope s_month_length) .none kV3 dc3 pm3 an3 cd3 ct3), sl3⟩) (c3 : PySem.W.codeIn K cd3 "month_length" = true) (k3 : PySem.W.keepIn K (.ref f3) = true)
    (a4 : PySem.W.nsIn K mainGlobals "leaps_before" = some (some (.ref f4))) (l4 : K.lookup f4 = some ⟨oc4, od4, .func (PySem.W.fnOf "leaps_before" "leaps_before" (defArgs s_leaps_before) (defBody s_leaps_before) (defScope s_leaps_before) .none kV4 dc4 pm4 an4 cd4 ct4), sl4⟩) (c4 : PySem.W.codeIn K cd4 "leaps_before" = true) (k4 : PySem.W.keepIn K (.ref f4) = true)
    (a5 : PySem.W.nsIn K mainGlobals "year_start" = some (some (.ref f5))) (l5 : K.lookup f5 = some ⟨oc5, od5, .func (PySem.W.fnOf "year_start" "year_start" (defArgs s_year_start) (defBody s_year_start) (defScope s_year_start) .none kV5 dc5 pm5 an5 cd5 ct5), sl5⟩) (c5 : PySem.W.codeIn K cd5 "year_start" = true) (k5 : PySem.W.keepIn K (.ref f5) = true)
    (a6 : PySem.W.nsIn K mainGlobals "year_of" = some (some (.ref f6))) (l6 : K.lookup f6 = some ⟨oc6, od6, .func (PySem.W.fnOf "year_of" "year_of" (defArgs s_year_of) (defBody s_year_of) (defScope s_year_of) .none kV6 dc6 pm6 an6 cd6 ct6), sl6⟩) (c6 : PySem.W.codeIn K cd6 "year_of" = true) (k6 : PySem.W.keepIn K (.ref f6) = true)
    (a7 : PySem.W.nsIn K mainGlobals "parts_of" = some (some (.ref f7))) (l7 : K.lookup f7 = some ⟨oc7, od7, .func (PySem.W.fnOf "parts_of" "parts_of" (defArgs s_parts_of) (defBody s_parts_of) (defScope s_parts_of) .none kV7 dc7 pm7 an7 cd7 ct7), sl7⟩) (c7 : PySem.W.codeIn K cd7 "parts_of" = true) (k7 : PySem.W.keepIn K (.ref f7) = true)
    (a8 : PySem.W.nsIn K mainGlobals "number_of" = some (some (.ref f8))) (l8 : K.lookup f8 = some ⟨oc8, od8, .func (PySem.W.fnOf "number_of" "number_of" (defArgs s_number_of) (defBody s_number_of) (defScope s_number_of) .none kV8 dc8 pm8 an8 cd8 ct8), sl8⟩) (c8 : PySem.W.codeIn K cd8 "number_of" = true) (k8 : PySem.W.keepIn K (.ref f8) = true)
    (a9 : PySem.W.nsIn K mainGlobals "is_date" = some (some (.ref f9))) (l9 : K.lookup f9 = some ⟨oc9, od9, .func (PySem.W.fnOf "is_date" "is_date" (defArgs s_is_date) (defBody s_is_date) (defScope s_is_date) .none kV9 dc9 pm9 an9 cd9 ct9), sl9⟩) (c9 : PySem.W.codeIn K cd9 "is_date" = true) (k9 : PySem.W.keepIn K (.ref f9) = true)
    (a10 : PySem.W.nsIn K mainGlobals "day_of" = some (some (.ref f10))) (l10 : K.lookup f10 = some ⟨oc10, od10, .func (PySem.W.fnOf "day_of" "day_of" (defArgs s_day_of) (defBody s_day_of) (defScope s_day_of) .none kV10 dc10 pm10 an10 cd10 ct10), sl10⟩) (c10 : PySem.W.codeIn K cd10 "day_of" = true) (k10 : PySem.W.keepIn K (.ref f10) = true)
    (a11 : PySem.W.nsIn K mainGlobals "date_of" = some (some (.ref f11))) (l11 : K.lookup f11 = some ⟨oc11, od11, .func (PySem.W.fnOf "date_of" "date_of" (defArgs s_date_of) (defBody s_date_of) (defScope s_date_of) .none kV11 dc11 pm11 an11 cd11 ct11), sl11⟩) (c11 : PySem.W.codeIn K cd11 "date_of" = true) (k11 : PySem.W.keepIn K (.ref f11) = true)
    (a12 : PySem.W.nsIn K mainGlobals "later" = some (some (.ref f12))) (l12 : K.lookup f12 = some ⟨oc12, od12, .func (PySem.W.fnOf "later" "later" (defArgs s_later) (defBody s_later) (defScope s_later) .none kV12 dc12 pm12 an12 cd12 ct12), sl12⟩) (c12 : PySem.W.codeIn K cd12 "later" = true) (k12 : PySem.W.keepIn K (.ref f12) = true)
    (a13 : PySem.W.nsIn K mainGlobals "show_day" = some (some (.ref f13))) (l13 : K.lookup f13 = some ⟨oc13, od13, .func (PySem.W.fnOf "show_day" "show_day" (defArgs s_show_day) (defBody s_show_day) (defScope s_show_day) .none kV13 dc13 pm13 an13 cd13 ct13), sl13⟩) (c13 : PySem.W.codeIn K cd13 "show_day" = true) (k13 : PySem.W.keepIn K (.ref f13) = true)
    (a14 : PySem.W.nsIn K mainGlobals "is_figures" = some (some (.ref f14))) (l14 : K.lookup f14 = some ⟨oc14, od14, .func (PySem.W.fnOf "is_figures" "is_figures" (defArgs s_is_figures) (defBody s_is_figures) (defScope s_is_figures) .none kV14 dc14 pm14 an14 cd14 ct14), sl14⟩) (c14 : PySem.W.codeIn K cd14 "is_figures" = true) (k14 : PySem.W.keepIn K (.ref f14) = true)
    (a15 : PySem.W.nsIn K mainGlobals "read_day" = some (some (.ref f15))) (l15 : K.lookup f15 = some ⟨oc15, od15, .func (PySem.W.fnOf "read_day" "read_day" (defArgs s_read_day) (defBody s_read_day) (defScope s_read_day) .none kV15 dc15 pm15 an15 cd15 ct15), sl15⟩) (c15 : PySem.W.codeIn K cd15 "read_day" = true) (k15 : PySem.W.keepIn K (.ref f15) = true)
    (a16 : PySem.W.nsIn K mainGlobals "_law_mixed" = some (some (.ref f16))) (l16 : K.lookup f16 = some ⟨oc16, od16, .func (PySem.W.fnOf "_law_mixed" "_law_mixed" (defArgs s__law_mixed) (defBody s__law_mixed) (defScope s__law_mixed) .none kV16 dc16 pm16 an16 cd16 ct16), sl16⟩) (c16 : PySem.W.codeIn K cd16 "_law_mixed" = true) (k16 : PySem.W.keepIn K (.ref f16) = true)
    (a17 : PySem.W.nsIn K mainGlobals "_law_pack" = some (some (.ref f17))) (l17 : K.lookup f17 = some ⟨oc17, od17, .func (PySem.W.fnOf "_law_pack" "_law_pack" (defArgs s__law_pack) (defBody s__law_pack) (defScope s__law_pack) .none kV17 dc17 pm17 an17 cd17 ct17), sl17⟩) (c17 : PySem.W.codeIn K cd17 "_law_pack" = true) (k17 : PySem.W.keepIn K (.ref f17) = true)
    (a18 : PySem.W.nsIn K mainGlobals "_law_take" = some (some (.ref f18))) (l18 : K.lookup f18 = some ⟨oc18, od18, .func (PySem.W.fnOf "_law_take" "_law_take" (defArgs s__law_take) (defBody s__law_take) (defScope s__law_take) .none kV18 dc18 pm18 an18 cd18 ct18), sl18⟩) (c18 : PySem.W.codeIn K cd18 "_law_take" = true) (k18 : PySem.W.keepIn K (.ref f18) = true)
    (a19 : PySem.W.nsIn K mainGlobals "_law_near" = some (some (.ref f19))) (l19 : K.lookup f19 = some ⟨oc19, od19, .func (PySem.W.fnOf "_law_near" "_law_near" (defArgs s__law_near) (defBody s__law_near) (defScope s__law_near) .none kV19 dc19 pm19 an19 cd19 ct19), sl19⟩) (c19 : PySem.W.codeIn K cd19 "_law_near" = true) (k19 : PySem.W.keepIn K (.ref f19) = true)
    (a20 : PySem.W.nsIn K mainGlobals "_law_order" = some (some (.ref f20))) (l20 : K.lookup f20 = some ⟨oc20, od20, .func (PySem.W.fnOf "_law_order" "_law_order" (defArgs s__law_order) (defBody s__law_order) (defScope s__law_order) .none kV20 dc20 pm20 an20 cd20 ct20), sl20⟩) (c20 : PySem.W.codeIn K cd20 "_law_order" = true) (k20 : PySem.W.keepIn K (.ref f20) = true)
    (a21 : PySem.W.nsIn K mainGlobals "_law_same_way" = some (some (.ref f21))) (l21 : K.lookup f21 = some ⟨oc21, od21, .func (PySem.W.fnOf "_law_same_way" "_law_same_way" (defArgs s__law_same_way) (defBody s__law_same_way) (defScope s__law_same_way) .none kV21 dc21 pm21 an21 cd21 ct21), sl21⟩) (c21 : PySem.W.codeIn K cd21 "_law_same_way" = true) (k21 : PySem.W.keepIn K (.ref f21) = true)
    (a22 : PySem.W.nsIn K mainGlobals "_law_goes_on" = some (some (.ref f22))) (l22 : K.lookup f22 = some ⟨oc22, od22, .func (PySem.W.fnOf "_law_goes_on" "_law_goes_on" (defArgs s__law_goes_on) (defBody s__law_goes_on) (defScope s__law_goes_on) .none kV22 dc22 pm22 an22 cd22 ct22), sl22⟩) (c22 : PySem.W.codeIn K cd22 "_law_goes_on" = true) (k22 : PySem.W.keepIn K (.ref f22) = true)
    (a23 : PySem.W.nsIn K mainGlobals "_law_sizes_right" = some (some (.ref f23))) (l23 : K.lookup f23 = some ⟨oc23, od23, .func (PySem.W.fnOf "_law_sizes_right" "_law_sizes_right" (defArgs s__law_sizes_right) (defBody s__law_sizes_right) (defScope s__law_sizes_right) .none kV23 dc23 pm23 an23 cd23 ct23), sl23⟩) (c23 : PySem.W.codeIn K cd23 "_law_sizes_right" = true) (k23 : PySem.W.keepIn K (.ref f23) = true)
    (a24 : PySem.W.nsIn K mainGlobals "law" = some (some (.ref f24))) (l24 : K.lookup f24 = some ⟨oc24, od24, .func (PySem.W.fnOf "law" "law" (defArgs s_law) (defBody s_law) (defScope s_law) .none kV24 dc24 pm24 an24 cd24 ct24), sl24⟩) (c24 : PySem.W.codeIn K cd24 "law" = true) (k24 : PySem.W.keepIn K (.ref f24) = true)
    (x_LAST_WRITTEN : PySem.W.nsIn K mainGlobals "LAST_WRITTEN" = some (some u_LAST_WRITTEN)) (r_LAST_WRITTEN : RelV (.int 99999) u_LAST_WRITTEN)
    (x_MONTH_DAYS : PySem.W.nsIn K mainGlobals "MONTH_DAYS" = some (some (.ref A_MONTH_DAYS))) (y_MONTH_DAYS : K.lookup A_MONTH_DAYS = some ⟨.type "tuple", dd_MONTH_DAYS, .seq its_MONTH_DAYS n_MONTH_DAYS, sl_MONTH_DAYS⟩) (z_MONTH_DAYS : Vals [V.int 31, V.int 28, V.int 31, V.int 30, V.int 31, V.int 30, V.int 31, V.int 31, V.int 30, V.int 31, V.int 30, V.int 31] its_MONTH_DAYS.toList) (w_MONTH_DAYS : its_MONTH_DAYS.size ≤ sizeLine)
    (x_FIRST_YEAR : PySem.W.nsIn K mainGlobals "FIRST_YEAR" = some (some u_FIRST_YEAR)) (r_FIRST_YEAR : RelV (.int 2000) u_FIRST_YEAR)
    (x_ROUND_DAYS : PySem.W.nsIn K mainGlobals "ROUND_DAYS" = some (some u_ROUND_DAYS)) (r_ROUND_DAYS : RelV (.int 146097) u_ROUND_DAYS)
    (x_ROUND_YEARS : PySem.W.nsIn K mainGlobals "ROUND_YEARS" = some (some u_ROUND_YEARS)) (r_ROUND_YEARS : RelV (.int 400) u_ROUND_YEARS)
    (x_LAST_YEAR : PySem.W.nsIn K mainGlobals "LAST_YEAR" = some (some u_LAST_YEAR)) (r_LAST_YEAR : RelV (.int 9999) u_LAST_YEAR)
    (x_NoDay : PySem.W.nsIn K mainGlobals "NoDay" = some (some (.ref u_NoDay)))
    (x_FIGURES : PySem.W.nsIn K mainGlobals "FIGURES" = some (some u_FIGURES)) (r_FIGURES : RelV (.str "0123456789") u_FIGURES)
    (x_NoText : PySem.W.nsIn K mainGlobals "NoText" = some (some (.ref u_NoText)))
    (n_all : PySem.W.nsIn K mainGlobals "all" = some none)
    (n_bool : PySem.W.nsIn K mainGlobals "bool" = some none)
    (n_divmod : PySem.W.nsIn K mainGlobals "divmod" = some none)
    (n_int : PySem.W.nsIn K mainGlobals "int" = some none)
    (n_isinstance : PySem.W.nsIn K mainGlobals "isinstance" = some none)
    (n_len : PySem.W.nsIn K mainGlobals "len" = some none)
    (n_max : PySem.W.nsIn K mainGlobals "max" = some none)
    (n_min : PySem.W.nsIn K mainGlobals "min" = some none)
    (n_range : PySem.W.nsIn K mainGlobals "range" = some none)
    (n_str : PySem.W.nsIn K mainGlobals "str" = some none)
    (n_sum : PySem.W.nsIn K mainGlobals "sum" = some none) : ∃ t : Adr, Txt K mg t := by
  have F0 := fun_mk (st := s_is_whole) l0 c0 k0
  have F1 := fun_mk (st := s_is_day) l1 c1 k1
  have F2 := fun_mk (st := s_is_leap) l2 c2 k2
  have F3 := fun_mk (st := s_month_length) l3 c3 k3
  have F4 := fun_mk (st := s_leaps_before) l4 c4 k4
  have F5 := fun_mk (st := s_year_start) l5 c5 k5
  have F6 := fun_mk (st := s_year_of) l6 c6 k6
  have F7 := fun_mk (st := s_parts_of) l7 c7 k7
  have F8 := fun_mk (st := s_number_of) l8 c8 k8
  have F9 := fun_mk (st := s_is_date) l9 c9 k9
  have F10 := fun_mk (st := s_day_of) l10 c10 k10
  have F11 := fun_mk (st := s_date_of) l11 c11 k11
  have F12 := fun_mk (st := s_later) l12 c12 k12
  have F13 := fun_mk (st := s_show_day) l13 c13 k13
  have F14 := fun_mk (st := s_is_figures) l14 c14 k14
  have F15 := fun_mk (st := s_read_day) l15 c15 k15
  have F16 := fun_mk (st := s__law_mixed) l16 c16 k16
  have F17 := fun_mk (st := s__law_pack) l17 c17 k17
  have F18 := fun_mk (st := s__law_take) l18 c18 k18
  have F19 := fun_mk (st := s__law_near) l19 c19 k19
  have F20 := fun_mk (st := s__law_order) l20 c20 k20
  have F21 := fun_mk (st := s__law_same_way) l21 c21 k21
  have F22 := fun_mk (st := s__law_goes_on) l22 c22 k22
  have F23 := fun_mk (st := s__law_sizes_right) l23 c23 k23
  have F24 := fun_mk (st := s_law) l24 c24 k24
  refine ⟨⟨f0, PySem.W.fnOf "is_whole" "is_whole" (defArgs s_is_whole) (defBody s_is_whole) (defScope s_is_whole) .none kV0 dc0 pm0 an0 cd0 ct0, f1, PySem.W.fnOf "is_day" "is_day" (defArgs s_is_day) (defBody s_is_day) (defScope s_is_day) .none kV1 dc1 pm1 an1 cd1 ct1, f2, PySem.W.fnOf "is_leap" "is_leap" (defArgs s_is_leap) (defBody s_is_leap) (defScope s_is_leap) .none kV2 dc2 pm2 an2 cd2 ct2, f3, PySem.W.fnOf "month_length" "month_length" (defArgs s_month_length) (defBody s_month_length) (defScope s_month_length) .none kV3 dc3 pm3 an3 cd3 ct3, f4, PySem.W.fnOf "leaps_before" "leaps_before" (defArgs s_leaps_before) (defBody s_leaps_before) (defScope s_leaps_before) .none kV4 dc4 pm4 an4 cd4 ct4, f5, PySem.W.fnOf "year_start" "year_start" (defArgs s_year_start) (defBody s_year_start) (defScope s_year_start) .none kV5 dc5 pm5 an5 cd5 ct5, f6, PySem.W.fnOf "year_of" "year_of" (defArgs s_year_of) (defBody s_year_of) (defScope s_year_of) .none kV6 dc6 pm6 an6 cd6 ct6, f7, PySem.W.fnOf "parts_of" "parts_of" (defArgs s_parts_of) (defBody s_parts_of) (defScope s_parts_of) .none kV7 dc7 pm7 an7 cd7 ct7, f8, PySem.W.fnOf "number_of" "number_of" (defArgs s_number_of) (defBody s_number_of) (defScope s_number_of) .none kV8 dc8 pm8 an8 cd8 ct8, f9, PySem.W.fnOf "is_date" "is_date" (defArgs s_is_date) (defBody s_is_date) (defScope s_is_date) .none kV9 dc9 pm9 an9 cd9 ct9, f10, PySem.W.fnOf "day_of" "day_of" (defArgs s_day_of) (defBody s_day_of) (defScope s_day_of) .none kV10 dc10 pm10 an10 cd10 ct10, f11, PySem.W.fnOf "date_of" "date_of" (defArgs s_date_of) (defBody s_date_of) (defScope s_date_of) .none kV11 dc11 pm11 an11 cd11 ct11, f12, PySem.W.fnOf "later" "later" (defArgs s_later) (defBody s_later) (defScope s_later) .none kV12 dc12 pm12 an12 cd12 ct12, f13, PySem.W.fnOf "show_day" "show_day" (defArgs s_show_day) (defBody s_show_day) (defScope s_show_day) .none kV13 dc13 pm13 an13 cd13 ct13, f14, PySem.W.fnOf "is_figures" "is_figures" (defArgs s_is_figures) (defBody s_is_figures) (defScope s_is_figures) .none kV14 dc14 pm14 an14 cd14 ct14, f15, PySem.W.fnOf "read_day" "read_day" (defArgs s_read_day) (defBody s_read_day) (defScope s_read_day) .none kV15 dc15 pm15 an15 cd15 ct15, f16, PySem.W.fnOf "_law_mixed" "_law_mixed" (defArgs s__law_mixed) (defBody s__law_mixed) (defScope s__law_mixed) .none kV16 dc16 pm16 an16 cd16 ct16, f17, PySem.W.fnOf "_law_pack" "_law_pack" (defArgs s__law_pack) (defBody s__law_pack) (defScope s__law_pack) .none kV17 dc17 pm17 an17 cd17 ct17, f18, PySem.W.fnOf "_law_take" "_law_take" (defArgs s__law_take) (defBody s__law_take) (defScope s__law_take) .none kV18 dc18 pm18 an18 cd18 ct18, f19, PySem.W.fnOf "_law_near" "_law_near" (defArgs s__law_near) (defBody s__law_near) (defScope s__law_near) .none kV19 dc19 pm19 an19 cd19 ct19, f20, PySem.W.fnOf "_law_order" "_law_order" (defArgs s__law_order) (defBody s__law_order) (defScope s__law_order) .none kV20 dc20 pm20 an20 cd20 ct20, f21, PySem.W.fnOf "_law_same_way" "_law_same_way" (defArgs s__law_same_way) (defBody s__law_same_way) (defScope s__law_same_way) .none kV21 dc21 pm21 an21 cd21 ct21, f22, PySem.W.fnOf "_law_goes_on" "_law_goes_on" (defArgs s__law_goes_on) (defBody s__law_goes_on) (defScope s__law_goes_on) .none kV22 dc22 pm22 an22 cd22 ct22, f23, PySem.W.fnOf "_law_sizes_right" "_law_sizes_right" (defArgs s__law_sizes_right) (defBody s__law_sizes_right) (defScope s__law_sizes_right) .none kV23 dc23 pm23 an23 cd23 ct23, f24, PySem.W.fnOf "law" "law" (defArgs s_law) (defBody s_law) (defScope s_law) .none kV24 dc24 pm24 an24 cd24 ct24, u_LAST_WRITTEN, .ref A_MONTH_DAYS, u_FIRST_YEAR, u_ROUND_DAYS, u_ROUND_YEARS, u_LAST_YEAR, u_NoDay, u_FIGURES, u_NoText⟩, ?_⟩
  exact ⟨(F0),
    (PySem.W.mg_of X G a0),
    (F0.binds (ps := ["thing"]) fun _ _ _ _ _ _ us hl => match us, hl with | [_], _ => rfl),
    (F1),
    (PySem.W.mg_of X G a1),
    (F1.binds (ps := ["thing"]) fun _ _ _ _ _ _ us hl => match us, hl with | [_], _ => rfl),
    (F2),
    (PySem.W.mg_of X G a2),
    (F2.binds (ps := ["year"]) fun _ _ _ _ _ _ us hl => match us, hl with | [_], _ => rfl),
    (F3),
    (PySem.W.mg_of X G a3),
    (F3.binds (ps := ["year", "month"]) fun _ _ _ _ _ _ us hl => match us, hl with | [_, _], _ => rfl),
    (F4),
    (PySem.W.mg_of X G a4),
    (F4.binds (ps := ["year"]) fun _ _ _ _ _ _ us hl => match us, hl with | [_], _ => rfl),
    (F5),
    (PySem.W.mg_of X G a5),
    (F5.binds (ps := ["year"]) fun _ _ _ _ _ _ us hl => match us, hl with | [_], _ => rfl),
    (F6),
    (PySem.W.mg_of X G a6),
    (F6.binds (ps := ["day"]) fun _ _ _ _ _ _ us hl => match us, hl with | [_], _ => rfl),
    (F7),
    (PySem.W.mg_of X G a7),
    (F7.binds (ps := ["day"]) fun _ _ _ _ _ _ us hl => match us, hl with | [_], _ => rfl),
    (F8),
    (PySem.W.mg_of X G a8),
    (F8.binds (ps := ["year", "month", "day"]) fun _ _ _ _ _ _ us hl => match us, hl with | [_, _, _], _ => rfl),
    (F9),
    (PySem.W.mg_of X G a9),
    (F9.binds (ps := ["year", "month", "day"]) fun _ _ _ _ _ _ us hl => match us, hl with | [_, _, _], _ => rfl),
    (F10),
    (PySem.W.mg_of X G a10),
    (F10.binds (ps := ["year", "month", "day"]) fun _ _ _ _ _ _ us hl => match us, hl with | [_, _, _], _ => rfl),
    (F11),
    (PySem.W.mg_of X G a11),
    (F11.binds (ps := ["day"]) fun _ _ _ _ _ _ us hl => match us, hl with | [_], _ => rfl),
    (F12),
    (PySem.W.mg_of X G a12),
    (F12.binds (ps := ["day", "many", "unit"]) fun _ _ _ _ _ _ us hl => match us, hl with | [_, _, _], _ => rfl),
    (F13),
    (PySem.W.mg_of X G a13),
    (F13.binds (ps := ["day"]) fun _ _ _ _ _ _ us hl => match us, hl with | [_], _ => rfl),
    (F14),
    (PySem.W.mg_of X G a14),
    (F14.binds (ps := ["text", "length"]) fun _ _ _ _ _ _ us hl => match us, hl with | [_, _], _ => rfl),
    (F15),
    (PySem.W.mg_of X G a15),
    (F15.binds (ps := ["text"]) fun _ _ _ _ _ _ us hl => match us, hl with | [_], _ => rfl),
    (F16),
    (PySem.W.mg_of X G a16),
    (F16.binds (ps := ["_law_cell"]) fun _ _ _ _ _ _ us hl => match us, hl with | [_], _ => rfl),
    (F17),
    (PySem.W.mg_of X G a17),
    (F17.binds (ps := ["_law_script", "_law_k"]) fun _ _ _ _ _ _ us hl => match us, hl with | [_, _], _ => rfl),
    (F18),
    (PySem.W.mg_of X G a18),
    (F18.binds (ps := ["_law_pack_here", "_law_size"]) fun _ _ _ _ _ _ us hl => match us, hl with | [_, _], _ => rfl),
    (F19),
    (PySem.W.mg_of X G a19),
    (F19.binds (ps := ["_law_pack_here"]) fun _ _ _ _ _ _ us hl => match us, hl with | [_], _ => rfl),
    (F20),
    (PySem.W.mg_of X G a20),
    (F20.binds (ps := ["_law_one", "_law_other"]) fun _ _ _ _ _ _ us hl => match us, hl with | [_, _], _ => rfl),
    (F21),
    (PySem.W.mg_of X G a21),
    (F21.binds (ps := ["_law_one", "_law_other"]) fun _ _ _ _ _ _ us hl => match us, hl with | [_, _], _ => rfl),
    (F22),
    (PySem.W.mg_of X G a22),
    (F22.binds (ps := ["_law_one", "_law_other", "_law_numbers", "_law_unit"]) fun _ _ _ _ _ _ us hl => match us, hl with | [_, _, _, _], _ => rfl),
    (F23),
    (PySem.W.mg_of X G a23),
    (F23.binds (ps := ["_law_day"]) fun _ _ _ _ _ _ us hl => match us, hl with | [_], _ => rfl),
    (F24),
    (PySem.W.mg_of X G a24),
    (F24.binds (ps := ["_law_script"]) fun _ _ _ _ _ _ us hl => match us, hl with | [_], _ => rfl),
    (fun s v => .of_eq rfl),
    (PySem.W.mg_of X G x_LAST_WRITTEN),
    (r_LAST_WRITTEN),
    (PySem.W.mg_of X G x_MONTH_DAYS),
    (⟨A_MONTH_DAYS, rfl, fun H => .inr ⟨_, _, _, y_MONTH_DAYS, rfl, rfl, w_MONTH_DAYS, z_MONTH_DAYS⟩⟩),
    (PySem.W.mg_of X G x_FIRST_YEAR),
    (r_FIRST_YEAR),
    (PySem.W.mg_of X G x_ROUND_DAYS),
    (r_ROUND_DAYS),
    (PySem.W.mg_of X G x_ROUND_YEARS),
    (r_ROUND_YEARS),
    (PySem.W.mg_of X G x_LAST_YEAR),
    (r_LAST_YEAR),
    (PySem.W.mg_of X G x_NoDay),
    (PySem.W.mg_of X G x_FIGURES),
    (r_FIGURES),
    (PySem.W.mg_of X G x_NoText),
    (PySem.W.mg_none_of X G n_all),
    (PySem.W.mg_none_of X G n_bool),
    (PySem.W.mg_none_of X G n_divmod),
    (PySem.W.mg_none_of X G n_int),
    (PySem.W.mg_none_of X G n_isinstance),
    (PySem.W.mg_none_of X G n_len),
    (PySem.W.mg_none_of X G n_max),
    (PySem.W.mg_none_of X G n_min),
    (PySem.W.mg_none_of X G n_range),
    (PySem.W.mg_none_of X G n_str),
    (PySem.W.mg_none_of X G n_sum)⟩
end K04

open PySem L2
local macro_rules | `(tactic| walk_at "rd") => `(tactic| simp only [tSeq, tNext, tIfS, tRet, tRetN, tDrop, tAsg, gName, tVar, tC, tOp, tUn, rI, rI0, rU, rEq, rNe, scal, tTest, tB, tAnd, tOr, tNot, tAndV, tOrV, tNotV, tIf, tCall, tCons, tNil, tCB, tTup, tLst, gTup, gCons, gNil, gSub, tPar, tFor_rng1, tFor_rng2, tFor_list, tFor_tup, tComp_rng1, tComp_rng2, tComp_list, tComp_tup, CDiv, CPow, CMul, L2.start, List.map_cons, List.map_nil, List.length_cons, List.length_nil, List.replicate, List.cons_append, List.nil_append, List.append_nil, Nat.reduceAdd, Nat.reduceSub, Nat.add_zero, Nat.zero_add, Nat.sub_self, List.getElem?_cons_zero, List.getElem?_cons_succ, List.set_cons_zero, List.set_cons_succ, Option.some.injEq, exists_eq_left', exists_eq_left, exists_and_left, exists_and_right, V.int.injEq, V.bl.injEq, V.str.injEq, V.ref.injEq, List.cons.injEq, and_true, true_and, Nat.reduceLT, exists_const, decide_eq_true_eq, Int.reduceLT, Int.reduceLE, Int.reduceNeg, Int.reducePow, Bool.not_eq_true', decide_eq_false_iff_not, and_assoc, st0, Option.join_some, List.getElem?_nil, Option.join_none, L2.cxK, L2.cmK, or_true, true_or])
namespace K04
open Day
theorem cs_number_of_0 : CompScope (defScope s_number_of) ["year", "month", "day", "before"] ["other", "year"] 1 [0] { kind := PySem.ScopeKind.function, names := [ (PySem.Str.ofString ".0", PySem.NameKind.local), (PySem.Str.ofString "other", PySem.NameKind.local), (PySem.Str.ofString "month_length", PySem.NameKind.globalImplicit), (PySem.Str.ofString "year", PySem.NameKind.free)], isGenerator := false, isCoroutine := false, more := [] : PySem.Scope } := ⟨rfl, by decide +kernel, by decide +kernel, by decide +kernel, rfl, by decide +kernel, by decide +kernel, by decide +kernel, rfl⟩

section
variable {P : Program} {w : World} {K : PySem.W.Frag} {mg : Str → Option Value} {base : Heap} {t : Adr}
def sp_leap : Sp := fun vs H Q _ => ∃ (y : Int), vs = [.int y] ∧ Q (.bl (leap y)) H
theorem ok_is_leap (T : Txt K mg t) : FnOk P w K mg base CX0 1 t.a_is_leap t.d_is_leap ["year"] sp_leap := by
  refine T.F_is_leap.ok sc_is_leap (fun vs H Q E h => ?_) (fun cdv A outer s H vs Q E hr h => ?_)
  · obtain ⟨y, rfl, _⟩ := h; rfl
  · obtain ⟨y, rfl, k⟩ := h
    refine ⟨_, (pss_one (ps_ret (pe_or (pe_cmpR op_eq (pe_op op_mod (pv 0) pe_int) pe_int (nomark _)) (pe_one (pe_and (pe_cmpR op_eq (pe_op op_mod (pv 0) pe_int) pe_int (nomark _)) (pe_one (pe_cmpR op_ne (pe_op op_mod (pv 0) pe_int) pe_int (nomark _)))))))), ?_⟩
    walk_at "rd"
    have e : leap y = (decide (y % 400 = 0) || (decide (y % 4 = 0) && !decide (y % 100 = 0))) := rfl
    rw [e] at k
    by_cases h1 : y % 400 = 0
    · simpa [h1] using k
    · by_cases h2 : y % 4 = 0
      · simpa [h1, h2] using k
      · simpa [h1, h2] using k
def sp_mlen : Sp := fun vs H Q _ => ∃ (y m : Int), vs = [.int y, .int m] ∧ 1 ≤ m ∧ m ≤ 12 ∧ Q (.int (mlen y m)) H
theorem ok_month_length (T : Txt K mg t) : FnOk P w K mg base CX0 2 t.a_month_length t.d_month_length ["year", "month"] sp_mlen := by
  have G_is_leap := ok_is_leap (P := P) (w := w) (base := base) T
  refine T.F_month_length.ok sc_month_length (fun vs H Q E h => ?_) (fun cdv A outer s H vs Q E hr h => ?_)
  · obtain ⟨y, m, rfl, _⟩ := h; rfl
  · obtain ⟨y, m, rfl, h1, h2, k⟩ := h
    obtain ⟨a, ea, hM⟩ := T.e_MONTH_DAYS
    have T_r : RelV (.ref a) t.u_MONTH_DAYS := ea
    refine ⟨_, (pss_cons (ps_if (PW.pt (pw_and (pt_cmpR op_eq (pv 1) pe_int (nomark _)) (pw_and1 (pt_val (pe_call G_is_leap (hr.mono (by decide)) rfl T.m_is_leap T.F_is_leap.kp T.b_is_leap .nil pass0 (pa_cons (pv 0) pa_nil)))))) (pss_one (ps_ret pe_int)) pss_nil)
      (pss_one (ps_ret (pe_ix ix_tup (pe_glob rfl T.c_MONTH_DAYS T_r) (pe_op op_sub (pv 1) pe_int) (fun _ _ => rfl))))), ?_⟩
    walk_at "rd"
    simp only [sp_leap]
    walk_at "rd"
    have fin : ∀ {v : Int}, v = mlen y m → Q (.int v) H := fun e => by rw [e]; exact k
    have tail : mlen y m = mdays.getD (m - 1).toNat 0 → rIxT K (.ref a) (.int (m - 1)) H Q := fun e => by
      refine ⟨a, _, m - 1, .int (mlen y m), rfl, rfl, hM H, ?_, k⟩
      rw [e]
      rcases twelve h1 h2 with z | z | z | z | z | z | z | z | z | z | z | z <;> subst z <;> rfl
    by_cases hm : m = 2
    · rw [if_pos hm]
      by_cases hl : leap y = true
      · rw [if_pos hl]
        exact fin (by unfold mlen; rw [if_pos ⟨hm, hl⟩])
      · rw [if_neg hl]
        exact tail (by unfold mlen; rw [if_neg (fun z => hl z.2)])
    · rw [if_neg hm]
      exact tail (mlen_ne hm)
def sp_lb : Sp := fun vs H Q _ => ∃ (y : Int), vs = [.int y] ∧ Q (.int (lb y)) H
theorem ok_leaps_before (T : Txt K mg t) : FnOk P w K mg base CX0 1 t.a_leaps_before t.d_leaps_before ["year"] sp_lb := by
  refine T.F_leaps_before.ok sc_leaps_before (fun vs H Q E h => ?_) (fun cdv A outer s H vs Q E hr h => ?_)
  · obtain ⟨y, rfl, _⟩ := h; rfl
  · obtain ⟨y, rfl, k⟩ := h
    refine ⟨_, (pss_cons (ps_set (i := 1) sc_leaps_before.nd rfl (by first | exact Or.inl rfl | exact Or.inr rfl) (pe_op op_sub (pv 0) pe_int))
      (pss_one (ps_ret (pe_op op_add (pe_op op_sub (pe_op op_fdiv (pv 1) pe_int) (pe_op op_fdiv (pv 1) pe_int)) (pe_op op_fdiv (pv 1) pe_int))))), ?_⟩
    walk_at "rd"
    exact k
def sp_ys : Sp := fun vs H Q _ => ∃ (y : Int), vs = [.int y] ∧ Q (.int (ystart y)) H
theorem ok_year_start (T : Txt K mg t) : FnOk P w K mg base CX0 2 t.a_year_start t.d_year_start ["year"] sp_ys := by
  have G_leaps_before := ok_leaps_before (P := P) (w := w) (base := base) T
  refine T.F_year_start.ok sc_year_start (fun vs H Q E h => ?_) (fun cdv A outer s H vs Q E hr h => ?_)
  · obtain ⟨y, rfl, _⟩ := h; rfl
  · obtain ⟨y, rfl, k⟩ := h
    refine ⟨_, (pss_one (ps_ret (pe_op op_sub (pe_op op_add (pe_op op_mul pe_int (pe_op op_sub (pv 0) (pe_glob rfl T.c_FIRST_YEAR T.r_FIRST_YEAR))) (pe_call G_leaps_before (hr.mono (by decide)) rfl T.m_leaps_before T.F_leaps_before.kp T.b_leaps_before .nil pass0 (pa_cons (pv 0) pa_nil))) (pe_call G_leaps_before (hr.mono (by decide)) rfl T.m_leaps_before T.F_leaps_before.kp T.b_leaps_before .nil pass0 (pa_cons (pe_glob rfl T.c_FIRST_YEAR T.r_FIRST_YEAR) pa_nil))))), ?_⟩
    walk_at "rd"
    simp only [sp_lb]
    walk_at "rd"
    exact k
def sp_yof : Sp := fun vs H Q _ => ∃ (d : Int), vs = [.int d] ∧ Q (.int (yearOf d)) H
theorem ok_year_of (T : Txt K mg t) : FnOk P w K mg base CX0 3 t.a_year_of t.d_year_of ["day"] sp_yof := by
  have G_year_start := ok_year_start (P := P) (w := w) (base := base) T
  refine T.F_year_of.ok sc_year_of (fun vs H Q E h => ?_) (fun cdv A outer s H vs Q E hr h => ?_)
  · obtain ⟨d, rfl, _⟩ := h; rfl
  · obtain ⟨d, rfl, k⟩ := h
    refine ⟨_, (pss_cons (ps_set (i := 1) sc_year_of.nd rfl (by first | exact Or.inl rfl | exact Or.inr rfl) (pe_op op_add (pe_glob rfl T.c_FIRST_YEAR T.r_FIRST_YEAR) (pe_op op_fdiv (pe_op op_mul (pv 0) (pe_glob rfl T.c_ROUND_YEARS T.r_ROUND_YEARS)) (pe_glob rfl T.c_ROUND_DAYS T.r_ROUND_DAYS))))
      (pss_cons (ps_if (pt_cmpR op_gt (pe_call G_year_start (hr.mono (by decide)) rfl T.m_year_start T.F_year_start.kp T.b_year_start .nil pass0 (pa_cons (pv 1) pa_nil)) (pv 0) (nomark _)) (pss_one (ps_ret (pe_op op_sub (pv 1) pe_int))) pss_nil)
      (pss_cons (ps_if (pt_cmpR op_le (pe_call G_year_start (hr.mono (by decide)) rfl T.m_year_start T.F_year_start.kp T.b_year_start .nil pass0 (pa_cons (pe_op op_add (pv 1) pe_int) pa_nil)) (pv 0) (nomark _)) (pss_one (ps_ret (pe_op op_add (pv 1) pe_int))) pss_nil)
      (pss_one (ps_ret (pv 1)))))), ?_⟩
    walk_at "rd"
    simp only [sp_ys]
    walk_at "rd"
    unfold yearOf at k
    split
    · rename_i h; rw [if_pos h] at k; exact k
    · rename_i h; rw [if_neg h] at k
      split
      · rename_i h; rw [if_pos h] at k; exact k
      · rename_i h; rw [if_neg h] at k; exact k
def sp_parts : Sp := fun vs H Q _ => ∃ (d : Int), vs = [.int d] ∧ ∀ (p : Addr) (H' : Hp) (y m n : Int), DateOf d y m n → Same H H' → H p = none → H' p = some (.tup [.int y, .int m, .int n]) → Q (.ref p) H'
theorem ok_parts_of (T : Txt K mg t) : FnOk P w K mg base CX0 4 t.a_parts_of t.d_parts_of ["day"] sp_parts := by
  have G_year_of := ok_year_of (P := P) (w := w) (base := base) T
  have G_year_start := ok_year_start (P := P) (w := w) (base := base) T
  have G_month_length := ok_month_length (P := P) (w := w) (base := base) T
  refine T.F_parts_of.ok sc_parts_of (fun vs H Q E h => ?_) (fun cdv A outer s H vs Q E hr h => ?_)
  · obtain ⟨d, rfl, _⟩ := h; rfl
  · obtain ⟨d, rfl, k⟩ := h
    refine ⟨_, (pss_cons (ps_set (i := 1) sc_parts_of.nd rfl (by first | exact Or.inl rfl | exact Or.inr rfl) (pe_call G_year_of (hr.mono (by decide)) rfl T.m_year_of T.F_year_of.kp T.b_year_of .nil pass0 (pa_cons (pv 0) pa_nil)))
      (pss_cons (ps_set (i := 2) sc_parts_of.nd rfl (by first | exact Or.inl rfl | exact Or.inr rfl) (pe_op op_sub (pv 0) (pe_call G_year_start (hr.mono (by decide)) rfl T.m_year_start T.F_year_start.kp T.b_year_start .nil pass0 (pa_cons (pv 1) pa_nil))))
      (pss_cons (ps_set (i := 3) sc_parts_of.nd rfl (by first | exact Or.inl rfl | exact Or.inr rfl) pe_int)
      (pss_cons (ps_while PassesOwn.never (pt_cmpR op_ge (pv 2) (pe_call G_month_length (hr.mono (by decide)) rfl T.m_month_length T.F_month_length.kp T.b_month_length .nil pass0 (pa_cons (pv 1) (pa_cons (pv 3) pa_nil))) (nomark _)) (pss_cons (ps_set (i := 2) sc_parts_of.nd rfl (by first | exact Or.inl rfl | exact Or.inr rfl) (pe_op op_sub (pv 2) (pe_call G_month_length (hr.mono (by decide)) rfl T.m_month_length T.F_month_length.kp T.b_month_length .nil pass0 (pa_cons (pv 1) (pa_cons (pv 3) pa_nil)))))
      (pss_one (ps_set (i := 3) sc_parts_of.nd rfl (by first | exact Or.inl rfl | exact Or.inr rfl) (pe_op op_add (pv 3) pe_int)))))
      (pss_one (ps_ret (pe_tup (pa_cons (pv 1) (pa_cons (pv 3) (pa_cons (pe_op op_add (pv 2) pe_int) pa_nil)))))))))), ?_⟩
    walk_at "rd"
    simp only [sp_yof]
    walk_at "rd"
    simp only [sp_ys]
    walk_at "rd"
    have yo := yearOf_ok d
    generalize yearOf d = y at *
    refine ⟨fun m σ H' => H' = H ∧ ∃ mo : Int, 1 ≤ mo ∧ mo ≤ 12 ∧ bef y mo ≤ d - ystart y ∧ m = (12 - mo).toNat ∧ σ = [some (.int d), some (.int y), some (.int (d - ystart y - bef y mo)), some (.int mo)], ⟨11, rfl, 1, by decide, by decide, ?_, rfl, ?_⟩, ?_⟩
    · rw [bef_1]; omega
    · rw [bef_1]; simp
    · rintro m σ H' ⟨rfl, mo, h1, h2, hb, rfl, rfl⟩
      walk_at "rd"
      simp only [sp_mlen]
      walk_at "rd"
      refine ⟨h1, h2, ?_⟩
      have ys := ystart_succ y
      have ba := bef_bd (y := y) h1 h2
      split
      · rename_i hge
        have lt12 : mo < 12 := by
          by_cases z : mo < 12
          · exact z
          · have e : mo = 12 := by omega
            subst e
            have := (bef_all y); have := mlen_all y; omega
        refine ⟨_, fun _ _ h => h, h1, h2, (12 - (mo + 1)).toNat, by omega, rfl, mo + 1, by omega, by omega, ?_, rfl, ?_⟩
        · rw [bef_succ h1]; omega
        · rw [bef_succ h1, show d - ystart y - (bef y mo + mlen y mo) = d - ystart y - bef y mo - mlen y mo by omega]
      · rename_i hlt
        refine ⟨by show 3 ≤ sizeLine; decide, fun p hp => ?_⟩
        refine k p _ y mo (d - ystart y - bef y mo + 1) ⟨h1, h2, by omega, by omega, by unfold num; omega⟩ (Same.new hp) hp upd_same
def sp_num : Sp := fun vs H Q _ => ∃ (y m n : Int), vs = [.int y, .int m, .int n] ∧ 1 ≤ m ∧ m ≤ 12 ∧ ∀ H', Same H H' → Q (.int (num y m n)) H'
theorem ok_number_of (T : Txt K mg t) : FnOk P w K mg base CX0 3 t.a_number_of t.d_number_of ["year", "month", "day"] sp_num := by
  have G_year_start := ok_year_start (P := P) (w := w) (base := base) T
  have G_month_length := ok_month_length (P := P) (w := w) (base := base) T
  refine T.F_number_of.ok sc_number_of (fun vs H Q E h => ?_) (fun cdv A outer s H vs Q E hr h => ?_)
  · obtain ⟨y, m, n, rfl, _⟩ := h; rfl
  · obtain ⟨y, m, n, rfl, h1, h2, k⟩ := h
    refine ⟨_, (pss_cons (ps_set (i := 3) sc_number_of.nd rfl (by first | exact Or.inl rfl | exact Or.inr rfl) (pe_callB (call_sum rfl) rfl T.n_sum PyProof.Rows.boot_sum (pa_cons (pe_comp rfl cs_number_of_0 (pi_range2 rfl T.n_range (pa_cons pe_int (pa_cons (pv 1) pa_nil))) (fun _ _ _ _ => (pg_name (i := 0) cs_number_of_0.nd rfl (by first | exact Or.inl rfl | exact Or.inr rfl))) (fun _ _ _ _ => pf_nil) (fun _ _ _ _ => (pe_call G_month_length (hr.mono (by decide)) rfl T.m_month_length T.F_month_length.kp T.b_month_length .nil pass0 (pa_cons (pv 1) (pa_cons (pv 0) pa_nil))))) pa_nil)))
      (pss_one (ps_ret (pe_op op_sub (pe_op op_add (pe_op op_add (pe_call G_year_start (hr.mono (by decide)) rfl T.m_year_start T.F_year_start.kp T.b_year_start .nil pass0 (pa_cons (pv 0) pa_nil)) (pv 3)) (pv 2)) pe_int)))), ?_⟩
    walk_at "rd"
    refine ⟨by omega, by omega, ?_⟩
    refine comp_range (fun i => .int (mlen y (1 + (i : Int)))) (by omega) (fun i H' R hi s1 hR => ?_) (fun D H' hD s1 e1 => ?_)
    · walk_at "rd"
      exact ⟨_, _, rfl, by omega, by omega, hR H' (Same.refl _)⟩
    · refine ⟨D, rfl, (List.range (m - 1).toNat).map fun (i : Nat) => mlen y (1 + (i : Int)), SqL.of (by rw [e1, List.map_map]; rfl), ?_⟩
      simp only [sp_ys]
      walk_at "rd"
      exact k H' s1
def Unit3 (u : Str) : Prop := u = "days" ∨ u = "months" ∨ u = "years"
def LaterIs (d k : Int) (u : Str) (r : Int) : Prop := (u = "days" ∧ r = d + k) ∨ (u = "months" ∧ ∃ y m n, DateOf d y m n ∧ r = mon y m n k) ∨ (u = "years" ∧ ∃ y m n, DateOf d y m n ∧ r = mon y m n (k * 12))
theorem ndm : ¬ (("months" : Str) = "days") := by decide +kernel
theorem ndy : ¬ (("years" : Str) = "days") := by decide +kernel
theorem nmy : ¬ (("months" : Str) = "years") := by decide +kernel
theorem nym : ¬ (("years" : Str) = "months") := by decide +kernel
def sp_later : Sp := fun vs H Q _ => ∃ (d k : Int) (u : Str), vs = [.int d, .int k, .str u] ∧ Unit3 u ∧ ∀ r H', LaterIs d k u r → Same H H' → Q (.int r) H'
theorem ok_later (T : Txt K mg t) : FnOk P w K mg base CX0 5 t.a_later t.d_later ["day", "many", "unit"] sp_later := by
  have G_parts_of := ok_parts_of (P := P) (w := w) (base := base) T
  have G_month_length := ok_month_length (P := P) (w := w) (base := base) T
  have G_number_of := ok_number_of (P := P) (w := w) (base := base) T
  refine T.F_later.ok sc_later (fun vs H Q E h => ?_) (fun cdv A outer s H vs Q E hr h => ?_)
  · obtain ⟨d, k, u, rfl, _⟩ := h; rfl
  · obtain ⟨d, mk, u, rfl, hu, k⟩ := h
    refine ⟨_, (pss_cons (ps_if (pt_cmpR op_eq (pv 2) pe_str (nomark _)) (pss_one (ps_ret (pe_op op_add (pv 0) (pv 1)))) pss_nil)
      (pss_cons (ps_set (i := 3) sc_later.nd rfl (by first | exact Or.inl rfl | exact Or.inr rfl) (pe_ifExp (pt_cmpR op_eq (pv 2) pe_str (nomark _)) (pe_op op_mul (pv 1) pe_int) (pv 1)))
      (pss_cons (ps_set (i := 4) sc_later.nd rfl (by first | exact Or.inl rfl | exact Or.inr rfl) (pe_call G_parts_of (hr.mono (by decide)) rfl T.m_parts_of T.F_parts_of.kp T.b_parts_of .nil pass0 (pa_cons (pv 0) pa_nil)))
      (pss_cons (ps_set (i := 5) sc_later.nd rfl (by first | exact Or.inl rfl | exact Or.inr rfl) (pe_op op_add (pe_op op_sub (pe_op op_add (pe_op op_mul (pe_ix ix_tup (pv 4) pe_int (fun _ _ => rfl)) pe_int) (pe_ix ix_tup (pv 4) pe_int (fun _ _ => rfl))) pe_int) (pv 3)))
      (pss_cons (ps_set (i := 6) sc_later.nd rfl (by first | exact Or.inl rfl | exact Or.inr rfl) (pe_op op_fdiv (pv 5) pe_int))
      (pss_cons (ps_set (i := 7) sc_later.nd rfl (by first | exact Or.inl rfl | exact Or.inr rfl) (pe_op op_add (pe_op op_mod (pv 5) pe_int) pe_int))
      (pss_one (ps_ret (pe_call G_number_of (hr.mono (by decide)) rfl T.m_number_of T.F_number_of.kp T.b_number_of .nil pass0 (pa_cons (pv 6) (pa_cons (pv 7) (pa_cons (pe_callB (call_min2 rfl) rfl T.n_min PyProof.Rows.boot_min (pa_cons (pe_ix ix_tup (pv 4) pe_int (fun _ _ => rfl)) (pa_cons (pe_call G_month_length (hr.mono (by decide)) rfl T.m_month_length T.F_month_length.kp T.b_month_length .nil pass0 (pa_cons (pv 6) (pa_cons (pv 7) pa_nil))) pa_nil))) pa_nil)))))))))))), ?_⟩
    walk_at "rd"
    by_cases hd : u = "days"
    · rw [if_pos hd]
      exact k _ H (.inl ⟨hd, rfl⟩) (Same.refl _)
    · rw [if_neg hd]
      by_cases hy : u = "years"
      · rw [if_pos hy]
        refine ⟨d, rfl, fun p H' y m n D s1 _ e1 => ?_⟩
        refine ixT (SqT.of e1) rfl ⟨y, rfl, ixT (SqT.of e1) rfl ⟨m, rfl, ixT (SqT.of e1) rfl ?_⟩⟩
        refine ⟨_, _, rfl, by omega, by omega, n, rfl, _, rfl, _, _, _, rfl, by omega, by omega, fun H2 s2 => ?_⟩
        exact k _ H2 (.inr (.inr ⟨hy, y, m, n, D, by unfold mon; rw [min_if]⟩)) (s1.trans s2)
      · rw [if_neg hy]
        have hm : u = "months" := by rcases hu with z | z | z; exact absurd z hd; exact z; exact absurd z hy
        refine ⟨d, rfl, fun p H' y m n D s1 _ e1 => ?_⟩
        refine ixT (SqT.of e1) rfl ⟨y, rfl, ixT (SqT.of e1) rfl ⟨m, rfl, ixT (SqT.of e1) rfl ?_⟩⟩
        refine ⟨_, _, rfl, by omega, by omega, n, rfl, _, rfl, _, _, _, rfl, by omega, by omega, fun H2 s2 => ?_⟩
        exact k _ H2 (.inr (.inl ⟨hm, y, m, n, D, by unfold mon; rw [min_if]⟩)) (s1.trans s2)
/-! as data -/
def F_mlen : List PyData → (PyData → Prop) → Prop := fun ds Q => ∃ y m : Int, ds = [.int y, .int m] ∧ 1 ≤ m ∧ m ≤ 12 ∧ Q (.int (mlen y m))
theorem okd_mlen (T : Txt K mg t) : FnOk P w K mg base CX0 2 t.a_month_length t.d_month_length ["year", "month"] (spD K F_mlen) :=
  (ok_month_length T).imp fun vs H Q E ⟨O, ds, Qd, tr, hs, ⟨y, m, e, h1, h2, q⟩, k⟩ => by
    subst e
    cases hs with
    | cons a r => cases r with
      | cons b r => cases r; cases a; cases b; exact ⟨y, m, rfl, h1, h2, k _ _ H q (Same.refl _) (.int _)⟩
def F_ys : List PyData → (PyData → Prop) → Prop := fun ds Q => ∃ y : Int, ds = [.int y] ∧ Q (.int (ystart y))
theorem okd_ys (T : Txt K mg t) : FnOk P w K mg base CX0 2 t.a_year_start t.d_year_start ["year"] (spD K F_ys) :=
  (ok_year_start T).imp fun vs H Q E ⟨O, ds, Qd, tr, hs, ⟨y, e, q⟩, k⟩ => by
    subst e
    cases hs with
    | cons a r => cases r; cases a; exact ⟨y, rfl, k _ _ H q (Same.refl _) (.int _)⟩
def F_parts : List PyData → (PyData → Prop) → Prop := fun ds Q => ∃ d : Int, ds = [.int d] ∧ ∀ y m n, DateOf d y m n → Q (.tuple [.int y, .int m, .int n])
theorem okd_parts (T : Txt K mg t) : FnOk P w K mg base CX0 4 t.a_parts_of t.d_parts_of ["day"] (spD K F_parts) :=
  (ok_parts_of T).imp fun vs H Q E ⟨O, ds, Qd, tr, hs, ⟨d, e, q⟩, k⟩ => by
    subst e
    cases hs with
    | cons a r => cases r; cases a; exact ⟨d, rfl, fun p H' y m n D s1 hp e1 => k _ _ H' (q y m n D) s1 (.tup (.inl e1) (fun z => tr p z hp) (.cons (.int _) (.cons (.int _) (.cons (.int _) .nil))))⟩
def F_num : List PyData → (PyData → Prop) → Prop := fun ds Q => ∃ y m n : Int, ds = [.int y, .int m, .int n] ∧ 1 ≤ m ∧ m ≤ 12 ∧ Q (.int (num y m n))
theorem okd_num (T : Txt K mg t) : FnOk P w K mg base CX0 3 t.a_number_of t.d_number_of ["year", "month", "day"] (spD K F_num) :=
  (ok_number_of T).imp fun vs H Q E ⟨O, ds, Qd, tr, hs, ⟨y, m, n, e, h1, h2, q⟩, k⟩ => by
    subst e
    cases hs with
    | cons a r => cases r with
      | cons b r => cases r with
        | cons c r => cases r; cases a; cases b; cases c; exact ⟨y, m, n, rfl, h1, h2, fun H' s1 => k _ _ H' q s1 (.int _)⟩
def F_later : List PyData → (PyData → Prop) → Prop := fun ds Q => ∃ (d i : Int) (u : Str), ds = [.int d, .int i, .str u] ∧ Unit3 u ∧ ∀ r, LaterIs d i u r → Q (.int r)
theorem okd_later (T : Txt K mg t) : FnOk P w K mg base CX0 5 t.a_later t.d_later ["day", "many", "unit"] (spD K F_later) :=
  (ok_later T).imp fun vs H Q E ⟨O, ds, Qd, tr, hs, ⟨d, i, u, e, hu, q⟩, k⟩ => by
    subst e
    cases hs with
    | cons a r => cases r with
      | cons b r => cases r with
        | cons c r => cases r; cases a; cases b; cases c; exact ⟨d, i, u, rfl, hu, fun z H' L s1 => k _ _ H' (q z L) s1 (.int _)⟩
end
end K04

open PySem L2
local macro_rules | `(tactic| walk_at "rz") => `(tactic| ((try simp only [startD, List.map_cons, List.map_nil, List.length_cons, List.length_nil, Nat.reduceAdd, Nat.reduceSub, List.replicate, List.cons_append, List.nil_append]); simp only [↓lz_w, ↓lz_wN, ↓lz_v0, ↓lz_vS, ↓lz_vE, ↓lz_vN, ↓lz_o0, ↓lz_oS, ↓lz_oE, ↓lz_oN, ↓lz_b, ↓lz_i, ↓lz_s, ↓lz_t, ↓lz_l, ↓lz_ii, ↓lz_ss, ↓lz_tt, ↓lz_ll, ↓lz_cons, ↓lz_two, ↓lz_tt0, ↓lz_tt1, ↓lz_tt2, ↓lz_tt3, ↓lz_ll0, ↓lz_ll1, ↓lz_ll2, ↓lz_tix, ↓lz_lix, dSeq, dNext, dIfS, dRet, dRetO, dDrop, dSet, dNew, dApp, dAsg, dPar, dFrz, dVar, dOwn, dC, dOp, dI, dIC, dEq, dNe, dIn, dIxL, dIxT, dIxS, dAddS, dCatT, dCat, dL, dFin, dTup, dLst, dNil, dCons, dTest, dAnd, dOr, dNot, dAndV, dOrV, dNotV, dIf, dChain, dCall, dCallS, dCallN, wq_paper_happens, wq_paper_rule, wq_paper_end, wq_paper_hold, wq_paper_lift, wq_paper_leave, wq_happens_paper, wq_happens_rule, wq_happens_end, wq_happens_hold, wq_happens_lift, wq_happens_leave, wq_rule_paper, wq_rule_happens, wq_rule_end, wq_rule_hold, wq_rule_lift, wq_rule_leave, wq_end_paper, wq_end_happens, wq_end_rule, wq_end_hold, wq_end_lift, wq_end_leave, wq_hold_paper, wq_hold_happens, wq_hold_rule, wq_hold_end, wq_hold_lift, wq_hold_leave, wq_lift_paper, wq_lift_happens, wq_lift_rule, wq_lift_end, wq_lift_hold, wq_lift_leave, wq_leave_paper, wq_leave_happens, wq_leave_rule, wq_leave_end, wq_leave_hold, wq_leave_lift, dRep2, dSlL, dSlT, dSlS, dLits, dSel, dRev, dNoPart, dPart, dLen, dLenS, dTupOf, dAny, dTwo, dIsin, dJoin, dInt, dListOf, dYes, dComp, dCompT, dCompR, dFor, dForT, dForR, dForR2, dForI, dForTI, dForRI, dForR2I, dSlX, dDct0, dNeg, dUpper, dRevT, dRepT, cD_nm1, dInX, dLenT, dLtS, dInS, dEqZ, dInZ, dSortS, dCompSI, dCompR2I, dStrI, dIntT, dZfill, dSplit, dJs, dNever, dLtU, take_iff, cD_1n, cD_2n, cD_3n, cD_4n, cD_n1, cD_n2, cD_n3, cD_n4, cD_13, ne_eq, thing_str, thing_int, thing_bool, thing_tup, thing_list, strsE1, strsE2, strsE3, dCompI, dCompTI, dCompRI, dgName, dgTup, dgCons, dgNil, forW, startD, dst0, CDiv, CPow, CMul, List.map_cons, List.map_nil, List.length_cons, List.length_nil, List.replicate, List.cons_append, List.nil_append, List.append_nil, Nat.reduceAdd, Nat.reduceSub, Nat.add_zero, Nat.zero_add, Nat.sub_self, List.getElem?_cons_zero, List.getElem?_cons_succ, List.getElem?_nil, List.set_cons_zero, List.set_cons_succ, Option.some.injEq, exists_eq_left', exists_eq_left, exists_and_left, exists_and_right, Option.join_some, Option.join_none, Sl.v.injEq, Sl.o.injEq, PyData.int.injEq, PyData.bool.injEq, PyData.str.injEq, PyData.tuple.injEq, PyData.list.injEq, List.cons.injEq, and_true, true_and, Nat.reduceLT, Nat.reduceLeDiff, exists_const, decide_eq_true_eq, Int.reduceLT, Int.reduceLE, Int.reduceNeg, Int.reducePow, Bool.not_eq_true', decide_eq_false_iff_not, and_assoc, or_true, true_or, ↓reduceIte, if_true, if_false, Bool.false_eq_true, Bool.true_eq_false, not_true_eq_false, not_false_eq_true, Bool.not_true, Bool.not_false, ite_true, ite_false, eq_self, exists_eq, reduceCtorEq, false_and, and_false, or_false, false_or, exists_false, Option.map_some, Option.map_none, scalD, List.all_cons, List.all_nil, List.any_cons, List.any_nil, Bool.and_true, Bool.or_false, Bool.true_and, Bool.false_or, atI_c0, atI_c1, atI_c2, atI_c3, atI_c4, eqv_str, eqv_int, eqv_bool, beq_self_eq_true, shp_int, shp_bl, shp_non, Shp, sizeLine_eq]))

namespace K04
open Day
theorem cs_is_figures_0 : CompScope (defScope s_is_figures) ["text", "length"] ["sign"] 1 [] { kind := PySem.ScopeKind.function, names := [ (PySem.Str.ofString ".0", PySem.NameKind.local), (PySem.Str.ofString "sign", PySem.NameKind.local), (PySem.Str.ofString "FIGURES", PySem.NameKind.globalImplicit)], isGenerator := false, isCoroutine := false, more := [] : PySem.Scope } := ⟨rfl, by decide +kernel, by decide +kernel, by decide +kernel, rfl, by decide +kernel, by decide +kernel, by decide +kernel, rfl⟩

section
variable {P : Program} {w : World} {K : PySem.W.Frag} {mg : Str → Option Value} {base : Heap} {t : Adr}
theorem mlen_iff {y m : Int} {Q : PyData → Prop} : F_mlen [.int y, .int m] Q ↔ 1 ≤ m ∧ m ≤ 12 ∧ Q (.int (mlen y m)) := ⟨fun ⟨_, _, e, h⟩ => by cases e; exact h, fun h => ⟨_, _, rfl, h⟩⟩
theorem ys_iff {y : Int} {Q : PyData → Prop} : F_ys [.int y] Q ↔ Q (.int (ystart y)) := ⟨fun ⟨_, e, h⟩ => by cases e; exact h, fun h => ⟨_, rfl, h⟩⟩
theorem parts_iff {d : Int} {Q : PyData → Prop} : F_parts [.int d] Q ↔ ∀ y m n, DateOf d y m n → Q (.tuple [.int y, .int m, .int n]) := ⟨fun ⟨_, e, h⟩ => by cases e; exact h, fun h => ⟨_, rfl, h⟩⟩
theorem num_iff {y m n : Int} {Q : PyData → Prop} : F_num [.int y, .int m, .int n] Q ↔ 1 ≤ m ∧ m ≤ 12 ∧ Q (.int (num y m n)) := ⟨fun ⟨_, _, _, e, h⟩ => by cases e; exact h, fun h => ⟨_, _, _, rfl, h⟩⟩
theorem later_iff {d i : Int} {u : Str} {Q : PyData → Prop} : F_later [.int d, .int i, .str u] Q ↔ Unit3 u ∧ ∀ r, LaterIs d i u r → Q (.int r) := ⟨fun ⟨_, _, _, e, h⟩ => by cases e; exact h, fun h => ⟨_, _, _, rfl, h⟩⟩
def F_whole : List PyData → (PyData → Prop) → Prop := fun ds Q => ∃ d, ds = [d] ∧ thg d = true ∧ Q (.bool (isWh d))
theorem ok_whole (T : Txt K mg t) : FnOk P w K mg base CX0 1 t.a_is_whole t.d_is_whole ["thing"] (spD K F_whole) := by
  refine T.F_is_whole.okD sc_is_whole (fun ds Q h => ?_) (fun cdv A outer s H O ds Q E hr h => ?_)
  · obtain ⟨d, rfl, _⟩ := h; rfl
  · obtain ⟨d, rfl, hd, q⟩ := h
    refine ⟨_, (dss_one (ds_ret (de_and (de_isin (T := "int") rfl T.n_isinstance bt_isinstance (df (dv 0)) (pe_bltn (v := .ty "int") rfl T.n_int bt_int rfl)) (de_one (de_not (de_isin (T := "bool") rfl T.n_isinstance bt_isinstance (df (dv 0)) (pe_bltn (v := .ty "bool") rfl T.n_bool bt_bool rfl))))))), ?_⟩
    walk_at "rz"
    simp only [kit_int, kit_bool]
    walk_at "rz"
    refine ⟨thg_ne hd, ?_⟩
    cases d <;> simp [isIntB, isBoolB, isWh] at q ⊢ <;> exact q
theorem whole_iff {i : Int} {Q : PyData → Prop} : F_whole [.int i] Q ↔ Q (.bool true) := ⟨fun ⟨_, e, _, h⟩ => by cases e; exact h, fun h => ⟨_, rfl, rfl, h⟩⟩
def F_day : List PyData → (PyData → Prop) → Prop := fun ds Q => ∃ d, ds = [d] ∧ thg d = true ∧ Q (.bool (isDy d))
theorem ok_day (T : Txt K mg t) : FnOk P w K mg base CX0 2 t.a_is_day t.d_is_day ["thing"] (spD K F_day) := by
  have G_is_whole := ok_whole (P := P) (w := w) (base := base) T
  refine T.F_is_day.okD sc_is_day (fun ds Q h => ?_) (fun cdv A outer s H O ds Q E hr h => ?_)
  · obtain ⟨d, rfl, _⟩ := h; rfl
  · obtain ⟨d, rfl, hd, q⟩ := h
    refine ⟨_, (dss_one (ds_ret (de_and (PE.imp (pe_call G_is_whole (hr.mono (by decide)) rfl T.m_is_whole T.F_is_whole.kp T.b_is_whole .nil pass0 (da_cons (dv 0) da_nil)) dcall) (de_one (de_chain op_le op_le od_bl od_bl (df de_int) (df (dv 0)) (df (dc (pe_glob rfl T.c_LAST_WRITTEN T.r_LAST_WRITTEN) (fun _ _ => .int _)))))))), ?_⟩
    walk_at "rz"
    refine ⟨d, rfl, hd, ?_⟩
    cases d with
    | int i =>
      walk_at "rz"
      simp only [isWh, isDy] at q ⊢
      by_cases h0 : 0 ≤ i
      · rw [if_pos h0]; simpa [h0] using q
      · rw [if_neg h0]; simpa [h0] using q
    | _ => exact ⟨_, rfl, by simpa [isWh, isDy] using q⟩
theorem day_iff {i : Int} {Q : PyData → Prop} : F_day [.int i] Q ↔ Q (.bool (isDy (.int i))) := ⟨fun ⟨_, e, _, h⟩ => by cases e; exact h, fun h => ⟨_, rfl, rfl, h⟩⟩
def Dat (y m n : Int) : Prop := 2000 ≤ y ∧ y ≤ 9999 ∧ 1 ≤ m ∧ m ≤ 12 ∧ 1 ≤ n ∧ n ≤ mlen y m
instance {y m n : Int} : Decidable (Dat y m n) := by unfold Dat; infer_instance
def F_isdate : List PyData → (PyData → Prop) → Prop := fun ds Q => ∃ y m n : Int, ds = [.int y, .int m, .int n] ∧ Q (.bool (decide (Dat y m n)))
theorem ok_isdate (T : Txt K mg t) : FnOk P w K mg base CX0 3 t.a_is_date t.d_is_date ["year", "month", "day"] (spD K F_isdate) := by
  have G_is_whole := ok_whole (P := P) (w := w) (base := base) T
  have G_month_length := okd_mlen (P := P) (w := w) (base := base) T
  refine T.F_is_date.okD sc_is_date (fun ds Q h => ?_) (fun cdv A outer s H O ds Q E hr h => ?_)
  · obtain ⟨y, m, n, rfl, _⟩ := h; rfl
  · obtain ⟨y, m, n, rfl, q⟩ := h
    refine' ⟨_, ?body, ?read⟩
    case body =>
      refine' dss_cons ?s1 ?r1
      case s1 =>
        refine' ds_if ?c2 ?a2 ?b2
        case c2 => exact (dt_not (PW.pt (dw_and (dt_val (PE.imp (pe_call G_is_whole (hr.mono (by decide)) rfl T.m_is_whole T.F_is_whole.kp T.b_is_whole .nil pass0 (da_cons (dv 0) da_nil)) dcall)) (dw_and (dt_val (PE.imp (pe_call G_is_whole (hr.mono (by decide)) rfl T.m_is_whole T.F_is_whole.kp T.b_is_whole .nil pass0 (da_cons (dv 1) da_nil)) dcall)) (dw_and1 (dt_val (PE.imp (pe_call G_is_whole (hr.mono (by decide)) rfl T.m_is_whole T.F_is_whole.kp T.b_is_whole .nil pass0 (da_cons (dv 2) da_nil)) dcall)))))))
        case a2 =>
          refine' dss_one ?s3
          case s3 =>
            exact (ds_ret de_bl)
        case b2 =>
          exact dss_nil
      case r1 =>
        refine' dss_cons ?s5 ?r5
        case s5 =>
          refine' ds_if ?c6 ?a6 ?b6
          case c6 => exact (dt_not (PW.pt (dw_and (dt_chain op_le op_le od_bl od_bl (df (dc (pe_glob rfl T.c_FIRST_YEAR T.r_FIRST_YEAR) (fun _ _ => .int _))) (df (dv 0)) (df (dc (pe_glob rfl T.c_LAST_YEAR T.r_LAST_YEAR) (fun _ _ => .int _)))) (dw_and1 (dt_chain op_le op_le od_bl od_bl (df de_int) (df (dv 1)) (df de_int))))))
          case a6 =>
            refine' dss_one ?s7
            case s7 =>
              exact (ds_ret de_bl)
          case b6 =>
            exact dss_nil
        case r5 =>
          refine' dss_one ?s9
          case s9 =>
            refine' ds_ret ?e10
            case e10 =>
              exact (de_chain op_le op_le od_bl od_bl (df de_int) (df (dv 2)) (df (PE.imp (pe_call G_month_length (hr.mono (by decide)) rfl T.m_month_length T.F_month_length.kp T.b_month_length .nil pass0 (da_cons (dv 0) (da_cons (dv 1) da_nil))) dcall)))
    case read =>
    walk_at "rz"
    simp only [whole_iff, mlen_iff]
    walk_at "rz"
    have no : ¬ Dat y m n → Q (.bool false) := fun z => by rw [decide_eq_false z] at q; exact q
    split
    · split
      · split
        · split
          · exact no (by unfold Dat; omega)
          · split
            · refine ⟨by omega, by omega, ?_⟩
              rw [show decide (n ≤ mlen y m) = decide (Dat y m n) from decide_eq_decide.mpr (by unfold Dat; omega)]; exact q
            · exact no (by unfold Dat; omega)
        · exact no (by unfold Dat; omega)
      · exact no (by unfold Dat; omega)
    · exact no (by unfold Dat; omega)
theorem isdate_iff {y m n : Int} {Q : PyData → Prop} : F_isdate [.int y, .int m, .int n] Q ↔ Q (.bool (decide (Dat y m n))) := ⟨fun ⟨_, _, _, e, h⟩ => by cases e; exact h, fun h => ⟨_, _, _, rfl, h⟩⟩
def F_dayof : List PyData → (PyData → Prop) → Prop := fun ds Q => ∃ y m n : Int, ds = [.int y, .int m, .int n] ∧ Dat y m n ∧ Q (.int (num y m n))
theorem ok_dayof (T : Txt K mg t) : FnOk P w K mg base CX0 4 t.a_day_of t.d_day_of ["year", "month", "day"] (spD K F_dayof) := by
  have G_is_date := ok_isdate (P := P) (w := w) (base := base) T
  have G_number_of := okd_num (P := P) (w := w) (base := base) T
  refine T.F_day_of.okD sc_day_of (fun ds Q h => ?_) (fun cdv A outer s H O ds Q E hr h => ?_)
  · obtain ⟨y, m, n, rfl, _⟩ := h; rfl
  · obtain ⟨y, m, n, rfl, hd, q⟩ := h
    refine' ⟨_, ?body, ?read⟩
    case body =>
      refine' dss_cons ?s1 ?r1
      case s1 =>
        refine' ds_if ?c2 ?a2 ?b2
        case c2 => exact (dt_not (dt_val (PE.imp (pe_call G_is_date (hr.mono (by decide)) rfl T.m_is_date T.F_is_date.kp T.b_is_date .nil pass0 (da_cons (dv 0) (da_cons (dv 1) (da_cons (dv 2) da_nil)))) dcall)))
        case a2 =>
          refine' dss_one ?s3
          case s3 =>
            exact ds_never
        case b2 =>
          exact dss_nil
      case r1 =>
        refine' dss_one ?s5
        case s5 =>
          exact (ds_ret (PE.imp (pe_call G_number_of (hr.mono (by decide)) rfl T.m_number_of T.F_number_of.kp T.b_number_of .nil pass0 (da_cons (dv 0) (da_cons (dv 1) (da_cons (dv 2) da_nil)))) dcall))
    case read =>
    walk_at "rz"
    simp only [isdate_iff, num_iff]
    walk_at "rz"
    rw [if_neg (fun z => z hd)]
    exact ⟨hd.2.2.1, hd.2.2.2.1, q⟩
theorem dayof_iff {y m n : Int} {Q : PyData → Prop} : F_dayof [.int y, .int m, .int n] Q ↔ Dat y m n ∧ Q (.int (num y m n)) := ⟨fun ⟨_, _, _, e, h⟩ => by cases e; exact h, fun h => ⟨_, _, _, rfl, h⟩⟩
def F_dateof : List PyData → (PyData → Prop) → Prop := fun ds Q => ∃ d : Int, ds = [.int d] ∧ 0 ≤ d ∧ d < ystart 10000 ∧ ∀ y m n, DateOf d y m n → Q (.tuple [.int y, .int m, .int n])
theorem ok_dateof (T : Txt K mg t) : FnOk P w K mg base CX0 5 t.a_date_of t.d_date_of ["day"] (spD K F_dateof) := by
  have G_is_whole := ok_whole (P := P) (w := w) (base := base) T
  have G_year_start := okd_ys (P := P) (w := w) (base := base) T
  have G_parts_of := okd_parts (P := P) (w := w) (base := base) T
  refine T.F_date_of.okD sc_date_of (fun ds Q h => ?_) (fun cdv A outer s H O ds Q E hr h => ?_)
  · obtain ⟨d, rfl, _⟩ := h; rfl
  · obtain ⟨d, rfl, h0, h1, q⟩ := h
    refine' ⟨_, ?body, ?read⟩
    case body =>
      refine' dss_cons ?s1 ?r1
      case s1 =>
        refine' ds_if ?c2 ?a2 ?b2
        case c2 => exact (PW.pt (dw_or (dt_not (dt_val (PE.imp (pe_call G_is_whole (hr.mono (by decide)) rfl T.m_is_whole T.F_is_whole.kp T.b_is_whole .nil pass0 (da_cons (dv 0) da_nil)) dcall))) (dw_or (dt_cmp op_lt od_bl (df (dv 0)) (df de_int) (nomark _)) (dw_or1 (dt_cmp op_ge od_bl (df (dv 0)) (df (PE.imp (pe_call G_year_start (hr.mono (by decide)) rfl T.m_year_start T.F_year_start.kp T.b_year_start .nil pass0 (da_cons (de_op op_add od_int (df (dc (pe_glob rfl T.c_LAST_YEAR T.r_LAST_YEAR) (fun _ _ => .int _))) (df de_int)) da_nil)) dcall)) (nomark _))))))
        case a2 =>
          refine' dss_one ?s3
          case s3 =>
            exact ds_never
        case b2 =>
          exact dss_nil
      case r1 =>
        refine' dss_one ?s5
        case s5 =>
          exact (ds_ret (PE.imp (pe_call G_parts_of (hr.mono (by decide)) rfl T.m_parts_of T.F_parts_of.kp T.b_parts_of .nil pass0 (da_cons (dv 0) da_nil)) dcall))
    case read =>
    walk_at "rz"
    simp only [whole_iff, ys_iff, parts_iff]
    walk_at "rz"
    rw [if_neg (by omega), if_neg (by show ¬ ystart 10000 ≤ d; omega)]
    exact q
theorem dateof_iff {d : Int} {Q : PyData → Prop} : F_dateof [.int d] Q ↔ 0 ≤ d ∧ d < ystart 10000 ∧ ∀ y m n, DateOf d y m n → Q (.tuple [.int y, .int m, .int n]) := ⟨fun ⟨_, e, h⟩ => by cases e; exact h, fun h => ⟨_, rfl, h⟩⟩
theorem log_lt {i : Int} (h0 : 0 ≤ i) (h1 : i < 10000) : i.natAbs.log2 < 1920 := by
  by_cases z : i.natAbs = 0
  · rw [z]; decide
  · rw [Nat.log2_lt z]; exact Nat.lt_of_lt_of_le (show i.natAbs < 2 ^ 14 by omega) (Nat.pow_le_pow_right (by decide) (by decide))
theorem nat2 {m : Int} (h0 : 0 ≤ m) (h1 : m < 100) : (Txt.zfill (Str.ofString (toString m)) 2).length = 2 := by
  obtain ⟨m, rfl⟩ := Int.eq_ofNat_of_zero_le h0
  have e := zfill_d2 ⟨m, by omega⟩
  simp only at e
  rw [e]; rfl
theorem nat4 {m : Int} (h0 : 1000 ≤ m) (h1 : m < 10000) : (Str.ofString (toString m)).length = 4 := by
  obtain ⟨m, rfl⟩ := Int.eq_ofNat_of_zero_le (show 0 ≤ m by omega)
  rw [str_d4 (by omega) (by omega)]; rfl
theorem app_len (a b : Str) : (a ++ b).length = a.length + b.length := by
  show (a.cps ++ b.cps).size = a.cps.size + b.cps.size; exact Array.size_append
def F_show : List PyData → (PyData → Prop) → Prop := fun ds Q => ∃ d : Int, ds = [.int d] ∧ 0 ≤ d ∧ d < ystart 10000 ∧ ∀ y m n, DateOf d y m n → Q (.str (dtx y m n))
theorem ok_show (T : Txt K mg t) : FnOk P w K mg base CX0 5 t.a_show_day t.d_show_day ["day"] (spD K F_show) := by
  have G_parts_of := okd_parts (P := P) (w := w) (base := base) T
  refine T.F_show_day.okD sc_show_day (fun ds Q h => ?_) (fun cdv A outer s H O ds Q E hr h => ?_)
  · obtain ⟨d, rfl, _⟩ := h; rfl
  · obtain ⟨d, rfl, h0, h1, q⟩ := h
    refine' ⟨_, ?body, ?read⟩
    case body =>
      refine' dss_cons ?s1 ?r1
      case s1 =>
        exact (ds_set (i := 1) sc_show_day.nd rfl (by first | exact Or.inl rfl | exact Or.inr rfl) (PE.imp (pe_call G_parts_of (hr.mono (by decide)) rfl T.m_parts_of T.F_parts_of.kp T.b_parts_of .nil pass0 (da_cons (dv 0) da_nil)) dcall))
      case r1 =>
        refine' dss_cons ?s3 ?r3
        case s3 =>
          exact (ds_set (i := 2) sc_show_day.nd rfl (by first | exact Or.inl rfl | exact Or.inr rfl) (PE.imp (pe_callTy call_str_int rfl T.n_str bt_str (db_cons (df (de_ix ix_tup od_ixT (df (dv 1)) (df de_int))) db_nil)) (dcb cd_strI)))
        case r3 =>
          refine' dss_cons ?s5 ?r5
          case s5 =>
            refine' ds_set (i := 3) sc_show_day.nd rfl (by first | exact Or.inl rfl | exact Or.inr rfl) ?e6 (hs := swaps_Call)
            case e6 =>
              exact (de_zfill (PE.imp (pe_callTy call_str_int rfl T.n_str bt_str (db_cons (df (de_ix ix_tup od_ixT (df (dv 1)) (df de_int))) db_nil)) (dcb cd_strI)) de_int)
          case r5 =>
            refine' dss_cons ?s8 ?r8
            case s8 =>
              refine' ds_set (i := 4) sc_show_day.nd rfl (by first | exact Or.inl rfl | exact Or.inr rfl) ?e9 (hs := swaps_Call)
              case e9 =>
                exact (de_zfill (PE.imp (pe_callTy call_str_int rfl T.n_str bt_str (db_cons (df (de_ix ix_tup od_ixT (df (dv 1)) (df de_int))) db_nil)) (dcb cd_strI)) de_int)
            case r8 =>
              refine' dss_one ?s11
              case s11 =>
                refine' ds_ret ?e12
                case e12 =>
                  exact (de_fstr (.cons (pf_fmt (dv 2)) (.cons pf_con (.cons (pf_fmt (dv 3)) (.cons pf_con (.cons (pf_fmt (dv 4)) .nil))))))
    case read =>
    walk_at "rz"
    simp only [parts_iff]
    walk_at "rz"
    intro y m n D
    have hy := year_bd D h0 h1
    have hb := mlen_bd (y := y) D.m1 D.m12
    have := D.m1; have := D.m12; have := D.n1; have := D.nl
    have ly := nat4 (m := y) (by omega) (by omega); have lm := nat2 (m := m) (by omega) (by omega); have ln := nat2 (m := n) (by omega) (by omega)
    have le : Str.empty.length = 0 := rfl
    have ld : (Str.ofString "-").length = 1 := by decide +kernel
    refine ⟨log_lt (by omega) (by omega), log_lt (by omega) (by omega), by decide, log_lt (by omega) (by omega), by decide, ?_⟩
    rw [dtx_eq (by omega) (by omega) (by omega)]
    simp only [app_len, ly, lm, ln, le, ld, dtx_len]
    exact ⟨by decide, by decide, by decide, by decide, by decide, by decide, by decide, by decide, by decide, by decide, by decide, q y m n D⟩
theorem show_iff {d : Int} {Q : PyData → Prop} : F_show [.int d] Q ↔ 0 ≤ d ∧ d < ystart 10000 ∧ ∀ y m n, DateOf d y m n → Q (.str (dtx y m n)) := ⟨fun ⟨_, e, h⟩ => by cases e; exact h, fun h => ⟨_, rfl, h⟩⟩
def figs : Str := "0123456789"
def isFigs (z : Str) (k : Int) : Bool := decide ((z.length : Int) = k) && z.cps.toList.all fun c => decide (c ∈ figs.cps.toList)
def F_figs : List PyData → (PyData → Prop) → Prop := fun ds Q => ∃ (z : Str) (k : Int), ds = [.str z, .int k] ∧ z.length ≤ 16777216 ∧ Q (.bool (isFigs z k))
theorem ok_figs (T : Txt K mg t) : FnOk P w K mg base CX0 1 t.a_is_figures t.d_is_figures ["text", "length"] (spD K F_figs) := by
  refine T.F_is_figures.okD sc_is_figures (fun ds Q h => ?_) (fun cdv A outer s H O ds Q E hr h => ?_)
  · obtain ⟨z, k, rfl, _⟩ := h; rfl
  · obtain ⟨z, k, rfl, hz, q⟩ := h
    refine' ⟨_, ?body, ?read⟩
    case body =>
      refine' dss_one ?s1
      case s1 =>
        refine' ds_ret ?e2
        case e2 =>
          exact (de_and (de_cmp (op_eqX hr.units) od_eq (df (PE.imp (pe_callB call_len_str rfl T.n_len PySem.boot_len (db_cons (df (dv 0)) db_nil)) (dcb cd_lenT))) (df (dv 1)) (nomark _)) (de_one (PE.imp (pe_callB (call_all rfl) rfl T.n_all bt_all (db_cons (df (fe (fe_compSI rfl cs_is_figures_0 (df (dv 0)) gd_name keepName (by decide) (fun _ _ _ _ => (pg_name (i := 0) cs_is_figures_0.nd rfl (by first | exact Or.inl rfl | exact Or.inr rfl))) (fun _ _ _ _ => pf_nilD) (fun _ _ _ _ => (de_cmp op_in_str od_inS (df (dv 0)) (df (dc (pe_glob rfl T.c_FIGURES T.r_FIGURES) (fun _ _ => .str _))) rfl))))) db_nil)) (dcb cd_any))))
    case read =>
    walk_at "rz"
    refine ⟨hz, ?_⟩
    unfold isFigs at q
    split
    · rename_i h1
      rw [decide_eq_true (p := (z.length : Int) = k) (by simpa using h1)] at q
      refine ⟨by omega, compI_bools (p := fun b => Q (.bool b)) (fun x => match x with | .str y => decide (y.cps.toList.headD 0 ∈ figs.cps.toList) | _ => false) (fun x hx R hR => ?_) ?_⟩
      · obtain ⟨c, _, rfl⟩ := List.mem_map.mp hx
        walk_at "rz"
        rw [StrLaws.found_one]; exact hR
      · unfold signsD; rw [List.map_map, List.all_map]; exact q
    · rename_i h1
      rw [decide_eq_false (p := (z.length : Int) = k) (by simpa using h1)] at q; exact q
theorem figs_iff {z : Str} {k : Int} {Q : PyData → Prop} : F_figs [.str z, .int k] Q ↔ z.length ≤ 16777216 ∧ Q (.bool (isFigs z k)) := ⟨fun ⟨_, _, e, h⟩ => by cases e; exact h, fun h => ⟨_, _, rfl, h⟩⟩
theorem figs_d2 {m : Nat} (h : m < 100) : isFigs ⟨(d2 m).toArray⟩ 2 = true := by
  have : ∀ m : Fin 100, isFigs ⟨(d2 m.val).toArray⟩ 2 = true := by decide +kernel
  exact this ⟨m, h⟩
theorem fig_mem : ∀ c : Fin 10, 48 + c.val ∈ figs.cps.toList := by decide +kernel
theorem figs_d4 {y : Nat} (h : y < 10000) : isFigs ⟨(d4 y).toArray⟩ 4 = true := by
  have f : ∀ {c : Nat}, c < 10 → 48 + c ∈ figs.cps.toList := fun {c} hc => fig_mem ⟨c, hc⟩
  unfold isFigs
  rw [decide_eq_true (by rfl)]
  simp only [d4, Bool.true_and, List.all_cons, List.all_nil, Bool.and_true, Bool.and_eq_true, decide_eq_true_eq]
  exact ⟨f (by omega), f (by omega), f (by omega), f (by omega)⟩
def F_read : List PyData → (PyData → Prop) → Prop := fun ds Q => ∃ y m n : Int, ds = [.str (dtx y m n)] ∧ Dat y m n ∧ 0 ≤ num y m n ∧ num y m n ≤ 99999 ∧ Q (.int (num y m n))
theorem ok_read (T : Txt K mg t) : FnOk P w K mg base CX0 4 t.a_read_day t.d_read_day ["text"] (spD K F_read) := by
  have G_is_figures := ok_figs (P := P) (w := w) (base := base) T
  have G_is_date := ok_isdate (P := P) (w := w) (base := base) T
  have G_is_day := ok_day (P := P) (w := w) (base := base) T
  have G_number_of := okd_num (P := P) (w := w) (base := base) T
  refine T.F_read_day.okD sc_read_day (fun ds Q h => ?_) (fun cdv A outer s H O ds Q E hr h => ?_)
  · obtain ⟨y, m, n, rfl, _⟩ := h; rfl
  · obtain ⟨y, m, n, rfl, hd, h0, h1, q⟩ := h
    refine' ⟨_, ?body, ?read⟩
    case body =>
      refine' dss_cons ?s1 ?r1
      case s1 =>
        refine' ds_if ?c2 ?a2 ?b2
        case c2 => exact (dt_not (dt_val (de_isin (T := "str") rfl T.n_isinstance bt_isinstance (df (dv 0)) (pe_bltn (v := .ty "str") rfl T.n_str bt_str rfl))))
        case a2 =>
          refine' dss_one ?s3
          case s3 =>
            exact ds_never
        case b2 =>
          exact dss_nil
      case r1 =>
        refine' dss_cons ?s5 ?r5
        case s5 =>
          exact (ds_set (i := 1) sc_read_day.nd rfl (by first | exact Or.inl rfl | exact Or.inr rfl) (fe (fe_split (dv 0) de_str)))
        case r5 =>
          refine' dss_cons ?s7 ?r7
          case s7 =>
            refine' ds_if ?c8 ?a8 ?b8
            case c8 => exact (PW.pt (dw_or (dt_cmp (op_neX hr.units) od_ne (df (PE.imp (pe_callB call_len_seq rfl T.n_len PySem.boot_len (db_cons (df (dv 1)) db_nil)) (dcb cd_len))) (df de_int) (nomark _)) (dw_or1 (dt_not (dt_val (PE.imp (pe_call G_is_figures (hr.mono (by decide)) rfl T.m_is_figures T.F_is_figures.kp T.b_is_figures .nil pass0 (da_cons (de_ix ix_list od_ixL (df (dv 1)) (df de_int)) (da_cons de_int da_nil))) dcall))))))
            case a8 =>
              refine' dss_one ?s9
              case s9 =>
                exact ds_never
            case b8 =>
              exact dss_nil
          case r7 =>
            refine' dss_cons ?s11 ?r11
            case s11 =>
              refine' ds_if ?c12 ?a12 ?b12
              case c12 => exact (dt_not (PW.pt (dw_and (dt_val (PE.imp (pe_call G_is_figures (hr.mono (by decide)) rfl T.m_is_figures T.F_is_figures.kp T.b_is_figures .nil pass0 (da_cons (de_ix ix_list od_ixL (df (dv 1)) (df de_int)) (da_cons de_int da_nil))) dcall)) (dw_and1 (dt_val (PE.imp (pe_call G_is_figures (hr.mono (by decide)) rfl T.m_is_figures T.F_is_figures.kp T.b_is_figures .nil pass0 (da_cons (de_ix ix_list od_ixL (df (dv 1)) (df de_int)) (da_cons de_int da_nil))) dcall))))))
              case a12 =>
                refine' dss_one ?s13
                case s13 =>
                  exact ds_never
              case b12 =>
                exact dss_nil
            case r11 =>
              refine' dss_cons ?s15 ?r15
              case s15 =>
                exact (ds_set (i := 2) sc_read_day.nd rfl (by first | exact Or.inl rfl | exact Or.inr rfl) (PE.imp (pe_callTy call_intT rfl T.n_int bt_int (db_cons (df (de_ix ix_list od_ixL (df (dv 1)) (df de_int))) db_nil)) (dcb cd_intT)))
              case r15 =>
                refine' dss_cons ?s17 ?r17
                case s17 =>
                  exact (ds_set (i := 3) sc_read_day.nd rfl (by first | exact Or.inl rfl | exact Or.inr rfl) (PE.imp (pe_callTy call_intT rfl T.n_int bt_int (db_cons (df (de_ix ix_list od_ixL (df (dv 1)) (df de_int))) db_nil)) (dcb cd_intT)))
                case r17 =>
                  refine' dss_cons ?s19 ?r19
                  case s19 =>
                    exact (ds_set (i := 4) sc_read_day.nd rfl (by first | exact Or.inl rfl | exact Or.inr rfl) (PE.imp (pe_callTy call_intT rfl T.n_int bt_int (db_cons (df (de_ix ix_list od_ixL (df (dv 1)) (df de_int))) db_nil)) (dcb cd_intT)))
                  case r19 =>
                    refine' dss_cons ?s21 ?r21
                    case s21 =>
                      refine' ds_if ?c22 ?a22 ?b22
                      case c22 => exact (PW.pt (dw_or (dt_not (dt_val (PE.imp (pe_call G_is_date (hr.mono (by decide)) rfl T.m_is_date T.F_is_date.kp T.b_is_date .nil pass0 (da_cons (dv 2) (da_cons (dv 3) (da_cons (dv 4) da_nil)))) dcall))) (dw_or1 (dt_not (dt_val (PE.imp (pe_call G_is_day (hr.mono (by decide)) rfl T.m_is_day T.F_is_day.kp T.b_is_day .nil pass0 (da_cons (PE.imp (pe_call G_number_of (hr.mono (by decide)) rfl T.m_number_of T.F_number_of.kp T.b_number_of .nil pass0 (da_cons (dv 2) (da_cons (dv 3) (da_cons (dv 4) da_nil)))) dcall) da_nil)) dcall))))))
                      case a22 =>
                        refine' dss_one ?s23
                        case s23 =>
                          exact ds_never
                      case b22 =>
                        exact dss_nil
                    case r21 =>
                      refine' dss_one ?s25
                      case s25 =>
                        exact (ds_ret (PE.imp (pe_call G_number_of (hr.mono (by decide)) rfl T.m_number_of T.F_number_of.kp T.b_number_of .nil pass0 (da_cons (dv 2) (da_cons (dv 3) (da_cons (dv 4) da_nil)))) dcall))
    case read =>
    walk_at "rz"
    simp only [kit_str, isStrB]
    walk_at "rz"
    obtain ⟨y1, y2, m1, m2, n1, n2⟩ := hd
    have hb := mlen_bd (y := y) m1 m2
    have e1 := int_d4 (y := y.toNat) (by omega) (by omega)
    have e2 := int_d2 ⟨m.toNat, by omega⟩
    have e3 := int_d2 ⟨n.toNat, by omega⟩
    simp only [Int.toNat_of_nonneg (show 0 ≤ y by omega), Int.toNat_of_nonneg (show 0 ≤ m by omega), Int.toNat_of_nonneg (show 0 ≤ n by omega)] at e1 e2 e3
    have g1 := figs_d4 (y := y.toNat) (by omega)
    have g2 := figs_d2 (m := m.toNat) (by omega)
    have g3 := figs_d2 (m := n.toNat) (by omega)
    refine ⟨by simp, by decide +kernel, by rw [dtx_len]; decide, ?_⟩
    rw [split_dtx]
    walk_at "rz"
    rw [if_neg (by decide)]
    simp only [figs_iff, isdate_iff, day_iff, num_iff, g1, g2, g3, e1, e2, e3, ↓lz_w, ↓lz_wN, ↓lz_v0, ↓lz_vS, ↓lz_vE, ↓lz_vN, ↓lz_o0, ↓lz_oS, ↓lz_oE, ↓lz_oN, ↓lz_b, ↓lz_i, ↓lz_s, ↓lz_t, ↓lz_l, ↓lz_ii, ↓lz_ss, ↓lz_tt, ↓lz_ll, ↓lz_cons, ↓lz_two, ↓lz_tt0, ↓lz_tt1, ↓lz_tt2, ↓lz_tt3, ↓lz_ll0, ↓lz_ll1, ↓lz_ll2, ↓lz_tix, ↓lz_lix, dSeq, dNext, dIfS, dRet, dRetO, dDrop, dSet, dNew, dApp, dAsg, dPar, dFrz, dVar, dOwn, dC, dOp, dI, dIC, dEq, dNe, dIn, dIxL, dIxT, dIxS, dAddS, dCatT, dCat, dL, dFin, dTup, dLst, dNil, dCons, dTest, dAnd, dOr, dNot, dAndV, dOrV, dNotV, dIf, dChain, dCall, dCallS, dCallN, wq_paper_happens, wq_paper_rule, wq_paper_end, wq_paper_hold, wq_paper_lift, wq_paper_leave, wq_happens_paper, wq_happens_rule, wq_happens_end, wq_happens_hold, wq_happens_lift, wq_happens_leave, wq_rule_paper, wq_rule_happens, wq_rule_end, wq_rule_hold, wq_rule_lift, wq_rule_leave, wq_end_paper, wq_end_happens, wq_end_rule, wq_end_hold, wq_end_lift, wq_end_leave, wq_hold_paper, wq_hold_happens, wq_hold_rule, wq_hold_end, wq_hold_lift, wq_hold_leave, wq_lift_paper, wq_lift_happens, wq_lift_rule, wq_lift_end, wq_lift_hold, wq_lift_leave, wq_leave_paper, wq_leave_happens, wq_leave_rule, wq_leave_end, wq_leave_hold, wq_leave_lift, dRep2, dSlL, dSlT, dSlS, dLits, dSel, dRev, dNoPart, dPart, dLen, dLenS, dTupOf, dAny, dTwo, dIsin, dJoin, dInt, dListOf, dYes, dComp, dCompT, dCompR, dFor, dForT, dForR, dForR2, dForI, dForTI, dForRI, dForR2I, dSlX, dDct0, dNeg, dUpper, dRevT, dRepT, cD_nm1, dInX, dLenT, dLtS, dInS, dEqZ, dInZ, dSortS, dCompSI, dCompR2I, dStrI, dIntT, dZfill, dSplit, dJs, dNever, dLtU, take_iff, cD_1n, cD_2n, cD_3n, cD_4n, cD_n1, cD_n2, cD_n3, cD_n4, cD_13, ne_eq, thing_str, thing_int, thing_bool, thing_tup, thing_list, strsE1, strsE2, strsE3, dCompI, dCompTI, dCompRI, dgName, dgTup, dgCons, dgNil, forW, startD, dst0, CDiv, CPow, CMul, List.map_cons, List.map_nil, List.length_cons, List.length_nil, List.replicate, List.cons_append, List.nil_append, List.append_nil, Nat.reduceAdd, Nat.reduceSub, Nat.add_zero, Nat.zero_add, Nat.sub_self, List.getElem?_cons_zero, List.getElem?_cons_succ, List.getElem?_nil, List.set_cons_zero, List.set_cons_succ, Option.some.injEq, exists_eq_left', exists_eq_left, exists_and_left, exists_and_right, Option.join_some, Option.join_none, Sl.v.injEq, Sl.o.injEq, PyData.int.injEq, PyData.bool.injEq, PyData.str.injEq, PyData.tuple.injEq, PyData.list.injEq, List.cons.injEq, and_true, true_and, Nat.reduceLT, Nat.reduceLeDiff, exists_const, decide_eq_true_eq, Int.reduceLT, Int.reduceLE, Int.reduceNeg, Int.reducePow, Bool.not_eq_true', decide_eq_false_iff_not, and_assoc, or_true, true_or, ↓reduceIte, if_true, if_false, Bool.false_eq_true, Bool.true_eq_false, not_true_eq_false, not_false_eq_true, Bool.not_true, Bool.not_false, ite_true, ite_false, eq_self, exists_eq, reduceCtorEq, false_and, and_false, or_false, false_or, exists_false, Option.map_some, Option.map_none, scalD, List.all_cons, List.all_nil, List.any_cons, List.any_nil, Bool.and_true, Bool.or_false, Bool.true_and, Bool.false_or, atI_c0, atI_c1, atI_c2, atI_c3, atI_c4, eqv_str, eqv_int, eqv_bool, beq_self_eq_true, shp_int, shp_bl, shp_non, Shp, sizeLine_eq]
    have hd : Dat y m n := ⟨y1, y2, m1, m2, n1, n2⟩
    refine ⟨by show 4 ≤ _; decide, by show 2 ≤ _; decide, by show 2 ≤ _; decide, by show 4 ≤ _; decide, by show 2 ≤ _; decide, by show 2 ≤ _; decide, ?_⟩
    rw [if_neg (fun z => z hd)]
    refine ⟨m1, m2, ?_⟩
    rw [if_neg (by simp [isDy, h0, h1])]
    exact ⟨m1, m2, q⟩
theorem read_iff {y m n : Int} {Q : PyData → Prop} (h : Dat y m n ∧ 0 ≤ num y m n ∧ num y m n ≤ 99999 ∧ Q (.int (num y m n))) : F_read [.str (dtx y m n)] Q := ⟨_, _, _, rfl, h⟩
end
end K04

open PySem L2

namespace K04
section
variable {P : Program} {w : World} {K : PySem.W.Frag} {mg : Str → Option Value} {base : Heap} {t : Adr}
def sp_mixed : Sp := fun vs H Q _ => ∃ (c : Int), vs = [.int c] ∧ Builtin.Int.intBits c ≤ 2000000 ∧ ∀ n : Int, Q (.int n) H
theorem ok_mixed (T : Txt K mg t) : FnOk P w K mg base CX0 1 t.a__law_mixed t.d__law_mixed ["_law_cell"] sp_mixed := by
  refine T.F__law_mixed.ok sc__law_mixed (fun vs H Q E h => ?_) (fun cdv A outer s H vs Q E hr h => ?_)
  · obtain ⟨c, rfl, _⟩ := h; rfl
  · obtain ⟨c, rfl, hb, k⟩ := h
    refine ⟨_, (pss_one (ps_ret (pe_op op_mod (pe_op op_mulB (pv 0) pe_int) (pe_op op_pow pe_int pe_int)))), ?_⟩
    walk_at "rd"
    refine ⟨IntMulOk.of_le (m := 2000000) (n := 256) hb (intBits_le_iff.mpr (by decide)) (by decide), ?_, ?_, k _⟩
    · decide
    · decide
theorem bits_small {x : Int} (h1 : 0 ≤ x) (h2 : x ≤ 1000000) : Builtin.Int.intBits x ≤ 20 := intBits_le_iff.mpr (by
  have : (2 : Nat) ^ 20 = 1048576 := by decide
  omega)
theorem ints_of {H : Hp} {O : Ex} {v : V} {ns : List Int} (h : Dt K H O v (scrD (ns.map .int))) : ∃ a, v = .ref a ∧ SqL K H a (ns.map V.int) := by
  obtain ⟨a, xs, rfl, hs, r⟩ := (Sh.dt h).scr
  refine ⟨a, rfl, ?_⟩
  have : xs = ns.map V.int := by
    clear hs h
    induction ns generalizing xs with
    | nil => rw [List.map_nil] at r; cases r; rfl
    | cons n ns ih =>
      rw [List.map_cons] at r
      cases r with
      | cons h r => cases h; rw [List.map_cons, ih _ r]
  rw [← this]; exact hs
theorem ok_pack (T : Txt K mg t) : FnOk P w K mg base CX0 2 t.a__law_pack t.d__law_pack ["_law_script", "_law_k"] (spD K F_pack) := by
  have G__law_mixed := ok_mixed (P := P) (w := w) (base := base) T
  refine T.F__law_pack.ok sc__law_pack (fun vs H Q E h => ?_) (fun cdv A outer s H vs Q E hr h => ?_)
  · obtain ⟨O, ds, Qd, _, r, ⟨ns, i, rfl, _⟩, _⟩ := h; exact r.length
  · obtain ⟨O, ds, Qd, tr, r, ⟨ns, i, rfl, hb, i0, i1, q⟩, k⟩ := h
    cases r with
    | cons r1 r2 =>
      cases r2 with
      | cons r2 r3 =>
        cases r3
        cases r2
        obtain ⟨a, rfl, hS⟩ := ints_of r1
        refine ⟨_, PSs.newPack (pss_cons (ps_if (pt_cmpR op_lt (pv 1) (pe_callB call_len rfl T.n_len PySem.boot_len (pa_cons (pv 0) pa_nil)) (nomark _)) (pss_one (ps_ret (pe_lst (pa_cons (pe_call G__law_mixed (hr.mono (by decide)) rfl T.m__law_mixed T.F__law_mixed.kp T.b__law_mixed .nil pass0 (pa_cons (pe_op op_add (pe_ix ix_list (pv 0) (pv 1) (fun _ _ => rfl)) (pe_op op_mul pe_int (pv 1))) pa_nil)) pa_nil)))) pss_nil)
      (pss_one (ps_ret (pe_lst (pa_cons (pe_call G__law_mixed (hr.mono (by decide)) rfl T.m__law_mixed T.F__law_mixed.kp T.b__law_mixed .nil pass0 (pa_cons (pe_op op_add (pe_op op_mul pe_int (pv 1)) pe_int) pa_nil)) pa_nil))))), ?_⟩
        have fin : ∀ (n : Int) (p : Addr), H p = none → ∃ p' n', V.ref p = V.ref p' ∧ upd H p (.lst [.int n]) p' = some (.lst [.int n']) ∧ Q (.ref p) (upd (upd H p (.lst [.int n])) p' (packO p')) := fun n p hp =>
          ⟨p, n, rfl, upd_same, k _ _ _ q (fun b o e => by rw [upd_ne (ne_of_none e hp), upd_ne (ne_of_none e hp)]; exact e) (.pack upd_same fun z => tr p z hp)⟩
        walk_at "rd"
        refine ⟨ns.length, .inl ⟨_, hS, by simp⟩, ?_⟩
        split
        · rename_i hlt
          obtain ⟨j, rfl⟩ := Int.eq_ofNat_of_zero_le i0
          have hj : j < ns.length := by omega
          refine ixL (v := .int ns[j]) hS (atI_nat (by simp [hj])) ⟨_, rfl, ?_⟩
          simp only [sp_mixed]
          walk_at "rd"
          refine ⟨?_, fun n => ⟨by show 1 ≤ sizeLine; decide, fun p hp => ?_⟩⟩
          · have e1 := hb ns[j] (List.getElem_mem hj)
            have e2 : Builtin.Int.intBits (23 * (j : Int)) ≤ 20 := bits_small (by omega) (by omega)
            exact Nat.le_trans (intBits_add_le e1 e2) (by decide)
          · simpa using fin n p hp
        · simp only [sp_mixed]
          walk_at "rd"
          refine ⟨?_, fun n => ⟨by show 1 ≤ sizeLine; decide, fun p hp => ?_⟩⟩
          · exact Nat.le_trans (bits_small (by omega) (by omega)) (by decide)
          · simpa using fin n p hp
theorem ok_take (T : Txt K mg t) : FnOk P w K mg base CX0 1 t.a__law_take t.d__law_take ["_law_pack_here", "_law_size"] (spD K F_take) := by
  refine T.F__law_take.ok sc__law_take (fun vs H Q E h => ?_) (fun cdv A outer s H vs Q E hr h => ?_)
  · obtain ⟨O, ds, Qd, _, r, ⟨z, rfl, _⟩, _⟩ := h; exact r.length
  · obtain ⟨O, ds, Qd, tr, r, ⟨z, rfl, z0, z1, qq⟩, k⟩ := h
    cases r with
    | cons r1 r2 =>
      cases r2 with
      | cons r2 r3 =>
        cases r3
        cases r2
        cases r1 with
        | @pack p hp hn =>
          refine ⟨_, PSs.pack (pss_cons (ps_asg (pe_callB call_divmod rfl T.n_divmod bt_divmod (pa_cons (pe_ix ix_list (pv 0) pe_int (fun _ _ => rfl)) (pa_cons (pv 1) pa_nil))) (pg_tup (n := 2) rfl (pgs_cons (pg_sub (pv 0) pe_int set_list) (pgs_cons (pg_name (i := 2) sc__law_take.nd rfl (by first | exact Or.inl rfl | exact Or.inr rfl)) pgs_nil))))
      (pss_one (ps_ret (pv 2)))), p, hp, fun n => ?_⟩
          walk_at "rd"
          refine ixL (SqL.of upd_same) rfl ⟨n, rfl, z0, by omega, fun q hq => ?_⟩
          have hpq : p ≠ q := ne_of_none upd_same hq
          refine ⟨_, SqT.of upd_same, rfl, _, _, rfl, ?_⟩
          refine ⟨p, [.int n], 0, 0, rfl, rfl, by rw [upd_ne hpq, upd_same], rfl, ?_⟩
          refine ⟨_, _, rfl, rfl, ?_⟩
          refine ⟨⟨_, upd_same⟩, k _ _ _ (qq (n % z) (Int.emod_nonneg _ (by omega)) (Int.emod_lt_of_pos _ z0)) (fun b o e => ?_) (.int _)⟩
          by_cases hb : b = p
          · subst hb; rw [upd_same, ← hp, e]
          · have hbq : b ≠ q := fun y => by
              subst y
              rw [upd_ne hb] at hq; rw [hq] at e; cases e
            rw [upd_ne hb, upd_ne hb, upd_ne hbq, upd_ne hb]; exact e
end
end K04

open PySem L2

namespace K04
open Day
section
variable {P : Program} {w : World} {K : PySem.W.Frag} {mg : Str → Option Value} {base : Heap} {t : Adr}
def F_near : List PyData → (PyData → Prop) → Prop := fun ds Q => ds = [packD] ∧ ∀ d : Int, 0 ≤ d → d ≤ 99999 → Q (.int d)
theorem ok_near (T : Txt K mg t) : FnOk P w K mg base CX0 5 t.a__law_near t.d__law_near ["_law_pack_here"] (spD K F_near) := by
  have G__law_take := ok_take (P := P) (w := w) (base := base) T
  have G_day_of := ok_dayof (P := P) (w := w) (base := base) T
  refine T.F__law_near.okD sc__law_near (fun ds Q h => ?_) (fun cdv A outer s H O ds Q E hr h => ?_)
  · obtain ⟨rfl, _⟩ := h; rfl
  · obtain ⟨rfl, q⟩ := h
    refine' ⟨_, ?body, ?read⟩
    case body =>
      refine' dss_cons ?s1 ?r1
      case s1 =>
        exact (ds_set (i := 1) sc__law_near.nd rfl (by first | exact Or.inl rfl | exact Or.inr rfl) (PE.imp (pe_call G__law_take (hr.mono (by decide)) rfl T.m__law_take T.F__law_take.kp T.b__law_take .nil pass0 (da_cons (dv 0) (da_cons de_int da_nil))) dcall))
      case r1 =>
        refine' dss_cons ?s3 ?r3
        case s3 =>
          refine' ds_if ?c4 ?a4 ?b4
          case c4 => exact (dt_cmp (op_eqX hr.units) od_eq (df (dv 1)) (df de_int) (nomark _))
          case a4 =>
            refine' dss_one ?s5
            case s5 =>
              exact (ds_ret (PE.imp (pe_call G__law_take (hr.mono (by decide)) rfl T.m__law_take T.F__law_take.kp T.b__law_take .nil pass0 (da_cons (dv 0) (da_cons de_int da_nil))) dcall))
          case b4 =>
            exact dss_nil
        case r3 =>
          refine' dss_cons ?s7 ?r7
          case s7 =>
            exact (ds_par (i := 2) (j := 3) rfl sc__law_near.nd rfl rfl (by decide) rfl rfl (da_cons (de_op op_add od_int (df de_int) (df (PE.imp (pe_call G__law_take (hr.mono (by decide)) rfl T.m__law_take T.F__law_take.kp T.b__law_take .nil pass0 (da_cons (dv 0) (da_cons de_int da_nil))) dcall))) (da_cons (de_op op_add od_int (df de_int) (df (PE.imp (pe_call G__law_take (hr.mono (by decide)) rfl T.m__law_take T.F__law_take.kp T.b__law_take .nil pass0 (da_cons (dv 0) (da_cons de_int da_nil))) dcall))) da_nil)) (by rfl))
          case r7 =>
            refine' dss_cons ?s9 ?r9
            case s9 =>
              refine' ds_if ?c10 ?a10 ?b10
              case c10 => exact (dt_cmp (op_eqX hr.units) od_eq (df (dv 1)) (df de_int) (nomark _))
              case a10 =>
                refine' dss_one ?s11
                case s11 =>
                  generalize hE12_0 : Expr.List _ _ = ee12_0
                  exact (ds_par (i := 2) (j := 3) rfl sc__law_near.nd rfl rfl (by decide) rfl rfl (da_cons (de_ix ix_list od_ixL (df (fe (fe_lits (ds := [.int 2000, .int 2004, .int 2096, .int 2100, .int 2104, .int 2200, .int 2272]) (by first | (subst hE12_0; rfl))))) (df (PE.imp (pe_call G__law_take (hr.mono (by decide)) rfl T.m__law_take T.F__law_take.kp T.b__law_take .nil pass0 (da_cons (dv 0) (da_cons de_int da_nil))) dcall))) (da_cons (de_op op_add od_int (df de_int) (df (PE.imp (pe_call G__law_take (hr.mono (by decide)) rfl T.m__law_take T.F__law_take.kp T.b__law_take .nil pass0 (da_cons (dv 0) (da_cons de_int da_nil))) dcall))) da_nil)) (by first | (subst hE12_0; rfl)))
              case b10 =>
                exact dss_nil
            case r9 =>
              refine' dss_one ?s13
              case s13 =>
                refine' ds_ret ?e14
                case e14 =>
                  exact (PE.imp (pe_callB (call_max2 rfl) rfl T.n_max PyProof.Rows.boot_max (db_cons (df de_int) (db_cons (df (de_op op_sub od_int (df (de_op op_add od_int (df (PE.imp (pe_call G_day_of (hr.mono (by decide)) rfl T.m_day_of T.F_day_of.kp T.b_day_of .nil pass0 (da_cons (dv 2) (da_cons (dv 3) (da_cons de_int da_nil)))) dcall)) (df (PE.imp (pe_call G__law_take (hr.mono (by decide)) rfl T.m__law_take T.F__law_take.kp T.b__law_take .nil pass0 (da_cons (dv 0) (da_cons de_int da_nil))) dcall)))) (df de_int))) db_nil))) (dcb cd_two))
    case read =>
    walk_at "rz"
    simp only [dayof_iff]
    walk_at "rz"
    have dat : ∀ y m : Int, 2000 ≤ y → y ≤ 2272 → 1 ≤ m → m ≤ 12 → Dat y m 1 := fun y m a b c d => ⟨a, by omega, c, d, by omega, by have := mlen_bd (y := y) c d; omega⟩
    have fin : ∀ y m k : Int, 2000 ≤ y → y ≤ 2272 → 1 ≤ m → m ≤ 12 → 0 ≤ k → k < 7 → Q (.int (if num y m 1 + k - 4 > 0 then num y m 1 + k - 4 else 0)) := fun y m k a b c d e f => by
      have h1 := bef_bd (y := y) c d
      have h2 := mlen_bd (y := y) c d
      have h3 := ystart_mono (a := y) (b := 2273) (by omega)
      have h4 := ystart_succ y
      have h5 : ystart 2273 = 99712 := by decide
      have h6 : num y m 1 ≤ 99684 := by unfold num; omega
      refine q _ ?_ ?_
      · split <;> omega
      · split <;> omega
    intro i i0 i4
    split
    · intro j j0 j1; exact q j j0 (by omega)
    · intro a a0 a1 b b0 b1
      split
      · intro c c0 c1
        have h : c = 0 ∨ c = 1 ∨ c = 2 ∨ c = 3 ∨ c = 4 ∨ c = 5 ∨ c = 6 := by omega
        have key : ∀ y : Int, 2000 ≤ y → y ≤ 2272 → ∀ i : Int, 0 ≤ i → i < 2 → F_dayof [.int y, .int (2 + i), .int 1] fun x => ∀ i : Int, 0 ≤ i → i < 7 → ∃ i_3, x = .int i_3 ∧ Q (.int (if i_3 + i - 4 > 0 then i_3 + i - 4 else 0)) := fun y y1 y2 i i0 i1 =>
          dayof_iff.mpr ⟨dat _ _ y1 y2 (by omega) (by omega), fun k k0 k1 => ⟨_, rfl, fin _ _ _ y1 y2 (by omega) (by omega) k0 k1⟩⟩
        rcases h with rfl | rfl | rfl | rfl | rfl | rfl | rfl
        · exact ⟨_, rfl, key _ (by decide) (by decide)⟩
        · exact ⟨_, rfl, key _ (by decide) (by decide)⟩
        · exact ⟨_, rfl, key _ (by decide) (by decide)⟩
        · exact ⟨_, rfl, key _ (by decide) (by decide)⟩
        · exact ⟨_, rfl, key _ (by decide) (by decide)⟩
        · exact ⟨_, rfl, key _ (by decide) (by decide)⟩
        · exact ⟨_, rfl, key _ (by decide) (by decide)⟩
      · exact ⟨dat _ _ (by omega) (by omega) (by omega) (by omega), fun k k0 k1 => fin _ _ _ (by omega) (by omega) (by omega) (by omega) k0 k1⟩
theorem eqv3 {a b c a' b' c' : Int} : PyData.eqv (.tuple [.int a, .int b, .int c]) (.tuple [.int a', .int b', .int c']) = decide (a = a' ∧ b = b' ∧ c = c') := by
  have e : PyData.eqv (.tuple [.int a, .int b, .int c]) (.tuple [.int a', .int b', .int c']) = ((a == a') && ((b == b') && ((c == c') && true))) := by
    simp [PyData.eqv, PyData.eqvAll]
  rw [e]
  by_cases h1 : a = a' <;> by_cases h2 : b = b' <;> by_cases h3 : c = c' <;> simp [h1, h2, h3]
/-- what is compared: whole numbers, texts, dates -/
def F_order : List PyData → (PyData → Prop) → Prop := fun ds Q => (∃ a b : Int, ds = [.int a, .int b] ∧ Q (.list [.int (if a < b then 1 else 0), .int (if a = b then 1 else 0), .int (if b < a then 1 else 0)])) ∨
  (∃ a b : Str, ds = [.str a, .str b] ∧ SeqAt.shaped (.str a) = true ∧ SeqAt.shaped (.str b) = true ∧ Q (.list [.int (if a.cps.toList < b.cps.toList then 1 else 0), .int (if a = b then 1 else 0), .int (if b.cps.toList < a.cps.toList then 1 else 0)])) ∨
  (∃ a b c a' b' c' : Int, ds = [.tuple [.int a, .int b, .int c], .tuple [.int a', .int b', .int c']] ∧ Q (.list [.int (if HT.lexLt [a, b, c] [a', b', c'] = true then 1 else 0), .int (if a = a' ∧ b = b' ∧ c = c' then 1 else 0), .int (if HT.lexLt [a', b', c'] [a, b, c] = true then 1 else 0)]))
theorem ok_order (T : Txt K mg t) : FnOk P w K mg base CX0 1 t.a__law_order t.d__law_order ["_law_one", "_law_other"] (spD K F_order) := by
  refine T.F__law_order.okD sc__law_order (fun ds Q h => ?_) (fun cdv A outer s H O ds Q E hr h => ?_)
  · rcases h with ⟨_, _, rfl, _⟩ | ⟨_, _, rfl, _⟩ | ⟨_, _, _, _, _, _, rfl, _⟩ <;> rfl
  · refine' ⟨_, ?body, ?read⟩
    case body =>
      refine' dss_one ?s1
      case s1 =>
        refine' ds_ret ?e2
        case e2 =>
          refine' fe ?f3
          case f3 =>
            refine' fe_lst ?g4
            case g4 =>
              refine' da_cons ?u5 ?w5
              case u5 =>
                exact (PE.imp (pe_callTy call_int1 rfl T.n_int bt_int (db_cons (df (de_cmp (op_ltU hr.units) od_ltU (df (dv 0)) (df (dv 1)) (nomark _))) db_nil)) (dcb cd_int))
              case w5 =>
                refine' da_cons ?u7 ?w7
                case u7 =>
                  exact (PE.imp (pe_callTy call_int1 rfl T.n_int bt_int (db_cons (df (de_cmp (op_eqX hr.units) od_eq (df (dv 0)) (df (dv 1)) (nomark _))) db_nil)) (dcb cd_int))
                case w7 =>
                  refine' da_cons ?u9 ?w9
                  case u9 =>
                    exact (PE.imp (pe_callTy call_int1 rfl T.n_int bt_int (db_cons (df (de_cmp (op_ltU hr.units) od_ltU (df (dv 1)) (df (dv 0)) (nomark _))) db_nil)) (dcb cd_int))
                  case w9 =>
                    exact da_nil
    case read =>
    rcases h with ⟨a, b, rfl, q⟩ | ⟨a, b, rfl, ha, hb, q⟩ | ⟨a, b, c, a', b', c', rfl, q⟩
    · walk_at "rz"
      simpa using q
    · walk_at "rz"
      refine ⟨ha, hb, ?_⟩
      simpa using q
    · walk_at "rz"
      refine ⟨[a, b, c], rfl, [a', b', c'], rfl, rfl, rfl, [a', b', c'], rfl, [a, b, c], rfl, ?_⟩
      rw [show PyData.eqv (.tuple [.int a, .int b, .int c]) (.tuple [.int a', .int b', .int c']) = decide (a = a' ∧ b = b' ∧ c = c') from eqv3]
      simpa using q
theorem order_s {a b : Str} {Q : PyData → Prop} (ha : SeqAt.shaped (.str a) = true) (hb : SeqAt.shaped (.str b) = true) (h : Q (.list [.int (if a.cps.toList < b.cps.toList then 1 else 0), .int (if a = b then 1 else 0), .int (if b.cps.toList < a.cps.toList then 1 else 0)])) : F_order [.str a, .str b] Q := .inr (.inl ⟨a, b, rfl, ha, hb, h⟩)
theorem order_t {a b c a' b' c' : Int} {Q : PyData → Prop} (h : Q (.list [.int (if HT.lexLt [a, b, c] [a', b', c'] = true then 1 else 0), .int (if a = a' ∧ b = b' ∧ c = c' then 1 else 0), .int (if HT.lexLt [a', b', c'] [a, b, c] = true then 1 else 0)])) : F_order [.tuple [.int a, .int b, .int c], .tuple [.int a', .int b', .int c']] Q := .inr (.inr ⟨a, b, c, a', b', c', rfl, h⟩)
theorem order_i {a b : Int} {Q : PyData → Prop} (h : Q (.list [.int (if a < b then 1 else 0), .int (if a = b then 1 else 0), .int (if b < a then 1 else 0)])) : F_order [.int a, .int b] Q := .inl ⟨a, b, rfl, h⟩
end
end K04

open PySem L2
namespace K04
open Day
/-! later, in whole months -/
def cf (u : Str) : Int := if u = "years" then 12 else 1
theorem LaterIs.cases {d k r : Int} {u : Str} (h : LaterIs d k u r) : (u = "days" ∧ r = d + k) ∨ (u ≠ "days" ∧ ∃ M n, InM d M n ∧ r = addM M n (k * cf u)) := by
  rcases h with ⟨hu, e⟩ | ⟨hu, y, m, n, D, e⟩ | ⟨hu, y, m, n, D, e⟩
  · exact .inl ⟨hu, e⟩
  · refine .inr ⟨by rw [hu]; exact ndm, _, n, D.inM, ?_⟩
    rw [e, mon_addM, show cf u = 1 by unfold cf; rw [hu, if_neg nmy], Int.mul_one]
  · refine .inr ⟨by rw [hu]; exact ndy, _, n, D.inM, ?_⟩
    rw [e, mon_addM, show cf u = 12 by unfold cf; rw [hu, if_pos rfl]]
theorem cf_pos (u : Str) : 1 ≤ cf u := by unfold cf; split <;> omega
theorem later_mono {a b z r s : Int} {u : Str} (le : a ≤ b) (h : LaterIs a z u r) (h' : LaterIs b z u s) : r ≤ s := by
  rcases h.cases with ⟨hu, e⟩ | ⟨hu, M, n, I, e⟩
  · rcases h'.cases with ⟨_, e'⟩ | ⟨hu', _⟩
    · omega
    · exact absurd hu hu'
  · rcases h'.cases with ⟨hu', _⟩ | ⟨_, M', n', I', e'⟩
    · exact absurd hu' hu
    · rw [e, e']; exact addM_mono I I' le
theorem later_zero {a r : Int} {u : Str} (h : LaterIs a 0 u r) : r = a := by
  rcases h.cases with ⟨hu, e⟩ | ⟨hu, M, n, I, e⟩
  · omega
  · rw [e, Int.zero_mul, I.eq]; unfold addM; rw [Int.add_zero, show min n (lenM M) = n by have := I.nl; omega]
def apartMax (u : Str) : Int := 3 * if (u == Str.ofString "days") = false then 1 else 0
theorem later_two {a x y r s v : Int} {u : Str} (h : LaterIs a (x + y) u r) (h1 : LaterIs a x u s) (h2 : LaterIs s y u v) : 0 ≤ r - v ∧ r - v ≤ 3 * if (u == Str.ofString "days") = false then 1 else 0 := by
  rcases h.cases with ⟨hu, e⟩ | ⟨hu, M, n, I, e⟩
  · rcases h1.cases with ⟨_, e1⟩ | ⟨hu', _⟩
    · rcases h2.cases with ⟨_, e2⟩ | ⟨hu', _⟩
      · rw [show (u == Str.ofString "days") = true by rw [hu]; decide +kernel]; simp; omega
      · exact absurd hu hu'
    · exact absurd hu hu'
  · have hb : (u == Str.ofString "days") = false := by
      cases hq : (u == Str.ofString "days")
      · rfl
      · exact absurd (eq_of_beq hq) hu
    rw [hb, if_pos rfl]
    rcases h1.cases with ⟨hu', _⟩ | ⟨_, M1, n1, I1, e1⟩
    · exact absurd hu' hu
    · rcases h2.cases with ⟨hu', _⟩ | ⟨_, M2, n2, I2, e2⟩
      · exact absurd hu' hu
      · obtain ⟨rfl, rfl⟩ := I.uniq I1
        have I3 := addM_in (M := M) (x * cf u) I.n1
        rw [← e1] at I3
        obtain ⟨rfl, rfl⟩ := I2.uniq I3
        have t := addM_two (M := M) (n := n) (a := x * cf u) (b := y * cf u) (by have := I.nl; have := lenM_bd M; omega)
        rw [e, e2, Int.add_mul]; omega
theorem later_up {a x y r s : Int} {u : Str} (hy : 0 ≤ y) (h : LaterIs a (x + y) u r) (h1 : LaterIs a x u s) : s ≤ r := by
  rcases h.cases with ⟨hu, e⟩ | ⟨hu, M, n, I, e⟩
  · rcases h1.cases with ⟨_, e1⟩ | ⟨hu', _⟩
    · omega
    · exact absurd hu hu'
  · rcases h1.cases with ⟨hu', _⟩ | ⟨_, M1, n1, I1, e1⟩
    · exact absurd hu' hu
    · obtain ⟨rfl, rfl⟩ := I.uniq I1
      rw [e, e1, Int.add_mul]
      exact addM_up I.n1 (Int.mul_nonneg hy (by have := cf_pos u; omega))
theorem later_m1 {a r : Int} (h : LaterIs a 1 (Str.ofString "months") r) : 28 ≤ r - a ∧ r - a ≤ 31 := by
  rcases h.cases with ⟨hu, _⟩ | ⟨_, M, n, I, e⟩
  · exact absurd hu ndm
  · rw [e, show cf (Str.ofString "months") = 1 by unfold cf; rw [if_neg nmy], Int.mul_one]; exact addM_one I
theorem later_y1 {a r : Int} (h : LaterIs a 1 (Str.ofString "years") r) : r - a = 365 ∨ r - a = 366 := by
  rcases h with ⟨hu, _⟩ | ⟨hu, _⟩ | ⟨_, y, m, n, D, e⟩
  · exact absurd hu ndy
  · exact absurd hu nym
  · rw [e]; exact addM_year D
theorem later_y400 {a r : Int} (h : LaterIs a 400 (Str.ofString "years") r) : r - a = 146097 := by
  rcases h with ⟨hu, _⟩ | ⟨hu, _⟩ | ⟨_, y, m, n, D, e⟩
  · exact absurd hu ndy
  · exact absurd hu nym
  · rw [e]; exact addM_400 D
theorem later_d {a k r : Int} (h : LaterIs a k (Str.ofString "days") r) : r = a + k := by
  rcases h.cases with ⟨_, e⟩ | ⟨hu, _⟩
  · exact e
  · exact absurd rfl hu
/-! the order of days, dates, texts -/
def ord3 (a b : Int) : PyData := .list [.int (if a < b then 1 else 0), .int (if a = b then 1 else 0), .int (if b < a then 1 else 0)]
theorem ord3_shp (a b : Int) : SeqAt.shaped (ord3 a b) = true := rfl
theorem ord3_eqv (a b : Int) : PyData.eqv (ord3 a b) (ord3 a b) = true := by simp [ord3, PyData.eqv, PyData.eqvAll]
theorem order_i' {a b : Int} {Q : PyData → Prop} (h : Q (ord3 a b)) : F_order [.int a, .int b] Q := order_i h
theorem date_eq {a b y m n y' m' n' : Int} (D : DateOf a y m n) (D' : DateOf b y' m' n') : (y = y' ∧ m = m' ∧ n = n') ↔ a = b := by
  constructor
  · rintro ⟨rfl, rfl, rfl⟩; exact D.eq.symm.trans D'.eq
  · rintro rfl; exact D.uniq D'
theorem order_t' {a b y m n y' m' n' : Int} {Q : PyData → Prop} (D : DateOf a y m n) (D' : DateOf b y' m' n') (h : Q (ord3 a b)) : F_order [.tuple [.int y, .int m, .int n], .tuple [.int y', .int m', .int n']] Q := by
  refine order_t ?_
  rw [lexLt3, lexLt3]
  simp only [decide_eq_true_eq, ← D.lt D', ← D'.lt D, date_eq D D']
  exact h
theorem dsmall {a y m n : Int} (D : DateOf a y m n) (h0 : 0 ≤ a) (h1 : a < ystart 10000) : (1000 ≤ y ∧ y < 10000) ∧ (0 ≤ m ∧ m < 100) ∧ (0 ≤ n ∧ n < 100) := by
  have := year_bd D h0 h1; have := mlen_bd (y := y) D.m1 D.m12; have := D.m1; have := D.m12; have := D.n1; have := D.nl
  omega
theorem dtx_shp (y m n : Int) (hy : y < 10000) (hm : m < 100) (hn : n < 100) : SeqAt.shaped (.str (dtx y m n)) = true := by
  refine (shp_str (x := dtx y m n)).mpr (strOk_iff.mpr fun d hd => ?_)
  have e2 : (dtx y m n).cps.toList = d4 y.toNat ++ 45 :: (d2 m.toNat ++ 45 :: d2 n.toNat) := by simp [dtx, dtL]
  rw [e2] at hd
  simp only [d4, d2, List.cons_append, List.nil_append, List.mem_cons, List.not_mem_nil, or_false] at hd
  omega
theorem order_s' {a b y m n y' m' n' : Int} {Q : PyData → Prop} (D : DateOf a y m n) (D' : DateOf b y' m' n') (a0 : 0 ≤ a) (a1 : a < ystart 10000) (b0 : 0 ≤ b) (b1 : b < ystart 10000) (h : Q (ord3 a b)) : F_order [.str (dtx y m n), .str (dtx y' m' n')] Q := by
  obtain ⟨s1, s2, s3⟩ := dsmall D a0 a1
  obtain ⟨t1, t2, t3⟩ := dsmall D' b0 b1
  refine order_s (dtx_shp _ _ _ s1.2 s2.2 s3.2) (dtx_shp _ _ _ t1.2 t2.2 t3.2) ?_
  have e : (dtx y m n = dtx y' m' n') ↔ a = b := ⟨fun z => (date_eq D D').mp (dtx_inj s1 s2 s3 t1 t2 t3 z), fun z => by
    obtain ⟨rfl, rfl, rfl⟩ := (date_eq D D').mpr z; rfl⟩
  simp only [dtx_lt s1 s2 s3 t1 t2 t3, dtx_lt t1 t2 t3 s1 s2 s3, ← D.lt D', ← D'.lt D, e]
  exact h
end K04

open PySem L2

namespace K04
open Day
section
variable {P : Program} {w : World} {K : PySem.W.Frag} {mg : Str → Option Value} {base : Heap} {t : Adr}
theorem u3m : Unit3 (Str.ofString "months") := .inr (.inl rfl)
theorem u3y : Unit3 (Str.ofString "years") := .inr (.inr rfl)
theorem u3d : Unit3 (Str.ofString "days") := .inl rfl
theorem date_ex (d : Int) : ∃ y m n, DateOf d y m n := by
  have yo := yearOf_ok d
  generalize yearOf d = y at *
  have key : ∀ k : Nat, (k : Int) < 12 → d < ystart y + bef y (k + 2) → ∃ m n, DateOf d y m n := by
    intro k
    induction k with
    | zero =>
      intro _ h
      have e : bef y ((0 : Nat) + 2) = mlen y 1 := by
        rw [show (((0 : Nat) : Int) + 2) = 1 + 1 by omega, bef_succ (by omega), bef_1]; omega
      exact ⟨1, d - ystart y + 1, by omega, by omega, by omega, by omega, by unfold num; rw [bef_1]; omega⟩
    | succ k ih =>
      intro hk h
      by_cases z : d < ystart y + bef y (k + 2)
      · exact ih (by omega) z
      · have e := bef_succ (y := y) (m := (k : Int) + 2) (by omega)
        rw [show (((k + 1 : Nat) : Int) + 2) = (k : Int) + 2 + 1 by omega, e] at h
        exact ⟨(k : Int) + 2, d - ystart y - bef y (k + 2) + 1, by omega, by omega, by omega, by omega, by unfold num; omega⟩
  have a := (bef_all y).2.2.2.2.2.2.2.2.2.2.2.2
  obtain ⟨m, n, h⟩ := key 11 (by omega) (by rw [show (((11 : Nat) : Int) + 2) = 13 by omega, a]; have := ystart_succ y; omega)
  exact ⟨y, m, n, h⟩
theorem next_date {d y m n y2 m2 n2 : Int} (D : DateOf d y m n) (D2 : DateOf (d + 1) y2 m2 n2) :
    (y2 = y ∧ m2 = m ∧ n2 = n + 1) ∨ (y2 = y ∧ m2 = m + 1 ∧ n2 = 1 ∧ 28 ≤ n) ∨ (y2 = y + 1 ∧ m2 = 1 ∧ n2 = 1 ∧ 28 ≤ n ∧ m = 12) := by
  have a1 := D.m1; have a2 := D.m12; have b1 := D2.m1; have b2 := D2.m12
  have l := lenM_bd (y * 12 + m - 1)
  rcases D.inM.next with ⟨h, I⟩ | ⟨h, I⟩
  · obtain ⟨e1, e2⟩ := I.uniq D2.inM
    exact .inl ⟨by omega, by omega, by omega⟩
  · obtain ⟨e1, e2⟩ := I.uniq D2.inM
    by_cases z : m = 12
    · exact .inr (.inr ⟨by omega, by omega, by omega, by omega, z⟩)
    · exact .inr (.inl ⟨by omega, by omega, by omega, by omega⟩)
def F_same : List PyData → (PyData → Prop) → Prop := fun ds Q => ∃ a b : Int, ds = [.int a, .int b] ∧ 0 ≤ a ∧ a ≤ 99998 ∧ 0 ≤ b ∧ b ≤ 99998 ∧ Q (.bool true)
theorem ok_same (T : Txt K mg t) : FnOk P w K mg base CX0 6 t.a__law_same_way t.d__law_same_way ["_law_one", "_law_other"] (spD K F_same) := by
  have G__law_order := ok_order (P := P) (w := w) (base := base) T
  have G_day_of := ok_dayof (P := P) (w := w) (base := base) T
  have G_date_of := ok_dateof (P := P) (w := w) (base := base) T
  have G_show_day := ok_show (P := P) (w := w) (base := base) T
  have G_read_day := ok_read (P := P) (w := w) (base := base) T
  refine T.F__law_same_way.okD sc__law_same_way (fun ds Q h => ?_) (fun cdv A outer s H O ds Q E hr h => ?_)
  · obtain ⟨a, b, rfl, _⟩ := h; rfl
  · obtain ⟨a, b, rfl, a0, a1, b0, b1, q⟩ := h
    refine' ⟨_, ?body, ?read⟩
    case body =>
      refine' dss_cons ?s1 ?r1
      case s1 =>
        exact (ds_set (i := 2) sc__law_same_way.nd rfl (by first | exact Or.inl rfl | exact Or.inr rfl) (PE.imp (pe_call G__law_order (hr.mono (by decide)) rfl T.m__law_order T.F__law_order.kp T.b__law_order .nil pass0 (da_cons (dv 0) (da_cons (dv 1) da_nil))) dcall))
      case r1 =>
        refine' dss_cons ?s3 ?r3
        case s3 =>
          refine' ds_if ?c4 ?a4 ?b4
          case c4 => exact (PW.pt (dw_or (dt_cmp (op_neX hr.units) od_ne (df (PE.imp (pe_call G__law_order (hr.mono (by decide)) rfl T.m__law_order T.F__law_order.kp T.b__law_order .nil pass0 (da_cons (PE.imp (pe_call G_date_of (hr.mono (by decide)) rfl T.m_date_of T.F_date_of.kp T.b_date_of .nil pass0 (da_cons (dv 0) da_nil)) dcall) (da_cons (PE.imp (pe_call G_date_of (hr.mono (by decide)) rfl T.m_date_of T.F_date_of.kp T.b_date_of .nil pass0 (da_cons (dv 1) da_nil)) dcall) da_nil))) dcall)) (df (dv 2)) (nomark _)) (dw_or1 (dt_cmp (op_neX hr.units) od_ne (df (PE.imp (pe_call G__law_order (hr.mono (by decide)) rfl T.m__law_order T.F__law_order.kp T.b__law_order .nil pass0 (da_cons (PE.imp (pe_call G_show_day (hr.mono (by decide)) rfl T.m_show_day T.F_show_day.kp T.b_show_day .nil pass0 (da_cons (dv 0) da_nil)) dcall) (da_cons (PE.imp (pe_call G_show_day (hr.mono (by decide)) rfl T.m_show_day T.F_show_day.kp T.b_show_day .nil pass0 (da_cons (dv 1) da_nil)) dcall) da_nil))) dcall)) (df (dv 2)) (nomark _)))))
          case a4 =>
            refine' dss_one ?s5
            case s5 =>
              exact (ds_ret de_bl)
          case b4 =>
            exact dss_nil
        case r3 =>
          refine' dss_cons ?s7 ?r7
          case s7 =>
            refine' ds_forI PassesOwn.never rfl (fe (fe_lst (da_cons (dv 0) (da_cons (dv 1) da_nil)))) ?a8 gd_name ?b8
            case a8 => exact (pg_name (i := 3) sc__law_same_way.nd rfl (by first | exact Or.inl rfl | exact Or.inr rfl))
            case b8 =>
              refine' dss_cons ?s9 ?r9
              case s9 =>
                exact (ds_asg (PE.imp (pe_call G_date_of (hr.mono (by decide)) rfl T.m_date_of T.F_date_of.kp T.b_date_of .nil pass0 (da_cons (dv 3) da_nil)) dcall) (pg_tup (n := 3) rfl (pgs_cons (pg_name (i := 4) sc__law_same_way.nd rfl (by first | exact Or.inl rfl | exact Or.inr rfl)) (pgs_cons (pg_name (i := 5) sc__law_same_way.nd rfl (by first | exact Or.inl rfl | exact Or.inr rfl)) (pgs_cons (pg_name (i := 6) sc__law_same_way.nd rfl (by first | exact Or.inl rfl | exact Or.inr rfl)) pgs_nil)))) (gd_tup (gds_cons gd_name (gds_cons gd_name (gds_cons gd_name gds_nil)))))
              case r9 =>
                refine' dss_cons ?s11 ?r11
                case s11 =>
                  refine' ds_if ?c12 ?a12 ?b12
                  case c12 => exact (PW.pt (dw_or (dt_cmp (op_neX hr.units) od_ne (df (PE.imp (pe_call G_day_of (hr.mono (by decide)) rfl T.m_day_of T.F_day_of.kp T.b_day_of .nil pass0 (da_cons (dv 4) (da_cons (dv 5) (da_cons (dv 6) da_nil)))) dcall)) (df (dv 3)) (nomark _)) (dw_or1 (dt_cmp (op_neX hr.units) od_ne (df (PE.imp (pe_call G_read_day (hr.mono (by decide)) rfl T.m_read_day T.F_read_day.kp T.b_read_day .nil pass0 (da_cons (PE.imp (pe_call G_show_day (hr.mono (by decide)) rfl T.m_show_day T.F_show_day.kp T.b_show_day .nil pass0 (da_cons (dv 3) da_nil)) dcall) da_nil)) dcall)) (df (dv 3)) (nomark _)))))
                  case a12 =>
                    refine' dss_one ?s13
                    case s13 =>
                      exact (ds_ret de_bl)
                  case b12 =>
                    exact dss_nil
                case r11 =>
                  refine' dss_cons ?s15 ?r15
                  case s15 =>
                    exact (ds_set (i := 7) sc__law_same_way.nd rfl (by first | exact Or.inl rfl | exact Or.inr rfl) (PE.imp (pe_call G_date_of (hr.mono (by decide)) rfl T.m_date_of T.F_date_of.kp T.b_date_of .nil pass0 (da_cons (de_op op_add od_int (df (dv 3)) (df de_int)) da_nil)) dcall))
                  case r15 =>
                    refine' dss_cons ?s17 ?r17
                    case s17 =>
                      refine' ds_if ?c18 ?a18 ?b18
                      case c18 => exact (dt_cmp (op_notInX hr) od_inX (df (dv 7)) (df (fe (fe_lst (da_cons (de_tup (da_cons (dv 4) (da_cons (dv 5) (da_cons (de_op op_add od_int (df (dv 6)) (df de_int)) da_nil)))) (da_cons (de_tup (da_cons (dv 4) (da_cons (de_op op_add od_int (df (dv 5)) (df de_int)) (da_cons de_int da_nil)))) (da_cons (de_tup (da_cons (de_op op_add od_int (df (dv 4)) (df de_int)) (da_cons de_int (da_cons de_int da_nil)))) da_nil)))))) rfl)
                      case a18 =>
                        refine' dss_one ?s19
                        case s19 =>
                          exact (ds_ret de_bl)
                      case b18 =>
                        exact dss_nil
                    case r17 =>
                      refine' dss_one ?s21
                      case s21 =>
                        refine' ds_if ?c22 ?a22 ?b22
                        case c22 => exact (PW.pt (dw_or (PW.pt (dw_and (dt_cmp op_lt od_bl (df (dv 6)) (df de_int) (nomark _)) (dw_and1 (dt_cmp (op_neX hr.units) od_ne (df (de_ix ix_tup od_ixT (df (dv 7)) (df de_int))) (df (de_op op_add od_int (df (dv 6)) (df de_int))) (nomark _))))) (dw_or1 (PW.pt (dw_and (dt_cmp (op_eqX hr.units) od_eq (df (de_ix ix_tup od_ixT (df (dv 7)) (df de_int))) (df de_int) (nomark _)) (dw_and (dt_cmp op_gt od_bl (df (de_ix ix_tup od_ixT (df (dv 7)) (df de_int))) (df (dv 4)) (nomark _)) (dw_and1 (dt_cmp (op_neX hr.units) od_ne (df (dv 5)) (df de_int) (nomark _)))))))))
                        case a22 =>
                          refine' dss_one ?s23
                          case s23 =>
                            exact (ds_ret de_bl)
                        case b22 =>
                          exact dss_nil
          case r7 =>
            refine' dss_one ?s25
            case s25 =>
              exact (ds_ret de_bl)
    case read =>
    walk_at "rz"
    obtain ⟨ya, ma, na, Da⟩ := date_ex a
    obtain ⟨yb, mb, nb, Db⟩ := date_ex b
    have top : ystart 10000 = 2921940 := by decide
    have ta : a < ystart 10000 := by omega
    have tb : b < ystart 10000 := by omega
    refine order_i' ?_
    simp only [dateof_iff, show_iff, a0, b0, ta, tb, ↓lz_w, ↓lz_wN, ↓lz_v0, ↓lz_vS, ↓lz_vE, ↓lz_vN, ↓lz_o0, ↓lz_oS, ↓lz_oE, ↓lz_oN, ↓lz_b, ↓lz_i, ↓lz_s, ↓lz_t, ↓lz_l, ↓lz_ii, ↓lz_ss, ↓lz_tt, ↓lz_ll, ↓lz_cons, ↓lz_two, ↓lz_tt0, ↓lz_tt1, ↓lz_tt2, ↓lz_tt3, ↓lz_ll0, ↓lz_ll1, ↓lz_ll2, ↓lz_tix, ↓lz_lix, dSeq, dNext, dIfS, dRet, dRetO, dDrop, dSet, dNew, dApp, dAsg, dPar, dFrz, dVar, dOwn, dC, dOp, dI, dIC, dEq, dNe, dIn, dIxL, dIxT, dIxS, dAddS, dCatT, dCat, dL, dFin, dTup, dLst, dNil, dCons, dTest, dAnd, dOr, dNot, dAndV, dOrV, dNotV, dIf, dChain, dCall, dCallS, dCallN, wq_paper_happens, wq_paper_rule, wq_paper_end, wq_paper_hold, wq_paper_lift, wq_paper_leave, wq_happens_paper, wq_happens_rule, wq_happens_end, wq_happens_hold, wq_happens_lift, wq_happens_leave, wq_rule_paper, wq_rule_happens, wq_rule_end, wq_rule_hold, wq_rule_lift, wq_rule_leave, wq_end_paper, wq_end_happens, wq_end_rule, wq_end_hold, wq_end_lift, wq_end_leave, wq_hold_paper, wq_hold_happens, wq_hold_rule, wq_hold_end, wq_hold_lift, wq_hold_leave, wq_lift_paper, wq_lift_happens, wq_lift_rule, wq_lift_end, wq_lift_hold, wq_lift_leave, wq_leave_paper, wq_leave_happens, wq_leave_rule, wq_leave_end, wq_leave_hold, wq_leave_lift, dRep2, dSlL, dSlT, dSlS, dLits, dSel, dRev, dNoPart, dPart, dLen, dLenS, dTupOf, dAny, dTwo, dIsin, dJoin, dInt, dListOf, dYes, dComp, dCompT, dCompR, dFor, dForT, dForR, dForR2, dForI, dForTI, dForRI, dForR2I, dSlX, dDct0, dNeg, dUpper, dRevT, dRepT, cD_nm1, dInX, dLenT, dLtS, dInS, dEqZ, dInZ, dSortS, dCompSI, dCompR2I, dStrI, dIntT, dZfill, dSplit, dJs, dNever, dLtU, take_iff, cD_1n, cD_2n, cD_3n, cD_4n, cD_n1, cD_n2, cD_n3, cD_n4, cD_13, ne_eq, thing_str, thing_int, thing_bool, thing_tup, thing_list, strsE1, strsE2, strsE3, dCompI, dCompTI, dCompRI, dgName, dgTup, dgCons, dgNil, forW, startD, dst0, CDiv, CPow, CMul, List.map_cons, List.map_nil, List.length_cons, List.length_nil, List.replicate, List.cons_append, List.nil_append, List.append_nil, Nat.reduceAdd, Nat.reduceSub, Nat.add_zero, Nat.zero_add, Nat.sub_self, List.getElem?_cons_zero, List.getElem?_cons_succ, List.getElem?_nil, List.set_cons_zero, List.set_cons_succ, Option.some.injEq, exists_eq_left', exists_eq_left, exists_and_left, exists_and_right, Option.join_some, Option.join_none, Sl.v.injEq, Sl.o.injEq, PyData.int.injEq, PyData.bool.injEq, PyData.str.injEq, PyData.tuple.injEq, PyData.list.injEq, List.cons.injEq, and_true, true_and, Nat.reduceLT, Nat.reduceLeDiff, exists_const, decide_eq_true_eq, Int.reduceLT, Int.reduceLE, Int.reduceNeg, Int.reducePow, Bool.not_eq_true', decide_eq_false_iff_not, and_assoc, or_true, true_or, ↓reduceIte, if_true, if_false, Bool.false_eq_true, Bool.true_eq_false, not_true_eq_false, not_false_eq_true, Bool.not_true, Bool.not_false, ite_true, ite_false, eq_self, exists_eq, reduceCtorEq, false_and, and_false, or_false, false_or, exists_false, Option.map_some, Option.map_none, scalD, List.all_cons, List.all_nil, List.any_cons, List.any_nil, Bool.and_true, Bool.or_false, Bool.true_and, Bool.false_or, atI_c0, atI_c1, atI_c2, atI_c3, atI_c4, eqv_str, eqv_int, eqv_bool, beq_self_eq_true, shp_int, shp_bl, shp_non, Shp, sizeLine_eq]
    refine fun y m n D y' m' n' D' => order_t' D D' ?_
    rw [ord3_eqv, if_neg (by decide)]
    refine ⟨ord3_shp _ _, ord3_shp _ _, fun y m n D y' m' n' D' => order_s' D D' a0 ta b0 tb ?_⟩
    rw [ord3_eqv, if_neg (by decide)]
    refine ⟨ord3_shp _ _, ord3_shp _ _, fun i δ => ∃ o1 o2 o3 o4 o5 o6, δ = [some (Sl.v (.int a)), some (Sl.v (.int b)), o1, o2, o3, o4, o5, o6], ⟨_, _, _, _, _, _, rfl⟩, ?_, ?_⟩
    · rintro i x δ hx ⟨o1, o2, o3, o4, o5, o6, rfl⟩
      obtain ⟨d, rfl, d0, d1⟩ : ∃ d : Int, x = .int d ∧ 0 ≤ d ∧ d ≤ 99998 := by
        match i, hx with
        | 0, hx => cases hx; exact ⟨a, rfl, a0, a1⟩
        | 1, hx => cases hx; exact ⟨b, rfl, b0, b1⟩
        | k + 2, hx => simp at hx
      have td : d < ystart 10000 := by omega
      have td1 : d + 1 < ystart 10000 := by omega
      have d01 : 0 ≤ d + 1 := by omega
      simp only [dateof_iff, show_iff, dayof_iff, d0, td, td1, d01, ↓lz_w, ↓lz_wN, ↓lz_v0, ↓lz_vS, ↓lz_vE, ↓lz_vN, ↓lz_o0, ↓lz_oS, ↓lz_oE, ↓lz_oN, ↓lz_b, ↓lz_i, ↓lz_s, ↓lz_t, ↓lz_l, ↓lz_ii, ↓lz_ss, ↓lz_tt, ↓lz_ll, ↓lz_cons, ↓lz_two, ↓lz_tt0, ↓lz_tt1, ↓lz_tt2, ↓lz_tt3, ↓lz_ll0, ↓lz_ll1, ↓lz_ll2, ↓lz_tix, ↓lz_lix, dSeq, dNext, dIfS, dRet, dRetO, dDrop, dSet, dNew, dApp, dAsg, dPar, dFrz, dVar, dOwn, dC, dOp, dI, dIC, dEq, dNe, dIn, dIxL, dIxT, dIxS, dAddS, dCatT, dCat, dL, dFin, dTup, dLst, dNil, dCons, dTest, dAnd, dOr, dNot, dAndV, dOrV, dNotV, dIf, dChain, dCall, dCallS, dCallN, wq_paper_happens, wq_paper_rule, wq_paper_end, wq_paper_hold, wq_paper_lift, wq_paper_leave, wq_happens_paper, wq_happens_rule, wq_happens_end, wq_happens_hold, wq_happens_lift, wq_happens_leave, wq_rule_paper, wq_rule_happens, wq_rule_end, wq_rule_hold, wq_rule_lift, wq_rule_leave, wq_end_paper, wq_end_happens, wq_end_rule, wq_end_hold, wq_end_lift, wq_end_leave, wq_hold_paper, wq_hold_happens, wq_hold_rule, wq_hold_end, wq_hold_lift, wq_hold_leave, wq_lift_paper, wq_lift_happens, wq_lift_rule, wq_lift_end, wq_lift_hold, wq_lift_leave, wq_leave_paper, wq_leave_happens, wq_leave_rule, wq_leave_end, wq_leave_hold, wq_leave_lift, dRep2, dSlL, dSlT, dSlS, dLits, dSel, dRev, dNoPart, dPart, dLen, dLenS, dTupOf, dAny, dTwo, dIsin, dJoin, dInt, dListOf, dYes, dComp, dCompT, dCompR, dFor, dForT, dForR, dForR2, dForI, dForTI, dForRI, dForR2I, dSlX, dDct0, dNeg, dUpper, dRevT, dRepT, cD_nm1, dInX, dLenT, dLtS, dInS, dEqZ, dInZ, dSortS, dCompSI, dCompR2I, dStrI, dIntT, dZfill, dSplit, dJs, dNever, dLtU, take_iff, cD_1n, cD_2n, cD_3n, cD_4n, cD_n1, cD_n2, cD_n3, cD_n4, cD_13, ne_eq, thing_str, thing_int, thing_bool, thing_tup, thing_list, strsE1, strsE2, strsE3, dCompI, dCompTI, dCompRI, dgName, dgTup, dgCons, dgNil, forW, startD, dst0, CDiv, CPow, CMul, List.map_cons, List.map_nil, List.length_cons, List.length_nil, List.replicate, List.cons_append, List.nil_append, List.append_nil, Nat.reduceAdd, Nat.reduceSub, Nat.add_zero, Nat.zero_add, Nat.sub_self, List.getElem?_cons_zero, List.getElem?_cons_succ, List.getElem?_nil, List.set_cons_zero, List.set_cons_succ, Option.some.injEq, exists_eq_left', exists_eq_left, exists_and_left, exists_and_right, Option.join_some, Option.join_none, Sl.v.injEq, Sl.o.injEq, PyData.int.injEq, PyData.bool.injEq, PyData.str.injEq, PyData.tuple.injEq, PyData.list.injEq, List.cons.injEq, and_true, true_and, Nat.reduceLT, Nat.reduceLeDiff, exists_const, decide_eq_true_eq, Int.reduceLT, Int.reduceLE, Int.reduceNeg, Int.reducePow, Bool.not_eq_true', decide_eq_false_iff_not, and_assoc, or_true, true_or, ↓reduceIte, if_true, if_false, Bool.false_eq_true, Bool.true_eq_false, not_true_eq_false, not_false_eq_true, Bool.not_true, Bool.not_false, ite_true, ite_false, eq_self, exists_eq, reduceCtorEq, false_and, and_false, or_false, false_or, exists_false, Option.map_some, Option.map_none, scalD, List.all_cons, List.all_nil, List.any_cons, List.any_nil, Bool.and_true, Bool.or_false, Bool.true_and, Bool.false_or, atI_c0, atI_c1, atI_c2, atI_c3, atI_c4, eqv_str, eqv_int, eqv_bool, beq_self_eq_true, shp_int, shp_bl, shp_non, Shp, sizeLine_eq]
      clear Da Db ta tb D D' hx
      intro y m n D
      have yb := year_bd D d0 td
      have hD : Dat y m n := ⟨yb.1, yb.2, D.m1, D.m12, D.n1, D.nl⟩
      refine ⟨hD, ?_⟩
      rw [if_neg (by rw [D.eq]; simp)]
      intro y1 m1 n1 D1
      obtain ⟨rfl, rfl, rfl⟩ := D.uniq D1
      refine read_iff ⟨hD, by rw [D.eq]; exact d0, by rw [D.eq]; omega, rfl, ?_⟩
      rw [D.eq, if_neg (by rw [eqv_int]; simp)]
      intro y2 m2 n2 D2
      refine ⟨rfl, rfl, ?_⟩
      rw [eqv3, eqv3, eqv3]
      rcases next_date D D2 with ⟨rfl, rfl, rfl⟩ | ⟨rfl, rfl, rfl, h28⟩ | ⟨rfl, rfl, rfl, h28, rfl⟩
      · rw [if_neg (by simp)]
        have := D.n1
        split
        · rw [if_neg (by simp), if_neg (by simp; omega)]; exact ⟨_, rfl⟩
        · rw [if_neg (by simp; omega)]; exact ⟨_, rfl⟩
      · rw [if_neg (by simp), if_neg (by omega), if_pos (by simp), if_neg (by omega)]; exact ⟨_, rfl⟩
      · rw [if_neg (by simp), if_neg (by omega), if_pos (by simp), if_pos (by omega), if_neg (by simp)]; exact ⟨_, rfl⟩
    · rintro δ ⟨o1, o2, o3, o4, o5, o6, rfl⟩
      walk_at "rz"
      exact q
def F_on : List PyData → (PyData → Prop) → Prop := fun ds Q => ∃ (a b x y z : Int) (u : Str), ds = [.int a, .int b, .tuple [.int x, .int y, .int z], .str u] ∧ 0 ≤ x ∧ 0 ≤ y ∧ Unit3 u ∧ Q (.bool true)
theorem ok_on (T : Txt K mg t) : FnOk P w K mg base CX0 6 t.a__law_goes_on t.d__law_goes_on ["_law_one", "_law_other", "_law_numbers", "_law_unit"] (spD K F_on) := by
  have G_later := okd_later (P := P) (w := w) (base := base) T
  refine T.F__law_goes_on.okD sc__law_goes_on (fun ds Q h => ?_) (fun cdv A outer s H O ds Q E hr h => ?_)
  · obtain ⟨a, b, x, y, z, u, rfl, _⟩ := h; rfl
  · obtain ⟨a, b, x, y, z, u, rfl, x0, y0, hu, q⟩ := h
    refine' ⟨_, ?body, ?read⟩
    case body =>
      refine' dss_cons ?s1 ?r1
      case s1 =>
        exact (ds_asg (dv 2) (pg_tup (n := 3) rfl (pgs_cons (pg_name (i := 4) sc__law_goes_on.nd rfl (by first | exact Or.inl rfl | exact Or.inr rfl)) (pgs_cons (pg_name (i := 5) sc__law_goes_on.nd rfl (by first | exact Or.inl rfl | exact Or.inr rfl)) (pgs_cons (pg_name (i := 6) sc__law_goes_on.nd rfl (by first | exact Or.inl rfl | exact Or.inr rfl)) pgs_nil)))) (gd_tup (gds_cons gd_name (gds_cons gd_name (gds_cons gd_name gds_nil)))))
      case r1 =>
        refine' dss_cons ?s3 ?r3
        case s3 =>
          refine' ds_if ?c4 ?a4 ?b4
          case c4 => exact (dt_cmp op_gt od_bl (df (dv 0)) (df (dv 1)) (nomark _))
          case a4 =>
            refine' dss_one ?s5
            case s5 =>
              exact (ds_par (i := 0) (j := 1) rfl sc__law_goes_on.nd rfl rfl (by decide) rfl rfl (da_cons (dv 1) (da_cons (dv 0) da_nil)) (by rfl))
          case b4 =>
            exact dss_nil
        case r3 =>
          refine' dss_cons ?s7 ?r7
          case s7 =>
            refine' ds_if ?c8 ?a8 ?b8
            case c8 => exact (PW.pt (dw_or (dt_cmp op_gt od_bl (df (PE.imp (pe_call G_later (hr.mono (by decide)) rfl T.m_later T.F_later.kp T.b_later .nil pass0 (da_cons (dv 0) (da_cons (dv 6) (da_cons (dv 3) da_nil)))) dcall)) (df (PE.imp (pe_call G_later (hr.mono (by decide)) rfl T.m_later T.F_later.kp T.b_later .nil pass0 (da_cons (dv 1) (da_cons (dv 6) (da_cons (dv 3) da_nil)))) dcall)) (nomark _)) (dw_or1 (dt_cmp (op_neX hr.units) od_ne (df (PE.imp (pe_call G_later (hr.mono (by decide)) rfl T.m_later T.F_later.kp T.b_later .nil pass0 (da_cons (dv 0) (da_cons de_int (da_cons (dv 3) da_nil)))) dcall)) (df (dv 0)) (nomark _)))))
            case a8 =>
              refine' dss_one ?s9
              case s9 =>
                exact (ds_ret de_bl)
            case b8 =>
              exact dss_nil
          case r7 =>
            refine' dss_cons ?s11 ?r11
            case s11 =>
              refine' ds_set (i := 7) sc__law_goes_on.nd rfl (by first | exact Or.inl rfl | exact Or.inr rfl) ?e12 (hs := swaps_Call)
              case e12 =>
                exact (PE.imp (pe_call G_later (hr.mono (by decide)) rfl T.m_later T.F_later.kp T.b_later .nil pass0 (da_cons (dv 0) (da_cons (de_op op_add od_int (df (dv 4)) (df (dv 5))) (da_cons (dv 3) da_nil)))) dcall)
            case r11 =>
              refine' dss_cons ?s14 ?r14
              case s14 =>
                refine' ds_for PassesOwn.never rfl (fe (fe_lst (da_cons (de_tup (da_cons (dv 4) (da_cons (dv 5) da_nil))) (da_cons (de_tup (da_cons (dv 5) (da_cons (dv 4) da_nil))) da_nil)))) ?a15 gd_name ?b15
                case a15 => exact (pg_name (i := 8) sc__law_goes_on.nd rfl (by first | exact Or.inl rfl | exact Or.inr rfl))
                case b15 =>
                  refine' dss_cons ?s16 ?r16
                  case s16 =>
                    refine' ds_set (i := 9) sc__law_goes_on.nd rfl (by first | exact Or.inl rfl | exact Or.inr rfl) ?e17 (hs := swaps_BinOp)
                    case e17 =>
                      exact (de_op op_sub od_int (df (dv 7)) (df (PE.imp (pe_call G_later (hr.mono (by decide)) rfl T.m_later T.F_later.kp T.b_later .nil pass0 (da_cons (PE.imp (pe_call G_later (hr.mono (by decide)) rfl T.m_later T.F_later.kp T.b_later .nil pass0 (da_cons (dv 0) (da_cons (de_ix ix_tup od_ixT (df (dv 8)) (df de_int)) (da_cons (dv 3) da_nil)))) dcall) (da_cons (de_ix ix_tup od_ixT (df (dv 8)) (df de_int)) (da_cons (dv 3) da_nil)))) dcall)))
                  case r16 =>
                    refine' dss_one ?s19
                    case s19 =>
                      refine' ds_if ?c20 ?a20 ?b20
                      case c20 => exact (dt_not (dt_chain op_le op_le od_bl od_bl (df de_int) (df (dv 9)) (df (de_op op_mul od_intC (df de_int) (df (PE.imp (pe_callTy call_int1 rfl T.n_int bt_int (db_cons (df (de_cmp (op_neX hr.units) od_ne (df (dv 3)) (df de_str) (nomark _))) db_nil)) (dcb cd_int)))))))
                      case a20 =>
                        refine' dss_one ?s21
                        case s21 =>
                          exact (ds_ret de_bl)
                      case b20 =>
                        exact dss_nil
              case r14 =>
                refine' dss_one ?s23
                case s23 =>
                  refine' ds_ret ?e24
                  case e24 =>
                    exact (de_cmp op_le od_bl (df (PE.imp (pe_call G_later (hr.mono (by decide)) rfl T.m_later T.F_later.kp T.b_later .nil pass0 (da_cons (dv 0) (da_cons (dv 4) (da_cons (dv 3) da_nil)))) dcall)) (df (dv 7)) (nomark _))
    case read =>
    walk_at "rz"
    simp only [later_iff, hu, ↓lz_w, ↓lz_wN, ↓lz_v0, ↓lz_vS, ↓lz_vE, ↓lz_vN, ↓lz_o0, ↓lz_oS, ↓lz_oE, ↓lz_oN, ↓lz_b, ↓lz_i, ↓lz_s, ↓lz_t, ↓lz_l, ↓lz_ii, ↓lz_ss, ↓lz_tt, ↓lz_ll, ↓lz_cons, ↓lz_two, ↓lz_tt0, ↓lz_tt1, ↓lz_tt2, ↓lz_tt3, ↓lz_ll0, ↓lz_ll1, ↓lz_ll2, ↓lz_tix, ↓lz_lix, dSeq, dNext, dIfS, dRet, dRetO, dDrop, dSet, dNew, dApp, dAsg, dPar, dFrz, dVar, dOwn, dC, dOp, dI, dIC, dEq, dNe, dIn, dIxL, dIxT, dIxS, dAddS, dCatT, dCat, dL, dFin, dTup, dLst, dNil, dCons, dTest, dAnd, dOr, dNot, dAndV, dOrV, dNotV, dIf, dChain, dCall, dCallS, dCallN, wq_paper_happens, wq_paper_rule, wq_paper_end, wq_paper_hold, wq_paper_lift, wq_paper_leave, wq_happens_paper, wq_happens_rule, wq_happens_end, wq_happens_hold, wq_happens_lift, wq_happens_leave, wq_rule_paper, wq_rule_happens, wq_rule_end, wq_rule_hold, wq_rule_lift, wq_rule_leave, wq_end_paper, wq_end_happens, wq_end_rule, wq_end_hold, wq_end_lift, wq_end_leave, wq_hold_paper, wq_hold_happens, wq_hold_rule, wq_hold_end, wq_hold_lift, wq_hold_leave, wq_lift_paper, wq_lift_happens, wq_lift_rule, wq_lift_end, wq_lift_hold, wq_lift_leave, wq_leave_paper, wq_leave_happens, wq_leave_rule, wq_leave_end, wq_leave_hold, wq_leave_lift, dRep2, dSlL, dSlT, dSlS, dLits, dSel, dRev, dNoPart, dPart, dLen, dLenS, dTupOf, dAny, dTwo, dIsin, dJoin, dInt, dListOf, dYes, dComp, dCompT, dCompR, dFor, dForT, dForR, dForR2, dForI, dForTI, dForRI, dForR2I, dSlX, dDct0, dNeg, dUpper, dRevT, dRepT, cD_nm1, dInX, dLenT, dLtS, dInS, dEqZ, dInZ, dSortS, dCompSI, dCompR2I, dStrI, dIntT, dZfill, dSplit, dJs, dNever, dLtU, take_iff, cD_1n, cD_2n, cD_3n, cD_4n, cD_n1, cD_n2, cD_n3, cD_n4, cD_13, ne_eq, thing_str, thing_int, thing_bool, thing_tup, thing_list, strsE1, strsE2, strsE3, dCompI, dCompTI, dCompRI, dgName, dgTup, dgCons, dgNil, forW, startD, dst0, CDiv, CPow, CMul, List.map_cons, List.map_nil, List.length_cons, List.length_nil, List.replicate, List.cons_append, List.nil_append, List.append_nil, Nat.reduceAdd, Nat.reduceSub, Nat.add_zero, Nat.zero_add, Nat.sub_self, List.getElem?_cons_zero, List.getElem?_cons_succ, List.getElem?_nil, List.set_cons_zero, List.set_cons_succ, Option.some.injEq, exists_eq_left', exists_eq_left, exists_and_left, exists_and_right, Option.join_some, Option.join_none, Sl.v.injEq, Sl.o.injEq, PyData.int.injEq, PyData.bool.injEq, PyData.str.injEq, PyData.tuple.injEq, PyData.list.injEq, List.cons.injEq, and_true, true_and, Nat.reduceLT, Nat.reduceLeDiff, exists_const, decide_eq_true_eq, Int.reduceLT, Int.reduceLE, Int.reduceNeg, Int.reducePow, Bool.not_eq_true', decide_eq_false_iff_not, and_assoc, or_true, true_or, ↓reduceIte, if_true, if_false, Bool.false_eq_true, Bool.true_eq_false, not_true_eq_false, not_false_eq_true, Bool.not_true, Bool.not_false, ite_true, ite_false, eq_self, exists_eq, reduceCtorEq, false_and, and_false, or_false, false_or, exists_false, Option.map_some, Option.map_none, scalD, List.all_cons, List.all_nil, List.any_cons, List.any_nil, Bool.and_true, Bool.or_false, Bool.true_and, Bool.false_or, atI_c0, atI_c1, atI_c2, atI_c3, atI_c4, eqv_str, eqv_int, eqv_bool, beq_self_eq_true, shp_int, shp_bl, shp_non, Shp, sizeLine_eq]
    have us : SeqAt.shaped (.str u) = true := by rcases hu with rfl | rfl | rfl <;> decide +kernel
    have ds : SeqAt.shaped (.str (Str.ofString "days")) = true := by decide +kernel
    have key : ∀ a b : Int, a ≤ b → ∀ r, LaterIs a z u r → ∀ r_1, LaterIs b z u r_1 → if r_1 < r then Q (.bool false) else ∀ r, LaterIs a 0 u r → if (r == a) = false then Q (.bool false) else ∀ r, LaterIs a (x + y) u r →
        ∀ r_2, LaterIs a x u r_2 → ∀ r_3, LaterIs r_2 y u r_3 → if 0 ≤ r - r_3 then SeqAt.shaped (.str u) = true ∧ SeqAt.shaped (.str (Str.ofString "days")) = true ∧ if ¬ r - r_3 ≤ 3 * (if (u == Str.ofString "days") = false then 1 else 0) then Q (.bool false) else
          ∀ r_4, LaterIs a y u r_4 → ∀ r_5, LaterIs r_4 x u r_5 → if 0 ≤ r - r_5 then SeqAt.shaped (.str u) = true ∧ SeqAt.shaped (.str (Str.ofString "days")) = true ∧ if ¬ r - r_5 ≤ 3 * (if (u == Str.ofString "days") = false then 1 else 0) then Q (.bool false) else
            ∀ r_6, LaterIs a x u r_6 → Q (.bool (decide (r_6 ≤ r))) else Q (.bool false) else Q (.bool false) := by
      intro a b le r h r1 h1
      rw [if_neg (by have := later_mono le h h1; omega)]
      intro r0 h0
      rw [if_neg (by rw [later_zero h0]; simp)]
      intro rb hb r2 h2 r3 h3
      have t1 := later_two hb h2 h3
      rw [if_pos t1.1]
      refine ⟨us, ds, ?_⟩
      rw [if_neg (fun z => z t1.2)]
      intro r4 h4 r5 h5
      have t2 := later_two (x := y) (y := x) (by rw [Int.add_comm]; exact hb) h4 h5
      rw [if_pos t2.1]
      refine ⟨us, ds, ?_⟩
      rw [if_neg (fun z => z t2.2)]
      intro r6 h6
      rw [decide_eq_true (later_up y0 hb h6)]; exact q
    split
    · exact key b a (by omega)
    · exact key a b (by omega)
def F_sizes : List PyData → (PyData → Prop) → Prop := fun ds Q => ∃ a : Int, ds = [.int a] ∧ Q (.bool true)
theorem ok_sizes (T : Txt K mg t) : FnOk P w K mg base CX0 6 t.a__law_sizes_right t.d__law_sizes_right ["_law_day"] (spD K F_sizes) := by
  have G_later := okd_later (P := P) (w := w) (base := base) T
  refine T.F__law_sizes_right.okD sc__law_sizes_right (fun ds Q h => ?_) (fun cdv A outer s H O ds Q E hr h => ?_)
  · obtain ⟨a, rfl, _⟩ := h; rfl
  · obtain ⟨a, rfl, q⟩ := h
    refine' ⟨_, ?body, ?read⟩
    case body =>
      refine' dss_cons ?s1 ?r1
      case s1 =>
        refine' ds_if ?c2 ?a2 ?b2
        case c2 => exact (PW.pt (dw_or (dt_not (dt_chain op_le op_le od_bl od_bl (df de_int) (df (de_op op_sub od_int (df (PE.imp (pe_call G_later (hr.mono (by decide)) rfl T.m_later T.F_later.kp T.b_later .nil pass0 (da_cons (dv 0) (da_cons de_int (da_cons de_str da_nil)))) dcall)) (df (dv 0)))) (df de_int))) (dw_or1 (dt_cmp (op_notInX hr) od_inX (df (de_op op_sub od_int (df (PE.imp (pe_call G_later (hr.mono (by decide)) rfl T.m_later T.F_later.kp T.b_later .nil pass0 (da_cons (dv 0) (da_cons de_int (da_cons de_str da_nil)))) dcall)) (df (dv 0)))) (df (fe (fe_lst (da_cons de_int (da_cons de_int da_nil))))) rfl))))
        case a2 =>
          refine' dss_one ?s3
          case s3 =>
            exact (ds_ret de_bl)
        case b2 =>
          exact dss_nil
      case r1 =>
        refine' dss_one ?s5
        case s5 =>
          refine' ds_ret ?e6
          case e6 =>
            exact (de_and (de_cmp (op_eqX hr.units) od_eq (df (de_op op_sub od_int (df (PE.imp (pe_call G_later (hr.mono (by decide)) rfl T.m_later T.F_later.kp T.b_later .nil pass0 (da_cons (dv 0) (da_cons de_int (da_cons de_str da_nil)))) dcall)) (df (dv 0)))) (df de_int) (nomark _)) (de_one (de_cmp (op_eqX hr.units) od_eq (df (de_op op_sub od_int (df (PE.imp (pe_call G_later (hr.mono (by decide)) rfl T.m_later T.F_later.kp T.b_later .nil pass0 (da_cons (dv 0) (da_cons de_int (da_cons de_str da_nil)))) dcall)) (df (dv 0)))) (df de_int) (nomark _))))
    case read =>
    walk_at "rz"
    simp only [later_iff, u3m, u3y, u3d, ↓lz_w, ↓lz_wN, ↓lz_v0, ↓lz_vS, ↓lz_vE, ↓lz_vN, ↓lz_o0, ↓lz_oS, ↓lz_oE, ↓lz_oN, ↓lz_b, ↓lz_i, ↓lz_s, ↓lz_t, ↓lz_l, ↓lz_ii, ↓lz_ss, ↓lz_tt, ↓lz_ll, ↓lz_cons, ↓lz_two, ↓lz_tt0, ↓lz_tt1, ↓lz_tt2, ↓lz_tt3, ↓lz_ll0, ↓lz_ll1, ↓lz_ll2, ↓lz_tix, ↓lz_lix, dSeq, dNext, dIfS, dRet, dRetO, dDrop, dSet, dNew, dApp, dAsg, dPar, dFrz, dVar, dOwn, dC, dOp, dI, dIC, dEq, dNe, dIn, dIxL, dIxT, dIxS, dAddS, dCatT, dCat, dL, dFin, dTup, dLst, dNil, dCons, dTest, dAnd, dOr, dNot, dAndV, dOrV, dNotV, dIf, dChain, dCall, dCallS, dCallN, wq_paper_happens, wq_paper_rule, wq_paper_end, wq_paper_hold, wq_paper_lift, wq_paper_leave, wq_happens_paper, wq_happens_rule, wq_happens_end, wq_happens_hold, wq_happens_lift, wq_happens_leave, wq_rule_paper, wq_rule_happens, wq_rule_end, wq_rule_hold, wq_rule_lift, wq_rule_leave, wq_end_paper, wq_end_happens, wq_end_rule, wq_end_hold, wq_end_lift, wq_end_leave, wq_hold_paper, wq_hold_happens, wq_hold_rule, wq_hold_end, wq_hold_lift, wq_hold_leave, wq_lift_paper, wq_lift_happens, wq_lift_rule, wq_lift_end, wq_lift_hold, wq_lift_leave, wq_leave_paper, wq_leave_happens, wq_leave_rule, wq_leave_end, wq_leave_hold, wq_leave_lift, dRep2, dSlL, dSlT, dSlS, dLits, dSel, dRev, dNoPart, dPart, dLen, dLenS, dTupOf, dAny, dTwo, dIsin, dJoin, dInt, dListOf, dYes, dComp, dCompT, dCompR, dFor, dForT, dForR, dForR2, dForI, dForTI, dForRI, dForR2I, dSlX, dDct0, dNeg, dUpper, dRevT, dRepT, cD_nm1, dInX, dLenT, dLtS, dInS, dEqZ, dInZ, dSortS, dCompSI, dCompR2I, dStrI, dIntT, dZfill, dSplit, dJs, dNever, dLtU, take_iff, cD_1n, cD_2n, cD_3n, cD_4n, cD_n1, cD_n2, cD_n3, cD_n4, cD_13, ne_eq, thing_str, thing_int, thing_bool, thing_tup, thing_list, strsE1, strsE2, strsE3, dCompI, dCompTI, dCompRI, dgName, dgTup, dgCons, dgNil, forW, startD, dst0, CDiv, CPow, CMul, List.map_cons, List.map_nil, List.length_cons, List.length_nil, List.replicate, List.cons_append, List.nil_append, List.append_nil, Nat.reduceAdd, Nat.reduceSub, Nat.add_zero, Nat.zero_add, Nat.sub_self, List.getElem?_cons_zero, List.getElem?_cons_succ, List.getElem?_nil, List.set_cons_zero, List.set_cons_succ, Option.some.injEq, exists_eq_left', exists_eq_left, exists_and_left, exists_and_right, Option.join_some, Option.join_none, Sl.v.injEq, Sl.o.injEq, PyData.int.injEq, PyData.bool.injEq, PyData.str.injEq, PyData.tuple.injEq, PyData.list.injEq, List.cons.injEq, and_true, true_and, Nat.reduceLT, Nat.reduceLeDiff, exists_const, decide_eq_true_eq, Int.reduceLT, Int.reduceLE, Int.reduceNeg, Int.reducePow, Bool.not_eq_true', decide_eq_false_iff_not, and_assoc, or_true, true_or, ↓reduceIte, if_true, if_false, Bool.false_eq_true, Bool.true_eq_false, not_true_eq_false, not_false_eq_true, Bool.not_true, Bool.not_false, ite_true, ite_false, eq_self, exists_eq, reduceCtorEq, false_and, and_false, or_false, false_or, exists_false, Option.map_some, Option.map_none, scalD, List.all_cons, List.all_nil, List.any_cons, List.any_nil, Bool.and_true, Bool.or_false, Bool.true_and, Bool.false_or, atI_c0, atI_c1, atI_c2, atI_c3, atI_c4, eqv_str, eqv_int, eqv_bool, beq_self_eq_true, shp_int, shp_bl, shp_non, Shp, sizeLine_eq]
    intro r h
    have e := later_m1 h
    rw [if_pos e.1, if_neg (fun z => z e.2)]
    intro r h
    have e := later_y1 h
    refine ⟨by decide, ?_⟩
    rw [if_neg (by rcases e with e | e <;> rw [e] <;> decide)]
    intro r h
    rw [if_pos (by rw [later_y400 h]; decide)]
    intro r h
    rw [show (r - a == 999) = true by rw [later_d h]; simp; omega]; exact q
end
end K04

open PySem L2

namespace K04
open Day
section
variable {P : Program} {w : World} {K : PySem.W.Frag} {mg : Str → Option Value} {base : Heap} {t : Adr}
theorem near_iff {Q : PyData → Prop} : F_near [packD] Q ↔ ∀ d : Int, 0 ≤ d → d ≤ 99999 → Q (.int d) := ⟨fun ⟨_, h⟩ => h, fun h => ⟨rfl, h⟩⟩
theorem same_iff {a b : Int} {Q : PyData → Prop} : F_same [.int a, .int b] Q ↔ 0 ≤ a ∧ a ≤ 99998 ∧ 0 ≤ b ∧ b ≤ 99998 ∧ Q (.bool true) := ⟨fun ⟨_, _, e, h⟩ => by cases e; exact h, fun h => ⟨_, _, rfl, h⟩⟩
theorem on_iff {a b x y z : Int} {u : Str} {Q : PyData → Prop} : F_on [.int a, .int b, .tuple [.int x, .int y, .int z], .str u] Q ↔ 0 ≤ x ∧ 0 ≤ y ∧ Unit3 u ∧ Q (.bool true) := ⟨fun ⟨_, _, _, _, _, _, e, h⟩ => by cases e; exact h, fun h => ⟨_, _, _, _, _, _, rfl, h⟩⟩
theorem sizes_iff {a : Int} {Q : PyData → Prop} : F_sizes [.int a] Q ↔ Q (.bool true) := ⟨fun ⟨_, e, h⟩ => by cases e; exact h, fun h => ⟨_, rfl, h⟩⟩
theorem last_key {d y m k r : Int} (D : DateOf d y m 31) (hm : mlen y m = 31) (h : LaterIs d k (Str.ofString "months") r) (y0 : 2000 ≤ y) (y1 : y ≤ 2272) (k0 : 0 ≤ k) (k1 : k < 1000) : ∃ N, InM (r + 1) N 1 ∧ 0 ≤ r + 1 ∧ r + 1 < ystart 10000 := by
  rcases h.cases with ⟨hu, _⟩ | ⟨_, M, n, I, e⟩
  · exact absurd hu ndm
  · obtain ⟨e1, e2⟩ := D.inM.uniq I
    subst e2
    rw [show cf (Str.ofString "months") = 1 by unfold cf; rw [if_neg nmy], Int.mul_one] at e
    have a1 := D.m1; have a2 := D.m12
    have hM : lenM M = 31 := by
      unfold lenM
      rw [← e1, show (y * 12 + m - 1) / 12 = y by omega, show (y * 12 + m - 1) % 12 + 1 = m by omega]; exact hm
    have L := addM_last (M := M) (k := k) hM
    rw [← e] at L
    refine ⟨_, L, ?_⟩
    have q := L.eq
    unfold Dn at q
    have f0 : fst 24000 = 0 := by decide
    have f1 : fst 120000 = ystart 10000 := by decide
    have g0 := fst_lt (M := 24000) (N := M + k + 1) (by omega)
    have g1 := fst_lt (M := M + k + 1) (N := 120000) (by omega)
    have l0 := lenM_bd 24000; have l1 := lenM_bd (M + k + 1)
    omega
def F_law : List PyData → (PyData → Prop) → Prop := fun ds Q => ∃ ns : List Int, ds = [scrD (ns.map .int)] ∧ ns.length ≤ 63 ∧ (∀ z ∈ ns, Builtin.Int.intBits z ≤ 1048576) ∧ Q (.bool true)
def sp_law (K : PySem.W.Frag) : Sp := spD K F_law
theorem start_law {K : PySem.W.Frag} {H : Hp} {a : Addr} {ns : List Int} (hl : ns.length ≤ 63) (hb : ∀ z ∈ ns, Builtin.Int.intBits z ≤ 1048576) (hS : SqL K H a (ns.map V.int)) : sp_law K [.ref a] H (fun v _ => v = .bl true) fun _ _ _ => False :=
  ⟨fun _ => False, [scrD (ns.map .int)], fun d => d = .bool true, fun _ z => z.elim, .cons (.scr (by
    rcases hS with h | h
    · exact .inl ⟨h, fun z => z⟩
    · exact .inr (.inr h)) (Dts.ints ns)) .nil, ⟨ns, rfl, hl, hb, rfl⟩, fun d v H' e _ r => by subst e; cases r; rfl⟩
theorem ok_law (T : Txt K mg t) : FnOk P w K mg base CX0 7 t.a_law t.d_law ["_law_script"] (sp_law K) := by
  have G__law_pack := ok_pack (P := P) (w := w) (base := base) T
  have G__law_take := ok_take (P := P) (w := w) (base := base) T
  have G__law_near := ok_near (P := P) (w := w) (base := base) T
  have G__law_same_way := ok_same (P := P) (w := w) (base := base) T
  have G__law_goes_on := ok_on (P := P) (w := w) (base := base) T
  have G__law_sizes_right := ok_sizes (P := P) (w := w) (base := base) T
  have G_day_of := ok_dayof (P := P) (w := w) (base := base) T
  have G_date_of := ok_dateof (P := P) (w := w) (base := base) T
  have G_later := okd_later (P := P) (w := w) (base := base) T
  refine T.F_law.okD sc_law (fun ds Q h => ?_) (fun cdv A outer s H O ds Q E hr h => ?_)
  · obtain ⟨ns, rfl, _⟩ := h; rfl
  · obtain ⟨ns, rfl, hl, hb, q⟩ := h
    refine' ⟨_, ?body, ?read⟩
    case body =>
      refine' dss_cons ?s1 ?r1
      case s1 =>
        refine' ds_forRI PassesOwn.never rfl rfl T.n_range (da_cons (PE.imp (pe_callB (call_max2 rfl) rfl T.n_max PyProof.Rows.boot_max (db_cons (df de_int) (db_cons (df (PE.imp (pe_callB (call_min2 rfl) rfl T.n_min PyProof.Rows.boot_min (db_cons (df (PE.imp (pe_callB call_len_seq rfl T.n_len PySem.boot_len (db_cons (df (dv 0)) db_nil)) (dcb cd_lenS))) (db_cons (df de_int) db_nil))) (dcb cd_two))) db_nil))) (dcb cd_two)) da_nil) ?a2 gd_name ?b2
        case a2 => exact (pg_name (i := 1) sc_law.nd rfl (by first | exact Or.inl rfl | exact Or.inr rfl))
        case b2 =>
          refine' dss_cons ?s3 ?r3
          case s3 =>
            exact (ds_set (i := 2) sc_law.nd rfl (by first | exact Or.inl rfl | exact Or.inr rfl) (PE.imp (pe_call G__law_pack (hr.mono (by decide)) rfl T.m__law_pack T.F__law_pack.kp T.b__law_pack .nil pass0 (da_cons (dv 0) (da_cons (dv 1) da_nil))) dcall))
          case r3 =>
            refine' dss_cons ?s5 ?r5
            case s5 =>
              exact (ds_set (i := 3) sc_law.nd rfl (by first | exact Or.inl rfl | exact Or.inr rfl) (PE.imp (pe_call G__law_near (hr.mono (by decide)) rfl T.m__law_near T.F__law_near.kp T.b__law_near .nil pass0 (da_cons (dv 2) da_nil)) dcall))
            case r5 =>
              refine' dss_cons ?s7 ?r7
              case s7 =>
                refine' ds_set (i := 4) sc_law.nd rfl (by first | exact Or.inl rfl | exact Or.inr rfl) ?e8 (hs := swaps_Subscript)
                case e8 =>
                  refine' de_ix ix_list od_ixL (df ?a9) ?b9
                  case a9 =>
                    refine' fe ?f10
                    case f10 =>
                      refine' fe_lst ?g11
                      case g11 =>
                        refine' da_cons ?u12 ?w12
                        case u12 =>
                          exact (PE.imp (pe_call G__law_near (hr.mono (by decide)) rfl T.m__law_near T.F__law_near.kp T.b__law_near .nil pass0 (da_cons (dv 2) da_nil)) dcall)
                        case w12 =>
                          refine' da_cons ?u14 ?w14
                          case u14 =>
                            exact (PE.imp (pe_callB (call_min2 rfl) rfl T.n_min PyProof.Rows.boot_min (db_cons (df de_int) (db_cons (df (de_op op_add od_int (df (dv 3)) (df (PE.imp (pe_call G__law_take (hr.mono (by decide)) rfl T.m__law_take T.F__law_take.kp T.b__law_take .nil pass0 (da_cons (dv 2) (da_cons de_int da_nil))) dcall)))) db_nil))) (dcb cd_two))
                          case w14 =>
                            exact da_nil
                  case b9 => exact (df (PE.imp (pe_call G__law_take (hr.mono (by decide)) rfl T.m__law_take T.F__law_take.kp T.b__law_take .nil pass0 (da_cons (dv 2) (da_cons de_int da_nil))) dcall))
              case r7 =>
                refine' dss_cons ?s17 ?r17
                case s17 =>
                  refine' ds_if ?c18 ?a18 ?b18
                  case c18 => exact (dt_not (dt_val (PE.imp (pe_call G__law_same_way (hr.mono (by decide)) rfl T.m__law_same_way T.F__law_same_way.kp T.b__law_same_way .nil pass0 (da_cons (PE.imp (pe_callB (call_min2 rfl) rfl T.n_min PyProof.Rows.boot_min (db_cons (df (dv 3)) (db_cons (df de_int) db_nil))) (dcb cd_two)) (da_cons (de_ifExp (dt_cmp op_lt od_bl (df (dv 4)) (df de_int) (nomark _)) (dv 4) de_int) da_nil))) dcall)))
                  case a18 =>
                    refine' dss_one ?s19
                    case s19 =>
                      exact (ds_ret de_bl)
                  case b18 =>
                    exact dss_nil
                case r17 =>
                  refine' dss_cons ?s21 ?r21
                  case s21 =>
                    refine' ds_set (i := 5) sc_law.nd rfl (by first | exact Or.inl rfl | exact Or.inr rfl) ?e22 (hs := swaps_Tuple)
                    case e22 =>
                      refine' de_tup ?t23
                      case t23 =>
                        refine' da_cons ?u24 ?w24
                        case u24 =>
                          exact (PE.imp (pe_call G__law_take (hr.mono (by decide)) rfl T.m__law_take T.F__law_take.kp T.b__law_take .nil pass0 (da_cons (dv 2) (da_cons de_int da_nil))) dcall)
                        case w24 =>
                          refine' da_cons ?u26 ?w26
                          case u26 =>
                            exact (PE.imp (pe_call G__law_take (hr.mono (by decide)) rfl T.m__law_take T.F__law_take.kp T.b__law_take .nil pass0 (da_cons (dv 2) (da_cons de_int da_nil))) dcall)
                          case w26 =>
                            refine' da_cons ?u28 ?w28
                            case u28 =>
                              exact (PE.imp (pe_call G__law_take (hr.mono (by decide)) rfl T.m__law_take T.F__law_take.kp T.b__law_take .nil pass0 (da_cons (dv 2) (da_cons de_int da_nil))) dcall)
                            case w28 =>
                              exact da_nil
                  case r21 =>
                    refine' dss_cons ?s31 ?r31
                    case s31 =>
                      refine' ds_for PassesOwn.never rfl (fe (fe_lst (da_lits (ds := [.str "days", .str "months", .str "years"]) (by rfl)))) ?a32 gd_name ?b32
                      case a32 => exact (pg_name (i := 6) sc_law.nd rfl (by first | exact Or.inl rfl | exact Or.inr rfl))
                      case b32 =>
                        refine' dss_one ?s33
                        case s33 =>
                          refine' ds_if ?c34 ?a34 ?b34
                          case c34 => exact (PW.pt (dw_or (dt_not (dt_val (PE.imp (pe_call G__law_goes_on (hr.mono (by decide)) rfl T.m__law_goes_on T.F__law_goes_on.kp T.b__law_goes_on .nil pass0 (da_cons (dv 3) (da_cons (dv 4) (da_cons (dv 5) (da_cons (dv 6) da_nil))))) dcall))) (dw_or1 (dt_not (dt_val (PE.imp (pe_call G__law_sizes_right (hr.mono (by decide)) rfl T.m__law_sizes_right T.F__law_sizes_right.kp T.b__law_sizes_right .nil pass0 (da_cons (dv 3) da_nil)) dcall))))))
                          case a34 =>
                            refine' dss_one ?s35
                            case s35 =>
                              exact (ds_ret de_bl)
                          case b34 =>
                            exact dss_nil
                    case r31 =>
                      refine' dss_cons ?s37 ?r37
                      case s37 =>
                        generalize hG38 : Expr.Call _ _ _ _ = eg38
                        refine' ds_set (i := 7) sc_law.nd rfl (by first | exact Or.inl rfl | exact Or.inr rfl) ?e38 (hs := by subst hG38; exact swaps_Call)
                        case e38 =>
                          subst hG38
                          exact (PE.imp (pe_call G_day_of (hr.mono (by decide)) rfl T.m_day_of T.F_day_of.kp T.b_day_of .nil pass0 (da_cons (de_op op_add od_int (df de_int) (df (PE.imp (pe_call G__law_take (hr.mono (by decide)) rfl T.m__law_take T.F__law_take.kp T.b__law_take .nil pass0 (da_cons (dv 2) (da_cons de_int da_nil))) dcall))) (da_cons (de_ix ix_list od_ixL (df (fe (fe_lst (da_lits (ds := [.int 1, .int 3, .int 5, .int 7, .int 8]) (by rfl))))) (df (PE.imp (pe_call G__law_take (hr.mono (by decide)) rfl T.m__law_take T.F__law_take.kp T.b__law_take .nil pass0 (da_cons (dv 2) (da_cons de_int da_nil))) dcall))) (da_cons de_int da_nil)))) dcall)
                      case r37 =>
                        refine' dss_cons ?s40 ?r40
                        case s40 =>
                          exact (ds_set (i := 8) sc_law.nd rfl (by first | exact Or.inl rfl | exact Or.inr rfl) (PE.imp (pe_call G_later (hr.mono (by decide)) rfl T.m_later T.F_later.kp T.b_later .nil pass0 (da_cons (dv 7) (da_cons (de_ix ix_tup od_ixT (df (dv 5)) (df de_int)) (da_cons de_str da_nil)))) dcall))
                        case r40 =>
                          refine' dss_one ?s42
                          case s42 =>
                            refine' ds_if ?c43 ?a43 ?b43
                            case c43 => exact (dt_cmp (op_neX hr.units) od_ne (df (de_ix ix_tup od_ixT (df (PE.imp (pe_call G_date_of (hr.mono (by decide)) rfl T.m_date_of T.F_date_of.kp T.b_date_of .nil pass0 (da_cons (de_op op_add od_int (df (dv 8)) (df de_int)) da_nil)) dcall)) (df de_int))) (df de_int) (nomark _))
                            case a43 =>
                              refine' dss_one ?s44
                              case s44 =>
                                exact (ds_ret de_bl)
                            case b43 =>
                              exact dss_nil
      case r1 =>
        refine' dss_one ?s46
        case s46 =>
          exact (ds_ret de_bl)
    case read =>
    clear G__law_pack G__law_take G__law_near G__law_same_way G__law_goes_on G__law_sizes_right G_day_of G_date_of G_later hr T
    walk_at "rz"
    refine ⟨_, rfl, ?_⟩
    rw [List.length_map]
    have hk1 : (1 : Int) ≤ (if (if 16 < (ns.length : Int) then 16 else (ns.length : Int)) > 1 then if 16 < (ns.length : Int) then 16 else (ns.length : Int) else 1) := by split <;> split <;> omega
    have hk2 : (if (if 16 < (ns.length : Int) then 16 else (ns.length : Int)) > 1 then if 16 < (ns.length : Int) then 16 else (ns.length : Int) else 1) ≤ 16 := by split <;> split <;> omega
    generalize (if (if 16 < (ns.length : Int) then 16 else (ns.length : Int)) > 1 then if 16 < (ns.length : Int) then 16 else (ns.length : Int) else 1) = kk at *
    refine ⟨by omega, by omega, fun i δ => ∃ o1 o2 o3 o4 o5 o6 o7 o8, δ = [some (Sl.v (scrD (ns.map .int))), o1, o2, o3, o4, o5, o6, o7, o8], ⟨_, _, _, _, _, _, _, _, rfl⟩, ?_, ?_⟩
    · rintro i x δ hx ⟨o1, o2, o3, o4, o5, o6, o7, o8, rfl⟩
      obtain ⟨hi, rfl⟩ := rangeD_at hx
      walk_at "rz"
      refine ⟨ns, _, rfl, hb, by omega, by omega, ?_⟩
      simp only [near_iff, same_iff, on_iff, sizes_iff, dayof_iff, later_iff, u3m, u3y, u3d, ↓lz_w, ↓lz_wN, ↓lz_v0, ↓lz_vS, ↓lz_vE, ↓lz_vN, ↓lz_o0, ↓lz_oS, ↓lz_oE, ↓lz_oN, ↓lz_b, ↓lz_i, ↓lz_s, ↓lz_t, ↓lz_l, ↓lz_ii, ↓lz_ss, ↓lz_tt, ↓lz_ll, ↓lz_cons, ↓lz_two, ↓lz_tt0, ↓lz_tt1, ↓lz_tt2, ↓lz_tt3, ↓lz_ll0, ↓lz_ll1, ↓lz_ll2, ↓lz_tix, ↓lz_lix, dSeq, dNext, dIfS, dRet, dRetO, dDrop, dSet, dNew, dApp, dAsg, dPar, dFrz, dVar, dOwn, dC, dOp, dI, dIC, dEq, dNe, dIn, dIxL, dIxT, dIxS, dAddS, dCatT, dCat, dL, dFin, dTup, dLst, dNil, dCons, dTest, dAnd, dOr, dNot, dAndV, dOrV, dNotV, dIf, dChain, dCall, dCallS, dCallN, wq_paper_happens, wq_paper_rule, wq_paper_end, wq_paper_hold, wq_paper_lift, wq_paper_leave, wq_happens_paper, wq_happens_rule, wq_happens_end, wq_happens_hold, wq_happens_lift, wq_happens_leave, wq_rule_paper, wq_rule_happens, wq_rule_end, wq_rule_hold, wq_rule_lift, wq_rule_leave, wq_end_paper, wq_end_happens, wq_end_rule, wq_end_hold, wq_end_lift, wq_end_leave, wq_hold_paper, wq_hold_happens, wq_hold_rule, wq_hold_end, wq_hold_lift, wq_hold_leave, wq_lift_paper, wq_lift_happens, wq_lift_rule, wq_lift_end, wq_lift_hold, wq_lift_leave, wq_leave_paper, wq_leave_happens, wq_leave_rule, wq_leave_end, wq_leave_hold, wq_leave_lift, dRep2, dSlL, dSlT, dSlS, dLits, dSel, dRev, dNoPart, dPart, dLen, dLenS, dTupOf, dAny, dTwo, dIsin, dJoin, dInt, dListOf, dYes, dComp, dCompT, dCompR, dFor, dForT, dForR, dForR2, dForI, dForTI, dForRI, dForR2I, dSlX, dDct0, dNeg, dUpper, dRevT, dRepT, cD_nm1, dInX, dLenT, dLtS, dInS, dEqZ, dInZ, dSortS, dCompSI, dCompR2I, dStrI, dIntT, dZfill, dSplit, dJs, dNever, dLtU, take_iff, cD_1n, cD_2n, cD_3n, cD_4n, cD_n1, cD_n2, cD_n3, cD_n4, cD_13, ne_eq, thing_str, thing_int, thing_bool, thing_tup, thing_list, strsE1, strsE2, strsE3, dCompI, dCompTI, dCompRI, dgName, dgTup, dgCons, dgNil, forW, startD, dst0, CDiv, CPow, CMul, List.map_cons, List.map_nil, List.length_cons, List.length_nil, List.replicate, List.cons_append, List.nil_append, List.append_nil, Nat.reduceAdd, Nat.reduceSub, Nat.add_zero, Nat.zero_add, Nat.sub_self, List.getElem?_cons_zero, List.getElem?_cons_succ, List.getElem?_nil, List.set_cons_zero, List.set_cons_succ, Option.some.injEq, exists_eq_left', exists_eq_left, exists_and_left, exists_and_right, Option.join_some, Option.join_none, Sl.v.injEq, Sl.o.injEq, PyData.int.injEq, PyData.bool.injEq, PyData.str.injEq, PyData.tuple.injEq, PyData.list.injEq, List.cons.injEq, and_true, true_and, Nat.reduceLT, Nat.reduceLeDiff, exists_const, decide_eq_true_eq, Int.reduceLT, Int.reduceLE, Int.reduceNeg, Int.reducePow, Bool.not_eq_true', decide_eq_false_iff_not, and_assoc, or_true, true_or, ↓reduceIte, if_true, if_false, Bool.false_eq_true, Bool.true_eq_false, not_true_eq_false, not_false_eq_true, Bool.not_true, Bool.not_false, ite_true, ite_false, eq_self, exists_eq, reduceCtorEq, false_and, and_false, or_false, false_or, exists_false, Option.map_some, Option.map_none, scalD, List.all_cons, List.all_nil, List.any_cons, List.any_nil, Bool.and_true, Bool.or_false, Bool.true_and, Bool.false_or, atI_c0, atI_c1, atI_c2, atI_c3, atI_c4, eqv_str, eqv_int, eqv_bool, beq_self_eq_true, shp_int, shp_bl, shp_non, Shp, sizeLine_eq]
      clear hx hb hl
      intro d d0 d1 e e0 e1 j j0 j1 l l0 l1
      obtain ⟨x, hx, x0, x1⟩ : ∃ x : Int, atI [PyData.int e, PyData.int (if d + j < 99998 then d + j else 99998)] l = some (.int x) ∧ 0 ≤ x ∧ x ≤ 99999 := by
        have h : l = 0 ∨ l = 1 := by omega
        rcases h with rfl | rfl
        · exact ⟨e, rfl, e0, e1⟩
        · exact ⟨_, rfl, by split <;> omega, by split <;> omega⟩
      refine ⟨.int x, hx, ?_⟩
      clear hx
      have dm : 0 ≤ (if 99998 < d then 99998 else d) := by split <;> omega
      have dm2 : (if 99998 < d then 99998 else d) ≤ 99998 := by split <;> omega
      generalize (if 99998 < d then 99998 else d) = dd at *
      simp only [same_iff, on_iff, sizes_iff, dayof_iff, later_iff, u3m, u3y, u3d, dm, dm2, x0, ↓lz_w, ↓lz_wN, ↓lz_v0, ↓lz_vS, ↓lz_vE, ↓lz_vN, ↓lz_o0, ↓lz_oS, ↓lz_oE, ↓lz_oN, ↓lz_b, ↓lz_i, ↓lz_s, ↓lz_t, ↓lz_l, ↓lz_ii, ↓lz_ss, ↓lz_tt, ↓lz_ll, ↓lz_cons, ↓lz_two, ↓lz_tt0, ↓lz_tt1, ↓lz_tt2, ↓lz_tt3, ↓lz_ll0, ↓lz_ll1, ↓lz_ll2, ↓lz_tix, ↓lz_lix, dSeq, dNext, dIfS, dRet, dRetO, dDrop, dSet, dNew, dApp, dAsg, dPar, dFrz, dVar, dOwn, dC, dOp, dI, dIC, dEq, dNe, dIn, dIxL, dIxT, dIxS, dAddS, dCatT, dCat, dL, dFin, dTup, dLst, dNil, dCons, dTest, dAnd, dOr, dNot, dAndV, dOrV, dNotV, dIf, dChain, dCall, dCallS, dCallN, wq_paper_happens, wq_paper_rule, wq_paper_end, wq_paper_hold, wq_paper_lift, wq_paper_leave, wq_happens_paper, wq_happens_rule, wq_happens_end, wq_happens_hold, wq_happens_lift, wq_happens_leave, wq_rule_paper, wq_rule_happens, wq_rule_end, wq_rule_hold, wq_rule_lift, wq_rule_leave, wq_end_paper, wq_end_happens, wq_end_rule, wq_end_hold, wq_end_lift, wq_end_leave, wq_hold_paper, wq_hold_happens, wq_hold_rule, wq_hold_end, wq_hold_lift, wq_hold_leave, wq_lift_paper, wq_lift_happens, wq_lift_rule, wq_lift_end, wq_lift_hold, wq_lift_leave, wq_leave_paper, wq_leave_happens, wq_leave_rule, wq_leave_end, wq_leave_hold, wq_leave_lift, dRep2, dSlL, dSlT, dSlS, dLits, dSel, dRev, dNoPart, dPart, dLen, dLenS, dTupOf, dAny, dTwo, dIsin, dJoin, dInt, dListOf, dYes, dComp, dCompT, dCompR, dFor, dForT, dForR, dForR2, dForI, dForTI, dForRI, dForR2I, dSlX, dDct0, dNeg, dUpper, dRevT, dRepT, cD_nm1, dInX, dLenT, dLtS, dInS, dEqZ, dInZ, dSortS, dCompSI, dCompR2I, dStrI, dIntT, dZfill, dSplit, dJs, dNever, dLtU, take_iff, cD_1n, cD_2n, cD_3n, cD_4n, cD_n1, cD_n2, cD_n3, cD_n4, cD_13, ne_eq, thing_str, thing_int, thing_bool, thing_tup, thing_list, strsE1, strsE2, strsE3, dCompI, dCompTI, dCompRI, dgName, dgTup, dgCons, dgNil, forW, startD, dst0, CDiv, CPow, CMul, List.map_cons, List.map_nil, List.length_cons, List.length_nil, List.replicate, List.cons_append, List.nil_append, List.append_nil, Nat.reduceAdd, Nat.reduceSub, Nat.add_zero, Nat.zero_add, Nat.sub_self, List.getElem?_cons_zero, List.getElem?_cons_succ, List.getElem?_nil, List.set_cons_zero, List.set_cons_succ, Option.some.injEq, exists_eq_left', exists_eq_left, exists_and_left, exists_and_right, Option.join_some, Option.join_none, Sl.v.injEq, Sl.o.injEq, PyData.int.injEq, PyData.bool.injEq, PyData.str.injEq, PyData.tuple.injEq, PyData.list.injEq, List.cons.injEq, and_true, true_and, Nat.reduceLT, Nat.reduceLeDiff, exists_const, decide_eq_true_eq, Int.reduceLT, Int.reduceLE, Int.reduceNeg, Int.reducePow, Bool.not_eq_true', decide_eq_false_iff_not, and_assoc, or_true, true_or, ↓reduceIte, if_true, if_false, Bool.false_eq_true, Bool.true_eq_false, not_true_eq_false, not_false_eq_true, Bool.not_true, Bool.not_false, ite_true, ite_false, eq_self, exists_eq, reduceCtorEq, false_and, and_false, or_false, false_or, exists_false, Option.map_some, Option.map_none, scalD, List.all_cons, List.all_nil, List.any_cons, List.any_nil, Bool.and_true, Bool.or_false, Bool.true_and, Bool.false_or, atI_c0, atI_c1, atI_c2, atI_c3, atI_c4, eqv_str, eqv_int, eqv_bool, beq_self_eq_true, shp_int, shp_bl, shp_non, Shp, sizeLine_eq]
      have key : ∀ k i i3 : Int, 0 ≤ k → k < 1000 → 0 ≤ i → i < 273 → 0 ≤ i3 → i3 < 5 → ∃ x, atI [PyData.int 1, PyData.int 3, PyData.int 5, PyData.int 7, PyData.int 8] i3 = some x ∧ F_dayof [PyData.int (2000 + i), x, PyData.int 31] fun d =>
          F_later [d, PyData.int k, PyData.str (Str.ofString "months")] fun d => ∃ i, d = PyData.int i ∧ F_dateof [PyData.int (i + 1)] fun x => ∃ ds, x = PyData.tuple ds ∧ ∃ x, atI ds 2 = some x ∧ SeqAt.shaped x = true ∧ if x.eqv (PyData.int 1) = false then Q (PyData.bool false) else ∃ x, some (Sl.v d) = x := by
        intro k i i3 k0 k1 i0 i1 j0 j1
        have ml := mlen_all (2000 + i)
        have go : ∀ m : Int, 1 ≤ m → m ≤ 8 → mlen (2000 + i) m = 31 → F_dayof [PyData.int (2000 + i), .int m, PyData.int 31] fun d =>
          F_later [d, PyData.int k, PyData.str (Str.ofString "months")] fun d => ∃ i, d = PyData.int i ∧ F_dateof [PyData.int (i + 1)] fun x => ∃ ds, x = PyData.tuple ds ∧ ∃ x, atI ds 2 = some x ∧ SeqAt.shaped x = true ∧ if x.eqv (PyData.int 1) = false then Q (PyData.bool false) else ∃ x, some (Sl.v d) = x := by
          intro m m0 m1 hm
          have D : DateOf (num (2000 + i) m 31) (2000 + i) m 31 := ⟨m0, by omega, by omega, by omega, rfl⟩
          refine dayof_iff.mpr ⟨⟨by omega, by omega, m0, by omega, by omega, by omega⟩, later_iff.mpr ⟨u3m, fun r hr => ⟨r, rfl, ?_⟩⟩⟩
          obtain ⟨N, hN, hN1, hN2⟩ := last_key D hm hr (by omega) (by omega) k0 k1
          refine dateof_iff.mpr ⟨hN1, hN2, fun y' m' n' D' => ⟨_, rfl, .int n', rfl, rfl, ?_⟩⟩
          rw [(hN.uniq D'.inM).2.symm, if_neg (by decide)]
          exact ⟨_, rfl⟩
        have h : i3 = 0 ∨ i3 = 1 ∨ i3 = 2 ∨ i3 = 3 ∨ i3 = 4 := by omega
        rcases h with rfl | rfl | rfl | rfl | rfl
        · exact ⟨_, rfl, go 1 (by omega) (by omega) ml.1⟩
        · exact ⟨_, rfl, go 3 (by omega) (by omega) ml.2.1⟩
        · exact ⟨_, rfl, go 5 (by omega) (by omega) ml.2.2.2.1⟩
        · exact ⟨_, rfl, go 7 (by omega) (by omega) ml.2.2.2.2.2.1⟩
        · exact ⟨_, rfl, go 8 (by omega) (by omega) ml.2.2.2.2.2.2.1⟩
      split
      · exact ⟨by omega, fun a a0 a1 b b0 b1 c c0 c1 => ⟨a0, b0, a0, b0, a0, b0, fun i i0 i1 j j0 j1 => key c i j c0 c1 i0 i1 j0 j1⟩⟩
      · exact fun a a0 a1 b b0 b1 c c0 c1 => ⟨a0, b0, a0, b0, a0, b0, fun i i0 i1 j j0 j1 => key c i j c0 c1 i0 i1 j0 j1⟩
    · rintro δ ⟨o1, o2, o3, o4, o5, o6, o7, o8, rfl⟩
      walk_at "rz"
      exact q
end
end K04

open PySem PySem.W PyProof.Rows
set_option maxRecDepth 100000 in
set_option maxHeartbeats 0 in
theorem PySem.Challenge.cw_goneday_k04_whole_days_go_along_holds : PySem.Challenge.rw_goneday_k04_whole_days_go_along.Holds := by
  w_on; o_law; k_head; (case hw => w_witness2)
  k_fill
  refine L2.walk_ofBK (l := PySem.Challenge.rw_goneday_k04_whole_days_go_along) (n := 63) (k := 7) (x := "_law_script") (CX := L2.CX0) (sp := K04.sp_law) rfl (by decide) rfl ⟨rfl, by decide, by decide⟩ (fun w h Y => PySem.W.kIn_of Y) ?F ?S ?C
  case F =>
    intro w mg fa h KX G hmg
    have T : ∃ t, K04.Txt (L2.KOf KX) mg t := by
      dsimp only [L2.KOf]
      refine' K04.txt_mk KX G ?a0 ?l0 ?c0 ?k0 ?a1 ?l1 ?c1 ?k1 ?a2 ?l2 ?c2 ?k2 ?a3 ?l3 ?c3 ?k3 ?a4 ?l4 ?c4 ?k4 ?a5 ?l5 ?c5 ?k5 ?a6 ?l6 ?c6 ?k6 ?a7 ?l7 ?c7 ?k7 ?a8 ?l8 ?c8 ?k8 ?a9 ?l9 ?c9 ?k9 ?a10 ?l10 ?c10 ?k10 ?a11 ?l11 ?c11 ?k11 ?a12 ?l12 ?c12 ?k12 ?a13 ?l13 ?c13 ?k13 ?a14 ?l14 ?c14 ?k14 ?a15 ?l15 ?c15 ?k15 ?a16 ?l16 ?c16 ?k16 ?a17 ?l17 ?c17 ?k17 ?a18 ?l18 ?c18 ?k18 ?a19 ?l19 ?c19 ?k19 ?a20 ?l20 ?c20 ?k20 ?a21 ?l21 ?c21 ?k21 ?a22 ?l22 ?c22 ?k22 ?a23 ?l23 ?c23 ?k23 ?a24 ?l24 ?c24 ?k24 ?x_LAST_WRITTEN ?r_LAST_WRITTEN ?x_MONTH_DAYS ?y_MONTH_DAYS ?z_MONTH_DAYS ?w_MONTH_DAYS ?x_FIRST_YEAR ?r_FIRST_YEAR ?x_ROUND_DAYS ?r_ROUND_DAYS ?x_ROUND_YEARS ?r_ROUND_YEARS ?x_LAST_YEAR ?r_LAST_YEAR ?x_NoDay ?x_FIGURES ?r_FIGURES ?x_NoText ?n_all ?n_bool ?n_divmod ?n_int ?n_isinstance ?n_len ?n_max ?n_min ?n_range ?n_str ?n_sum
      (case a0 => k_is)
      (case l0 => k_is)
      (case c0 => k_is)
      (case k0 => k_is)
      (case a1 => k_is)
      (case l1 => k_is)
      (case c1 => k_is)
      (case k1 => k_is)
      (case a2 => k_is)
      (case l2 => k_is)
      (case c2 => k_is)
      (case k2 => k_is)
      (case a3 => k_is)
      (case l3 => k_is)
      (case c3 => k_is)
      (case k3 => k_is)
      (case a4 => k_is)
      (case l4 => k_is)
      (case c4 => k_is)
      (case k4 => k_is)
      (case a5 => k_is)
      (case l5 => k_is)
      (case c5 => k_is)
      (case k5 => k_is)
      (case a6 => k_is)
      (case l6 => k_is)
      (case c6 => k_is)
      (case k6 => k_is)
      (case a7 => k_is)
      (case l7 => k_is)
      (case c7 => k_is)
      (case k7 => k_is)
      (case a8 => k_is)
      (case l8 => k_is)
      (case c8 => k_is)
      (case k8 => k_is)
      (case a9 => k_is)
      (case l9 => k_is)
      (case c9 => k_is)
      (case k9 => k_is)
      (case a10 => k_is)
      (case l10 => k_is)
      (case c10 => k_is)
      (case k10 => k_is)
      (case a11 => k_is)
      (case l11 => k_is)
      (case c11 => k_is)
      (case k11 => k_is)
      (case a12 => k_is)
      (case l12 => k_is)
      (case c12 => k_is)
      (case k12 => k_is)
      (case a13 => k_is)
      (case l13 => k_is)
      (case c13 => k_is)
      (case k13 => k_is)
      (case a14 => k_is)
      (case l14 => k_is)
      (case c14 => k_is)
      (case k14 => k_is)
      (case a15 => k_is)
      (case l15 => k_is)
      (case c15 => k_is)
      (case k15 => k_is)
      (case a16 => k_is)
      (case l16 => k_is)
      (case c16 => k_is)
      (case k16 => k_is)
      (case a17 => k_is)
      (case l17 => k_is)
      (case c17 => k_is)
      (case k17 => k_is)
      (case a18 => k_is)
      (case l18 => k_is)
      (case c18 => k_is)
      (case k18 => k_is)
      (case a19 => k_is)
      (case l19 => k_is)
      (case c19 => k_is)
      (case k19 => k_is)
      (case a20 => k_is)
      (case l20 => k_is)
      (case c20 => k_is)
      (case k20 => k_is)
      (case a21 => k_is)
      (case l21 => k_is)
      (case c21 => k_is)
      (case k21 => k_is)
      (case a22 => k_is)
      (case l22 => k_is)
      (case c22 => k_is)
      (case k22 => k_is)
      (case a23 => k_is)
      (case l23 => k_is)
      (case c23 => k_is)
      (case k23 => k_is)
      (case a24 => k_is)
      (case l24 => k_is)
      (case c24 => k_is)
      (case k24 => k_is)
      (case x_LAST_WRITTEN => k_is)
      (case r_LAST_WRITTEN => exact ⟨_, rfl⟩)
      (case x_MONTH_DAYS => k_is)
      (case y_MONTH_DAYS => k_is)
      (case z_MONTH_DAYS => first | (repeat (first | exact .nil | refine .cons ⟨_, rfl⟩ ?_)))
      (case w_MONTH_DAYS => decide)
      (case x_FIRST_YEAR => k_is)
      (case r_FIRST_YEAR => exact ⟨_, rfl⟩)
      (case x_ROUND_DAYS => k_is)
      (case r_ROUND_DAYS => exact ⟨_, rfl⟩)
      (case x_ROUND_YEARS => k_is)
      (case r_ROUND_YEARS => exact ⟨_, rfl⟩)
      (case x_LAST_YEAR => k_is)
      (case r_LAST_YEAR => exact ⟨_, rfl⟩)
      (case x_NoDay => k_is)
      (case x_FIGURES => k_is)
      (case r_FIGURES => exact ⟨_, rfl⟩)
      (case x_NoText => k_is)
      (case n_all => k_is)
      (case n_bool => k_is)
      (case n_divmod => k_is)
      (case n_int => k_is)
      (case n_isinstance => k_is)
      (case n_len => k_is)
      (case n_max => k_is)
      (case n_min => k_is)
      (case n_range => k_is)
      (case n_str => k_is)
      (case n_sum => k_is)
    obtain ⟨t, T⟩ := T
    have e0 := hmg.symm.trans T.m_law
    cases e0
    exact ⟨t.d_law, T.bt_law, fun base kb nb => K04.ok_law T⟩
  case S => exact fun K H a ns hl hb hO hS => K04.start_law hl hb hS
  case C => exact fun _ _ _ _ z => z

