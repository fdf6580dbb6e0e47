import PyProof.Rows.All
import Wide.All
import OpenK.AllK
import Wide.FinOn
import Lean
import PyProof.EqAt
import PyProof.EqKinds
import PyProof.TupleCall
import KE.KUnpack
import PyProof.StrWalks
import PyProof.Rows.SortStr
import PyProof.FactsAll.dict_1
import PyProof.FactsAll.subtypes_3
import PyProof.FactsAll.subtypes_4
import PyProof.StrLawsIn
import PyProof.ListMulRoad
import PyProof.FactsAll.tuple
import PyProof.FactsAll.str
import KE.KIntText
import PyProof.StrBlockH
import PyProof.Rows.FStr
import PyProof.StrLawsTight
import KE.KDictSum
import PyProof.StrBlock2
import PyProof.Rows.SetFrom
import KE.KSortTup
import KE.KSortKey
import PyProof.Rows.CallKwBuiltin
import PyProof.Rows.Range3
import PyProof.ListRange
import PyProof.EnumFor
import PyProof.Rows.EnumRows
import PyProof.ZipIter
import PySem.Challenge.RW_goneday_k58_deeds_as_texts
set_option Elab.async false
set_option linter.all false
set_option maxRecDepth 100000
-- CHANGE: your row's module here, as the last of these rows
namespace L2
open PySem PySem.Spec PyProof.Rows
abbrev Key := Sum Int Str
def keyIs : Key → Value → Bool
  | .inl k, v => Value.isInt k v
  | .inr x, v => Value.isStrOf x v
def keyH (w : World) : Key → Int
  | .inl k => hashInt k
  | .inr x => hashStr w x
theorem keyIs_shape : ∀ {k : Key} {v : Value}, keyIs k v = true → (∃ i t, k = Sum.inl i ∧ v = Value.int i t) ∨ (∃ x t, k = Sum.inr x ∧ v = Value.str x t)
  | .inl i, v, h => by
    obtain ⟨t, e⟩ := Value.isInt_shape (k := i) (v := v) h
    exact .inl ⟨i, t, rfl, e⟩
  | .inr x, v, h => by
    obtain ⟨t, e⟩ := Value.isStrOf_shape (x := x) (v := v) h
    exact .inr ⟨x, t, rfl, e⟩
theorem key_ll (a b : Int) : decide ((Sum.inl a : Key) = Sum.inl b) = (a == b) := by
  by_cases e : a = b
  · subst e; simp
  · have h : ¬ (Sum.inl a : Key) = Sum.inl b := fun q => e (Sum.inl.inj q)
    rw [decide_eq_false h]
    exact (beq_eq_false_iff_ne.mpr e).symm
theorem key_rr (a b : Str) : decide ((Sum.inr a : Key) = Sum.inr b) = decide (a = b) := by
  by_cases e : a = b
  · subst e; simp
  · have h : ¬ (Sum.inr a : Key) = Sum.inr b := fun q => e (Sum.inr.inj q)
    rw [decide_eq_false h, decide_eq_false e]
theorem key_lr (a : Int) (b : Str) : decide ((Sum.inl a : Key) = Sum.inr b) = false := decide_eq_false (fun q => nomatch q)
theorem key_rl (a : Str) (b : Int) : decide ((Sum.inr a : Key) = Sum.inl b) = false := decide_eq_false (fun q => nomatch q)
def mixKind (prog : Program) (w : World) : PySem.KeyKind prog w Key where
  is := keyIs
  hash := keyH w
  inj := fun v a b ha hb => by
    rcases keyIs_shape ha with ⟨i, t, rfl, rfl⟩ | ⟨x, t, rfl, rfl⟩
    · rcases keyIs_shape hb with ⟨j, u, rfl, e⟩ | ⟨y, u, rfl, e⟩
      · injection e with e1 _; rw [e1]
      · exact nomatch e
    · rcases keyIs_shape hb with ⟨j, u, rfl, e⟩ | ⟨y, u, rfl, e⟩
      · exact nomatch e
      · injection e with e1 _; rw [e1]
  byValue := fun k v h => by
    rcases keyIs_shape h with ⟨i, t, rfl, rfl⟩ | ⟨x, t, rfl, rfl⟩ <;> rfl
  pyHash := fun hv h => by
    rcases keyIs_shape hv with ⟨i, t, rfl, rfl⟩ | ⟨x, t, rfl, rfl⟩
    · exact wpAny_pyHash_int h
    · exact wpAny_pyHash_str h
  eqBool := fun hu hv h => by
    rcases keyIs_shape hu with ⟨i, t, rfl, rfl⟩ | ⟨x, t, rfl, rfl⟩
    · rcases keyIs_shape hv with ⟨j, u, rfl, rfl⟩ | ⟨y, u, rfl, rfl⟩
      · rw [key_ll] at h; exact wpAny_eqBool_int h
      · rw [key_lr] at h; exact SeqAt.EqAt.int_str i t y u _ _ _ _ h
    · rcases keyIs_shape hv with ⟨j, u, rfl, rfl⟩ | ⟨y, u, rfl, rfl⟩
      · rw [key_rl] at h; exact SeqAt.EqAt.str_int x t j u _ _ _ _ h
      · rw [key_rr] at h; exact wpAny_eqBool_str h
  «strs» := fun k x t v h => by
    rcases keyIs_shape h with ⟨i, u, rfl, e⟩ | ⟨y, u, rfl, e⟩
    · exact nomatch e
    · injection e with e1 _
      subst e1
      cases v <;> rfl
end L2
namespace L2
open PySem PySem.Spec PyProof.Rows
inductive V where
  | non | bl (b : Bool) | int (i : Int) | str (x : Str) | byt (b : Array UInt8) | flt (b : UInt64) | ref (a : Addr) | ty (n : String)
  deriving DecidableEq
def RelV : V → Value → Prop
  | .non, u => u = Value.none
  | .bl b, u => u = Value.bool b
  | .int i, u => ∃ t, u = Value.int i t
  | .str x, u => ∃ t, u = Value.str x t
  | .byt b, u => ∃ t, u = Value.bytes b t
  | .flt b, u => ∃ t, u = Value.float b t
  | .ref a, u => u = Value.ref a
  | .ty n, u => u = Value.type n
abbrev Vals : List V → List Value → Prop := Paired RelV
theorem Vals.length {xs : List V} {us : List Value} (r : Vals xs us) : xs.length = us.length := Paired.length r
theorem Vals.get : ∀ {xs : List V} {us : List Value} {i : Nat} {x : V}, Vals xs us → xs[i]? = some x → ∃ u, us[i]? = some u ∧ RelV x u
  | _, _, _, _, .nil, e => by simp at e
  | _, _, 0, _, .cons r _, e => by simp at e; subst e; exact ⟨_, rfl, r⟩
  | _, _, i + 1, x, .cons _ t, e => by
    obtain ⟨u, h1, h2⟩ := Vals.get (i := i) (x := x) t (by simpa using e)
    exact ⟨u, by simpa using h1, h2⟩
theorem Vals.set {x : V} {u : Value} (r : RelV x u) : ∀ {xs : List V} {us : List Value} (i : Nat), Vals xs us → Vals (xs.set i x) (us.set i u)
  | _, _, _, .nil => .nil
  | _, _, 0, .cons _ t => .cons r t
  | _, _, i + 1, .cons q t => .cons q (Vals.set r i t)
theorem Vals.append : ∀ {xs ys : List V} {us ws : List Value}, Vals xs us → Vals ys ws → Vals (xs ++ ys) (us ++ ws)
  | _, _, _, _, .nil, s => s
  | _, _, _, _, .cons r t, s => .cons r (Vals.append t s)
theorem Vals.take : ∀ {xs : List V} {us : List Value} (n : Nat), Vals xs us → Vals (xs.take n) (us.take n)
  | _, _, 0, _ => .nil
  | _, _, _ + 1, .nil => .nil
  | _, _, n + 1, .cons r t => .cons r (Vals.take n t)
theorem Vals.drop : ∀ {xs : List V} {us : List Value} (n : Nat), Vals xs us → Vals (xs.drop n) (us.drop n)
  | _, _, 0, r => r
  | _, _, _ + 1, .nil => .nil
  | _, _, n + 1, .cons _ t => Vals.drop n t
def RelO : Option V → Option Value → Prop
  | some v, some u => RelV v u
  | none, none => True
  | _, _ => False
def KV {κ : Type} : List (κ × V) → List (κ × Value) → Prop := Paired fun (p : κ × V) (q : κ × Value) => p.1 = q.1 ∧ RelV p.2 q.2
def kV : Key → V
  | .inl i => .int i
  | .inr x => .str x
inductive HO where
  /-- a list -/
  | lst (xs : List V)
  /-- a tuple (never changes) -/
  | tup (xs : List V)
  /-- a dict whose keys are ints and texts; one whose keys are tuples of ints and texts (the empty one is both) -/
  | dK (kvs : List (Key × V)) | dT (kvs : List (List Key × V))
  /-- a set of ints: its members, its size -/
  | set (S : Int → Bool) (n : Nat)
  /-- an instance of the class at C, its dict at dx, its attributes -/
  | ins (C dx : Addr) (fs : List (Str × V))
  /-- the dict of the instance at x -/
  | own (x : Addr)
  /-- the dict of an exception -/
  | xd (fs : List (Str × V))
  /-- a bound method, f of x -/
  | met (f x : Addr)
  /-- a range object lo, lo + 1, .. below hi -/
  | rng (lo hi : Int)
  /-- a thing that is known to the object (the script; a dict while a loop walks it): read, never written while it is so -/
  | frz (o : Obj) (u : HO)
  /-- a code object's table -/
  | tbl (ps : Array Value)
  /-- any other thing, by what is true of its one object (a def of one's own: SetO a S n := HO.ext fun h => ..) -/
  | ext (φ : Heap → Prop)
abbrev Hp := Addr → Option HO
def upd (H : Hp) (a : Addr) (o : HO) : Hp := fun b => if b = a then some o else H b
theorem upd_same {H : Hp} {a : Addr} {o : HO} : upd H a o a = some o := by unfold upd; rw [if_pos rfl]
theorem upd_ne {H : Hp} {a b : Addr} {o : HO} (h : b ≠ a) : upd H a o b = H b := by unfold upd; rw [if_neg h]
theorem ne_of_none {H : Hp} {a b : Addr} {o : HO} (h : H a = some o) (h' : H b = none) : a ≠ b := by
  intro e; subst e; rw [h] at h'; cases h'
section
variable (P : Program) (w : World)
def ObjOk (H : Hp) (h : Heap) (a : Addr) : HO → Prop
  | .lst xs => xs.length ≤ sizeLine ∧ ∃ (its : List Value) (n : Nat), Vals xs its ∧ h.get? a = some { cls := .type "list", data := .seq its.toArray n }
  | .tup xs => xs.length ≤ sizeLine ∧ ∃ its : List Value, Vals xs its ∧ IsTup h a its.toArray
  | .dK kvs => kvs.length ≤ sizeLine ∧ (a == sysModules) = false ∧ ∃ vs, KV kvs vs ∧ h.DictOf (mixKind P w) a vs
  | .dT kvs => kvs.length ≤ sizeLine ∧ (a == sysModules) = false ∧ ∃ xs : List (List Key × Addr × Value),
      Paired (fun (p : List Key × V) (q : List Key × Addr × Value) => p.1 = q.1 ∧ H q.2.1 = some (.tup (p.1.map kV)) ∧ RelV p.2 q.2.2) kvs xs ∧
      ∃ o es ep, h.get? a = some o ∧ o.ExactDict ∧ o.data = .dict es ep ∧ es.toList = xs.map (entryOfKey (tupleKind (mixKind P w))) ∧ (xs.map (·.1)).Nodup
  | .set S n => h.SetOf (intKind P w) a S n
  | .ins C dx fs => H dx = some (.own a) ∧ fs.length ≤ 1000 ∧ dx ≠ a ∧ h.get? a = some (PySem.W.instObj C dx) ∧
      ∃ mA, h.Ns1 dx mA ∧ (∀ f, RelO (fs.lookup f) (mA f)) ∧ PySem.Within mA (fs.map (·.1))
  | .own _ => ∃ o, h.get? a = some o
  | .xd fs => ∃ mA, h.Ns1 a mA ∧ ∀ f, RelO (fs.lookup f) (mA f)
  | .rng lo hi => ∃ t u v, h.get? a = some { cls := .type "range", data := .fields #[.int lo t, .int hi u, .int 1 v] }
  | .frz o u => h.get? a = some o ∧ ObjOk H h a u
  | .tbl ps => h.get? a = some { cls := .none, data := .fields ps }
  | .met f x => h.get? a = some (PySem.W.methodObj (.ref f) (.ref x))
  | .ext φ => φ h ∧ (∃ o, h.get? a = some o) ∧ ∀ h1 h2 : Heap, φ h1 → (∀ o, h1.get? a = some o → h2.get? a = some o) → φ h2
def HOk (H : Hp) (h : Heap) : Prop := ∀ a o, H a = some o → ObjOk P w H h a o
end
section
variable {P : Program} {w : World} {H H' : Hp} {h h' : Heap} {a : Addr} {o : HO}
theorem ObjOk.lt (x : ObjOk P w H h a o) : a < h.objs.size := by
  cases o with
  | lst xs => obtain ⟨_, _, _, _, e⟩ := x; exact Heap.lt_size e
  | tup xs => obtain ⟨_, _, _, p⟩ := x; exact p.lt
  | dK kvs => obtain ⟨_, _, _, _, o, _, _, e, _⟩ := x; exact Heap.lt_size e
  | dT kvs => obtain ⟨_, _, _, _, o, _, _, e, _⟩ := x; exact Heap.lt_size e
  | set S n => obtain ⟨o, _, _, _, e, _⟩ := x; exact Heap.lt_size e
  | ins C dx fs => obtain ⟨_, _, _, e, _⟩ := x; exact Heap.lt_size e
  | own y => obtain ⟨_, e⟩ := x; exact Heap.lt_size e
  | xd fs => obtain ⟨_, ⟨_, _, _, e, _⟩, _⟩ := x; exact Heap.lt_size e
  | rng lo hi => obtain ⟨_, _, _, e⟩ := x; exact Heap.lt_size e
  | frz ob u => obtain ⟨e, _⟩ := x; exact Heap.lt_size e
  | tbl ps => exact Heap.lt_size (show h.get? a = some _ from x)
  | met f y => exact Heap.lt_size (show h.get? a = some _ from x)
  | ext φ => obtain ⟨_, ⟨_, e⟩, _⟩ := x; exact Heap.lt_size e
theorem Paired.mapP {α β : Type} {F G : α → β → Prop} : ∀ {l₁ : List α} {l₂ : List β}, Paired F l₁ l₂ → (∀ a b, F a b → G a b) → Paired G l₁ l₂
  | _, _, .nil, _ => .nil
  | _, _, .cons r t, f => .cons (f _ _ r) (Paired.mapP t f)
theorem ObjOk.stay (x : ObjOk P w H h a o) (k : ∀ b u, (b = a ∨ H b = some (.own a)) → h.get? b = some u → h'.get? b = some u)
    (ho : ∀ b, H b = some (.own a) → H' b = some (.own a)) (ht : ∀ b xs, H b = some (.tup xs) → H' b = some (.tup xs)) : ObjOk P w H' h' a o := by
  induction o with
  | lst xs => obtain ⟨z, its, n, r, e⟩ := x; exact ⟨z, its, n, r, k _ _ (.inl rfl) e⟩
  | tup xs => obtain ⟨z, its, r, ob, e, c⟩ := x; exact ⟨z, its, r, ob, k _ _ (.inl rfl) e, c⟩
  | dK kvs => obtain ⟨z, y, vs, r, ob, es, ep, e, c⟩ := x; exact ⟨z, y, vs, r, ob, es, ep, k _ _ (.inl rfl) e, c⟩
  | dT kvs =>
    obtain ⟨z, y, xs, r, ob, es, ep, e, c⟩ := x
    exact ⟨z, y, xs, Paired.mapP r fun p q z => ⟨z.1, ht _ _ z.2.1, z.2.2⟩, ob, es, ep, k _ _ (.inl rfl) e, c⟩
  | set S n => obtain ⟨ob, es, ep, t, e, c⟩ := x; exact ⟨ob, es, ep, t, k _ _ (.inl rfl) e, c⟩
  | ins C dx fs =>
    obtain ⟨d, z, ne, e, mA, ⟨od, es, ep, e2, c⟩, r⟩ := x
    exact ⟨ho _ d, z, ne, k _ _ (.inl rfl) e, mA, ⟨od, es, ep, k _ _ (.inr d) e2, c⟩, r⟩
  | own y => obtain ⟨ob, e⟩ := x; exact ⟨ob, k _ _ (.inl rfl) e⟩
  | xd fs => obtain ⟨mA, ⟨od, es, ep, e, c⟩, r⟩ := x; exact ⟨mA, ⟨od, es, ep, k _ _ (.inl rfl) e, c⟩, r⟩
  | rng lo hi => obtain ⟨t, u, v, e⟩ := x; exact ⟨t, u, v, k _ _ (.inl rfl) e⟩
  | frz ob u ih => obtain ⟨e, q⟩ := x; exact ⟨k _ _ (.inl rfl) e, ih q⟩
  | tbl ps =>
    have e : h.get? a = some { cls := .none, data := .fields ps } := x
    show h'.get? a = some { cls := .none, data := .fields ps }
    exact k a _ (.inl rfl) e
  | met f y =>
    have e : h.get? a = some (PySem.W.methodObj (.ref f) (.ref y)) := x
    show h'.get? a = some (PySem.W.methodObj (.ref f) (.ref y))
    exact k a _ (.inl rfl) e
  | ext φ => obtain ⟨p, ⟨o, e⟩, st⟩ := x; exact ⟨st _ _ p fun o q => k _ _ (.inl rfl) q, ⟨o, k _ _ (.inl rfl) e⟩, st⟩
theorem HOk.lt (x : HOk P w H h) (e : H a = some o) : a < h.objs.size := (x a o e).lt
theorem HOk.fresh (x : HOk P w H h) (e : h.objs.size ≤ a) : H a = none := by
  cases q : H a with
  | none => rfl
  | some u => exact absurd (Nat.lt_of_lt_of_le (x.lt q) e) (Nat.lt_irrefl _)
theorem HOk.kept (x : HOk P w H h) (k : ∀ b u, h.get? b = some u → h'.get? b = some u) : HOk P w H h' := fun a o e =>
  (x a o e).stay (fun b u _ q => k b u q) (fun _ q => q) fun _ _ q => q
theorem HOk.laid (x : HOk P w H h) (k : ∀ b u, h.get? b = some u → h'.get? b = some u) (hp : h.objs.size ≤ a) (new : ObjOk P w (upd H a o) h' a o) : HOk P w (upd H a o) h' := fun b u e => by
  have hn := x.fresh hp
  by_cases hb : b = a
  · subst hb; rw [upd_same] at e; cases e; exact new
  · rw [upd_ne hb] at e
    exact (x b u e).stay (fun c v _ q => k c v q) (fun c q => by rw [upd_ne (ne_of_none q hn)]; exact q) fun c xs q => by rw [upd_ne (ne_of_none q hn)]; exact q
end
def Rd (H : Hp) (a : Addr) (u : HO) : Prop := H a = some u ∨ ∃ o, H a = some (.frz o u)
theorem Rd.ok {P : Program} {w : World} {H : Hp} {h : Heap} {a : Addr} {u : HO} (r : Rd H a u) (x : HOk P w H h) : ObjOk P w H h a u := by
  rcases r with r | ⟨o, r⟩
  · exact x a u r
  · obtain ⟨_, q⟩ := x a _ r
    exact q
def Mut : Option HO → Prop
  | some (.lst _) => True
  | some (.dK _) => True
  | some (.dT _) => True
  | some (.set _ _) => True
  | some (.ins _ _ _) => True
  | some (.ext _) => True
  | _ => False
section
variable {P : Program} {w : World} {H : Hp} {h h' : Heap} {x e : Addr} {o' : HO}
theorem HOk.write (ok : HOk P w H h) (mu : Mut (H x)) (he : e = x ∨ H e = some (.own x)) (k : ∀ b u, b ≠ e → h.get? b = some u → h'.get? b = some u) (heo : ∃ u, h'.get? e = some u)
    (new : ObjOk P w (upd H x o') h' x o') : HOk P w (upd H x o') h' := fun b u q => by
  have nown : ∀ c y, H c = some (.own y) → c ≠ x := fun c y r z => by subst z; rw [r] at mu; exact mu
  have ntup : ∀ c xs, H c = some (.tup xs) → c ≠ x := fun c xs r z => by subst z; rw [r] at mu; exact mu
  by_cases hb : b = x
  · subst hb; rw [upd_same] at q; cases q; exact new
  · rw [upd_ne hb] at q
    by_cases hbe : b = e
    · have q' : H b = some (.own x) := by
        rcases he with z | z
        · exact absurd (hbe.trans z) hb
        · rw [hbe]; exact z
      rw [q] at q'; cases q'
      obtain ⟨v, hv⟩ := heo
      exact ⟨v, by rw [hbe]; exact hv⟩
    · refine (ok b u q).stay (fun c v hc r => k c v ?_ r) (fun c r => by rw [upd_ne (nown c b r)]; exact r) fun c xs r => by rw [upd_ne (ntup c xs r)]; exact r
      rcases hc with rfl | hc
      · exact hbe
      · rintro rfl
        rcases he with z | z
        · exact nown c b hc z
        · rw [hc] at z; cases z; exact hb rfl
end
structure Un (fs ex : List Addr) (H H' : Hp) (h h' : Heap) : Prop where
  keep : ∀ b o, h.get? b = some o → H b = none → b ∉ fs → b ∉ ex → h'.get? b = some o
  slot : ∀ b o, h.get? b = some o → H b = none → b ∈ fs → b ∉ ex → ∃ sl, h'.get? b = some { o with slots := sl }
  free : ∀ b o, h.get? b = some o → H b = none → b ∉ ex → H' b = none
  there : ∀ b o, h.get? b = some o → b ∉ ex → ∃ o', h'.get? b = some o'
  tups : ∀ b xs, H b = some (.tup xs) → H' b = some (.tup xs)
  frzs : ∀ b o u, H b = some (.frz o u) → H' b = some (.frz o u)
  tbls : ∀ b ps, H b = some (.tbl ps) → ∃ more, H' b = some (.tbl (ps ++ more))
section
variable {fs fs' ex ex' : List Addr} {H H1 H2 : Hp} {h h1 h2 h' : Heap} {a x e : Addr} {o : HO}
theorem Un.any (u : Un fs ex H H1 h h1) {b : Addr} {ob : Obj} (q : h.get? b = some ob) (n : H b = none) (hx : b ∉ ex) : ∃ sl, h1.get? b = some { ob with slots := sl } := by
  by_cases hb : b ∈ fs
  · exact u.slot b ob q n hb hx
  · exact ⟨ob.slots, u.keep b ob q n hb hx⟩
theorem Un.kept (k : ∀ b u, h.get? b = some u → h'.get? b = some u) : Un fs ex H H h h' :=
  ⟨fun b ob q _ _ _ => k b ob q, fun b ob q _ _ _ => ⟨ob.slots, k b ob q⟩, fun _ _ _ n _ => n, fun b ob q _ => ⟨ob, k b ob q⟩, fun _ _ q => q, fun _ _ _ q => q, fun _ ps q => ⟨#[], by rw [q]; simp⟩⟩
theorem Un.refl : Un fs ex H H h h := Un.kept fun _ _ q => q
theorem Un.laid (k : ∀ b u, h.get? b = some u → h'.get? b = some u) (hp : h.objs.size ≤ a) (hn : H a = none) : Un fs ex H (upd H a o) h h' where
  keep := fun b u q _ _ _ => k b u q
  slot := fun b u q _ _ _ => ⟨u.slots, k b u q⟩
  free := fun b u q n _ => by rw [upd_ne (Nat.ne_of_lt (Nat.lt_of_lt_of_le (Heap.lt_size q) hp))]; exact n
  there := fun b u q _ => ⟨u, k b u q⟩
  tups := fun b xs q => by rw [upd_ne (ne_of_none q hn)]; exact q
  frzs := fun b u xs q => by rw [upd_ne (ne_of_none q hn)]; exact q
  tbls := fun b ps q => ⟨#[], by rw [upd_ne (ne_of_none q hn), q]; simp⟩
theorem Un.write (mu : Mut (H x)) (he : e = x ∨ H e = some (.own x)) (k : ∀ b u, b ≠ e → h.get? b = some u → h'.get? b = some u) (heo : ∃ u, h'.get? e = some u) : Un fs ex H (upd H x o) h h' := by
  have hx : ∀ b, H b = none → b ≠ x := fun b n z => by subst z; rw [n] at mu; exact mu
  have hb : ∀ b, H b = none → b ≠ e := fun b n z => by
    subst z
    rcases he with r | r
    · exact hx b n r
    · rw [n] at r; cases r
  have hm : ∀ b u, H b = some u → ¬ Mut (some u) → b ≠ x := fun b u q nm z => by subst z; rw [q] at mu; exact nm mu
  refine ⟨fun b u q n _ _ => k b u (hb b n) q, fun b u q n _ _ => ⟨u.slots, k b u (hb b n) q⟩, fun b u q n _ => by rw [upd_ne (hx b n)]; exact n, fun b u q _ => ?_,
    fun b xs q => by rw [upd_ne (hm b _ q fun z => z)]; exact q, fun b u xs q => by rw [upd_ne (hm b _ q fun z => z)]; exact q, fun b ps q => ⟨#[], by rw [upd_ne (hm b _ q fun z => z), q]; simp⟩⟩
  by_cases hbe : b = e
  · subst hbe; exact heo
  · exact ⟨u, k b u hbe q⟩
end
def trk (h : Heap) (H : Hp) : List Addr := (List.range h.objs.size).filter fun a => (H a).isSome
def hidT (h : Heap) (H : Hp) : Heap := PySem.W.hideAll h (trk h H)
theorem hidT_size (h : Heap) (H : Hp) : (hidT h H).objs.size = h.objs.size := PySem.W.hideAll_size _ _
theorem hidT_get {h : Heap} {H : Hp} {b : Addr} {o : Obj} (e : h.get? b = some o) (n : H b = none) : (hidT h H).get? b = some o :=
  PySem.W.hideAll_get _ e fun hm => by
    have q : (H b).isSome = true := (List.mem_filter.mp hm).2
    rw [n] at q; simp at q
theorem of_hidT {h : Heap} {H : Hp} {b : Addr} {o : Obj} (e : (hidT h H).get? b = some o) : h.get? b = some o ∧ H b = none := by
  have e' : h.get? b = some o := PySem.W.of_hideAll (trk h H) e
  refine ⟨e', ?_⟩
  cases q : H b with
  | none => rfl
  | some x =>
    have hm : b ∈ trk h H := List.mem_filter.mpr ⟨List.mem_range.mpr (Heap.lt_size e'), by simp [q]⟩
    have z : (hidT h H).get? b = none := PySem.W.hideAll_none (trk h H) hm
    rw [z] at e; cases e
def allNews (g h : Heap) (L : Addr) : List (Addr × Obj) := (List.range h.objs.size).filterMap fun a => if a = L ∨ (g.get? a).isSome = true then none else (h.get? a).map fun o => (a, o)
def rest (g h : Heap) (L d : Addr) : List (Addr × Obj) := (allNews g h L).filter fun p => decide (p.1 ≠ d)
end L2
namespace L2
open PySem PySem.Spec PyProof.Rows
structure Mod (K : PySem.W.Frag) (mg : Str → Option Value) (base : Heap) : Prop where
  kin : K.In base
  glob : base.Ns mainGlobals mg
  blt : ∃ mb, base.Ns builtinsNs mb ∧ ∀ x : Str, x ≠ "__name__" → mb x = bootBuiltins x
  nolimit : base.NoLimit
structure Cx where
  prog : Program
  w : World
  K : PySem.W.Frag
  mg : Str → Option Value
  base : Heap
  A : Around
  N : List Str
  s₀ : Shared
  H₀ : Hp
  env : Env
  outer : List Env
  stack : List Env
  ex : List Addr
  fn : Str → Bool
  calm : Bool
  pn : List (Addr × Obj)
  xe : Value → Shared → Prop
def frs (l : List Env) : List Addr := l.filterMap (·.frame)
abbrev Cx.fs (X : Cx) : List Addr := frs X.outer
def Vis (sc : Scope) (x : Str) : Prop := sc.names.lookup x = some .local ∨ sc.names.lookup x = some .cell ∨ sc.names.lookup x = some .free
def Loc (sc : Scope) (x : Str) : Prop := sc.names.lookup x = some .local ∨ sc.names.lookup x = some .cell
def Look (env : Env) (h : Heap) (m : Str → Option Value) (x : Str) (u : Value) : Prop :=
  (env.kindOf x = some .local ∧ m x = some u) ∨ ((env.kindOf x = some .cell ∨ env.kindOf x = some .free) ∧ ∃ c, env.cells.lookup x = some c ∧ h.IsCell c (some u))
structure Cx.Ok (X : Cx) : Prop where
  mod : Mod X.K X.mg X.base
  kind : X.env.scope.kind = .function
  glob : X.env.globals = mainGlobals
  blt : X.env.builtins = builtinsNs
  above : X.s₀.heap.objs.size ≤ X.env.locals
  inj : ∀ x y c, X.env.cells.lookup x = some c → X.env.cells.lookup y = some c → x = y
  has : ∀ x, (X.env.kindOf x = some .cell ∨ X.env.kindOf x = some .free) → ∃ c, X.env.cells.lookup x = some c
  cab : ∀ x c, X.fn x = true → X.env.cells.lookup x = some c → X.s₀.heap.objs.size ≤ c
  hd : X.calm = true → X.A.handled = none
  frames : X.A.frames = some X.stack
  stk : X.stack = X.outer ∨ (X.stack = X.env :: X.outer ∧ X.env.frame = some X.env.locals)
  exf : ∀ b ∈ X.ex, b ≠ X.env.locals ∧ ∀ x c, X.env.cells.lookup x = some c → c ≠ b
  bs : ∀ b o, X.base.get? b = some o → X.s₀.heap.get? b = some o ∧ X.H₀ b = none
  bsz : X.base.objs.size ≤ X.s₀.heap.objs.size
  noex : ∀ b o, X.base.get? b = some o → b ∉ X.ex
  exfs : ∀ b ∈ X.ex, b ∉ X.fs
  funs : X.s₀.heap.FunFrames X.base X.outer
  frf : ∀ b ∈ X.fs, X.H₀ b = none
structure Inv (X : Cx) (pins : List (Addr × Obj)) (σ : List (Option V)) (H : Hp) (s : Shared) : Prop where
  ok : X.Ok
  os : s.os = X.s₀.os
  bare : AllBare s.gens
  base : Un X.fs X.ex X.H₀ H X.s₀.heap s.heap
  loc : ∃ m, s.heap.Ns X.env.locals m ∧ ∀ (i : Nat) (x : Str) (v : V), X.N[i]? = some x → σ[i]? = some (some v) → Vis X.env.scope x → ∃ u, RelV v u ∧ Look X.env s.heap m x u
  cell : ∀ x c, X.env.cells.lookup x = some c → ∃ v, s.heap.IsCell c v
  free : H X.env.locals = none
  freeC : ∀ x c, X.env.cells.lookup x = some c → H c = none
  pin : ∀ p ∈ X.pn ++ pins, s.heap.get? p.1 = some p.2 ∧ H p.1 = none ∧ p.1 ≠ X.env.locals ∧ p.1 ∉ X.fs ∧ ∀ v, p.2.data ≠ .cell v
  hok : HOk X.prog X.w H s.heap
  len : σ.length = X.N.length
section
variable {X : Cx} {pins : List (Addr × Obj)} {σ : List (Option V)} {H H' : Hp} {s : Shared} {h' : Heap}
theorem Cx.Ok.nofr (ok : X.Ok) {b : Addr} {o : Obj} (e : X.base.get? b = some o) : b ∉ X.fs := fun hb => by
  have := (ok.funs.mem hb).1
  rw [e] at this; cases this
theorem Inv.bs (I : Inv X pins σ H s) : ∀ b o, X.base.get? b = some o → s.heap.get? b = some o ∧ H b = none := fun b o e =>
  ⟨I.base.keep b o (I.ok.bs b o e).1 (I.ok.bs b o e).2 (I.ok.nofr e) (I.ok.noex b o e), I.base.free b o (I.ok.bs b o e).1 (I.ok.bs b o e).2 (I.ok.noex b o e)⟩
theorem Inv.bk (I : Inv X pins σ H s) : ∀ b o, X.base.get? b = some o → s.heap.get? b = some o := fun b o e => (I.bs b o e).1
theorem Inv.mod (I : Inv X pins σ H s) : Mod X.K X.mg X.base := I.ok.mod
theorem Inv.kIn (I : Inv X pins σ H s) : X.K.In s.heap := I.ok.mod.kin.keeps I.bk
theorem Inv.fr (I : Inv X pins σ H s) : ∃ m, Fr X.base X.env.locals s.heap m :=
  let ⟨m, hn, _⟩ := I.loc
  ⟨m, hn, I.bk, Nat.le_trans I.ok.bsz I.ok.above⟩
theorem Inv.lt (I : Inv X pins σ H s) : X.env.locals < s.heap.objs.size := let ⟨_, hn, _⟩ := I.loc; hn.lt
theorem Inv.sz (I : Inv X pins σ H s) : X.s₀.heap.objs.size ≤ s.heap.objs.size := Nat.le_trans I.ok.above (Nat.le_of_lt I.lt)
theorem Inv.nofs (I : Inv X pins σ H s) {a : Addr} (h : s.heap.objs.size ≤ a) : a ∉ X.fs := fun hb => by
  obtain ⟨_, o, ho, _⟩ := I.ok.funs.mem hb
  exact absurd (Nat.lt_of_lt_of_le (Heap.lt_size ho) (Nat.le_trans I.sz h)) (Nat.lt_irrefl _)
theorem Inv.cne (I : Inv X pins σ H s) : ∀ x c, X.env.cells.lookup x = some c → c ≠ X.env.locals := fun x c e z => by
  obtain ⟨v, o, ho, hd⟩ := I.cell x c e
  obtain ⟨m, ⟨o', es, ep, ho', hd', _⟩, _⟩ := I.loc
  rw [z, ho'] at ho; cases ho; rw [hd'] at hd; cases hd
theorem Inv.funs (I : Inv X pins σ H s) : s.heap.FunFrames X.base X.outer := by
  have all : ∀ (l : List Env), (∀ b ∈ frs l, b ∈ X.fs) → X.s₀.heap.FunFrames X.base l → s.heap.FunFrames X.base l := by
    intro l
    induction l with
    | nil => intro _ _; trivial
    | cons env r ih =>
      intro hs hl
      obtain ⟨hk, ⟨L, o, hf, hn, ho, hd⟩, hr⟩ := hl
      have hL : L ∈ X.fs := hs L (by unfold frs; rw [List.filterMap_cons, hf]; exact List.mem_cons_self)
      obtain ⟨sl, e⟩ := I.base.slot L o ho (I.ok.frf L hL) hL fun z => I.ok.exfs L z hL
      exact ⟨hk, ⟨L, _, hf, hn, e, hd⟩, ih (fun b hb => hs b (by unfold frs; rw [List.filterMap_cons, hf]; exact List.mem_cons_of_mem _ hb)) hr⟩
  exact all X.outer (fun _ hb => hb) I.ok.funs
theorem Inv.stack (I : Inv X pins σ H s) : s.heap.FunFrames X.base X.stack := by
  rcases I.ok.stk with e | ⟨e, hf⟩
  · rw [e]; exact I.funs
  · rw [e]
    obtain ⟨m, hn, _⟩ := I.loc
    refine .cons (by rw [I.ok.kind]; decide) hf hn ?_ I.funs
    exact Heap.get?_none_of_le (Nat.le_trans I.ok.bsz I.ok.above)
theorem Inv.stkSub (I : Inv X pins σ H s) : ∀ b ∈ frs X.stack, b ∈ X.env.locals :: X.fs := fun b hb => by
  rcases I.ok.stk with e | ⟨e, hf⟩
  · rw [e] at hb; exact List.mem_cons_of_mem _ hb
  · rw [e] at hb
    unfold frs at hb
    rw [List.filterMap_cons, hf] at hb
    exact hb
theorem Inv.stkFree (I : Inv X pins σ H s) : ∀ b ∈ frs X.stack, H b = none := fun b hb => by
  rcases List.mem_cons.mp (I.stkSub b hb) with e | hb
  · rw [e]; exact I.free
  · obtain ⟨_, o, ho, _⟩ := I.ok.funs.mem hb
    exact I.base.free b o ho (I.ok.frf b hb) fun z => I.ok.exfs b z hb
theorem Inv.step {g' : Array GenState} {t' : Nat} {d' : Drawn} {ch : List Addr} (I : Inv X pins σ H s)
    (hch : ∀ b ∈ ch, (b ∈ X.ex ∨ X.s₀.heap.objs.size ≤ b) ∧ b ≠ X.env.locals ∧ (∀ x c, X.env.cells.lookup x = some c → c ≠ b) ∧ ∀ p ∈ X.pn ++ pins, p.1 ≠ b)
    (keep : ∀ b o, b ≠ X.env.locals → b ∉ X.fs → b ∉ ch → s.heap.get? b = some o → H b = none → h'.get? b = some o)
    (slot : ∀ b o, b ≠ X.env.locals → b ∈ X.fs → b ∉ ch → s.heap.get? b = some o → H b = none → ∃ sl, h'.get? b = some { o with slots := sl }) (free : ∀ b o, b ∉ ch → s.heap.get? b = some o → H b = none → H' b = none)
    (there : ∀ b o, b ∉ ch → s.heap.get? b = some o → ∃ o', h'.get? b = some o')
    (tups : ∀ b xs, H b = some (.tup xs) → H' b = some (.tup xs)) (frzs : ∀ b o u, H b = some (.frz o u) → H' b = some (.frz o u)) (tbls : ∀ b ps, H b = some (.tbl ps) → ∃ more, H' b = some (.tbl (ps ++ more)))
    (ns : ∀ m, s.heap.Ns X.env.locals m → h'.Ns X.env.locals m) (hok : HOk X.prog X.w H' h') (hg : AllBare g') :
    Inv X pins σ H' { s with heap := h', gens := g', drawn := d', toks := t' } := by
  have neL : ∀ b o, X.s₀.heap.get? b = some o → b ≠ X.env.locals := fun b o e => Nat.ne_of_lt (Nat.lt_of_lt_of_le (Heap.lt_size e) I.ok.above)
  have neC : ∀ b o, X.s₀.heap.get? b = some o → b ∉ X.ex → b ∉ ch := fun b o e hx hb => by
    rcases (hch b hb).1 with z | z
    · exact hx z
    · exact absurd (Nat.lt_of_lt_of_le (Heap.lt_size e) z) (Nat.lt_irrefl _)
  have cellK : ∀ x c, X.env.cells.lookup x = some c → ∀ v, s.heap.IsCell c v → h'.IsCell c v := fun x c e v ⟨o, ho, hd⟩ => by
    have nch : c ∉ ch := fun z => (hch c z).2.2.1 x c e rfl
    by_cases hc : c ∈ X.fs
    · obtain ⟨sl, q⟩ := slot c o (I.cne x c e) hc nch ho (I.freeC x c e)
      exact ⟨_, q, hd⟩
    · exact ⟨o, keep c o (I.cne x c e) hc nch ho (I.freeC x c e), hd⟩
  refine ⟨I.ok, I.os, hg, ⟨fun b o e n hb hx => ?_, fun b o e n hb hx => ?_, fun b o e n hx => ?_, fun b o e hx => ?_, fun b xs e => tups b xs (I.base.tups b xs e), fun b o xs e => frzs b o xs (I.base.frzs b o xs e), fun b ps e => ?_⟩, ?_, fun x c e => ?_, ?_, fun x c e => ?_, fun p hp => ?_, hok, I.len⟩
  · exact keep b o (neL b o e) hb (neC b o e hx) (I.base.keep b o e n hb hx) (I.base.free b o e n hx)
  · obtain ⟨sl, e1⟩ := I.base.slot b o e n hb hx
    obtain ⟨sl', e2⟩ := slot b _ (neL b o e) hb (neC b o e hx) e1 (I.base.free b o e n hx)
    exact ⟨sl', e2⟩
  · obtain ⟨o', e1⟩ := I.base.there b o e hx
    exact free b o' (neC b o e hx) e1 (I.base.free b o e n hx)
  · obtain ⟨o', e1⟩ := I.base.there b o e hx
    exact there b o' (neC b o e hx) e1
  · obtain ⟨m1, e1⟩ := I.base.tbls b ps e
    obtain ⟨m2, e2⟩ := tbls b _ e1
    exact ⟨m1 ++ m2, by rw [e2, Array.append_assoc]⟩
  · obtain ⟨m, hn, hl⟩ := I.loc
    refine ⟨m, ns m hn, fun i x v e1 e2 e3 => ?_⟩
    obtain ⟨u, r, l⟩ := hl i x v e1 e2 e3
    refine ⟨u, r, ?_⟩
    rcases l with l | ⟨k, c, e, z⟩
    · exact .inl l
    · exact .inr ⟨k, c, e, cellK x c e _ z⟩
  · obtain ⟨v, z⟩ := I.cell x c e
    exact ⟨v, cellK x c e v z⟩
  · obtain ⟨m, ⟨o, _, _, ho, _⟩, _⟩ := I.loc
    exact free _ o (fun z => (hch _ z).2.1 rfl) ho I.free
  · obtain ⟨v, o, ho, hd⟩ := I.cell x c e
    exact free c o (fun z => (hch c z).2.2.1 x c e rfl) ho (I.freeC x c e)
  · obtain ⟨e, n, ne, nf, d⟩ := I.pin p hp
    have nch : p.1 ∉ ch := fun z => (hch p.1 z).2.2.2 p hp rfl
    exact ⟨keep p.1 p.2 ne nf nch e n, free p.1 p.2 nch e n, ne, nf, d⟩
theorem Inv.un {t' : Nat} (I : Inv X pins σ H s) (u : Un X.fs [] H H' s.heap h') (hok : HOk X.prog X.w H' h') : Inv X pins σ H' { s with heap := h', toks := t' } := by
  obtain ⟨m, ⟨o, es, ep, ho, r⟩, _⟩ := id I.loc
  obtain ⟨sl, hL⟩ := u.any ho I.free (by simp)
  exact I.step (g' := s.gens) (d' := s.drawn) (ch := []) (fun _ z => nomatch z) (fun b o _ hb _ e n => u.keep b o e n hb (by simp)) (fun b o _ hb _ e n => u.slot b o e n hb (by simp)) (fun b o _ e n => u.free b o e n (by simp)) (fun b o _ e => u.there b o e (by simp)) u.tups u.frzs u.tbls (fun m' hm => by
    obtain ⟨o', es', ep', ho', r'⟩ := hm
    rw [ho] at ho'; cases ho'
    exact ⟨_, es', ep', hL, r'⟩) hok I.bare
theorem Inv.call {g' : Array GenState} {t' : Nat} {d' : Drawn} {ch : List Addr} (I : Inv X pins σ H s) (u : Un (frs X.stack) ch H H' s.heap h') (hok : HOk X.prog X.w H' h') (hg : AllBare g')
    (hch : ∀ b ∈ ch, (b ∈ X.ex ∨ X.s₀.heap.objs.size ≤ b) ∧ b ≠ X.env.locals ∧ (∀ x c, X.env.cells.lookup x = some c → c ≠ b) ∧ ∀ p ∈ X.pn ++ pins, p.1 ≠ b) :
    Inv X pins σ H' { s with heap := h', gens := g', drawn := d', toks := t' } := by
  obtain ⟨m, ⟨o, es, ep, ho, r⟩, _⟩ := id I.loc
  obtain ⟨sl, hL⟩ := u.any ho I.free fun z => (hch _ z).2.1 rfl
  exact I.step (ch := ch) hch (fun b o hL hb hc e n => u.keep b o e n (fun z => (List.mem_cons.mp (I.stkSub b z)).elim hL hb) hc) (fun b o _ _ hc e n => u.any e n hc) (fun b o hc e n => u.free b o e n hc) (fun b o hc e => u.there b o e hc) u.tups u.frzs u.tbls (fun m' hm => by
    obtain ⟨o', es', ep', ho', r'⟩ := hm
    rw [ho] at ho'; cases ho'
    exact ⟨_, es', ep', hL, r'⟩) hok hg
theorem Inv.turned {t' : Nat} {it : Addr} (I : Inv X pins σ H s) (k : ∀ b o, b ≠ it → s.heap.get? b = some o → h'.get? b = some o) (hn : H it = none) (hL : it ≠ X.env.locals)
    (h1 : it ∈ X.ex ∨ X.s₀.heap.objs.size ≤ it) (h2 : ∀ x c, X.env.cells.lookup x = some c → c ≠ it) (h3 : ∀ p ∈ X.pn ++ pins, p.1 ≠ it) : Inv X pins σ H { s with heap := h', toks := t' } := by
  have nit : ∀ b u, H b = some u → b ≠ it := fun b u e z => by rw [z, hn] at e; cases e
  refine I.step (g' := s.gens) (d' := s.drawn) (ch := [it]) (fun b hb => ?_) (fun b o _ _ hc e _ => k b o (fun z => hc (by simp [z])) e) (fun b o _ _ hc e _ => ⟨o.slots, k b o (fun z => hc (by simp [z])) e⟩) (fun _ _ _ _ n => n)
    (fun b o hc e => ⟨o, k b o (fun z => hc (by simp [z])) e⟩) (fun _ _ e => e) (fun _ _ _ e => e) (fun b ps e => ⟨#[], by rw [e]; simp⟩) (fun m hm => ?_) (fun b u e => ?_) I.bare
  · have e : b = it := by simpa using hb
    subst e
    exact ⟨h1, hL, h2, h3⟩
  · obtain ⟨o, es, ep, ho, r⟩ := hm
    exact ⟨o, es, ep, k _ o (Ne.symm hL) ho, r⟩
  · refine (I.hok b u e).stay (fun c v hc q => k c v ?_ q) (fun _ q => q) fun _ _ q => q
    rcases hc with z | z
    · rw [z]; exact nit b u e
    · exact nit c _ z
theorem Inv.tok (I : Inv X pins σ H s) (t : Nat) : Inv X pins σ H { s with toks := t } := I.un (h' := s.heap) (t' := t) Un.refl I.hok
theorem Inv.kept {t' : Nat} (I : Inv X pins σ H s) (k : ∀ b u, s.heap.get? b = some u → h'.get? b = some u) : Inv X pins σ H { s with heap := h', toks := t' } := I.un (Un.kept k) (I.hok.kept k)
theorem Inv.laid {a : Addr} {o : HO} {t' : Nat} (I : Inv X pins σ H s) (k : ∀ b u, s.heap.get? b = some u → h'.get? b = some u) (hp : s.heap.objs.size ≤ a) (new : ObjOk X.prog X.w (upd H a o) h' a o) :
    Inv X pins σ (upd H a o) { s with heap := h', toks := t' } := I.un (Un.laid k hp (I.hok.fresh hp)) (I.hok.laid k hp new)
theorem Inv.write {x e : Addr} {o : HO} {t' : Nat} (I : Inv X pins σ H s) (mu : Mut (H x)) (he : e = x ∨ H e = some (.own x)) (k : ∀ b u, b ≠ e → s.heap.get? b = some u → h'.get? b = some u) (heo : ∃ u, h'.get? e = some u)
    (new : ObjOk X.prog X.w (upd H x o) h' x o) : Inv X pins σ (upd H x o) { s with heap := h', toks := t' } := I.un (Un.write mu he k heo) (I.hok.write mu he k heo new)
theorem Inv.weak {σ' : List (Option V)} (I : Inv X pins σ H s) (hl : σ'.length = σ.length) (w : ∀ (i : Nat) v, σ'[i]? = some (some v) → σ[i]? = some (some v)) : Inv X pins σ' H s :=
  ⟨I.ok, I.os, I.bare, I.base, let ⟨m, hn, hl'⟩ := I.loc; ⟨m, hn, fun i x v e1 e2 e3 => hl' i x v e1 (w i v e2) e3⟩, I.cell, I.free, I.freeC, I.pin, I.hok, hl.trans I.len⟩
theorem Inv.pins_of {pins' : List (Addr × Obj)} (I : Inv X pins σ H s) (h : ∀ p ∈ pins', s.heap.get? p.1 = some p.2 ∧ H p.1 = none ∧ p.1 ≠ X.env.locals ∧ p.1 ∉ X.fs ∧ ∀ v, p.2.data ≠ .cell v) : Inv X pins' σ H s :=
  ⟨I.ok, I.os, I.bare, I.base, I.loc, I.cell, I.free, I.freeC, fun p hp => (List.mem_append.mp hp).elim (fun z => I.pin p (List.mem_append_left _ z)) (h p), I.hok, I.len⟩
theorem nodup_ix {N : List Str} (hN : N.Nodup) {i j : Nat} {x : Str} (a : N[i]? = some x) (b : N[j]? = some x) : i = j := by
  obtain ⟨h1, e1⟩ := List.getElem?_eq_some_iff.mp a
  obtain ⟨h2, e2⟩ := List.getElem?_eq_some_iff.mp b
  exact (List.getElem_inj hN).mp (e1.trans e2.symm)
theorem store_ok2 {M : Model} {A : Around} {E : Value → Shared → Prop} {i : Nat} {x : Str} {v : V} {u : Value} {Q : Unit → Shared → Prop} (I : Inv X pins σ H s) (hN : X.N.Nodup) (hi : X.N[i]? = some x) (hx : Loc X.env.scope x) (r : RelV v u)
    (h : ∀ s', Inv X pins (σ.set i (some v)) H s' → (∃ a, Heap.SameBut a s.heap s'.heap ∧ (a = X.env.locals ∨ X.env.cells.lookup x = some a)) → Q () s') (hf : X.fn x = true ∨ X.env.scope.names.lookup x = some .local := by first | exact .inl rfl | exact .inr rfl | assumption) : wpAny M A (storeName X.env x u) Q E s := by
  obtain ⟨m, hn, hl⟩ := id I.loc
  have hcls : (X.env.scope.kind == .class || (X.env.scope.kind == .module && X.env.locals != X.env.globals)) = false := by rw [I.ok.kind]; rfl
  have hiσ : i < σ.length := by rw [I.len]; exact (List.getElem?_eq_some_iff.mp hi).1
  have cne := I.cne
  have tracked : ∀ {a : Addr} {h' : Heap}, (∃ o, s.heap.get? a = some o ∧ H a = none) → Heap.SameBut a s.heap h' → HOk X.prog X.w H h' := fun {a h'} ha hs b ob e => by
    obtain ⟨_, _, hfree⟩ := ha
    refine (I.hok b ob e).stay (fun c w' hc q => (hs.2 c ?_).trans q) (fun _ q => q) fun _ _ q => q
    rintro rfl
    rcases hc with rfl | hc
    · rw [hfree] at e; cases e
    · rw [hfree] at hc; cases hc
  rcases hx with hk | hk
  · refine wpAny_storeName_local hk hn (fun h' hn' hs => ?_) hcls
    obtain ⟨oL, _, _, hoL, _⟩ := id hn
    refine h _ ⟨I.ok, I.os, I.bare, ⟨fun b o e n hb hx => ?_, fun b o e n hb hx => ?_, I.base.free, fun b o e hx => ?_, I.base.tups, I.base.frzs, I.base.tbls⟩, ⟨_, hn', fun j y v' e1 e2 e3 => ?_⟩, fun y c e => ?_, I.free, I.freeC, fun p hp => ?_, tracked ⟨oL, hoL, I.free⟩ hs, by simpa using I.len⟩ ⟨_, hs, .inl rfl⟩
    · exact (hs.2 b (Nat.ne_of_lt (Nat.lt_of_lt_of_le (Heap.lt_size e) I.ok.above))).trans (I.base.keep b o e n hb hx)
    · obtain ⟨sl, e1⟩ := I.base.slot b o e n hb hx
      exact ⟨sl, (hs.2 b (Nat.ne_of_lt (Nat.lt_of_lt_of_le (Heap.lt_size e) I.ok.above))).trans e1⟩
    · obtain ⟨o', e1⟩ := I.base.there b o e hx
      exact ⟨o', (hs.2 b (Nat.ne_of_lt (Nat.lt_of_lt_of_le (Heap.lt_size e) I.ok.above))).trans e1⟩
    · by_cases hj : j = i
      · subst hj
        rw [hi] at e1; cases e1
        rw [List.getElem?_set_self hiσ] at e2
        cases e2
        exact ⟨u, r, .inl ⟨hk, by simp⟩⟩
      · rw [List.getElem?_set_ne (Ne.symm hj)] at e2
        obtain ⟨u', r', q⟩ := hl j y v' e1 e2 e3
        refine ⟨u', r', ?_⟩
        rcases q with ⟨k, e⟩ | ⟨k, c, e, z⟩
        · refine .inl ⟨k, ?_⟩
          have : y ≠ x := fun e => hj (nodup_ix hN e1 (e ▸ hi))
          simp [this, e]
        · exact .inr ⟨k, c, e, z.sameBut hs (cne y c e)⟩
    · obtain ⟨w', z⟩ := I.cell y c e
      exact ⟨w', z.sameBut hs (cne y c e)⟩
    · obtain ⟨e, n, ne, nf, d⟩ := I.pin p hp
      exact ⟨(hs.2 p.1 ne).trans e, n, ne, nf, d⟩
  · have hfn : X.fn x = true := by
      rcases hf with z | z
      · exact z
      · rw [z] at hk; cases hk
    obtain ⟨c, hc⟩ := I.ok.has x (.inl hk)
    obtain ⟨w', z⟩ := I.cell x c hc
    refine wpAny_storeName_cell I.ok.kind hk hc z (fun h' hc' hs => ?_)
    obtain ⟨oc, hoc, hocd⟩ := id z
    refine h { s with heap := h' } ⟨I.ok, I.os, I.bare, ⟨fun b o e n hb hx => ?_, fun b o e n hb hx => ?_, I.base.free, fun b o e hx => ?_, I.base.tups, I.base.frzs, I.base.tbls⟩, ⟨m, hn.sameBut hs (Ne.symm (cne x c hc)), fun j y v' e1 e2 e3 => ?_⟩, fun y c' e => ?_, I.free, I.freeC, fun p hp => ?_, tracked ⟨oc, hoc, I.freeC x c hc⟩ hs, by simpa using I.len⟩ ⟨c, hs, .inr hc⟩
    · exact (hs.2 b (Nat.ne_of_lt (Nat.lt_of_lt_of_le (Heap.lt_size e) (I.ok.cab x c hfn hc)))).trans (I.base.keep b o e n hb hx)
    · obtain ⟨sl, e1⟩ := I.base.slot b o e n hb hx
      exact ⟨sl, (hs.2 b (Nat.ne_of_lt (Nat.lt_of_lt_of_le (Heap.lt_size e) (I.ok.cab x c hfn hc)))).trans e1⟩
    · obtain ⟨o', e1⟩ := I.base.there b o e hx
      exact ⟨o', (hs.2 b (Nat.ne_of_lt (Nat.lt_of_lt_of_le (Heap.lt_size e) (I.ok.cab x c hfn hc)))).trans e1⟩
    · by_cases hj : j = i
      · subst hj
        rw [hi] at e1; cases e1
        rw [List.getElem?_set_self hiσ] at e2
        cases e2
        exact ⟨u, r, .inr ⟨.inl hk, c, hc, hc'⟩⟩
      · rw [List.getElem?_set_ne (Ne.symm hj)] at e2
        obtain ⟨u', r', q⟩ := hl j y v' e1 e2 e3
        refine ⟨u', r', ?_⟩
        rcases q with q | ⟨k, c', e, z'⟩
        · exact .inl q
        · refine .inr ⟨k, c', e, z'.sameBut hs ?_⟩
          rintro rfl
          exact hj (nodup_ix hN e1 (I.ok.inj _ _ _ e hc ▸ hi))
    · by_cases hcc : c' = c
      · subst hcc; exact ⟨_, hc'⟩
      · obtain ⟨w2, z2⟩ := I.cell y c' e
        exact ⟨w2, z2.sameBut hs hcc⟩
    · obtain ⟨e, n, ne, nf, d⟩ := I.pin p hp
      refine ⟨(hs.2 p.1 ?_).trans e, n, ne, nf, d⟩
      intro q
      rw [q, hoc] at e
      have q' : oc = p.2 := Option.some.inj e
      exact d w' (by rw [← q']; exact hocd)
theorem store_ok {M : Model} {A : Around} {E : Value → Shared → Prop} {i : Nat} {x : Str} {v : V} {u : Value} {Q : Unit → Shared → Prop} (I : Inv X pins σ H s) (hN : X.N.Nodup) (hi : X.N[i]? = some x) (hx : Loc X.env.scope x) (r : RelV v u)
    (h : ∀ s', Inv X pins (σ.set i (some v)) H s' → Q () s') (hf : X.fn x = true ∨ X.env.scope.names.lookup x = some .local := by first | exact .inl rfl | exact .inr rfl | assumption) : wpAny M A (storeName X.env x u) Q E s :=
  store_ok2 I hN hi hx r (fun s' I' _ => h s' I') hf
theorem Inv.call' {s' : Shared} {ch : List Addr} (I : Inv X pins σ H s) (ho : s'.os = s.os) (u : Un (frs X.stack) ch H H' s.heap s'.heap) (hok : HOk X.prog X.w H' s'.heap) (hg : AllBare s'.gens)
    (hch : ∀ b ∈ ch, (b ∈ X.ex ∨ X.s₀.heap.objs.size ≤ b) ∧ b ≠ X.env.locals ∧ (∀ x c, X.env.cells.lookup x = some c → c ≠ b) ∧ ∀ p ∈ X.pn ++ pins, p.1 ≠ b) : Inv X pins σ H' s' := by
  obtain ⟨h', g', d', t', o'⟩ := s'
  have e : o' = s.os := ho
  subst e
  exact I.call (g' := g') (t' := t') (d' := d') u hok hg hch
end
abbrev XK := Value → Option Addr → Hp → Prop
abbrev St := List (Option V)
abbrev VK := V → Hp → Prop
abbrev TE := St → Hp → VK → Prop
abbrev TT := St → Hp → (Bool → Hp → Prop) → Prop
abbrev TA := St → Hp → (List V → Hp → Prop) → Prop
structure Ends where
  nx : St → Hp → Prop
  rt : VK
  bk : St → Hp → Prop := fun _ _ => False
  ct : St → Hp → Prop := fun _ _ => False
abbrev TS := Ends → St → Hp → Prop
def EP (X : Cx) (pins : List (Addr × Obj)) (σ : St) (Q : VK) (u : Value) (s' : Shared) : Prop := ∃ v H', Inv X pins σ H' s' ∧ RelV v u ∧ Q v H'
def TP (X : Cx) (pins : List (Addr × Obj)) (σ : St) (Q : Bool → Hp → Prop) (b : Bool) (s' : Shared) : Prop := ∃ H', Inv X pins σ H' s' ∧ Q b H'
def AP (X : Cx) (pins : List (Addr × Obj)) (σ : St) (Q : List V → Hp → Prop) (us : List Value) (s' : Shared) : Prop := ∃ vs H', Inv X pins σ H' s' ∧ Vals vs us ∧ Q vs H'
def SP (X : Cx) (pins : List (Addr × Obj)) (D : Ends) (f : Flow) (s' : Shared) : Prop :=
  match f with
  | .next => ∃ σ' H', Inv X pins σ' H' s' ∧ D.nx σ' H'
  | .brk => ∃ σ' H', Inv X pins σ' H' s' ∧ D.bk σ' H'
  | .cont => ∃ σ' H', Inv X pins σ' H' s' ∧ D.ct σ' H'
  | .ret u => ∃ v σ' H', Inv X pins σ' H' s' ∧ RelV v u ∧ D.rt v H'
def PE (X : Cx) (e : Expr) (t : TE) : Prop :=
  ∀ (pins : List (Addr × Obj)) (s : Shared) (σ : St) (H : Hp) (Q : VK), Inv X pins σ H s → t σ H Q → wpAny (model X.prog X.w) X.A (eval e X.env) (EP X pins σ Q) X.xe s
def PT (X : Cx) (e : Expr) (t : TT) : Prop :=
  ∀ (pins : List (Addr × Obj)) (s : Shared) (σ : St) (H : Hp) (Q : Bool → Hp → Prop), Inv X pins σ H s → t σ H Q → wpAny (model X.prog X.w) X.A (isTrue e X.env (eval e X.env)) (TP X pins σ Q) X.xe s
def PW (X : Cx) (e : Expr) (t : TT) : Prop :=
  ∀ (whole : Sem Value) (pins : List (Addr × Obj)) (s : Shared) (σ : St) (H : Hp) (Q : Bool → Hp → Prop), Inv X pins σ H s → t σ H Q → wpAny (model X.prog X.w) X.A (isTrue e X.env whole) (TP X pins σ Q) X.xe s
theorem PW.pt {X : Cx} {e : Expr} {t : TT} (h : PW X e t) : PT X e t := h _
def PA (X : Cx) (es : List Expr) (t : TA) : Prop :=
  ∀ (pos : Pos) (pins : List (Addr × Obj)) (s : Shared) (σ : St) (H : Hp) (Q : List V → Hp → Prop), Inv X pins σ H s → t σ H Q → wpAny (model X.prog X.w) X.A (spliced (backTo pos (starEach es X.env))) (AP X pins σ Q) X.xe s
def PS (X : Cx) (st : Stmt) (t : TS) : Prop :=
  ∀ (pins : List (Addr × Obj)) (s : Shared) (σ : St) (H : Hp) (D : Ends), Inv X pins σ H s → t D σ H → wpAny (model X.prog X.w) X.A (exec st X.env) (SP X pins D) X.xe s
def PSs (X : Cx) (st : List Stmt) (t : TS) : Prop :=
  ∀ (pins : List (Addr × Obj)) (s : Shared) (σ : St) (H : Hp) (D : Ends), Inv X pins σ H s → t D σ H → wpAny (model X.prog X.w) X.A (execs st X.env) (SP X pins D) X.xe s
theorem thn {α : Type} {t : Sem α} {Q Q' : α → Shared → Prop} {M : Model} {A : Around} {E : Value → Shared → Prop} {s : Shared} (h : wpAny M A t Q E s) (hQ : ∀ a s, Q a s → Q' a s) : wpAny M A t Q' E s := wpAny_mono h hQ fun _ _ x => x
end L2
namespace L2
open PySem PySem.Spec PyProof.Rows
section
variable {X : Cx}
theorem bin {a b : Expr} {ta tb : TE} (ha : PE X a ta) (hb : PE X b tb) {pins : List (Addr × Obj)} {s : Shared} {σ : St} {H : Hp} {R : V → V → Hp → Prop} (I : Inv X pins σ H s) (h : ta σ H fun x H1 => tb σ H1 fun y H2 => R x y H2)
    {α : Type} {Q : α → Shared → Prop} {f : Value → Value → Sem α}
    (hf : ∀ v u s2 x y H2, Inv X pins σ H2 s2 → RelV x v → RelV y u → R x y H2 → wpAny (model X.prog X.w) X.A (f v u) Q X.xe s2) :
    wpAny (model X.prog X.w) X.A (eval a X.env) (fun v s₁ => wpAny (model X.prog X.w) X.A (eval b X.env) (fun u s₂ => wpAny (model X.prog X.w) X.A (f v u) Q X.xe s₂) X.xe s₁) X.xe s := by
  refine thn (ha pins s σ H _ I h) fun v s1 ⟨x, H1, I1, r1, q1⟩ => ?_
  refine thn (hb pins s1 σ H1 _ I1 q1) fun u s2 ⟨y, H2, I2, r2, q2⟩ => ?_
  exact hf v u s2 x y H2 I2 r1 r2 q2
def tVar (i : Nat) : TE := fun σ H Q => ∃ v, σ[i]? = some (some v) ∧ Q v H
def tC (v : V) : TE := fun _ H Q => Q v H
theorem pe_var {i : Nat} {x : Str} {pos : Pos} (hN : X.N[i]? = some x) (hv : Vis X.env.scope x) (hd : (x == ("__debug__" : Str)) = false := by decide) (hcd : (x == ("__classdict__" : Str)) = false := by decide) : PE X (.Name x pos) (tVar i) := by
  intro pins s σ H Q I h
  obtain ⟨v, e, h⟩ := h
  obtain ⟨m, hn, hl⟩ := I.loc
  obtain ⟨u, r, l⟩ := hl i x v hN e hv
  have fin : EP X pins σ Q u s := ⟨v, H, I, r, h⟩
  rcases l with ⟨hk, hm⟩ | ⟨hk, c, hc, hcell⟩
  · exact wpAny_Name (wpAny_loadName_local I.ok.kind hk hn hm fin) hd
  · rcases hk with hk | hk
    · exact wpAny_Name (wpAny_loadName_cell I.ok.kind hk hc hcell fin) hd
    · exact wpAny_Name (wpAny_loadName_free I.ok.kind hk hc hcell fin hcd) hd
theorem pe_int {i j pos} : PE X (.Constant (.int i) j pos) (tC (.int i)) := fun _ _ _ H _ I h => wpAny_Constant_int ⟨.int i, H, I.tok _, ⟨_, rfl⟩, h⟩
theorem pe_bl {b j pos} : PE X (.Constant (.bool b) j pos) (tC (.bl b)) := fun _ _ _ H _ I h => Constant_bool ⟨.bl b, H, I, rfl, h⟩
theorem pe_non {j pos} : PE X (.Constant .none j pos) (tC .non) := fun _ _ _ H _ I h => Constant_none ⟨.non, H, I, rfl, h⟩
theorem pe_str {x j pos} : PE X (.Constant (.str x) j pos) (tC (.str x)) := fun _ _ _ H _ I h => Calls.Constant_str ⟨.str x, H, I.tok _, ⟨_, rfl⟩, h⟩
def Gl (X : Cx) (x : Str) : Prop := X.env.kindOf x = some .globalImplicit
theorem ld_glob {E : Value → Shared → Prop} {pins : List (Addr × Obj)} {s : Shared} {σ : St} {H : Hp} {x : Str} {u : Value} {pos : Pos} {Q : Value → Shared → Prop} (I : Inv X pins σ H s) (hg : Gl X x) (hm : X.mg x = some u) (h : Q u s)
    (hd : (x == ("__debug__" : Str)) = false := by decide) : wpAny (model X.prog X.w) X.A (eval (.Name x pos) X.env) Q E s :=
  Calls.Name_function_global I.ok.kind hg (Calls.loadGlobal_global (by rw [I.ok.glob]; exact I.mod.glob.keeps I.bk) hm h) hd
theorem ld_blt {E : Value → Shared → Prop} {pins : List (Addr × Obj)} {s : Shared} {σ : St} {H : Hp} {x : Str} {u : Value} {pos : Pos} {Q : Value → Shared → Prop} (I : Inv X pins σ H s) (hg : Gl X x) (hm : X.mg x = none) (hv : bootBuiltins x = some u) (h : Q u s)
    (hn : x ≠ "__name__" := by decide) (hd : (x == ("__debug__" : Str)) = false := by decide) : wpAny (model X.prog X.w) X.A (eval (.Name x pos) X.env) Q E s := by
  obtain ⟨mb, h1, h2⟩ := I.mod.blt
  exact Calls.Name_function_global I.ok.kind hg (Calls.loadGlobal_builtin (by rw [I.ok.glob]; exact I.mod.glob.keeps I.bk) hm (by rw [I.ok.blt]; exact h1.keeps I.bk) ((h2 x hn).trans hv) h) hd
theorem pe_glob {x : Str} {v : V} {u : Value} {pos : Pos} (hg : Gl X x) (hm : X.mg x = some u) (r : RelV v u) (hd : (x == ("__debug__" : Str)) = false := by decide) : PE X (.Name x pos) (tC v) :=
  fun _ _ _ H _ I h => ld_glob I hg hm ⟨v, H, I, r, h⟩ hd
theorem pe_bltn {x : Str} {v : V} {u : Value} {pos : Pos} (hg : Gl X x) (hm : X.mg x = none) (hv : bootBuiltins x = some u) (r : RelV v u) (hn : x ≠ "__name__" := by decide) (hd : (x == ("__debug__" : Str)) = false := by decide) : PE X (.Name x pos) (tC v) :=
  fun _ _ _ H _ I h => ld_blt I hg hm hv ⟨v, H, I, r, h⟩ hn hd
variable {a b : Expr} {ta tb : TE} {pos : Pos}
def PC (X : Cx) (op : CmpOp) (a b : Expr) (t : TE) : Prop :=
  ∀ (pins : List (Addr × Obj)) (s : Shared) (σ : St) (H : Hp) (Q : VK), Inv X pins σ H s → t σ H Q →
    wpAny (model X.prog X.w) X.A (eval a X.env) (fun v s₁ => wpAny (model X.prog X.w) X.A (eval b X.env) (fun u s₂ => wpAny (model X.prog X.w) X.A (compareOp op v u) (EP X pins σ Q) X.xe s₂) X.xe s₁) X.xe s
theorem nobehind (b : Expr) {op : CmpOp} (h : op ≠ .In) (h2 : op ≠ .NotIn) : behindInMarks op b = false := by
  have e1 : (op == CmpOp.In) = false := by cases op <;> first | rfl | exact absurd rfl h
  have e2 : (op == CmpOp.NotIn) = false := by cases op <;> first | rfl | exact absurd rfl h2
  cases b <;> simp [behindInMarks, e1, e2]
def tB (t : TE) : TT := fun σ H Q => t σ H fun x H1 => ∃ c, x = .bl c ∧ Q c H1
theorem pt_cmp {op : CmpOp} {t : TE} (h : PC X op a b t) (h1 : behindInMarks op b = false := by first | exact nobehind _ (by decide) (by decide) | rfl) : PT X (.Compare a [op] [b] pos) (tB t) := by
  intro pins s σ H Q I hw
  refine wpAny_isTrue_Compare1 (thn (h pins s σ H _ I hw) fun v s1 h1 => thn h1 fun u s2 h2 => thn h2 fun c s3 ⟨x, H1, I1, r1, q1⟩ => ?_) h1
  obtain ⟨d, rfl, q⟩ := q1
  cases r1
  exact wpAny_truthy_bool ⟨H1, I1, q⟩
theorem pt_val {e : Expr} {t : TE} (h : PE X e t) (he : ∀ whole, isTrue e X.env whole = (do let v ← whole; standAt e.pos; holding [v] (truthy v)) := by intro _; rfl) : PT X e (tB t) := by
  intro pins s σ H Q I hw
  refine isTrue_plain (thn (h pins s σ H _ I hw) fun v s1 ⟨x, H1, I1, r1, q1⟩ => ?_) (he _)
  obtain ⟨d, rfl, q⟩ := q1
  cases r1
  exact wpAny_truthy_bool ⟨H1, I1, q⟩
variable {tA tB' : TT} {rest : List Expr}
def tAnd (t u : TT) : TT := fun σ H Q => t σ H fun c H1 => if c = true then u σ H1 Q else Q false H1
def tOr (t u : TT) : TT := fun σ H Q => t σ H fun c H1 => if c = true then Q true H1 else u σ H1 Q
def tNot (t : TT) : TT := fun σ H Q => t σ H fun c H1 => Q (!c) H1
theorem pw_and1 (ha : PT X a tA) : PW X (.BoolOp .And [a] pos) tA := by
  intro wh pins s σ H Q I h
  refine isTrue_and (thn (ha pins s σ H Q I h) fun c s1 e => ?_)
  cases c with
  | true => exact isTrue_and_nil e
  | false => exact e
theorem pw_or1 (ha : PT X a tA) : PW X (.BoolOp .Or [a] pos) tA := by
  intro wh pins s σ H Q I h
  refine isTrue_or (thn (ha pins s σ H Q I h) fun c s1 e => ?_)
  cases c with
  | false => exact isTrue_or_nil e
  | true => exact e
theorem pw_and (ha : PT X a tA) (hb : PW X (.BoolOp .And (b :: rest) pos) tB') : PW X (.BoolOp .And (a :: b :: rest) pos) (tAnd tA tB') := by
  intro wh pins s σ H Q I h
  refine isTrue_and (thn (ha pins s σ H _ I h) fun c s1 ⟨H1, I1, q1⟩ => ?_)
  cases c with
  | true => exact hb wh pins s1 σ H1 Q I1 q1
  | false => exact ⟨H1, I1, q1⟩
theorem pw_or (ha : PT X a tA) (hb : PW X (.BoolOp .Or (b :: rest) pos) tB') : PW X (.BoolOp .Or (a :: b :: rest) pos) (tOr tA tB') := by
  intro wh pins s σ H Q I h
  refine isTrue_or (thn (ha pins s σ H _ I h) fun c s1 ⟨H1, I1, q1⟩ => ?_)
  cases c with
  | true => exact ⟨H1, I1, q1⟩
  | false => exact hb wh pins s1 σ H1 Q I1 q1
theorem pt_not (ha : PT X a tA) : PT X (.UnaryOp .Not a pos) (tNot tA) := by
  intro pins s σ H Q I h
  exact isTrue_not (ha pins s σ H (fun c H1 => Q (!c) H1) I h)
def tAndV (ta tb : TE) : TE := fun σ H Q => ta σ H fun x H1 => ∃ c, x = .bl c ∧ if c = true then tb σ H1 Q else Q (.bl false) H1
def tOrV (ta tb : TE) : TE := fun σ H Q => ta σ H fun x H1 => ∃ c, x = .bl c ∧ if c = true then Q (.bl true) H1 else tb σ H1 Q
def tNotV (ta : TE) : TE := fun σ H Q => ta σ H fun x H1 => ∃ c, x = .bl c ∧ Q (.bl (!c)) H1
theorem pe_one {op} {t : TE} (h : PE X a t) : PE X (.BoolOp op [a] pos) t := fun pins s σ H Q I hw => BoolOp_one (h pins s σ H Q I hw)
theorem pe_and (ha : PE X a ta) (hb : PE X (.BoolOp .And (b :: rest) pos) tb) : PE X (.BoolOp .And (a :: b :: rest) pos) (tAndV ta tb) := by
  intro pins s σ H Q I h
  refine BoolOp_and (thn (ha pins s σ H _ I h) fun v s1 ⟨x, H1, I1, r1, q1⟩ => ?_)
  obtain ⟨c, rfl, q1⟩ := q1
  cases r1
  refine wpAny_truthy_bool ?_
  cases c with
  | true => exact hb pins s1 σ H1 Q I1 q1
  | false => exact ⟨.bl false, H1, I1, rfl, q1⟩
theorem pe_or (ha : PE X a ta) (hb : PE X (.BoolOp .Or (b :: rest) pos) tb) : PE X (.BoolOp .Or (a :: b :: rest) pos) (tOrV ta tb) := by
  intro pins s σ H Q I h
  refine BoolOp_or (thn (ha pins s σ H _ I h) fun v s1 ⟨x, H1, I1, r1, q1⟩ => ?_)
  obtain ⟨c, rfl, q1⟩ := q1
  cases r1
  refine wpAny_truthy_bool ?_
  cases c with
  | false => exact hb pins s1 σ H1 Q I1 q1
  | true => exact ⟨.bl true, H1, I1, rfl, q1⟩
theorem pe_not (ha : PE X a ta) : PE X (.UnaryOp .Not a pos) (tNotV ta) := by
  intro pins s σ H Q I h
  refine UnaryOp_ (thn (ha pins s σ H _ I h) fun v s1 ⟨x, H1, I1, r1, q1⟩ => ?_)
  obtain ⟨c, rfl, q1⟩ := q1
  cases r1
  exact not_of (wpAny_truthy_bool ⟨.bl (!c), H1, I1, rfl, q1⟩)
def tIf (t : TT) (ta tb : TE) : TE := fun σ H Q => t σ H fun c H1 => if c = true then ta σ H1 Q else tb σ H1 Q
theorem pe_ifExp {c : Expr} (hc : PT X c tA) (ha : PE X a ta) (hb : PE X b tb) : PE X (.IfExp c a b pos) (tIf tA ta tb) := by
  intro pins s σ H Q I h
  refine wpAny_IfExp (thn (hc pins s σ H _ I h) fun d s1 ⟨H1, I1, q1⟩ => ?_)
  cases d with
  | true => exact ha pins s1 σ H1 Q I1 q1
  | false => exact hb pins s1 σ H1 Q I1 q1
end
end L2
namespace L2
open PySem PySem.Spec PyProof.Rows
def SqL (K : PySem.W.Frag) (H : Hp) (a : Addr) (xs : List V) : Prop :=
  Rd H a (.lst xs) ∨
    ∃ (o : Obj) (its : Array Value) (n : Nat), K.lookup a = some o ∧ o.cls = .type "list" ∧ o.dict = none ∧ o.data = .seq its n ∧ its.size ≤ sizeLine ∧ Vals xs its.toList
def SqT (K : PySem.W.Frag) (H : Hp) (a : Addr) (xs : List V) : Prop :=
  Rd H a (.tup xs) ∨
    ∃ (o : Obj) (its : Array Value) (n : Nat), K.lookup a = some o ∧ o.cls = .type "tuple" ∧ o.data = .seq its n ∧ its.size ≤ sizeLine ∧ Vals xs its.toList
def absV : Value → Option V
  | .none => some .non
  | .bool b => some (.bl b)
  | .int i _ => some (.int i)
  | .str x _ => some (.str x)
  | .bytes b _ => some (.byt b)
  | .float b _ => some (.flt b)
  | .ref a => some (.ref a)
  | .type n => some (.ty n)
  | _ => none
theorem RelV.abs {x : V} {u : Value} (r : RelV x u) : absV u = some x := by
  cases x with
  | non => cases r; rfl
  | bl _ => cases r; rfl
  | int _ => obtain ⟨t, rfl⟩ := r; rfl
  | str _ => obtain ⟨t, rfl⟩ := r; rfl
  | byt _ => obtain ⟨t, rfl⟩ := r; rfl
  | flt _ => obtain ⟨t, rfl⟩ := r; rfl
  | ref _ => cases r; rfl
  | ty _ => cases r; rfl
theorem RelV.inj {x y : V} {u : Value} (r : RelV x u) (q : RelV y u) : x = y := Option.some.inj (r.abs.symm.trans q.abs)
theorem Vals.inj : ∀ {xs ys : List V} {us : List Value}, Vals xs us → Vals ys us → xs = ys
  | _, _, _, .nil, .nil => rfl
  | _, _, _, .cons r t, .cons r' t' => by rw [r.inj r', Vals.inj t t']
section
variable {X : Cx} {pins : List (Addr × Obj)} {σ : St} {H : Hp} {s : Shared} {a : Addr} {xs ys : List V}
theorem SqL.of {K : PySem.W.Frag} (h : H a = some (.lst xs)) : SqL K H a xs := .inl (.inl h)
theorem SqT.of {K : PySem.W.Frag} (h : H a = some (.tup xs)) : SqT K H a xs := .inl (.inl h)
theorem Inv.list (I : Inv X pins σ H s) (h : SqL X.K H a xs) : ∃ its : List Value, Vals xs its ∧ PlainL s.heap a its.toArray ∧ xs.length ≤ sizeLine := by
  rcases h with h | ⟨o, its, n, hk, hc, hd, hs, hz, r⟩
  · obtain ⟨z, its, n, r, e⟩ := h.ok I.hok
    exact ⟨its, r, ⟨_, n, e, rfl, rfl, rfl⟩, z⟩
  · refine ⟨its.toList, r, ⟨o, n, I.kIn a o hk, hc, hd, by simpa using hs⟩, ?_⟩
    have e := r.length
    simp only [Array.length_toList] at e
    omega
theorem Inv.tuple (I : Inv X pins σ H s) (h : SqT X.K H a xs) : ∃ its : List Value, Vals xs its ∧ IsTup s.heap a its.toArray ∧ xs.length ≤ sizeLine := by
  rcases h with h | ⟨o, its, n, hk, hc, hs, hz, r⟩
  · obtain ⟨z, its, r, p⟩ := h.ok I.hok
    exact ⟨its, r, p, z⟩
  · refine ⟨its.toList, r, ⟨o, I.kIn a o hk, hc, n, by simpa using hs⟩, ?_⟩
    have e := r.length
    simp only [Array.length_toList] at e
    omega
theorem Inv.list_inj (I : Inv X pins σ H s) (h : SqL X.K H a xs) (h' : SqL X.K H a ys) : xs = ys := by
  obtain ⟨its, r, ⟨o, n, e, _, _, d⟩, _⟩ := I.list h
  obtain ⟨its', r', ⟨o', n', e', _, _, d'⟩, _⟩ := I.list h'
  rw [e] at e'; cases e'
  rw [d] at d'
  injection d' with d1 _
  have : its = its' := by simpa using congrArg Array.toList d1
  subst this
  exact r.inj r'
theorem Inv.tuple_inj (I : Inv X pins σ H s) (h : SqT X.K H a xs) (h' : SqT X.K H a ys) : xs = ys := by
  obtain ⟨its, r, ⟨o, e, _, n, d⟩, _⟩ := I.tuple h
  obtain ⟨its', r', ⟨o', e', _, n', d'⟩, _⟩ := I.tuple h'
  rw [e] at e'; cases e'
  rw [d] at d'
  injection d' with d1 _
  have : its = its' := by simpa using congrArg Array.toList d1
  subst this
  exact r.inj r'
end
abbrev Cx.wish (X : Cx) (E : Value → Shared → Prop) : Cx := { X with xe := E }
abbrev Cx.nox (X : Cx) : Cx := X.wish fun _ _ => False
theorem Cx.Ok.wish {X : Cx} (ok : X.Ok) (E : Value → Shared → Prop) : (X.wish E).Ok :=
  ⟨ok.mod, ok.kind, ok.glob, ok.blt, ok.above, ok.inj, ok.has, ok.cab, ok.hd, ok.frames, ok.stk, ok.exf, ok.bs, ok.bsz, ok.noex, ok.exfs, ok.funs, ok.frf⟩
theorem Cx.Ok.unwish {X : Cx} {E : Value → Shared → Prop} (ok : (X.wish E).Ok) : X.Ok :=
  ⟨ok.mod, ok.kind, ok.glob, ok.blt, ok.above, ok.inj, ok.has, ok.cab, ok.hd, ok.frames, ok.stk, ok.exf, ok.bs, ok.bsz, ok.noex, ok.exfs, ok.funs, ok.frf⟩
section
variable {X : Cx} {pins : List (Addr × Obj)} {σ : St} {H : Hp} {s : Shared} {E : Value → Shared → Prop}
theorem Inv.wish (I : Inv X pins σ H s) (E : Value → Shared → Prop) : Inv (X.wish E) pins σ H s := ⟨I.ok.wish E, I.os, I.bare, I.base, I.loc, I.cell, I.free, I.freeC, I.pin, I.hok, I.len⟩
theorem Inv.unwish (I : Inv (X.wish E) pins σ H s) : Inv X pins σ H s := ⟨I.ok.unwish, I.os, I.bare, I.base, I.loc, I.cell, I.free, I.freeC, I.pin, I.hok, I.len⟩
theorem SP.unwish {D : Ends} {f : Flow} {s' : Shared} (h : SP (X.wish E) pins D f s') : SP X pins D f s' := by
  cases f with
  | next => obtain ⟨σ', H', I, q⟩ := h; exact ⟨σ', H', I.unwish, q⟩
  | brk => obtain ⟨σ', H', I, q⟩ := h; exact ⟨σ', H', I.unwish, q⟩
  | cont => obtain ⟨σ', H', I, q⟩ := h; exact ⟨σ', H', I.unwish, q⟩
  | ret u => obtain ⟨v, σ', H', I, r, q⟩ := h; exact ⟨v, σ', H', I.unwish, r, q⟩
theorem PSs.nox {st : List Stmt} {t : TS} (h : PSs X.nox st t) : PSs X st t := fun pins s σ H D I hw =>
  wpAny_mono (h pins s σ H D (I.wish _) hw) (fun _ _ q => q.unwish) fun _ _ z => False.elim z
end
section
variable {X : Cx} {st : Stmt} {rest : List Stmt} {t u : TS} {e : Expr} {te : TE} {pos : Pos}
def tNext : TS := fun D σ H => D.nx σ H
def tSeq (t u : TS) : TS := fun D σ H => t { D with nx := u D } σ H
theorem pss_nil : PSs X [] tNext := fun _ _ σ H _ I h => wpAny_execs_nil ⟨σ, H, I, h⟩
theorem pss_cons (h1 : PS X st t) (h2 : PSs X rest u) : PSs X (st :: rest) (tSeq t u) := by
  intro pins s σ H D I h
  refine wpAny_execs_cons (thn (h1 pins s σ H { D with nx := u D } I h) fun f s1 q => ?_)
  cases f with
  | next =>
    obtain ⟨σ', H', I', q⟩ := q
    exact h2 pins s1 σ' H' D I' q
  | ret v => exact q
  | brk => exact q
  | cont => exact q
theorem pss_one (h1 : PS X st t) : PSs X [st] t := by
  intro pins s σ H D I h
  refine wpAny_execs_cons (thn (h1 pins s σ H D I h) fun f s1 q => ?_)
  cases f with
  | next => exact wpAny_execs_nil q
  | ret v => exact q
  | brk => exact q
  | cont => exact q
theorem Inv.quiet {pins : List (Addr × Obj)} {σ : St} {H : Hp} {s : Shared} (I : Inv X pins σ H s) : interactive X.env = false := by simp [interactive, I.ok.kind]
def tDrop (te : TE) : TS := fun D σ H => te σ H fun _ H1 => D.nx σ H1
theorem ps_expr (he : PE X e te) (hs : swapsWith e none pos.line X.env = pure false := by rfl) : PS X (.Expr e pos) (tDrop te) := by
  intro pins s σ H D I h
  exact wpAny_Expr_any (thn (he pins s σ H _ I h) fun v s1 ⟨x, H1, I1, r1, q1⟩ => ⟨σ, H1, I1, q1⟩) I.quiet hs
def tRet (te : TE) : TS := fun D σ H => te σ H D.rt
theorem ps_ret (he : PE X e te) : PS X (.Return (some e) pos) (tRet te) := by
  intro pins s σ H D I h
  exact wpAny_Return_some (thn (he pins s σ H _ I h) fun v s1 ⟨x, H1, I1, r1, q1⟩ => ⟨x, σ, H1, I1, r1, q1⟩)
def tIfS (c : TT) (t u : TS) : TS := fun D σ H => c σ H fun b H1 => if b = true then t D σ H1 else u D σ H1
theorem ps_if {c : Expr} {a b : List Stmt} {tc : TT} (hc : PT X c tc) (ha : PSs X a t) (hb : PSs X b u) : PS X (.If c a b pos) (tIfS tc t u) := by
  intro pins s σ H D I h
  refine wpAny_If (thn (hc pins s σ H _ I h) fun d s1 ⟨H1, I1, q1⟩ => ?_)
  cases d with
  | true => exact ha pins s1 σ H1 D I1 q1
  | false => exact hb pins s1 σ H1 D I1 q1
def tNever : TS := fun _ _ _ => False
theorem ps_never : PS X st tNever := fun _ _ _ _ _ _ h => h.elim
end
abbrev TG := V → St → Hp → (St → Hp → Prop) → Prop
abbrev TGs := List V → St → Hp → (St → Hp → Prop) → Prop
def PG (X : Cx) (target : Expr) (t : TG) : Prop :=
  ∀ (pins : List (Addr × Obj)) (s : Shared) (σ : St) (H : Hp) (v : V) (u : Value) (Q : St → Hp → Prop), Inv X pins σ H s → RelV v u → t v σ H Q →
    wpAny (model X.prog X.w) X.A (assign target X.env u) (fun _ s' => ∃ σ' H', Inv X pins σ' H' s' ∧ Q σ' H') X.xe s
def PGs (X : Cx) (ts : List Expr) (t : TGs) : Prop :=
  ∀ (pins : List (Addr × Obj)) (s : Shared) (σ : St) (H : Hp) (vs : List V) (us : List Value) (Q : St → Hp → Prop), Inv X pins σ H s → Vals vs us → t vs σ H Q →
    wpAny (model X.prog X.w) X.A (assignInOrder ((assignEach ts X.env).map (·.2)) us) (fun _ s' => ∃ σ' H', Inv X pins σ' H' s' ∧ Q σ' H') X.xe s
abbrev TSet := V → V → V → Hp → (Hp → Prop) → Prop
def PSet (X : Cx) (t : TSet) : Prop :=
  ∀ (pins : List (Addr × Obj)) (s : Shared) (σ : St) (H : Hp) (o i v : V) (ov iv u : Value) (Q : Hp → Prop), Inv X pins σ H s → RelV o ov → RelV i iv → RelV v u → t o i v H Q →
    wpAny (model X.prog X.w) X.A (setItem ov iv u) (fun _ s' => ∃ H', Inv X pins σ H' s' ∧ Q H') X.xe s
section
variable {X : Cx} {pos : Pos}
def gName (i : Nat) : TG := fun v σ H Q => Q (σ.set i (some v)) H
theorem pg_name {i : Nat} {x : Str} (hN : X.N.Nodup) (hi : X.N[i]? = some x) (hx : Loc X.env.scope x) (hf : X.fn x = true ∨ X.env.scope.names.lookup x = some .local := by first | exact .inl rfl | exact .inr rfl | assumption) : PG X (.Name x pos) (gName i) := by
  intro pins s σ H v u Q I r h
  exact wpAny_assign_Name (store_ok I hN hi hx r (fun s' I' => ⟨_, H, I', h⟩) hf)
def gNil : TGs := fun vs σ H Q => vs = [] ∧ Q σ H
def gCons (t : TG) (u : TGs) : TGs := fun vs σ H Q => ∃ v r, vs = v :: r ∧ t v σ H fun σ' H' => u r σ' H' Q
theorem pgs_nil : PGs X [] gNil := by
  intro pins s σ H vs us Q I r h
  obtain ⟨e, h⟩ := h
  subst e
  cases r
  exact assignInOrder_nil ⟨σ, H, I, h⟩
theorem pgs_cons {e : Expr} {es : List Expr} {t : TG} {u : TGs} (h1 : PG X e t) (h2 : PGs X es u)
    (hs : (assignEach (e :: es) X.env).map (·.2) = assign e X.env :: (assignEach es X.env).map (·.2) := by rfl) : PGs X (e :: es) (gCons t u) := by
  intro pins s σ H vs us Q I r h
  obtain ⟨v, vr, e1, h⟩ := h
  subst e1
  cases r with
  | cons r rr =>
    rw [hs]
    refine assignInOrder_cons (thn (h1 pins s σ H _ _ _ I r h) fun _ s1 ⟨σ1, H1, I1, q1⟩ => ?_)
    exact h2 pins s1 σ1 H1 _ _ Q I1 rr q1
def gTup (K : PySem.W.Frag) (n : Nat) (t : TGs) : TG := fun v σ H Q => ∃ a xs, v = .ref a ∧ SqT K H a xs ∧ xs.length = n ∧ t xs σ H Q
theorem pg_tup {es : List Expr} {k : Nat} {t : TGs} {n : Nat} (hc : X.calm = true) (h : PGs X es t)
    (hn : (assignEach es X.env).length = n := by rfl) (hst : (assignEach es X.env).findIdx? (·.1) = none := by rfl) : PG X (.Tuple es k pos) (gTup X.K n t) := by
  intro pins s σ H v u Q I r hw
  obtain ⟨a, xs, e1, hq, hl, hw⟩ := hw
  subst e1
  cases r
  obtain ⟨its, rv, ht, hz⟩ := I.tuple hq
  refine assign_Tuple_tuple (I.ok.hd hc) ht (by simp [hn, ← hl, rv.length]) hst fun h' hx => ?_
  have I1 : Inv X pins σ H { s with heap := h' } := I.kept (t' := s.toks) fun b o e => hx b o (Nat.ne_of_lt (Heap.lt_size e)) e
  exact h pins _ σ H xs _ Q I1 (by simpa using rv) hw
def gSub (to ti : TE) (t : TSet) : TG := fun v σ H Q => to σ H fun o H1 => ti σ H1 fun i H2 => t o i v H2 fun H3 => Q σ H3
theorem pg_sub {o i : Expr} {to ti : TE} {t : TSet} (ho : PE X o to) (hi : PE X i ti) (hs : PSet X t)
    (ha : ∀ v, assign (.Subscript o i pos) X.env v = (do
      let ov ← holding [v] (eval o X.env)
      let iv ← holding [v, ov] (eval i X.env)
      standAt pos
      holding [v, ov, iv] (setItem ov iv v)
      release [v, ov, iv] []) := by intro _; rfl) : PG X (.Subscript o i pos) (gSub to ti t) := by
  intro pins s σ H v u Q I r h
  rw [ha]
  refine wpAny_bind (wpAny_holding (thn (ho pins s σ H _ I h) fun ov s1 ⟨x, H1, I1, r1, q1⟩ => ?_))
  refine wpAny_bind (wpAny_holding (thn (hi pins s1 σ H1 _ I1 q1) fun iv s2 ⟨y, H2, I2, r2, q2⟩ => ?_))
  refine wpAny_bind (wpAny_standAt (wpAny_bind (wpAny_holding (thn (hs pins s2 σ H2 x y v ov iv u _ I2 r1 r2 r q2) fun _ s3 ⟨H3, I3, q3⟩ => ?_))))
  exact wpAny_release ⟨σ, H3, I3, q3⟩
def tAsg (te : TE) (g : TG) : TS := fun D σ H => te σ H fun x H1 => g x σ H1 D.nx
theorem ps_asg {tg e : Expr} {te : TE} {g : TG} (he : PE X e te) (hg : PG X tg g) (hs : swapsWithSole [tg] e pos.line X.env = pure false := by rfl) (hw : swappedStores [tg] e X.env = pure none := by rfl)
    (h1 : (assignEach [tg] X.env).map (·.2) = [assign tg X.env] := by rfl) : PS X (.Assign [tg] e pos) (tAsg te g) := by
  intro pins s σ H D I h
  refine wpAny_Assign_stores (thn (he pins s σ H _ I h) fun v s1 ⟨x, H1, I1, r1, q1⟩ => ?_) hs hw
  rw [h1]
  exact thn (hg pins s1 σ H1 x v _ I1 r1 q1) fun _ s2 q => q
theorem ps_set {i : Nat} {x : Str} {e : Expr} {te : TE} {pos' : Pos} (hN : X.N.Nodup) (hi : X.N[i]? = some x) (hx : Loc X.env.scope x) (he : PE X e te) (hs : swapsWith e (some (.Name x pos')) pos.line X.env = pure false := by rfl) (hf : X.fn x = true ∨ X.env.scope.names.lookup x = some .local := by first | exact .inl rfl | exact .inr rfl | assumption) :
    PS X (.Assign [.Name x pos'] e pos) (tAsg te (gName i)) := by
  intro pins s σ H D I h
  refine wpAny_Assign_Name (thn (he pins s σ H _ I h) fun v s1 ⟨y, H1, I1, r1, q1⟩ => ?_) hs
  exact store_ok I1 hN hi hx r1 (fun s2 I2 => ⟨_, H1, I2, q1⟩) hf
def tPar (i j : Nat) (ta : TA) : TS := fun D σ H => ta σ H fun vs H1 => ∃ v w, vs = [v, w] ∧ D.nx ((σ.set i (some v)).set j (some w)) H1
theorem ps_par {i j : Nat} {x y : Str} {a b : Expr} {ta : TA} {px py pt : Pos} {kt k2 pt2} (hc : X.calm = true) (hN : X.N.Nodup) (hi : X.N[i]? = some x) (hj : X.N[j]? = some y) (hij : i ≠ j)
    (hx : X.env.scope.names.lookup x = some .local) (hy : X.env.scope.names.lookup y = some .local) (ha : PA X [a, b] ta)
    (hw : swappedStores [.Tuple [.Name x px, .Name y py] kt pt] (.Tuple [a, b] k2 pt2) X.env = pure (some [x, y]))
    (hs : swapsWithSole [.Tuple [.Name x px, .Name y py] kt pt] (.Tuple [a, b] k2 pt2) pos.line X.env = pure false := by rfl) :
    PS X (.Assign [.Tuple [.Name x px, .Name y py] kt pt] (.Tuple [a, b] k2 pt2) pos) (tPar i j ta) := by
  intro pins s σ H D I h
  rw [exec_Assign_arm]
  refine wpAny_bind (wpAny_standAt ?_)
  rw [hs]
  refine wpAny_bind (wpAny_pure ?_)
  rw [if_neg (by decide)]
  refine wpAny_bind (Tuple_ (thn (ha _ pins s σ H _ I h) fun us s1 ⟨vs, H1, I1, r1, q1⟩ => ?_))
  obtain ⟨v, w, e1, q1⟩ := q1
  subst e1
  obtain ⟨u1, u2, rfl, rv, rw'⟩ : ∃ u1 u2, us = [u1, u2] ∧ RelV v u1 ∧ RelV w u2 := by
    cases r1 with
    | cons p q =>
      cases q with
      | cons p' q' =>
        cases q'
        exact ⟨_, _, rfl, p, p'⟩
  refine wpAny_newObj_type ?_ (by show 2 ≤ sizeLine; decide)
  have I2 : Inv X pins σ H1 { s1 with heap := s1.heap.push { cls := .type "tuple", data := .seq [u1, u2].toArray } } := I1.kept (t' := s1.toks) fun b o e => Heap.get?_push_of_some _ e
  rw [hw]
  refine wpAny_bind (wpAny_pure ?_)
  show wpAny (model X.prog X.w) X.A (do rule "assign.swapped-stores"; let items ← unpackItems (.ref s1.heap.objs.size) 2 none; assignInOrder [fun v => bindName X.env y v, fun v => bindName X.env x v] items.reverse; pure Flow.next) _ _ _
  refine wpAny_bind (wpAny_rule (wpAny_bind (unpackItems_tuple (items := #[u1, u2]) (I.ok.hd hc) (IsTup.new s1.heap _) fun h' hx' => ?_)))
  have I3 := I2.kept (h' := h') (t' := s1.toks) fun b o e => hx' b o (Nat.ne_of_lt (Heap.lt_size e)) e
  show wpAny _ _ (assignInOrder [fun v => bindName X.env y v, fun v => bindName X.env x v] [u2, u1] >>= fun _ => pure Flow.next) _ _ _
  refine wpAny_bind (assignInOrder_cons (wpAny_bindName (store_ok I3 hN hj (.inl hy) rw' (fun s2 I4 => ?_) (.inr hy))))
  refine assignInOrder_cons (wpAny_bindName (store_ok I4 hN hi (.inl hx) rv (fun s3 I5 => assignInOrder_nil (wpAny_pure ?_)) (.inr hx)))
  rw [List.set_comm _ _ (Ne.symm hij)] at I5
  exact ⟨_, H1, I5, q1⟩
end
section
variable {X : Cx} {pos : Pos}
def tWhile (c : TT) (tb : TS) : TS := fun D σ H => ∃ W : Nat → St → Hp → Prop, (∃ m, W m σ H) ∧ ∀ m σ H, W m σ H →
  c σ H fun b H1 => if b = true then ∃ N : St → Hp → Prop, (∀ σ' H', N σ' H' → ∃ m', m' < m ∧ W m' σ' H') ∧ tb { D with nx := N, ct := N, bk := D.nx } σ H1 else D.nx σ H1
theorem ps_while {c : Expr} {body : List Stmt} {tc : TT} {tb : TS} (hp : PassesOwn (model X.prog X.w) X.A X.env X.xe) (hc : PT X c tc) (hb : PSs X body tb) : PS X (.While c body [] pos) (tWhile tc tb) := by
  intro pins s σ H D I h
  obtain ⟨W, ⟨m0, w0⟩, turn⟩ := h
  refine wpAny_While (codeAny_whileLoop (fun n s' => ∃ σ' H', Inv X pins σ' H' s' ∧ W n σ' H') ?_ m0 ⟨σ, H, I, w0⟩)
  rintro n s1 ⟨σ1, H1, I1, w1⟩
  refine wpAny_passesOwn hp (thn (hc pins s1 σ1 H1 _ I1 (turn n σ1 H1 w1)) fun b s2 ⟨H2, I2, q2⟩ => ?_)
  cases b with
  | true =>
    obtain ⟨N, hN, q2⟩ := q2
    rw [if_pos rfl]
    refine wpAny_passesOwn hp (thn (hb pins s2 σ1 H2 _ I2 q2) fun f s3 q3 => ?_)
    cases f with
    | next =>
      obtain ⟨σ3, H3, I3, n3⟩ := q3
      obtain ⟨m', hm, w3⟩ := hN σ3 H3 n3
      exact ⟨m', hm, σ3, H3, I3, w3⟩
    | cont =>
      obtain ⟨σ3, H3, I3, n3⟩ := q3
      obtain ⟨m', hm, w3⟩ := hN σ3 H3 n3
      exact ⟨m', hm, σ3, H3, I3, w3⟩
    | brk => exact q3
    | ret v => exact q3
  | false =>
    rw [if_neg Bool.false_ne_true]
    exact wpAny_execs_nil ⟨σ1, H2, I2, q2⟩
end
structure It where
  go : Nat → Hp → Prop
  yld : Nat → Hp → V → Hp → Prop
  stop : Nat → Hp → Prop
def FpOk (X : Cx) (pins : List (Addr × Obj)) (H : Hp) (b : Addr) : Prop :=
  H b = none ∧ b ≠ X.env.locals ∧ b ∉ X.fs ∧ (b ∈ X.ex ∨ X.s₀.heap.objs.size ≤ b) ∧ (∀ x c, X.env.cells.lookup x = some c → c ≠ b) ∧ ∀ p ∈ X.pn ++ pins, p.1 ≠ b
theorem Inv.fpOk {X : Cx} {pins : List (Addr × Obj)} {σ : St} {H H' : Hp} {s : Shared} {b : Addr} (I : Inv X pins σ H s) (hb : s.heap.objs.size ≤ b) (hn : H' b = none) : FpOk X pins H' b := by
  refine ⟨hn, Nat.ne_of_gt (Nat.lt_of_lt_of_le I.lt hb), I.nofs hb, .inr (Nat.le_trans I.sz hb), fun x c e z => ?_, fun p hp z => ?_⟩
  · obtain ⟨v, q⟩ := I.cell x c e
    exact absurd (Nat.lt_of_lt_of_le q.lt (by rw [z]; exact hb)) (Nat.lt_irrefl _)
  · exact absurd (Nat.lt_of_lt_of_le (Heap.lt_size (I.pin p hp).1) (by rw [z]; exact hb)) (Nat.lt_irrefl _)
structure Turn (P : Program) (w : World) (K : PySem.W.Frag) (tg : Expr) (J : It) (fp : List Addr) (it : Addr) (tn : Nat → Heap → Prop) : Prop where
  mem : it ∈ fp
  obj : ∀ i h, tn i h → ∀ b ∈ fp, ∃ o, h.get? b = some o ∧ ∀ v, o.data ≠ .cell v
  keep : ∀ i h h', tn i h → (∀ b ∈ fp, ∀ o, h.get? b = some o → h'.get? b = some o) → tn i h'
  item : ∀ (X : Cx), X.prog = P → X.w = w → X.K = K → X.calm = true → ∀ (i : Nat) (pins : List (Addr × Obj)) (s : Shared) (σ : St) (H : Hp) (E : Value → Shared → Prop), Inv X pins σ H s → (∀ b ∈ fp, FpOk X pins H b) → tn i s.heap → J.go i H →
    wpAny (model P w) X.A (pyNext (.ref it)) (fun r s1 => ∃ u, r = some u ∧
      wpAny (model P w) X.A (letOwnedTupleGo tg (.ref it) u) (fun _ s2 => ∃ x H', Inv X pins σ H' s2 ∧ RelV x u ∧ J.yld i H x H' ∧ tn (i + 1) s2.heap ∧ ∀ b ∈ fp, H' b = none) E s1) E s
  done : ∀ (X : Cx), X.prog = P → X.w = w → X.K = K → X.calm = true → ∀ (i : Nat) (pins : List (Addr × Obj)) (s : Shared) (σ : St) (H : Hp) (E : Value → Shared → Prop), Inv X pins σ H s → (∀ b ∈ fp, FpOk X pins H b) → tn i s.heap → J.stop i H →
    wpAny (model P w) X.A (pyNext (.ref it)) (fun r s1 => r = none ∧ Inv X pins σ H s1) E s
  self : ∀ (A : Around) (i : Nat) (s : Shared) (Q : Value → Shared → Prop) (E : Value → Shared → Prop), tn i s.heap → Q (.ref it) s → wpAny (model P w) A (pyIter (.ref it)) Q E s
abbrev TI := St → Hp → (It → Hp → Prop) → Prop
def PIE (X : Cx) (pins : List (Addr × Obj)) (σ : St) (tg : Expr) (R : It → Hp → Prop) (itv : Value) (s2 : Shared) : Prop :=
  ∃ (it : Addr) (fp : List Addr) (tn : Nat → Heap → Prop) (J : It) (H' : Hp), itv = .ref it ∧ Inv X pins σ H' s2 ∧ Turn X.prog X.w X.K tg J fp it tn ∧ tn 0 s2.heap ∧ (∀ b ∈ fp, FpOk X pins H' b) ∧ R J H'
def PI (X : Cx) (tg iter : Expr) (wi : TI) : Prop :=
  ∀ (pins : List (Addr × Obj)) (s : Shared) (σ : St) (H : Hp) (R : It → Hp → Prop), Inv X pins σ H s → wi σ H R →
    wpAny (model X.prog X.w) X.A (eval iter X.env) (fun v s1 => wpAny (model X.prog X.w) X.A (pyIter v) (PIE X pins σ tg R) X.xe s1) X.xe s
theorem go_of {M : Model} {A : Around} {E : Value → Shared → Prop} {s : Shared} {tg : Expr} {it : Addr} {u : Value} {o : Obj} {n : String} {vs : Array Value} {Q : Unit → Shared → Prop} (ho : s.heap.get? it = some o) (hc : o.cls = .type n) (hd : o.data = .fields vs)
    (hn : ["enumerate", "zip", "dict_itemiterator", "dict_reverseitemiterator", "odict_iterator", "itertools.zip_longest", "itertools.pairwise"].contains n = false) (hQ : Q () s) : wpAny M A (letOwnedTupleGo tg (.ref it) u) Q E s := by
  unfold letOwnedTupleGo
  cases tg <;> first
    | exact wpAny_pure hQ
    | (cases u <;> first
        | exact wpAny_pure hQ
        | (refine wpAny_bind (wpAny_load ho ?_)
           rw [hc, hd]
           show wpAny M A (if (["enumerate", "zip", "dict_itemiterator", "dict_reverseitemiterator", "odict_iterator", "itertools.zip_longest", "itertools.pairwise"].contains n && vs[0]? == some (rawInt _)) = true then _ else _) Q E s
           rw [if_neg (by intro h; rw [hn, Bool.false_and] at h; cases h)]
           exact wpAny_pure hQ))
def Itl (K : PySem.W.Frag) (a : Addr) : It :=
  ⟨fun i H => ∃ xs x, SqL K H a xs ∧ xs[i]? = some x, fun i H x H' => H' = H ∧ ∀ xs, SqL K H a xs → xs[i]? = some x, fun i H => ∃ xs, SqL K H a xs ∧ xs.length ≤ i⟩
def Itt (K : PySem.W.Frag) (a : Addr) : It :=
  ⟨fun i H => ∃ xs x, SqT K H a xs ∧ xs[i]? = some x, fun i H x H' => H' = H ∧ ∀ xs, SqT K H a xs → xs[i]? = some x, fun i H => ∃ xs, SqT K H a xs ∧ xs.length ≤ i⟩
def Itr (lo : Int) (n : Nat) : It := ⟨fun i _ => i < n, fun i H x H' => H' = H ∧ x = .int (lo + i), fun i _ => n ≤ i⟩
theorem turn_list {P : Program} {w : World} {K : PySem.W.Frag} {tg : Expr} (a it : Addr) : Turn P w K tg (Itl K a) [it] it (fun i h => h.IsListIter it a i) where
  mem := by simp
  obj := fun i h st b hb => by
    have e : b = it := by simpa using hb
    subst e
    obtain ⟨o, e, c, d⟩ := st
    exact ⟨o, e, fun v z => by rw [d] at z; cases z⟩
  keep := fun i h h' st k => st.at fun o e => k it (by simp) o e
  item := by
    intro X hP hw hK hc i pins s σ H E I hf st hg
    subst hP hw hK
    obtain ⟨xs, x, hq, hx⟩ := hg
    obtain ⟨its, rv, p, hz⟩ := I.list hq
    obtain ⟨u, hu, ru⟩ := rv.get hx
    obtain ⟨f0, f1, f2, f3, f4, f5⟩ := hf it (by simp)
    refine wpAny_pyNext_list_item st p.isList (x := u) (by simpa using hu) fun h' st' sb => ?_
    have I1 : Inv X pins σ H { s with heap := h' } := I.turned (t' := s.toks) (fun b o hb e => (sb.2 b hb).trans e) f0 f1 f3 f4 f5
    obtain ⟨o, e, c, d⟩ := id st'
    exact ⟨u, rfl, go_of (s := { s with heap := h' }) e c d (by decide) ⟨x, H, I1, ru, ⟨rfl, fun ys hy => by rw [I.list_inj hy hq]; exact hx⟩, st', fun b hb => (hf b hb).1⟩⟩
  done := by
    intro X hP hw hK hc i pins s σ H E I hf st hg
    subst hP hw hK
    obtain ⟨xs, hq, hx⟩ := hg
    obtain ⟨its, rv, p, hz⟩ := I.list hq
    obtain ⟨f0, f1, f2, f3, f4, f5⟩ := hf it (by simp)
    have hl := rv.length
    exact wpAny_pyNext_list_end (I.ok.hd hc) st p.isList (by simp; omega) fun h' eb => ⟨rfl, I.turned (t' := s.toks) (fun b o hb e => eb b o hb e) f0 f1 f3 f4 f5⟩
  self := fun _ _ _ _ _ st h => wpAny_pyIter_listiter st h
theorem turn_tuple {P : Program} {w : World} {K : PySem.W.Frag} {tg : Expr} (a it : Addr) : Turn P w K tg (Itt K a) [it] it (fun i h => h.IsTupleIter it a i) where
  mem := by simp
  obj := fun i h st b hb => by
    have e : b = it := by simpa using hb
    subst e
    obtain ⟨o, e, c, d⟩ := st
    exact ⟨o, e, fun v z => by rw [d] at z; cases z⟩
  keep := fun i h h' st k => st.at fun o e => k it (by simp) o e
  item := by
    intro X hP hw hK hc i pins s σ H E I hf st hg
    subst hP hw hK
    obtain ⟨xs, x, hq, hx⟩ := hg
    obtain ⟨its, rv, p, hz⟩ := I.tuple hq
    obtain ⟨u, hu, ru⟩ := rv.get hx
    obtain ⟨f0, f1, f2, f3, f4, f5⟩ := hf it (by simp)
    refine wpAny_pyNext_tuple_item st (show s.heap.IsTuple a its.toArray from p) (x := u) (by simpa using hu) fun h' st' sb => ?_
    have I1 : Inv X pins σ H { s with heap := h' } := I.turned (t' := s.toks) (fun b o hb e => (sb.2 b hb).trans e) f0 f1 f3 f4 f5
    obtain ⟨o, e, c, d⟩ := id st'
    exact ⟨u, rfl, go_of (s := { s with heap := h' }) e c d (by decide) ⟨x, H, I1, ru, ⟨rfl, fun ys hy => by rw [I.tuple_inj hy hq]; exact hx⟩, st', fun b hb => (hf b hb).1⟩⟩
  done := by
    intro X hP hw hK hc i pins s σ H E I hf st hg
    subst hP hw hK
    obtain ⟨xs, hq, hx⟩ := hg
    obtain ⟨its, rv, p, hz⟩ := I.tuple hq
    obtain ⟨f0, f1, f2, f3, f4, f5⟩ := hf it (by simp)
    have hl := rv.length
    exact wpAny_pyNext_tuple_end (I.ok.hd hc) st (show s.heap.IsTuple a its.toArray from p) (by simp; omega) fun h' eb => ⟨rfl, I.turned (t' := s.toks) (fun b o hb e => eb b o hb e) f0 f1 f3 f4 f5⟩
  self := fun _ _ _ _ _ st h => wpAny_pyIter_tupleiter st h
theorem turn_range {P : Program} {w : World} {K : PySem.W.Frag} {tg : Expr} (it : Addr) (lo : Int) (n : Nat) : Turn P w K tg (Itr lo n) [it] it (fun i h => IsRangeIter h it (lo + (i : Nat) * 1) ((n : Int) - (i : Nat)) 1) where
  mem := by simp
  obj := fun i h st b hb => by
    have e : b = it := by simpa using hb
    subst e
    exact ⟨_, st, fun v z => by
      have z' : Data.fields _ = Data.cell v := z
      cases z'⟩
  keep := fun i h h' st k => k it (by simp) _ st
  item := by
    intro X hP hw hK hc i pins s σ H E I hf st hg
    subst hP hw hK
    obtain ⟨f0, f1, f2, f3, f4, f5⟩ := hf it (by simp)
    have W := Walks.range (prog := X.prog) (w := X.w) (I.ok.hd hc) it lo 1 n
    refine W.item i s _ _ hg st fun v h' tk hv st' kk => ?_
    obtain ⟨t, rfl⟩ := hv
    have I1 : Inv X pins σ H { s with heap := h', toks := tk } := I.turned (fun b o hb e => kk b o (by simpa using hb) e) f0 f1 f3 f4 f5
    refine ⟨_, rfl, go_of (s := { s with heap := h', toks := tk }) (n := "range_iterator") st' rfl rfl (by decide) ⟨.int (lo + i), H, I1, ⟨t, ?_⟩, ⟨rfl, rfl⟩, st', fun b hb => (hf b hb).1⟩⟩
    rw [Int.mul_one]
  done := by
    intro X hP hw hK hc i pins s σ H E I hf st hg
    subst hP hw hK
    obtain ⟨f0, f1, f2, f3, f4, f5⟩ := hf it (by simp)
    exact wpAny_pyNext_range_end (I.ok.hd hc) st (by have : n ≤ i := hg; omega) fun h' eb => ⟨rfl, I.turned (t' := s.toks) (fun b o hb e => eb b o hb e) f0 f1 f3 f4 f5⟩
  self := fun _ _ _ _ _ st h => wpAny_pyIter_rangeiter st h
end L2
namespace L2
open PySem PySem.Spec PyProof.Rows
section
variable {X : Cx} {tg : Expr}
def iList (K : PySem.W.Frag) (tl : TE) : TI := fun σ H R => tl σ H fun x H1 => ∃ a, x = .ref a ∧ (∃ xs, SqL K H1 a xs) ∧ R (Itl K a) H1
def iTup (K : PySem.W.Frag) (tl : TE) : TI := fun σ H R => tl σ H fun x H1 => ∃ a, x = .ref a ∧ (∃ xs, SqT K H1 a xs) ∧ R (Itt K a) H1
theorem pi_list {l : Expr} {tl : TE} (hl : PE X l tl) : PI X tg l (iList X.K tl) := by
  intro pins s σ H R I h
  refine thn (hl pins s σ H _ I h) fun v s1 ⟨x, H1, I1, r1, q1⟩ => ?_
  obtain ⟨a, e, ⟨xs, hq⟩, q⟩ := q1
  subst e
  cases r1
  obtain ⟨its, rv, p, hz⟩ := I1.list hq
  refine wpAny_pyIter_list p.isList ?_
  refine ⟨s1.heap.objs.size, [s1.heap.objs.size], _, _, H1, rfl, I1.kept (t' := s1.toks) fun b o e => Heap.get?_push_of_some _ e, turn_list a _, ⟨_, Heap.get?_push_size _ rfl, rfl, rfl⟩, fun b hb => ?_, q⟩
  have e : b = s1.heap.objs.size := by simpa using hb
  subst e
  exact I1.fpOk (Nat.le_refl _) (I1.hok.fresh (Nat.le_refl _))
theorem pi_tup {l : Expr} {tl : TE} (hl : PE X l tl) : PI X tg l (iTup X.K tl) := by
  intro pins s σ H R I h
  refine thn (hl pins s σ H _ I h) fun v s1 ⟨x, H1, I1, r1, q1⟩ => ?_
  obtain ⟨a, e, ⟨xs, hq⟩, q⟩ := q1
  subst e
  cases r1
  obtain ⟨its, rv, p, hz⟩ := I1.tuple hq
  refine wpAny_pyIter_tuple (show s1.heap.IsTuple a its.toArray from p) ?_
  refine ⟨s1.heap.objs.size, [s1.heap.objs.size], _, _, H1, rfl, I1.kept (t' := s1.toks) fun b o e => Heap.get?_push_of_some _ e, turn_tuple a _, ⟨_, Heap.get?_push_size _ rfl, rfl, rfl⟩, fun b hb => ?_, q⟩
  have e : b = s1.heap.objs.size := by simpa using hb
  subst e
  exact I1.fpOk (Nat.le_refl _) (I1.hok.fresh (Nat.le_refl _))
theorem range_it {pins : List (Addr × Obj)} {σ : St} {H : Hp} {s : Shared} {R : It → Hp → Prop} {E : Value → Shared → Prop} {lo hi : Int} {t u v : Tok} {tk : Nat} (I : Inv X pins σ H s) (h1 : -(2 ^ 62) ≤ lo) (h2 : lo < 2 ^ 62) (h3 : -(2 ^ 62) ≤ hi) (h4 : hi < 2 ^ 62)
    (q : R (Itr lo (hi - lo).toNat) H) : wpAny (model X.prog X.w) X.A (pyIter (.ref s.heap.objs.size)) (PIE X pins σ tg R) E { s with heap := s.heap.push { cls := .type "range", data := .fields #[.int lo t, .int hi u, .int 1 v] }, toks := tk } := by
  refine wpAny_pyIter_range (IsRange.new ..) (small_one h1 h2 h3 h4) ?_
  have I1 : Inv X pins σ H { s with heap := s.heap.push { cls := .type "range", data := .fields #[.int lo t, .int hi u, .int 1 v] }, toks := tk } := I.kept fun b o e => Heap.get?_push_of_some _ e
  refine ⟨(s.heap.push { cls := .type "range", data := .fields #[.int lo t, .int hi u, .int 1 v] }).objs.size, [(s.heap.push { cls := .type "range", data := .fields #[.int lo t, .int hi u, .int 1 v] }).objs.size], _, _, H, rfl,
    I1.kept (t' := tk) fun b o e => Heap.get?_push_of_some _ e, turn_range _ lo (hi - lo).toNat, ?_, fun b hb => ?_, q⟩
  · have e1 : lo + ((0 : Nat) : Int) * 1 = lo := by simp
    have e2 : (((hi - lo).toNat : Nat) : Int) - ((0 : Nat) : Int) = Builtin.Range.rangeSize lo hi 1 := by rw [rangeSize_one]; split <;> omega
    show IsRangeIter _ _ (lo + ((0 : Nat) : Int) * 1) ((((hi - lo).toNat : Nat) : Int) - ((0 : Nat) : Int)) 1
    rw [e1, e2]
    exact Heap.get?_push_size _ rfl
  · have e : b = (s.heap.push { cls := .type "range", data := .fields #[.int lo t, .int hi u, .int 1 v] }).objs.size := by simpa using hb
    subst e
    exact I1.fpOk (Nat.le_refl _) (I1.hok.fresh (Nat.le_refl _))
def iRng1 (ta : TA) : TI := fun σ H R => ta σ H fun vs H1 => ∃ j : Int, vs = [.int j] ∧ -(2 ^ 62) ≤ j ∧ j < 2 ^ 62 ∧ R (Itr 0 j.toNat) H1
def iRng2 (ta : TA) : TI := fun σ H R => ta σ H fun vs H1 => ∃ i j : Int, vs = [.int i, .int j] ∧ (-(2 ^ 62) ≤ i ∧ i < 2 ^ 62 ∧ -(2 ^ 62) ≤ j ∧ j < 2 ^ 62) ∧ R (Itr i (j - i).toNat) H1
theorem pi_range1 {a : Expr} {ta : TA} {p pos : Pos} (hg : Gl X "range") (hm : X.mg "range" = none) (ha : PA X [a] ta) (hs : starEach [a] X.env = [(false, eval a X.env)] := by rfl) : PI X tg (.Call (.Name "range" p) [a] [] pos) (iRng1 ta) := by
  intro pins s σ H R I h
  refine Call_ (ld_blt I hg hm boot_range (PyProof.Rows.callWith_type1 (thn (ha pos pins s σ H _ I h) fun us s1 ⟨vs, H1, I1, r1, q1⟩ => ?_) hs rfl))
  obtain ⟨j, e, q1, q2, q⟩ := q1
  subst e
  cases r1 with
  | cons r rr =>
    cases rr
    obtain ⟨t, rfl⟩ := r
    exact call_range_1 (range_it I1 (by omega) (by omega) q1 q2 (by simpa using q))
theorem pi_range2 {a b : Expr} {ta : TA} {p pos : Pos} (hg : Gl X "range") (hm : X.mg "range" = none) (ha : PA X [a, b] ta) (hs : starEach [a, b] X.env = [(false, eval a X.env), (false, eval b X.env)] := by rfl) (hs2 : starEach [b] X.env = [(false, eval b X.env)] := by rfl) :
    PI X tg (.Call (.Name "range" p) [a, b] [] pos) (iRng2 ta) := by
  intro pins s σ H R I h
  refine Call_ (ld_blt I hg hm boot_range (PyProof.Rows.callWith_type1 (thn (ha pos pins s σ H _ I h) fun us s1 ⟨vs, H1, I1, r1, q1⟩ => ?_) (by rw [hs, hs2]) (by rw [hs2]; rfl)))
  obtain ⟨i, j, e, ⟨q1, q2, q3, q4⟩, q⟩ := q1
  subst e
  cases r1 with
  | cons r rr =>
    cases rr with
    | cons r' rr =>
      cases rr
      obtain ⟨t, rfl⟩ := r
      obtain ⟨t', rfl⟩ := r'
      exact call_range_2 (range_it I1 q1 q2 q3 q4 q)
def tFor (wi : TI) (g : TG) (tb : TS) : TS := fun D σ H => wi σ H fun J H1 => ∃ W : Nat → Nat → St → Hp → Prop, (∃ m, W 0 m σ H1) ∧ ∀ i m σ H, W i m σ H →
  (J.stop i H ∧ D.nx σ H) ∨ (J.go i H ∧ ∃ N : St → Hp → Prop, (∀ σ' H', N σ' H' → ∃ m', m' < m ∧ W (i + 1) m' σ' H') ∧ ∀ x H', J.yld i H x H' → g x σ H' fun σ2 H2 => tb { D with nx := N, ct := N, bk := D.nx } σ2 H2)
def pinsAt (fp : List Addr) (h : Heap) : List (Addr × Obj) := fp.filterMap fun b => (h.get? b).map fun o => (b, o)
theorem mem_pinsAt {fp : List Addr} {h : Heap} {b : Addr} {o : Obj} (hb : b ∈ fp) (e : h.get? b = some o) : (b, o) ∈ pinsAt fp h := List.mem_filterMap.mpr ⟨b, hb, by rw [e]; rfl⟩
theorem of_pinsAt {fp : List Addr} {h : Heap} {p : Addr × Obj} (hp : p ∈ pinsAt fp h) : p.1 ∈ fp ∧ h.get? p.1 = some p.2 := by
  obtain ⟨b, hb, e⟩ := List.mem_filterMap.mp hp
  cases q : h.get? b with
  | none => rw [q] at e; cases e
  | some o =>
    rw [q] at e
    have e' : (b, o) = p := Option.some.inj e
    subst e'
    exact ⟨hb, q⟩
theorem Inv.pinned {pins : List (Addr × Obj)} {σ : St} {H : Hp} {s : Shared} {fp : List Addr} (I : Inv X pins σ H s) (hf : ∀ b ∈ fp, FpOk X pins H b) (ho : ∀ b ∈ fp, ∃ o, s.heap.get? b = some o ∧ ∀ v, o.data ≠ .cell v) : Inv X (pins ++ pinsAt fp s.heap) σ H s :=
  I.pins_of fun p hp => (List.mem_append.mp hp).elim (fun z => I.pin p (List.mem_append_right _ z)) fun z => by
    obtain ⟨hb, e⟩ := of_pinsAt z
    obtain ⟨f0, f1, f2, _⟩ := hf p.1 hb
    obtain ⟨o, e', d⟩ := ho p.1 hb
    rw [e] at e'; cases e'
    exact ⟨e, f0, f1, f2, d⟩
theorem Inv.unpinned {pins pl : List (Addr × Obj)} {σ : St} {H : Hp} {s : Shared} (I : Inv X (pins ++ pl) σ H s) : Inv X pins σ H s := I.pins_of fun p hp => I.pin p (List.mem_append_right _ (List.mem_append_left _ hp))
theorem ps_for {iter : Expr} {body : List Stmt} {wi : TI} {g : TG} {tb : TS} {pos : Pos} (hp : PassesOwn (model X.prog X.w) X.A X.env X.xe) (hc : X.calm = true) (hi : PI X tg iter wi) (hg : PG X tg g) (hb : PSs X body tb)
    (hs : ∀ x, foldedSetIterable iter X.env x = pure x := by intro _; rfl) : PS X (.For tg iter body [] pos) (tFor wi g tb) := by
  intro pins s σ H D I h
  refine wpAny_For (thn (hi pins s σ H _ I h) fun v s1 h1 => thn h1 fun itv s2 h2 => ?_) hs
  obtain ⟨it, fp, tn, J, H2, e, I2, T, st2, f2, W, ⟨m0, w0⟩, turn⟩ := h2
  subst e
  -- what stays true of the iterator's objects through the loop
  have stat : ∀ {H' : Hp}, (∀ b ∈ fp, H' b = none) → ∀ b ∈ fp, FpOk X pins H' b := fun hn b hb => ⟨hn b hb, (f2 b hb).2⟩
  refine codeAny_forLoop_any (fun n s' => ∃ i σ' H', Inv X pins σ' H' s' ∧ tn i s'.heap ∧ (∀ b ∈ fp, H' b = none) ∧ W i n σ' H') ?_ m0 ⟨0, σ, H2, I2, st2, fun b hb => (f2 b hb).1, w0⟩
  rintro n s3 ⟨i, σ3, H3, I3, st3, fr3, w3⟩
  rcases turn i n σ3 H3 w3 with ⟨stop, qn⟩ | ⟨go, N, hN, step⟩
  · refine wpAny_passesOwn hp (thn (T.done X rfl rfl rfl hc i pins s3 σ3 H3 X.xe I3 (stat fr3) st3 stop) fun r s4 ⟨hr, I4⟩ => ?_)
    subst hr
    exact wpAny_execs_nil ⟨σ3, H3, I4, qn⟩
  · refine wpAny_passesOwn hp (thn (T.item X rfl rfl rfl hc i pins s3 σ3 H3 X.xe I3 (stat fr3) st3 go) fun r s4 ⟨u, hr, h4⟩ => ?_)
    subst hr
    refine wpAny_passesOwn hp (thn h4 fun _ s5 ⟨x, H5, I5, r5, y5, st5, fr5⟩ => ?_)
    have I5' := I5.pinned (stat fr5) (T.obj _ _ st5)
    refine wpAny_passesOwn hp (thn (hg _ s5 σ3 H5 x u _ I5' r5 (step x H5 y5)) fun _ s6 ⟨σ6, H6, I6, q6⟩ => ?_)
    refine wpAny_passesOwn hp (thn (hb _ s6 σ6 H6 _ I6 q6) fun f s7 q7 => ?_)
    have again : ∀ {σ7 : St} {H7 : Hp}, Inv X (pins ++ pinsAt fp s5.heap) σ7 H7 s7 → N σ7 H7 → ∃ m, m < n ∧ ∃ i σ' H', Inv X pins σ' H' s7 ∧ tn i s7.heap ∧ (∀ b ∈ fp, H' b = none) ∧ W i m σ' H' := fun {σ7 H7} I7 n7 => by
      obtain ⟨m', hm, w7⟩ := hN σ7 H7 n7
      refine ⟨m', hm, i + 1, σ7, H7, I7.unpinned, T.keep _ _ _ st5 fun b hb o e => (I7.pin (b, o) (List.mem_append_right _ (List.mem_append_right _ (mem_pinsAt hb e)))).1, fun b hb => ?_, w7⟩
      obtain ⟨o, e, d⟩ := T.obj _ _ st5 b hb
      exact (I7.pin (b, o) (List.mem_append_right _ (List.mem_append_right _ (mem_pinsAt hb e)))).2.1
    cases f with
    | next => obtain ⟨σ7, H7, I7, n7⟩ := q7; exact again I7 n7
    | cont => obtain ⟨σ7, H7, I7, n7⟩ := q7; exact again I7 n7
    | brk => obtain ⟨σ7, H7, I7, q7⟩ := q7; exact ⟨σ7, H7, I7.unpinned, q7⟩
    | ret v => obtain ⟨x7, σ7, H7, I7, r7, q7⟩ := q7; exact ⟨x7, σ7, H7, I7.unpinned, r7, q7⟩
end
end L2
namespace L2
open PySem PySem.Spec PyProof.Rows
abbrev R2 := V → V → Hp → VK → Prop
def OpR (X : Cx) (f : Value → Value → Sem Value) (r : R2) : Prop :=
  ∀ (pins : List (Addr × Obj)) (s : Shared) (σ : St) (H : Hp) (x y : V) (v u : Value) (Q : VK), Inv X pins σ H s → RelV x v → RelV y u → r x y H Q →
    wpAny (model X.prog X.w) X.A (f v u) (EP X pins σ Q) X.xe s
def CallR (X : Cx) (f : Value) (r : List V → Hp → VK → Prop) : Prop :=
  ∀ (pins : List (Addr × Obj)) (s : Shared) (σ : St) (H : Hp) (xs : List V) (us : List Value) (Q : VK), Inv X pins σ H s → Vals xs us → r xs H Q →
    wpAny (model X.prog X.w) X.A (call f us) (EP X pins σ Q) X.xe s
def TruR (X : Cx) (r : V → Hp → (Bool → Hp → Prop) → Prop) : Prop :=
  ∀ (pins : List (Addr × Obj)) (s : Shared) (σ : St) (H : Hp) (x : V) (v : Value) (Q : Bool → Hp → Prop), Inv X pins σ H s → RelV x v → r x H Q →
    wpAny (model X.prog X.w) X.A (truthy v) (TP X pins σ Q) X.xe s
def tOp (r : R2) (ta tb : TE) : TE := fun σ H Q => ta σ H fun x H1 => tb σ H1 fun y H2 => r x y H2 Q
def rI (C : Int → Int → Prop) (g : Int → Int → V) : R2 := fun x y H Q => ∃ i j, x = .int i ∧ y = .int j ∧ C i j ∧ Q (g i j) H
def rI0 (g : Int → Int → V) : R2 := fun x y H Q => ∃ i j, x = .int i ∧ y = .int j ∧ Q (g i j) H
section
variable {X : Cx} {a b c : Expr} {ta tb tc : TE} {pos : Pos}
theorem binT (ha : PE X a ta) (hb : PE X b tb) {pins : List (Addr × Obj)} {s : Shared} {σ : St} {H : Hp} {R : V → V → Hp → Prop} (I : Inv X pins σ H s)
    (h : ta σ H fun x H1 => tb σ H1 fun y H2 => R x y H2) {Q : Value → Shared → Prop} {f : Value → Value → Sem Value}
    (hf : ∀ v u s2 x y H2, Inv X pins σ H2 s2 → RelV x v → RelV y u → R x y H2 → wpAny (model X.prog X.w) X.A (f v u) Q X.xe s2) :
    wpAny (model X.prog X.w) X.A (eval a X.env) (fun v s₁ => wpAny (model X.prog X.w) X.A (eval b X.env) (fun u s₂ => wpAny (model X.prog X.w) X.A (f v u) Q X.xe s₂) X.xe s₁) X.xe s := by
  refine thn (ha pins s σ H _ I h) fun v s1 ⟨x, H1, I1, r1, q1⟩ => ?_
  refine thn (hb pins s1 σ H1 _ I1 q1) fun u s2 ⟨y, H2, I2, r2, q2⟩ => ?_
  exact hf v u s2 x y H2 I2 r1 r2 q2
theorem pe_op {op : Operator} {r : R2} (ho : OpR X (binaryOp op) r) (ha : PE X a ta) (hb : PE X b tb) : PE X (.BinOp a op b pos) (tOp r ta tb) := by
  intro pins s σ H Q I h
  exact wpAny_BinOp (binT ha hb I h fun v u s2 x y H2 I2 rx ry q => ho pins s2 σ H2 x y v u Q I2 rx ry q)
theorem opI {f : Value → Value → Sem Value} {C : Int → Int → Prop} {g : Int → Int → Int}
    (rule : ∀ (i j : Int) (t u : Tok) (s : Shared) (Q : Value → Shared → Prop) (E : Value → Shared → Prop), C i j → Q (.int (g i j) s.toks) { s with toks := s.toks + 1 } → wpAny (model X.prog X.w) X.A (f (.int i t) (.int j u)) Q E s) :
    OpR X f (rI C fun i j => .int (g i j)) := by
  intro pins s σ H x y v u Q I rx ry h
  obtain ⟨i, j, rfl, rfl, hc, q⟩ := h
  obtain ⟨t, rfl⟩ := rx
  obtain ⟨t', rfl⟩ := ry
  exact rule i j t t' s _ _ hc ⟨.int (g i j), H, I.tok _, ⟨_, rfl⟩, q⟩
theorem opI0 {f : Value → Value → Sem Value} {g : Int → Int → Int}
    (rule : ∀ (i j : Int) (t u : Tok) (s : Shared) (Q : Value → Shared → Prop) (E : Value → Shared → Prop), Q (.int (g i j) s.toks) { s with toks := s.toks + 1 } → wpAny (model X.prog X.w) X.A (f (.int i t) (.int j u)) Q E s) :
    OpR X f (rI0 fun i j => .int (g i j)) := by
  intro pins s σ H x y v u Q I rx ry h
  obtain ⟨i, j, rfl, rfl, q⟩ := h
  obtain ⟨t, rfl⟩ := rx
  obtain ⟨t', rfl⟩ := ry
  exact rule i j t t' s _ _ ⟨.int (g i j), H, I.tok _, ⟨_, rfl⟩, q⟩
theorem opB0 {f : Value → Value → Sem Value} {g : Int → Int → Bool}
    (rule : ∀ (i j : Int) (t u : Tok) (s : Shared) (Q : Value → Shared → Prop) (E : Value → Shared → Prop), Q (.bool (g i j)) s → wpAny (model X.prog X.w) X.A (f (.int i t) (.int j u)) Q E s) :
    OpR X f (rI0 fun i j => .bl (g i j)) := by
  intro pins s σ H x y v u Q I rx ry h
  obtain ⟨i, j, rfl, rfl, q⟩ := h
  obtain ⟨t, rfl⟩ := rx
  obtain ⟨t', rfl⟩ := ry
  exact rule i j t t' s _ _ ⟨.bl (g i j), H, I, rfl, q⟩
def CDiv (i j : Int) : Prop := 0 < j ∧ j < 1073741824
def CPow (i j : Int) : Prop := 0 ≤ j ∧ j ≤ 1000000 ∧ i.natAbs < 2 ^ 64
def CMul (i j : Int) : Prop := (-(2 ^ 64) < i ∧ i < 2 ^ 64) ∨ (-(2 ^ 64) < j ∧ j < 2 ^ 64)
theorem CMul.ok {i j : Int} (h : CMul i j) : IntMulOk i j := by
  rcases h with ⟨h1, h2⟩ | ⟨h1, h2⟩
  · exact .of_left (intBits_le_64 h1 h2)
  · exact .of_right (intBits_le_64 h1 h2)
theorem op_add : OpR X (binaryOp .Add) (rI0 fun i j => .int (i + j)) := opI0 fun _ _ _ _ _ _ _ q => add_int q
theorem op_sub : OpR X (binaryOp .Sub) (rI0 fun i j => .int (i - j)) := opI0 fun _ _ _ _ _ _ _ q => sub_int q
theorem op_mul : OpR X (binaryOp .Mult) (rI CMul fun i j => .int (i * j)) := opI fun _ _ _ _ _ _ _ hc q => mul_int q hc.ok
theorem op_fdiv : OpR X (binaryOp .FloorDiv) (rI CDiv fun i j => .int (i / j)) := opI fun i j _ _ _ _ _ hc q => by
  have h1 : (0 : Int) < j := hc.1
  have h2 : j < 1073741824 := hc.2
  exact floordiv_int (by omega) (by rw [Int.fdiv_eq_ediv_of_nonneg i (by omega)]; exact q) (.inl (PyProof.noPylong_small (by omega)))
theorem op_mod : OpR X (binaryOp .Mod) (rI (fun _ j => 0 < j) fun i j => .int (i % j)) := opI fun i j _ _ _ _ _ hc q => by
  have h1 : (0 : Int) < j := hc
  exact mod_int' (by omega) (by rw [Int.fmod_eq_emod_of_nonneg i (by omega)]; exact q)
theorem op_pow : OpR X (binaryOp .Pow) (rI CPow fun i j => .int (i ^ j.toNat)) := opI fun _ _ _ _ _ _ _ hc q => pow_int_small hc.1 hc.2.1 hc.2.2 q
end
def scal : V → V → Bool
  | .non, .non => true | .non, .int _ => true | .int _, .non => true | .non, .bl _ => true | .bl _, .non => true | .non, .str _ => true | .str _, .non => true
  | .int _, .int _ => true | .bl _, .bl _ => true | .str _, .str _ => true | .byt _, .byt _ => true
  | .int _, .str _ => true | .str _, .int _ => true | .bl _, .str _ => true | .str _, .bl _ => true
  | _, _ => false
def rEq : R2 := fun x y H Q => scal x y = true ∧ Q (.bl (decide (x = y))) H
def rNe : R2 := fun x y H Q => scal x y = true ∧ Q (.bl (!decide (x = y))) H
theorem dec_int {i j : Int} : decide (V.int i = V.int j) = (i == j) := by
  rw [Bool.eq_iff_iff]
  simp
theorem dec_bl {i j : Bool} : decide (V.bl i = V.bl j) = (i == j) := by
  rw [Bool.eq_iff_iff]
  simp
theorem dec_str {i j : Str} : decide (V.str i = V.str j) = (i == j) := by
  rw [Bool.eq_iff_iff]
  simp
theorem dec_byt {i j : Array UInt8} : decide (V.byt i = V.byt j) = (i.toList == j.toList) := by
  rw [Bool.eq_iff_iff]
  cases i
  cases j
  simp
section
variable {X : Cx} {a b c : Expr} {ta tb tc : TE} {pos : Pos}
theorem fin_bl {pins : List (Addr × Obj)} {σ : St} {H : Hp} {s : Shared} {Q : VK} {k k' : Bool} (I : Inv X pins σ H s) (q : Q (.bl k) H) (e : k = k') : EP X pins σ Q (.bool k') s := by
  subst e
  exact ⟨.bl k, H, I, rfl, q⟩
theorem op_eq : OpR X (compareOp .Eq) rEq := by
  intro pins s σ H x y v u Q I rx ry h
  obtain ⟨hs, q⟩ := h
  cases x with
  | non =>
    cases rx
    cases y with
    | non => cases ry; exact PySem.EqNone.eq_none_none (fin_bl I q (by simp))
    | bl j => cases ry; exact PySem.EqNone.eq_none_bool (fin_bl I q (by simp))
    | int j => obtain ⟨t', rfl⟩ := ry; exact PySem.EqNone.eq_none_int (fin_bl I q (by simp))
    | str j => obtain ⟨t', rfl⟩ := ry; exact PySem.EqNone.eq_none_str (fin_bl I q (by simp))
    | _ => exact absurd (show false = true from hs) Bool.false_ne_true
  | bl i =>
    cases rx
    cases y with
    | non => cases ry; exact PySem.EqNone.eq_bool_none (fin_bl I q (by simp))
    | bl j => cases ry; exact eq_bool (fin_bl I q dec_bl)
    | str j => obtain ⟨t', rfl⟩ := ry; exact PySem.EqMixed.eq_bool_str (fin_bl I q (by simp))
    | _ => exact absurd (show false = true from hs) Bool.false_ne_true
  | int i =>
    obtain ⟨t, rfl⟩ := rx
    cases y with
    | non => cases ry; exact PySem.EqNone.eq_int_none (fin_bl I q (by simp))
    | int j => obtain ⟨t', rfl⟩ := ry; exact eq_int (fin_bl I q dec_int)
    | str j => obtain ⟨t', rfl⟩ := ry; exact PySem.EqMixed.eq_int_str (fin_bl I q (by simp))
    | _ => exact absurd (show false = true from hs) Bool.false_ne_true
  | str i =>
    obtain ⟨t, rfl⟩ := rx
    cases y with
    | non => cases ry; exact PySem.EqNone.eq_str_none (fin_bl I q (by simp))
    | bl j => cases ry; exact PySem.EqMixed.eq_str_bool (fin_bl I q (by simp))
    | int j => obtain ⟨t', rfl⟩ := ry; exact PySem.EqMixed.eq_str_int (fin_bl I q (by simp))
    | str j => obtain ⟨t', rfl⟩ := ry; exact eq_str (fin_bl I q dec_str)
    | _ => exact absurd (show false = true from hs) Bool.false_ne_true
  | byt i =>
    obtain ⟨t, rfl⟩ := rx
    cases y with
    | byt j => obtain ⟨t', rfl⟩ := ry; exact PySem.W.eq_bytes (fin_bl I q dec_byt)
    | _ => exact absurd (show false = true from hs) Bool.false_ne_true
  | _ => cases y <;> exact absurd (show false = true from hs) Bool.false_ne_true
theorem op_ne : OpR X (compareOp .NotEq) rNe := by
  intro pins s σ H x y v u Q I rx ry h
  obtain ⟨hs, q⟩ := h
  cases x with
  | non =>
    cases rx
    cases y with
    | non => cases ry; exact PySem.EqNone.ne_none_none (fin_bl I q (by simp))
    | bl j => cases ry; exact PySem.EqNone.ne_none_bool (fin_bl I q (by simp))
    | int j => obtain ⟨t', rfl⟩ := ry; exact PySem.EqNone.ne_none_int (fin_bl I q (by simp))
    | str j => obtain ⟨t', rfl⟩ := ry; exact PySem.EqNone.ne_none_str (fin_bl I q (by simp))
    | _ => exact absurd (show false = true from hs) Bool.false_ne_true
  | bl i =>
    cases rx
    cases y with
    | non => cases ry; exact PySem.EqNone.ne_bool_none (fin_bl I q (by simp))
    | bl j => cases ry; exact ne_bool (fin_bl I q (congrArg not dec_bl))
    | str j => obtain ⟨t', rfl⟩ := ry; exact PySem.EqMixed.ne_bool_str (fin_bl I q (by simp))
    | _ => exact absurd (show false = true from hs) Bool.false_ne_true
  | int i =>
    obtain ⟨t, rfl⟩ := rx
    cases y with
    | non => cases ry; exact PySem.EqNone.ne_int_none (fin_bl I q (by simp))
    | int j => obtain ⟨t', rfl⟩ := ry; exact ne_int (fin_bl I q (congrArg not dec_int))
    | str j => obtain ⟨t', rfl⟩ := ry; exact PySem.EqMixed.ne_int_str (fin_bl I q (by simp))
    | _ => exact absurd (show false = true from hs) Bool.false_ne_true
  | str i =>
    obtain ⟨t, rfl⟩ := rx
    cases y with
    | non => cases ry; exact PySem.EqNone.ne_str_none (fin_bl I q (by simp))
    | bl j => cases ry; exact PySem.EqMixed.ne_str_bool (fin_bl I q (by simp))
    | int j => obtain ⟨t', rfl⟩ := ry; exact PySem.EqMixed.ne_str_int (fin_bl I q (by simp))
    | str j => obtain ⟨t', rfl⟩ := ry; exact ne_str (fin_bl I q (congrArg not dec_str))
    | _ => exact absurd (show false = true from hs) Bool.false_ne_true
  | byt i =>
    obtain ⟨t, rfl⟩ := rx
    cases y with
    | byt j => obtain ⟨t', rfl⟩ := ry; exact PySem.W.ne_bytes (fin_bl I q (congrArg not dec_byt))
    | _ => exact absurd (show false = true from hs) Bool.false_ne_true
  | _ => cases y <;> exact absurd (show false = true from hs) Bool.false_ne_true
theorem op_lt : OpR X (compareOp .Lt) (rI0 fun i j => .bl (decide (i < j))) := opB0 fun _ _ _ _ _ _ _ q => lt_int q
theorem op_le : OpR X (compareOp .LtE) (rI0 fun i j => .bl (decide (i ≤ j))) := opB0 fun _ _ _ _ _ _ _ q => le_int q
theorem op_gt : OpR X (compareOp .Gt) (rI0 fun i j => .bl (decide (j < i))) := opB0 fun _ _ _ _ _ _ _ q => gt_int q
theorem op_ge : OpR X (compareOp .GtE) (rI0 fun i j => .bl (decide (j ≤ i))) := opB0 fun _ _ _ _ _ _ _ q => ge_int q
theorem op_lt_str : OpR X (compareOp .Lt) (fun x y H Q => ∃ i j, x = .str i ∧ y = .str j ∧ Q (.bl (decide (i.cps.toList < j.cps.toList))) H) := by
  intro pins s σ H x y v u Q I rx ry h
  obtain ⟨i, j, rfl, rfl, q⟩ := h
  obtain ⟨t, rfl⟩ := rx
  obtain ⟨t', rfl⟩ := ry
  exact lt_str (fin_bl I q rfl)
theorem op_in_str : OpR X (compareOp .In) (fun x y H Q => ∃ i j, x = .str i ∧ y = .str j ∧ Q (.bl (!(Builtin.Str.occurrences j i 0 j.length 1).isEmpty)) H) := by
  intro pins s σ H x y v u Q I rx ry h
  obtain ⟨i, j, rfl, rfl, q⟩ := h
  obtain ⟨t, rfl⟩ := rx
  obtain ⟨t', rfl⟩ := ry
  exact in_str (fin_bl I q rfl)
theorem op_isN : OpR X (compareOp .Is) (fun x y H Q => y = .non ∧ Q (.bl (decide (x = .non))) H) := by
  intro pins s σ H x y v u Q I rx ry h
  obtain ⟨rfl, q⟩ := h
  cases ry
  refine is_none_gen (fin_bl I q ?_)
  cases x <;> first
    | (cases rx; rfl)
    | (obtain ⟨t, rfl⟩ := rx; rfl)
theorem nomark (b : Expr) {op : CmpOp} (h : op ≠ .In := by decide) (h2 : op ≠ .NotIn := by decide) : behindInMarks op b = false := by
  have e1 : (op == CmpOp.In) = false := by cases op <;> first | rfl | exact absurd rfl h
  have e2 : (op == CmpOp.NotIn) = false := by cases op <;> first | rfl | exact absurd rfl h2
  cases b <;> simp [behindInMarks, e1, e2]
theorem pe_cmpR {op : CmpOp} {r : R2} (ho : OpR X (compareOp op) r) (ha : PE X a ta) (hb : PE X b tb) (hm : behindInMarks op b = false) : PE X (.Compare a [op] [b] pos) (tOp r ta tb) := by
  intro pins s σ H Q I h
  exact wpAny_Compare1 (binT ha hb I h fun v u s2 x y H2 I2 rx ry q => ho pins s2 σ H2 x y v u Q I2 rx ry q) hm
def tTest (t : TE) : TT := fun σ H Q => t σ H fun x H' => ∃ k, x = .bl k ∧ Q k H'
theorem pt_cmpR {op : CmpOp} {r : R2} (ho : OpR X (compareOp op) r) (ha : PE X a ta) (hb : PE X b tb) (hm : behindInMarks op b = false) : PT X (.Compare a [op] [b] pos) (tTest (tOp r ta tb)) := by
  intro pins s σ H Q I h
  refine wpAny_isTrue_Compare1 (thn (ha pins s σ H _ I h) fun v s1 ⟨x, H1, I1, r1, q1⟩ => thn (hb pins s1 σ H1 _ I1 q1) fun u s2 ⟨y, H2, I2, r2, q2⟩ =>
    thn (ho pins s2 σ H2 x y v u _ I2 r1 r2 q2) fun c s3 ⟨z, H3, I3, r3, k, e, q3⟩ => ?_) hm
  subst e
  cases r3
  exact wpAny_truthy_bool ⟨H3, I3, q3⟩
def tChain (r r' : R2) (ta tb tc : TE) : TE := fun σ H Q => ta σ H fun x H1 => tb σ H1 fun y H2 => r x y H2 fun z H3 => ∃ k, z = .bl k ∧
  (if k = true then tc σ H3 fun w' H4 => r' y w' H4 Q else Q (.bl false) H3)
theorem pe_chain {op op' : CmpOp} {r r' : R2} (ho : OpR X (compareOp op) r) (ho' : OpR X (compareOp op') r') (ha : PE X a ta) (hb : PE X b tb) (hc : PE X c tc)
    (hm : lastMarks [op, op'] [b, c] = false := by with_unfolding_all rfl) : PE X (.Compare a [op, op'] [b, c] pos) (tChain r r' ta tb tc) := by
  intro pins s σ H Q I h
  refine Compare_chain (thn (ha pins s σ H _ I h) fun v s1 ⟨x, H1, I1, r1, q1⟩ => chain_link (thn (hb pins s1 σ H1 _ I1 q1) fun u s2 ⟨y, H2, I2, r2, q2⟩ =>
    thn (ho pins s2 σ H2 x y v u _ I2 r1 r2 q2) fun d s3 ⟨z, H3, I3, r3, k, e, q3⟩ => ?_)) hm
  subst e
  cases r3
  refine wpAny_truthy_bool ?_
  cases k with
  | false => exact ite_ff ⟨.bl false, H3, I3, rfl, q3⟩
  | true => exact ite_tt (chain_last (thn (hc pins s3 σ H3 _ I3 q3) fun w' s4 ⟨z', H4, I4, r4, q4⟩ => ho' pins s4 σ H4 y z' u w' Q I4 r2 r4 q4))
theorem pt_chain {op op' : CmpOp} {r r' : R2} (ho : OpR X (compareOp op) r) (ho' : OpR X (compareOp op') r') (ha : PE X a ta) (hb : PE X b tb) (hc : PE X c tc)
    (hm : lastMarks [op, op'] [b, c] = false := by with_unfolding_all rfl) : PT X (.Compare a [op, op'] [b, c] pos) (tTest (tChain r r' ta tb tc)) := by
  intro pins s σ H Q I h
  refine isTrue_chain (thn (ha pins s σ H _ I h) fun v s1 ⟨x, H1, I1, r1, q1⟩ => test_link (thn (hb pins s1 σ H1 _ I1 q1) fun u s2 ⟨y, H2, I2, r2, q2⟩ =>
    thn (ho pins s2 σ H2 x y v u _ I2 r1 r2 q2) fun d s3 ⟨z, H3, I3, r3, k, e, q3⟩ => ?_)) hm
  subst e
  cases r3
  refine wpAny_truthy_bool ?_
  cases k with
  | false =>
    obtain ⟨k', e', q'⟩ := q3
    cases e'
    exact ite_ff ⟨H3, I3, q'⟩
  | true =>
    refine ite_tt (test_last (thn (hc pins s3 σ H3 _ I3 q3) fun w' s4 ⟨z', H4, I4, r4, q4⟩ => thn (ho' pins s4 σ H4 y z' u w' _ I4 r2 r4 q4) fun d' s5 ⟨z2, H5, I5, r5, k2, e2, q5⟩ => ?_))
    subst e2
    cases r5
    exact wpAny_truthy_bool ⟨H5, I5, q5⟩
def TruV (K : PySem.W.Frag) (x : V) (H : Hp) (k : Bool) : Prop :=
  match x with
  | .non => k = false
  | .bl b => k = b
  | .int i => k = (i != 0)
  | .str y => y.length ≤ sizeLine ∧ k = ((y.length : Int) != 0)
  | .byt y => y.size ≤ sizeLine ∧ k = ((y.size : Int) != 0)
  | .ref p => (∃ xs, SqL K H p xs ∧ k = !xs.isEmpty) ∨ (∃ xs, SqT K H p xs ∧ k = !xs.isEmpty) ∨ ∃ kvs, H p = some (.dK kvs) ∧ k = !kvs.isEmpty
  | _ => False
theorem isEmpty_kv {κ : Type} {kvs : List (κ × V)} {vs : List (κ × Value)} (r : KV kvs vs) : (!vs.isEmpty) = !kvs.isEmpty := by
  cases r <;> rfl
theorem isEmpty_of {xs : List V} {its : List Value} (r : Vals xs its) : (!its.toArray.isEmpty) = !xs.isEmpty := by
  cases r <;> simp
theorem line63 : (sizeLine : Nat) < 2 ^ 63 := by rw [sizeLine_eq]; decide
theorem tru_ok : TruR X (fun x H Q => ∃ k, TruV X.K x H k ∧ Q k H) := by
  intro pins s σ H x v Q I rx h
  obtain ⟨k, e, q⟩ := h
  have hl := line63
  have hs : sizeLine = 16777216 := sizeLine_eq
  cases x with
  | non =>
    cases rx
    have e' : k = false := e
    subst e'
    exact truthy_none ⟨H, I, q⟩
  | bl b =>
    cases rx
    have e' : k = b := e
    subst e'
    exact wpAny_truthy_bool ⟨H, I, q⟩
  | int i =>
    obtain ⟨t, rfl⟩ := rx
    have e' : k = (i != 0) := e
    subst e'
    exact PySem.P.truthy_int ⟨H, I, q⟩
  | str y =>
    obtain ⟨t, rfl⟩ := rx
    obtain ⟨hy, e'⟩ : y.length ≤ sizeLine ∧ k = ((y.length : Int) != 0) := e
    subst e'
    exact PySem.P.truthy_str (by omega) ⟨H, I.tok _, q⟩
  | byt y =>
    obtain ⟨t, rfl⟩ := rx
    obtain ⟨hy, e'⟩ : y.size ≤ sizeLine ∧ k = ((y.size : Int) != 0) := e
    subst e'
    exact PySem.W.truthy_bytes (by omega) ⟨H, I.tok _, q⟩
  | ref p =>
    cases rx
    have e' : (∃ xs, SqL X.K H p xs ∧ k = !xs.isEmpty) ∨ (∃ xs, SqT X.K H p xs ∧ k = !xs.isEmpty) ∨ ∃ kvs, H p = some (.dK kvs) ∧ k = !kvs.isEmpty := e
    rcases e' with ⟨xs, hx, e'⟩ | ⟨xs, hx, e'⟩ | ⟨kvs, hx, e'⟩
    · subst e'
      obtain ⟨its, r, pl, hz⟩ := I.list hx
      have hlen := r.length
      exact wpAny_truthy_list pl.isList (by simp only [List.size_toArray]; omega) ⟨H, I.tok _, by rw [isEmpty_of r]; exact q⟩
    · subst e'
      obtain ⟨its, r, pl, hz⟩ := I.tuple hx
      have hlen := r.length
      exact truthy_tuple pl (by simp only [List.size_toArray]; omega) ⟨H, I.tok _, by rw [isEmpty_of r]; exact q⟩
    · subst e'
      obtain ⟨hz, hS, vs, r, m⟩ : kvs.length ≤ sizeLine ∧ (p == sysModules) = false ∧ ∃ vs, KV kvs vs ∧ s.heap.DictOf (mixKind X.prog X.w) p vs := I.hok p _ hx
      have hlen : kvs.length = vs.length := Paired.length r
      exact wpAny_truthy_dict hS m (by omega) ⟨H, I.tok _, by rw [isEmpty_kv r]; exact q⟩
  | _ => exact (show False from e).elim
theorem op_add_str : OpR X (binaryOp .Add) (fun x y H Q => ∃ i j, x = .str i ∧ y = .str j ∧ i.length + j.length ≤ sizeLine ∧ Q (.str (i ++ j)) H) := by
  intro pins s σ H x y v u Q I rx ry h
  obtain ⟨i, j, rfl, rfl, hz, q⟩ := h
  obtain ⟨t, rfl⟩ := rx
  obtain ⟨t', rfl⟩ := ry
  exact add_str (fun t' tk => ⟨.str (i ++ j), H, I.tok _, ⟨_, rfl⟩, q⟩) hz
theorem vals1 {x : V} {us : List Value} (r : Vals [x] us) : ∃ u, us = [u] ∧ RelV x u := by
  cases r with
  | cons r1 r2 => cases r2; exact ⟨_, rfl, r1⟩
theorem vals2 {x y : V} {us : List Value} (r : Vals [x, y] us) : ∃ u w', us = [u, w'] ∧ RelV x u ∧ RelV y w' := by
  cases r with
  | cons r1 r2 =>
    cases r2 with
    | cons r3 r4 => cases r4; exact ⟨_, _, rfl, r1, r3⟩
theorem call_max2 (hc : X.calm = true) : CallR X (.builtin "max") (fun xs H Q => ∃ i j, xs = [.int i, .int j] ∧ Q (.int (if j > i then j else i)) H) := by
  intro pins s σ H xs us Q I r h
  obtain ⟨i, j, rfl, q⟩ := h
  obtain ⟨u, w', rfl, ⟨t, rfl⟩, ⟨t', rfl⟩⟩ := vals2 r
  refine max_two_ints (I.ok.hd hc) fun h' tk k => ⟨_, H, I.kept k, ?_, q⟩
  by_cases hj : j > i
  · rw [if_pos hj, if_pos hj]; exact ⟨_, rfl⟩
  · rw [if_neg hj, if_neg hj]; exact ⟨_, rfl⟩
theorem call_min2 (hc : X.calm = true) : CallR X (.builtin "min") (fun xs H Q => ∃ i j, xs = [.int i, .int j] ∧ Q (.int (if j < i then j else i)) H) := by
  intro pins s σ H xs us Q I r h
  obtain ⟨i, j, rfl, q⟩ := h
  obtain ⟨u, w', rfl, ⟨t, rfl⟩, ⟨t', rfl⟩⟩ := vals2 r
  refine min_two_ints (I.ok.hd hc) fun h' tk k => ⟨_, H, I.kept k, ?_, q⟩
  by_cases hj : j < i
  · rw [if_pos hj, if_pos hj]; exact ⟨_, rfl⟩
  · rw [if_neg hj, if_neg hj]; exact ⟨_, rfl⟩
theorem call_int1 : CallR X (.type "int") (fun xs H Q => (∃ i, xs = [.int i] ∧ Q (.int i) H) ∨ ∃ k, xs = [.bl k] ∧ Q (.int (if k then 1 else 0)) H) := by
  intro pins s σ H xs us Q I r h
  rcases h with ⟨i, rfl, q⟩ | ⟨k, rfl, q⟩
  · obtain ⟨u, rfl, t, rfl⟩ := vals1 r
    exact call_int_int ⟨.int i, H, I, ⟨_, rfl⟩, q⟩
  · obtain ⟨u, rfl, r1⟩ := vals1 r
    cases r1
    exact call_int_bool ⟨.int (if k then 1 else 0), H, I.tok _, ⟨_, rfl⟩, q⟩
theorem call_str_int : CallR X (.type "str") (fun xs H Q => ∃ i, xs = [.int i] ∧ i.natAbs.log2 < 1920 ∧ Q (.str (toString i)) H) := by
  intro pins s σ H xs us Q I r h
  obtain ⟨i, rfl, hz, q⟩ := h
  obtain ⟨u, rfl, t, rfl⟩ := vals1 r
  exact PySem.P.str_of_int hz ⟨.str _, H, I.tok _, ⟨_, rfl⟩, q⟩
def LenV (K : PySem.W.Frag) (x : V) (H : Hp) (n : Nat) : Prop :=
  match x with
  | .str y => y.length ≤ sizeLine ∧ n = y.length
  | .byt y => y.size ≤ sizeLine ∧ n = y.size
  | .ref p => (∃ xs, SqL K H p xs ∧ n = xs.length) ∨ ∃ xs, SqT K H p xs ∧ n = xs.length
  | _ => False
theorem call_len : CallR X (.builtin "len") (fun xs H Q => ∃ x n, xs = [x] ∧ LenV X.K x H n ∧ Q (.int n) H) := by
  intro pins s σ H xs us Q I r h
  obtain ⟨x, n, rfl, e, q⟩ := h
  obtain ⟨u, rfl, rx⟩ := vals1 r
  have hl := line63
  have hs : sizeLine = 16777216 := sizeLine_eq
  cases x with
  | str y =>
    obtain ⟨t, rfl⟩ := rx
    obtain ⟨hy, e'⟩ : y.length ≤ sizeLine ∧ n = y.length := e
    subst e'
    exact len_str (by omega) ⟨.int _, H, I.tok _, ⟨_, rfl⟩, q⟩
  | byt y =>
    obtain ⟨t, rfl⟩ := rx
    obtain ⟨hy, e'⟩ : y.size ≤ sizeLine ∧ n = y.size := e
    subst e'
    exact PySem.W.len_bytes (by omega) ⟨.int _, H, I.tok _, ⟨_, rfl⟩, q⟩
  | ref p =>
    cases rx
    have e' : (∃ xs, SqL X.K H p xs ∧ n = xs.length) ∨ ∃ xs, SqT X.K H p xs ∧ n = xs.length := e
    rcases e' with ⟨xs, hx, e'⟩ | ⟨xs, hx, e'⟩
    · subst e'
      obtain ⟨its, r', pl, hz⟩ := I.list hx
      have hlen := r'.length
      exact Calls.call_len_list pl.isList (by simp only [List.size_toArray]; omega) ⟨.int xs.length, H, I.tok _, ⟨_, by simp only [List.size_toArray]; rw [hlen]⟩, q⟩
    · subst e'
      obtain ⟨its, r', pl, hz⟩ := I.tuple hx
      have hlen := r'.length
      exact len_tuple pl (by simp only [List.size_toArray]; omega) ⟨.int xs.length, H, I.tok _, ⟨_, by simp only [List.size_toArray]; rw [hlen]⟩, q⟩
  | _ => exact (show False from e).elim
theorem call_divmod : CallR X (.builtin "divmod") (fun xs H Q => ∃ i j, xs = [.int i, .int j] ∧ CDiv i j ∧ ∀ p, H p = none → Q (.ref p) (upd H p (.tup [.int (i / j), .int (i % j)]))) := by
  intro pins s σ H xs us Q I r h
  obtain ⟨i, j, rfl, ⟨h1, h2⟩, q⟩ := h
  obtain ⟨u, w', rfl, ⟨t, rfl⟩, ⟨t', rfl⟩⟩ := vals2 r
  refine divmod_int (by omega) ?_ (.inl (PyProof.noPylong_small (by omega)))
  rw [Int.fdiv_eq_ediv_of_nonneg i (by omega), Int.fmod_eq_emod_of_nonneg i (by omega)]
  have hn : H s.heap.objs.size = none := I.hok.fresh (Nat.le_refl _)
  refine ⟨.ref s.heap.objs.size, _, ?_, rfl, q _ hn⟩
  refine I.laid (fun b o e => Heap.get?_push_of_some _ e) (Nat.le_refl _) ⟨by simp only [List.length_cons, List.length_nil]; rw [sizeLine_eq]; decide, [.int (i / j) s.toks, .int (i % j) (s.toks + 1)], .cons ⟨_, rfl⟩ (.cons ⟨_, rfl⟩ .nil), ?_⟩
  exact ⟨_, Heap.get?_push_size s.heap rfl, rfl, 0, rfl⟩
end
end L2
namespace L2
open PySem PySem.Spec PyProof.Rows
section
variable {prog : Program} {w : World} {A : Around} {E : Value → Shared → Prop} {s : Shared} {K : PySem.W.Frag} {x dx C f : Addr} {mA : Str → Option Value} {name : Str} {v : Value}
end
section
variable {P : Program} {w : World} {H H' : Hp} {h h' : Heap} {a C dx : Addr} {fs fs' : List (Str × V)}
end
section
variable {X : Cx} {pins : List (Addr × Obj)} {σ : St} {H : Hp} {s : Shared} {a C dx : Addr} {fs : List (Str × V)} {f : Str} {v : V} {A : Around} {E : Value → Shared → Prop}
end
section
variable {X : Cx} {o e value : Expr} {f : Str} {pos pos' tpos : Pos} {ta tv : TE}
end
section
variable {X : Cx} {pins : List (Addr × Obj)} {σ : St} {H : Hp} {s : Shared} {A : Around} {E : Value → Shared → Prop} {Q : Value → Shared → Prop} {c : Value} {b : Bool}
end
end L2
namespace L2
open PySem PySem.Spec PyProof.Rows
structure Room (k : Nat) (A : Around) : Prop where
  hd : A.handled = none
  dp : A.depth + 3 * k + 5 < recursionLimit
  un : A.units + 16 * k + 200 < cLine
theorem Room.mono {j k : Nat} {A : Around} (r : Room k A) (h : j ≤ k) : Room j A := ⟨r.hd, by have := r.dp; omega, by have := r.un; omega⟩
theorem Room.deeper {k : Nat} {A : Around} (r : Room (k + 1) A) (env : Env) : Room k (A.deeper env) :=
  ⟨r.hd, by have := r.dp; show A.depth + 1 + 3 * k + 5 < _; omega, by have := r.un; show A.units + 3 + 16 * k + 200 < _; omega⟩
theorem Room.depth {k : Nat} {A : Around} (r : Room k A) : A.depth < recursionLimit := by have := r.dp; omega
theorem Room.units {k : Nat} {A : Around} (r : Room k A) : A.units + 64 < cLine := by have := r.un; omega
theorem Room.units0 {k : Nat} {A : Around} (r : Room k A) : A.units < cLine := by have := r.un; omega
def tNil : TA := fun _ H Q => Q [] H
def tCons (ta : TE) (tr : TA) : TA := fun σ H Q => ta σ H fun x H1 => tr σ H1 fun xs H2 => Q (x :: xs) H2
section
variable {X : Cx} {e : Expr} {es : List Expr} {te : TE} {t : TA} {pos : Pos}
theorem pa_nil : PA X [] tNil := fun _ _ _ _ H Q I h => Calls.spliced_nil ⟨[], H, I, .nil, h⟩
theorem pa_cons (ha : PE X e te) (hr : PA X es t) (hs : starEach (e :: es) X.env = (false, eval e X.env) :: starEach es X.env := by rfl) : PA X (e :: es) (tCons te t) := by
  intro pos pins s σ H Q I h
  rw [hs]
  show wpAny _ _ (spliced ((false, eval e X.env) :: backTo pos (starEach es X.env))) _ _ s
  refine Calls.spliced_cons (thn (ha pins s σ H _ I h) fun u s1 ⟨x, H1, I1, r1, q1⟩ => ?_)
  exact thn (hr pos pins s1 σ H1 _ I1 q1) fun us s2 ⟨xs, H2, I2, r2, q2⟩ => ⟨x :: xs, H2, I2, .cons r1 r2, q2⟩
def tTup (t : TA) : TE := fun σ H Q => t σ H fun xs H1 => xs.length ≤ sizeLine ∧ ∀ p, H1 p = none → Q (.ref p) (upd H1 p (.tup xs))
def tLst (t : TA) : TE := fun σ H Q => t σ H fun xs H1 => xs.length ≤ sizeLine ∧ ∀ p, H1 p = none → Q (.ref p) (upd H1 p (.lst xs))
theorem pe_tup {x1} (h : PA X es t) : PE X (.Tuple es x1 pos) (tTup t) := by
  intro pins s σ H Q I hq
  refine wpAny_Tuple_spliced (thn (h pos pins s σ H _ I hq) fun us s1 ⟨xs, H1, I1, r, z, q⟩ => ⟨by rw [← r.length]; exact z, ?_⟩)
  have hf : H1 s1.heap.objs.size = none := I1.hok.fresh (Nat.le_refl _)
  refine ⟨.ref s1.heap.objs.size, upd H1 s1.heap.objs.size (.tup xs), I1.laid (t' := s1.toks) (fun b u e => Heap.get?_push_of_some _ e) (Nat.le_refl _) ?_, rfl, q _ hf⟩
  exact ⟨z, us, r, ⟨_, Heap.get?_push_size _ rfl, rfl, _, rfl⟩⟩
theorem pe_lst (h : PA X es t) : PE X (.List es pos) (tLst t) := by
  intro pins s σ H Q I hq
  refine wpAny_List_spliced (thn (h pos pins s σ H _ I hq) fun us s1 ⟨xs, H1, I1, r, z, q⟩ => ⟨by rw [← r.length]; exact z, ?_⟩)
  have hf : H1 s1.heap.objs.size = none := I1.hok.fresh (Nat.le_refl _)
  refine ⟨.ref s1.heap.objs.size, upd H1 s1.heap.objs.size (.lst xs), I1.laid (t' := s1.toks) (fun b u e => Heap.get?_push_of_some _ e) (Nat.le_refl _) ?_, rfl, q _ hf⟩
  exact ⟨z, us, 0, r, Heap.get?_push_size _ rfl⟩
end
abbrev Sp := List V → Hp → VK → XK → Prop
abbrev CXT := List Env → Hp → Shared → XK → Value → Shared → Prop
structure Env0 (P : Program) (w : World) (K : PySem.W.Frag) (mg : Str → Option Value) (base : Heap) (A : Around) (outer : List Env) (s : Shared) (H : Hp) : Prop where
  frames : A.frames = some outer
  mod : Mod K mg base
  bs : ∀ b o, base.get? b = some o → s.heap.get? b = some o ∧ H b = none
  bsz : base.objs.size ≤ s.heap.objs.size
  funs : s.heap.FunFrames base outer
  frf : ∀ b ∈ frs outer, H b = none
  hok : HOk P w H s.heap
  bare : AllBare s.gens
def CE (outer : List Env) (P : Program) (w : World) (H : Hp) (s : Shared) (Q : VK) (u : Value) (s' : Shared) : Prop :=
  ∃ v H', s'.os = s.os ∧ AllBare s'.gens ∧ Un (frs outer) [] H H' s.heap s'.heap ∧ HOk P w H' s'.heap ∧ RelV v u ∧ Q v H'
def CR (CX : CXT) (outer : List Env) (P : Program) (w : World) (H : Hp) (s : Shared) (Q : VK) (E : XK) (r : Result) (s' : Shared) : Prop :=
  match r with
  | .ok (.ret u) => CE outer P w H s Q u s'
  | .ok _ => False
  | .error e => CX outer H s E e s'
structure FnOk (P : Program) (w : World) (K : PySem.W.Frag) (mg : Str → Option Value) (base : Heap) (CX : CXT) (k : Nat) (f : Addr) (fd : FuncData) (ps : List Str) (sp : Sp) : Prop where
  len : ∀ vs H Q E, sp vs H Q E → vs.length = ps.length
  run : ∀ (A : Around) (outer : List Env) (s : Shared) (H : Hp) (args : Args) (us : List Value) (vs : List V) (Q : VK) (E : XK), Room k A → Env0 P w K mg base A outer s H → BindsTo s fd args (ps.zip us) → Vals vs us → sp vs H Q E →
    codeAny (model P w) A (.call (.ref f) args) (CR CX outer P w H s Q E) s
theorem FnOk.imp {P : Program} {w : World} {K : PySem.W.Frag} {mg : Str → Option Value} {base : Heap} {CX : CXT} {k : Nat} {f : Addr} {fd : FuncData} {ps : List Str} {sp sp' : Sp} (F : FnOk P w K mg base CX k f fd ps sp)
    (h : ∀ vs H Q E, sp' vs H Q E → sp vs H Q E) : FnOk P w K mg base CX k f fd ps sp' :=
  ⟨fun vs H Q E q => F.len vs H Q E (h _ _ _ _ q), fun A outer s H args us vs Q E hr he hb hv hs => F.run A outer s H args us vs Q E hr he hb hv (h _ _ _ _ hs)⟩
section
variable {X : Cx} {pins : List (Addr × Obj)} {σ : St} {H : Hp} {s s' : Shared}
theorem Inv.env0 (I : Inv X pins σ H s) : Env0 X.prog X.w X.K X.mg X.base X.A X.stack s H :=
  ⟨I.ok.frames, I.ok.mod, I.bs, Nat.le_trans I.ok.bsz I.sz, I.stack, I.stkFree, I.hok, I.bare⟩
theorem Inv.after {Q : VK} {u : Value} (I : Inv X pins σ H s) (h : CE X.stack X.prog X.w H s Q u s') : EP X pins σ Q u s' := by
  obtain ⟨v, H', os, bare, un, hok, r, q⟩ := h
  obtain ⟨hh, g, d, t, os'⟩ := s'
  obtain rfl : os' = s.os := os
  exact ⟨v, H', I.call (h' := hh) (g' := g) (d' := d) (t' := t) (ch := []) un hok bare (fun b z => absurd z (by simp)), r, q⟩
end
def tCall (sp : Sp) (dvs : List V) (E : XK) (t : TA) : TE := fun σ H Q => t σ H fun vs H1 => sp (vs ++ dvs) H1 Q E
def Binds (K : PySem.W.Frag) (fd : FuncData) (ps : List Str) (ds : List Value) : Prop :=
  ∀ (s : Shared) (us : List Value), K.In s.heap → (us ++ ds).length = ps.length → BindsTo s fd ⟨us, []⟩ (ps.zip (us ++ ds))
theorem Binds.all {K : PySem.W.Frag} {fd : FuncData} {ps : List Str} (h : ∀ us : List Value, us.length = ps.length → bindArgs fd ⟨us, []⟩ = pure (ps.zip us)) : Binds K fd ps [] := fun s us _ hl => by
  rw [List.append_nil] at hl ⊢
  exact .of_eq (h us hl)
def Passes (CX : CXT) (X : Cx) (E : XK) : Prop := ∀ (pins : List (Addr × Obj)) (σ : St) (H : Hp) (s : Shared) (e : Value) (s' : Shared), Inv X pins σ H s → CX X.stack H s E e s' → X.xe e s'
section
variable {X : Cx} {CX : CXT} {k : Nat} {f C : Addr} {fd : FuncData} {ps : List Str} {sp : Sp} {dvs : List V} {ds : List Value} {E : XK} {x m : Str} {p pos apos : Pos} {e o : Expr} {es : List Expr} {ta : TE} {t : TA}
theorem run_fn {pins : List (Addr × Obj)} {σ : St} {H : Hp} {s : Shared} {Q : VK} {us : List Value} {vs : List V} (F : FnOk X.prog X.w X.K X.mg X.base CX k f fd ps sp) (hr : Room k X.A) (hb : Binds X.K fd ps ds) (hd : Vals dvs ds) (hx : Passes CX X E)
    (I : Inv X pins σ H s) (r : Vals vs us) (h : sp (vs ++ dvs) H Q E) : wpAny (model X.prog X.w) X.A (call (.ref f) us) (EP X pins σ Q) X.xe s := by
  have r2 : Vals (vs ++ dvs) (us ++ ds) := r.append hd
  have hl : (us ++ ds).length = ps.length := by rw [← r2.length]; exact F.len _ _ _ _ h
  refine wpAny_call (codeAny_mono (F.run X.A X.stack s H ⟨us, []⟩ (us ++ ds) (vs ++ dvs) Q E hr I.env0 (hb s us I.kIn hl) r2 h) fun r s' hq => ?_)
  cases r with
  | error e => exact hx pins σ H s e s' I hq
  | ok fl =>
    cases fl with
    | ret u => exact I.after hq
    | next => exact False.elim hq
    | brk => exact False.elim hq
    | cont => exact False.elim hq
theorem pe_call (F : FnOk X.prog X.w X.K X.mg X.base CX k f fd ps sp) (hr : Room k X.A) (hg : Gl X x) (hm : X.mg x = some (.ref f)) (hk : PySem.W.keepIn X.K (.ref f) = true) (hb : Binds X.K fd ps ds) (hd : Vals dvs ds) (hx : Passes CX X E)
    (ha : PA X (e :: es) t) (hdb : (x == ("__debug__" : Str)) = false := by decide) (he : starEach (e :: es) X.env = (false, eval e X.env) :: starEach es X.env := by rfl) (hpl : (backTo pos (starEach es X.env)).any (·.1) = false := by rfl) :
    PE X (.Call (.Name x p) (e :: es) [] pos) (tCall sp dvs E t) := by
  intro pins s σ H Q I h
  refine wpAny_Call_Name_kw (ld_glob I hg hm ?_ hdb)
  refine PySem.W.callWith_K (h₀ := X.base) I.ok.mod.kin hk (thn (ha pos pins s σ H _ I h) fun us s1 ⟨vs, H1, I1, r, q⟩ => ⟨I1.kIn, ?_⟩) he hpl
  exact run_fn F hr hb hd hx I1 r q
end
section
variable {X : Cx} {CX : CXT} {k : Nat} {f C : Addr} {fd : FuncData} {ps ks : List Str} {sp : Sp} {E : XK} {x m : Str} {p pos apos kpos : Pos} {e o : Expr} {es : List Expr} {kws : List Keyword} {te ta : TE} {t tk : TA} {nm : Option Str}
variable {g : List Value → List Value → List Value} {gV : List V → List V → List V}
end
structure FnScope (N P : List Str) (sc : Scope) : Prop where
  kind : sc.kind = .function
  co : sc.isCoroutine = false
  gen : sc.isGenerator = false
  nd : N.Nodup
  pre : N.take P.length = P
  par : ∀ x ∈ P, sc.names.lookup x = some .local ∨ sc.names.lookup x = some .cell
  nofree : ∀ y ∈ sc.names, y.2 ≠ .free
theorem bindL_out {kindOf : Str → Option NameKind} {x : Str} : ∀ {binds : List (Str × Value)} {m : Str → Option Value}, (∀ v, (x, v) ∉ binds) → bindL kindOf binds m x = m x
  | [], _, _ => rfl
  | (n, v) :: r, m, h => by
    unfold bindL
    rw [bindL_out fun w hw => h w (List.mem_cons_of_mem _ hw)]
    split
    · have : x ≠ n := by rintro rfl; exact h v List.mem_cons_self
      simp [this]
    · rfl
theorem bindC_out {kindOf : Str → Option NameKind} {x : Str} : ∀ {binds : List (Str × Value)} {m : Str → Option Value}, (∀ v, (x, v) ∉ binds) → bindC kindOf binds m x = m x
  | [], _, _ => rfl
  | (n, v) :: r, m, h => by
    unfold bindC
    rw [bindC_out fun w hw => h w (List.mem_cons_of_mem _ hw)]
    split
    · rfl
    · have : x ≠ n := by rintro rfl; exact h v List.mem_cons_self
      simp [this]
theorem bindL_get {kindOf : Str → Option NameKind} {x : Str} {v : Value} : ∀ {P : List Str} {vs : List Value} {i : Nat} {m : Str → Option Value}, P.Nodup → P[i]? = some x → vs[i]? = some v → kindOf x = some .local →
    bindL kindOf (P.zip vs) m x = some v
  | [], _, _, _, _, h, _, _ => by simp at h
  | _ :: _, [], _, _, _, _, h, _ => by simp at h
  | p :: P, w :: vs, 0, m, nd, h1, h2, hk => by
    simp at h1 h2; subst h1; subst h2
    show bindL kindOf ((p, w) :: P.zip vs) m p = _
    unfold bindL
    rw [bindL_out fun v hv => (List.nodup_cons.mp nd).1 (List.of_mem_zip hv).1, if_pos hk]
    simp
  | p :: P, w :: vs, i + 1, m, nd, h1, h2, hk => by
    show bindL kindOf ((p, w) :: P.zip vs) m x = _
    unfold bindL
    exact bindL_get (i := i) (List.nodup_cons.mp nd).2 (by simpa using h1) (by simpa using h2) hk
theorem bindC_get {kindOf : Str → Option NameKind} {x : Str} {v : Value} : ∀ {P : List Str} {vs : List Value} {i : Nat} {m : Str → Option Value}, P.Nodup → P[i]? = some x → vs[i]? = some v → kindOf x ≠ some .local →
    bindC kindOf (P.zip vs) m x = some v
  | [], _, _, _, _, h, _, _ => by simp at h
  | _ :: _, [], _, _, _, _, h, _ => by simp at h
  | p :: P, w :: vs, 0, m, nd, h1, h2, hk => by
    simp at h1 h2; subst h1; subst h2
    show bindC kindOf ((p, w) :: P.zip vs) m p = _
    unfold bindC
    rw [bindC_out fun v hv => (List.nodup_cons.mp nd).1 (List.of_mem_zip hv).1, if_neg hk]
    simp
  | p :: P, w :: vs, i + 1, m, nd, h1, h2, hk => by
    show bindC kindOf ((p, w) :: P.zip vs) m x = _
    unfold bindC
    exact bindC_get (i := i) (List.nodup_cons.mp nd).2 (by simpa using h1) (by simpa using h2) hk
def start (N : List Str) (vs : List V) : St := vs.map some ++ List.replicate (N.length - vs.length) none
def cxOf (CX : CXT) (P : Program) (w : World) (K : PySem.W.Frag) (mg : Str → Option Value) (base : Heap) (N : List Str) (qual : Str) (scope : Scope) (f : Addr) (cd : Value) (A : Around) (outer : List Env) (s : Shared) (H : Hp) (E : XK) : Cx where
  prog := P
  w := w
  K := K
  mg := mg
  base := base
  A := A.deeper (envOfC qual scope s.heap.objs.size f cd)
  N := N
  s₀ := s
  H₀ := H
  env := envOfC qual scope s.heap.objs.size f cd
  outer := outer
  stack := envOfC qual scope s.heap.objs.size f cd :: outer
  ex := []
  calm := true
  fn := fun _ => true
  pn := []
  xe := fun e s' => wpAny (model P w) (A.deeper (envOfC qual scope s.heap.objs.size f cd)) (leaving (envOfC qual scope s.heap.objs.size f cd) e) (fun _ s'' => CX outer H s E e s'') (fun e' s'' => CX outer H s E e' s'') s'
theorem cell_has {sc : Scope} {n : Nat} {x : Str} (h : sc.names.lookup x = some .cell) : ∃ c, (cellsFrom n sc.names []).lookup x = some c := by
  have q := PySem.W.cellsFrom_some sc.names n [] (.inl h)
  exact Option.isSome_iff_exists.mp q
theorem inv_start {CX : CXT} {P : Program} {w : World} {K : PySem.W.Frag} {mg : Str → Option Value} {base : Heap} {N ps : List Str} {qual : Str} {scope : Scope} {f : Addr} {cd : Value} {A : Around} {outer : List Env} {s s1 : Shared} {H : Hp} {E : XK} {us : List Value} {vs : List V}
    (S : FnScope N ps scope) (hd : A.handled = none) (e0 : Env0 P w K mg base A outer s H) (hl : vs.length = ps.length) (r : Vals vs us)
    (x : InCallC s s.heap.objs.size (bindL (envOfC qual scope s.heap.objs.size f cd).kindOf (ps.zip us) fun _ => none) (cellsFrom (s.heap.objs.size + 1) scope.names []) (bindC (envOfC qual scope s.heap.objs.size f cd).kindOf (ps.zip us) fun _ => none) s1) :
    Inv (cxOf CX P w K mg base N qual scope f cd A outer s H E) [] (start N vs) H s1 := by
  have hpl : ps.length ≤ N.length := by have := congrArg List.length S.pre; rw [List.length_take] at this; omega
  obtain ⟨h1, tk, rfl, hk⟩ := x.done
  have noA : ∀ b : Addr, b ∉ (cxOf CX P w K mg base N qual scope f cd A outer s H E).ex := fun b z => absurd (show b ∈ ([] : List Addr) from z) (by simp)
  refine ⟨⟨e0.mod, S.kind, rfl, rfl, Nat.le_refl _, fun y z c h1 h2 => ?_, fun y hy => ?_, fun y c _ h => ?_, fun _ => hd, Around.frames_deeper e0.frames, .inr ⟨rfl, rfl⟩, fun b z => absurd z (noA b), e0.bs, e0.bsz, fun b _ _ => noA b, fun b z => absurd z (noA b), e0.funs, e0.frf⟩,
    rfl, e0.bare, Un.kept hk, ⟨_, x.toInCall.ns, fun i y v h1 h2 h3 => ?_⟩, fun y c h => ⟨_, x.cell y c h⟩, e0.hok.fresh (Nat.le_refl _), fun y c h => ?_, fun p hp => absurd (show p ∈ ([] : List (Addr × Obj)) from hp) (by simp), e0.hok.kept hk, ?_⟩
  · exact name_of_addr x.apart (PySem.mem_of_lookup h1) (PySem.mem_of_lookup h2)
  · have hy : scope.names.lookup y = some .cell ∨ scope.names.lookup y = some .free := hy
    rcases hy with hy | hy
    · exact cell_has hy
    · exact absurd rfl (S.nofree _ (PySem.mem_of_lookup hy))
  · exact Nat.le_of_lt (x.above y c (PySem.mem_of_lookup h))
  · have hi : i < vs.length := by
      unfold start at h2
      by_cases hi : i < vs.length
      · exact hi
      · rw [List.getElem?_append_right (by simpa using hi)] at h2
        rw [List.getElem?_replicate] at h2
        split at h2 <;> cases h2
    have ha : vs[i]? = some v := by
      unfold start at h2
      rw [List.getElem?_append_left (by simpa using hi), List.getElem?_map] at h2
      cases e : vs[i]? with
      | none => rw [e] at h2; cases h2
      | some a => rw [e] at h2; cases h2; rfl
    obtain ⟨u, hu, rv⟩ := r.get ha
    have hp : ps[i]? = some y := by
      rw [← S.pre, List.getElem?_take_of_lt (by omega)]; exact h1
    have ndP : ps.Nodup := by rw [← S.pre]; exact S.nd.sublist (List.take_sublist _ _)
    refine ⟨u, rv, ?_⟩
    rcases S.par y (List.mem_of_getElem? hp) with k | k
    · exact .inl ⟨k, bindL_get ndP hp hu k⟩
    · obtain ⟨c, e⟩ := cell_has (n := s.heap.objs.size + 1) k
      refine .inr ⟨.inl k, c, e, ?_⟩
      have q := x.cell y c e
      rw [bindC_get ndP hp hu (by show scope.names.lookup y ≠ _; rw [k]; decide)] at q
      exact q
  · exact e0.hok.fresh (Nat.le_of_lt (x.above y c (PySem.mem_of_lookup h)))
  · unfold start
    show _ = N.length
    rw [List.length_append, List.length_map, List.length_replicate]
    omega
theorem fn_of {CX : CXT} {P : Program} {w : World} {K : PySem.W.Frag} {mg : Str → Option Value} {base : Heap} {k : Nat} {f : Addr} {name qual : Str} {params : Arguments} {body : List Stmt} {scope : Scope} {dV kV doc pm cdv ct oc : Value} {an od : Option Addr}
    {osl : Array (Option Value)} {N ps : List Str} {sp : Sp} (lk : K.lookup f = some ⟨oc, od, .func (PySem.W.fnOf name qual params body scope dV kV doc pm an cdv ct), osl⟩) (hcd : PySem.W.codeIn K cdv qual = true) (S : FnScope N ps scope)
    (len : ∀ vs H Q E, sp vs H Q E → vs.length = ps.length)
    (hbody : ∀ (A : Around) (outer : List Env) (s : Shared) (H : Hp) (vs : List V) (Q : VK) (E : XK), Room k (A.deeper (envOfC qual scope s.heap.objs.size f cdv)) → sp vs H Q E →
      ∃ t, PSs (cxOf CX P w K mg base N qual scope f cdv A outer s H E) body t ∧ t { nx := fun _ H' => Q .non H', rt := Q } (start N vs) H) :
    FnOk P w K mg base CX (k + 1) f (PySem.W.fnOf name qual params body scope dV kV doc pm an cdv ct) ps sp := by
  refine ⟨len, fun A outer s H args us vs Q E hr e0 hb r hsp => ?_⟩
  have hl := len _ _ _ _ hsp
  have KX : K.In s.heap := e0.mod.kin.keeps fun b o e => (e0.bs b o e).1
  have lim : s.heap.NoLimit := e0.mod.nolimit.keeps fun b o e => (e0.bs b o e).1
  have hkind : ∀ y ∈ ps.zip us, scope.names.lookup y.1 = some .local ∨ (scope.names.lookup y.1 = some .cell ∧ ((cellsFrom (s.heap.objs.size + 1) scope.names []).lookup y.1).isSome = true) := fun ⟨n, v⟩ hy => by
    rcases S.par n (List.of_mem_zip hy).1 with q | q
    · exact .inl q
    · exact .inr ⟨q, PySem.W.cellsFrom_some _ _ _ (.inl q)⟩
  refine codeAny_call_function hr.depth (KX _ _ lk) rfl S.co S.gen rfl (PySem.W.codeRec_of KX hcd) (hb _ _ _ _ ?_)
  refine wpAny_newFunctionEnv_cells S.kind hkind fun env he s1 x => ?_
  subst he
  refine ⟨lim.keeps x.toInCall.keep, codeAny_func ?_⟩
  obtain ⟨t, ht, hq⟩ := hbody A outer s H vs Q E (hr.deeper _) hsp
  have I : Inv (cxOf CX P w K mg base N qual scope f cdv A outer s H E) [] (start N vs) H s1 := inv_start S hr.hd e0 hl r x
  refine wpAny_mono (ht [] s1 (start N vs) H _ I hq) (fun fl s' hs => ?_) fun e s' hs => hs
  have fin : ∀ {σ' : St} {H' : Hp} {v : V} {u : Value}, Inv (cxOf CX P w K mg base N qual scope f cdv A outer s H E) [] σ' H' s' → RelV v u → Q v H' → CE outer P w H s Q u s' :=
    fun {σ' H' v u} J rv q => ⟨v, H', J.os, J.bare, J.base, J.hok, rv, q⟩
  cases fl with
  | ret u =>
    obtain ⟨v, σ', H', J, rv, q⟩ := hs
    exact fin J rv q
  | next =>
    obtain ⟨σ', H', J, q⟩ := hs
    exact fin (v := V.non) (u := Value.none) J rfl q
  | brk =>
    obtain ⟨_, _, _, q⟩ := hs
    exact False.elim q
  | cont =>
    obtain ⟨_, _, _, q⟩ := hs
    exact False.elim q
end L2
namespace L2
open PySem PySem.Spec PyProof.Rows
section
variable {X : Cx} {x : Str} {p pos : Pos} {e : Expr} {es : List Expr} {t : TA} {id T : String} {r : List V → Hp → VK → Prop}
def tCB (r : List V → Hp → VK → Prop) (t : TA) : TE := fun σ H Q => t σ H fun vs H1 => r vs H1 Q
theorem pe_callB (hc : CallR X (.builtin id) r) (hg : Gl X x) (hm : X.mg x = none) (hv : bootBuiltins x = some (.builtin id)) (ha : PA X (e :: es) t) (hn : x ≠ "__name__" := by decide) (hdb : (x == ("__debug__" : Str)) = false := by decide)
    (he : starEach (e :: es) X.env = (false, eval e X.env) :: starEach es X.env := by rfl) (hpl : (backTo pos (starEach es X.env)).any (·.1) = false := by rfl) : PE X (.Call (.Name x p) (e :: es) [] pos) (tCB r t) := by
  intro pins s σ H Q I h
  refine wpAny_Call_Name_kw (ld_blt I hg hm hv ?_ hn hdb)
  exact PyProof.Rows.callWith_builtin1 (thn (ha pos pins s σ H _ I h) fun us s1 ⟨vs, H1, I1, r1, q1⟩ => hc pins s1 σ H1 vs us Q I1 r1 q1) he hpl
theorem pe_callTy (hc : CallR X (.type T) r) (hg : Gl X x) (hm : X.mg x = none) (hv : bootBuiltins x = some (.type T)) (ha : PA X (e :: es) t) (hn : x ≠ "__name__" := by decide) (hdb : (x == ("__debug__" : Str)) = false := by decide)
    (he : starEach (e :: es) X.env = (false, eval e X.env) :: starEach es X.env := by rfl) (hpl : (backTo pos (starEach es X.env)).any (·.1) = false := by rfl) : PE X (.Call (.Name x p) (e :: es) [] pos) (tCB r t) := by
  intro pins s σ H Q I h
  refine wpAny_Call_Name_kw (ld_blt I hg hm hv ?_ hn hdb)
  exact PyProof.Rows.callWith_type1 (thn (ha pos pins s σ H _ I h) fun us s1 ⟨vs, H1, I1, r1, q1⟩ => hc pins s1 σ H1 vs us Q I1 r1 q1) he hpl
end
end L2
namespace HT
open PySem PyProof.Rows
def lexLt : List Int → List Int → Bool
  | [], [] => false
  | [], _ :: _ => true
  | _ :: _, [] => false
  | x :: xs, y :: ys => if x = y then lexLt xs ys else decide (x < y)
section
open PySem.SeqAt
open PySem.AutoSeq1 (wpAny_loadPart')
open PySem.MeetsSeq PySem.MeetsSeq2 PySem.MeetsSeq3
end
section
variable {prog : Program} {w : World} {A : Around} {E : Value → Shared → Prop} {s : Shared}
theorem cat_tup {t b : Addr} {vs ws : List Value} {Q : Value → Shared → Prop} (ht : IsTup s.heap t vs.toArray) (hb : IsTup s.heap b ws.toArray) (hv : vs ≠ [])
    (h1 : ws = [] → Q (.ref t) s) (h2 : ws ≠ [] → Q (.ref s.heap.objs.size) { s with heap := s.heap.push { cls := .type "tuple", data := .seq (vs ++ ws).toArray } })
    (hsz : vs.length + ws.length ≤ sizeLine) : wpAny (model prog w) A (binaryOp .Add (.ref t) (.ref b)) Q E s := by
  obtain ⟨⟨cls, dd, data, sl⟩, ho, hc, n, hd⟩ := id ht
  obtain ⟨⟨cls2, dd2, data2, sl2⟩, ho2, hc2, n2, hd2⟩ := id hb
  simp only at hc hd hc2 hd2
  subst hc hd hc2 hd2
  have e : vs.toArray ++ ws.toArray = (vs ++ ws).toArray := by simp
  by_cases hw : ws = []
  · exact concat_meets ⟨_, ho, rfl⟩ ⟨_, ho2, rfl⟩ noFill_tuple_add seq_tuple_add PySem.F.slot_tuple_add PySem.F.entry_tuple_add (PySem.F.args_tuple_add_2 _ _)
      (tuple_addW1 t b vs.toArray ws.toArray n n2 dd dd2 sl sl2 (by simpa using hv) (by simp [hw])) ⟨ho, ho2, h1 hw⟩
  · refine concat_meets ⟨_, ho, rfl⟩ ⟨_, ho2, rfl⟩ noFill_tuple_add seq_tuple_add PySem.F.slot_tuple_add PySem.F.entry_tuple_add (PySem.F.args_tuple_add_2 _ _)
      (tuple_addW2 t b vs.toArray ws.toArray n n2 dd dd2 sl sl2 (by simpa using hv) (by simpa using hw) (by rw [List.size_toArray, List.size_toArray]; exact hsz)) ⟨ho, ho2, ?_⟩
    rw [e]
    exact h2 hw
def sIx (n d : Nat) : Option Int → Nat
  | none => d
  | some v => if v < 0 then (v + (n : Int)).toNat else min v.toNat n
theorem sIx_none (n d : Nat) : sIx n d none = d := rfl
theorem sIx_nat (n d k : Nat) : sIx n d (some (k : Int)) = min k n := by
  show (if (k : Int) < 0 then ((k : Int) + (n : Int)).toNat else min (k : Int).toNat n) = min k n
  rw [if_neg (by omega), Int.toNat_natCast]
theorem sIx_le (n d : Nat) (hd : d ≤ n) (o : Option Int) : sIx n d o ≤ n := by
  cases o with
  | none => exact hd
  | some v =>
    show (if v < 0 then (v + (n : Int)).toNat else min v.toNat n) ≤ n
    by_cases hv : v < 0
    · rw [if_pos hv]; omega
    · rw [if_neg hv]; exact Nat.min_le_right _ _
theorem clip_eq (v : Int) (n d : Nat) : (if v < 0 then max (v + (n : Int)) 0 else min v (n : Int)) = ((sIx n d (some v) : Nat) : Int) := by
  show (if v < 0 then max (v + (n : Int)) 0 else min v (n : Int)) = (((if v < 0 then (v + (n : Int)).toNat else min v.toNat n) : Nat) : Int)
  by_cases hv : v < 0
  · simp only [if_pos hv]; omega
  · simp only [if_neg hv]; omega
theorem adjust_gen (lo hi : Option Int) (n : Nat) : Builtin.Slice.sliceAdjust lo hi 1 (n : Int) = (((sIx n 0 lo : Nat) : Int), ((sIx n n hi : Nat) : Int)) := by
  have h1 : ¬ ((1 : Int) < 0) := by omega
  unfold Builtin.Slice.sliceAdjust
  simp only [h1, if_false]
  refine Prod.ext ?_ ?_
  · cases lo with
    | none => rfl
    | some v => exact clip_eq v n 0
  · cases hi with
    | none => rfl
    | some v => exact clip_eq v n n
theorem places_gen (i j : Nat) : Builtin.Slice.slicePlaces (i : Int) (j : Int) 1 = j - i := by
  unfold Builtin.Slice.slicePlaces
  have h1 : (1 : Int) > 0 := by omega
  simp only [h1, if_true, Int.ediv_one]
  split <;> omega
theorem slicePart_ {v : Value} {o : Option Int} {Q : Option Int → Shared → Prop} (p : IsPart v o) (h : Q o s) : wpAny (model prog w) A (Builtin.Slice.slicePartIndex v) Q E s := by
  cases p with
  | none => exact slicePart_none h
  | int i t => exact slicePart_int h
theorem sliceApplied_gen {sl : Addr} {vl vu : Value} {lo hi : Option Int} {n : Nat} {Q : Int × Int × Nat → Shared → Prop} (hs : s.heap.IsSliceOf sl vl vu .none) (pl : IsPart vl lo) (pu : IsPart vu hi)
    (h : Q (((sIx n 0 lo : Nat) : Int), 1, sIx n n hi - sIx n 0 lo) s) : wpAny (model prog w) A (Builtin.Slice.sliceApplied (.ref sl) (pure (n : Int))) Q E s := by
  obtain ⟨os, hos, hcs, hds⟩ := id hs
  unfold Builtin.Slice.sliceApplied Builtin.Slice.sliceFields
  refine wpAny_bind (wpAny_bind (wpAny_field hos hds (x := vl) rfl (wpAny_bind (wpAny_field hos hds (x := vu) rfl (wpAny_bind (wpAny_field hos hds (x := .none) rfl (wpAny_pure ?_)))))))
  refine wpAny_bind (slicePart_none ?_)
  show wpAny _ _ (if ((1 : Int) == 0) = true then _ else _) _ _ s
  rw [if_neg (by decide)]
  refine wpAny_bind (slicePart_ pl (wpAny_bind (slicePart_ pu (wpAny_bind (wpAny_pure ?_)))))
  show wpAny _ _ (match Builtin.Slice.sliceAdjust lo hi 1 (n : Int) with | (lo, hi) => pure (lo, (1 : Int), Builtin.Slice.slicePlaces lo hi 1)) _ _ s
  rw [adjust_gen lo hi n]
  show wpAny _ _ (pure (((sIx n 0 lo : Nat) : Int), (1 : Int), Builtin.Slice.slicePlaces ((sIx n 0 lo : Nat) : Int) ((sIx n n hi : Nat) : Int) 1)) _ _ s
  rw [places_gen]
  exact wpAny_pure h
theorem pick_gen (xs : Array Value) (i k : Nat) : ((List.range k).filterMap fun (m : Nat) => xs[((i : Int) + (m : Int) * 1).toNat]?).toArray = ((xs.toList.drop i).take k).toArray := by
  have e : (fun (m : Nat) => xs[((i : Int) + (m : Int) * 1).toNat]?) = fun m => xs[i + m]? := by
    funext m
    have : ((i : Int) + (m : Int) * 1).toNat = i + m := by omega
    rw [this]
  rw [e]
  have := pick_run xs i k
  rw [List.filterMap_map] at this
  have e2 : ((fun x => xs[x]?) ∘ fun x => i + x) = fun m => xs[i + m]? := rfl
  rw [e2] at this
  rw [this]
theorem getItem_tuple_cut {t sl : Addr} {items : Array Value} {vl vu : Value} {lo hi : Option Int} {Q : Value → Shared → Prop} (ht : IsTup s.heap t items) (hs : s.heap.IsSliceOf sl vl vu .none) (pl : IsPart vl lo) (pu : IsPart vu hi)
    (hw : ¬ (sIx items.size 0 lo = 0 ∧ sIx items.size items.size hi = items.size))
    (h : Q (.ref s.heap.objs.size) { s with heap := s.heap.push { cls := .type "tuple", data := .seq ((items.toList.drop (sIx items.size 0 lo)).take (sIx items.size items.size hi - sIx items.size 0 lo)).toArray } })
    (hsz : items.size ≤ sizeLine) : wpAny (model prog w) A (getItem (.ref t) (.ref sl)) Q E s := by
  have htake : sizeOk (.seq ((items.toList.drop (sIx items.size 0 lo)).take (sIx items.size items.size hi - sIx items.size 0 lo)).toArray) := by
    show ((items.toList.drop (sIx items.size 0 lo)).take (sIx items.size items.size hi - sIx items.size 0 lo)).toArray.size ≤ sizeLine
    rw [List.size_toArray, List.length_take, List.length_drop, Array.length_toList]
    omega
  have hj : sIx items.size items.size hi ≤ items.size := sIx_le _ _ (Nat.le_refl _) hi
  obtain ⟨os, hos, hcs, hds⟩ := id hs
  have hTs : s.TypeIs (.ref sl) "slice" := ⟨os, hos, hcs⟩
  unfold getItem
  try with_reducible refine wpAny_holding ?_
  first | refine wpAny_bind (wpAny_pure ?_) | skip
  refine wpAny_bind (wpAny_sequenceKey ht.typeIs (by decide) ?_)
  refine wpAny_bind (wpAny_callSpecial?_slot (name := Str.ofString "__getitem__") ht.typeIs PyProof.Rows.slot_tuple_getitem
    (wpAny_call_entry PyProof.Rows.slot_tuple_getitem ht.typeIs entry_tuple_getitem ?_ (args_tuple_getitem _ _)))
  show wpAny _ _ (Builtin.Tuple.tupleItemsOf (.ref t) >>= _) _ _ s
  refine wpAny_bind (tupleItemsOf_ ht ?_)
  refine wpAny_bind (wpAny_typeOf hTs ?_)
  rw [if_pos (by decide)]
  refine wpAny_bind (sliceApplied_gen hs pl pu ?_)
  have hno : ¬ ((((sIx items.size 0 lo : Nat) : Int) == 0 && (1 : Int) == 1 && (sIx items.size items.size hi - sIx items.size 0 lo) == items.size) = true) := by
    intro q
    rw [Bool.and_eq_true, Bool.and_eq_true] at q
    have q1 : ((sIx items.size 0 lo : Nat) : Int) = 0 := eq_of_beq q.1.1
    have q2 : sIx items.size items.size hi - sIx items.size 0 lo = items.size := eq_of_beq q.2
    exact hw ⟨by omega, by omega⟩
  show wpAny _ _ (if (((sIx items.size 0 lo : Nat) : Int) == 0 && (1 : Int) == 1 && (sIx items.size items.size hi - sIx items.size 0 lo) == items.size) = true then _ else _) _ _ s
  rw [if_neg hno, pick_gen]
  first
    | exact wpAny_bind (m := Builtin.Tuple.tupleExact _) (wpAny_newObj_type (wpAny_pure ⟨_, rfl, wpAny_pure h⟩) htake)
    | exact wpAny_bind (m := Builtin.Tuple.tupleExact _) (wpAny_newObj_type (wpAny_bind (wpAny_pure (wpAny_pure ⟨_, rfl, wpAny_pure h⟩))) htake)
    | exact wpAny_bind (wpAny_bind (m := Builtin.Tuple.tupleExact _) (wpAny_newObj_type (wpAny_pure (wpAny_pure ⟨_, rfl, wpAny_pure h⟩)) htake))
    | exact wpAny_bind (wpAny_bind (m := Builtin.Tuple.tupleExact _) (wpAny_newObj_type (wpAny_pure ⟨_, rfl, wpAny_pure h⟩) htake))
end
end HT
namespace L2
open PySem PySem.Spec PyProof.Rows
abbrev TO := St → Hp → (Option Int → Hp → Prop) → Prop
def PO (X : Cx) (e : Option Expr) (t : TO) : Prop :=
  ∀ (pins : List (Addr × Obj)) (s : Shared) (σ : St) (H : Hp) (Q : Option Int → Hp → Prop), Inv X pins σ H s → t σ H Q →
    wpAny (model X.prog X.w) X.A (evalPart e X.env) (fun u s' => ∃ o H', Inv X pins σ H' s' ∧ IsPart u o ∧ Q o H') X.xe s
def tNoPart : TO := fun _ H Q => Q none H
def tPart (t : TE) : TO := fun σ H Q => t σ H fun x H1 => ∃ i, x = .int i ∧ Q (some i) H1
theorem intsAre_of {ns : List Int} : ∀ {us : List Value}, Vals (ns.map V.int) us → IntsAre us ns := by
  induction ns with
  | nil => intro us r; rw [List.map_nil] at r; cases r; exact .nil
  | cons n ns ih =>
    intro us r
    rw [List.map_cons] at r
    cases r with
    | cons r1 r2 =>
      obtain ⟨t, e⟩ := r1
      subst e
      exact .cons n t (ih r2)
section
variable {X : Cx} {e : Expr} {te : TE} {lo hi : Option Expr} {tl th : TO} {pos p2 : Pos}
theorem po_none : PO X none tNoPart := by
  intro pins s σ H Q I h
  rw [evalPart_none]
  exact wpAny_pure ⟨none, H, I, .none, h⟩
theorem po_some (h : PE X e te) : PO X (some e) (tPart te) := by
  intro pins s σ H Q I hw
  rw [evalPart_some]
  refine thn (h pins s σ H _ I hw) fun u s1 ⟨x, H1, I1, r1, q1⟩ => ?_
  obtain ⟨i, rfl, q⟩ := q1
  obtain ⟨t, rfl⟩ := r1
  exact ⟨some i, H1, I1, .int i t, q⟩
def SlR (X : Cx) (r : V → Option Int → Option Int → Hp → VK → Prop) : Prop :=
  ∀ (pins : List (Addr × Obj)) (s : Shared) (σ : St) (H : Hp) (x : V) (v vl vu : Value) (lo hi : Option Int) (sl : Addr) (Q : VK), Inv X pins σ H s → RelV x v → s.heap.IsSliceOf sl vl vu .none → IsPart vl lo → IsPart vu hi → r x lo hi H Q →
    ∃ T id, typeLookup (.type T) "__getitem__" = pure (some (.builtin id)) ∧ s.TypeIs v T ∧ wpAny (model X.prog X.w) X.A (getItem v (.ref sl)) (EP X pins σ Q) X.xe s
def tSl (r : V → Option Int → Option Int → Hp → VK → Prop) (te : TE) (tl th : TO) : TE := fun σ H Q => te σ H fun x H1 => tl σ H1 fun l H2 => th σ H2 fun u H3 => r x l u H3 Q
theorem pe_slice {r : V → Option Int → Option Int → Hp → VK → Prop} (hr : SlR X r) (he : PE X e te) (hl : PO X lo tl) (hu : PO X hi th) : PE X (.Subscript e (.Slice lo hi none p2) pos) (tSl r te tl th) := by
  intro pins s σ H Q I h
  refine Subscript_ (thn (he pins s σ H _ I h) fun v s1 ⟨x, H1, I1, r1, q1⟩ => ?_)
  refine wpAny_Slice (thn (hl pins s1 σ H1 _ I1 q1) fun vl s2 ⟨l, H2, I2, pl, q2⟩ => thn (hu pins s2 σ H2 _ I2 q2) fun vu s3 ⟨u, H3, I3, pu, q3⟩ => ?_)
  rw [evalPart_none]
  refine wpAny_pure ?_
  have I4 : Inv X pins σ H3 { s3 with heap := s3.heap.push { cls := .type "slice", data := .fields #[vl, vu, .none] } } := I3.kept (t' := s3.toks) fun b ob q => Heap.get?_push_of_some _ q
  obtain ⟨T, id, hT, ht, hg⟩ := hr pins { s3 with heap := s3.heap.push { cls := .type "slice", data := .fields #[vl, vu, .none] } } σ H3 x v vl vu l u s3.heap.objs.size Q I4 r1 (Heap.IsSliceOf.new ..) pl pu q3
  show wpAny (model X.prog X.w) X.A (subscriptTail e (.Slice lo hi none p2) v (.ref s3.heap.objs.size)) (EP X pins σ Q) X.xe { s3 with heap := s3.heap.push { cls := .type "slice", data := .fields #[vl, vu, .none] } }
  exact tail_any (ops := [.ref s3.heap.objs.size, v]) ht hT hg (by with_unfolding_all rfl)
def cutV (xs : List V) (lo hi : Option Int) : List V := (xs.drop (HT.sIx xs.length 0 lo)).take (HT.sIx xs.length xs.length hi - HT.sIx xs.length 0 lo)
theorem cutV_length (xs : List V) (lo hi : Option Int) : (cutV xs lo hi).length ≤ xs.length := by
  unfold cutV
  rw [List.length_take, List.length_drop]
  omega
def rSlT (K : PySem.W.Frag) : V → Option Int → Option Int → Hp → VK → Prop := fun x lo hi H Q => ∃ a xs, x = .ref a ∧ SqT K H a xs ∧
  ¬ (HT.sIx xs.length 0 lo = 0 ∧ HT.sIx xs.length xs.length hi = xs.length) ∧ ∀ p, H p = none → Q (.ref p) (upd H p (.tup (cutV xs lo hi)))
theorem sl_tup : SlR X (rSlT X.K) := by
  intro pins s σ H x v vl vu lo hi sl Q I rx hs pl pu h
  obtain ⟨a, xs, rfl, hx, hw, q⟩ := h
  cases rx
  obtain ⟨its, r, ht, hz⟩ := I.tuple hx
  have hlen : its.toArray.size = xs.length := by rw [List.size_toArray]; exact r.length.symm
  refine ⟨"tuple", _, PyProof.Rows.slot_tuple_getitem.lookup, ht.typeIs, ?_⟩
  refine HT.getItem_tuple_cut ht hs pl pu (by rw [hlen]; exact hw) ?_ (by rw [hlen]; exact hz)
  rw [hlen]
  refine ⟨.ref s.heap.objs.size, _, I.laid (t' := s.toks) (o := .tup (cutV xs lo hi)) (fun b ob q => Heap.get?_push_of_some _ q) (Nat.le_refl _) ?_, rfl, q _ (I.hok.fresh (Nat.le_refl _))⟩
  exact ⟨Nat.le_trans (cutV_length xs lo hi) hz, _, (r.drop (HT.sIx xs.length 0 lo)).take (HT.sIx xs.length xs.length hi - HT.sIx xs.length 0 lo), IsTup.new _ _⟩
def rCatT (K : PySem.W.Frag) : R2 := fun x y H Q => ∃ a b xs ys, x = .ref a ∧ y = .ref b ∧ SqT K H a xs ∧ SqT K H b ys ∧ xs ≠ [] ∧ xs.length + ys.length ≤ sizeLine ∧
  (ys = [] → Q (.ref a) H) ∧ (ys ≠ [] → ∀ p, H p = none → Q (.ref p) (upd H p (.tup (xs ++ ys))))
theorem Vals.nil_iff {xs : List V} {us : List Value} (r : Vals xs us) : us = [] ↔ xs = [] := by
  cases r with
  | nil => simp
  | cons _ _ => simp
theorem op_catT : OpR X (binaryOp .Add) (rCatT X.K) := by
  intro pins s σ H x y v u Q I rx ry h
  obtain ⟨a, b, xs, ys, rfl, rfl, ha, hb, hx, hz, q1, q2⟩ := h
  cases rx
  cases ry
  obtain ⟨its, r1, p1, _⟩ := I.tuple ha
  obtain ⟨its2, r2, p2, _⟩ := I.tuple hb
  refine HT.cat_tup p1 p2 (fun z => hx (r1.nil_iff.mp z)) (fun z => ⟨.ref a, H, I, rfl, q1 (r2.nil_iff.mp z)⟩) (fun z => ?_) (by rw [← r1.length, ← r2.length]; exact hz)
  refine ⟨.ref s.heap.objs.size, _, I.laid (t' := s.toks) (o := .tup (xs ++ ys)) (fun b ob q => Heap.get?_push_of_some _ q) (Nat.le_refl _) ?_, rfl, q2 (fun w => z (r2.nil_iff.mpr w)) _ (I.hok.fresh (Nat.le_refl _))⟩
  exact ⟨by rw [List.length_append]; exact hz, _, r1.append r2, IsTup.new _ _⟩
end
end L2
namespace L2
open PySem PySem.Spec PyProof.Rows
def ixN (n : Nat) (i : Int) : Option Nat := if 0 ≤ i then (if i < n then some i.toNat else none) else if -(n : Int) ≤ i then some (i + n).toNat else none
def atI {α : Type} (xs : List α) (i : Int) : Option α := (ixN xs.length i).bind fun j => xs[j]?
theorem ixN_seq {n : Nat} {i : Int} {j : Nat} (h : ixN n i = some j) : seqIndex? i n = some j ∧ j < n ∧ -(n : Int) ≤ i ∧ i < n := by
  unfold ixN at h
  by_cases h0 : 0 ≤ i
  · rw [if_pos h0] at h
    by_cases h1 : i < n
    · rw [if_pos h1] at h
      have e : i.toNat = j := Option.some.inj h
      exact ⟨by rw [seqIndex_of h0 h1, e], by omega, by omega, h1⟩
    · rw [if_neg h1] at h; cases h
  · rw [if_neg h0] at h
    by_cases h1 : -(n : Int) ≤ i
    · rw [if_pos h1] at h
      have e : (i + n).toNat = j := Option.some.inj h
      exact ⟨by rw [seqIndex_neg (by omega) h1, e], by omega, h1, by omega⟩
    · rw [if_neg h1] at h; cases h
theorem atI_get {α : Type} {xs : List α} {i : Int} {v : α} (h : atI xs i = some v) : ∃ j, seqIndex? i xs.length = some j ∧ xs[j]? = some v ∧ j < xs.length ∧ -(xs.length : Int) ≤ i ∧ i < xs.length := by
  unfold atI at h
  cases e : ixN xs.length i with
  | none => rw [e] at h; cases h
  | some j =>
    rw [e] at h
    obtain ⟨h1, h2, h3, h4⟩ := ixN_seq e
    exact ⟨j, h1, h, h2, h3, h4⟩
theorem atI_nat {α : Type} {xs : List α} {j : Nat} {v : α} (h : xs[j]? = some v) : atI xs (j : Int) = some v := by
  have hj : j < xs.length := (List.getElem?_eq_some_iff.mp h).1
  have e : ixN xs.length (j : Int) = some j := by
    unfold ixN
    rw [if_pos (by omega), if_pos (by omega)]; simp
  unfold atI; rw [e]; exact h
def PlainIx (b : Expr) : Prop := ∀ o i, subscripted b false o i = operate [o, i] (getItem o i)
def IxR (X : Cx) (r : R2) : Prop :=
  ∀ (value slice : Expr) (pins : List (Addr × Obj)) (s : Shared) (σ : St) (H : Hp) (x y : V) (v u : Value) (Q : VK), Inv X pins σ H s → RelV x v → RelV y u → r x y H Q →
    subscripted slice false v u = operate [v, u] (getItem v u) → wpAny (model X.prog X.w) X.A (subscriptTail value slice v u) (EP X pins σ Q) X.xe s
def MtR (X : Cx) (id : String) (r : V → List V → Hp → VK → Prop) : Prop :=
  ∀ (pins : List (Addr × Obj)) (s : Shared) (σ : St) (H : Hp) (x : V) (xs : List V) (v : Value) (us : List Value) (Q : VK), Inv X pins σ H s → RelV x v → Vals xs us → r x xs H Q →
    wpAny (model X.prog X.w) X.A (call (.builtin id) (v :: us)) (EP X pins σ Q) X.xe s
section
variable {X : Cx} {a b : Expr} {ta tb : TE} {pos : Pos}
theorem pe_ix {r : R2} (hr : IxR X r) (ha : PE X a ta) (hb : PE X b tb) (hs : PlainIx b) : PE X (.Subscript a b pos) (tOp r ta tb) := by
  intro pins s σ H Q I h
  exact Subscript_ (binT ha hb I h fun v u s2 x y H2 I2 rx ry q => hr a b pins s2 σ H2 x y v u Q I2 rx ry q (hs _ _))
def rIxL (K : PySem.W.Frag) : R2 := fun x y H Q => ∃ p xs i v, x = .ref p ∧ y = .int i ∧ SqL K H p xs ∧ atI xs i = some v ∧ Q v H
def rIxT (K : PySem.W.Frag) : R2 := fun x y H Q => ∃ p xs i v, x = .ref p ∧ y = .int i ∧ SqT K H p xs ∧ atI xs i = some v ∧ Q v H
def rIxS : R2 := fun x y H Q => ∃ z i c, x = .str z ∧ y = .int i ∧ z.length ≤ sizeLine ∧ atI z.cps.toList i = some c ∧ Q (.str ⟨#[c]⟩) H
theorem ix_list : IxR X (rIxL X.K) := by
  intro value slice pins s σ H x y v u Q I rx ry h hs
  obtain ⟨p, xs, i, z, rfl, rfl, hq, he, q⟩ := h
  cases rx
  obtain ⟨t, rfl⟩ := ry
  obtain ⟨its, r, pl, hz⟩ := I.list hq
  obtain ⟨j, h1, h2, h3, h4, h5⟩ := atI_get he
  obtain ⟨w, ew, rw'⟩ := r.get h2
  have hl := r.length
  have hn := line63
  have fin : EP X pins σ Q w s := ⟨z, H, I, rw', q⟩
  by_cases h0 : 0 ≤ i
  · have hj : i.toNat = j := by
      rw [seqIndex_of h0 h5] at h1
      exact Option.some.inj h1
    exact item_listR pl.isList h0 (by omega) (by rw [hj]; simpa using ew) fin hs
  · have hj : (i + (its.toArray.size : Int)).toNat = j := by
      rw [seqIndex_neg (by omega) h4] at h1
      rw [List.size_toArray, ← hl]
      exact Option.some.inj h1
    exact subscriptTail_builtinR (x := w) pl.isList.typeIs slot_list_getitem.lookup
      (wpAny_getItem_list_neg (Q := fun r s' => r = w ∧ EP X pins σ Q r s') pl.isList (by omega) (by rw [List.size_toArray] <;> omega) (by omega) (by rw [hj]; simpa using ew) ⟨rfl, fin⟩) hs
theorem ix_tup : IxR X (rIxT X.K) := by
  intro value slice pins s σ H x y v u Q I rx ry h hs
  obtain ⟨p, xs, i, z, rfl, rfl, hq, he, q⟩ := h
  cases rx
  obtain ⟨t, rfl⟩ := ry
  obtain ⟨its, r, pl, hz⟩ := I.tuple hq
  obtain ⟨j, h1, h2, h3, h4, h5⟩ := atI_get he
  obtain ⟨w, ew, rw'⟩ := r.get h2
  have hl := r.length
  have hn := line63
  have fin : EP X pins σ Q w s := ⟨z, H, I, rw', q⟩
  exact subscriptTail_builtinR (x := w) pl.typeIs slot_tuple_getitem.lookup
    (getItem_tuple (j := j) (Q := fun r s' => r = w ∧ EP X pins σ Q r s') pl (by omega) (by omega) (by rw [List.size_toArray, ← hl]; exact h1) (by simpa using ew) ⟨rfl, fin⟩) hs
theorem ix_str : IxR X rIxS := by
  intro value slice pins s σ H x y v u Q I rx ry h hs
  obtain ⟨z, i, c, rfl, rfl, hz, he, q⟩ := h
  obtain ⟨t, rfl⟩ := rx
  obtain ⟨t', rfl⟩ := ry
  obtain ⟨j, h1, h2, h3, h4, h5⟩ := atI_get he
  have hl : z.cps.toList.length = z.length := by simp [Str.length]
  rw [hl] at h1 h4 h5
  have hn := line63
  exact tail_any (typeIs_str s z t) slot_str_getitem.lookup (getItem_str (c := c) (by
    have e1 : decide (i < -(2 ^ 63 : Int)) = false := decide_eq_false (by omega)
    have e2 : decide (i ≥ 2 ^ 63) = false := decide_eq_false (by omega)
    rw [e1, e2, Bool.or_false]) (by rw [h1]; simpa using h2) ⟨.str ⟨#[c]⟩, H, I.tok _, ⟨_, rfl⟩, q⟩) hs
theorem mapSeq_set (its : List Value) (n j : Nat) (u : Value) : Obj.mapSeq (·.setIfInBounds j u) { cls := .type "list", data := .seq its.toArray n } = { cls := .type "list", data := .seq (its.set j u).toArray n } := by
  simp [Obj.mapSeq]
theorem Inv.lst {pins : List (Addr × Obj)} {σ : St} {H : Hp} {s : Shared} {p : Addr} {xs : List V} (I : Inv X pins σ H s) (h : H p = some (.lst xs)) :
    ∃ (its : List Value) (n : Nat), Vals xs its ∧ s.heap.get? p = some { cls := .type "list", data := .seq its.toArray n } ∧ xs.length ≤ sizeLine := by
  obtain ⟨z, its, n, r, e⟩ := I.hok p _ h
  exact ⟨its, n, r, e, z⟩
theorem Inv.lstUpd {pins : List (Addr × Obj)} {σ : St} {H : Hp} {s : Shared} {p : Addr} {xs ys : List V} {its its' : List Value} {n n' : Nat} {f : Obj → Obj} (I : Inv X pins σ H s) (h : H p = some (.lst xs))
    (ho : s.heap.get? p = some { cls := .type "list", data := .seq its.toArray n }) (hf : f { cls := .type "list", data := .seq its.toArray n } = { cls := .type "list", data := .seq its'.toArray n' }) (r : Vals ys its') (hz : ys.length ≤ sizeLine) (t : Nat) :
    Inv X pins σ (upd H p (.lst ys)) { s with heap := s.heap.update p f, toks := t } := by
  have e : (s.heap.update p f).get? p = some { cls := .type "list", data := .seq its'.toArray n' } := by
    rw [Heap.get?_update_self f ho (by rw [hf] <;> rfl), hf]
  refine I.write (x := p) (e := p) (by rw [h]; trivial) (.inl rfl) (fun b u hb q => (Heap.get?_update_other _ _ (Ne.symm hb)).trans q) ⟨_, e⟩ ?_
  exact ⟨hz, its', n', r, e⟩
def rSetL : V → V → V → Hp → (Hp → Prop) → Prop := fun o i v H Q => ∃ p xs k j, o = .ref p ∧ i = .int k ∧ H p = some (.lst xs) ∧ ixN xs.length k = some j ∧ Q (upd H p (.lst (xs.set j v)))
theorem set_list : PSet X rSetL := by
  intro pins s σ H o i v ov iv u Q I ro ri rv h
  obtain ⟨p, xs, k, j, rfl, rfl, hp, hj, q⟩ := h
  cases ro
  obtain ⟨t, rfl⟩ := ri
  obtain ⟨its, n, r, ho, hz⟩ := I.lst hp
  obtain ⟨h1, h2, h3, h4⟩ := ixN_seq hj
  have hl := r.length
  have hn := line63
  have I' : Inv X pins σ (upd H p (.lst (xs.set j v))) { s with heap := s.heap.update p (Obj.mapSeq (·.setIfInBounds j u)) } :=
    I.lstUpd hp ho (mapSeq_set its n j u) (r.set rv j) (by rw [List.length_set]; exact hz) s.toks
  by_cases h0 : 0 ≤ k
  · have hk : k.toNat = j := by
      rw [seqIndex_of h0 h4] at h1
      exact Option.some.inj h1
    exact PySem.W.ki_setAt ho h0 (by omega) (by rw [List.size_toArray, ← hl]; exact h4) (by rw [hk]; exact ⟨_, I', q⟩)
  · have hk : (k + (its.toArray.size : Int)).toNat = j := by
      rw [seqIndex_neg (by omega) h3] at h1
      rw [List.size_toArray, ← hl]
      exact Option.some.inj h1
    exact PySem.W.ki_setBack ho (by omega) (by rw [List.size_toArray, ← hl]; exact h3) (by omega) (by rw [hk]; exact ⟨_, I', q⟩)
theorem slice_bounds (lo hi : Option Int) (n : Nat) : (sliceBounds lo hi none n).1 = ((HT.sIx n 0 lo : Nat) : Int) ∧ (sliceBounds lo hi none n).2.1 = ((HT.sIx n n hi : Nat) : Int) ∧ (sliceBounds lo hi none n).2.2 = 1 := by
  refine ⟨?_, ?_, rfl⟩
  · cases lo with
    | none => simp [sliceBounds, HT.sIx]
    | some i =>
      simp only [sliceBounds, HT.sIx, Option.getD_none, show (1 : Int) > 0 by decide, if_true]
      by_cases h : i < 0
      · simp only [h, if_true] <;> omega
      · simp only [h, if_false] <;> omega
  · cases hi with
    | none => simp [sliceBounds, HT.sIx]
    | some i =>
      simp only [sliceBounds, HT.sIx, Option.getD_none, show (1 : Int) > 0 by decide, if_true]
      by_cases h : i < 0
      · simp only [h, if_true] <;> omega
      · simp only [h, if_false] <;> omega
theorem slicePick_cut (its : List Value) (lo hi : Option Int) : slicePick its.toArray lo hi none = ((its.drop (HT.sIx its.length 0 lo)).take (HT.sIx its.length its.length hi - HT.sIx its.length 0 lo)).toArray := by
  obtain ⟨h1, h2, h3⟩ := slice_bounds lo hi its.toArray.size
  unfold slicePick
  rw [h1, h2, h3]
  simp only [sliceRange_one, pick_run, List.size_toArray] <;> rfl
def rSlL (K : PySem.W.Frag) : V → Option Int → Option Int → Hp → VK → Prop := fun x lo hi H Q => ∃ a xs, x = .ref a ∧ SqL K H a xs ∧ ∀ p, H p = none → Q (.ref p) (upd H p (.lst (cutV xs lo hi)))
theorem sl_list : SlR X (rSlL X.K) := by
  intro pins s σ H x v vl vu lo hi sl Q I rx hs pl pu h
  obtain ⟨a, xs, rfl, hx, q⟩ := h
  cases rx
  obtain ⟨its, r, ht, hz⟩ := I.list hx
  have hlen := r.length
  refine ⟨"list", _, slot_list_getitem.lookup, ht.isList.typeIs, ?_⟩
  refine wpAny_getItem_list_slice ht.isList hs pl pu .none (by simp) ?_ (by rw [List.size_toArray] <;> omega)
  rw [slicePick_cut, ← hlen]
  refine ⟨.ref s.heap.objs.size, _, I.laid (t' := s.toks) (o := .lst (cutV xs lo hi)) (fun b ob q => Heap.get?_push_of_some _ q) (Nat.le_refl _) ?_, rfl, q _ (I.hok.fresh (Nat.le_refl _))⟩
  exact ⟨Nat.le_trans (cutV_length xs lo hi) hz, _, 0, (r.drop (HT.sIx xs.length 0 lo)).take (HT.sIx xs.length xs.length hi - HT.sIx xs.length 0 lo), Heap.get?_push_size _ rfl⟩
theorem call_len_seq : CallR X (.builtin "len") (fun xs H Q => ∃ p ys, xs = [.ref p] ∧ (SqL X.K H p ys ∨ SqT X.K H p ys) ∧ Q (.int ys.length) H) := by
  intro pins s σ H xs us Q I r h
  obtain ⟨p, ys, rfl, hq, q⟩ := h
  obtain ⟨u, rfl, rx⟩ := vals1 r
  cases rx
  have hn := line63
  rcases hq with hq | hq
  · obtain ⟨its, r', pl, hz⟩ := I.list hq
    have hlen := r'.length
    exact Calls.call_len_list pl.isList (by simp only [List.size_toArray] <;> omega) ⟨.int ys.length, H, I.tok _, ⟨s.toks + 1, by rw [List.size_toArray, hlen]⟩, q⟩
  · obtain ⟨its, r', pl, hz⟩ := I.tuple hq
    have hlen := r'.length
    exact len_tuple pl (by simp only [List.size_toArray] <;> omega) ⟨.int ys.length, H, I.tok _, ⟨s.toks + 1, by rw [List.size_toArray, hlen]⟩, q⟩
theorem call_len_str : CallR X (.builtin "len") (fun xs H Q => ∃ z, xs = [.str z] ∧ z.length ≤ sizeLine ∧ Q (.int z.length) H) := by
  intro pins s σ H xs us Q I r h
  obtain ⟨z, rfl, hz, q⟩ := h
  obtain ⟨u, rfl, t, rfl⟩ := vals1 r
  have hn := line63
  exact len_str (by omega) ⟨.int z.length, H, I.tok _, ⟨_, rfl⟩, q⟩
theorem call_list_of : CallR X (.type "list") (fun xs H Q => ∃ p ys, xs = [.ref p] ∧ (SqL X.K H p ys ∨ SqT X.K H p ys) ∧ ∀ l, H l = none → Q (.ref l) (upd H l (.lst ys))) := by
  intro pins s σ H xs us Q I r h
  obtain ⟨p, ys, rfl, hq, q⟩ := h
  obtain ⟨u, rfl, rx⟩ := vals1 r
  cases rx
  have fin : ∀ (its : List Value), Vals ys its → ys.length ≤ sizeLine → ∀ (h' : Heap) (c' : Nat), (∀ b o', s.heap.get? b = some o' → h'.get? b = some o') →
      h'.get? s.heap.objs.size = some { cls := .type "list", dict := none, data := .seq its.toArray c', slots := #[] } → EP X pins σ Q (.ref s.heap.objs.size) { s with heap := h' } := fun its r' hz h' c' kp e =>
    ⟨.ref s.heap.objs.size, _, I.laid (t' := s.toks) kp (Nat.le_refl _) (show ObjOk X.prog X.w _ h' _ (.lst ys) from ⟨hz, its, c', r', e⟩), rfl, q _ (I.hok.fresh (Nat.le_refl _))⟩
  rcases hq with hq | hq
  · obtain ⟨its, r', pl, hz⟩ := I.list hq
    have hlen := r'.length
    obtain ⟨o, ho, hc, n, hd⟩ := pl.isList
    exact call_list_seq p (.inl rfl) ho hc hd (fun h' c' kp e => fin its r' hz h' c' kp e) (by simp only [List.size_toArray] <;> omega)
  · obtain ⟨its, r', pl, hz⟩ := I.tuple hq
    have hlen := r'.length
    obtain ⟨o, ho, hc, n, hd⟩ := pl
    exact call_list_seq p (.inr rfl) ho hc hd (fun h' c' kp e => fin its r' hz h' c' kp e) (by simp only [List.size_toArray] <;> omega)
theorem call_tuple_of : CallR X (.type "tuple") (fun xs H Q => ∃ p ys, xs = [.ref p] ∧ ((SqL X.K H p ys ∧ ∀ l, H l = none → Q (.ref l) (upd H l (.tup ys))) ∨ (SqT X.K H p ys ∧ Q (.ref p) H))) := by
  intro pins s σ H xs us Q I r h
  obtain ⟨p, ys, rfl, h⟩ := h
  obtain ⟨u, rfl, rx⟩ := vals1 r
  cases rx
  rcases h with ⟨hq, q⟩ | ⟨hq, q⟩
  · obtain ⟨its, r', pl, hz⟩ := I.list hq
    have hlen := r'.length
    refine call_tuple_list pl.isList (fun h' kp => ?_) (by simp only [List.size_toArray] <;> omega)
    have I1 : Inv X pins σ H { s with heap := h' } := I.kept (t' := s.toks) kp
    have I2 : Inv X pins σ (upd H h'.objs.size (.tup ys)) { s with heap := h'.push { cls := .type "tuple", data := .seq its.toArray } } :=
      I1.laid (t' := s.toks) (fun b o e => Heap.get?_push_of_some _ e) (Nat.le_refl _) (show ObjOk X.prog X.w _ _ _ (.tup ys) from ⟨hz, its, r', IsTup.new _ _⟩)
    exact ⟨.ref h'.objs.size, _, I2, rfl, q _ (I1.hok.fresh (Nat.le_refl _))⟩
  · obtain ⟨its, r', pl, hz⟩ := I.tuple hq
    exact call_tuple_same pl ⟨.ref p, H, I, rfl, q⟩
def tyV (K : PySem.W.Frag) (T : String) (x : V) (H : Hp) : Prop := match x with
  | .str _ => T = "str"
  | .int _ => T = "int"
  | .ref p => (T = "list" ∧ ∃ xs, SqL K H p xs) ∨ (T = "tuple" ∧ ∃ o, K.lookup p = some o ∧ o.cls = .type "tuple" ∧ o.dict = none) ∨
      (T = "dict" ∧ ((∃ kvs, H p = some (.dK kvs)) ∨ ∃ kvs, H p = some (.dT kvs))) ∨ (T = "set" ∧ ∃ S n, H p = some (.set S n))
  | _ => False
theorem tyV_is {pins : List (Addr × Obj)} {σ : St} {H : Hp} {s : Shared} {T : String} {x : V} {v : Value} (I : Inv X pins σ H s) (r : RelV x v) (ty : tyV X.K T x H) :
    s.TypeIs v T ∧ ∀ a, v = .ref a → ∃ ob, s.heap.get? a = some ob ∧ ob.dict = none := by
  cases x with
  | str z =>
    obtain ⟨t, rfl⟩ := r
    cases (show T = "str" from ty)
    exact ⟨typeIs_str s z t, fun _ e => nomatch e⟩
  | int i =>
    obtain ⟨t, rfl⟩ := r
    cases (show T = "int" from ty)
    exact ⟨typeIs_int s i t, fun _ e => nomatch e⟩
  | ref p =>
    cases r
    rcases ty with ⟨rfl, xs, hq⟩ | ⟨rfl, o, hk, hc, hd⟩ | ⟨rfl, hk⟩ | ⟨rfl, S, n, hk⟩
    · obtain ⟨its, _, pl, _⟩ := I.list hq
      refine ⟨pl.isList.typeIs, fun a e => ?_⟩
      cases e
      obtain ⟨o, n, e, c, hd, _⟩ := pl
      exact ⟨o, e, hd⟩
    · refine ⟨⟨o, I.kIn p o hk, hc⟩, fun a e => ?_⟩
      cases e
      exact ⟨o, I.kIn _ o hk, hd⟩
    · have z : ∃ o, s.heap.get? p = some o ∧ o.ExactDict := by
        rcases hk with ⟨kvs, hk⟩ | ⟨kvs, hk⟩
        · obtain ⟨_, _, _, _, o, _, _, e, ex, _⟩ := I.hok p _ hk
          exact ⟨o, e, ex⟩
        · obtain ⟨_, _, _, _, o, _, _, e, ex, _⟩ := I.hok p _ hk
          exact ⟨o, e, ex⟩
      obtain ⟨o, e, ex⟩ := z
      refine ⟨⟨o, e, ex.1⟩, fun a e2 => ?_⟩
      cases e2
      exact ⟨o, e, ex.2.1⟩
    · obtain ⟨o, _, _, _, e, ex, _⟩ := I.hok p _ hk
      refine ⟨⟨o, e, ex.1⟩, fun a e2 => ?_⟩
      cases e2
      exact ⟨o, e, ex.2.1⟩
  | _ => exact False.elim ty
def tBM (K : PySem.W.Frag) (T : String) (r : V → List V → Hp → VK → Prop) (to : TE) (t : TA) : TE := fun σ H Q => to σ H fun x H1 => tyV K T x H1 ∧ t σ H1 fun xs H2 => r x xs H2 Q
variable {o e : Expr} {es : List Expr} {to : TE} {t : TA} {name : Str} {apos cpos : Pos} {T id : String} {r : V → List V → Hp → VK → Prop}
theorem pe_bm (pa : PlainAttrs T) (slot : Slot T name id) (hty : typeOf (.builtin id) = pure (.type "method_descriptor")) (hm : MtR X id r) (ho : PE X o to) (ha : PA X (e :: es) t)
    (hbase : attributeBase o name X.env (eval o X.env) = eval o X.env := by rfl)
    (hfew : ((backTo cpos (starEach (e :: es) X.env)).all (fun x => !x.1) && (backToKw cpos (keywordEach [] X.env)).all (fun x => x.1.isSome)
      && decide ((e :: es).length + ([] : List Keyword).length + (if ([] : List Keyword).isEmpty then 0 else 1) < 30)) = true := by rfl)
    (hline : (apos.endLine == cpos.line) = true := by rfl) (hs : starEach (e :: es) X.env = (false, eval e X.env) :: starEach es X.env := by rfl) (hplain : (backTo cpos (starEach es X.env)).any (·.1) = false := by rfl) :
    PE X (.Call (.Attribute o name apos) (e :: es) [] cpos) (tBM X.K T r to t) := by
  intro pins s σ H Q I h
  refine wpAny_Call_method_late hbase hfew hline rfl (thn (ho pins s σ H _ I h) fun v s1 ⟨x, H1, I1, r1, ty, q1⟩ => ?_)
  obtain ⟨h1, h2⟩ := tyV_is I1 r1 ty
  refine ⟨T, id, pa, slot, hty, h1, h2, ?_⟩
  have hA := ha cpos pins s1 σ H1 _ I1 q1
  rw [hs] at hA ⊢
  refine Calls.callWith_builtin (by show (false || (backTo cpos (starEach es X.env)).any (·.1)) = false; rw [hplain] <;> rfl) (Calls.evalArgs_plain ?_)
  exact thn hA fun us s2 ⟨vs, H2, I2, r2, q2⟩ => hm pins s2 σ H2 x vs v us Q I2 r1 r2 q2
end
end L2
namespace L2
open PySem PySem.Spec PyProof.Rows
def MtM (X : Cx) (id : String) (r : V → List V → Hp → VK → Prop) : Prop :=
  ∀ (pins : List (Addr × Obj)) (s : Shared) (σ : St) (H : Hp) (x : V) (xs : List V) (v : Value) (us : List Value) (Q : VK), Inv X pins σ H s → RelV x v → Vals xs us → r x xs H Q →
    wpAny (model X.prog X.w) X.A (call (.builtin id) (v :: us)) (EP X pins σ Q) X.xe s
theorem Vals.one : ∀ {x : V} {us : List Value}, Vals [x] us → ∃ u, us = [u] ∧ RelV x u
  | _, _, .cons r .nil => ⟨_, rfl, r⟩
theorem Vals.rep {xs : List V} {us : List Value} (h : Vals xs us) : ∀ k : Nat, Vals (List.replicate k xs).flatten (List.replicate k us).flatten
  | 0 => .nil
  | k + 1 => by
    rw [List.replicate_succ, List.replicate_succ, List.flatten_cons, List.flatten_cons]
    exact Vals.append h (Vals.rep h k)
theorem foldl_rep (its : List Value) : ∀ (k : Nat) (acc : List Value),
    List.foldl (fun x1 x2 => x1 ++ x2) acc.toArray (List.replicate k its.toArray) = (acc ++ (List.replicate k its).flatten).toArray
  | 0, acc => by simp
  | k + 1, acc => by
    have e : acc.toArray ++ its.toArray = (acc ++ its).toArray := by simp
    have e2 : (acc ++ its) ++ (List.replicate k its).flatten = acc ++ (List.replicate (k + 1) its).flatten := by
      rw [List.replicate_succ, List.flatten_cons, List.append_assoc]
    rw [← e2, ← foldl_rep its k (acc ++ its), ← e, List.replicate_succ, List.foldl_cons]
section
variable {X : Cx} {pins : List (Addr × Obj)} {σ : St} {H : Hp} {s : Shared} {l b : Addr} {xs ys zs : List V}
theorem Inv.lset {its its' : List Value} {n : Nat} {f : Array Value → Array Value} {t' : Nat} (I : Inv X pins σ H s) (hH : H l = some (.lst xs))
    (e : s.heap.get? l = some { cls := .type "list", data := .seq its.toArray n }) (hf : f its.toArray = its'.toArray) (hv : Vals ys its') (hz : ys.length ≤ sizeLine) :
    Inv X pins σ (upd H l (.lst ys)) { s with heap := s.heap.update l (Obj.mapSeq f), toks := t' } := by
  have q := PySem.IsL.update e f
  rw [hf] at q
  refine I.write (x := l) (e := l) (by rw [hH]; exact trivial) (.inl rfl) (fun b' u hb hu => (Heap.get?_update_other s.heap (Obj.mapSeq f) (Ne.symm hb)).trans hu) ⟨_, q⟩ ?_
  exact ⟨hz, its', _, hv, q⟩
theorem Inv.lnew {its : List Value} {t' : Nat} (I : Inv X pins σ H s) (hv : Vals ys its) (hz : ys.length ≤ sizeLine) :
    Inv X pins σ (upd H s.heap.objs.size (.lst ys)) { s with heap := s.heap.push { cls := .type "list", data := .seq its.toArray }, toks := t' } :=
  I.laid (fun _ _ q => Heap.get?_push_of_some _ q) (Nat.le_refl _) ⟨hz, its, 0, hv, Heap.get?_push_size _ rfl⟩
theorem Inv.fresh (I : Inv X pins σ H s) : H s.heap.objs.size = none := I.hok.fresh (Nat.le_refl _)
theorem Inv.lstM (I : Inv X pins σ H s) (hH : H l = some (.lst xs)) : xs.length ≤ sizeLine ∧ ∃ (its : List Value) (n : Nat), Vals xs its ∧ xs.length = its.length ∧ s.heap.get? l = some { cls := .type "list", data := .seq its.toArray n } := by
  obtain ⟨z, its, n, r, e⟩ := I.hok l _ hH
  exact ⟨z, its, n, r, r.length, e⟩
theorem notLongL {n : Nat} (h : n ≤ sizeLine) : Builtin.List.listTooLong n = false := by
  unfold Builtin.List.listTooLong
  exact decide_eq_false (by omega)
end
section
variable {X : Cx}
def rAppend : V → List V → Hp → VK → Prop := fun x vs H Q => ∃ l xs y, x = .ref l ∧ vs = [y] ∧ H l = some (.lst xs) ∧ xs.length < sizeLine ∧ Q .non (upd H l (.lst (xs ++ [y])))
theorem mt_append : MtM X "list.append" rAppend := by
  intro pins s σ H x vs v us Q I rx rv h
  obtain ⟨l, xs, y, rfl, rfl, hH, hz, q⟩ := h
  cases rx
  obtain ⟨u, rfl, ru⟩ := rv.one
  obtain ⟨z, its, n, r, hl, e⟩ := I.lstM hH
  refine call_meets F.slot_list_append ⟨_, e, rfl⟩ F.entry_list_append (F.args_list_append_2 _ _) (PySem.list_append l its.toArray n u (by rw [List.size_toArray]; omega)) ⟨e, ?_⟩
  refine ⟨.non, _, I.lset (its' := its ++ [u]) hH e (by simp) (r.append (.cons ru .nil)) ?_, rfl, q⟩
  rw [List.length_append, List.length_singleton]
  omega
def rRep : R2 := fun x y H Q => ∃ l k xs, x = .ref l ∧ y = .int k ∧ H l = some (.lst xs) ∧ -(2 ^ 63) ≤ k ∧ k < 2 ^ 63 ∧ xs.length * k.toNat ≤ sizeLine ∧
  ∀ p, H p = none → Q (.ref p) (upd H p (.lst (List.replicate k.toNat xs).flatten))
theorem len_rep {α : Type} (xs : List α) (k : Nat) : (List.replicate k xs).flatten.length = k * xs.length := by
  induction k with
  | zero => simp
  | succ k ih => rw [List.replicate_succ, List.flatten_cons, List.length_append, ih, Nat.succ_mul, Nat.add_comm]
theorem op_rep : OpR X (binaryOp .Mult) rRep := by
  intro pins s σ H x y v u Q I rx ry h
  obtain ⟨l, k, xs, rfl, rfl, hH, h1, h2, hz, q⟩ := h
  cases rx
  obtain ⟨t, rfl⟩ := ry
  obtain ⟨z, its, n, r, hl, e⟩ := I.lstM hH
  have hlen : its.toArray.size * k.toNat ≤ sizeLine := by rw [List.size_toArray, ← hl]; exact hz
  have hcap : ¬ its.toArray.size * k.toNat > (2 ^ 63 - 1) / 8 := by
    have : (sizeLine : Nat) ≤ (2 ^ 63 - 1) / 8 := by decide
    omega
  have hfit : ¬ (!Builtin.List.listFitsIndex k) = true := by
    rw [fitsIndex_both h1 h2]
    exact Bool.false_ne_true
  have hlong : ¬ Builtin.List.listTooLong (its.toArray.size * k.toNat) = true := by
    rw [notLongL hlen]
    exact Bool.false_ne_true
  have hnew : List.foldl (fun x1 x2 => x1 ++ x2) #[] (List.replicate (if its.toArray.isEmpty = true then 0 else k.toNat) its.toArray) = (List.replicate k.toNat its).flatten.toArray := by
    have f0 : ∀ m : Nat, List.foldl (fun x1 x2 => x1 ++ x2) #[] (List.replicate m its.toArray) = (List.replicate m its).flatten.toArray := fun m => by
      have := foldl_rep its m []
      rw [List.nil_append] at this
      exact this
    rw [f0]
    cases its with
    | nil => simp
    | cons a r' => rw [if_neg (by simp)]
  refine wpAny_binaryOp_repeat_ref (T := "list") (U := "int") (by decide) ⟨_, e, rfl⟩ (fun s' => typeIs_int s' k t) noFill_list_mul F.fills_int_mul F.slot_int_rmul repeat_list F.slot_int_index.lookup
    (call_meets F.slot_int_rmul (typeIs_int s k t) F.entry_int_rmul (F.args_int_rmul_2 _ _) (int___rmul___int_list k t l its.toArray n)
      ⟨e, rfl, ⟨_, e, rfl⟩, call_meets F.slot_list_mul ⟨_, e, rfl⟩ F.entry_list_mul (F.args_list_mul_2 _ _) (AutoListH.list___mul___list_int_3 l its.toArray n k t hfit hcap hlong) ⟨e, ?_⟩⟩)
  rw [hnew]
  exact ⟨.ref _, _, I.lnew (t' := s.toks) (r.rep k.toNat) (by rw [len_rep, Nat.mul_comm]; exact hz), rfl, q _ I.fresh⟩
end
section
variable {prog : Program} {w : World} {A : Around} {E : Value → Shared → Prop} {s : Shared}
end
section
variable {X : Cx}
end
end L2
namespace Att
open PySem PySem.W PySem.Calls PyProof.Rows
theorem ints_of_wellAll {P : Params} {h : Heap} : ∀ (ns : List Int) (vs : List Value), WellAll P h vs (ns.map WData.int) → IntsAre vs ns := by
  intro ns
  induction ns with
  | nil =>
    intro vs w
    rw [List.map_nil] at w
    cases w
    exact .nil
  | cons n ns ih =>
    intro vs w
    rw [List.map_cons] at w
    cases w with
    | cons a b =>
      cases a
      exact .cons _ _ (ih _ b)
theorem script_of {l : OpenLaw} {n : Nat} (hn : l.most = some n) {P : Params} {h : Heap} {args : List WData} {vals : List Value}
    (hpre : l.row.toRowW.claim.pre args = true) (hwl : WellAll P h vals args) :
    ∃ a vs ns, vals = [Value.ref a] ∧ args = [WData.list (ns.map WData.int)] ∧ h.get? a = some { cls := .type "list", data := .seq vs.toArray } ∧ IntsAre vs ns ∧ ns.length ≤ n := by
  have hsh : WShape.hasAll [] args [.list .int] = true := (pre_splitW hpre).1
  have hc : l.pre.holds [] { args := args } = true := (pre_splitW hpre).2
  obtain ⟨d, r, rfl, h1, h2⟩ := hasAllW_cons hsh
  obtain rfl := hasAllW_nil h2
  obtain ⟨xs, rfl, h3⟩ := hasW_list h1
  obtain ⟨ns, rfl⟩ := items_int h3
  have hlen : ns.length ≤ n := by
    unfold OpenLaw.pre at hc
    have h4 : (WTm.not (.lt (.lit (.int (n : Int))) (.len (.arg 0)))).holds [] { args := [.list (ns.map .int)] } = true := by
      have h4 := (holds_andW hc).1
      rw [hn] at h4
      exact h4
    have h5 := condW_of h4 (w_not (w_lt w_lit (w_len_list (w_arg rfl))))
    rw [List.length_map] at h5
    refine Nat.le_of_not_lt fun q => ?_
    have q' : (n : Int) < ((ns.length : Nat) : Int) := by omega
    first
      | (rw [decide_eq_true q'] at h5; exact absurd h5 (by decide))
      | (simp at h5; omega)
  cases hwl with
  | cons w1 w2 =>
    cases w2
    cases w1 with
    | list ho hall => exact ⟨_, _, ns, rfl, rfl, ho, ints_of_wellAll ns _ hall, hlen⟩
theorem post_true (l : OpenLaw) (args : List WData) : l.row.toRowW.claim.post args (.bool true) args = true :=
  postW_of (r := l.row.toRowW) (X := (true == true))
    (show WShape.has [] (.bool true) .bool = true by first | rfl | decide | simp [WShape.has, WShape.arms, WShape.armsAll])
    (show (WTm.eq .res (.lit (.bool true))).value [] { args := args, res := some (.bool true), after := args } = some (.bool (true == true)) from w_eq_bool (w_res rfl) w_lit) rfl
section
variable {prog : Program} {w : World} {A : Around} {E : Value → Shared → Prop} {s : Shared} {K : Frag}
end
end Att
namespace L2
open PySem PySem.Spec PyProof.Rows
theorem vals_ints : ∀ {vs : List Value} {ns : List Int}, IntsAre vs ns → Vals (ns.map V.int) vs
  | _, _, .nil => .nil
  | _, _, .cons n t h => .cons ⟨t, rfl⟩ (vals_ints h)
def Only (H : Hp) : Prop := ∀ b, H b = none ∨ ∃ o xs, H b = some (.frz o (.lst xs))
theorem law_call {P : Program} {w : World} {K : PySem.W.Frag} {mg mb : Str → Option Value} {CX : CXT} {k : Nat} {fa a : Addr} {fd : FuncData} {x : Str} {sp : Sp} {s₁ : Shared} {vs : List Value} {ns : List Int}
    (KX : K.In s₁.heap) (hns : s₁.heap.Ns mainGlobals mg) (hb : s₁.heap.Ns builtinsNs mb) (hbb : ∀ x : Str, x ≠ "__name__" → mb x = bootBuiltins x) (hlim : s₁.heap.NoLimit) (hg : s₁.gens = #[])
    (ha : s₁.heap.get? a = some { cls := .type "list", data := .seq vs.toArray }) (hi : IntsAre vs ns) (hl : ns.length ≤ sizeLine) (hr : Room k callerA)
    (F : ∀ base : Heap, K.In base → base.Ns mainGlobals mg → FnOk P w K mg base CX k fa fd [x] sp) (hbind : ∀ (s : Shared) (u : Value), BindsTo s fd ⟨[u], []⟩ [(x, u)])
    (hsp : ∀ H : Hp, Only H → SqL K H a (ns.map V.int) → sp [.ref a] H (fun v _ => v = .bl true) fun _ _ _ => False)
    (hCX : ∀ H e s', CX [] H s₁ (fun _ _ _ => False) e s' → False) :
    codeAny (model P w) callerA (.call (.ref fa) ⟨[.ref a], []⟩) (fun r s' => r = .ok (.ret (.bool true)) ∧ OldK s₁.heap s'.heap ∧ s'.os = s₁.os ∧ AllBare s'.gens) s₁ := by
  have rv := vals_ints hi
  have lenV := hi.length
  -- from an abstract heap in which nothing but the script may be tracked
  have core : ∀ H : Hp, Only H → SqL K H a (ns.map V.int) → HOk P w H s₁.heap → (∀ b, H b ≠ none → b = a) → (H a ≠ none → K.lookup a = none) →
      codeAny (model P w) callerA (.call (.ref fa) ⟨[.ref a], []⟩) (fun r s' => r = .ok (.ret (.bool true)) ∧ OldK s₁.heap s'.heap ∧ s'.os = s₁.os ∧ AllBare s'.gens) s₁ := by
    intro H hO hS hok hA hK
    have base_of : ∀ {b : Addr} {o : Obj}, s₁.heap.get? b = some o → H b = none → (hidT s₁.heap H).get? b = some o := fun e n => hidT_get e n
    have noA : ∀ {b : Addr} {o : Obj} {es : Array DictEntry} {ep : Nat}, s₁.heap.get? b = some o → o.data = .dict es ep → H b = none := fun {b o es ep} e d => by
      cases q : H b with
      | none => rfl
      | some u =>
        have e' : b = a := hA b (by rw [q]; simp)
        subst e'
        rw [ha] at e; cases e
        have d' : Data.seq vs.toArray _ = Data.dict es ep := d
        cases d'
    have nsK : ∀ {b : Addr} {m : Str → Option Value}, s₁.heap.Ns b m → (hidT s₁.heap H).Ns b m := fun {b m} ⟨o, es, ep, e, d, r⟩ => ⟨o, es, ep, base_of e (noA e d), d, r⟩
    have hKb : K.In (hidT s₁.heap H) := fun b o e => base_of (KX b o e) (by
      cases q : H b with
      | none => rfl
      | some u =>
        have e' : b = a := hA b (by rw [q]; simp)
        subst e'
        rw [hK (by rw [q]; simp)] at e; cases e)
    have hM : Mod K mg (hidT s₁.heap H) := ⟨hKb, nsK hns, ⟨mb, nsK hb, hbb⟩, let ⟨mc, h1, h2⟩ := hlim; ⟨mc, nsK h1, h2⟩⟩
    have e0 : Env0 P w K mg (hidT s₁.heap H) callerA [] s₁ H := ⟨rfl, hM, fun b o e => of_hidT e, Nat.le_of_eq (hidT_size _ _), trivial, fun b hb => absurd (show b ∈ ([] : List Addr) from hb) (by simp), hok, .of_eq hg⟩
    refine codeAny_mono ((F _ hKb (nsK hns)).run callerA [] s₁ H ⟨[.ref a], []⟩ [.ref a] [.ref a] _ _ hr e0 (hbind s₁ (.ref a)) (.cons rfl .nil) (hsp H hO hS)) fun r s' h => ?_
    cases r with
    | error e => exact (hCX H e s' h).elim
    | ok fl =>
      cases fl with
      | next => exact False.elim h
      | brk => exact False.elim h
      | cont => exact False.elim h
      | ret u =>
        obtain ⟨v, H', os, bare, un, hok', r', q⟩ := h
        have q' : v = .bl true := q
        subst q'
        obtain rfl : u = Value.bool true := r'
        refine ⟨rfl, OldK.of_keep fun b o e => ?_, os, bare⟩
        cases q : H b with
        | none => exact un.keep b o e q (by intro z; exact absurd (show b ∈ ([] : List Addr) from z) (by simp)) (by simp)
        | some u =>
          rcases hO b with z | ⟨ob, xs, z⟩
          · rw [q] at z; cases z
          · have z2 := un.frzs b ob _ z
            obtain ⟨e1, _⟩ := hok b _ z
            obtain ⟨e2, _⟩ := hok' b _ z2
            rw [e] at e1; cases e1
            exact e2
  cases hk : K.lookup a with
  | some o =>
    -- the script is one of the module's own objects
    have e := KX a o hk
    rw [ha] at e
    cases e
    refine core (fun _ => none) (fun _ => .inl rfl) (.inr ⟨_, vs.toArray, _, hk, rfl, rfl, rfl, by rw [List.size_toArray, lenV]; exact hl, by simpa using rv⟩) (fun b u z => by have z' : (none : Option HO) = some u := z; cases z') (fun b z => absurd rfl z) fun z => absurd rfl z
  | none =>
    refine core (fun b => if b = a then some (.frz { cls := .type "list", data := .seq vs.toArray } (.lst (ns.map V.int))) else none) (fun b => ?_) (.inl (.inr ⟨{ cls := .type "list", data := .seq vs.toArray }, if_pos rfl⟩)) (fun b u z => ?_) (fun b z => ?_) fun _ => hk
    · by_cases hb : b = a
      · exact .inr ⟨_, _, if_pos hb⟩
      · exact .inl (if_neg hb)
    · by_cases hb : b = a
      · have z' := (if_pos hb).symm.trans z
        cases z'
        subst hb
        exact ⟨ha, by rw [List.length_map]; exact hl, vs, _, rv, ha⟩
      · have z' := (if_neg hb).symm.trans z
        cases z'
    · by_cases hb : b = a
      · exact hb
      · exact absurd (if_neg hb) z
end L2
namespace L2
open PySem PySem.Spec PyProof.Rows
abbrev KOf {K : PySem.W.Frag} {h : Heap} (_ : K.In h) : PySem.W.Frag := K
end L2
namespace L2
open PySem PySem.Spec PyProof.Rows
def defArgs (s : Stmt) : Arguments := match s with
  | .FunctionDef _ a _ _ _ _ _ _ _ _ => a
  | _ => { posonlyargs := [], args := [], vararg := none, kwonlyargs := [], kw_defaults := [], kwarg := none, defaults := [] }
def defBody (s : Stmt) : List Stmt := match s with
  | .FunctionDef _ _ b _ _ _ _ _ _ _ => b
  | _ => []
def defScope (s : Stmt) : Scope := match s with
  | .FunctionDef _ _ _ _ _ _ sc _ _ _ => sc
  | _ => { kind := .function, names := [], isGenerator := false, isCoroutine := false }
abbrev CX0 : CXT := fun _ _ _ _ _ _ => False
abbrev E0 : XK := fun _ _ _ => False
theorem pass0 {X : Cx} : Passes CX0 X E0 := fun _ _ _ _ _ _ _ h => h.elim
structure Fun (K : PySem.W.Frag) (x qual : Str) (st : Stmt) (f : Addr) (fd : FuncData) : Prop where
  ex : ∃ (oc : Value) (od : Option Addr) (kV doc pm : Value) (an : Option Addr) (cdv ct : Value) (osl : Array (Option Value)),
    fd = PySem.W.fnOf x qual (defArgs st) (defBody st) (defScope st) .none kV doc pm an cdv ct ∧ K.lookup f = some ⟨oc, od, .func fd, osl⟩ ∧ PySem.W.codeIn K cdv qual = true
  kp : PySem.W.keepIn K (.ref f) = true
section
variable {P : Program} {w : World} {K : PySem.W.Frag} {mg : Str → Option Value} {base : Heap}
theorem Fun.ok {x qual : Str} {st : Stmt} {f : Addr} {fd : FuncData} {N ps : List Str} {k : Nat} {sp : Sp} (F : Fun K x qual st f fd) (S : FnScope N ps (defScope st)) (len : ∀ vs H Q E, sp vs H Q E → vs.length = ps.length)
    (hbody : ∀ (cdv : Value) (A : Around) (outer : List Env) (s : Shared) (H : Hp) (vs : List V) (Q : VK) (E : XK), Room k (A.deeper (envOfC qual (defScope st) s.heap.objs.size f cdv)) → sp vs H Q E →
      ∃ t, PSs (cxOf CX0 P w K mg base N qual (defScope st) f cdv A outer s H E).nox (defBody st) t ∧ t { nx := fun _ H' => Q .non H', rt := Q } (start N vs) H) : FnOk P w K mg base CX0 (k + 1) f fd ps sp := by
  obtain ⟨oc, od, kV, doc, pm, an, cdv, ct, osl, rfl, lk, hcd⟩ := F.ex
  refine fn_of lk hcd S len fun A outer s H vs Q E hr hsp => ?_
  obtain ⟨t, h, q⟩ := hbody cdv A outer s H vs Q E hr hsp
  exact ⟨t, h.nox, q⟩
theorem Fun.binds {x qual : Str} {st : Stmt} {f : Addr} {fd : FuncData} {ps : List Str} (F : Fun K x qual st f fd)
    (h : ∀ (kV doc pm : Value) (an : Option Addr) (cdv ct : Value) (us : List Value), us.length = ps.length → bindArgs (PySem.W.fnOf x qual (defArgs st) (defBody st) (defScope st) .none kV doc pm an cdv ct) ⟨us, []⟩ = pure (ps.zip us)) : Binds K fd ps [] := by
  obtain ⟨oc, od, kV, doc, pm, an, cdv, ct, osl, rfl, lk, hcd⟩ := F.ex
  exact .all (h kV doc pm an cdv ct)
theorem fun_mk {x qual : Str} {st : Stmt} {f : Addr} {oc : Value} {od an : Option Addr} {osl : Array (Option Value)} {kV doc pm cdv ct : Value} (l : K.lookup f = some ⟨oc, od, .func (PySem.W.fnOf x qual (defArgs st) (defBody st) (defScope st) .none kV doc pm an cdv ct), osl⟩)
    (c : PySem.W.codeIn K cdv qual = true) (k : PySem.W.keepIn K (.ref f) = true) : Fun K x qual st f (PySem.W.fnOf x qual (defArgs st) (defBody st) (defScope st) .none kV doc pm an cdv ct) := ⟨⟨oc, od, kV, doc, pm, an, cdv, ct, osl, rfl, l, c⟩, k⟩
end
section
variable {X : Cx}
theorem pv (i : Nat) {x : Str} {pos : Pos} (hN : X.N[i]? = some x := by rfl) (hv : Vis X.env.scope x := by first | exact Or.inl rfl | exact Or.inr (Or.inl rfl) | exact Or.inr (Or.inr rfl)) (hd : (x == ("__debug__" : Str)) = false := by decide)
    (hcd : (x == ("__classdict__" : Str)) = false := by decide) : PE X (.Name x pos) (tVar i) := pe_var hN hv hd hcd
end
def Same (H H' : Hp) : Prop := ∀ b o, H b = some o → H' b = some o
theorem Same.refl (H : Hp) : Same H H := fun _ _ h => h
theorem Same.trans {H H1 H2 : Hp} (a : Same H H1) (b : Same H1 H2) : Same H H2 := fun c o h => b c o (a c o h)
end L2

namespace L2
open PySem PySem.Spec PyProof.Rows
def closL (env : Env) (names : List (Str × NameKind)) (cs : List (Str × Addr)) : List (Str × Addr) :=
 names.foldl (fun cs p => if (p.2 == NameKind.free) = true then (p.1, (env.cells.lookup p.1).getD 0) :: cs else cs) cs
theorem closFor {scope : Scope} {env : Env} (h : ∀ y ∈ scope.names, y.2 = .free → ∃ c, env.cells.lookup y.1 = some c) : closureFor scope env = pure (closL env scope.names []) := by
 unfold closureFor
 have key : ∀ (l : List (Str × NameKind)) (cs : List (Str × Addr)), (∀ y ∈ l, y.2 = .free → ∃ c, env.cells.lookup y.1 = some c) →
   (forIn l cs fun (x : Str × NameKind) (r : List (Str × Addr)) => (if (x.2 == NameKind.free) = true then do let a ← cellOf env x.1; pure (ForInStep.yield ((x.1, a) :: r)) else pure (ForInStep.yield r) : Sem (ForInStep (List (Str × Addr))))) = pure (closL env l cs) := by
  intro l
  induction l with
  | nil => intro cs _; rfl
  | cons p r ih =>
   intro cs hl
   rw [List.forIn_cons]
   by_cases hk : (p.2 == NameKind.free) = true
   ·obtain ⟨c, hc⟩ := hl p List.mem_cons_self (by simpa using hk)
    rw [if_pos hk]
    have e : cellOf env p.1 = pure c := by unfold cellOf; rw [hc]
    rw [e]
    simp only [pure_bind]
    rw [ih _ fun y hy => hl y (List.mem_cons_of_mem _ hy)]
    unfold closL
    rw [List.foldl_cons, if_pos hk, hc]
    rfl
   ·rw [if_neg hk]
    simp only [pure_bind]
    rw [ih _ fun y hy => hl y (List.mem_cons_of_mem _ hy)]
    unfold closL
    rw [List.foldl_cons, if_neg hk]
 have := key scope.names [] h
 simp only [bind_pure]
 exact this
theorem closL_of {env : Env} : ∀ (l : List (Str × NameKind)) (cs : List (Str × Addr)) {x : Str} {c : Addr}, (∀ y ∈ l, y.2 = .free → ∃ c, env.cells.lookup y.1 = some c) → (∀ y d, cs.lookup y = some d → env.cells.lookup y = some d) →
  (closL env l cs).lookup x = some c → env.cells.lookup x = some c
 | [], cs, x, c, _, hc, h => hc x c h
 | p :: r, cs, x, c, hl, hc, h => by
  unfold closL at h
  rw [List.foldl_cons] at h
  by_cases hk : (p.2 == NameKind.free) = true
  ·rw [if_pos hk] at h
   refine closL_of r _ (fun y hy => hl y (List.mem_cons_of_mem _ hy)) (fun y d e => ?_) h
   obtain ⟨a, ha⟩ := hl p List.mem_cons_self (by simpa using hk)
   rw [List.lookup_cons] at e
   cases hx : y == p.1 with
   | true =>
    rw [hx] at e
    have hy : y = p.1 := by simpa using hx
    rw [ha] at e
    cases e
    rw [hy]; exact ha
   | false => rw [hx] at e; exact hc y d e
  ·rw [if_neg hk] at h
   exact closL_of r cs (fun y hy => hl y (List.mem_cons_of_mem _ hy)) hc h
theorem closL_keep {env : Env} : ∀ (l : List (Str × NameKind)) (cs : List (Str × Addr)) {x : Str}, (∃ c, cs.lookup x = some c) → ∃ c, (closL env l cs).lookup x = some c
 | [], cs, x, h => h
 | p :: r, cs, x, ⟨c, h⟩ => by
  unfold closL
  rw [List.foldl_cons]
  by_cases hk : (p.2 == NameKind.free) = true
  ·rw [if_pos hk]
   refine closL_keep r _ ?_
   rw [List.lookup_cons]
   cases hx : x == p.1 with
   | true => exact ⟨_, rfl⟩
   | false => exact ⟨c, h⟩
  ·rw [if_neg hk]; exact closL_keep r cs ⟨c, h⟩
theorem closL_has {env : Env} : ∀ (l : List (Str × NameKind)) (cs : List (Str × Addr)) {x : Str}, (x, NameKind.free) ∈ l → ∃ c, (closL env l cs).lookup x = some c
 | [], _, _, h => by simp at h
 | p :: r, cs, x, h => by
  unfold closL
  rw [List.foldl_cons]
  rcases List.mem_cons.mp h with e | e
  ·subst e
   rw [if_pos (by rfl)]
   exact closL_keep r _ ⟨(env.cells.lookup x).getD 0, by rw [List.lookup_cons]; simp⟩
  ·exact closL_has r _ e
theorem relabel_lookup {env : Env} {scope : Scope} {x : Str} (h : (relabel scope env).names.lookup x = some .cell ∨ (relabel scope env).names.lookup x = some .free) (hc : ∀ y ∈ scope.names, y.2 ≠ .cell) : (x, NameKind.free) ∈ scope.names := by
 have key : ∀ (l : List (Str × NameKind)), (∀ y ∈ l, y.2 ≠ .cell) →
   ((l.map fun (n, k) => if (k == NameKind.free && env.scope.kind == .function && env.kindOf n == some .cell) then (n, NameKind.cell) else (n, k)).lookup x = some .cell ∨
   (l.map fun (n, k) => if (k == NameKind.free && env.scope.kind == .function && env.kindOf n == some .cell) then (n, NameKind.cell) else (n, k)).lookup x = some .free) → (x, NameKind.free) ∈ l := by
  intro l
  induction l with
  | nil => intro _ h; simp at h
  | cons p r ih =>
   obtain ⟨n, k⟩ := p
   intro hl h
   rw [List.map_cons] at h
   have hk : k ≠ .cell := hl (n, k) List.mem_cons_self
   by_cases hx : x = n
   ·subst hx
    by_cases hq : (k == NameKind.free && env.scope.kind == .function && env.kindOf x == some .cell) = true
    ·have : k = .free := by simp only [Bool.and_eq_true, beq_iff_eq] at hq; exact hq.1.1
     subst this; exact List.mem_cons_self
    ·simp only [if_neg hq, List.lookup_cons, beq_self_eq_true] at h
     rcases h with h | h
     ·exact absurd (Option.some.inj h) hk
     ·have e := Option.some.inj h; subst e; exact List.mem_cons_self
   ·have hb : (x == n) = false := by simpa using hx
    refine List.mem_cons_of_mem _ (ih (fun y hy => hl y (List.mem_cons_of_mem _ hy)) ?_)
    by_cases hq : (k == NameKind.free && env.scope.kind == .function && env.kindOf n == some .cell) = true
    ·simpa only [if_pos hq, List.lookup_cons, hb] using h
    ·simpa only [if_neg hq, List.lookup_cons, hb] using h
 exact key scope.names hc h
theorem relabel_free {env : Env} {scope : Scope} {x : Str} (h : scope.names.lookup x = some .free) : (relabel scope env).names.lookup x = some .cell ∨ (relabel scope env).names.lookup x = some .free := by
 have key : ∀ (l : List (Str × NameKind)), l.lookup x = some .free →
   ((l.map fun (n, k) => if (k == NameKind.free && env.scope.kind == .function && env.kindOf n == some .cell) then (n, NameKind.cell) else (n, k)).lookup x = some .cell ∨
   (l.map fun (n, k) => if (k == NameKind.free && env.scope.kind == .function && env.kindOf n == some .cell) then (n, NameKind.cell) else (n, k)).lookup x = some .free) := by
  intro l
  induction l with
  | nil => intro h; simp at h
  | cons p r ih =>
   obtain ⟨n, k⟩ := p
   intro h
   rw [List.map_cons]
   by_cases hx : x = n
   ·subst hx
    rw [List.lookup_cons, beq_self_eq_true] at h
    have e : k = .free := Option.some.inj h
    by_cases hq : (k == NameKind.free && env.scope.kind == .function && env.kindOf x == some .cell) = true
    ·left; simp only [if_pos hq, List.lookup_cons, beq_self_eq_true]
    ·right; simp only [if_neg hq, List.lookup_cons, beq_self_eq_true]; rw [e]
   ·have hb : (x == n) = false := by simpa using hx
    rw [List.lookup_cons, hb] at h
    by_cases hq : (k == NameKind.free && env.scope.kind == .function && env.kindOf n == some .cell) = true
    ·simpa only [if_pos hq, List.lookup_cons, hb] using ih h
    ·simpa only [if_neg hq, List.lookup_cons, hb] using ih h
 exact key scope.names h
structure CompScope (sc : Scope) (N N' : List Str) (k : Nat) (fr : List Nat) (scope : Scope) : Prop where
 kind : scope.kind = .function
 cell : ∀ y ∈ scope.names, y.2 ≠ .cell
 names : ∀ y ∈ scope.names, y.2 = .local → scope.names.lookup y.1 = some .local
 nd : N'.Nodup
 slot : fr.map (fun j => N[j]?) = (N'.drop k).map some
 frees : ∀ x ∈ N'.drop k, scope.names.lookup x = some .free
 outer : ∀ y ∈ scope.names, y.2 = .free → sc.names.lookup y.1 = some .cell ∨ sc.names.lookup y.1 = some .free
 outer' : ∀ x ∈ N'.drop k, sc.names.lookup x = some .cell ∨ sc.names.lookup x = some .free
 len : N'.length = k + fr.length
def compCx (X : Cx) (scope : Scope) (N' : List Str) (fp : List Addr) (C : Addr) (s : Shared) (H : Hp) : Cx where
 prog := X.prog
 w := X.w
 K := X.K
 mg := X.mg
 base := X.base
 A := X.A
 N := N'
 s₀ := s
 H₀ := H
 env := compEnvC scope (closL X.env scope.names []) C X.env
 outer := X.stack
 stack := X.stack
 ex := fp
 fn := fun _ => false
 calm := X.calm
 pn := []
 xe := fun _ _ => False
def st0 (k : Nat) (fr : List Nat) (σ : St) : St := List.replicate k none ++ fr.map fun j => (σ[j]?).join
def Keep (σ σ' : St) : Prop := σ.length = σ'.length ∧ ∀ (i : Nat) v, σ[i]? = some (some v) → σ'[i]? = some (some v)
section
variable {X : Cx} {pins : List (Addr × Obj)} {σ : St} {H : Hp} {s : Shared} {scope : Scope} {N' : List Str} {k : Nat} {fr : List Nat} {fp : List Addr}
theorem comp_ok (S : CompScope X.env.scope X.N N' k fr scope) (I : Inv X pins σ H s) (hf : ∀ b ∈ fp, FpOk X pins H b) (hlt : ∀ b ∈ fp, b < s.heap.objs.size) :
  (compCx X scope N' fp s.heap.objs.size s H).Ok := by
 have hcell : ∀ y ∈ scope.names, y.2 = .free → ∃ c, X.env.cells.lookup y.1 = some c := fun y hy e => I.ok.has y.1 (S.outer y hy e)
 have hcl : ∀ x c, (closL X.env scope.names []).lookup x = some c → X.env.cells.lookup x = some c := fun x c e => closL_of scope.names [] hcell (fun _ _ z => by simp at z) e
 refine ⟨I.ok.mod, S.kind, I.ok.glob, I.ok.blt, Nat.le_refl _, fun x y c h1 h2 => I.ok.inj x y c (hcl x c h1) (hcl y c h2), fun x hx => closL_has _ _ (relabel_lookup hx S.cell), fun x c h => absurd h (by simp [compCx]), I.ok.hd, I.ok.frames, .inl rfl, fun b hb => ⟨Nat.ne_of_lt (hlt b hb), fun x c e => (hf b hb).2.2.2.2.1 x c (hcl x c e)⟩,
  I.bs, Nat.le_trans I.ok.bsz I.sz, fun b o e hb => ?_, fun b hb hb' => ?_, I.stack, I.stkFree⟩
 ·rcases (hf b hb).2.2.2.1 with z | z
  ·exact I.ok.noex b o e z
  ·exact absurd (Nat.lt_of_lt_of_le (Heap.lt_size e) (Nat.le_trans I.ok.bsz z)) (Nat.lt_irrefl _)
 ·rcases List.mem_cons.mp (I.stkSub b hb') with z | z
  ·exact (hf b hb).2.1 z
  ·exact (hf b hb).2.2.1 z
theorem comp_inv (S : CompScope X.env.scope X.N N' k fr scope) (I : Inv X pins σ H s) (hf : ∀ b ∈ fp, FpOk X pins H b) (hlt : ∀ b ∈ fp, b < s.heap.objs.size) {h' : Heap} {t' : Nat}
  (hn : h'.Ns s.heap.objs.size (fun _ => none)) (hk : ∀ b o, s.heap.get? b = some o → h'.get? b = some o) :
  Inv (compCx X scope N' fp s.heap.objs.size s H) [] (st0 k fr σ) H { s with heap := h', toks := t' } := by
 have hcell : ∀ y ∈ scope.names, y.2 = .free → ∃ c, X.env.cells.lookup y.1 = some c := fun y hy e => I.ok.has y.1 (S.outer y hy e)
 have hcl : ∀ x c, (closL X.env scope.names []).lookup x = some c → X.env.cells.lookup x = some c := fun x c e => closL_of scope.names [] hcell (fun _ _ z => by simp at z) e
 refine ⟨comp_ok S I hf hlt, rfl, I.bare, Un.kept hk, ⟨_, hn, fun i x v h1 h2 h3 => ?_⟩, fun x c e => ?_, I.hok.fresh (Nat.le_refl _), fun x c e => I.freeC x c (hcl x c e), fun p hp => absurd hp (by simp [compCx]), I.hok.kept hk, ?_⟩
 ·have hi : k ≤ i := by
   rcases Nat.lt_or_ge i k with z | z
   ·exfalso
    unfold st0 at h2
    rw [List.getElem?_append_left (by simpa using z), List.getElem?_replicate, if_pos z] at h2
    cases h2
   ·exact z
  have h2' : (fr.map fun j => (σ[j]?).join)[i - k]? = some (some v) := by
   unfold st0 at h2
   rw [List.getElem?_append_right (by simpa using hi)] at h2
   simpa using h2
  have h1' : (N'.drop k)[i - k]? = some x := by
   rw [List.getElem?_drop, Nat.add_sub_cancel' hi]; exact h1
  have hmem : x ∈ N'.drop k := List.mem_of_getElem? h1'
  have e2 : (fr.map fun j => X.N[j]?)[i - k]? = some (some x) := by
   rw [S.slot, List.getElem?_map, h1']; rfl
  obtain ⟨j, hj, ej⟩ : ∃ j, fr[i - k]? = some j ∧ X.N[j]? = some x := by
   rw [List.getElem?_map] at e2
   cases e : fr[i - k]? with
   | none => rw [e] at e2; cases e2
   | some j => rw [e] at e2; exact ⟨j, rfl, Option.some.inj e2⟩
  have hv : σ[j]? = some (some v) := by
   rw [List.getElem?_map, hj] at h2'
   have h3' : (σ[j]?).join = some v := Option.some.inj h2'
   cases e : σ[j]? with
   | none => rw [e] at h3'; cases h3'
   | some o => rw [e] at h3'; rw [show o = some v from h3']
  obtain ⟨m, hn0, hl⟩ := I.loc
  have ho := S.outer' x hmem
  obtain ⟨u, ru, lk⟩ := hl j x v ej hv (.inr ho)
  refine ⟨u, ru, .inr ⟨relabel_free (S.frees x hmem), ?_⟩⟩
  rcases lk with ⟨z, _⟩ | ⟨_, c, hc, hx⟩
  ·exfalso
   rcases ho with ho | ho
   ·exact absurd (z.symm.trans ho) (by simp)
   ·exact absurd (z.symm.trans ho) (by simp)
  ·obtain ⟨c', hc'⟩ := closL_has (env := X.env) scope.names [] (PySem.mem_of_lookup (S.frees x hmem))
   have := hcl x c' hc'
   rw [hc] at this; cases this
   obtain ⟨o, ho, hd⟩ := hx
   exact ⟨c, hc', o, hk c o ho, hd⟩
 ·obtain ⟨v, o, ho, hd⟩ := I.cell x c (hcl x c e)
  exact ⟨v, o, hk c o ho, hd⟩
 ·unfold st0
  show _ = N'.length
  rw [List.length_append, List.length_replicate, List.length_map, S.len]
end
end L2

namespace L2
open PySem PySem.Spec PyProof.Rows
section
variable {prog : Program} {w : World} {A : Around} {E : Value → Shared → Prop} {R : Result → Shared → Prop} {s : Shared}
theorem compLoop_go {elt target iter : Expr} {ifs : List Expr} {scope : Scope} {pos : Pos} {it acc : Value} {env : Env} (I : Nat → Shared → Prop)
  (turn : ∀ n s, I n s → wpAny (model prog w) A (pyNext it) (fun r s₁ => match r with
   | none => R (.ok .next) s₁
   | some v => wpAny (model prog w) A (letOwnedTupleGo target it v) (fun _ s₁' => wpAny (model prog w) A (assign target env v) (fun _ s₂ =>
     wpAny (model prog w) A (forIn ifs true fun c r => if r = true then do let ok ← isTrue c env (eval c env); pure (ForInStep.yield ok) else pure (ForInStep.yield r)) (fun ok s₃ =>
      if ok = true then wpAny (model prog w) A (eval elt env) (fun x s₄ =>
       wpAny (model prog w) A (call (.builtin "list.append") [acc, x]) (fun _ s₅ => ∃ m, m < n ∧ I m s₅) (fun _ _ => False) s₄) (fun _ _ => False) s₃
      else ∃ m, m < n ∧ I m s₃) (fun _ _ => False) s₂) (fun _ _ => False) s₁') (fun _ _ => False) s₁) (fun _ _ => False) s)
  (n : Nat) (h : I n s) :
  codeAny (model prog w) A (.compLoop (.ListComp elt [⟨target, iter, ifs, 0⟩] scope pos) 0 it acc env) R s := by
 refine codeAny_loop rfl I (fun n s hI => ?_) n h
 show wpAny _ A ((compTurn (.ListComp elt [⟨target, iter, ifs, 0⟩] scope pos) 0 it acc env).onRaise (fun x => do noteFrame x env; theTreesLotGoes x)) _ _ s
 refine wpAny_noted ?_
 rw [compTurn_list]
 refine wpAny_bind (wpAny_standAt (wpAny_bind (wpAny_mono (turn n s hI) (fun r s₁ h₁ => ?_) fun _ _ h' => h'.elim)))
 cases r with
 | none => exact wpAny_pure h₁
 | some v =>
  refine wpAny_bind (wpAny_mono h₁ (fun _ s₁' h₁' => ?_) fun _ _ h' => h'.elim)
  refine wpAny_bind (wpAny_mono h₁' (fun _ s₂ h₂ => wpAny_bind (wpAny_mono h₂ (fun ok s₃ h₃ => ?_) fun _ _ h' => h'.elim)) fun _ _ h' => h'.elim)
  cases ok with
  | false => exact wpAny_pure ⟨rfl, h₃⟩
  | true =>
   exact wpAny_bind (wpAny_bind (wpAny_mono h₃ (fun x s₄ h₄ => wpAny_bind (wpAny_mono h₄ (fun _ s₅ h₅ => wpAny_pure (wpAny_pure ⟨rfl, h₅⟩)) fun _ _ h' => h'.elim)) fun _ _ h' => h'.elim))
end
def PIfs (X : Cx) (ifs : List Expr) (t : TT) : Prop :=
 ∀ (pins : List (Addr × Obj)) (s : Shared) (σ : St) (H : Hp) (Q : Bool → Hp → Prop), Inv X pins σ H s → t σ H Q →
  wpAny (model X.prog X.w) X.A (forIn ifs true fun c r => if r = true then do let ok ← isTrue c X.env (eval c X.env); pure (ForInStep.yield ok) else pure (ForInStep.yield r)) (TP X pins σ Q) X.xe s
def tYes : TT := fun _ H Q => Q true H
theorem pf_nil {X : Cx} : PIfs X [] tYes := fun pins s σ H Q I h => wpAny_tests_nil ⟨H, I, h⟩
theorem pf_one {X : Cx} {c : Expr} {t : TT} (h : PT X c t) : PIfs X [c] t := fun pins s σ H Q I hq => wpAny_tests_one (h pins s σ H Q I hq)
theorem HOk.but {P : Program} {w : World} {H : Hp} {h h' : Heap} {C : Addr} (x : HOk P w H h) (hC : H C = none) (k : ∀ b o, b ≠ C → h.get? b = some o → h'.get? b = some o) : HOk P w H h' := fun a o e => by
 refine (x a o e).stay (fun b u hb q => k b u ?_ q) (fun _ q => q) fun _ _ q => q
 intro z
 subst z
 rcases hb with z | z
 ·rw [← z, hC] at e; cases e
 ·rw [hC] at z; cases z
def tComp (wi : TI) (g : TG) (tc : TT) (te : TE) (k : Nat) (fr : List Nat) : TE := fun σ H Q => wi σ H fun J H1 => ∀ D, H1 D = none → ∃ W : Nat → Nat → Hp → Prop, (∃ m, W 0 m (upd H1 D (.lst []))) ∧ ∀ i m H, W i m H →
 (J.stop i H ∧ Q (.ref D) H) ∨ (J.go i H ∧ ∀ x H', J.yld i H x H' → g x (st0 k fr σ) H' fun σ2 H2 => Keep (st0 k fr σ) σ2 ∧ tc σ2 H2 fun ok H3 =>
  if ok = true then te σ2 H3 fun y H4 => ∃ ys, H4 D = some (.lst ys) ∧ ys.length < sizeLine ∧ ∃ m', m' < m ∧ W (i + 1) m' (upd H4 D (.lst (ys ++ [y])))
  else ∃ m', m' < m ∧ W (i + 1) m' H3)
section
variable {X : Cx} {tg iter elt : Expr} {ifs : List Expr} {scope : Scope} {N' : List Str} {k : Nat} {fr : List Nat} {wi : TI} {g : TG} {tc : TT} {te : TE} {pos : Pos}
theorem comp_run {use : Option (Value → Sem Unit)} {Q' : Value → Shared → Prop} {pins : List (Addr × Obj)} {s : Shared} {σ : St} {H : Hp} {Q : VK} (hc : X.calm = true) (S : CompScope X.env.scope X.N N' k fr scope) (hi : PI X tg iter wi)
  (hg : ∀ fp C s H, PG (compCx X scope N' fp C s H) tg g) (hf : ∀ fp C s H, PIfs (compCx X scope N' fp C s H) ifs tc) (he : ∀ fp C s H, PE (compCx X scope N' fp C s H) elt te)
  (I : Inv X pins σ H s) (h : tComp wi g tc te k fr σ H Q)
  (hQ : ∀ D C s' H', C ≠ X.env.locals → Inv X pins σ H' s' → (∀ h', Heap.SameBut C s'.heap h' → Inv X pins σ H' { s' with heap := h' }) → Q (.ref D) H' → (∃ m, s'.heap.Ns C m) → X.env.locals < C → H' C = none ∧ (∀ x c, X.env.cells.lookup x = some c → c ≠ C) ∧ (∀ p ∈ X.pn ++ pins, p.1 ≠ C) → compPost (model X.prog X.w) X.A X.xe use Q' (.ref D) C (.ok .next) s') :
  wpAny (model X.prog X.w) X.A (eval iter X.env) (fun x s₁ => wpAny (model X.prog X.w) X.A (pyIter x) (fun it s₂ => wpAny (model X.prog X.w) X.A (newList []) (fun acc s₃ =>
   wpAny (model X.prog X.w) X.A (newFunctionEnv scope X.env.globals (closL X.env scope.names []) [] X.env.qual none .none (some X.env)) (fun cenv s₄ =>
    codeAny (model X.prog X.w) X.A (.compStart (.ListComp elt [⟨tg, iter, ifs, 0⟩] scope pos) 0 it acc { cenv with scope := relabel scope X.env }) (compPost (model X.prog X.w) X.A X.xe use Q' acc cenv.locals) s₄) X.xe s₃) X.xe s₂) X.xe s₁) X.xe s := by
 refine thn (hi pins s σ H _ I h) fun v s1 h1 => thn h1 fun itv s2 h2 => ?_
 obtain ⟨it, fp, tn, J, H2, e, I2, T, st2, f2, wW⟩ := h2
 subst e
 refine wpAny_newObj_type ?_
 have hD0 : H2 s2.heap.objs.size = none := I2.hok.fresh (Nat.le_refl _)
 obtain ⟨W, ⟨m0, w0⟩, turn⟩ := wW _ hD0
 generalize hD : s2.heap.objs.size = D at *
 have I3 : Inv X pins σ (upd H2 D (.lst [])) { s2 with heap := s2.heap.push { cls := .type "list", dict := none, data := .seq ([] : List Value).toArray } } := by
  have := I2.lnew (ys := []) (its := []) (t' := s2.toks) .nil (Nat.zero_le _)
  rw [hD] at this
  exact this
 generalize hs3 : ({ s2 with heap := s2.heap.push { cls := .type "list", dict := none, data := .seq ([] : List Value).toArray } } : Shared) = s3 at *
 have up23 : ∀ b o, s2.heap.get? b = some o → s3.heap.get? b = some o := fun b o e => by rw [← hs3]; exact Heap.get?_push_of_some _ e
 have fpD : ∀ b ∈ fp, b ≠ D := fun b hb z => by
  obtain ⟨o, ho, _⟩ := T.obj _ _ st2 b hb
  have := Heap.lt_size ho
  rw [hD, z] at this
  exact Nat.lt_irrefl _ this
 have f3 : ∀ b ∈ fp, FpOk X pins (upd H2 D (.lst [])) b := fun b hb => ⟨by rw [upd_ne (fpD b hb)]; exact (f2 b hb).1, (f2 b hb).2⟩
 have st3 : tn 0 s3.heap := T.keep _ _ _ st2 fun b hb o e => up23 b o e
 have lt3 : ∀ b ∈ fp, b < s3.heap.objs.size := fun b hb => by obtain ⟨o, ho, _⟩ := T.obj _ _ st3 b hb; exact Heap.lt_size ho
 refine wpAny_newFunctionEnv S.cell (by intro y hy; simp at hy) (fun h₁ hns₁ hsb₁ => ?_) S.kind
 have up34 : ∀ b o, s3.heap.get? b = some o → h₁.get? b = some o := fun b o e => hsb₁.extBut b o (Nat.ne_of_lt (Heap.lt_size e)) (Heap.get?_push_of_some _ e)
 have I4 := comp_inv (t' := s3.toks + ([] : List (Str × Value)).length) S I3 f3 lt3 hns₁ up34
 have st4 : tn 0 h₁ := T.keep _ _ _ st3 fun b hb o e => up34 b o e
 generalize hX' : compCx X scope N' fp s3.heap.objs.size s3 (upd H2 D (.lst [])) = X' at *
 have hg' : PG X' tg g := by rw [← hX']; exact hg _ _ _ _
 have hf' : PIfs X' ifs tc := by rw [← hX']; exact hf _ _ _ _
 have he' : PE X' elt te := by rw [← hX']; exact he _ _ _ _
 have eP : X'.prog = X.prog := by rw [← hX']; rfl
 have eW : X'.w = X.w := by rw [← hX']; rfl
 have eK : X'.K = X.K := by rw [← hX']; rfl
 have eA : X'.A = X.A := by rw [← hX']; rfl
 have eC : X'.calm = true := by rw [← hX']; exact hc
 have eE : X'.xe = fun _ _ => False := by rw [← hX']; rfl
 have eEnv : X'.env = compEnvC scope (closL X.env scope.names []) s3.heap.objs.size X.env := by rw [← hX']; rfl
 have fpx : ∀ {H' : Hp}, (∀ b ∈ fp, H' b = none) → ∀ b ∈ fp, FpOk X' [] H' b := fun {H'} hn b hb => by
  refine ⟨hn b hb, ?_, ?_, .inl ?_, ?_, ?_⟩
  ·rw [eEnv]; exact Nat.ne_of_lt (lt3 b hb)
  ·have := I4.ok.exfs b (by rw [← hX']; exact hb); exact this
  ·rw [← hX']; exact hb
  ·have := I4.ok.exf b (by rw [← hX']; exact hb); exact this.2
  ·intro p hp; rw [← hX'] at hp; simp [compCx] at hp
 -- behind the block
 have fin : ∀ (s' : Shared) (H' : Hp) (σ' : St), Inv X' [] σ' H' s' → Q (.ref D) H' → compPost (model X.prog X.w) X.A X.xe use Q' (.ref D) s3.heap.objs.size (.ok .next) s' := fun s' H' σ' J q => by
  have un : Un (frs X.stack) fp (upd H2 D (.lst [])) H' s3.heap s'.heap := by have := J.base; rw [← hX'] at this; exact this
  have jos : s'.os = s3.os := by have := J.os; rw [← hX'] at this; exact this
  have hC : H' s3.heap.objs.size = none := by have := J.free; rw [eEnv] at this; exact this
  have hok' : HOk X.prog X.w H' s'.heap := by have := J.hok; rw [eP, eW] at this; exact this
  have back : ∀ h', Heap.SameBut s3.heap.objs.size s'.heap h' → Inv X pins σ H' { s' with heap := h' } := fun h' hs' => by
   have un' : Un (frs X.stack) fp (upd H2 D (.lst [])) H' s3.heap h' :=
    ⟨fun b o e n h1 h2 => hs'.extBut b o (Nat.ne_of_lt (Heap.lt_size e)) (un.keep b o e n h1 h2), fun b o e n h1 h2 => by
     obtain ⟨sl, z⟩ := un.slot b o e n h1 h2
     exact ⟨sl, hs'.extBut b _ (Nat.ne_of_lt (Heap.lt_size e)) z⟩, un.free, fun b o e h2 => by
     obtain ⟨o', z⟩ := un.there b o e h2
     exact ⟨o', hs'.extBut b o' (Nat.ne_of_lt (Heap.lt_size e)) z⟩, un.tups, un.frzs, un.tbls⟩
   exact Inv.call' (s' := { s' with heap := h' }) I3 jos un' (hok'.but hC hs'.extBut) J.bare fun b hb => ⟨(f3 b hb).2.2.2.1, (f3 b hb).2.1, (f3 b hb).2.2.2.2.1, (f3 b hb).2.2.2.2.2⟩
  have nsC : ∃ m, s'.heap.Ns s3.heap.objs.size m := by
   obtain ⟨m, hn, _⟩ := J.loc
   rw [eEnv] at hn
   exact ⟨m, hn⟩
  exact hQ D s3.heap.objs.size s' H' (Nat.ne_of_gt I3.lt) (back s'.heap (.refl ..)) back q nsC I3.lt
   ⟨hC, fun x c e => by obtain ⟨v, o, ho, _⟩ := I3.cell x c e; exact Nat.ne_of_lt (Heap.lt_size ho), fun p hp => Nat.ne_of_lt (Heap.lt_size (I3.pin p hp).1)⟩
 have loop : ∀ s4 : Shared, s4 = ({ s3 with heap := h₁, toks := s3.toks + ([] : List (Str × Value)).length } : Shared) →
   codeAny (model X.prog X.w) X.A (.compLoop (.ListComp elt [⟨tg, iter, ifs, 0⟩] scope pos) 0 (.ref it) (.ref D) X'.env) (compPost (model X.prog X.w) X.A X.xe use Q' (.ref D) s3.heap.objs.size) s4 := by
  rintro s4 rfl
  refine compLoop_go (fun n s' => ∃ i H', Inv X' [] (st0 k fr σ) H' s' ∧ tn i s'.heap ∧ (∀ b ∈ fp, H' b = none) ∧ W i n H') ?_ m0 ⟨0, _, I4, st4, fun b hb => (f3 b hb).1, w0⟩
  rintro n s5 ⟨i, H5, I5, st5, fr5, w5⟩
  rcases turn i n H5 w5 with ⟨stop, qn⟩ | ⟨go, step⟩
  ·have := T.done X' eP eW eK eC i [] s5 _ H5 (fun _ _ => False) I5 (fpx fr5) st5 stop
   rw [eA] at this
   refine thn this fun r s6 ⟨hr, I6⟩ => ?_
   subst hr
   exact fin s6 H5 _ I6 qn
  ·have := T.item X' eP eW eK eC i [] s5 _ H5 (fun _ _ => False) I5 (fpx fr5) st5 go
   rw [eA] at this
   refine thn this fun r s6 ⟨u, hr, h6⟩ => ?_
   subst hr
   refine thn h6 fun _ s7 ⟨x, H7, I7, r7, y7, st7, fr7⟩ => ?_
   have I7' := I7.pinned (fpx fr7) (T.obj _ _ st7)
   have h8 := hg' _ s7 _ H7 x u _ I7' r7 (step x H7 y7)
   rw [eP, eW, eA, eE] at h8
   refine thn h8 fun _ s8 ⟨σ8, H8, I8, kp, q8⟩ => ?_
   have h9 := hf' _ s8 σ8 H8 _ I8 q8
   rw [eP, eW, eA, eE] at h9
   have again : ∀ {s9 : Shared} {H9 : Hp} {n' : Nat}, Inv X' ([] ++ pinsAt fp s7.heap) σ8 H9 s9 → n' < n → W (i + 1) n' H9 → ∃ m, m < n ∧ ∃ i H', Inv X' [] (st0 k fr σ) H' s9 ∧ tn i s9.heap ∧ (∀ b ∈ fp, H' b = none) ∧ W i m H' := fun {s9 H9 n'} I9 hn' w9 => by
    refine ⟨n', hn', i + 1, H9, I9.unpinned.weak kp.1 kp.2, T.keep _ _ _ st7 fun b hb o e => (I9.pin (b, o) (List.mem_append_right _ (List.mem_append_right _ (mem_pinsAt hb e)))).1, fun b hb => ?_, w9⟩
    obtain ⟨o, e, d⟩ := T.obj _ _ st7 b hb
    exact (I9.pin (b, o) (List.mem_append_right _ (List.mem_append_right _ (mem_pinsAt hb e)))).2.1
   refine thn h9 fun ok s9 ⟨H9, I9, q9⟩ => ?_
   cases ok with
   | false =>
    rw [if_neg Bool.false_ne_true] at q9
    obtain ⟨m', hm', w9⟩ := q9
    rw [if_neg Bool.false_ne_true]
    exact again I9 hm' w9
   | true =>
    rw [if_pos rfl] at q9
    rw [if_pos rfl]
    have h10 := he' _ s9 σ8 H9 _ I9 q9
    rw [eP, eW, eA, eE] at h10
    refine thn h10 fun y s10 ⟨yv, H10, I10, r10, ys, hys, hz, m', hm', w10⟩ => ?_
    have h11 := mt_append (X := X') _ s10 σ8 H10 (.ref D) [yv] (.ref D) [y] (fun _ H' => W (i + 1) m' H') I10 rfl (.cons r10 .nil) ⟨D, ys, yv, rfl, rfl, hys, hz, w10⟩
    rw [eP, eW, eA, eE] at h11
    exact thn h11 fun _ s11 ⟨_, H11, I11, _, q11⟩ => again I11 hm' q11
 have hE : ({ newEnv scope s3.heap.objs.size X.env.globals (closL X.env scope.names []) X.env.qual none .none (some X.env) builtinsNs with scope := relabel scope X.env } : Env) = X'.env := by
  rw [eEnv]; rfl
 have goal := codeAny_compStart_list (elt := elt) (target := tg) (iter := iter) (ifs := ifs) (rest := []) (scope := scope) (pos := pos) (loop _ rfl) (T.self X.A 0 _ _ _ st4 (loop _ rfl))
 rw [← hE] at goal
 exact goal
theorem pe_comp (hc : X.calm = true) (S : CompScope X.env.scope X.N N' k fr scope) (hi : PI X tg iter wi)
  (hg : ∀ fp C s H, PG (compCx X scope N' fp C s H) tg g) (hf : ∀ fp C s H, PIfs (compCx X scope N' fp C s H) ifs tc) (he : ∀ fp C s H, PE (compCx X scope N' fp C s H) elt te)
  (hs : ∀ x, foldedSetIterable iter X.env x = pure x := by intro _; rfl) : PE X (.ListComp elt [⟨tg, iter, ifs, 0⟩] scope pos) (tComp wi g tc te k fr) := by
 intro pins s σ H Q I h
 have hcell : ∀ y ∈ scope.names, y.2 = .free → ∃ c, X.env.cells.lookup y.1 = some c := fun y hy e => I.ok.has y.1 (S.outer y hy e)
 rw [eval_ListComp]
 refine wpAny_comprehension_free (use := none) rfl hs (closFor hcell) S.kind S.names (comp_run hc S hi hg hf he I h ?_)
 intro D C s' H' hC J back q ns hlt _
 obtain ⟨m, hn⟩ := ns
 exact ⟨m, hn, fun h' hs' => ⟨.ref D, H', back h' hs', rfl, q⟩⟩
end
end L2

namespace L2
open PySem PySem.Spec PyProof.Rows
section
variable {X : Cx}
theorem op_mulB : OpR X (binaryOp .Mult) (rI IntMulOk fun i j => .int (i * j)) := opI fun _ _ _ _ _ _ _ hc q => mul_int q hc
theorem call_sum (hc : X.calm = true) : CallR X (.builtin "sum") (fun xs H Q => ∃ (a : Addr) (ns : List Int), xs = [.ref a] ∧ SqL X.K H a (ns.map V.int) ∧ Q (.int ns.sum) H) := by
 intro pins s σ H xs us Q I r h
 obtain ⟨a, ns, rfl, hl, q⟩ := h
 obtain ⟨u, rfl, rx⟩ := vals1 r
 cases rx
 obtain ⟨its, rv, p, hz⟩ := I.list hl
 have hi : IntsAre its ns := intsAre_of rv
 have hall : AllInts its.toArray := hi.allInts
 obtain ⟨ys, hys⟩ := hall.items
 have hn : numsOf its.toArray.toList = ns := by rw [show its.toArray.toList = its from rfl, hi.numsOf]
 rw [hys, nums_intItems] at hn
 have hl' := p.isList
 rw [hys] at hl'
 refine sum_intListG (I.ok.hd hc) hl' fun h' tk t' hk => ?_
 refine ⟨.int ns.sum, H, I.kept hk, ⟨t', ?_⟩, q⟩
 rw [preSum_eq, List.take_of_length_le (by simp), hn]
end
end L2
namespace Att
open PySem PySem.W PySem.Calls PyProof.Rows
theorem bits_le {ns : List Int} (h : WData.layableAll [WData.list (ns.map WData.int)] = true) : ∀ n ∈ ns, Builtin.Int.intBits n ≤ 1048576 := by
 have h1 : (WData.list (ns.map WData.int)).layable = true := by simpa [WData.layableAll] using h
 have h2 : (WData.list (ns.map WData.int)).weight ≤ 1048576 := (PySem.W.layableW_iff.mp h1).2.2
 have key : ∀ l : List Int, ∀ n ∈ l, Builtin.Int.intBits n ≤ WData.weightAll (l.map WData.int) := by
  intro l
  induction l with
  | nil => intro n hn; simp at hn
  | cons x r ih =>
   intro n hn
   have e : WData.weightAll ((x :: r).map WData.int) = Builtin.Int.intBits x + 1 + WData.weightAll (r.map WData.int) := by
    rw [List.map_cons, WData.weightAll, WData.weight]; rfl
   rw [e]
   rcases List.mem_cons.mp hn with z | z
   ·subst z; omega
   ·have := ih n z; omega
 intro n hn
 have e : (WData.list (ns.map WData.int)).weight = WData.weightAll (ns.map WData.int) := by rw [WData.weight]
 rw [e] at h2
 exact Nat.le_trans (key ns n hn) h2
theorem attach_callB {l : OpenLaw} {n : Nat} {q : Program} {loose : List Str} {XP : (Str → Option Value) → Heap → Prop} {YP : World → Heap → Prop} {d : DefRec}
  (hn : l.most = some n) (hdf : d.params.defaults = [])
  (call : ∀ (w : World) (s₀ s₁ : Shared) (mg mb : Str → Option Value) (fa : Addr) (o : Obj) (pm cd doc : Value) (a : Addr) (vs : List Value) (ns : List Int),
   Ground q loose [] XP w s₀ mg mb s₁.heap → YP w s₁.heap →
   s₁.heap.get? fa = some o → o.data = .func (docDef d.name d.params d.body d.scope pm cd doc) → s₁.heap.CodeRec cd d.name → mg d.name = some (.ref fa) →
   s₁.heap.get? a = some { cls := .type "list", data := .seq vs.toArray } → IntsAre vs ns → ns.length ≤ n → (∀ z ∈ ns, Builtin.Int.intBits z ≤ 1048576) → s₁.gens = #[] →
   codeAny (model l.prog w) callerA (.call (.ref fa) ⟨[.ref a], []⟩) (fun r s' => r = .ok (.ret (.bool true)) ∧ OldK s₁.heap s'.heap ∧ s'.os = s₁.os ∧ AllBare s'.gens) s₁) :
  WalkO q loose XP YP l.row.toRowW d [] (fun f vs => PySem.call f vs) := by
 intro w s₀ s₁ mg mb G Y fa o pm cd doc dV kV ho hd hcd hD hmg hg args vals as hpre hlay hrd hwl hlo
 obtain rfl : dV = .none := Dflts.none hD hdf
 obtain rfl : kV = .none := Dflts.noKw hD
 obtain ⟨a, vs, ns, rfl, rfl, hobj, hints, hlen⟩ := script_of hn hpre hwl
 have hb : ∀ z ∈ ns, Builtin.Int.intBits z ≤ 1048576 := bits_le hlay
 refine enter_call (codeAny_mono (call w s₀ s₁ mg mb fa o pm cd doc a vs ns G Y ho (fd_plain hd) hcd hmg hobj hints hlen hb hg) fun r s' hq => ?_)
 obtain ⟨rfl, h2, h3, h4⟩ := hq
 exact ⟨.inl ⟨.bool true, .bool true, [], rfl, fun _ => rfl, .bool true, post_true l _, fun _ => ⟨List.Pairwise.nil, fun _ hm => (nomatch hm)⟩⟩, h2, h3, h4⟩
end Att
namespace L2
open PySem PySem.Spec PyProof.Rows
theorem walk_ofB {l : PySem.W.OpenLaw} {n k : Nat} {q : Program} {loose : List Str} {XP : (Str → Option Value) → Heap → Prop} {YP : World → Heap → Prop} {d : DefRec} {K : Params → PySem.W.Frag} {CX : World → CXT} {sp : World → Sp} {x : Str}
  (hn : l.most = some n) (hn2 : n ≤ sizeLine) (hdf : d.params.defaults = []) (hr : Room k callerA)
  (hY : ∀ (w : World) (h : Heap), YP w h → (K w.params).In h)
  (F : ∀ (w : World) (mg : Str → Option Value) (fa : Addr) (h : Heap), (K w.params).In h → h.Ns mainGlobals mg → mg d.name = some (.ref fa) →
   ∃ fd : FuncData, (∀ (s : Shared) (u : Value), BindsTo s fd ⟨[u], []⟩ [(x, u)]) ∧
    ∀ base : Heap, (K w.params).In base → base.Ns mainGlobals mg → FnOk l.prog w (K w.params) mg base (CX w) k fa fd [x] (sp w))
  (hsp : ∀ (w : World) (H : Hp) (a : Addr) (ns : List Int), ns.length ≤ n → (∀ z ∈ ns, Builtin.Int.intBits z ≤ 1048576) → Only H → SqL (K w.params) H a (ns.map V.int) → sp w [.ref a] H (fun v _ => v = .bl true) fun _ _ _ => False)
  (hCX : ∀ (w : World) (H : Hp) (s : Shared) (e : Value) (s' : Shared), CX w [] H s (fun _ _ _ => False) e s' → False) :
  PySem.W.WalkO q loose XP YP l.row.toRowW d [] (fun f vs => PySem.call f vs) := by
 refine Att.attach_callB hn hdf fun w s₀ s₁ mg mb fa o pm cd doc a vs ns G Y ho hd hcd hmg hobj hints hlen hb hg => ?_
 have KX := hY w _ Y
 obtain ⟨fd, hbi, hF⟩ := F w mg fa _ KX G.T.g hmg
 exact law_call KX G.T.g G.T.b G.T.builtins G.T.nolimit hg hobj hints (Nat.le_trans hlen hn2) hr hF hbi (fun H hO hS => hsp w H a ns hlen hb hO hS) fun H e s' => hCX w H s₁ e s'
theorem walk_ofBK {l : PySem.W.OpenLaw} {n k : Nat} {q : Program} {loose : List Str} {XP : (Str → Option Value) → Heap → Prop} {YP : World → Heap → Prop} {d : DefRec} {K : Params → PySem.W.Frag} {CX : CXT} {sp : PySem.W.Frag → Sp} {x : Str}
  (hn : l.most = some n) (hn2 : n ≤ sizeLine) (hdf : d.params.defaults = []) (hr : Room k callerA)
  (hY : ∀ (w : World) (h : Heap), YP w h → (K w.params).In h)
  (F : ∀ (w : World) (mg : Str → Option Value) (fa : Addr) (h : Heap), (K w.params).In h → h.Ns mainGlobals mg → mg d.name = some (.ref fa) →
   ∃ fd : FuncData, (∀ (s : Shared) (u : Value), BindsTo s fd ⟨[u], []⟩ [(x, u)]) ∧
    ∀ base : Heap, (K w.params).In base → base.Ns mainGlobals mg → FnOk l.prog w (K w.params) mg base CX k fa fd [x] (sp (K w.params)))
  (hsp : ∀ (K : PySem.W.Frag) (H : Hp) (a : Addr) (ns : List Int), ns.length ≤ n → (∀ z ∈ ns, Builtin.Int.intBits z ≤ 1048576) → Only H → SqL K H a (ns.map V.int) → sp K [.ref a] H (fun v _ => v = .bl true) fun _ _ _ => False)
  (hCX : ∀ (H : Hp) (s : Shared) (e : Value) (s' : Shared), CX [] H s (fun _ _ _ => False) e s' → False) :
  PySem.W.WalkO q loose XP YP l.row.toRowW d [] (fun f vs => PySem.call f vs) :=
 walk_ofB (K := K) (CX := fun _ => CX) (sp := fun w => sp (K w.params)) hn hn2 hdf hr hY F (fun w H a ns h1 hb h2 h3 => hsp (K w.params) H a ns h1 hb h2 h3) fun _ H s e s' => hCX H s e s'
def SameE (p : Addr) (H H' : Hp) : Prop := ∀ b o, H b = some o → b ≠ p → H' b = some o
theorem Same.new {H : Hp} {p : Addr} {o : HO} (h : H p = none) : Same H (upd H p o) := fun b u e => by rw [upd_ne (ne_of_none e h)]; exact e
end L2

namespace L2
open PySem PySem.Spec PyProof.Rows
def FR (J : It) (g : TG) (tb : TS) (D : Ends) (σ : St) (H1 : Hp) : Prop := ∃ W : Nat → Nat → St → Hp → Prop, (∃ m, W 0 m σ H1) ∧ ∀ i m σ H, W i m σ H →
 (J.stop i H ∧ D.nx σ H) ∨ (J.go i H ∧ ∃ N : St → Hp → Prop, (∀ σ' H', N σ' H' → ∃ m', m' < m ∧ W (i + 1) m' σ' H') ∧ ∀ x H', J.yld i H x H' → g x σ H' fun σ2 H2 => tb { D with nx := N, ct := N, bk := D.nx } σ2 H2)
theorem tFor_rng1 {ta : TA} {g : TG} {tb : TS} : tFor (iRng1 ta) g tb = fun D σ H => ta σ H fun vs H1 => ∃ j : Int, vs = [.int j] ∧ -(2 ^ 62) ≤ j ∧ j < 2 ^ 62 ∧ FR (Itr 0 j.toNat) g tb D σ H1 := rfl
theorem tFor_rng2 {ta : TA} {g : TG} {tb : TS} : tFor (iRng2 ta) g tb = fun D σ H => ta σ H fun vs H1 => ∃ i j : Int, vs = [.int i, .int j] ∧ (-(2 ^ 62) ≤ i ∧ i < 2 ^ 62 ∧ -(2 ^ 62) ≤ j ∧ j < 2 ^ 62) ∧ FR (Itr i (j - i).toNat) g tb D σ H1 := rfl
theorem tFor_list {K : PySem.W.Frag} {tl : TE} {g : TG} {tb : TS} : tFor (iList K tl) g tb = fun D σ H => tl σ H fun x H1 => ∃ a, x = .ref a ∧ (∃ xs, SqL K H1 a xs) ∧ FR (Itl K a) g tb D σ H1 := rfl
theorem tFor_tup {K : PySem.W.Frag} {tl : TE} {g : TG} {tb : TS} : tFor (iTup K tl) g tb = fun D σ H => tl σ H fun x H1 => ∃ a, x = .ref a ∧ (∃ xs, SqT K H1 a xs) ∧ FR (Itt K a) g tb D σ H1 := rfl
def CmR (J : It) (g : TG) (tc : TT) (te : TE) (k : Nat) (fr : List Nat) (σ : St) (H1 : Hp) (Q : VK) : Prop := ∀ D, H1 D = none → ∃ W : Nat → Nat → Hp → Prop, (∃ m, W 0 m (upd H1 D (.lst []))) ∧ ∀ i m H, W i m H →
 (J.stop i H ∧ Q (.ref D) H) ∨ (J.go i H ∧ ∀ x H', J.yld i H x H' → g x (st0 k fr σ) H' fun σ2 H2 => Keep (st0 k fr σ) σ2 ∧ tc σ2 H2 fun ok H3 =>
  if ok = true then te σ2 H3 fun y H4 => ∃ ys, H4 D = some (.lst ys) ∧ ys.length < sizeLine ∧ ∃ m', m' < m ∧ W (i + 1) m' (upd H4 D (.lst (ys ++ [y])))
  else ∃ m', m' < m ∧ W (i + 1) m' H3)
theorem tComp_rng1 {ta : TA} {g : TG} {tc : TT} {te : TE} {k : Nat} {fr : List Nat} : tComp (iRng1 ta) g tc te k fr = fun σ H Q => ta σ H fun vs H1 => ∃ j : Int, vs = [.int j] ∧ -(2 ^ 62) ≤ j ∧ j < 2 ^ 62 ∧ CmR (Itr 0 j.toNat) g tc te k fr σ H1 Q := rfl
theorem tComp_rng2 {ta : TA} {g : TG} {tc : TT} {te : TE} {k : Nat} {fr : List Nat} : tComp (iRng2 ta) g tc te k fr = fun σ H Q => ta σ H fun vs H1 => ∃ i j : Int, vs = [.int i, .int j] ∧ (-(2 ^ 62) ≤ i ∧ i < 2 ^ 62 ∧ -(2 ^ 62) ≤ j ∧ j < 2 ^ 62) ∧ CmR (Itr i (j - i).toNat) g tc te k fr σ H1 Q := rfl
theorem tComp_list {K : PySem.W.Frag} {tl : TE} {g : TG} {tc : TT} {te : TE} {k : Nat} {fr : List Nat} : tComp (iList K tl) g tc te k fr = fun σ H Q => tl σ H fun x H1 => ∃ a, x = .ref a ∧ (∃ xs, SqL K H1 a xs) ∧ CmR (Itl K a) g tc te k fr σ H1 Q := rfl
theorem tComp_tup {K : PySem.W.Frag} {tl : TE} {g : TG} {tc : TT} {te : TE} {k : Nat} {fr : List Nat} : tComp (iTup K tl) g tc te k fr = fun σ H Q => tl σ H fun x H1 => ∃ a, x = .ref a ∧ (∃ xs, SqT K H1 a xs) ∧ CmR (Itt K a) g tc te k fr σ H1 Q := rfl
theorem keep_set {fr : List Nat} {σ : St} {v : Option V} : Keep (st0 1 fr σ) ((st0 1 fr σ).set 0 v) := by
 refine ⟨by simp, fun i w h => ?_⟩
 cases i with
 | zero => simp [st0, List.replicate] at h
 | succ i => simpa [st0, List.replicate] using h
theorem comp_range {lo : Int} {n : Nat} {te : TE} {fr : List Nat} {σ : St} {H : Hp} {Q : VK} (f : Nat → V) (hn : n ≤ 1000000)
  (ht : ∀ (i : Nat) (H' : Hp) (R : VK), i < n → Same H H' → (∀ H'', Same H' H'' → R (f i) H'') → te ((st0 1 fr σ).set 0 (some (.int (lo + i)))) H' R)
  (hq : ∀ D H', H D = none → Same H H' → H' D = some (.lst ((List.range n).map f)) → Q (.ref D) H') : CmR (Itr lo n) (gName 0) tYes te 1 fr σ H Q := by
 intro D hD
 refine ⟨fun i m H' => m = n - i ∧ i ≤ n ∧ Same H H' ∧ H' D = some (.lst ((List.range i).map f)), ⟨n, by simp, Nat.zero_le _, Same.new hD, by rw [upd_same]; rfl⟩, ?_⟩
 rintro i m H1 ⟨rfl, hi, s1, e1⟩
 by_cases hlt : i < n
 ·refine .inr ⟨hlt, fun x H' y => ?_⟩
  obtain ⟨e, y⟩ := y
  subst e y
  refine ⟨keep_set, ?_⟩
  show te _ _ _
  refine ht i H' _ hlt s1 fun H2 s2 => ?_
  refine ⟨_, s2 D _ e1, ?_, n - (i + 1), by omega, rfl, hlt, ?_, ?_⟩
  ·rw [List.length_map, List.length_range, sizeLine_eq]; omega
  ·exact fun b o h => by rw [upd_ne (ne_of_none h hD)]; exact s2 b o (s1 b o h)
  ·rw [upd_same, List.range_succ, List.map_append]; rfl
 ·have e : i = n := by omega
  subst e
  exact .inl ⟨Nat.le_refl _, hq D H1 hD s1 e1⟩
theorem cxK {CX : CXT} {P : Program} {w : World} {K : PySem.W.Frag} {mg : Str → Option Value} {base : Heap} {N : List Str} {qual : Str} {scope : Scope} {f : Addr} {cd : Value} {A : Around} {outer : List Env} {s : Shared} {H : Hp} {E : XK} : (cxOf CX P w K mg base N qual scope f cd A outer s H E).K = K := rfl
theorem cmK {X : Cx} {scope : Scope} {N' : List Str} {fp : List Addr} {C : Addr} {s : Shared} {H : Hp} : (compCx X scope N' fp C s H).K = X.K := rfl
theorem ixL {K : PySem.W.Frag} {p : Addr} {xs : List V} {i : Int} {v : V} {H : Hp} {Q : VK} (h : SqL K H p xs) (hv : atI xs i = some v) (q : Q v H) : rIxL K (.ref p) (.int i) H Q := ⟨p, xs, i, v, rfl, rfl, h, hv, q⟩
theorem atI_mem {α : Type} {xs : List α} {i : Int} (h0 : 0 ≤ i) (h1 : i < xs.length) : ∃ v, atI xs i = some v ∧ v ∈ xs := by
 obtain ⟨j, rfl⟩ := Int.eq_ofNat_of_zero_le h0
 have hj : j < xs.length := by omega
 exact ⟨xs[j], atI_nat (by simp [hj]), List.getElem_mem hj⟩
theorem bt_divmod : bootBuiltins "divmod" = some (.builtin "divmod") := by decide +kernel
theorem bt_isinstance : bootBuiltins "isinstance" = some (.builtin "isinstance") := by decide +kernel
theorem bt_int : bootBuiltins "int" = some (.type "int") := by decide +kernel
theorem bt_bool : bootBuiltins "bool" = some (.type "bool") := by decide +kernel
theorem bt_str : bootBuiltins "str" = some (.type "str") := by decide +kernel
theorem bt_tuple : bootBuiltins "tuple" = some (.type "tuple") := by decide +kernel
theorem bt_list : bootBuiltins "list" = some (.type "list") := by decide +kernel
end L2

namespace L2
open PySem PySem.Spec PyProof.Rows PySem.W
section
variable {P : Program} {w : World} {K : PySem.W.Frag} {mg : Str → Option Value} {base : Heap} {N : List Str} {qual : Str} {scope : Scope} {f : Addr} {cd : Value} {A : Around} {outer : List Env} {s : Shared} {H : Hp} {E : XK}
end
section
variable {X : Cx}
end
section
variable {P : Program} {w : World} {K : PySem.W.Frag} {mg : Str → Option Value} {base : Heap}
end
end L2

namespace L2
open PySem PySem.Spec PyProof.Rows PySem.W
section
variable {M : Model} {A : Around} {E : Value → Shared → Prop}
variable {nm q : Str} {C N : Addr} {bs bm : List Value} {hdct : Bool} {sn : List Str} {sub : List Value} {ab : Bool} {col : Option Bool} {dd : Option Addr} {k0 k1 k2 k3 k5 : Option Value} {newId : String}
variable {nm' q' : Str} {C' N' : Addr} {bs' bm' : List Value} {hdct' : Bool} {sn' : List Str} {sub' : List Value} {ab' : Bool} {col' : Option Bool} {dd' : Option Addr} {k0' k1' k2' k3' k5' : Option Value} {newId' : String}
end
section
variable {X : Cx} {pins : List (Addr × Obj)} {σ : St} {H : Hp} {s : Shared}
end
end L2

namespace L2
open PySem PySem.Spec PyProof.Rows PySem.W
section
variable {X : Cx} {pins : List (Addr × Obj)} {σ : St} {H : Hp} {s : Shared}
end
section
variable {X : Cx} {CX : CXT} {k : Nat} {f C C' : Addr} {fd : FuncData} {ps : List Str} {sp : Sp} {x c n : Str} {p cp ep np hp tp : Pos} {a : Expr} {as : List Expr} {b₀ : Stmt} {suite : List Stmt} {t : TA} {i : Nat} {ts : TS}
end
end L2

namespace L2
open PySem PySem.Spec PyProof.Rows
section
variable {X : Cx}
theorem bools_of {bs : List Bool} {its : List Value} (r : Vals (bs.map V.bl) its) : its = bs.map Value.bool := by
 induction bs generalizing its with
 | nil => cases r; rfl
 | cons b bs ih =>
  rw [List.map_cons] at r
  cases r with
  | cons r1 r2 =>
   rw [List.map_cons, ← ih r2]
   exact congrArg (· :: _) r1
theorem range_all (bs : List Bool) (f : Nat → Bool) (h : ∀ i, i < bs.length → f i = bs.getD i true) : (List.range bs.length).all f = bs.all id := by
 rw [Bool.eq_iff_iff, List.all_eq_true, List.all_eq_true]
 constructor
 ·intro z b hb
  obtain ⟨i, hi, e⟩ := List.getElem_of_mem hb
  have := z i (List.mem_range.mpr hi)
  rw [h i hi, List.getD_eq_getElem?_getD, List.getElem?_eq_getElem hi] at this
  rw [← e]; exact this
 ·intro z i hi
  have hi := List.mem_range.mp hi
  rw [h i hi, List.getD_eq_getElem?_getD, List.getElem?_eq_getElem hi]
  exact z _ (List.getElem_mem hi)
theorem bool_at {bs : List Bool} {i : Nat} {v : Value} (h : (bs.map Value.bool).toArray[i]? = some v) : v = .bool (bs.getD i true) := by
 have h' : (bs.map Value.bool)[i]? = some v := by simpa using h
 rw [List.getElem?_map] at h'
 cases e : bs[i]? with
 | none => rw [e] at h'; cases h'
 | some b =>
  rw [e] at h'
  rw [List.getD_eq_getElem?_getD, e]
  exact (Option.some.inj h').symm
theorem iter_boolList {prog : Program} {w : World} {A : Around} {E : Value → Shared → Prop} {s : Shared} {l : Addr} {items : Array Value} {Q : Value → Shared → Prop} (hl : s.heap.IsList l items)
  (h : ∀ s₂ : Shared, s₂ = { s with heap := s.heap.push { cls := .type "list_iterator", data := .fields #[.ref l, .int 0 0] } } →
   (s₂.heap.IsListIter s.heap.objs.size l 0 ∧ s₂.heap.IsList l items) → l ≠ s.heap.objs.size → Q (.ref s.heap.objs.size) s₂) : wpAny (model prog w) A (pyIter (.ref l)) Q E s := by
 have hlt : l < s.heap.objs.size := by obtain ⟨_, e, _⟩ := hl; exact Heap.lt_size e
 exact wpAny_pyIter_list hl (h _ rfl ⟨⟨_, Heap.get?_push_size _ rfl, rfl, rfl⟩, hl.push _⟩ (Nat.ne_of_lt hlt))
theorem call_all (hc : X.calm = true) : CallR X (.builtin "all") (fun xs H Q => ∃ (a : Addr) (bs : List Bool), xs = [.ref a] ∧ SqL X.K H a (bs.map V.bl) ∧ Q (.bl (bs.all id)) H) := by
 intro pins s σ H xs us Q I r h
 obtain ⟨a, bs, rfl, hl, q⟩ := h
 obtain ⟨u, rfl, rx⟩ := vals1 r
 cases rx
 obtain ⟨its, rv, p, hz⟩ := I.list hl
 have hi := bools_of rv
 subst hi
 refine call_all_walk (iter_boolList p.isList fun s₂ e st hlI => ?_)
 subst e
 refine ⟨_, _, _, _, _, _, fun i => bs.getD i true, rfl, Walks.list (A := X.A.in1) (I.ok.hd hc) _ a hlI _, st, fun i v s' Q' E' hP hq => by rw [bool_at hP]; exact wpAny_truthy_bool hq, fun h' tk hk => ?_⟩
 have e := range_all bs (fun i => bs.getD i true) fun _ _ => rfl
 have e2 : (List.map Value.bool bs).toArray.size = bs.length := by simp
 rw [e2, e]
 exact ⟨.bl (bs.all id), H, I.kept (old_kept hk), rfl, q⟩
end
end L2

namespace L2
open PySem PySem.Spec PyProof.Rows PySem.W PySem.Calls PySem.Builtin.ObjectAttr PySem.Builtin PySem.Builtin.Getset_descriptor
section
variable {prog : Program} {w : World} {A : Around} {E : Value → Shared → Prop} {s : Shared} {K : PySem.W.Frag} {x C : Addr}
end
section
variable {X : Cx}
end
end L2

namespace L2
open PySem PySem.Spec PyProof.Rows PySem.W
section
variable {X : Cx} {pins : List (Addr × Obj)} {σ : St} {H : Hp} {s : Shared}
end
section
variable {X : Cx}
abbrev Shp (d : PyData) : Prop := SeqAt.shaped d = true
end
theorem bt_all : bootBuiltins "all" = some (.builtin "all") := by decide +kernel
end L2

namespace L2
open PySem PySem.Spec PyProof.Rows PySem.W
def IsPack (p : Addr) (h : Heap) : Prop := ∃ (n : Int) (t : Tok) (k : Nat), h.get? p = some { cls := .type "list", data := .seq #[.int n t] k }
abbrev packO (p : Addr) : HO := .ext (IsPack p)
abbrev packD : PyData := .dict [(.none, .none)]
abbrev scrD (ds : List PyData) : PyData := .dict [(.none, .list ds)]
abbrev objP (C : Addr) (kp ds : List PyData) : PyData := .dict [(.none, .tuple [.int (C : Int), .list kp, .list ds])]
abbrev dicP (kp ds : List PyData) : PyData := .dict [(.bool true, .tuple [.list kp, .list ds])]
abbrev Ex := Addr → Prop
abbrev H00 : Hp := fun _ => none
mutual
inductive Dt (K : PySem.W.Frag) (H : Hp) (O : Ex) : V → PyData → Prop
 | non : Dt K H O .non .none
 | bl (b : Bool) : Dt K H O (.bl b) (.bool b)
 | int (i : Int) : Dt K H O (.int i) (.int i)
 | str (x : Str) : Dt K H O (.str x) (.str x)
 | tup {a : Addr} {xs : List V} {ds : List PyData} : Rd H a (.tup xs) → ¬ O a → Dts K H O xs ds → Dt K H O (.ref a) (.tuple ds)
 | tupK {a : Addr} {xs : List V} {ds : List PyData} : SqT K H00 a xs → Dts K H O xs ds → Dt K H O (.ref a) (.tuple ds)
 | lst {a : Addr} {xs : List V} {ds : List PyData} : Rd H a (.lst xs) → ¬ O a → Dts K H O xs ds → Dt K H O (.ref a) (.list ds)
 | pack {p : Addr} : H p = some (packO p) → ¬ O p → Dt K H O (.ref p) packD
 | dct0 {a : Addr} : H a = some (.dK []) → ¬ O a → Dt K H O (.ref a) (.dict [])
 | obj {a C dx : Addr} {fs : List (Str × V)} {kp ds : List PyData} : H a = some (.ins C dx fs) → kp = fs.map (fun p => PyData.str p.1) → ¬ O a → Dts K H O (fs.map (·.2)) ds → Dt K H O (.ref a) (objP C kp ds)
 | dic {a : Addr} {kv : List (Key × V)} {ks : List Str} {kp ds : List PyData} : H a = some (.dK kv) → kv.map (·.1) = ks.map Sum.inr → kp = ks.map PyData.str → ¬ O a → Dts K H O (kv.map (·.2)) ds → Dt K H O (.ref a) (dicP kp ds)
 | scr {a : Addr} {xs : List V} {ds : List PyData} : (Rd H a (.lst xs) ∧ ¬ O a) ∨ SqL K H00 a xs → Dts K H O xs ds → Dt K H O (.ref a) (scrD ds)
inductive Dts (K : PySem.W.Frag) (H : Hp) (O : Ex) : List V → List PyData → Prop
 | nil : Dts K H O [] []
 | cons {v : V} {d : PyData} {vs : List V} {ds : List PyData} : Dt K H O v d → Dts K H O vs ds → Dts K H O (v :: vs) (d :: ds)
end
theorem Rd.same {H H' : Hp} {a : Addr} {u : HO} (s : ∀ o, H a = some o → H' a = some o) (h : Rd H a u) : Rd H' a u := by
 rcases h with h | ⟨o, h⟩
 ·exact .inl (s _ h)
 ·exact .inr ⟨o, s _ h⟩
theorem Rd.trk {H : Hp} {a : Addr} {u : HO} (h : Rd H a u) : H a ≠ none := by
 rcases h with h | ⟨o, h⟩ <;> rw [h] <;> exact fun z => nomatch z
section
variable {K : PySem.W.Frag}
structure Step (H H' : Hp) (O O' : Ex) : Prop where
 keep : ∀ b o, H b = some o → ¬ O b → H' b = some o
 out : ∀ b, H b ≠ none → ¬ O b → ¬ O' b
mutual
theorem Dt.step {H H' : Hp} {O O' : Ex} (S : Step H H' O O') : ∀ {v : V} {d : PyData}, Dt K H O v d → Dt K H' O' v d
 | _, _, .non => .non
 | _, _, .bl b => .bl b
 | _, _, .int i => .int i
 | _, _, .str x => .str x
 | _, _, .tup h n r => .tup (h.same fun o e => S.keep _ o e n) (S.out _ h.trk n) (Dts.step S r)
 | _, _, .tupK h r => .tupK h (Dts.step S r)
 | _, _, .lst h n r => .lst (h.same fun o e => S.keep _ o e n) (S.out _ h.trk n) (Dts.step S r)
 | _, _, .pack h n => .pack (S.keep _ _ h n) (S.out _ (by rw [h]; exact fun z => nomatch z) n)
 | _, _, .dct0 h n => .dct0 (S.keep _ _ h n) (S.out _ (by rw [h]; exact fun z => nomatch z) n)
 | _, _, .obj h e n r => .obj (S.keep _ _ h n) e (S.out _ (by rw [h]; exact fun z => nomatch z) n) (Dts.step S r)
 | _, _, .dic h e1 e2 n r => .dic (S.keep _ _ h n) e1 e2 (S.out _ (by rw [h]; exact fun z => nomatch z) n) (Dts.step S r)
 | _, _, .scr h r => .scr (h.imp (fun h => ⟨h.1.same fun o e => S.keep _ o e h.2, S.out _ h.1.trk h.2⟩) id) (Dts.step S r)
theorem Dts.step {H H' : Hp} {O O' : Ex} (S : Step H H' O O') : ∀ {vs : List V} {ds : List PyData}, Dts K H O vs ds → Dts K H' O' vs ds
 | _, _, .nil => .nil
 | _, _, .cons h r => .cons (Dt.step S h) (Dts.step S r)
end
theorem Step.same {H H' : Hp} {O : Ex} (s : Same H H') : Step H H' O O := ⟨fun b o e _ => s b o e, fun _ _ n => n⟩
theorem Dt.mono {H H' : Hp} {O : Ex} {v : V} {d : PyData} (s : Same H H') (h : Dt K H O v d) : Dt K H' O v d := h.step (.same s)
theorem Dts.mono {H H' : Hp} {O : Ex} {v : List V} {d : List PyData} (s : Same H H') (h : Dts K H O v d) : Dts K H' O v d := h.step (.same s)
theorem Dts.length {H : Hp} {O : Ex} : ∀ {vs : List V} {ds : List PyData}, Dts K H O vs ds → vs.length = ds.length
 | _, _, .nil => rfl
 | _, _, .cons _ r => by rw [List.length_cons, List.length_cons, Dts.length r]
theorem Dts.get {H : Hp} {O : Ex} : ∀ {vs : List V} {ds : List PyData} {i : Nat} {v : V}, Dts K H O vs ds → vs[i]? = some v → ∃ d, ds[i]? = some d ∧ Dt K H O v d
 | _, _, _, _, .nil, e => by simp at e
 | _, _, 0, _, .cons h _, e => by simp at e; subst e; exact ⟨_, rfl, h⟩
 | _, _, i + 1, _, .cons _ r, e => by simpa using Dts.get (i := i) r (by simpa using e)
theorem Dts.getD {H : Hp} {O : Ex} : ∀ {vs : List V} {ds : List PyData} {i : Nat} {d : PyData}, Dts K H O vs ds → ds[i]? = some d → ∃ v, vs[i]? = some v ∧ Dt K H O v d
 | _, _, _, _, .nil, e => by simp at e
 | _, _, 0, _, .cons h _, e => by simp at e; subst e; exact ⟨_, rfl, h⟩
 | _, _, i + 1, _, .cons _ r, e => by simpa using Dts.getD (i := i) r (by simpa using e)
theorem Dts.append {H : Hp} {O : Ex} : ∀ {vs ws : List V} {ds es : List PyData}, Dts K H O vs ds → Dts K H O ws es → Dts K H O (vs ++ ws) (ds ++ es)
 | _, _, _, _, .nil, s => s
 | _, _, _, _, .cons h r, s => .cons h (Dts.append r s)
theorem Dts.take {H : Hp} {O : Ex} : ∀ {vs : List V} {ds : List PyData} (n : Nat), Dts K H O vs ds → Dts K H O (vs.take n) (ds.take n)
 | _, _, 0, _ => .nil
 | _, _, _ + 1, .nil => .nil
 | _, _, n + 1, .cons h r => .cons h (Dts.take n r)
theorem Dts.drop {H : Hp} {O : Ex} : ∀ {vs : List V} {ds : List PyData} (n : Nat), Dts K H O vs ds → Dts K H O (vs.drop n) (ds.drop n)
 | _, _, 0, r => r
 | _, _, _ + 1, .nil => .nil
 | _, _, n + 1, .cons _ r => Dts.drop n r
theorem Dts.ints {H : Hp} {O : Ex} : ∀ (ns : List Int), Dts K H O (ns.map V.int) (ns.map PyData.int)
 | [] => .nil
 | n :: r => .cons (.int n) (Dts.ints r)
inductive Sh (K : PySem.W.Frag) (H : Hp) (O : Ex) : V → PyData → Prop
 | dt {v : V} {d : PyData} : Dt K H O v d → Sh K H O v d
 | own {l : Addr} {vs : List V} {ds : List PyData} : H l = some (.lst vs) → Dts K H O vs ds → Sh K H O (.ref l) (.list ds)
theorem Sh.mono {H H' : Hp} {O : Ex} {v : V} {d : PyData} (s : Same H H') : Sh K H O v d → Sh K H' O v d
 | .dt h => .dt (h.mono s)
 | .own h r => .own (s _ _ h) (r.mono s)
theorem Dt.all {H : Hp} {O : Ex} {v : V} {d : PyData} (h : Dt K H O v d) : Dt K H (fun _ => False) v d := h.step ⟨fun _ _ e _ => e, fun _ _ _ z => z⟩
theorem Dts.all {H : Hp} {O : Ex} {v : List V} {d : List PyData} (h : Dts K H O v d) : Dts K H (fun _ => False) v d := h.step ⟨fun _ _ e _ => e, fun _ _ _ z => z⟩
theorem Sh.all {H : Hp} {O : Ex} {v : V} {d : PyData} : Sh K H O v d → Dt K H (fun _ => False) v d
 | .dt h => h.all
 | .own h r => .lst (.inl h) (fun z => z) r.all
theorem SqT.of0 {H : Hp} {a : Addr} {xs : List V} (h : SqT K H00 a xs) : SqT K H a xs := by
 rcases h with (h | ⟨o, h⟩) | h
 ·cases h
 ·cases h
 ·exact .inr h
theorem SqL.of0 {H : Hp} {a : Addr} {xs : List V} (h : SqL K H00 a xs) : SqL K H a xs := by
 rcases h with (h | ⟨o, h⟩) | h
 ·cases h
 ·cases h
 ·exact .inr h
theorem Sh.tup {H : Hp} {O : Ex} {v : V} {ds : List PyData} (h : Sh K H O v (.tuple ds)) : ∃ a xs, v = .ref a ∧ SqT K H a xs ∧ Dts K H O xs ds := by
 cases h with
 | dt h =>
  cases h with
  | tup h _ r => exact ⟨_, _, rfl, .inl h, r⟩
  | tupK h r => exact ⟨_, _, rfl, h.of0, r⟩
theorem Sh.lstR {H : Hp} {O : Ex} {v : V} {ds : List PyData} (h : Sh K H O v (.list ds)) : ∃ a xs, v = .ref a ∧ Rd H a (.lst xs) ∧ Dts K H O xs ds := by
 cases h with
 | dt h =>
  cases h with
  | lst h _ r => exact ⟨_, _, rfl, h, r⟩
 | own h r => exact ⟨_, _, rfl, .inl h, r⟩
theorem Sh.lst {H : Hp} {O : Ex} {v : V} {ds : List PyData} (h : Sh K H O v (.list ds)) : ∃ a xs, v = .ref a ∧ SqL K H a xs ∧ Dts K H O xs ds := by
 obtain ⟨a, xs, e, h, r⟩ := h.lstR
 exact ⟨a, xs, e, .inl h, r⟩
theorem Sh.scr {H : Hp} {O : Ex} {v : V} {ds : List PyData} (h : Sh K H O v (scrD ds)) : ∃ a xs, v = .ref a ∧ SqL K H a xs ∧ Dts K H O xs ds := by
 cases h with
 | dt h =>
  cases h with
  | scr h r =>
   rcases h with h | h
   ·exact ⟨_, _, rfl, .inl h.1, r⟩
   ·exact ⟨_, _, rfl, h.of0, r⟩
theorem Sh.int {H : Hp} {O : Ex} {v : V} {i : Int} (h : Sh K H O v (.int i)) : v = .int i := by cases h with | dt h => cases h; rfl
theorem Sh.bl {H : Hp} {O : Ex} {v : V} {i : Bool} (h : Sh K H O v (.bool i)) : v = .bl i := by cases h with | dt h => cases h; rfl
theorem Sh.str {H : Hp} {O : Ex} {v : V} {i : Str} (h : Sh K H O v (.str i)) : v = .str i := by cases h with | dt h => cases h; rfl
theorem Sh.non {H : Hp} {O : Ex} {v : V} (h : Sh K H O v .none) : v = .non := by cases h with | dt h => cases h; rfl
def scalD : PyData → Bool
 | .none | .bool _ | .int _ | .str _ => true
 | _ => false
end
section
variable {X : Cx} {pins : List (Addr × Obj)} {σ : St} {H : Hp} {s : Shared}
mutual
theorem dt_reads (I : Inv X pins σ H s) {O : Ex} : ∀ {v : V} {d : PyData} {u : Value}, Dt X.K H O v d → d.canLay0 = true → RelV v u → ∃ as, Reads s.heap u d as
 | _, _, _, .non, _, r => by cases r; exact ⟨_, Reads.none⟩
 | _, _, _, .bl b, _, r => by cases r; exact ⟨_, Reads.bool b⟩
 | _, _, _, .int i, _, r => by obtain ⟨t, rfl⟩ := r; exact ⟨_, Reads.int i t⟩
 | _, _, _, .str x, _, r => by obtain ⟨t, rfl⟩ := r; exact ⟨_, Reads.str x t⟩
 | _, _, _, .tup h _ hs, c, r => by
  cases r
  obtain ⟨its, rv, ⟨o, e, c', n, dd⟩, _⟩ := I.tuple (.inl h)
  obtain ⟨as, q⟩ := dts_reads I hs (by simpa [PyData.canLay0] using c) rv
  exact ⟨as, reads_tuple_at e c' dd (by simpa using q)⟩
 | _, _, _, .tupK h hs, c, r => by
  cases r
  obtain ⟨its, rv, ⟨o, e, c', n, dd⟩, _⟩ := I.tuple h.of0
  obtain ⟨as, q⟩ := dts_reads I hs (by simpa [PyData.canLay0] using c) rv
  exact ⟨as, reads_tuple_at e c' dd (by simpa using q)⟩
 | _, _, _, .lst h _ hs, c, r => by
  cases r
  obtain ⟨its, rv, ⟨o, n, e, c', _, dd⟩, _⟩ := I.list (.inl h)
  obtain ⟨as, q⟩ := dts_reads I hs (by simpa [PyData.canLay0] using c) rv
  exact ⟨_, reads_list_at e c' dd (by simpa using q)⟩
 | _, _, _, .pack _ _, c, _ => by simp [PyData.canLay0] at c
 | _, _, _, .dct0 _ _, c, _ => by simp [PyData.canLay0] at c
 | _, _, _, .obj _ _ _ _, c, _ => by simp [PyData.canLay0] at c
 | _, _, _, .dic _ _ _ _ _, c, _ => by simp [PyData.canLay0] at c
 | _, _, _, .scr _ _, c, _ => by simp [PyData.canLay0] at c
theorem dts_reads (I : Inv X pins σ H s) {O : Ex} : ∀ {vs : List V} {ds : List PyData} {us : List Value}, Dts X.K H O vs ds → PyData.canLayAll0 ds = true → Vals vs us → ∃ as, ReadsAll s.heap us ds as
 | _, _, _, .nil, _, r => by cases r; exact ⟨_, ReadsAll.nil⟩
 | _, _, _, .cons h hs, c, r => by
  rw [PyData.canLayAll0, Bool.and_eq_true] at c
  cases r with
  | cons r1 r2 =>
   obtain ⟨as, q⟩ := dt_reads I h c.1 r1
   obtain ⟨bs, p⟩ := dts_reads I hs c.2 r2
   exact ⟨_, ReadsAll.cons q p⟩
end
end
end L2

namespace L2
open PySem PySem.Spec PyProof.Rows PySem.W
inductive Sl where
 | v (d : PyData)
 | o (ds : List PyData)
 | k (kd : List (Key × PyData))
 | i (l C : Addr) (fd : List (Str × PyData))
abbrev Dl := List (Option Sl)
inductive KDt (K : PySem.W.Frag) (H : Hp) (O : Ex) : List (Key × V) → List (Key × PyData) → Prop
 | nil : KDt K H O [] []
 | cons {k : Key} {v : V} {d : PyData} {r : List (Key × V)} {s : List (Key × PyData)} : Dt K H O v d → KDt K H O r s → KDt K H O ((k, v) :: r) ((k, d) :: s)
theorem KDt.step {K : PySem.W.Frag} {H H' : Hp} {O O' : Ex} (S : Step H H' O O') {r : List (Key × V)} {s : List (Key × PyData)} (h : KDt K H O r s) : KDt K H' O' r s := by
 induction h with
 | nil => exact .nil
 | cons a _ ih => exact .cons (a.step S) ih
theorem KDt.mono {K : PySem.W.Frag} {H H' : Hp} {O : Ex} (S : Same H H') {r : List (Key × V)} {s : List (Key × PyData)} (h : KDt K H O r s) : KDt K H' O r s := h.step (.same S)
def FDt (K : PySem.W.Frag) (H : Hp) (O : Ex) (fs : List (Str × V)) (fd : List (Str × PyData)) : Prop := fs.map (·.1) = fd.map (·.1) ∧ Dts K H O (fs.map (·.2)) (fd.map (·.2))
def Sl.own : Sl → Prop
 | .v _ => False
 | _ => True
def SlotOk (K : PySem.W.Frag) (H : Hp) (O0 O : Ex) (x : Option V) : Option Sl → Prop
 | none => True
 | some (.v d) => ∃ v, x = some v ∧ Dt K H O v d
 | some (.o ds) => ∃ l vs, x = some (.ref l) ∧ O l ∧ ¬ O0 l ∧ H l = some (.lst vs) ∧ Dts K H O vs ds
 | some (.k kd) => ∃ l kv, x = some (.ref l) ∧ O l ∧ ¬ O0 l ∧ H l = some (.dK kv) ∧ KDt K H O kv kd
 | some (.i l C fd) => ∃ dx fs, x = some (.ref l) ∧ O l ∧ ¬ O0 l ∧ H l = some (.ins C dx fs) ∧ FDt K H O fs fd
structure Wd (K : PySem.W.Frag) (H0 : Hp) (O0 : Ex) (H : Hp) (O : Ex) (σ : St) (δ : Dl) : Prop where
 same : Same H0 H
 sub : ∀ l, O0 l → O l
 new : ∀ l, O l → O0 l ∨ H0 l = none
 trk : ∀ l, O l → H l ≠ none
 len : σ.length = δ.length
 sl : ∀ (i : Nat) y, δ[i]? = some y → SlotOk K H O0 O ((σ[i]?).join) y
 dis : ∀ (i j : Nat) y z l, δ[i]? = some (some y) → y.own → δ[j]? = some (some z) → z.own → σ[i]? = some (some (.ref l)) → σ[j]? = some (some (.ref l)) → i = j
section
variable {K : PySem.W.Frag} {H0 H H' : Hp} {O0 O : Ex} {σ : St} {δ : Dl}
theorem SlotOk.mono {x : Option V} {y : Option Sl} (s : Same H H') (h : SlotOk K H O0 O x y) : SlotOk K H' O0 O x y := by
 match y, h with
 | none, _ => exact True.intro
 | some (.v d), ⟨v, e, r⟩ => exact ⟨v, e, r.mono s⟩
 | some (.o ds), ⟨l, vs, e, a, b, c, r⟩ => exact ⟨l, vs, e, a, b, s _ _ c, r.mono s⟩
 | some (.k ds), ⟨l, vs, e, a, b, c, r⟩ => exact ⟨l, vs, e, a, b, s _ _ c, r.mono s⟩
 | some (.i l C ds), ⟨dx, vs, e, a, b, c, r1, r2⟩ => exact ⟨dx, vs, e, a, b, s _ _ c, r1, r2.mono s⟩
theorem SlotOk.go {O' : Ex} {x : Option V} {y : Option Sl} (h : SlotOk K H O0 O x y) (S : Step H H' O O') (kp : ∀ l o, y.any (fun z => match z with | .v _ => false | _ => true) = true → x = some (.ref l) → O l → ¬ O0 l → H l = some o → O' l ∧ H' l = some o) : SlotOk K H' O0 O' x y := by
 match y, h with
 | none, _ => exact True.intro
 | some (.v d), ⟨v, e, r⟩ => exact ⟨v, e, r.step S⟩
 | some (.o ds), ⟨l, vs, e, a, b, c, r⟩ => exact ⟨l, vs, e, (kp l _ rfl e a b c).1, b, (kp l _ rfl e a b c).2, r.step S⟩
 | some (.k ds), ⟨l, vs, e, a, b, c, r⟩ => exact ⟨l, vs, e, (kp l _ rfl e a b c).1, b, (kp l _ rfl e a b c).2, r.step S⟩
 | some (.i l C ds), ⟨dx, vs, e, a, b, c, r1, r2⟩ => exact ⟨dx, vs, e, (kp l _ rfl e a b c).1, b, (kp l _ rfl e a b c).2, r1, r2.step S⟩
theorem Wd.mono (s : Same H H') (w : Wd K H0 O0 H O σ δ) : Wd K H0 O0 H' O σ δ :=
 ⟨w.same.trans s, w.sub, w.new, fun l h z => (by
  cases e : H l with
  | none => exact w.trk l h e
  | some o => rw [s _ _ e] at z; cases z), w.len, fun i y e => (w.sl i y e).mono s, w.dis⟩
theorem at_join {i : Nat} {v : V} (h : (σ[i]?).join = some v) : σ[i]? = some (some v) := by
 cases q : σ[i]? with
 | none => rw [q] at h; cases h
 | some o => rw [q] at h; rw [show o = some v from h]
theorem Wd.val (w : Wd K H0 O0 H O σ δ) {i : Nat} {d : PyData} (e : δ[i]? = some (some (.v d))) : ∃ v, σ[i]? = some (some v) ∧ Dt K H O v d := by
 obtain ⟨v, h, r⟩ := w.sl i _ e
 exact ⟨v, at_join h, r⟩
theorem Wd.own (w : Wd K H0 O0 H O σ δ) {i : Nat} {ds : List PyData} (e : δ[i]? = some (some (.o ds))) : ∃ l vs, σ[i]? = some (some (.ref l)) ∧ O l ∧ ¬ O0 l ∧ H l = some (.lst vs) ∧ Dts K H O vs ds := by
 obtain ⟨l, vs, h, r⟩ := w.sl i _ e
 exact ⟨l, vs, at_join h, r⟩
theorem Wd.ownK (w : Wd K H0 O0 H O σ δ) {i : Nat} {kd : List (Key × PyData)} (e : δ[i]? = some (some (.k kd))) : ∃ l kv, σ[i]? = some (some (.ref l)) ∧ O l ∧ ¬ O0 l ∧ H l = some (.dK kv) ∧ KDt K H O kv kd := by
 obtain ⟨l, vs, h, r⟩ := w.sl i _ e
 exact ⟨l, vs, at_join h, r⟩
theorem Wd.ownI (w : Wd K H0 O0 H O σ δ) {i : Nat} {l C : Addr} {fd : List (Str × PyData)} (e : δ[i]? = some (some (.i l C fd))) : ∃ dx fs, σ[i]? = some (some (.ref l)) ∧ O l ∧ ¬ O0 l ∧ H l = some (.ins C dx fs) ∧ FDt K H O fs fd := by
 obtain ⟨dx, vs, h, r⟩ := w.sl i _ e
 exact ⟨dx, vs, at_join h, r⟩
theorem Wd.adr (w : Wd K H0 O0 H O σ δ) {i : Nat} {y : Sl} (e : δ[i]? = some (some y)) (h : y.own) : ∃ l, σ[i]? = some (some (.ref l)) ∧ O l ∧ ¬ O0 l := by
 match y, h, e with
 | .o ds, _, e => obtain ⟨l, vs, a, b, c, _⟩ := w.own e; exact ⟨l, a, b, c⟩
 | .k ds, _, e => obtain ⟨l, vs, a, b, c, _⟩ := w.ownK e; exact ⟨l, a, b, c⟩
 | .i l C ds, _, e => obtain ⟨dx, vs, a, b, c, _⟩ := w.ownI e; exact ⟨l, a, b, c⟩
theorem Wd.set (w : Wd K H0 O0 H O σ δ) {i : Nat} {v : V} {d : PyData} (h : Dt K H O v d) : Wd K H0 O0 H O (σ.set i (some v)) (δ.set i (some (.v d))) := by
 refine ⟨w.same, w.sub, w.new, w.trk, by simp [w.len], fun j y e => ?_, fun j k y z l e1 y1 e2 z2 e3 e4 => ?_⟩
 ·by_cases hj : j = i
  ·subst hj
   have hl : j < δ.length := by
    have := (List.getElem?_eq_some_iff.mp e).1; simpa using this
   rw [List.getElem?_set_self hl] at e
   cases e
   rw [List.getElem?_set_self (by rw [w.len]; exact hl)]
   exact ⟨v, rfl, h⟩
  ·rw [List.getElem?_set_ne (Ne.symm hj)] at e ⊢
   exact w.sl j y e
 ·have ne : ∀ {j : Nat} {y : Sl}, (δ.set i (some (.v d)))[j]? = some (some y) → y.own → j ≠ i := fun {j y} e ho z => by
   subst z
   by_cases hl : j < δ.length
   ·rw [List.getElem?_set_self hl] at e; cases e; exact ho
   ·rw [List.getElem?_eq_none (by simpa using hl)] at e; cases e
  have n1 := ne e1 y1; have n2 := ne e2 z2
  rw [List.getElem?_set_ne (Ne.symm n1)] at e1 e3
  rw [List.getElem?_set_ne (Ne.symm n2)] at e2 e4
  exact w.dis j k y z l e1 y1 e2 z2 e3 e4
theorem Wd.setY (w : Wd K H0 O0 H O σ δ) {i : Nat} {p : Addr} {ho : HO} {y0 : Sl} (hy : y0.own) (hp : H p = none) (h : ∀ O', Step H (upd H p ho) O O' → O' p → ¬ O0 p → SlotOk K (upd H p ho) O0 O' (some (.ref p)) (some y0)) :
  Wd K H0 O0 (upd H p ho) (fun l => O l ∨ l = p) (σ.set i (some (.ref p))) (δ.set i (some y0)) := by
 have sm : Same H (upd H p ho) := Same.new hp
 have np : ∀ l, O l → l ≠ p := fun l hl z => w.trk l hl (by rw [z]; exact hp)
 have p0 : H0 p = none := by
  cases e : H0 p with
  | none => rfl
  | some o => rw [w.same _ _ e] at hp; cases hp
 have S : Step H (upd H p ho) O (fun l => O l ∨ l = p) := ⟨fun b o e _ => sm b o e, fun b hb hn z => z.elim hn fun q => hb (by rw [q]; exact hp)⟩
 have n0 : ¬ O0 p := fun z => np p (w.sub p z) rfl
 refine ⟨w.same.trans sm, fun l z => .inl (w.sub l z), fun l z => z.elim (w.new l) fun q => .inr (by rw [q]; exact p0), fun l z => ?_, by simp [w.len], fun j y e => ?_, fun j k y z l e1 y1 e2 z2 e3 e4 => ?_⟩
 ·by_cases q : l = p
  ·rw [q, upd_same]; exact fun z => nomatch z
  ·rw [upd_ne q]; exact w.trk l (z.resolve_right q)
 ·by_cases hj : j = i
  ·subst hj
   have hl : j < δ.length := by
    have := (List.getElem?_eq_some_iff.mp e).1; simpa using this
   rw [List.getElem?_set_self hl] at e
   cases e
   rw [List.getElem?_set_self (by rw [w.len]; exact hl)]
   exact h _ S (.inr rfl) n0
  ·rw [List.getElem?_set_ne (Ne.symm hj)] at e ⊢
   exact (w.sl j y e).go S fun l o _ _ a _ c => ⟨.inl a, sm _ _ c⟩
 ·by_cases hj : j = i
  ·by_cases hk : k = i
   ·rw [hj, hk]
   ·exfalso
    rw [hj] at e1 e3
    have hl : i < σ.length := by
     have := (List.getElem?_eq_some_iff.mp e3).1; simpa using this
    rw [List.getElem?_set_self hl] at e3
    cases e3
    rw [List.getElem?_set_ne (Ne.symm hk)] at e2 e4
    obtain ⟨l', x1, x2, _⟩ := w.adr e2 z2
    rw [e4] at x1; cases x1
    exact np _ x2 rfl
  ·by_cases hk : k = i
   ·exfalso
    rw [hk] at e2 e4
    have hl : i < σ.length := by
     have := (List.getElem?_eq_some_iff.mp e4).1; simpa using this
    rw [List.getElem?_set_self hl] at e4
    cases e4
    rw [List.getElem?_set_ne (Ne.symm hj)] at e1 e3
    obtain ⟨l', x1, x2, _⟩ := w.adr e1 y1
    rw [e3] at x1; cases x1
    exact np _ x2 rfl
   ·rw [List.getElem?_set_ne (Ne.symm hj)] at e1 e3
    rw [List.getElem?_set_ne (Ne.symm hk)] at e2 e4
    exact w.dis j k _ _ l e1 y1 e2 z2 e3 e4
theorem Wd.setO (w : Wd K H0 O0 H O σ δ) {i : Nat} {p : Addr} {vs : List V} {ds : List PyData} (hp : H p = none) (h : Dts K H O vs ds) :
  Wd K H0 O0 (upd H p (.lst vs)) (fun l => O l ∨ l = p) (σ.set i (some (.ref p))) (δ.set i (some (.o ds))) :=
 w.setY trivial hp fun O' S a b => ⟨p, vs, rfl, a, b, upd_same, h.step S⟩
theorem Wd.putY (w : Wd K H0 O0 H O σ δ) {i : Nat} {l : Addr} {ho : HO} {y0 y1 : Sl} (h0 : y0.own) (h1 : y1.own) (e : δ[i]? = some (some y0)) (hl : σ[i]? = some (some (.ref l))) (h : Step H (upd H l ho) O O → O l → ¬ O0 l → SlotOk K (upd H l ho) O0 O (some (.ref l)) (some y1)) :
  Wd K H0 O0 (upd H l ho) O σ (δ.set i (some y1)) := by
 obtain ⟨l', x1, x2, x3⟩ := w.adr e h0
 rw [hl] at x1; cases x1
 have l0 : H0 l = none := (w.new l x2).resolve_left x3
 have S : Step H (upd H l ho) O O := ⟨fun b o q n => by rw [upd_ne (fun z => n (by rw [z]; exact x2))]; exact q, fun _ _ n => n⟩
 have li : i < δ.length := (List.getElem?_eq_some_iff.mp e).1
 refine ⟨fun b o q => by rw [upd_ne (fun z => by rw [z, l0] at q; cases q)]; exact w.same b o q, w.sub, w.new, fun b z => ?_, by simp [w.len], fun j y q => ?_, fun j k y z b e1 y1' e2 z2 e3 e4 => ?_⟩
 ·by_cases q : b = l
  ·rw [q, upd_same]; exact fun z => nomatch z
  ·rw [upd_ne q]; exact w.trk b z
 ·by_cases hj : j = i
  ·subst hj
   rw [List.getElem?_set_self li] at q
   cases q
   rw [hl]
   exact h S x2 x3
  ·rw [List.getElem?_set_ne (Ne.symm hj)] at q
   refine (w.sl j y q).go S fun b o ho' e' a1 a2 a3 => ⟨a1, ?_⟩
   have nb : b ≠ l := fun z => by
    subst z
    match y, ho', q with
    | some z, ho', q => exact hj (w.dis j i z y0 b q (by cases z <;> first | trivial | cases ho') e h0 (at_join e') hl)
   rw [upd_ne nb]; exact a3
 ·have back : ∀ {j : Nat} {y : Sl}, (δ.set i (some y1))[j]? = some (some y) → y.own → ∃ y', δ[j]? = some (some y') ∧ y'.own := fun {j y} q hq => by
   by_cases hj : j = i
   ·subst hj; exact ⟨_, e, h0⟩
   ·rw [List.getElem?_set_ne (Ne.symm hj)] at q; exact ⟨_, q, hq⟩
  obtain ⟨_, q1, r1⟩ := back e1 y1'
  obtain ⟨_, q2, r2⟩ := back e2 z2
  exact w.dis j k _ _ b q1 r1 q2 r2 e3 e4
theorem Wd.putO (w : Wd K H0 O0 H O σ δ) {i : Nat} {l : Addr} {vs us : List V} {ds es : List PyData} (e : δ[i]? = some (some (.o ds))) (hl : σ[i]? = some (some (.ref l))) (h : Dts K H O us es) :
  Wd K H0 O0 (upd H l (.lst us)) O σ (δ.set i (some (.o es))) :=
 w.putY (y0 := .o ds) (y1 := .o es) trivial trivial e hl fun S a b => ⟨l, us, rfl, a, b, upd_same, h.step S⟩
end
abbrev DT := Dl → (PyData → Prop) → Prop
abbrev DA := Dl → (List PyData → Prop) → Prop
abbrev DB := Dl → (Bool → Prop) → Prop
structure DEnds where
 nx : Dl → Prop
 rt : PyData → Prop
 bk : Dl → Prop := fun _ => False
 ct : Dl → Prop := fun _ => False
abbrev DS := DEnds → Dl → Prop
section
variable (K : PySem.W.Frag) (H0 : Hp) (O0 : Ex)
def up (t : DT) : TE := fun σ H R => ∃ O δ Qd, Wd K H0 O0 H O σ δ ∧ t δ Qd ∧ ∀ d v H', Qd d → Same H H' → Dt K H' O v d → R v H'
def upS (t : DT) : TE := fun σ H R => ∃ O δ Qd, Wd K H0 O0 H O σ δ ∧ t δ Qd ∧ ∀ d v H', Qd d → Same H H' → Sh K H' O v d → R v H'
def upA (t : DA) : TA := fun σ H R => ∃ O δ Qd, Wd K H0 O0 H O σ δ ∧ t δ Qd ∧ ∀ ds vs H', Qd ds → Same H H' → Dts K H' O vs ds → R vs H'
def upT (t : DB) : TT := fun σ H R => ∃ O δ Qd, Wd K H0 O0 H O σ δ ∧ t δ Qd ∧ ∀ b H', Qd b → Same H H' → R b H'
def upD (t : DS) : TS := fun D σ H => ∃ O δ E, Wd K H0 O0 H O σ δ ∧ t E δ ∧ (∀ O' δ' σ' H', E.nx δ' → Wd K H0 O0 H' O' σ' δ' → Step H H' O O' → D.nx σ' H') ∧ (∀ d v H', E.rt d → Same H0 H' → Dt K H' O0 v d → D.rt v H') ∧
 (∀ O' δ' σ' H', E.bk δ' → Wd K H0 O0 H' O' σ' δ' → Step H H' O O' → D.bk σ' H') ∧ (∀ O' δ' σ' H', E.ct δ' → Wd K H0 O0 H' O' σ' δ' → Step H H' O O' → D.ct σ' H')
end
theorem PE.imp {X : Cx} {e : Expr} {t u : TE} (h : PE X e t) (i : ∀ σ H Q, u σ H Q → t σ H Q) : PE X e u := fun pins s σ H Q I z => h pins s σ H Q I (i σ H Q z)
theorem PT.imp {X : Cx} {e : Expr} {t u : TT} (h : PT X e t) (i : ∀ σ H Q, u σ H Q → t σ H Q) : PT X e u := fun pins s σ H Q I z => h pins s σ H Q I (i σ H Q z)
theorem PW.imp {X : Cx} {e : Expr} {t u : TT} (h : PW X e t) (i : ∀ σ H Q, u σ H Q → t σ H Q) : PW X e u := fun wh pins s σ H Q I z => h wh pins s σ H Q I (i σ H Q z)
theorem PA.imp {X : Cx} {e : List Expr} {t u : TA} (h : PA X e t) (i : ∀ σ H Q, u σ H Q → t σ H Q) : PA X e u := fun pos pins s σ H Q I z => h pos pins s σ H Q I (i σ H Q z)
theorem PS.imp {X : Cx} {e : Stmt} {t u : TS} (h : PS X e t) (i : ∀ D σ H, u D σ H → t D σ H) : PS X e u := fun pins s σ H D I z => h pins s σ H D I (i D σ H z)
theorem PSs.imp {X : Cx} {e : List Stmt} {t u : TS} (h : PSs X e t) (i : ∀ D σ H, u D σ H → t D σ H) : PSs X e u := fun pins s σ H D I z => h pins s σ H D I (i D σ H z)
section
variable {X : Cx} {H0 : Hp} {O0 : Ex}
abbrev DE (X : Cx) (H0 : Hp) (O0 : Ex) (e : Expr) (t : DT) : Prop := PE X e (up X.K H0 O0 t)
abbrev DF (X : Cx) (H0 : Hp) (O0 : Ex) (e : Expr) (t : DT) : Prop := PE X e (upS X.K H0 O0 t)
theorem df {e : Expr} {t : DT} (h : DE X H0 O0 e t) : DF X H0 O0 e t := h.imp fun σ H Q ⟨O, δ, Qd, w, q, k⟩ => ⟨O, δ, Qd, w, q, fun d v H' a b c => k d v H' a b (.dt c)⟩
def dVar (i : Nat) : DT := fun δ Q => ∃ d, δ[i]? = some (some (.v d)) ∧ Q d
def dOwn (i : Nat) : DT := fun δ Q => ∃ ds, δ[i]? = some (some (.o ds)) ∧ Q (.list ds)
def dC (d : PyData) : DT := fun _ Q => Q d
theorem dv (i : Nat) {x : Str} {pos : Pos} (hN : X.N[i]? = some x := by rfl) (hv : Vis X.env.scope x := by first | exact Or.inl rfl | exact Or.inr (Or.inl rfl) | exact Or.inr (Or.inr rfl))
  (hd : (x == ("__debug__" : Str)) = false := by decide) (hcd : (x == ("__classdict__" : Str)) = false := by decide) : DE X H0 O0 (.Name x pos) (dVar i) :=
 (pe_var hN hv hd hcd).imp fun σ H Q ⟨O, δ, Qd, w, ⟨d, e, q⟩, k⟩ => by
  obtain ⟨v, h, r⟩ := w.val e
  exact ⟨v, h, k d v H q (Same.refl _) r⟩
theorem dw (i : Nat) {x : Str} {pos : Pos} (hN : X.N[i]? = some x := by rfl) (hv : Vis X.env.scope x := by first | exact Or.inl rfl | exact Or.inr (Or.inl rfl) | exact Or.inr (Or.inr rfl))
  (hd : (x == ("__debug__" : Str)) = false := by decide) (hcd : (x == ("__classdict__" : Str)) = false := by decide) : DF X H0 O0 (.Name x pos) (dOwn i) :=
 (pe_var hN hv hd hcd).imp fun σ H Q ⟨O, δ, Qd, w, ⟨ds, e, q⟩, k⟩ => by
  obtain ⟨l, vs, h, _, _, r, rs⟩ := w.own e
  exact ⟨_, h, k _ _ H q (Same.refl _) (.own r rs)⟩
theorem dc {e : Expr} {v : V} {d : PyData} (h : PE X e (tC v)) (r : ∀ H O, Dt X.K H O v d) : DE X H0 O0 e (dC d) := h.imp fun σ H Q ⟨O, δ, Qd, w, q, k⟩ => k d v H q (Same.refl _) (r H O)
theorem de_int {i j pos} : DE X H0 O0 (.Constant (.int i) j pos) (dC (.int i)) := dc pe_int fun _ _ => .int i
theorem de_bl {b j pos} : DE X H0 O0 (.Constant (.bool b) j pos) (dC (.bool b)) := dc pe_bl fun _ _ => .bl b
theorem de_non {j pos} : DE X H0 O0 (.Constant .none j pos) (dC .none) := dc pe_non fun _ _ => .non
theorem de_str {x j pos} : DE X H0 O0 (.Constant (.str x) j pos) (dC (.str x)) := dc pe_str fun _ _ => .str x
def dNil : DA := fun _ Q => Q []
def dCons (t : DT) (u : DA) : DA := fun δ Q => t δ fun d => u δ fun ds => Q (d :: ds)
theorem da_nil : PA X [] (upA X.K H0 O0 dNil) := pa_nil.imp fun σ H Q ⟨O, δ, Qd, w, q, k⟩ => k [] [] H q (Same.refl _) .nil
theorem da_cons {e : Expr} {es : List Expr} {t : DT} {u : DA} (h : DE X H0 O0 e t) (hs : PA X es (upA X.K H0 O0 u)) (he : starEach (e :: es) X.env = (false, eval e X.env) :: starEach es X.env := by rfl) : PA X (e :: es) (upA X.K H0 O0 (dCons t u)) :=
 (pa_cons h hs he).imp fun σ H Q ⟨O, δ, Qd, w, q, k⟩ => ⟨O, δ, _, w, q, fun d v H1 q1 s1 r1 => ⟨O, δ, _, w.mono s1, q1, fun ds vs H2 q2 s2 r2 => k (d :: ds) (v :: vs) H2 q2 (s1.trans s2) (.cons (r1.mono s2) r2)⟩⟩
def dTup (t : DA) : DT := fun δ Q => t δ fun ds => ds.length ≤ sizeLine ∧ Q (.tuple ds)
def dLst (t : DA) : DT := fun δ Q => t δ fun ds => ds.length ≤ sizeLine ∧ Q (.list ds)
theorem nex {H : Hp} {O : Ex} {σ : St} {δ : Dl} {H1 : Hp} {p : Addr} {K : PySem.W.Frag} (w : Wd K H0 O0 H O σ δ) (s : Same H H1) (hp : H1 p = none) : ¬ O p := fun z => (w.mono s).trk p z hp
theorem de_tup {es : List Expr} {t : DA} {x1} {pos : Pos} (h : PA X es (upA X.K H0 O0 t)) : DE X H0 O0 (.Tuple es x1 pos) (dTup t) :=
 (pe_tup h).imp fun σ H Q ⟨O, δ, Qd, w, q, k⟩ => ⟨O, δ, _, w, q, fun ds vs H1 q1 s1 r1 => ⟨by rw [r1.length]; exact q1.1, fun p hp => k _ _ _ q1.2 (s1.trans (Same.new hp)) (.tup (.inl upd_same) (nex w s1 hp) (r1.mono (Same.new hp)))⟩⟩
end
end L2

namespace L2
open PySem PySem.Spec PyProof.Rows PySem.W
theorem Step.refl (H : Hp) (O : Ex) : Step H H O O := ⟨fun _ _ e _ => e, fun _ _ n => n⟩
theorem Step.trans {H H1 H2 : Hp} {O O1 O2 : Ex} (a : Step H H1 O O1) (b : Step H1 H2 O1 O2) : Step H H2 O O2 := by
 refine ⟨fun c o e n => ?_, fun c e n => ?_⟩
 ·have h1 := a.keep c o e n
  exact b.keep c o h1 (a.out c (by rw [e]; exact fun z => nomatch z) n)
 ·cases q : H c with
  | none => exact absurd q e
  | some o => exact b.out c (by rw [a.keep c o q n]; exact fun z => nomatch z) (a.out c e n)
section
variable {X : Cx} {H0 : Hp} {O0 : Ex}
def OpD (K : PySem.W.Frag) (r : R2) (rd : PyData → PyData → (PyData → Prop) → Prop) : Prop :=
 ∀ (H : Hp) (O : Ex) (x y : V) (dx dy : PyData) (Qd : PyData → Prop) (R : VK), (∀ l, O l → H l ≠ none) → Sh K H O x dx → Sh K H O y dy → rd dx dy Qd → (∀ d v H', Qd d → Same H H' → Dt K H' O v d → R v H') → r x y H R
def dOp (rd : PyData → PyData → (PyData → Prop) → Prop) (ta tb : DT) : DT := fun δ Q => ta δ fun x => tb δ fun y => rd x y Q
theorem opd {K : PySem.W.Frag} {r : R2} {rd : PyData → PyData → (PyData → Prop) → Prop} {ta tb : DT} (hd : OpD K r rd) : ∀ σ H Q, up K H0 O0 (dOp rd ta tb) σ H Q → tOp r (upS K H0 O0 ta) (upS K H0 O0 tb) σ H Q :=
 fun σ H Q ⟨O, δ, Qd, w, q, k⟩ => ⟨O, δ, _, w, q, fun x v H1 q1 s1 r1 => ⟨O, δ, _, w.mono s1, q1, fun y u H2 q2 s2 r2 => hd H2 O v u x y Qd _ (w.mono (s1.trans s2)).trk (r1.mono s2) r2 q2 fun d z H3 qd s3 r3 => k d z H3 qd (s1.trans (s2.trans s3)) r3⟩⟩
theorem de_op {a b : Expr} {ta tb : DT} {op : Operator} {r : R2} {rd : PyData → PyData → (PyData → Prop) → Prop} {pos : Pos} (ho : OpR X (binaryOp op) r) (hd : OpD X.K r rd) (ha : DF X H0 O0 a ta) (hb : DF X H0 O0 b tb) : DE X H0 O0 (.BinOp a op b pos) (dOp rd ta tb) := (pe_op ho ha hb).imp (opd hd)
theorem de_cmp {a b : Expr} {ta tb : DT} {op : CmpOp} {r : R2} {rd : PyData → PyData → (PyData → Prop) → Prop} {pos : Pos} (ho : OpR X (compareOp op) r) (hd : OpD X.K r rd) (ha : DF X H0 O0 a ta) (hb : DF X H0 O0 b tb) (hm : behindInMarks op b = false) : DE X H0 O0 (.Compare a [op] [b] pos) (dOp rd ta tb) := (pe_cmpR ho ha hb hm).imp (opd hd)
def dTest (t : DT) : DB := fun δ Q => t δ fun d => ∃ b, d = .bool b ∧ Q b
theorem dt_cmp {a b : Expr} {ta tb : DT} {op : CmpOp} {r : R2} {rd : PyData → PyData → (PyData → Prop) → Prop} {pos : Pos} (ho : OpR X (compareOp op) r) (hd : OpD X.K r rd) (ha : DF X H0 O0 a ta) (hb : DF X H0 O0 b tb) (hm : behindInMarks op b = false) : PT X (.Compare a [op] [b] pos) (upT X.K H0 O0 (dTest (dOp rd ta tb))) :=
 (pt_cmpR ho ha hb hm).imp fun σ H Q ⟨O, δ, Qd, w, q, k⟩ => opd hd σ H _ ⟨O, δ, _, w, q, fun d v H' ⟨b, e, qb⟩ s r => by subst e; cases r; exact ⟨b, rfl, k b H' qb s⟩⟩
theorem dt_val {e : Expr} {t : DT} (h : DE X H0 O0 e t) (he : ∀ whole, isTrue e X.env whole = (do let v ← whole; standAt e.pos; holding [v] (truthy v)) := by intro _; rfl) : PT X e (upT X.K H0 O0 (dTest t)) :=
 (pt_val h he).imp fun σ H Q ⟨O, δ, Qd, w, q, k⟩ => ⟨O, δ, _, w, q, fun d v H' ⟨b, e, qb⟩ s r => by subst e; cases r; exact ⟨b, rfl, k b H' qb s⟩⟩
def dAnd (t u : DB) : DB := fun δ Q => t δ fun c => if c = true then u δ Q else Q false
def dOr (t u : DB) : DB := fun δ Q => t δ fun c => if c = true then Q true else u δ Q
def dNot (t : DB) : DB := fun δ Q => t δ fun c => Q (!c)
theorem dw_and1 {a : Expr} {t : DB} {pos : Pos} (h : PT X a (upT X.K H0 O0 t)) : PW X (.BoolOp .And [a] pos) (upT X.K H0 O0 t) := pw_and1 h
theorem dw_or1 {a : Expr} {t : DB} {pos : Pos} (h : PT X a (upT X.K H0 O0 t)) : PW X (.BoolOp .Or [a] pos) (upT X.K H0 O0 t) := pw_or1 h
theorem dw_and {a b : Expr} {rest : List Expr} {t u : DB} {pos : Pos} (h : PT X a (upT X.K H0 O0 t)) (hb : PW X (.BoolOp .And (b :: rest) pos) (upT X.K H0 O0 u)) : PW X (.BoolOp .And (a :: b :: rest) pos) (upT X.K H0 O0 (dAnd t u)) :=
 (pw_and h hb).imp fun σ H Q ⟨O, δ, Qd, w, q, k⟩ => ⟨O, δ, _, w, q, fun c H1 q1 s1 => by
  cases c with
  | true => exact ⟨O, δ, _, w.mono s1, q1, fun b H2 q2 s2 => k b H2 q2 (s1.trans s2)⟩
  | false => exact k false H1 q1 s1⟩
theorem dw_or {a b : Expr} {rest : List Expr} {t u : DB} {pos : Pos} (h : PT X a (upT X.K H0 O0 t)) (hb : PW X (.BoolOp .Or (b :: rest) pos) (upT X.K H0 O0 u)) : PW X (.BoolOp .Or (a :: b :: rest) pos) (upT X.K H0 O0 (dOr t u)) :=
 (pw_or h hb).imp fun σ H Q ⟨O, δ, Qd, w, q, k⟩ => ⟨O, δ, _, w, q, fun c H1 q1 s1 => by
  cases c with
  | false => exact ⟨O, δ, _, w.mono s1, q1, fun b H2 q2 s2 => k b H2 q2 (s1.trans s2)⟩
  | true => exact k true H1 q1 s1⟩
theorem dt_not {a : Expr} {t : DB} {pos : Pos} (h : PT X a (upT X.K H0 O0 t)) : PT X (.UnaryOp .Not a pos) (upT X.K H0 O0 (dNot t)) :=
 (pt_not h).imp fun σ H Q ⟨O, δ, Qd, w, q, k⟩ => ⟨O, δ, _, w, q, fun c H1 q1 s1 => k (!c) H1 q1 s1⟩
def dAndV (t u : DT) : DT := fun δ Q => t δ fun d => ∃ c, d = .bool c ∧ if c = true then u δ Q else Q (.bool false)
def dOrV (t u : DT) : DT := fun δ Q => t δ fun d => ∃ c, d = .bool c ∧ if c = true then Q (.bool true) else u δ Q
def dNotV (t : DT) : DT := fun δ Q => t δ fun d => ∃ c, d = .bool c ∧ Q (.bool (!c))
theorem de_one {op} {a : Expr} {t : DT} {pos : Pos} (h : DE X H0 O0 a t) : DE X H0 O0 (.BoolOp op [a] pos) t := pe_one h
theorem de_and {a b : Expr} {rest : List Expr} {t u : DT} {pos : Pos} (h : DE X H0 O0 a t) (hb : DE X H0 O0 (.BoolOp .And (b :: rest) pos) u) : DE X H0 O0 (.BoolOp .And (a :: b :: rest) pos) (dAndV t u) :=
 (pe_and h hb).imp fun σ H Q ⟨O, δ, Qd, w, q, k⟩ => ⟨O, δ, _, w, q, fun d v H1 ⟨c, e, q1⟩ s1 r => by
  subst e; cases r
  refine ⟨c, rfl, ?_⟩
  cases c with
  | true => exact ⟨O, δ, _, w.mono s1, q1, fun d v H2 q2 s2 r2 => k d v H2 q2 (s1.trans s2) r2⟩
  | false => exact k _ _ H1 q1 s1 (.bl false)⟩
theorem de_not {a : Expr} {t : DT} {pos : Pos} (h : DE X H0 O0 a t) : DE X H0 O0 (.UnaryOp .Not a pos) (dNotV t) :=
 (pe_not h).imp fun σ H Q ⟨O, δ, Qd, w, q, k⟩ => ⟨O, δ, _, w, q, fun d v H1 ⟨c, e, q1⟩ s1 r => by
  subst e; cases r
  exact ⟨c, rfl, k _ _ H1 q1 s1 (.bl _)⟩⟩
def dIf (c : DB) (t u : DT) : DT := fun δ Q => c δ fun b => if b = true then t δ Q else u δ Q
theorem de_ifExp {c a b : Expr} {tc : DB} {t u : DT} {pos : Pos} (hc : PT X c (upT X.K H0 O0 tc)) (ha : DE X H0 O0 a t) (hb : DE X H0 O0 b u) : DE X H0 O0 (.IfExp c a b pos) (dIf tc t u) :=
 (pe_ifExp hc ha hb).imp fun σ H Q ⟨O, δ, Qd, w, q, k⟩ => ⟨O, δ, _, w, q, fun c H1 q1 s1 => by
  cases c with
  | true => exact ⟨O, δ, _, w.mono s1, q1, fun d v H2 q2 s2 r2 => k d v H2 q2 (s1.trans s2) r2⟩
  | false => exact ⟨O, δ, _, w.mono s1, q1, fun d v H2 q2 s2 r2 => k d v H2 q2 (s1.trans s2) r2⟩⟩
def dChain (rd rd' : PyData → PyData → (PyData → Prop) → Prop) (ta tb tc : DT) : DT := fun δ Q => ta δ fun x => tb δ fun y => rd x y fun z => ∃ k, z = .bool k ∧ if k = true then tc δ fun u => rd' y u Q else Q (.bool false)
theorem chd {K : PySem.W.Frag} {r r' : R2} {rd rd' : PyData → PyData → (PyData → Prop) → Prop} {ta tb tc : DT} (hd : OpD K r rd) (hd' : OpD K r' rd') : ∀ σ H Q, up K H0 O0 (dChain rd rd' ta tb tc) σ H Q → tChain r r' (upS K H0 O0 ta) (upS K H0 O0 tb) (upS K H0 O0 tc) σ H Q :=
 fun σ H Q ⟨O, δ, Qd, w, q, k⟩ => ⟨O, δ, _, w, q, fun x v H1 q1 s1 r1 => ⟨O, δ, _, w.mono s1, q1, fun y u H2 q2 s2 r2 => hd H2 O v u x y _ _ (w.mono (s1.trans s2)).trk (r1.mono s2) r2 q2 fun d z H3 ⟨c, e, q3⟩ s3 r3 => by
  subst e; cases r3
  refine ⟨c, rfl, ?_⟩
  cases c with
  | true => exact ⟨O, δ, _, w.mono (s1.trans (s2.trans s3)), q3, fun u' p H4 q4 s4 r4 => hd' H4 O u p y u' Qd _ (w.mono (s1.trans (s2.trans (s3.trans s4)))).trk (r2.mono (s3.trans s4)) r4 q4 fun d z H5 qd s5 r5 => k d z H5 qd (s1.trans (s2.trans (s3.trans (s4.trans s5)))) r5⟩
  | false => exact k _ _ H3 q3 (s1.trans (s2.trans s3)) (.bl false)⟩⟩
theorem de_chain {a b c : Expr} {ta tb tc : DT} {op op' : CmpOp} {r r' : R2} {rd rd' : PyData → PyData → (PyData → Prop) → Prop} {pos : Pos} (ho : OpR X (compareOp op) r) (ho' : OpR X (compareOp op') r') (hd : OpD X.K r rd) (hd' : OpD X.K r' rd') (ha : DF X H0 O0 a ta) (hb : DF X H0 O0 b tb) (hc : DF X H0 O0 c tc)
  (hm : lastMarks [op, op'] [b, c] = false := by with_unfolding_all rfl) : DE X H0 O0 (.Compare a [op, op'] [b, c] pos) (dChain rd rd' ta tb tc) := (pe_chain ho ho' ha hb hc hm).imp (chd hd hd')
theorem dt_chain {a b c : Expr} {ta tb tc : DT} {op op' : CmpOp} {r r' : R2} {rd rd' : PyData → PyData → (PyData → Prop) → Prop} {pos : Pos} (ho : OpR X (compareOp op) r) (ho' : OpR X (compareOp op') r') (hd : OpD X.K r rd) (hd' : OpD X.K r' rd') (ha : DF X H0 O0 a ta) (hb : DF X H0 O0 b tb) (hc : DF X H0 O0 c tc)
  (hm : lastMarks [op, op'] [b, c] = false := by with_unfolding_all rfl) : PT X (.Compare a [op, op'] [b, c] pos) (upT X.K H0 O0 (dTest (dChain rd rd' ta tb tc))) :=
 (pt_chain ho ho' ha hb hc hm).imp fun σ H Q ⟨O, δ, Qd, w, q, k⟩ => chd hd hd' σ H _ ⟨O, δ, _, w, q, fun d v H' ⟨b, e, qb⟩ s r => by subst e; cases r; exact ⟨b, rfl, k b H' qb s⟩⟩
def spD (K : PySem.W.Frag) (F : List PyData → (PyData → Prop) → Prop) : Sp := fun vs H Q _ => ∃ O ds Qd, (∀ l, O l → H l ≠ none) ∧ Dts K H O vs ds ∧ F ds Qd ∧ ∀ d v H', Qd d → Same H H' → Dt K H' O v d → Q v H'
def dCall (F : List PyData → (PyData → Prop) → Prop) (t : DA) : DT := fun δ Q => t δ fun ds => F ds Q
theorem dcall {K : PySem.W.Frag} {F : List PyData → (PyData → Prop) → Prop} {t : DA} {E : XK} : ∀ σ H Q, up K H0 O0 (dCall F t) σ H Q → tCall (spD K F) [] E (upA K H0 O0 t) σ H Q :=
 fun σ H Q ⟨O, δ, Qd, w, q, k⟩ => ⟨O, δ, _, w, q, fun ds vs H1 q1 s1 r1 => ⟨O, ds, Qd, (w.mono s1).trk, by rw [List.append_nil]; exact r1, q1, fun d v H2 q2 s2 r2 => k d v H2 q2 (s1.trans s2) r2⟩⟩
inductive Shs (K : PySem.W.Frag) (H : Hp) (O : Ex) : List V → List PyData → Prop
 | nil : Shs K H O [] []
 | cons {v : V} {d : PyData} {vs : List V} {ds : List PyData} : Sh K H O v d → Shs K H O vs ds → Shs K H O (v :: vs) (d :: ds)
def upB (K : PySem.W.Frag) (H0 : Hp) (O0 : Ex) (t : DA) : TA := fun σ H R => ∃ O δ Qd, Wd K H0 O0 H O σ δ ∧ t δ Qd ∧ ∀ ds vs H', Qd ds → Same H H' → Shs K H' O vs ds → R vs H'
theorem db_nil : PA X [] (upB X.K H0 O0 dNil) := pa_nil.imp fun σ H Q ⟨O, δ, Qd, w, q, k⟩ => k [] [] H q (Same.refl _) .nil
theorem db_cons {e : Expr} {es : List Expr} {t : DT} {u : DA} (h : DF X H0 O0 e t) (hs : PA X es (upB X.K H0 O0 u)) (he : starEach (e :: es) X.env = (false, eval e X.env) :: starEach es X.env := by rfl) : PA X (e :: es) (upB X.K H0 O0 (dCons t u)) :=
 (pa_cons h hs he).imp fun σ H Q ⟨O, δ, Qd, w, q, k⟩ => ⟨O, δ, _, w, q, fun d v H1 q1 s1 r1 => ⟨O, δ, _, w.mono s1, q1, fun ds vs H2 q2 s2 r2 => k (d :: ds) (v :: vs) H2 q2 (s1.trans s2) (.cons (r1.mono s2) r2)⟩⟩
def dCallS (F : List PyData → (PyData → Prop) → Prop) (t : DA) : DT := fun δ Q => t δ fun ds => F ds fun d => scalD d = true ∧ Q d
def CallD (K : PySem.W.Frag) (r : List V → Hp → VK → Prop) (rd : List PyData → (PyData → Prop) → Prop) : Prop :=
 ∀ (H : Hp) (O : Ex) (xs : List V) (ds : List PyData) (Qd : PyData → Prop) (R : VK), (∀ l, O l → H l ≠ none) → Shs K H O xs ds → rd ds Qd → (∀ d v H', Qd d → Same H H' → Dt K H' O v d → R v H') → r xs H R
theorem dcb {K : PySem.W.Frag} {r : List V → Hp → VK → Prop} {rd : List PyData → (PyData → Prop) → Prop} {t : DA} (hd : CallD K r rd) : ∀ σ H Q, up K H0 O0 (dCall rd t) σ H Q → tCB r (upB K H0 O0 t) σ H Q :=
 fun σ H Q ⟨O, δ, Qd, w, q, k⟩ => ⟨O, δ, _, w, q, fun ds vs H1 q1 s1 r1 => hd H1 O vs ds Qd _ (w.mono s1).trk r1 q1 fun d v H2 q2 s2 r2 => k d v H2 q2 (s1.trans s2) r2⟩
def dSeq (t u : DS) : DS := fun E δ => t { E with nx := u E } δ
theorem dss_cons {st : Stmt} {rest : List Stmt} {t u : DS} (h : PS X st (upD X.K H0 O0 t)) (h2 : PSs X rest (upD X.K H0 O0 u)) : PSs X (st :: rest) (upD X.K H0 O0 (dSeq t u)) :=
 (pss_cons h h2).imp fun D σ H ⟨O, δ, E, w, q, k1, k2, k3, k4⟩ => ⟨O, δ, _, w, q, fun O' δ' σ' H' z w' S => ⟨O', δ', E, w', z, fun O2 δ2 σ2 H2 z2 w2 S2 => k1 O2 δ2 σ2 H2 z2 w2 (S.trans S2), k2, fun O2 δ2 σ2 H2 z2 w2 S2 => k3 O2 δ2 σ2 H2 z2 w2 (S.trans S2), fun O2 δ2 σ2 H2 z2 w2 S2 => k4 O2 δ2 σ2 H2 z2 w2 (S.trans S2)⟩, k2, k3, k4⟩
def dNext : DS := fun E δ => E.nx δ
theorem dss_nil : PSs X [] (upD X.K H0 O0 dNext) := pss_nil.imp fun D σ H ⟨O, δ, E, w, q, k1, k2, k3, k4⟩ => k1 O δ σ H q w (Step.refl _ _)
theorem dss_one {st : Stmt} {t : DS} (h : PS X st (upD X.K H0 O0 t)) : PSs X [st] (upD X.K H0 O0 t) := pss_one h
def dSet (i : Nat) (t : DT) : DS := fun E δ => t δ fun d => E.nx (δ.set i (some (.v d)))
theorem ds_set {i : Nat} {x : Str} {e : Expr} {t : DT} {pos pos' : Pos} (hN : X.N.Nodup) (hi : X.N[i]? = some x) (hx : Loc X.env.scope x) (he : DE X H0 O0 e t) (hs : swapsWith e (some (.Name x pos')) pos.line X.env = pure false := by rfl) (hf : X.fn x = true ∨ X.env.scope.names.lookup x = some .local := by first | exact .inl rfl | exact .inr rfl | assumption) :
  PS X (.Assign [.Name x pos'] e pos) (upD X.K H0 O0 (dSet i t)) :=
 (ps_set hN hi hx he hs hf).imp fun D σ H ⟨O, δ, E, w, q, k1, k2, k3, k4⟩ => ⟨O, δ, _, w, q, fun d v H1 q1 s1 r1 => k1 O _ _ H1 q1 ((w.mono s1).set r1) (.same s1)⟩
def dRet (t : DT) : DS := fun E δ => t δ E.rt
theorem back {K : PySem.W.Frag} {H : Hp} {O : Ex} {σ : St} {δ : Dl} (w : Wd K H0 O0 H O σ δ) : Step H H O O0 := ⟨fun _ _ e _ => e, fun b _ n z => n (w.sub b z)⟩
theorem ds_ret {e : Expr} {t : DT} {pos : Pos} (he : DE X H0 O0 e t) : PS X (.Return (some e) pos) (upD X.K H0 O0 (dRet t)) :=
 (ps_ret he).imp fun D σ H ⟨O, δ, E, w, q, k1, k2, k3, k4⟩ => ⟨O, δ, _, w, q, fun d v H1 q1 s1 r1 => k2 d v H1 q1 (w.same.trans s1) (r1.step (back (w.mono s1)))⟩
def dRetO (i : Nat) : DS := fun E δ => ∃ ds, δ[i]? = some (some (.o ds)) ∧ E.rt (.list ds)
def dIfS (c : DB) (t u : DS) : DS := fun E δ => c δ fun b => if b = true then t E δ else u E δ
theorem ds_if {c : Expr} {a b : List Stmt} {tc : DB} {t u : DS} {pos : Pos} (hc : PT X c (upT X.K H0 O0 tc)) (ha : PSs X a (upD X.K H0 O0 t)) (hb : PSs X b (upD X.K H0 O0 u)) : PS X (.If c a b pos) (upD X.K H0 O0 (dIfS tc t u)) :=
 (ps_if hc ha hb).imp fun D σ H ⟨O, δ, E, w, q, k1, k2, k3, k4⟩ => ⟨O, δ, _, w, q, fun c H1 q1 s1 => by
  have g : ∀ {t' : DS}, t' E δ → upD X.K H0 O0 t' D σ H1 := fun z => ⟨O, δ, E, w.mono s1, z, fun O2 δ2 σ2 H2 z2 w2 S2 => k1 O2 δ2 σ2 H2 z2 w2 (Step.trans (.same s1) S2), k2, fun O2 δ2 σ2 H2 z2 w2 S2 => k3 O2 δ2 σ2 H2 z2 w2 (Step.trans (.same s1) S2), fun O2 δ2 σ2 H2 z2 w2 S2 => k4 O2 δ2 σ2 H2 z2 w2 (Step.trans (.same s1) S2)⟩
  cases c with
  | true => exact g q1
  | false => exact g q1⟩
def dDrop (t : DT) : DS := fun E δ => t δ fun _ => E.nx δ
def upF (K : PySem.W.Frag) (H0 : Hp) (O0 : Ex) (t : DA) : TE := fun σ H R => ∃ O δ Qd, Wd K H0 O0 H O σ δ ∧ t δ Qd ∧ ∀ ds vs p H', Qd ds → Same H H' → H' p = none → Dts K H' O vs ds → R (.ref p) (upd H' p (.lst vs))
abbrev FE (X : Cx) (H0 : Hp) (O0 : Ex) (e : Expr) (t : DA) : Prop := PE X e (upF X.K H0 O0 t)
def dL (t : DA) : DT := fun δ Q => t δ fun ds => Q (.list ds)
theorem fe {e : Expr} {t : DA} (h : FE X H0 O0 e t) : DE X H0 O0 e (dL t) :=
 h.imp fun σ H Q ⟨O, δ, Qd, w, q, k⟩ => ⟨O, δ, _, w, q, fun ds vs p H1 q1 s1 hp r1 => k _ _ _ q1 (s1.trans (Same.new hp)) (.lst (.inl upd_same) (nex w s1 hp) (r1.mono (Same.new hp)))⟩
def dFin (t : DA) : DA := fun δ Q => t δ fun ds => ds.length ≤ sizeLine ∧ Q ds
theorem fe_lst {es : List Expr} {t : DA} {pos : Pos} (h : PA X es (upA X.K H0 O0 t)) : FE X H0 O0 (.List es pos) (dFin t) :=
 (pe_lst h).imp fun σ H Q ⟨O, δ, Qd, w, q, k⟩ => ⟨O, δ, _, w, q, fun ds vs H1 q1 s1 r1 => ⟨by rw [r1.length]; exact q1.1, fun p hp => k _ _ _ _ q1.2 s1 hp r1⟩⟩
def dNew (i : Nat) (t : DA) : DS := fun E δ => t δ fun ds => E.nx (δ.set i (some (.o ds)))
theorem ds_new {i : Nat} {x : Str} {e : Expr} {t : DA} {pos pos' : Pos} (hN : X.N.Nodup) (hi : X.N[i]? = some x) (hx : Loc X.env.scope x) (he : FE X H0 O0 e t) (hs : swapsWith e (some (.Name x pos')) pos.line X.env = pure false := by rfl) (hf : X.fn x = true ∨ X.env.scope.names.lookup x = some .local := by first | exact .inl rfl | exact .inr rfl | assumption) :
  PS X (.Assign [.Name x pos'] e pos) (upD X.K H0 O0 (dNew i t)) :=
 (ps_set hN hi hx he hs hf).imp fun D σ H ⟨O, δ, E, w, q, k1, k2, k3, k4⟩ => ⟨O, δ, _, w, q, fun ds vs p H1 q1 s1 hp r1 => k1 _ _ _ _ q1 ((w.mono s1).setO hp r1)
  ⟨fun b o e _ => (s1.trans (Same.new hp)) b o e, fun b e n z => z.elim n fun y => by
   cases q : H b with
   | none => exact e q
   | some o => have := s1 _ _ q; rw [y, hp] at this; cases this⟩⟩
def dApp (i : Nat) (t : DT) : DS := fun E δ => ∃ ds, δ[i]? = some (some (.o ds)) ∧ t δ fun d => ds.length < sizeLine ∧ E.nx (δ.set i (some (.o (ds ++ [d]))))
theorem ds_app {i : Nat} {o e : Expr} {t : DT} {apos cpos pos : Pos} (ho : PE X o (tVar i)) (he : DE X H0 O0 e t) (hbase : attributeBase o "append" X.env (eval o X.env) = eval o X.env := by rfl)
  (hfew : ((backTo cpos (starEach [e] X.env)).all (fun x => !x.1) && (backToKw cpos (keywordEach [] X.env)).all (fun x => x.1.isSome) && decide ([e].length + ([] : List Keyword).length + (if ([] : List Keyword).isEmpty then 0 else 1) < 30)) = true := by rfl)
  (hline : (apos.endLine == cpos.line) = true := by rfl) (hst : starEach [e] X.env = (false, eval e X.env) :: starEach [] X.env := by rfl) (hplain : (backTo cpos (starEach [] X.env)).any (·.1) = false := by rfl)
  (hs : swapsWith (.Call (.Attribute o "append" apos) [e] [] cpos) none pos.line X.env = pure false := by rfl) : PS X (.Expr (.Call (.Attribute o "append" apos) [e] [] cpos) pos) (upD X.K H0 O0 (dApp i t)) :=
 (ps_expr (pe_bm PySem.F.plainAttrs_list PySem.F.slot_list_append PySem.F.type_list_append mt_append ho (pa_cons he pa_nil hst) hbase hfew hline hst hplain) hs).imp fun D σ H ⟨O, δ, E, w, ⟨ds, e, q⟩, k1, k2, k3, k4⟩ => by
  obtain ⟨l, vs, h, a, b, c, r⟩ := w.own e
  refine ⟨_, h, .inl ⟨rfl, _, SqL.of c⟩, O, δ, _, w, q, fun d v H1 q1 s1 r1 => ?_⟩
  refine ⟨l, vs, v, rfl, rfl, s1 _ _ c, by rw [r.length]; exact q1.1, ?_⟩
  exact k1 _ _ _ _ q1.2 ((w.mono s1).putO (vs := vs) e h ((r.mono s1).append (.cons r1 .nil))) ⟨fun b' o' z n => by rw [upd_ne (fun y => n (by rw [y]; exact a))]; exact s1 _ _ z, fun _ _ n => n⟩
end
end L2

namespace L2
open PySem PySem.Spec PyProof.Rows PySem.W
structure SrcP (J : It) (P : Hp → Prop) (vs : List V) : Prop where
 go : ∀ i H', P H' → i < vs.length → J.go i H'
 yl : ∀ i H' x H'', P H' → i < vs.length → J.yld i H' x H'' → H'' = H' ∧ vs[i]? = some x
 st : ∀ i H', P H' → vs.length ≤ i → J.stop i H'
def KeepA (H1 : Hp) (a : Addr) (H' : Hp) : Prop := ∀ o, H1 a = some o → H' a = some o
theorem SqL.keep {K : PySem.W.Frag} {H H' : Hp} {a : Addr} {xs : List V} (s : KeepA H a H') (h : SqL K H a xs) : SqL K H' a xs := by
 rcases h with (h | ⟨o, h⟩) | h
 ·exact .inl (.inl (s _ h))
 ·exact .inl (.inr ⟨o, s _ h⟩)
 ·exact .inr h
theorem SqT.keep {K : PySem.W.Frag} {H H' : Hp} {a : Addr} {xs : List V} (s : KeepA H a H') (h : SqT K H a xs) : SqT K H' a xs := by
 rcases h with (h | ⟨o, h⟩) | h
 ·exact .inl (.inl (s _ h))
 ·exact .inl (.inr ⟨o, s _ h⟩)
 ·exact .inr h
theorem SrcP.list {K : PySem.W.Frag} {H : Hp} {a : Addr} {vs : List V} (h : SqL K H a vs) : SrcP (Itl K a) (KeepA H a) vs :=
 ⟨fun i H' s hi => ⟨vs, vs[i], h.keep s, by simp [hi]⟩, fun i H' x H'' s _ y => ⟨y.1, y.2 vs (h.keep s)⟩, fun i H' s hi => ⟨vs, h.keep s, hi⟩⟩
theorem SrcP.tup {K : PySem.W.Frag} {H : Hp} {a : Addr} {vs : List V} (h : SqT K H a vs) : SrcP (Itt K a) (KeepA H a) vs :=
 ⟨fun i H' s hi => ⟨vs, vs[i], h.keep s, by simp [hi]⟩, fun i H' x H'' s _ y => ⟨y.1, y.2 vs (h.keep s)⟩, fun i H' s hi => ⟨vs, h.keep s, hi⟩⟩
def rangeD (lo : Int) (n : Nat) : List PyData := (List.range n).map fun (k : Nat) => .int (lo + k)
theorem SrcP.rng {lo : Int} {n : Nat} : SrcP (Itr lo n) (fun _ => True) ((List.range n).map fun (k : Nat) => V.int (lo + k)) := by
 refine ⟨fun i H' s hi => (by simpa using hi : i < n), fun i H' x H'' s hi y => ⟨y.1, ?_⟩, fun i H' s hi => (by simpa using hi : n ≤ i)⟩
 obtain ⟨_, rfl⟩ := y
 have hn : i < n := by simpa using hi
 simp [hn]
theorem Dts.rng {K : PySem.W.Frag} {H : Hp} {O : Ex} {lo : Int} : ∀ (l : List Nat), Dts K H O (l.map fun (k : Nat) => V.int (lo + k)) (l.map fun (k : Nat) => PyData.int (lo + k))
 | [] => .nil
 | n :: r => .cons (.int _) (Dts.rng r)
abbrev DG := PyData → Dl → (Dl → Prop) → Prop
def GD (K : PySem.W.Frag) (g : TG) (dg : DG) : Prop := ∀ (H0 : Hp) (O0 : Ex) (H : Hp) (O : Ex) (σ : St) (δ : Dl) (v : V) (x : PyData) (R : St → Hp → Prop) (Qd : Dl → Prop), Wd K H0 O0 H O σ δ → Dt K H O v x → dg x δ Qd → (∀ δ' σ', Qd δ' → Wd K H0 O0 H O σ' δ' → R σ' H) → g v σ H R
def dgName (i : Nat) : DG := fun x δ Q => Q (δ.set i (some (.v x)))
theorem gd_name {K : PySem.W.Frag} {i : Nat} : GD K (gName i) (dgName i) := fun H0 O0 H O σ δ v x R Qd w r q k => k _ _ q (w.set r)
abbrev DGs := List PyData → Dl → (Dl → Prop) → Prop
def GDs (K : PySem.W.Frag) (g : TGs) (dg : DGs) : Prop := ∀ (H0 : Hp) (O0 : Ex) (H : Hp) (O : Ex) (σ : St) (δ : Dl) (vs : List V) (xs : List PyData) (R : St → Hp → Prop) (Qd : Dl → Prop), Wd K H0 O0 H O σ δ → Dts K H O vs xs → dg xs δ Qd → (∀ δ' σ', Qd δ' → Wd K H0 O0 H O σ' δ' → R σ' H) → g vs σ H R
def dgNil : DGs := fun xs δ Q => xs = [] ∧ Q δ
def dgCons (t : DG) (u : DGs) : DGs := fun xs δ Q => ∃ x r, xs = x :: r ∧ t x δ fun δ' => u r δ' Q
theorem gds_nil {K : PySem.W.Frag} : GDs K gNil dgNil := fun H0 O0 H O σ δ vs xs R Qd w r ⟨e, q⟩ k => by subst e; cases r; exact ⟨rfl, k _ _ q w⟩
theorem gds_cons {K : PySem.W.Frag} {t : TG} {u : TGs} {dt : DG} {du : DGs} (h : GD K t dt) (h2 : GDs K u du) : GDs K (gCons t u) (dgCons dt du) := fun H0 O0 H O σ δ vs xs R Qd w r ⟨x, rr, e, q⟩ k => by
 subst e
 cases r with
 | cons r1 r2 => exact ⟨_, _, rfl, h H0 O0 H O σ δ _ _ _ _ w r1 q fun δ' σ' q' w' => h2 H0 O0 H O σ' δ' _ _ R Qd w' r2 q' k⟩
def dgTup (n : Nat) (t : DGs) : DG := fun x δ Q => ∃ xs, x = .tuple xs ∧ xs.length = n ∧ t xs δ Q
theorem gd_tup {K : PySem.W.Frag} {n : Nat} {t : TGs} {dt : DGs} (h : GDs K t dt) : GD K (gTup K n t) (dgTup n dt) := fun H0 O0 H O σ δ v x R Qd w r ⟨xs, e, hl, q⟩ k => by
 subst e
 obtain ⟨a, vs, rfl, hs, rr⟩ := (Sh.dt r).tup
 exact ⟨a, vs, rfl, hs, by rw [rr.length]; exact hl, h H0 O0 H O σ δ _ _ R Qd w rr q k⟩
section
variable {X : Cx} {H0 : Hp} {O0 : Ex}
def dAsg (t : DT) (g : DG) : DS := fun E δ => t δ fun d => g d δ E.nx
theorem ds_asg {tg e : Expr} {t : DT} {g : TG} {dg : DG} {pos : Pos} (he : DE X H0 O0 e t) (hg : PG X tg g) (gd : GD X.K g dg) (hs : swapsWithSole [tg] e pos.line X.env = pure false := by rfl) (hw : swappedStores [tg] e X.env = pure none := by rfl)
  (h1 : (assignEach [tg] X.env).map (·.2) = [assign tg X.env] := by rfl) : PS X (.Assign [tg] e pos) (upD X.K H0 O0 (dAsg t dg)) :=
 (ps_asg he hg hs hw h1).imp fun D σ H ⟨O, δ, E, w, q, k1, k2, k3, k4⟩ => ⟨O, δ, _, w, q, fun d v H1 q1 s1 r1 => gd H0 O0 H1 O σ δ v d _ _ (w.mono s1) r1 q1 fun δ' σ' q' w' => k1 O δ' σ' H1 q' w' (.same s1)⟩
def dPar (i j : Nat) (t : DA) : DS := fun E δ => t δ fun ds => ∃ x y, ds = [x, y] ∧ E.nx ((δ.set i (some (.v x))).set j (some (.v y)))
theorem ds_par {i j : Nat} {x y : Str} {a b : Expr} {ta : DA} {px py pt pos : Pos} {kt k2 pt2} (hc : X.calm = true) (hN : X.N.Nodup) (hi : X.N[i]? = some x) (hj : X.N[j]? = some y) (hij : i ≠ j)
  (hx : X.env.scope.names.lookup x = some .local) (hy : X.env.scope.names.lookup y = some .local) (ha : PA X [a, b] (upA X.K H0 O0 ta))
  (hw : swappedStores [.Tuple [.Name x px, .Name y py] kt pt] (.Tuple [a, b] k2 pt2) X.env = pure (some [x, y]))
  (hs : swapsWithSole [.Tuple [.Name x px, .Name y py] kt pt] (.Tuple [a, b] k2 pt2) pos.line X.env = pure false := by rfl) :
  PS X (.Assign [.Tuple [.Name x px, .Name y py] kt pt] (.Tuple [a, b] k2 pt2) pos) (upD X.K H0 O0 (dPar i j ta)) :=
 (ps_par hc hN hi hj hij hx hy ha hw hs).imp fun D σ H ⟨O, δ, E, w, q, k1, k2, k3, k4⟩ => ⟨O, δ, _, w, q, fun ds vs H1 ⟨d1, d2, e, q1⟩ s1 r1 => by
  subst e
  cases r1 with
  | cons r1 r2 =>
   cases r2 with
   | cons r2 r3 =>
    cases r3
    exact ⟨_, _, rfl, k1 _ _ _ _ q1 (((w.mono s1).set r1).set r2) (.same s1)⟩⟩
def forW (g : DG) (tb : DS) (E : DEnds) : List PyData → Dl → Prop
 | [], δ => E.nx δ
 | x :: xs, δ => g x δ fun δ2 => tb { E with nx := forW g tb E xs, ct := forW g tb E xs, bk := E.nx } δ2
theorem for_step {K : PySem.W.Frag} {J : It} {P : Hp → Prop} {vs : List V} {xs : List PyData} {g : TG} {dg : DG} {tb : DS} {D : Ends} {E : DEnds} {σ : St} {H : Hp} {O : Ex} {δ : Dl} (S : SrcP J P vs) (gd : GD K g dg)
  (hP : ∀ H' O', Step H H' O O' → P H') (r : Dts K H O vs xs) (w : Wd K H0 O0 H O σ δ) (q : forW dg tb E xs δ)
  (k1 : ∀ O' δ' σ' H', E.nx δ' → Wd K H0 O0 H' O' σ' δ' → Step H H' O O' → D.nx σ' H') (k2 : ∀ d v H', E.rt d → Same H0 H' → Dt K H' O0 v d → D.rt v H') : FR J g (upD K H0 O0 tb) D σ H := by
 refine ⟨fun i m σ' H' => ∃ O' δ', m = vs.length - i ∧ i ≤ vs.length ∧ Wd K H0 O0 H' O' σ' δ' ∧ Step H H' O O' ∧ forW dg tb E (xs.drop i) δ', ⟨vs.length, O, δ, by simp, Nat.zero_le _, w, Step.refl _ _, by simpa using q⟩, ?_⟩
 rintro i m σ1 H1 ⟨O1, δ1, rfl, hi, w1, S1, q1⟩
 by_cases hlt : i < vs.length
 ·refine .inr ⟨S.go i H1 (hP _ _ S1) hlt, fun σ' H' => ∃ O' δ', Wd K H0 O0 H' O' σ' δ' ∧ Step H H' O O' ∧ forW dg tb E (xs.drop (i + 1)) δ', fun σ' H' ⟨O', δ', w', S', q'⟩ => ⟨vs.length - (i + 1), by omega, O', δ', rfl, hlt, w', S', q'⟩, fun x H' y => ?_⟩
  have yy := S.yl i H1 x H' (hP _ _ S1) hlt y
  clear y
  obtain ⟨e, y⟩ := yy
  subst e
  obtain ⟨d, ed, rd⟩ := r.get y
  have hd : xs.drop i = d :: xs.drop (i + 1) := by
   rw [List.drop_eq_getElem_cons (h := (List.getElem?_eq_some_iff.mp ed).1), (List.getElem?_eq_some_iff.mp ed).2]
  rw [hd] at q1
  refine gd H0 O0 _ O1 σ1 δ1 x d _ _ w1 (rd.step S1) q1 fun δ2 σ2 q2 w2 => ?_
  refine ⟨O1, δ2, _, w2, q2, fun O' δ' σ' H' z w' S' => ⟨O', δ', w', S1.trans S', z⟩, k2, fun O' δ' σ' H' z w' S' => k1 O' δ' σ' H' z w' (S1.trans S'), fun O' δ' σ' H' z w' S' => ⟨O', δ', w', S1.trans S', z⟩⟩
 ·have e : i = vs.length := by omega
  subst e
  refine .inl ⟨S.st _ H1 (hP _ _ S1) (Nat.le_refl _), ?_⟩
  rw [r.length, List.drop_of_length_le (Nat.le_refl _)] at q1
  exact k1 O1 δ1 σ1 H1 q1 w1 S1
def forI (g : DG) (tb : DS) (E : DEnds) (xs : List PyData) (δ : Dl) : Prop := ∃ I : Nat → Dl → Prop, I 0 δ ∧ (∀ i x δ, xs[i]? = some x → I i δ → g x δ fun δ2 => tb { E with nx := I (i + 1), ct := I (i + 1), bk := E.nx } δ2) ∧ ∀ δ, I xs.length δ → E.nx δ
theorem for_stepI {K : PySem.W.Frag} {J : It} {P : Hp → Prop} {vs : List V} {xs : List PyData} {g : TG} {dg : DG} {tb : DS} {D : Ends} {E : DEnds} {σ : St} {H : Hp} {O : Ex} {δ : Dl} (S : SrcP J P vs) (gd : GD K g dg)
  (hP : ∀ H' O', Step H H' O O' → P H') (r : Dts K H O vs xs) (w : Wd K H0 O0 H O σ δ) (q : forI dg tb E xs δ)
  (k1 : ∀ O' δ' σ' H', E.nx δ' → Wd K H0 O0 H' O' σ' δ' → Step H H' O O' → D.nx σ' H') (k2 : ∀ d v H', E.rt d → Same H0 H' → Dt K H' O0 v d → D.rt v H') : FR J g (upD K H0 O0 tb) D σ H := by
 obtain ⟨Iv, q0, qs, qe⟩ := q
 refine ⟨fun i m σ' H' => ∃ O' δ', m = vs.length - i ∧ i ≤ vs.length ∧ Wd K H0 O0 H' O' σ' δ' ∧ Step H H' O O' ∧ Iv i δ', ⟨vs.length, O, δ, by simp, Nat.zero_le _, w, Step.refl _ _, q0⟩, ?_⟩
 rintro i m σ1 H1 ⟨O1, δ1, rfl, hi, w1, S1, q1⟩
 by_cases hlt : i < vs.length
 ·refine .inr ⟨S.go i H1 (hP _ _ S1) hlt, fun σ' H' => ∃ O' δ', Wd K H0 O0 H' O' σ' δ' ∧ Step H H' O O' ∧ Iv (i + 1) δ', fun σ' H' ⟨O', δ', w', S', q'⟩ => ⟨vs.length - (i + 1), by omega, O', δ', rfl, hlt, w', S', q'⟩, fun x H' y => ?_⟩
  have yy := S.yl i H1 x H' (hP _ _ S1) hlt y
  clear y
  obtain ⟨e, y⟩ := yy
  subst e
  obtain ⟨d, ed, rd⟩ := r.get y
  refine gd H0 O0 _ O1 σ1 δ1 x d _ _ w1 (rd.step S1) (qs i d δ1 ed q1) fun δ2 σ2 q2 w2 => ?_
  refine ⟨O1, δ2, _, w2, q2, fun O' δ' σ' H' z w' S' => ⟨O', δ', w', S1.trans S', z⟩, k2, fun O' δ' σ' H' z w' S' => k1 O' δ' σ' H' z w' (S1.trans S'), fun O' δ' σ' H' z w' S' => ⟨O', δ', w', S1.trans S', z⟩⟩
 ·have e : i = vs.length := by omega
  subst e
  refine .inl ⟨S.st _ H1 (hP _ _ S1) (Nat.le_refl _), ?_⟩
  rw [r.length] at q1
  exact k1 O1 δ1 σ1 H1 (qe δ1 q1) w1 S1
def dFor (t : DT) (g : DG) (tb : DS) : DS := fun E δ => t δ fun d => ∃ xs, d = .list xs ∧ forW g tb E xs δ
def dForT (t : DT) (g : DG) (tb : DS) : DS := fun E δ => t δ fun d => ∃ xs, d = .tuple xs ∧ forW g tb E xs δ
def dForR (t : DA) (g : DG) (tb : DS) : DS := fun E δ => t δ fun ds => ∃ j : Int, ds = [.int j] ∧ -(2 ^ 62) ≤ j ∧ j < 2 ^ 62 ∧ forW g tb E (rangeD 0 j.toNat) δ
def dForR2 (t : DA) (g : DG) (tb : DS) : DS := fun E δ => t δ fun ds => ∃ i j : Int, ds = [.int i, .int j] ∧ (-(2 ^ 62) ≤ i ∧ i < 2 ^ 62 ∧ -(2 ^ 62) ≤ j ∧ j < 2 ^ 62) ∧ forW g tb E (rangeD i (j - i).toNat) δ
section
variable {tg iter : Expr} {body : List Stmt} {t : DT} {ta : DA} {g : TG} {dg : DG} {tb : DS} {pos p ps : Pos}
end
def dForI (t : DT) (g : DG) (tb : DS) : DS := fun E δ => t δ fun d => ∃ xs, d = .list xs ∧ forI g tb E xs δ
def dForTI (t : DT) (g : DG) (tb : DS) : DS := fun E δ => t δ fun d => ∃ xs, d = .tuple xs ∧ forI g tb E xs δ
def dForRI (t : DA) (g : DG) (tb : DS) : DS := fun E δ => t δ fun ds => ∃ j : Int, ds = [.int j] ∧ -(2 ^ 62) ≤ j ∧ j < 2 ^ 62 ∧ forI g tb E (rangeD 0 j.toNat) δ
def dForR2I (t : DA) (g : DG) (tb : DS) : DS := fun E δ => t δ fun ds => ∃ i j : Int, ds = [.int i, .int j] ∧ (-(2 ^ 62) ≤ i ∧ i < 2 ^ 62 ∧ -(2 ^ 62) ≤ j ∧ j < 2 ^ 62) ∧ forI g tb E (rangeD i (j - i).toNat) δ
section
variable {tg iter : Expr} {body : List Stmt} {t : DT} {ta : DA} {g : TG} {dg : DG} {tb : DS} {pos p ps : Pos}
theorem ds_forRI (hp : PassesOwn (model X.prog X.w) X.A X.env X.xe) (hc : X.calm = true) {a : Expr} (hgl : Gl X "range") (hm : X.mg "range" = none) (ha : PA X [a] (upA X.K H0 O0 ta)) (hg : PG X tg g) (gd : GD X.K g dg) (hb : PSs X body (upD X.K H0 O0 tb))
  (hst : starEach [a] X.env = [(false, eval a X.env)] := by rfl) (hs : ∀ x, foldedSetIterable (.Call (.Name "range" p) [a] [] ps) X.env x = pure x := by intro _; rfl) :
  PS X (.For tg (.Call (.Name "range" p) [a] [] ps) body [] pos) (upD X.K H0 O0 (dForRI ta dg tb)) :=
 (ps_for hp hc (pi_range1 hgl hm ha hst) hg hb hs).imp fun D σ H ⟨O, δ, E, w, q, k1, k2, k3, k4⟩ => ⟨O, δ, _, w, q, fun ds vs H1 ⟨j, e, b1, b2, q1⟩ s1 r1 => by
  subst e
  cases r1 with
  | cons r1 r2 =>
   cases r2; cases r1
   exact ⟨j, rfl, b1, b2, for_stepI SrcP.rng gd (fun _ _ _ => trivial) (Dts.rng _) (w.mono s1) q1 (fun O' δ' σ' H' z w' S => k1 O' δ' σ' H' z w' (Step.trans (.same s1) S)) k2⟩⟩
end
def dFrz (i : Nat) (t : DS) : DS := fun E δ => ∃ ds, δ[i]? = some (some (.o ds)) ∧ t E (δ.set i (some (.v (.list ds))))
def dst0 (k : Nat) (fr : List Nat) (δ : Dl) : Dl := List.replicate k none ++ fr.map fun j => (δ[j]?).join
def compW (g : DG) (tc : DB) (te : DT) (δ0 : Dl) : List PyData → List PyData → (List PyData → Prop) → Prop
 | [], acc, Q => Q acc
 | x :: xs, acc, Q => g x δ0 fun δ2 => tc δ2 fun ok => if ok = true then te δ2 fun y => compW g tc te δ0 xs (acc ++ [y]) Q else compW g tc te δ0 xs acc Q
theorem Wd.comp {K : PySem.W.Frag} {H : Hp} {O : Ex} {σ : St} {δ : Dl} (w : Wd K H0 O0 H O σ δ) {k : Nat} {fr : List Nat} (hf : fr.Nodup) : Wd K H0 O0 H O (st0 k fr σ) (dst0 k fr δ) := by
 have at1 : ∀ {α : Type} (l : List (Option α)) (i : Nat), (List.replicate k none ++ fr.map fun j => (l[j]?).join)[i]? = if i < k then some none else (fr[i - k]?).map fun j => (l[j]?).join := by
  intro α l i
  by_cases h : i < k
  ·rw [if_pos h, List.getElem?_append_left (by simpa using h), List.getElem?_replicate, if_pos h]
  ·rw [if_neg h, List.getElem?_append_right (by simpa using Nat.le_of_not_lt h), List.getElem?_map]; simp
 have un : ∀ {α : Type} (l : List (Option α)) (i : Nat) (x : α), (List.replicate k none ++ fr.map fun j => (l[j]?).join)[i]? = some (some x) → ∃ j, fr[i - k]? = some j ∧ k ≤ i ∧ l[j]? = some (some x) := by
  intro α l i x h
  rw [at1] at h
  split at h
  ·cases h
  ·cases e : fr[i - k]? with
   | none => rw [e] at h; cases h
   | some j =>
    rw [e] at h
    refine ⟨j, rfl, by omega, ?_⟩
    have h' : (l[j]?).join = some x := Option.some.inj h
    cases q : l[j]? with
    | none => rw [q] at h'; cases h'
    | some o => rw [q] at h'; rw [show o = some x from h']
 refine ⟨w.same, w.sub, w.new, w.trk, by simp [st0, dst0], fun i y e => ?_, fun i j y z l e1 y1 e2 z2 e3 e4 => ?_⟩
 ·match y, e with
  | none, _ => exact True.intro
  | some x, e =>
   obtain ⟨j, hj, hk, ej⟩ := un δ i x e
   have q := w.sl j _ ej
   have e2 : ((st0 k fr σ)[i]?).join = (σ[j]?).join := by
    unfold st0; rw [at1, if_neg (by omega), hj]; rfl
   rw [e2]; exact q
 ·obtain ⟨a, ha, ka, ea⟩ := un δ i _ e1
  obtain ⟨b, hb, kb, eb⟩ := un δ j _ e2
  obtain ⟨a', ha', _, ea'⟩ := un σ i _ e3
  obtain ⟨b', hb', _, eb'⟩ := un σ j _ e4
  rw [ha] at ha'; cases ha'
  rw [hb] at hb'; cases hb'
  have := w.dis a b y z l ea y1 eb z2 ea' eb'
  subst this
  have e5 := (List.getElem?_inj (l := fr) (i := i - k) (j := j - k) (List.getElem?_eq_some_iff.mp ha).1 hf).mp (by rw [ha, hb])
  omega
theorem comp_step {K : PySem.W.Frag} {J : It} {P : Hp → Prop} {vs : List V} {xs : List PyData} {g : TG} {dg : DG} {tc : TT} {dc : DB} {te : TE} {de : DT} {k : Nat} {fr : List Nat} {σ : St} {H : Hp} {O : Ex} {δ : Dl} {Qd : List PyData → Prop} {Q : VK} (S : SrcP J P vs) (gd : GD K g dg) (hf : fr.Nodup)
  (hk : ∀ v : V, ∀ σ' : St, ∀ H' : Hp, ∀ R : St → Hp → Prop, g v (st0 k fr σ) H' R → g v (st0 k fr σ) H' fun σ2 H2 => Keep (st0 k fr σ) σ2 ∧ R σ2 H2)
  (hc : ∀ σ H Q, upT K H0 O0 dc σ H Q → tc σ H Q) (he : ∀ σ H Q, up K H0 O0 de σ H Q → te σ H Q)
  (hP : ∀ D H', H D = none → SameE D H H' → P H') (r : Dts K H O vs xs) (w : Wd K H0 O0 H O σ δ) (hz : vs.length ≤ sizeLine) (q : compW dg dc de (dst0 k fr δ) xs [] Qd)
  (k1 : ∀ ds us p H', Qd ds → Same H H' → H' p = none → Dts K H' O us ds → Q (.ref p) (upd H' p (.lst us))) : CmR J g tc te k fr σ H Q := by
 intro D hD
 have w0 : Wd K H0 O0 H O (st0 k fr σ) (dst0 k fr δ) := w.comp hf
 have nD : ¬ O D := fun z => w.trk D z hD
 have D0 : H0 D = none := by
  cases e : H0 D with
  | none => rfl
  | some o => rw [w.same _ _ e] at hD; cases hD
 -- with D excluded
 have ex : ∀ H', SameE D H H' → H' D ≠ none → Wd K H0 O0 H' (fun a => O a ∨ a = D) (st0 k fr σ) (dst0 k fr δ) := fun H' s' hd => by
  have S' : Step H H' O (fun a => O a ∨ a = D) := ⟨fun b o e _ => s' b o e (ne_of_none e hD), fun b hb hn z => z.elim hn fun q => hb (by rw [q]; exact hD)⟩
  refine ⟨fun b o e => s' b o (w.same b o e) (fun z => by rw [z, D0] at e; cases e), fun l z => .inl (w.sub l z), fun l z => z.elim (w.new l) fun q => .inr (by rw [q]; exact D0), fun l z => ?_, w0.len, fun j y e => ?_, w0.dis⟩
  ·by_cases ql : l = D
   ·rw [ql]; exact hd
   ·have hl := w.trk l (z.resolve_right ql)
    cases e : H l with
    | none => exact absurd e hl
    | some o => rw [s' l o e ql]; exact fun z => nomatch z
  ·exact (w0.sl j y e).go S' fun l o _ _ a1 _ a3 => ⟨.inl a1, s' _ _ a3 (fun z => nD (by rw [← z]; exact a1))⟩
 refine ⟨fun i m H' => ∃ acc ys, m = vs.length - i ∧ i ≤ vs.length ∧ SameE D H H' ∧ H' D = some (.lst ys) ∧ ys.length ≤ i ∧ Dts K H' (fun a => O a ∨ a = D) ys acc ∧ compW dg dc de (dst0 k fr δ) (xs.drop i) acc Qd, ⟨vs.length, [], [], by simp, Nat.zero_le _, fun b o e n => by rw [upd_ne n]; exact e, upd_same, Nat.zero_le _, .nil, by simpa using q⟩, ?_⟩
 rintro i m H1 ⟨acc, ys, rfl, hi, s1, e1, hy, ra, q1⟩
 by_cases hlt : i < vs.length
 ·refine .inr ⟨S.go i H1 (hP D H1 hD s1) hlt, fun x H' y => ?_⟩
  have yy := S.yl i H1 x H' (hP D H1 hD s1) hlt y
  clear y
  obtain ⟨e, y⟩ := yy
  subst e
  obtain ⟨d, ed, rd⟩ := r.get y
  have hd : xs.drop i = d :: xs.drop (i + 1) := by
   rw [List.drop_eq_getElem_cons (h := (List.getElem?_eq_some_iff.mp ed).1), (List.getElem?_eq_some_iff.mp ed).2]
  rw [hd] at q1
  have w1 := ex _ s1 (by rw [e1]; exact fun z => nomatch z)
  have S' : Step H H' O (fun a => O a ∨ a = D) := ⟨fun b o e _ => s1 b o e (ne_of_none e hD), fun b hb hn z => z.elim hn fun q => hb (by rw [q]; exact hD)⟩
  refine hk x σ _ _ (gd H0 O0 _ _ _ _ x d _ _ w1 (rd.step S') q1 fun δ2 σ2 q2 w2 => ?_)
  refine hc σ2 _ _ ⟨_, δ2, _, w2, q2, fun ok H3 q3 s3 => ?_⟩
  cases ok with
  | true =>
   rw [if_pos rfl]
   refine he σ2 H3 _ ⟨_, δ2, _, w2.mono s3, q3, fun d' v H4 q4 s4 r4 => ?_⟩
   have e4 := s4 _ _ (s3 _ _ e1)
   have sD : Step H4 (upd H4 D (.lst (ys ++ [v]))) (fun a => O a ∨ a = D) (fun a => O a ∨ a = D) := ⟨fun b o e n => by rw [upd_ne (fun z => n (.inr z))]; exact e, fun _ _ n => n⟩
   refine ⟨ys, e4, by omega, vs.length - (i + 1), by omega, acc ++ [d'], ys ++ [v], rfl, hlt, fun b o e n => by rw [upd_ne n]; exact s4 _ _ (s3 _ _ (s1 b o e n)), upd_same, by simpa using hy, ?_, q4⟩
   exact ((ra.mono (s3.trans s4)).append (.cons r4 .nil)).step sD
  | false =>
   rw [if_neg (by decide)]
   exact ⟨vs.length - (i + 1), by omega, acc, ys, rfl, hlt, fun b o e n => s3 _ _ (s1 b o e n), s3 _ _ e1, by omega, ra.mono s3, q3⟩
 ·have e : i = vs.length := by omega
  subst e
  refine .inl ⟨S.st _ H1 (hP D H1 hD s1) (Nat.le_refl _), ?_⟩
  rw [r.length, List.drop_of_length_le (Nat.le_refl _)] at q1
  -- the list D, new over the rest
  have hrest : ∃ H2 : Hp, H2 D = none ∧ Same H H2 ∧ H1 = upd H2 D (.lst ys) := by
   refine ⟨fun b => if b = D then none else H1 b, by simp, fun b o e => ?_, ?_⟩
   ·have n := ne_of_none e hD
    show (if b = D then none else H1 b) = some o
    rw [if_neg n]; exact s1 b o e n
   ·funext b
    by_cases z : b = D
    ·rw [z, upd_same]; exact e1
    ·rw [upd_ne z]; show H1 b = if b = D then none else H1 b; rw [if_neg z]
  obtain ⟨H2, h2, s2, rfl⟩ := hrest
  refine k1 acc ys D H2 q1 s2 h2 (ra.step ⟨fun b o e n => ?_, fun b _ n z => n (.inl z)⟩)
  rw [upd_ne (fun z => n (.inr z))] at e; exact e
def compI (g : DG) (tc : DB) (te : DT) (δ0 : Dl) (xs : List PyData) (Q : List PyData → Prop) : Prop := ∃ I : Nat → List PyData → Prop, I 0 [] ∧ (∀ i x acc, xs[i]? = some x → I i acc → g x δ0 fun δ2 => tc δ2 fun ok => if ok = true then te δ2 fun y => I (i + 1) (acc ++ [y]) else I (i + 1) acc) ∧ ∀ acc, I xs.length acc → Q acc
theorem comp_stepI {K : PySem.W.Frag} {J : It} {P : Hp → Prop} {vs : List V} {xs : List PyData} {g : TG} {dg : DG} {tc : TT} {dc : DB} {te : TE} {de : DT} {k : Nat} {fr : List Nat} {σ : St} {H : Hp} {O : Ex} {δ : Dl} {Qd : List PyData → Prop} {Q : VK} (S : SrcP J P vs) (gd : GD K g dg) (hf : fr.Nodup)
  (hk : ∀ v : V, ∀ σ' : St, ∀ H' : Hp, ∀ R : St → Hp → Prop, g v (st0 k fr σ) H' R → g v (st0 k fr σ) H' fun σ2 H2 => Keep (st0 k fr σ) σ2 ∧ R σ2 H2)
  (hc : ∀ σ H Q, upT K H0 O0 dc σ H Q → tc σ H Q) (he : ∀ σ H Q, up K H0 O0 de σ H Q → te σ H Q)
  (hP : ∀ D H', H D = none → SameE D H H' → P H') (r : Dts K H O vs xs) (w : Wd K H0 O0 H O σ δ) (hz : vs.length ≤ sizeLine) (q : compI dg dc de (dst0 k fr δ) xs Qd)
  (k1 : ∀ ds us p H', Qd ds → Same H H' → H' p = none → Dts K H' O us ds → Q (.ref p) (upd H' p (.lst us))) : CmR J g tc te k fr σ H Q := by
 obtain ⟨Iv, q0, qs, qe⟩ := q
 intro D hD
 have w0 : Wd K H0 O0 H O (st0 k fr σ) (dst0 k fr δ) := w.comp hf
 have nD : ¬ O D := fun z => w.trk D z hD
 have D0 : H0 D = none := by
  cases e : H0 D with
  | none => rfl
  | some o => rw [w.same _ _ e] at hD; cases hD
 -- with D excluded
 have ex : ∀ H', SameE D H H' → H' D ≠ none → Wd K H0 O0 H' (fun a => O a ∨ a = D) (st0 k fr σ) (dst0 k fr δ) := fun H' s' hd => by
  have S' : Step H H' O (fun a => O a ∨ a = D) := ⟨fun b o e _ => s' b o e (ne_of_none e hD), fun b hb hn z => z.elim hn fun q => hb (by rw [q]; exact hD)⟩
  refine ⟨fun b o e => s' b o (w.same b o e) (fun z => by rw [z, D0] at e; cases e), fun l z => .inl (w.sub l z), fun l z => z.elim (w.new l) fun q => .inr (by rw [q]; exact D0), fun l z => ?_, w0.len, fun j y e => ?_, w0.dis⟩
  ·by_cases ql : l = D
   ·rw [ql]; exact hd
   ·have hl := w.trk l (z.resolve_right ql)
    cases e : H l with
    | none => exact absurd e hl
    | some o => rw [s' l o e ql]; exact fun z => nomatch z
  ·exact (w0.sl j y e).go S' fun l o _ _ a1 _ a3 => ⟨.inl a1, s' _ _ a3 (fun z => nD (by rw [← z]; exact a1))⟩
 refine ⟨fun i m H' => ∃ acc ys, m = vs.length - i ∧ i ≤ vs.length ∧ SameE D H H' ∧ H' D = some (.lst ys) ∧ ys.length ≤ i ∧ Dts K H' (fun a => O a ∨ a = D) ys acc ∧ Iv i acc, ⟨vs.length, [], [], by simp, Nat.zero_le _, fun b o e n => by rw [upd_ne n]; exact e, upd_same, Nat.zero_le _, .nil, q0⟩, ?_⟩
 rintro i m H1 ⟨acc, ys, rfl, hi, s1, e1, hy, ra, q1⟩
 by_cases hlt : i < vs.length
 ·refine .inr ⟨S.go i H1 (hP D H1 hD s1) hlt, fun x H' y => ?_⟩
  have yy := S.yl i H1 x H' (hP D H1 hD s1) hlt y
  clear y
  obtain ⟨e, y⟩ := yy
  subst e
  obtain ⟨d, ed, rd⟩ := r.get y
  have w1 := ex _ s1 (by rw [e1]; exact fun z => nomatch z)
  have S' : Step H H' O (fun a => O a ∨ a = D) := ⟨fun b o e _ => s1 b o e (ne_of_none e hD), fun b hb hn z => z.elim hn fun q => hb (by rw [q]; exact hD)⟩
  refine hk x σ _ _ (gd H0 O0 _ _ _ _ x d _ _ w1 (rd.step S') (qs i d acc ed q1) fun δ2 σ2 q2 w2 => ?_)
  refine hc σ2 _ _ ⟨_, δ2, _, w2, q2, fun ok H3 q3 s3 => ?_⟩
  cases ok with
  | true =>
   rw [if_pos rfl]
   refine he σ2 H3 _ ⟨_, δ2, _, w2.mono s3, q3, fun d' v H4 q4 s4 r4 => ?_⟩
   have e4 := s4 _ _ (s3 _ _ e1)
   have sD : Step H4 (upd H4 D (.lst (ys ++ [v]))) (fun a => O a ∨ a = D) (fun a => O a ∨ a = D) := ⟨fun b o e n => by rw [upd_ne (fun z => n (.inr z))]; exact e, fun _ _ n => n⟩
   refine ⟨ys, e4, by omega, vs.length - (i + 1), by omega, acc ++ [d'], ys ++ [v], rfl, hlt, fun b o e n => by rw [upd_ne n]; exact s4 _ _ (s3 _ _ (s1 b o e n)), upd_same, by simpa using hy, ?_, q4⟩
   exact ((ra.mono (s3.trans s4)).append (.cons r4 .nil)).step sD
  | false =>
   rw [if_neg (by decide)]
   exact ⟨vs.length - (i + 1), by omega, acc, ys, rfl, hlt, fun b o e n => s3 _ _ (s1 b o e n), s3 _ _ e1, by omega, ra.mono s3, q3⟩
 ·have e : i = vs.length := by omega
  subst e
  refine .inl ⟨S.st _ H1 (hP D H1 hD s1) (Nat.le_refl _), ?_⟩
  rw [r.length] at q1
  -- the list D, new over the rest
  have hrest : ∃ H2 : Hp, H2 D = none ∧ Same H H2 ∧ H1 = upd H2 D (.lst ys) := by
   refine ⟨fun b => if b = D then none else H1 b, by simp, fun b o e => ?_, ?_⟩
   ·have n := ne_of_none e hD
    show (if b = D then none else H1 b) = some o
    rw [if_neg n]; exact s1 b o e n
   ·funext b
    by_cases z : b = D
    ·rw [z, upd_same]; exact e1
    ·rw [upd_ne z]; show H1 b = if b = D then none else H1 b; rw [if_neg z]
  obtain ⟨H2, h2, s2, rfl⟩ := hrest
  refine k1 acc ys D H2 (qe acc q1) s2 h2 (ra.step ⟨fun b o e n => ?_, fun b _ n z => n (.inl z)⟩)
  rw [upd_ne (fun z => n (.inr z))] at e; exact e
def dComp (t : DT) (g : DG) (tc : DB) (te : DT) (k : Nat) (fr : List Nat) : DA := fun δ Q => t δ fun d => ∃ xs, d = .list xs ∧ xs.length ≤ sizeLine ∧ compW g tc te (dst0 k fr δ) xs [] Q
def dCompT (t : DT) (g : DG) (tc : DB) (te : DT) (k : Nat) (fr : List Nat) : DA := fun δ Q => t δ fun d => ∃ xs, d = .tuple xs ∧ xs.length ≤ sizeLine ∧ compW g tc te (dst0 k fr δ) xs [] Q
def dCompR (ta : DA) (g : DG) (tc : DB) (te : DT) (k : Nat) (fr : List Nat) : DA := fun δ Q => ta δ fun ds => ∃ j : Int, ds = [.int j] ∧ -(2 ^ 62) ≤ j ∧ j < sizeLine ∧ compW g tc te (dst0 k fr δ) (rangeD 0 j.toNat) [] Q
def dYes : DB := fun _ Q => Q true
def KeepG (g : TG) (k : Nat) : Prop := ∀ (fr : List Nat) (σ : St) (v : V) (H' : Hp) (R : St → Hp → Prop), g v (st0 k fr σ) H' R → g v (st0 k fr σ) H' fun σ2 H2 => Keep (st0 k fr σ) σ2 ∧ R σ2 H2
theorem keepName : KeepG (gName 0) 1 := fun fr σ v H' R h => ⟨keep_set, h⟩
section
variable {tg iter elt : Expr} {ifs : List Expr} {scope : Scope} {N' : List Str} {k : Nat} {fr : List Nat} {g : TG} {dg : DG} {t : DT} {ta : DA} {tc : DB} {te : DT} {pos p ps : Pos}
end
def dCompI (t : DT) (g : DG) (tc : DB) (te : DT) (k : Nat) (fr : List Nat) : DA := fun δ Q => t δ fun d => ∃ xs, d = .list xs ∧ xs.length ≤ sizeLine ∧ compI g tc te (dst0 k fr δ) xs Q
def dCompTI (t : DT) (g : DG) (tc : DB) (te : DT) (k : Nat) (fr : List Nat) : DA := fun δ Q => t δ fun d => ∃ xs, d = .tuple xs ∧ xs.length ≤ sizeLine ∧ compI g tc te (dst0 k fr δ) xs Q
def dCompRI (ta : DA) (g : DG) (tc : DB) (te : DT) (k : Nat) (fr : List Nat) : DA := fun δ Q => ta δ fun ds => ∃ j : Int, ds = [.int j] ∧ -(2 ^ 62) ≤ j ∧ j < sizeLine ∧ compI g tc te (dst0 k fr δ) (rangeD 0 j.toNat) Q
section
variable {tg iter elt : Expr} {ifs : List Expr} {scope : Scope} {N' : List Str} {k : Nat} {fr : List Nat} {g : TG} {dg : DG} {t : DT} {ta : DA} {tc : DB} {te : DT} {pos p ps : Pos}
theorem fe_compI (hc : X.calm = true) (S : CompScope X.env.scope X.N N' k fr scope) (hi : DF X H0 O0 iter t) (gd : GD X.K g dg) (hk : KeepG g k) (hfr : fr.Nodup)
  (hg : ∀ fp C s H, PG (compCx X scope N' fp C s H) tg g) (hf : ∀ fp C s H, PIfs (compCx X scope N' fp C s H) ifs (upT X.K H0 O0 tc)) (he : ∀ fp C s H, PE (compCx X scope N' fp C s H) elt (up X.K H0 O0 te))
  (hs : ∀ x, foldedSetIterable iter X.env x = pure x := by intro _; rfl) : FE X H0 O0 (.ListComp elt [⟨tg, iter, ifs, 0⟩] scope pos) (dCompI t dg tc te k fr) :=
 (pe_comp hc S (pi_list hi) hg hf he hs).imp fun σ H Q ⟨O, δ, Qd, w, q, kk⟩ => ⟨O, δ, _, w, q, fun d v H1 ⟨xs, e, hz, q1⟩ s1 r1 => by
  subst e
  obtain ⟨a, vs, rfl, hq, rr⟩ := r1.lst
  refine ⟨a, rfl, ⟨_, hq⟩, fun D hD => comp_stepI (SrcP.list hq) gd hfr (fun v _ H' R h => hk fr σ v H' R h) (fun _ _ _ z => z) (fun _ _ _ z => z) (fun D H' hD s' o e => s' _ _ e (ne_of_none e hD)) rr (w.mono s1) (by rw [rr.length]; exact hz) q1 (fun ds us p H' z s' hp r' => kk ds us p H' z (s1.trans s') hp r') D hD⟩⟩
theorem fe_compTI (hc : X.calm = true) (S : CompScope X.env.scope X.N N' k fr scope) (hi : DF X H0 O0 iter t) (gd : GD X.K g dg) (hk : KeepG g k) (hfr : fr.Nodup)
  (hg : ∀ fp C s H, PG (compCx X scope N' fp C s H) tg g) (hf : ∀ fp C s H, PIfs (compCx X scope N' fp C s H) ifs (upT X.K H0 O0 tc)) (he : ∀ fp C s H, PE (compCx X scope N' fp C s H) elt (up X.K H0 O0 te))
  (hs : ∀ x, foldedSetIterable iter X.env x = pure x := by intro _; rfl) : FE X H0 O0 (.ListComp elt [⟨tg, iter, ifs, 0⟩] scope pos) (dCompTI t dg tc te k fr) :=
 (pe_comp hc S (pi_tup hi) hg hf he hs).imp fun σ H Q ⟨O, δ, Qd, w, q, kk⟩ => ⟨O, δ, _, w, q, fun d v H1 ⟨xs, e, hz, q1⟩ s1 r1 => by
  subst e
  obtain ⟨a, vs, rfl, hq, rr⟩ := r1.tup
  refine ⟨a, rfl, ⟨_, hq⟩, fun D hD => comp_stepI (SrcP.tup hq) gd hfr (fun v _ H' R h => hk fr σ v H' R h) (fun _ _ _ z => z) (fun _ _ _ z => z) (fun D H' hD s' o e => s' _ _ e (ne_of_none e hD)) rr (w.mono s1) (by rw [rr.length]; exact hz) q1 (fun ds us p H' z s' hp r' => kk ds us p H' z (s1.trans s') hp r') D hD⟩⟩
theorem fe_compRI (hc : X.calm = true) {a : Expr} (S : CompScope X.env.scope X.N N' k fr scope) (hgl : Gl X "range") (hm : X.mg "range" = none) (ha : PA X [a] (upB X.K H0 O0 ta)) (gd : GD X.K g dg) (hk : KeepG g k) (hfr : fr.Nodup)
  (hg : ∀ fp C s H, PG (compCx X scope N' fp C s H) tg g) (hf : ∀ fp C s H, PIfs (compCx X scope N' fp C s H) ifs (upT X.K H0 O0 tc)) (he : ∀ fp C s H, PE (compCx X scope N' fp C s H) elt (up X.K H0 O0 te))
  (hst : starEach [a] X.env = [(false, eval a X.env)] := by rfl) (hs : ∀ x, foldedSetIterable (.Call (.Name "range" p) [a] [] ps) X.env x = pure x := by intro _; rfl) :
  FE X H0 O0 (.ListComp elt [⟨tg, (.Call (.Name "range" p) [a] [] ps), ifs, 0⟩] scope pos) (dCompRI ta dg tc te k fr) :=
 (pe_comp hc S (pi_range1 hgl hm ha hst) hg hf he hs).imp fun σ H Q ⟨O, δ, Qd, w, q, kk⟩ => ⟨O, δ, _, w, q, fun ds vs H1 ⟨j, e, b1, b2, q1⟩ s1 r1 => by
  subst e
  cases r1 with
  | cons r1 r2 =>
   cases r2
   cases r1.int
   have hb : (sizeLine : Int) < 2 ^ 62 := by decide
   exact ⟨j, rfl, b1, by omega, fun D hD => comp_stepI (P := fun _ => True) SrcP.rng gd hfr (fun v _ H' R h => hk fr σ v H' R h) (fun _ _ _ z => z) (fun _ _ _ z => z) (fun _ _ _ _ => trivial) (Dts.rng _) (w.mono s1) (by rw [List.length_map, List.length_range]; omega) q1 (fun ds us p H' z s' hp r' => kk ds us p H' z (s1.trans s') hp r') D hD⟩⟩
end
end
end L2

namespace L2
open PySem PySem.Spec PyProof.Rows PySem.W
section
variable {K : PySem.W.Frag}
def dI (g : Int → Int → PyData) : PyData → PyData → (PyData → Prop) → Prop := fun x y Q => ∃ i j, x = .int i ∧ y = .int j ∧ Q (g i j)
def dIC (C : Int → Int → Prop) (g : Int → Int → PyData) : PyData → PyData → (PyData → Prop) → Prop := fun x y Q => ∃ i j, x = .int i ∧ y = .int j ∧ C i j ∧ Q (g i j)
theorem od_int {g : Int → Int → Int} : OpD K (rI0 fun i j => .int (g i j)) (dI fun i j => .int (g i j)) := fun H O x y dx dy Qd R _ hx hy ⟨i, j, e1, e2, q⟩ k => by
 subst e1 e2; cases hx.int; cases hy.int; exact ⟨i, j, rfl, rfl, k _ _ H q (Same.refl _) (.int _)⟩
theorem od_bl {g : Int → Int → Bool} : OpD K (rI0 fun i j => .bl (g i j)) (dI fun i j => .bool (g i j)) := fun H O x y dx dy Qd R _ hx hy ⟨i, j, e1, e2, q⟩ k => by
 subst e1 e2; cases hx.int; cases hy.int; exact ⟨i, j, rfl, rfl, k _ _ H q (Same.refl _) (.bl _)⟩
theorem od_intC {C : Int → Int → Prop} {g : Int → Int → Int} : OpD K (rI C fun i j => .int (g i j)) (dIC C fun i j => .int (g i j)) := fun H O x y dx dy Qd R _ hx hy ⟨i, j, e1, e2, c, q⟩ k => by
 subst e1 e2; cases hx.int; cases hy.int; exact ⟨i, j, rfl, rfl, c, k _ _ H q (Same.refl _) (.int _)⟩
def rEqX (K : PySem.W.Frag) : R2 := fun x y H Q => ∃ O dx dy, Sh K H O x dx ∧ Sh K H O y dy ∧ Shp dx ∧ Shp dy ∧ Q (.bl (PyData.eqv dx dy)) H
def rNeX (K : PySem.W.Frag) : R2 := fun x y H Q => ∃ O dx dy, Sh K H O x dx ∧ Sh K H O y dy ∧ Shp dx ∧ Shp dy ∧ Q (.bl (!PyData.eqv dx dy)) H
theorem op_eqX {X : Cx} (hu : X.A.units + 64 < cLine) : OpR X (compareOp .Eq) (rEqX X.K) := by
 intro pins s σ H x y v u Q I rx ry h
 obtain ⟨O, dx, dy, hx, hy, sx, sy, q⟩ := h
 obtain ⟨as, ra⟩ := dt_reads I hx.all (SeqAt.canLay_of_shaped sx) rx
 obtain ⟨bs, rb⟩ := dt_reads I hy.all (SeqAt.canLay_of_shaped sy) ry
 exact SeqAt.compareEq_shaped ra rb sx sy hu (fin_bl I q rfl)
theorem op_neX {X : Cx} (hu : X.A.units + 64 < cLine) : OpR X (compareOp .NotEq) (rNeX X.K) := by
 intro pins s σ H x y v u Q I rx ry h
 obtain ⟨O, dx, dy, hx, hy, sx, sy, q⟩ := h
 obtain ⟨as, ra⟩ := dt_reads I hx.all (SeqAt.canLay_of_shaped sx) rx
 obtain ⟨bs, rb⟩ := dt_reads I hy.all (SeqAt.canLay_of_shaped sy) ry
 exact SeqAt.compareNe_shaped ra rb sx sy hu (fin_bl I q rfl)
def dEq : PyData → PyData → (PyData → Prop) → Prop := fun x y Q => Shp x ∧ Shp y ∧ Q (.bool (PyData.eqv x y))
def dNe : PyData → PyData → (PyData → Prop) → Prop := fun x y Q => Shp x ∧ Shp y ∧ Q (.bool (!PyData.eqv x y))
theorem od_eq : OpD K (rEqX K) dEq := fun H O x y dx dy Qd R _ hx hy ⟨a, b, q⟩ k => ⟨O, dx, dy, hx, hy, a, b, k _ _ H q (Same.refl _) (.bl _)⟩
theorem od_ne : OpD K (rNeX K) dNe := fun H O x y dx dy Qd R _ hx hy ⟨a, b, q⟩ k => ⟨O, dx, dy, hx, hy, a, b, k _ _ H q (Same.refl _) (.bl _)⟩
def dIxL : PyData → PyData → (PyData → Prop) → Prop := fun x y Q => ∃ ds i d, x = .list ds ∧ y = .int i ∧ atI ds i = some d ∧ Q d
def dIxT : PyData → PyData → (PyData → Prop) → Prop := fun x y Q => ∃ ds i d, x = .tuple ds ∧ y = .int i ∧ atI ds i = some d ∧ Q d
theorem Dts.atI {H : Hp} {O : Ex} {vs : List V} {ds : List PyData} {i : Int} {d : PyData} (r : Dts K H O vs ds) (e : L2.atI ds i = some d) : ∃ v, L2.atI vs i = some v ∧ Dt K H O v d := by
 unfold L2.atI at e ⊢
 rw [r.length]
 cases q : ixN ds.length i with
 | none => rw [q] at e; cases e
 | some j => rw [q] at e; exact r.getD e
theorem od_ixL : OpD K (rIxL K) dIxL := fun H O x y dx dy Qd R _ hx hy ⟨ds, i, d, e1, e2, e3, q⟩ k => by
 subst e1 e2
 obtain ⟨a, vs, rfl, hs, r⟩ := hx.lst
 cases hy.int
 obtain ⟨v, hv, rv⟩ := r.atI e3
 exact ⟨a, vs, i, v, rfl, rfl, hs, hv, k d v H q (Same.refl _) rv⟩
theorem od_ixT : OpD K (rIxT K) dIxT := fun H O x y dx dy Qd R _ hx hy ⟨ds, i, d, e1, e2, e3, q⟩ k => by
 subst e1 e2
 obtain ⟨a, vs, rfl, hs, r⟩ := hx.tup
 cases hy.int
 obtain ⟨v, hv, rv⟩ := r.atI e3
 exact ⟨a, vs, i, v, rfl, rfl, hs, hv, k d v H q (Same.refl _) rv⟩
end
section
variable {X : Cx} {H0 : Hp} {O0 : Ex}
def rCatG : R2 := fun x y H Q => ∃ l b xs zs, x = .ref l ∧ y = .ref b ∧ Rd H l (.lst xs) ∧ Rd H b (.lst zs) ∧ xs.length + zs.length ≤ sizeLine ∧ ∀ p, H p = none → Q (.ref p) (upd H p (.lst (xs ++ zs)))
theorem op_catG : OpR X (binaryOp .Add) rCatG := by
 intro pins s σ H x y v u Q I rx ry h
 obtain ⟨l, b, xs, zs, rfl, rfl, hH, hB, hz, q⟩ := h
 cases rx
 cases ry
 obtain ⟨z, its, n, r, e⟩ := hH.ok I.hok
 obtain ⟨z2, its2, n2, r2, e2⟩ := hB.ok I.hok
 have l1 := r.length
 have l2 := r2.length
 refine PySem.P.add_list e e2 ?_ (by rw [List.size_toArray, List.size_toArray]; omega)
 have ea : its.toArray ++ its2.toArray = (its ++ its2).toArray := by simp
 rw [ea]
 exact ⟨.ref _, _, I.lnew (t' := s.toks) (r.append r2) (by rw [List.length_append]; omega), rfl, q _ I.fresh⟩
def dCat (ta tb : DT) : DA := fun δ Q => ta δ fun x => tb δ fun y => ∃ xs ys, x = .list xs ∧ y = .list ys ∧ xs.length + ys.length ≤ sizeLine ∧ Q (xs ++ ys)
theorem fe_cat {a b : Expr} {ta tb : DT} {pos : Pos} (ha : DF X H0 O0 a ta) (hb : DF X H0 O0 b tb) : FE X H0 O0 (.BinOp a .Add b pos) (dCat ta tb) :=
 (pe_op op_catG ha hb).imp fun σ H Q ⟨O, δ, Qd, w, q, k⟩ => ⟨O, δ, _, w, q, fun x v H1 q1 s1 r1 => ⟨O, δ, _, w.mono s1, q1, fun y u H2 ⟨xs, ys, e1, e2, hz, q2⟩ s2 r2 => by
  subst e1 e2
  obtain ⟨a, vs, rfl, h1, d1⟩ := (r1.mono s2).lstR
  obtain ⟨b, us, rfl, h2, d2⟩ := r2.lstR
  exact ⟨a, b, vs, us, rfl, rfl, h1, h2, by rw [d1.length, d2.length]; exact hz, fun p hp => k _ _ _ _ q2 (s1.trans s2) hp (d1.append d2)⟩⟩⟩
def dCatT : PyData → PyData → (PyData → Prop) → Prop := fun x y Q => ∃ xs ys, x = .tuple xs ∧ y = .tuple ys ∧ xs ≠ [] ∧ xs.length + ys.length ≤ sizeLine ∧ Q (.tuple (xs ++ ys))
theorem od_catT {K : PySem.W.Frag} : OpD K (rCatT K) dCatT := fun H O x y dx dy Qd R tr hx hy ⟨xs, ys, e1, e2, hn, hz, q⟩ k => by
 subst e1 e2
 have hx0 := hx
 obtain ⟨a, vs, rfl, h1, d1⟩ := hx.tup
 obtain ⟨b, us, rfl, h2, d2⟩ := hy.tup
 refine ⟨a, b, vs, us, rfl, rfl, h1, h2, fun z => ?_, by rw [d1.length, d2.length]; exact hz, fun z => ?_, fun _ p hp => ?_⟩
 ·subst z; cases d1; exact hn rfl
 ·subst z; cases d2
  rw [List.append_nil] at q
  cases hx0 with
  | dt hx0 => exact k _ _ H q (Same.refl _) hx0
 ·exact k _ _ _ q (Same.new hp) (.tup (.inl upd_same) (fun z => tr p z hp) ((d1.append d2).mono (Same.new hp)))
def cutD (xs : List PyData) (lo hi : Option Int) : List PyData := (xs.drop (HT.sIx xs.length 0 lo)).take (HT.sIx xs.length xs.length hi - HT.sIx xs.length 0 lo)
theorem Dts.cut {K : PySem.W.Frag} {H : Hp} {O : Ex} {vs : List V} {ds : List PyData} (r : Dts K H O vs ds) (lo hi : Option Int) : Dts K H O (cutV vs lo hi) (cutD ds lo hi) := by
 unfold cutV cutD; rw [r.length]; exact (r.drop _).take _
abbrev DO := Dl → (Option Int → Prop) → Prop
def upO (K : PySem.W.Frag) (H0 : Hp) (O0 : Ex) (t : DO) : TO := fun σ H R => ∃ O δ Qd, Wd K H0 O0 H O σ δ ∧ t δ Qd ∧ ∀ d H', Qd d → Same H H' → R d H'
def dNoPart : DO := fun _ Q => Q none
def dPart (t : DT) : DO := fun δ Q => t δ fun d => ∃ i, d = .int i ∧ Q (some i)
theorem PO.imp {X : Cx} {e : Option Expr} {t u : TO} (h : PO X e t) (i : ∀ σ H Q, u σ H Q → t σ H Q) : PO X e u := fun pins s σ H Q I z => h pins s σ H Q I (i σ H Q z)
theorem do_none : PO X none (upO X.K H0 O0 dNoPart) := po_none.imp fun σ H Q ⟨O, δ, Qd, w, q, k⟩ => k none H q (Same.refl _)
theorem do_some {e : Expr} {t : DT} (h : DE X H0 O0 e t) : PO X (some e) (upO X.K H0 O0 (dPart t)) := (po_some h).imp fun σ H Q ⟨O, δ, Qd, w, q, k⟩ => ⟨O, δ, _, w, q, fun d v H1 ⟨i, e, q1⟩ s1 r1 => by subst e; cases r1; exact ⟨i, rfl, k _ H1 q1 s1⟩⟩
def dSlL (t : DT) (tl th : DO) : DA := fun δ Q => t δ fun d => tl δ fun l => th δ fun u => ∃ xs, d = .list xs ∧ Q (cutD xs l u)
def dSlT (t : DT) (tl th : DO) : DT := fun δ Q => t δ fun d => tl δ fun l => th δ fun u => ∃ xs, d = .tuple xs ∧ ¬ (HT.sIx xs.length 0 l = 0 ∧ HT.sIx xs.length xs.length u = xs.length) ∧ Q (.tuple (cutD xs l u))
theorem fe_slice {e : Expr} {lo hi : Option Expr} {t : DT} {tl th : DO} {pos p2 : Pos} (h : DF X H0 O0 e t) (hl : PO X lo (upO X.K H0 O0 tl)) (hu : PO X hi (upO X.K H0 O0 th)) : FE X H0 O0 (.Subscript e (.Slice lo hi none p2) pos) (dSlL t tl th) :=
 (pe_slice sl_list h hl hu).imp fun σ H Q ⟨O, δ, Qd, w, q, k⟩ => ⟨O, δ, _, w, q, fun d v H1 q1 s1 r1 => ⟨O, δ, _, w.mono s1, q1, fun l H2 q2 s2 => ⟨O, δ, _, w.mono (s1.trans s2), q2, fun u H3 ⟨xs, e, q3⟩ s3 => by
  subst e
  obtain ⟨a, vs, rfl, h1, d1⟩ := (r1.mono (s2.trans s3)).lst
  exact ⟨a, vs, rfl, h1, fun p hp => k _ _ _ _ q3 (s1.trans (s2.trans s3)) hp (d1.cut l u)⟩⟩⟩⟩
theorem de_ix {a b : Expr} {ta tb : DT} {r : R2} {rd : PyData → PyData → (PyData → Prop) → Prop} {pos : Pos} (ho : IxR X r) (hd : OpD X.K r rd) (ha : DF X H0 O0 a ta) (hb : DF X H0 O0 b tb) (hs : ∀ v u, subscripted b false v u = operate [v, u] (getItem v u) := by intro _ _; rfl) : DE X H0 O0 (.Subscript a b pos) (dOp rd ta tb) := (pe_ix ho ha hb hs).imp (opd hd)
def dLen : List PyData → (PyData → Prop) → Prop := fun ds Q => ∃ xs, (ds = [.list xs] ∨ ds = [.tuple xs]) ∧ Q (.int xs.length)
def dLenS : List PyData → (PyData → Prop) → Prop := fun ds Q => ∃ xs, ds = [scrD xs] ∧ Q (.int xs.length)
theorem cd_len {K : PySem.W.Frag} : CallD K (fun xs H Q => ∃ p ys, xs = [.ref p] ∧ (SqL K H p ys ∨ SqT K H p ys) ∧ Q (.int ys.length) H) dLen := fun H O xs ds Qd R _ hs ⟨ys, e, q⟩ k => by
 rcases e with e | e <;> subst e
 ·cases hs with
  | cons h r =>
   cases r
   obtain ⟨a, vs, rfl, h1, d1⟩ := h.lst
   exact ⟨a, vs, rfl, .inl h1, by rw [d1.length]; exact k _ _ H q (Same.refl _) (.int _)⟩
 ·cases hs with
  | cons h r =>
   cases r
   obtain ⟨a, vs, rfl, h1, d1⟩ := h.tup
   exact ⟨a, vs, rfl, .inr h1, by rw [d1.length]; exact k _ _ H q (Same.refl _) (.int _)⟩
theorem cd_lenS {K : PySem.W.Frag} : CallD K (fun xs H Q => ∃ p ys, xs = [.ref p] ∧ (SqL K H p ys ∨ SqT K H p ys) ∧ Q (.int ys.length) H) dLenS := fun H O xs ds Qd R _ hs ⟨ys, e, q⟩ k => by
 subst e
 cases hs with
 | cons h r =>
  cases r
  obtain ⟨a, vs, rfl, h1, d1⟩ := h.scr
  exact ⟨a, vs, rfl, .inl h1, by rw [d1.length]; exact k _ _ H q (Same.refl _) (.int _)⟩
def dTupOf : List PyData → (PyData → Prop) → Prop := fun ds Q => ∃ xs, ds = [.list xs] ∧ Q (.tuple xs)
theorem cd_tupOf {K : PySem.W.Frag} : CallD K (fun xs H Q => ∃ p ys, xs = [.ref p] ∧ ((SqL K H p ys ∧ ∀ l, H l = none → Q (.ref l) (upd H l (.tup ys))) ∨ (SqT K H p ys ∧ Q (.ref p) H))) dTupOf := fun H O xs ds Qd R tr hs ⟨ys, e, q⟩ k => by
 subst e
 cases hs with
 | cons h r =>
  cases r
  obtain ⟨a, vs, rfl, h1, d1⟩ := h.lst
  exact ⟨a, vs, rfl, .inl ⟨h1, fun l hl => k _ _ _ q (Same.new hl) (.tup (.inl upd_same) (fun z => tr l z hl) (d1.mono (Same.new hl)))⟩⟩
theorem Dts.bools {K : PySem.W.Frag} {H : Hp} {O : Ex} : ∀ {bs : List Bool} {vs : List V}, Dts K H O vs (bs.map PyData.bool) → vs = bs.map V.bl
 | [], _, r => by rw [List.map_nil] at r; cases r; rfl
 | b :: bs, _, r => by
  rw [List.map_cons] at r
  cases r with
  | cons h r => cases h; rw [List.map_cons, Dts.bools r]
def dAny (g : List Bool → Bool) : List PyData → (PyData → Prop) → Prop := fun ds Q => ∃ bs : List Bool, ds = [.list (bs.map .bool)] ∧ Q (.bool (g bs))
theorem cd_any {K : PySem.W.Frag} {g : List Bool → Bool} : CallD K (fun xs H Q => ∃ (a : Addr) (bs : List Bool), xs = [.ref a] ∧ SqL K H a (bs.map V.bl) ∧ Q (.bl (g bs)) H) (dAny g) := fun H O xs ds Qd R tr hs ⟨bs, e, q⟩ k => by
 subst e
 cases hs with
 | cons h r =>
  cases r
  obtain ⟨a, vs, rfl, h1, d1⟩ := h.lst
  cases d1.bools
  exact ⟨a, bs, rfl, h1, k _ _ H q (Same.refl _) (.bl _)⟩
def dTwo (g : Int → Int → Int) : List PyData → (PyData → Prop) → Prop := fun ds Q => ∃ i j, ds = [.int i, .int j] ∧ Q (.int (g i j))
theorem cd_two {K : PySem.W.Frag} {g : Int → Int → Int} : CallD K (fun xs H Q => ∃ i j, xs = [.int i, .int j] ∧ Q (.int (g i j)) H) (dTwo g) := fun H O xs ds Qd R tr hs ⟨i, j, e, q⟩ k => by
 subst e
 cases hs with
 | cons h r =>
  cases r with
  | cons h2 r =>
   cases r; cases h.int; cases h2.int
   exact ⟨i, j, rfl, k _ _ H q (Same.refl _) (.int _)⟩
def tyD : PyData → String
 | .none => "NoneType" | .bool _ => "bool" | .int _ => "int" | .str _ => "str" | .list _ => "list" | .tuple _ => "tuple" | .dict _ => "dict"
def dIn (neg : Bool) : PyData → PyData → (PyData → Prop) → Prop := fun x y Q => ∃ ds, (y = .list ds ∨ y = .tuple ds) ∧ scalD x = true ∧ ds.all scalD = true ∧ Q (.bool (if neg then !(ds.any fun d => PyData.eqv d x) else ds.any fun d => PyData.eqv d x))
end
section
variable {P : Program} {w : World} {K : PySem.W.Frag} {mg : Str → Option Value} {base : Heap}
def startD (N : List Str) (ds : List PyData) : Dl := ds.map (fun d => some (.v d)) ++ List.replicate (N.length - ds.length) none
theorem wd_start {H : Hp} {O : Ex} {N : List Str} {vs : List V} {ds : List PyData} (tr : ∀ l, O l → H l ≠ none) (r : Dts K H O vs ds) : Wd K H O H O (start N vs) (startD N ds) := by
 have hl := r.length
 have at1 : ∀ (i : Nat) y, (startD N ds)[i]? = some y → (∃ d, ds[i]? = some d ∧ y = some (.v d)) ∨ y = none := fun i y e => by
  unfold startD at e
  by_cases h : i < ds.length
  ·rw [List.getElem?_append_left (by simpa using h), List.getElem?_map] at e
   cases q : ds[i]? with
   | none => rw [q] at e; cases e
   | some d => rw [q] at e; exact .inl ⟨d, rfl, (Option.some.inj e).symm⟩
  ·rw [List.getElem?_append_right (by simpa using Nat.le_of_not_lt h), List.getElem?_replicate] at e
   split at e
   ·exact .inr (Option.some.inj e).symm
   ·cases e
 refine ⟨Same.refl _, fun _ z => z, fun _ z => .inl z, tr, by simp [start, startD, hl], fun i y e => ?_, fun i j ds' es l e1 => ?_⟩
 ·rcases at1 i y e with ⟨d, hd, rfl⟩ | rfl
  ·obtain ⟨v, hv, rv⟩ := r.getD hd
   refine ⟨v, ?_, rv⟩
   unfold start
   rw [List.getElem?_append_left (by simpa using (List.getElem?_eq_some_iff.mp hv).1), List.getElem?_map, hv]; rfl
  ·exact True.intro
 ·rcases at1 i _ e1 with ⟨d, _, z⟩ | z
  ·cases z; intro h; exact h.elim
  ·cases z
theorem Fun.okD {x qual : Str} {st : Stmt} {f : Addr} {fd : FuncData} {N ps : List Str} {k : Nat} {F : List PyData → (PyData → Prop) → Prop} (Fu : Fun K x qual st f fd) (S : FnScope N ps (defScope st)) (len : ∀ ds Q, F ds Q → ds.length = ps.length)
  (hbody : ∀ (cdv : Value) (A : Around) (outer : List Env) (s : Shared) (H : Hp) (O : Ex) (ds : List PyData) (Q : PyData → Prop) (E : XK), Room k (A.deeper (envOfC qual (defScope st) s.heap.objs.size f cdv)) → F ds Q →
   ∃ t, PSs (cxOf CX0 P w K mg base N qual (defScope st) f cdv A outer s H E).nox (defBody st) (upD K H O t) ∧ t { nx := fun _ => Q .none, rt := Q } (startD N ds)) : FnOk P w K mg base CX0 (k + 1) f fd ps (spD K F) := by
 refine Fu.ok S (fun vs H Q E h => ?_) (fun cdv A outer s H vs Q E hr h => ?_)
 ·obtain ⟨O, ds, Qd, _, r, q, _⟩ := h
  rw [r.length]; exact len _ _ q
 ·obtain ⟨O, ds, Qd, tr, r, q, k⟩ := h
  obtain ⟨t, ht, q'⟩ := hbody cdv A outer s H O ds Qd E hr q
  refine ⟨_, ht, O, _, _, wd_start tr r, q', fun O' δ' σ' H' z w' S' => ?_, fun d v H' z s' r' => k d v H' z s' r', fun _ _ _ _ z => z.elim, fun _ _ _ _ z => z.elim⟩
  exact k _ _ _ z w'.same .non
end
end L2

namespace L2
open PySem PySem.Spec PyProof.Rows PySem.W
section
variable {X : Cx} {H0 : Hp} {O0 : Ex}
theorem pf_nilD : PIfs X [] (upT X.K H0 O0 dYes) := fun pins s σ H Q I h => by
 obtain ⟨O, δ, Qd, w, q, k⟩ := h
 exact pf_nil pins s σ H Q I (k true H q (Same.refl _))
theorem call_isinX : CallR X (.builtin "isinstance") (fun xs H Q => ∃ O d T b x, xs = [x, .ty T] ∧ Dt X.K H O x d ∧ (∀ x, d ≠ .dict [(.none, x)]) ∧ kitOne X.K (.type (tyD d)) (.type T) = some b ∧ Q (.bl b) H) := by
 intro pins s σ H xs us Q I r h
 obtain ⟨O, d, T, b, x, rfl, hd, hp, hk, q⟩ := h
 obtain ⟨u, w', rfl, rx, rt⟩ := vals2 r
 cases (show w' = Value.type T from rt)
 have fin : ∀ tk, EP X pins σ Q (.bool b) { s with toks := tk } := fun tk => ⟨.bl b, H, I.tok tk, rfl, q⟩
 cases hd with
 | non => cases (show u = Value.none from rx); exact kia_one kitx_none I.kIn True.intro hk (fun z => nomatch z) fin
 | bl y => cases (show u = Value.bool y from rx); exact kia_one kitx_bool I.kIn True.intro hk (fun z => nomatch z) fin
 | int i => obtain ⟨t, e⟩ := (show ∃ t, u = Value.int i t from rx); cases e; exact kia_one kitx_int I.kIn True.intro hk (fun z => nomatch z) fin
 | str y => obtain ⟨t, e⟩ := (show ∃ t, u = Value.str y t from rx); cases e; exact kia_one kitx_str I.kIn True.intro hk (fun z => nomatch z) fin
 | @tup a xs ds h n rr =>
  cases (show u = Value.ref a from rx)
  obtain ⟨its, rv, ⟨o, e, c, _⟩, _⟩ := I.tuple (.inl h)
  exact kia_one kitx_tuple I.kIn ⟨o, e, c⟩ hk (fun z => nomatch z) fin
 | @tupK a xs ds h rr =>
  cases (show u = Value.ref a from rx)
  obtain ⟨its, rv, ⟨o, e, c, _⟩, _⟩ := I.tuple h.of0
  exact kia_one kitx_tuple I.kIn ⟨o, e, c⟩ hk (fun z => nomatch z) fin
 | @lst a xs ds h n rr =>
  cases (show u = Value.ref a from rx)
  obtain ⟨its, rv, ⟨o, _, e, c, _⟩, _⟩ := I.list (.inl h)
  exact kia_one kitx_list I.kIn ⟨o, e, c⟩ hk (fun z => nomatch z) fin
 | pack h n => exact absurd rfl (hp _)
 | scr h r => exact absurd rfl (hp _)
 | obj h e n r => exact absurd rfl (hp _)
 | @dct0 a h n =>
  cases (show u = Value.ref a from rx)
  obtain ⟨_, _, _, _, o, _, _, e, c, _⟩ := (show ObjOk X.prog X.w H s.heap a (.dK []) from I.hok a _ h)
  exact kia_one kitx_dict I.kIn ⟨o, e, c.1⟩ hk (fun z => nomatch z) fin
 | @dic a kv ks kp ds h e1 e2 n rr =>
  cases (show u = Value.ref a from rx)
  obtain ⟨_, _, _, _, o, _, _, e, c, _⟩ := (show ObjOk X.prog X.w H s.heap a (.dK kv) from I.hok a _ h)
  exact kia_one kitx_dict I.kIn ⟨o, e, c.1⟩ hk (fun z => nomatch z) fin
def dIsin (K : PySem.W.Frag) (T : String) (t : DT) : DT := fun δ Q => t δ fun d => ∃ b, kitOne K (.type (tyD d)) (.type T) = some b ∧ (∀ x, d ≠ .dict [(.none, x)]) ∧ Q (.bool b)
theorem de_isin {T : String} {a c : Expr} {t : DT} {np p : Pos} (hg : Gl X "isinstance") (hm : X.mg "isinstance" = none) (hv : bootBuiltins "isinstance" = some (.builtin "isinstance")) (ha : DF X H0 O0 a t) (hc : PE X c (tC (.ty T)))
  (hs : starEach [a, c] X.env = (false, eval a X.env) :: starEach [c] X.env := by rfl) (hs2 : starEach [c] X.env = [(false, eval c X.env)] := by rfl) (hb : (backTo p (starEach [c] X.env)).any (·.1) = false := by rfl) : DE X H0 O0 (.Call (.Name "isinstance" np) [a, c] [] p) (dIsin X.K T t) :=
 (pe_callB call_isinX hg hm hv (pa_cons ha (pa_cons hc pa_nil hs2) hs) (he := hs) (hpl := hb)).imp fun σ H Q ⟨O, δ, Qd, w, q, k⟩ => ⟨O, δ, _, w, q, fun d v H1 ⟨b, e, hp, q1⟩ s1 r1 => ⟨fun _ => False, d, T, b, v, rfl, r1.all, hp, e, k _ _ H1 q1 s1 (.bl b)⟩⟩
def dAddS : PyData → PyData → (PyData → Prop) → Prop := fun x y Q => ∃ i j, x = .str i ∧ y = .str j ∧ i.length + j.length ≤ sizeLine ∧ Q (.str (i ++ j))
theorem od_addS {K : PySem.W.Frag} : OpD K (fun x y H Q => ∃ i j, x = .str i ∧ y = .str j ∧ i.length + j.length ≤ sizeLine ∧ Q (.str (i ++ j)) H) dAddS := fun H O x y dx dy Qd R tr hx hy ⟨i, j, e1, e2, hz, q⟩ k => by
 subst e1 e2; cases hx.str; cases hy.str; exact ⟨i, j, rfl, rfl, hz, k _ _ H q (Same.refl _) (.str _)⟩
def dIxS : PyData → PyData → (PyData → Prop) → Prop := fun x y Q => ∃ z i c, x = .str z ∧ y = .int i ∧ z.length ≤ sizeLine ∧ atI z.cps.toList i = some c ∧ Q (.str ⟨#[c]⟩)
theorem od_ixS {K : PySem.W.Frag} : OpD K rIxS dIxS := fun H O x y dx dy Qd R tr hx hy ⟨z, i, c, e1, e2, hz, e3, q⟩ k => by
 subst e1 e2; cases hx.str; cases hy.int; exact ⟨z, i, c, rfl, rfl, hz, e3, k _ _ H q (Same.refl _) (.str _)⟩
def rSlS : V → Option Int → Option Int → Hp → VK → Prop := fun x lo hi H Q => ∃ z, x = .str z ∧ z.length ≤ sizeLine ∧ Q (.str (Txt.slice z lo hi)) H
theorem sl_str : SlR X rSlS := by
 intro pins s σ H x v vl vu lo hi sl Q I rx hs pl pu h
 obtain ⟨z, rfl, hz, q⟩ := h
 obtain ⟨t, rfl⟩ := rx
 have e1 : ∃ l : Option (Int × Tok), vl = partValue l ∧ l.map (·.1) = lo := by
  cases pl with
  | none => exact ⟨none, rfl, rfl⟩
  | int i t => exact ⟨some (i, t), rfl, rfl⟩
 have e2 : ∃ l : Option (Int × Tok), vu = partValue l ∧ l.map (·.1) = hi := by
  cases pu with
  | none => exact ⟨none, rfl, rfl⟩
  | int i t => exact ⟨some (i, t), rfl, rfl⟩
 obtain ⟨l, rfl, rfl⟩ := e1
 obtain ⟨u, rfl, rfl⟩ := e2
 refine ⟨"str", _, F.slot_str_getitem.lookup, typeIs_str _ _ _, wpAny_getItem_str_slice (l := l) (u := u) (st := none) hs rfl ?_⟩
 exact post_val_or_str ⟨Nat.le_trans (Txt.slice_le z _ _) hz, fun t' k => ⟨.str (Txt.slice z (l.map (·.1)) (u.map (·.1))), H, I.tok _, ⟨_, rfl⟩, q⟩⟩
def dSlS (t : DT) (tl th : DO) : DT := fun δ Q => t δ fun d => tl δ fun l => th δ fun u => ∃ z, d = .str z ∧ z.length ≤ sizeLine ∧ Q (.str (Txt.slice z l u))
theorem de_sliceS {e : Expr} {lo hi : Option Expr} {t : DT} {tl th : DO} {pos p2 : Pos} (h : DF X H0 O0 e t) (hl : PO X lo (upO X.K H0 O0 tl)) (hu : PO X hi (upO X.K H0 O0 th)) : DE X H0 O0 (.Subscript e (.Slice lo hi none p2) pos) (dSlS t tl th) :=
 (pe_slice sl_str h hl hu).imp fun σ H Q ⟨O, δ, Qd, w, q, k⟩ => ⟨O, δ, _, w, q, fun d v H1 q1 s1 r1 => ⟨O, δ, _, w.mono s1, q1, fun l H2 q2 s2 => ⟨O, δ, _, w.mono (s1.trans s2), q2, fun u H3 ⟨z, e, hz, q3⟩ s3 => by
  subst e
  cases r1.str
  exact ⟨z, rfl, hz, k _ _ H3 q3 (s1.trans (s2.trans s3)) (.str _)⟩⟩⟩⟩
theorem strs_of {K : PySem.W.Frag} {H : Hp} {O : Ex} : ∀ {ys : List Str} {vs : List V} {us : List Value}, Dts K H O vs (ys.map PyData.str) → Vals vs us → StrsAre us ys := by
 intro ys
 induction ys with
 | nil => intro vs us r rv; rw [List.map_nil] at r; cases r; cases rv; exact .nil
 | cons y ys ih =>
  intro vs us r rv
  rw [List.map_cons] at r
  cases r with
  | cons h r =>
   cases h
   cases rv with
   | cons r1 r2 =>
    obtain ⟨t, rfl⟩ := r1
    exact .cons y t (ih r r2)
theorem mt_join : MtR X "str.join" (fun x xs H Q => ∃ (O : Ex) (z : Str) (a : V) (ys : List Str), x = .str z ∧ xs = [a] ∧ Sh X.K H O a (.list (ys.map .str)) ∧ (ys.map (·.length)).sum + ys.length * z.length ≤ 16777216 ∧ Q (.str (Txt.join z ys)) H) := by
 intro pins s σ H x xs v us Q I rx rs h
 obtain ⟨O, z, a, ys, rfl, rfl, ha, hz, q⟩ := h
 obtain ⟨t, rfl⟩ := rx
 obtain ⟨u, rfl, ru⟩ := vals1 rs
 obtain ⟨l, vs, rfl, hl, dl⟩ := ha.lst
 cases ru
 obtain ⟨its, rv, pl, _⟩ := I.list hl
 exact join_list pl.isList (by simpa using strs_of dl rv) hz fun t' k => ⟨.str _, H, I.tok _, ⟨_, rfl⟩, q⟩
def dJoin (to : DT) (t : DT) : DT := fun δ Q => to δ fun x => ∃ z : Str, x = .str z ∧ t δ fun y => ∃ (ys : List Str), y = .list (ys.map .str) ∧ (ys.map (·.length)).sum + ys.length * z.length ≤ 16777216 ∧ Q (.str (Txt.join z ys))
theorem de_join {o e : Expr} {to t : DT} {apos cpos : Pos} (ho : DE X H0 O0 o to) (ha : DF X H0 O0 e t) (hbase : attributeBase o "join" X.env (eval o X.env) = eval o X.env := by rfl)
  (hfew : ((backTo cpos (starEach [e] X.env)).all (fun x => !x.1) && (backToKw cpos (keywordEach [] X.env)).all (fun x => x.1.isSome) && decide ([e].length + ([] : List Keyword).length + (if ([] : List Keyword).isEmpty then 0 else 1) < 30)) = true := by rfl)
  (hline : (apos.endLine == cpos.line) = true := by rfl) (hst : starEach [e] X.env = (false, eval e X.env) :: starEach [] X.env := by rfl) (hplain : (backTo cpos (starEach [] X.env)).any (·.1) = false := by rfl) :
  DE X H0 O0 (.Call (.Attribute o "join" apos) [e] [] cpos) (dJoin to t) :=
 (pe_bm PySem.F.plainAttrs_str PySem.F.slot_str_join PySem.F.type_str_join mt_join ho (pa_cons ha pa_nil hst) hbase hfew hline hst hplain).imp fun σ H Q ⟨O, δ, Qd, w, q, k⟩ => ⟨O, δ, _, w, q, fun x v H1 ⟨z, e, q1⟩ s1 r1 => by
  subst e
  cases r1
  exact ⟨rfl, O, δ, _, w.mono s1, q1, fun y u H2 ⟨ys, e, hz, q2⟩ s2 r2 => by subst e; exact ⟨O, z, u, ys, rfl, rfl, r2, hz, k _ _ H2 q2 (s1.trans s2) (.str _)⟩⟩⟩
def dInt : List PyData → (PyData → Prop) → Prop := fun ds Q => (∃ i, ds = [.int i] ∧ Q (.int i)) ∨ ∃ b, ds = [.bool b] ∧ Q (.int (if b then 1 else 0))
theorem cd_int {K : PySem.W.Frag} : CallD K (fun xs H Q => (∃ i, xs = [.int i] ∧ Q (.int i) H) ∨ ∃ k, xs = [.bl k] ∧ Q (.int (if k then 1 else 0)) H) dInt := fun H O xs ds Qd R tr hs h k => by
 rcases h with ⟨i, e, q⟩ | ⟨b, e, q⟩ <;> subst e
 ·cases hs with
  | cons h r => cases r; cases h.int; exact .inl ⟨i, rfl, k _ _ H q (Same.refl _) (.int _)⟩
 ·cases hs with
  | cons h r => cases r; cases h.bl; exact .inr ⟨b, rfl, k _ _ H q (Same.refl _) (.int _)⟩
def dListOf (t : DA) : DA := fun δ Q => t δ fun ds => ∃ xs, (ds = [.list xs] ∨ ds = [.tuple xs]) ∧ Q xs
theorem fe_listOf {a : Expr} {t : DA} {np p : Pos} (hg : Gl X "list") (hm : X.mg "list" = none) (hv : bootBuiltins "list" = some (.type "list")) (ha : PA X [a] (upB X.K H0 O0 t)) (he : starEach [a] X.env = (false, eval a X.env) :: starEach [] X.env := by rfl) (hpl : (backTo p (starEach [] X.env)).any (·.1) = false := by rfl) : FE X H0 O0 (.Call (.Name "list" np) [a] [] p) (dListOf t) :=
 (pe_callTy call_list_of hg hm hv ha (he := he) (hpl := hpl)).imp fun σ H Q ⟨O, δ, Qd, w, q, k⟩ => ⟨O, δ, _, w, q, fun ds vs H1 ⟨xs, e, q1⟩ s1 r1 => by
  rcases e with e | e <;> subst e
  ·cases r1 with
   | cons h r =>
    cases r
    obtain ⟨a, us, rfl, h1, d1⟩ := h.lst
    exact ⟨a, us, rfl, .inl h1, fun l hl => k _ _ _ _ q1 s1 hl d1⟩
  ·cases r1 with
   | cons h r =>
    cases r
    obtain ⟨a, us, rfl, h1, d1⟩ := h.tup
    exact ⟨a, us, rfl, .inr h1, fun l hl => k _ _ _ _ q1 s1 hl d1⟩⟩
def dRev (t : DT) : DA := fun δ Q => t δ fun d => ∃ xs, d = .list xs ∧ Q xs.reverse
end
end L2

namespace L2
open PySem PySem.Spec PyProof.Rows PySem.W
section
variable {X : Cx} {pins : List (Addr × Obj)} {σ : St} {H : Hp} {s : Shared}
theorem Inv.swap {p : Addr} {o' : HO} (I : Inv X pins σ H s) (mu : Mut (H p)) (new : ObjOk X.prog X.w (upd H p o') s.heap p o') : Inv X pins σ (upd H p o') s := by
 have hp : ∃ o, H p = some o := by
  cases e : H p with
  | none => rw [e] at mu; exact mu.elim
  | some o => exact ⟨o, rfl⟩
 obtain ⟨o, ho⟩ := hp
 have nn : ∀ {b : Addr}, H b = none → b ≠ p := fun hb z => by rw [z, ho] at hb; cases hb
 have nt : ∀ {b : Addr} {xs : List V}, H b = some (.tup xs) → b ≠ p := fun hb z => by rw [z] at hb; rw [hb] at mu; exact mu
 have nw : ∀ {b y : Addr}, H b = some (.own y) → b ≠ p := fun hb z => by rw [z] at hb; rw [hb] at mu; exact mu
 have nf : ∀ {b : Addr} {ob : Obj} {u : HO}, H b = some (.frz ob u) → b ≠ p := fun hb z => by rw [z] at hb; rw [hb] at mu; exact mu
 have nb : ∀ {b : Addr} {ps : Array Value}, H b = some (.tbl ps) → b ≠ p := fun hb z => by rw [z] at hb; rw [hb] at mu; exact mu
 have ub := I.base
 refine ⟨I.ok, I.os, I.bare, ⟨ub.keep, ub.slot, fun b ob e n hx => ?_, ub.there, fun b xs z => ?_, fun b ob u z => ?_, fun b ps z => ?_⟩, I.loc, I.cell, ?_, fun x c e => ?_, fun q hq => ?_, fun b u e => ?_, I.len⟩
 ·have := ub.free b ob e n hx; rw [upd_ne (nn this)]; exact this
 ·have := ub.tups b xs z; rw [upd_ne (nt this)]; exact this
 ·have := ub.frzs b ob u z; rw [upd_ne (nf this)]; exact this
 ·obtain ⟨m, this⟩ := ub.tbls b ps z; exact ⟨m, by rw [upd_ne (nb this)]; exact this⟩
 ·rw [upd_ne (nn I.free)]; exact I.free
 ·have := I.freeC x c e; rw [upd_ne (nn this)]; exact this
 ·obtain ⟨a, b, c⟩ := I.pin q hq
  exact ⟨a, by rw [upd_ne (nn b)]; exact b, c⟩
 ·by_cases hb : b = p
  ·subst hb; rw [upd_same] at e; cases e; exact new
  ·rw [upd_ne hb] at e
   exact (I.hok b u e).stay (fun _ _ _ q => q) (fun c z => by rw [upd_ne (nw z)]; exact z) fun c xs z => by rw [upd_ne (nt z)]; exact z
theorem Inv.open {p : Addr} (I : Inv X pins σ H s) (e : H p = some (packO p)) : ∃ n, Inv X pins σ (upd H p (.lst [.int n])) s := by
 obtain ⟨⟨n, t, k, h⟩, _, _⟩ := (show ObjOk X.prog X.w H s.heap p (packO p) from I.hok p _ e)
 exact ⟨n, I.swap (by rw [e]; exact True.intro) ⟨(show 1 ≤ sizeLine by decide), [.int n t], k, .cons ⟨t, rfl⟩ .nil, h⟩⟩
theorem Inv.shut {p : Addr} {n : Int} (I : Inv X pins σ H s) (e : H p = some (.lst [.int n])) : Inv X pins σ (upd H p (packO p)) s := by
 obtain ⟨_, its, k, r, h⟩ := (show ObjOk X.prog X.w H s.heap p (.lst [.int n]) from I.hok p _ e)
 cases r with
 | cons r1 r2 =>
  cases r2
  obtain ⟨t, rfl⟩ := r1
  refine I.swap (by rw [e]; exact True.intro) ⟨⟨n, t, k, h⟩, ⟨_, h⟩, fun h1 h2 ⟨n, t, k, z⟩ kk => ⟨n, t, k, kk _ z⟩⟩
theorem PSs.pack {st : List Stmt} {t : TS} (h : PSs X st t) : PSs X st (fun D σ H => ∃ p, H p = some (packO p) ∧ ∀ n, t { nx := fun σ' H' => ∃ n', H' p = some (.lst [.int n']) ∧ D.nx σ' (upd H' p (packO p)), rt := fun v H' => ∃ n', H' p = some (.lst [.int n']) ∧ D.rt v (upd H' p (packO p)) } σ (upd H p (.lst [.int n]))) := by
 intro pins s σ H D I ⟨p, e, q⟩
 obtain ⟨n, I1⟩ := I.open e
 refine thn (h pins s σ _ _ I1 (q n)) fun f s1 z => ?_
 cases f with
 | next => obtain ⟨σ', H', J, n', e', q'⟩ := z; exact ⟨σ', _, J.shut e', q'⟩
 | ret u => obtain ⟨v, σ', H', J, r, n', e', q'⟩ := z; exact ⟨v, σ', _, J.shut e', r, q'⟩
 | brk => obtain ⟨_, _, _, z⟩ := z; exact z.elim
 | cont => obtain ⟨_, _, _, z⟩ := z; exact z.elim
theorem PSs.newPack {st : List Stmt} {t : TS} (h : PSs X st t) : PSs X st (fun D σ H => t { nx := fun _ _ => False, rt := fun v H' => ∃ p n, v = .ref p ∧ H' p = some (.lst [.int n]) ∧ D.rt v (upd H' p (packO p)) } σ H) := by
 intro pins s σ H D I q
 refine thn (h pins s σ _ _ I q) fun f s1 z => ?_
 cases f with
 | next => obtain ⟨_, _, _, z⟩ := z; exact z.elim
 | ret u => obtain ⟨v, σ', H', J, r, p, n', e, e', q'⟩ := z; subst e; exact ⟨_, σ', _, J.shut e', r, q'⟩
 | brk => obtain ⟨_, _, _, z⟩ := z; exact z.elim
 | cont => obtain ⟨_, _, _, z⟩ := z; exact z.elim
end
def F_take : List PyData → (PyData → Prop) → Prop := fun ds Q => ∃ z : Int, ds = [packD, .int z] ∧ 0 < z ∧ z ≤ 1000000 ∧ ∀ i : Int, 0 ≤ i → i < z → Q (.int i)
def F_pack : List PyData → (PyData → Prop) → Prop := fun ds Q => ∃ (ns : List Int) (i : Int), ds = [scrD (ns.map .int), .int i] ∧ (∀ z ∈ ns, Builtin.Int.intBits z ≤ 1048576) ∧ 0 ≤ i ∧ i ≤ 64 ∧ Q packD
theorem atI_c0 {α : Type} {a : α} {l : List α} : atI (a :: l) 0 = some a := atI_nat (j := 0) rfl
theorem atI_c1 {α : Type} {a b : α} {l : List α} : atI (a :: b :: l) 1 = some b := atI_nat (j := 1) rfl
theorem atI_c2 {α : Type} {a b c : α} {l : List α} : atI (a :: b :: c :: l) 2 = some c := atI_nat (j := 2) rfl
theorem atI_c3 {α : Type} {a b c d : α} {l : List α} : atI (a :: b :: c :: d :: l) 3 = some d := atI_nat (j := 3) rfl
theorem atI_c4 {α : Type} {a b c d e : α} {l : List α} : atI (a :: b :: c :: d :: e :: l) 4 = some e := atI_nat (j := 4) rfl
theorem shp_int {i : Int} : Shp (.int i) := rfl
theorem shp_bl {i : Bool} : Shp (.bool i) := rfl
theorem shp_non : Shp .none := rfl
theorem eqv_str {x y : Str} : PyData.eqv (.str x) (.str y) = (x == y) := by simp [PyData.eqv]
theorem eqv_int {x y : Int} : PyData.eqv (.int x) (.int y) = (x == y) := by simp [PyData.eqv]
theorem eqv_bool {x y : Bool} : PyData.eqv (.bool x) (.bool y) = (x == y) := by simp [PyData.eqv]
theorem shp_str {x : Str} : Shp (.str x) ↔ PyData.strOk x = true := by
 unfold Shp SeqAt.shaped
 simp [PyData.canLay0, PyData.depth]
theorem sIx_none {n d : Nat} : HT.sIx n d none = d := rfl
theorem sIx_in {n d : Nat} {i : Int} (h0 : 0 ≤ i) (h1 : i ≤ n) : HT.sIx n d (some i) = i.toNat := by
 obtain ⟨j, rfl⟩ := Int.eq_ofNat_of_zero_le h0
 rw [HT.sIx_nat, Int.toNat_natCast]
 omega
theorem cutD_take {xs : List PyData} {i : Int} (h0 : 0 ≤ i) (h1 : i ≤ xs.length) : cutD xs none (some i) = xs.take i.toNat := by
 unfold cutD; rw [sIx_none, sIx_in h0 h1]; simp
theorem cutD_drop {xs : List PyData} {i : Int} (h0 : 0 ≤ i) (h1 : i ≤ xs.length) : cutD xs (some i) none = xs.drop i.toNat := by
 unfold cutD; rw [sIx_none, sIx_in h0 h1, List.take_of_length_le (by rw [List.length_drop]; exact Nat.le_refl _)]
theorem rangeD_at {lo : Int} {n i : Nat} {x : PyData} (h : (rangeD lo n)[i]? = some x) : i < n ∧ x = .int (lo + i) := by
 unfold rangeD at h
 rw [List.getElem?_map] at h
 by_cases hi : i < n
 ·rw [List.getElem?_range hi] at h; exact ⟨hi, (Option.some.inj h).symm⟩
 ·rw [List.getElem?_eq_none (by simpa using hi)] at h; cases h
theorem rangeD_len {lo : Int} {n : Nat} : (rangeD lo n).length = n := by unfold rangeD; simp
end L2

namespace L2
open PySem PySem.Spec PyProof.Rows
section
variable {κ : Type} [DecidableEq κ]
end
section
variable {P : Program} {w : World} {H : Hp} {h : Heap} {a : Addr}
end
section
variable {X : Cx} {pins : List (Addr × Obj)} {σ : St} {H : Hp} {s : Shared} {a : Addr} {y v : V} {u r : Value} {o : Option V} {A : Around} {E : Value → Shared → Prop}
end
section
variable {X : Cx} {pins : List (Addr × Obj)} {σ : St} {H : Hp} {s : Shared} {a : Addr} {kvs : List (Key × V)} {k : Key} {u : Value} {A : Around} {E : Value → Shared → Prop}
end
section
variable {X : Cx} {o i e value : Expr} {pos pos' tpos : Pos} {td ty tv : TE}
end
section
variable {X : Cx} {pos : Pos}
end
section
variable {X : Cx} {pins : List (Addr × Obj)} {σ : St} {H : Hp} {s : Shared} {a : Addr} {y d : V} {u r : Value} {o : Option V} {A : Around} {E : Value → Shared → Prop}
end
section
variable {X : Cx} {o e f : Expr} {apos cpos : Pos} {td ty tx : TE}
end
section
variable {X : Cx} {pins : List (Addr × Obj)} {σ : St} {H : Hp} {s : Shared} {a : Addr} {kvs : List (Key × V)} {A : Around} {E : Value → Shared → Prop}
end
section
variable {X : Cx} {pins : List (Addr × Obj)} {σ : St} {H : Hp} {s : Shared} {a : Addr} {y : V} {u : Value} {A : Around} {E : Value → Shared → Prop}
end
end L2

namespace L2
open PySem PySem.Spec PyProof.Rows PySem.W
section
variable {X : Cx} {H0 : Hp} {O0 : Ex}
def dSel (a b c d : Str) (t : DT) : DT := fun δ Q => t δ fun y => (y = .str a ∧ Q (.str c)) ∨ (y = .str b ∧ Q (.str d))
def litsOf : List Expr → Option (List PyData)
 | [] => some []
 | .Constant (.int i) _ _ :: r => (litsOf r).map (.int i :: ·)
 | .Constant (.str x) _ _ :: r => (litsOf r).map (.str x :: ·)
 | _ :: _ => none
def dLits (ds : List PyData) : DA := fun _ Q => Q ds
theorem da_lits : ∀ {es : List Expr} {ds : List PyData}, litsOf es = some ds → PA X es (upA X.K H0 O0 (dLits ds))
 | [], ds, h => by cases h; exact da_nil
 | e :: r, ds, h => by
  cases e with
  | Constant c j p =>
   cases c with
   | int i =>
    have h' : (litsOf r).map (.int i :: ·) = some ds := h
    cases q : litsOf r with
    | none => rw [q] at h'; cases h'
    | some ms => rw [q] at h'; cases h'; exact da_cons de_int (da_lits q)
   | str x =>
    have h' : (litsOf r).map (.str x :: ·) = some ds := h
    cases q : litsOf r with
    | none => rw [q] at h'; cases h'
    | some ms => rw [q] at h'; cases h'; exact da_cons de_str (da_lits q)
   | _ => cases h
  | _ => cases h
def litsE : Expr → Option (List PyData)
 | .List es _ => litsOf es
 | _ => none
theorem fe_lits {e : Expr} {ds : List PyData} (h : litsE e = some ds) : FE X H0 O0 e (dFin (dLits ds)) := by
 cases e with
 | List es p => exact fe_lst (da_lits h)
 | _ => cases h
theorem swaps_lits {e : Expr} {ds : List PyData} {x : Option Expr} {n : Nat} {env : Env} (h : litsE e = some ds) : swapsWith e x n env = pure false := by
 cases e with
 | List es p => rfl
 | _ => cases h
end
end L2

namespace L2
open PySem PySem.Spec PyProof.Rows PySem.W
theorem strOk_iff {x : Str} : PyData.strOk x = true ↔ ∀ c ∈ x.cps.toList, c < 0x110000 := by
 unfold PyData.strOk
 rw [← Array.all_toList, List.all_eq_true]
 simp
theorem cps_append (x y : Str) : (x ++ y).cps = x.cps ++ y.cps := rfl
theorem len_append (x y : Str) : (x ++ y).length = x.length + y.length := by
 show (x.cps ++ y.cps).size = _
 rw [Array.size_append]; rfl
theorem ext_mid {a b : Str} {c d : Nat} (h : a ++ ⟨#[c]⟩ ++ b = a ++ ⟨#[d]⟩ ++ b) : c = d := by
 have h1 := congrArg (fun s : Str => s.cps.toList) h
 simp only [cps_append, Array.toList_append] at h1
 have h2 := List.append_cancel_right h1
 have h3 := List.append_cancel_left h2
 simpa using h3
def abc : Str := "abcdefghijklmnopqrstuvwxyz"
theorem abc_len : abc.cps.toList.length = 26 := by decide +kernel
theorem abc_nd : abc.cps.toList.Nodup := by decide +kernel
theorem abc_ok : ∀ c ∈ abc.cps.toList, c < 0x110000 := by decide +kernel
theorem abc_at {j : Int} (h0 : 0 ≤ j) (h1 : j < 26) : ∃ c, atI abc.cps.toList j = some c ∧ abc.cps.toList[j.toNat]? = some c ∧ c < 0x110000 := by
 obtain ⟨k, rfl⟩ := Int.eq_ofNat_of_zero_le h0
 have hk : k < abc.cps.toList.length := by rw [abc_len]; omega
 refine ⟨abc.cps.toList[k], atI_nat (by simp [hk]), by simp [hk], abc_ok _ (List.getElem_mem hk)⟩
def abcAt (j : Int) : Nat := (abc.cps.toList[j.toNat]?).getD 0
theorem abcAt_at {j : Int} (h0 : 0 ≤ j) (h1 : j < 26) : atI abc.cps.toList j = some (abcAt j) ∧ abcAt j < 0x110000 := by
 obtain ⟨c, e1, e2, e3⟩ := abc_at h0 h1
 have : abcAt j = c := by unfold abcAt; rw [e2]; rfl
 rw [this]; exact ⟨e1, e3⟩
theorem abcAt_inj {i j : Int} (h0 : 0 ≤ i) (h1 : i < 26) (g0 : 0 ≤ j) (g1 : j < 26) (e : abcAt i = abcAt j) : i = j := by
 obtain ⟨c, _, e2, _⟩ := abc_at h0 h1
 obtain ⟨d, _, e4, _⟩ := abc_at g0 g1
 have a : abcAt i = c := by unfold abcAt; rw [e2]; rfl
 have b : abcAt j = d := by unfold abcAt; rw [e4]; rfl
 have cd : c = d := by rw [← a, ← b, e]
 subst cd
 have hi : i.toNat < abc.cps.toList.length := (List.getElem?_eq_some_iff.mp e2).1
 have := (List.getElem?_inj (l := abc.cps.toList) (i := i.toNat) (j := j.toNat) hi abc_nd).mp (by rw [e2, e4])
 omega
structure Lay (n : Nat) (d : PyData) : Prop where
 can : d.canLay0 = true
 dep : d.depth ≤ n
theorem Lay.shp {n : Nat} {d : PyData} (h : Lay n d) (hn : n ≤ 64) : SeqAt.shaped d = true := by
 unfold SeqAt.shaped; rw [h.can, decide_eq_true (Nat.le_trans h.dep hn)]; rfl
theorem Lay.mono {n m : Nat} {d : PyData} (h : Lay n d) (hn : n ≤ m) : Lay m d := ⟨h.can, Nat.le_trans h.dep hn⟩
theorem lay_str {x : Str} (h : PyData.strOk x = true) : Lay 1 (.str x) := ⟨by simpa [PyData.canLay0] using h, by simp [PyData.depth]⟩
theorem lay_int {i : Int} : Lay 1 (.int i) := ⟨by simp [PyData.canLay0], by simp [PyData.depth]⟩
theorem lay_bool {i : Bool} : Lay 1 (.bool i) := ⟨by simp [PyData.canLay0], by simp [PyData.depth]⟩
theorem lay_all {n : Nat} : ∀ {ds : List PyData}, (∀ d ∈ ds, Lay n d) → PyData.canLayAll0 ds = true ∧ PyData.depthAll ds ≤ n
 | [], _ => ⟨by simp [PyData.canLayAll0], by simp [PyData.depthAll]⟩
 | d :: r, h => by
  obtain ⟨a, b⟩ := lay_all (ds := r) fun e he => h e (by simp [he])
  have c := h d (by simp)
  refine ⟨by rw [PyData.canLayAll0, c.can, a]; rfl, ?_⟩
  rw [PyData.depthAll]
  exact Nat.max_le.mpr ⟨c.dep, b⟩
theorem lay_tup {n : Nat} {ds : List PyData} (h : ∀ d ∈ ds, Lay n d) : Lay (n + 1) (.tuple ds) := by
 obtain ⟨a, b⟩ := lay_all h
 refine ⟨by simpa [PyData.canLay0] using a, ?_⟩
 rw [PyData.depth]; omega
end L2

namespace L2
open PySem PySem.Spec PyProof.Rows
section
variable {X : Cx} {pos : Pos}
end
section
variable {X : Cx} {H0 : Hp} {O0 : Ex}
section
variable {tg iter elt : Expr} {ifs : List Expr} {scope : Scope} {N' : List Str} {k : Nat} {fr : List Nat} {g : TG} {dg : DG} {t : DT} {ta : DA} {tc : DB} {te : DT} {pos p ps : Pos}
end
end
mutual
theorem eqv_comm : ∀ d e : PyData, PyData.eqv d e = PyData.eqv e d
 | .list xs, .list ys => by rw [PyData.eqv, PyData.eqv]; exact eqvAll_comm xs ys
 | .tuple xs, .tuple ys => by rw [PyData.eqv, PyData.eqv]; exact eqvAll_comm xs ys
 | .bool _, .bool _ | .int _, .int _ | .str _, .str _ => by simp only [PyData.eqv]; exact BEq.comm
 | .bool a, .int j | .int j, .bool a => by simp only [PyData.eqv]; exact BEq.comm
 | .none, .none => rfl
 | .dict _, .dict _ => by simp only [PyData.eqv]
 | .none, .bool _ | .none, .int _ | .none, .str _ | .none, .list _ | .none, .tuple _ | .none, .dict _ => by simp only [PyData.eqv]
 | .bool _, .none | .bool _, .str _ | .bool _, .list _ | .bool _, .tuple _ | .bool _, .dict _ => by simp only [PyData.eqv]
 | .int _, .none | .int _, .str _ | .int _, .list _ | .int _, .tuple _ | .int _, .dict _ => by simp only [PyData.eqv]
 | .str _, .none | .str _, .bool _ | .str _, .int _ | .str _, .list _ | .str _, .tuple _ | .str _, .dict _ => by simp only [PyData.eqv]
 | .list _, .none | .list _, .bool _ | .list _, .int _ | .list _, .str _ | .list _, .tuple _ | .list _, .dict _ => by simp only [PyData.eqv]
 | .tuple _, .none | .tuple _, .bool _ | .tuple _, .int _ | .tuple _, .str _ | .tuple _, .list _ | .tuple _, .dict _ => by simp only [PyData.eqv]
 | .dict _, .none | .dict _, .bool _ | .dict _, .int _ | .dict _, .str _ | .dict _, .list _ | .dict _, .tuple _ => by simp only [PyData.eqv]
theorem eqvAll_comm : ∀ xs ys : List PyData, PyData.eqvAll xs ys = PyData.eqvAll ys xs
 | [], [] => rfl
 | x :: xs, y :: ys => by rw [PyData.eqvAll, PyData.eqvAll, eqv_comm x y, eqvAll_comm xs ys]
 | [], _ :: _ => by rw [PyData.eqvAll, PyData.eqvAll]
 | _ :: _, [] => by rw [PyData.eqvAll, PyData.eqvAll]
end
end L2

namespace L2
open PySem PySem.Spec PyProof.Rows PySem.W
def Its (z : Str) : It := ⟨fun i _ => i < z.cps.size, fun i H x H' => H' = H ∧ ∃ c, z.cps[i]? = some c ∧ x = .str ⟨#[c]⟩, fun i _ => z.cps.size ≤ i⟩
theorem itype_ok (z : Str) : ["enumerate", "zip", "dict_itemiterator", "dict_reverseitemiterator", "odict_iterator", "itertools.zip_longest", "itertools.pairwise"].contains (strIterType z) = false := by
 unfold strIterType; split <;> decide
theorem walks_str {P : Program} {w : World} {A : Around} (hh : A.handled = none) (I : Addr) (z : Str) (t : Tok) : Walks P w A I [I] [I] z.cps.size (SignAt z) (fun i h => h.IsStrIter I (strIterType z) z t i) := by
 unfold strIterType; split
 ·exact Walks.strAscii hh I z t
 ·exact Walks.strWide hh I z t
theorem turn_str {P : Program} {w : World} {K : PySem.W.Frag} {tg : Expr} (it : Addr) (z : Str) (t : Tok) : Turn P w K tg (Its z) [it] it (fun i h => h.IsStrIter it (strIterType z) z t i ∧ i ≤ z.cps.size) where
 mem := by simp
 obj := fun i h st b hb => by
  have e : b = it := by simpa using hb
  subst e
  obtain ⟨⟨o, e, c, d⟩, _⟩ := st
  exact ⟨o, e, fun v z => by rw [d] at z; cases z⟩
 keep := fun i h h' st k => by
  obtain ⟨⟨o, e, c, d⟩, l⟩ := st
  exact ⟨⟨o, k it (by simp) o e, c, d⟩, l⟩
 item := by
  intro X hP hw hK hc i pins s σ H E I hf st hg
  subst hP hw hK
  obtain ⟨f0, f1, f2, f3, f4, f5⟩ := hf it (by simp)
  have W := walks_str (P := X.prog) (w := X.w) (I.ok.hd hc) it z t
  refine W.item i s _ _ hg st.1 fun v h' tk hv st' kk => ?_
  obtain ⟨c, u, hc', rfl⟩ := hv
  have I1 : Inv X pins σ H { s with heap := h', toks := tk } := I.turned (fun b o hb e => kk b o (by simpa using hb) e) f0 f1 f3 f4 f5
  obtain ⟨o, e, cc, d⟩ := id st'
  exact ⟨_, rfl, go_of (s := { s with heap := h', toks := tk }) e cc d (itype_ok z) ⟨.str ⟨#[c]⟩, H, I1, ⟨u, rfl⟩, ⟨rfl, c, hc', rfl⟩, ⟨st', hg⟩, fun b hb => (hf b hb).1⟩⟩
 done := by
  intro X hP hw hK hc i pins s σ H E I hf st hg
  subst hP hw hK
  obtain ⟨f0, f1, f2, f3, f4, f5⟩ := hf it (by simp)
  have W := walks_str (P := X.prog) (w := X.w) (I.ok.hd hc) it z t
  have e : i = z.cps.size := Nat.le_antisymm st.2 hg
  subst e
  exact W.done s _ _ st.1 fun h' tk eb => ⟨rfl, I.turned (fun b o hb e => eb b o (by simpa using hb) e) f0 f1 f3 f4 f5⟩
 self := fun A i s Q E st h => by
  obtain ⟨st, _⟩ := st
  revert st
  unfold strIterType
  split
  ·exact fun st => wpAny_pyIter_striter_ascii st h
  ·exact fun st => wpAny_pyIter_striter_wide st h
def iStr (tl : TE) : TI := fun σ H R => tl σ H fun x H1 => ∃ z, x = .str z ∧ R (Its z) H1
theorem pi_str {X : Cx} {tg l : Expr} {tl : TE} (hl : PE X l tl) : PI X tg l (iStr tl) := by
 intro pins s σ H R I h
 refine thn (hl pins s σ H _ I h) fun v s1 ⟨x, H1, I1, r1, q1⟩ => ?_
 obtain ⟨z, e, q⟩ := q1
 subst e
 obtain ⟨t, rfl⟩ := r1
 refine wpAny_pyIter_strU ?_
 refine ⟨s1.heap.objs.size, [s1.heap.objs.size], _, _, H1, rfl, I1.kept (t' := s1.toks) fun b o e => Heap.get?_push_of_some _ e, turn_str _ z t, ⟨⟨_, Heap.get?_push_size _ rfl, rfl, rfl⟩, Nat.zero_le _⟩, fun b hb => ?_, q⟩
 have e : b = s1.heap.objs.size := by simpa using hb
 subst e
 exact I1.fpOk (Nat.le_refl _) (I1.hok.fresh (Nat.le_refl _))
def signsD (z : Str) : List PyData := z.cps.toList.map fun c => .str ⟨#[c]⟩
theorem SrcP.str {z : Str} : SrcP (Its z) (fun _ => True) (z.cps.toList.map fun c => V.str ⟨#[c]⟩) := by
 refine ⟨fun i H' s hi => (by simpa using hi : i < z.cps.size), fun i H' x H'' s hi y => ⟨y.1, ?_⟩, fun i H' s hi => (by simpa using hi : z.cps.size ≤ i)⟩
 obtain ⟨_, c, hc, rfl⟩ := y
 simp [hc]
theorem Dts.signs {K : PySem.W.Frag} {H : Hp} {O : Ex} : ∀ (l : List Nat), Dts K H O (l.map fun c => V.str ⟨#[c]⟩) (l.map fun c => PyData.str ⟨#[c]⟩)
 | [] => .nil
 | n :: r => .cons (.str _) (Dts.signs r)
section
variable {X : Cx} {H0 : Hp} {O0 : Ex}
def dCompSI (t : DT) (g : DG) (tc : DB) (te : DT) (k : Nat) (fr : List Nat) : DA := fun δ Q => t δ fun d => ∃ z, d = .str z ∧ z.length ≤ sizeLine ∧ compI g tc te (dst0 k fr δ) (signsD z) Q
def dCompR2I (ta : DA) (g : DG) (tc : DB) (te : DT) (k : Nat) (fr : List Nat) : DA := fun δ Q => ta δ fun ds => ∃ i j : Int, ds = [.int i, .int j] ∧ -(2 ^ 62) ≤ i ∧ j - i < sizeLine ∧ i < 2 ^ 62 ∧ -(2 ^ 62) ≤ j ∧ j < 2 ^ 62 ∧ compI g tc te (dst0 k fr δ) (rangeD i (j - i).toNat) Q
section
variable {tg iter elt : Expr} {ifs : List Expr} {scope : Scope} {N' : List Str} {k : Nat} {fr : List Nat} {g : TG} {dg : DG} {t : DT} {ta : DA} {tc : DB} {te : DT} {pos p ps : Pos}
theorem fe_compSI (hc : X.calm = true) (S : CompScope X.env.scope X.N N' k fr scope) (hi : DF X H0 O0 iter t) (gd : GD X.K g dg) (hk : KeepG g k) (hfr : fr.Nodup)
  (hg : ∀ fp C s H, PG (compCx X scope N' fp C s H) tg g) (hf : ∀ fp C s H, PIfs (compCx X scope N' fp C s H) ifs (upT X.K H0 O0 tc)) (he : ∀ fp C s H, PE (compCx X scope N' fp C s H) elt (up X.K H0 O0 te))
  (hs : ∀ x, foldedSetIterable iter X.env x = pure x := by intro _; rfl) : FE X H0 O0 (.ListComp elt [⟨tg, iter, ifs, 0⟩] scope pos) (dCompSI t dg tc te k fr) :=
 (pe_comp hc S (pi_str hi) hg hf he hs).imp fun σ H Q ⟨O, δ, Qd, w, q, kk⟩ => ⟨O, δ, _, w, q, fun d v H1 ⟨z, e, hz, q1⟩ s1 r1 => by
  subst e
  cases r1.str
  have hz' : (z.cps.toList.map fun c => V.str ⟨#[c]⟩).length ≤ sizeLine := by rw [List.length_map, Array.length_toList]; exact hz
  exact ⟨z, rfl, fun D hD => comp_stepI (P := fun _ => True) SrcP.str gd hfr (fun v _ H' R h => hk fr σ v H' R h) (fun _ _ _ z => z) (fun _ _ _ z => z) (fun _ _ _ _ => trivial) (Dts.signs _) (w.mono s1) hz' q1 (fun ds us p H' z s' hp r' => kk ds us p H' z (s1.trans s') hp r') D hD⟩⟩
theorem fe_compR2I (hc : X.calm = true) {a b : Expr} (S : CompScope X.env.scope X.N N' k fr scope) (hgl : Gl X "range") (hm : X.mg "range" = none) (ha : PA X [a, b] (upB X.K H0 O0 ta)) (gd : GD X.K g dg) (hk : KeepG g k) (hfr : fr.Nodup)
  (hg : ∀ fp C s H, PG (compCx X scope N' fp C s H) tg g) (hf : ∀ fp C s H, PIfs (compCx X scope N' fp C s H) ifs (upT X.K H0 O0 tc)) (he : ∀ fp C s H, PE (compCx X scope N' fp C s H) elt (up X.K H0 O0 te))
  (hst : starEach [a, b] X.env = [(false, eval a X.env), (false, eval b X.env)] := by rfl) (hst2 : starEach [b] X.env = [(false, eval b X.env)] := by rfl) (hs : ∀ x, foldedSetIterable (.Call (.Name "range" p) [a, b] [] ps) X.env x = pure x := by intro _; rfl) :
  FE X H0 O0 (.ListComp elt [⟨tg, (.Call (.Name "range" p) [a, b] [] ps), ifs, 0⟩] scope pos) (dCompR2I ta dg tc te k fr) :=
 (pe_comp hc S (pi_range2 hgl hm ha hst hst2) hg hf he hs).imp fun σ H Q ⟨O, δ, Qd, w, q, kk⟩ => ⟨O, δ, _, w, q, fun ds vs H1 ⟨i, j, e, b1, b2, b3, b4, b5, q1⟩ s1 r1 => by
  subst e
  cases r1 with
  | cons r1 r2 =>
   cases r2 with
   | cons r2 r3 =>
    cases r3
    cases r1.int
    cases r2.int
    exact ⟨i, j, rfl, ⟨b1, b3, b4, b5⟩, fun D hD => comp_stepI (P := fun _ => True) SrcP.rng gd hfr (fun v _ H' R h => hk fr σ v H' R h) (fun _ _ _ z => z) (fun _ _ _ z => z) (fun _ _ _ _ => trivial) (Dts.rng _) (w.mono s1) (by rw [List.length_map, List.length_range]; omega) q1 (fun ds us p H' z s' hp r' => kk ds us p H' z (s1.trans s') hp r') D hD⟩⟩
end
def rInX (K : PySem.W.Frag) (neg : Bool) : R2 := fun x y H Q => ∃ O dx ds dy, Sh K H O x dx ∧ Sh K H O y dy ∧ (dy = .list ds ∨ dy = .tuple ds) ∧ Shp dx ∧ PyData.canLayAll0 ds = true ∧ Q (.bl (if neg then !(ds.any fun d => PyData.eqv d dx) else ds.any fun d => PyData.eqv d dx)) H
theorem room_in {A : Around} {k : Nat} {xs : List PyData} {d : PyData} (hd : Shp d) (hr : Room k A) : A.units + 1 + min (PyData.depthAll xs) d.depth < cLine := by
 have := SeqAt.depth_of_shaped hd
 have h1 : min (PyData.depthAll xs) d.depth ≤ d.depth := Nat.min_le_right _ _
 have := hr.un
 omega
theorem op_inX {k : Nat} (hr : Room k X.A) : OpR X (compareOp .In) (rInX X.K false) := by
 intro pins s σ H x y v u Q I rx ry h
 obtain ⟨O, dx, ds, dy, hx, hy, e, sx, sy, q⟩ := h
 obtain ⟨as, ra⟩ := dt_reads I hx.all (SeqAt.canLay_of_shaped sx) rx
 rcases e with e | e <;> subst e
 ·obtain ⟨bs, rb⟩ := dt_reads I hy.all (by simpa [PyData.canLay0] using sy) ry
  exact SeqAt.in_list_reads rb ra sy (SeqAt.canLay_of_shaped sx) (room_in sx hr) (fin_bl I q rfl)
 ·obtain ⟨bs, rb⟩ := dt_reads I hy.all (by simpa [PyData.canLay0] using sy) ry
  exact SeqAt.in_tuple_reads rb ra sy (SeqAt.canLay_of_shaped sx) (room_in sx hr) (fin_bl I q rfl)
def dInX (neg : Bool) : PyData → PyData → (PyData → Prop) → Prop := fun x y Q => ∃ ds, (y = .list ds ∨ y = .tuple ds) ∧ Shp x ∧ PyData.canLayAll0 ds = true ∧ Q (.bool (if neg then !(ds.any fun d => PyData.eqv d x) else ds.any fun d => PyData.eqv d x))
theorem od_inX {K : PySem.W.Frag} {neg : Bool} : OpD K (rInX K neg) (dInX neg) := fun H O x y dx dy Qd R _ hx hy ⟨ds, e, a, b, q⟩ k => ⟨O, dx, ds, dy, hx, hy, e, a, b, k _ _ H q (Same.refl _) (.bl _)⟩
def dLenT : List PyData → (PyData → Prop) → Prop := fun ds Q => ∃ z : Str, ds = [.str z] ∧ z.length ≤ sizeLine ∧ Q (.int z.length)
theorem cd_lenT {K : PySem.W.Frag} : CallD K (fun xs H Q => ∃ z, xs = [.str z] ∧ z.length ≤ sizeLine ∧ Q (.int z.length) H) dLenT := fun H O xs ds Qd R _ hs ⟨z, e, hz, q⟩ k => by
 subst e
 cases hs with
 | cons h r => cases r; cases h.str; exact ⟨z, rfl, hz, k _ _ H q (Same.refl _) (.int _)⟩
def dLtS : PyData → PyData → (PyData → Prop) → Prop := fun x y Q => ∃ i j : Str, x = .str i ∧ y = .str j ∧ Q (.bool (decide (i.cps.toList < j.cps.toList)))
theorem od_ltS {K : PySem.W.Frag} : OpD K (fun x y H Q => ∃ i j, x = .str i ∧ y = .str j ∧ Q (.bl (decide (i.cps.toList < j.cps.toList))) H) dLtS := fun H O x y dx dy Qd R _ hx hy ⟨i, j, e1, e2, q⟩ k => by
 subst e1 e2; cases hx.str; cases hy.str; exact ⟨i, j, rfl, rfl, k _ _ H q (Same.refl _) (.bl _)⟩
def dInS : PyData → PyData → (PyData → Prop) → Prop := fun x y Q => ∃ i j : Str, x = .str i ∧ y = .str j ∧ Q (.bool (!(Builtin.Str.occurrences j i 0 j.length 1).isEmpty))
theorem od_inS {K : PySem.W.Frag} : OpD K (fun x y H Q => ∃ i j, x = .str i ∧ y = .str j ∧ Q (.bl (!(Builtin.Str.occurrences j i 0 j.length 1).isEmpty)) H) dInS := fun H O x y dx dy Qd R _ hx hy ⟨i, j, e1, e2, q⟩ k => by
 subst e1 e2; cases hx.str; cases hy.str; exact ⟨i, j, rfl, rfl, k _ _ H q (Same.refl _) (.bl _)⟩
theorem getItem_tuple_whole {prog : Program} {w : World} {A : Around} {E : Value → Shared → Prop} {s : Shared} {t sl : Addr} {items : Array Value} {vl vu : Value} {lo hi : Option Int} {Q : Value → Shared → Prop} (ht : IsTup s.heap t items) (hs : s.heap.IsSliceOf sl vl vu .none) (pl : IsPart vl lo) (pu : IsPart vu hi)
  (hw : HT.sIx items.size 0 lo = 0 ∧ HT.sIx items.size items.size hi = items.size) (h : Q (.ref t) s) : wpAny (model prog w) A (getItem (.ref t) (.ref sl)) Q E s := by
 obtain ⟨os, hos, hcs, hds⟩ := id hs
 have hTs : s.TypeIs (.ref sl) "slice" := ⟨os, hos, hcs⟩
 unfold getItem
 try with_reducible refine wpAny_holding ?_
 first | refine wpAny_bind (wpAny_pure ?_) | skip
 refine wpAny_bind (wpAny_sequenceKey ht.typeIs (by decide) ?_)
 refine wpAny_bind (wpAny_callSpecial?_slot (name := Str.ofString "__getitem__") ht.typeIs PyProof.Rows.slot_tuple_getitem
  (wpAny_call_entry PyProof.Rows.slot_tuple_getitem ht.typeIs PyProof.Rows.entry_tuple_getitem ?_ (PyProof.Rows.args_tuple_getitem _ _)))
 show wpAny _ _ (Builtin.Tuple.tupleItemsOf (.ref t) >>= _) _ _ s
 refine wpAny_bind (tupleItemsOf_ ht ?_)
 refine wpAny_bind (wpAny_typeOf hTs ?_)
 rw [if_pos (by decide)]
 refine wpAny_bind (HT.sliceApplied_gen hs pl pu ?_)
 show wpAny _ _ (if (((HT.sIx items.size 0 lo : Nat) : Int) == 0 && (1 : Int) == 1 && (HT.sIx items.size items.size hi - HT.sIx items.size 0 lo) == items.size) = true then _ else _) _ _ s
 rw [if_pos (by rw [hw.1, hw.2]; simp)]
 unfold Builtin.Tuple.tupleIsExact
 refine wpAny_bind (wpAny_bind (wpAny_typeOf ht.typeIs (wpAny_pure ?_)))
 rw [if_pos (by decide)]
 exact wpAny_bind (wpAny_rule (wpAny_pure ⟨_, rfl, wpAny_pure h⟩))
def rSlX (K : PySem.W.Frag) : V → Option Int → Option Int → Hp → VK → Prop := fun x lo hi H Q => ∃ a xs, x = .ref a ∧ SqT K H a xs ∧
 ((HT.sIx xs.length 0 lo = 0 ∧ HT.sIx xs.length xs.length hi = xs.length) → Q x H) ∧ (¬ (HT.sIx xs.length 0 lo = 0 ∧ HT.sIx xs.length xs.length hi = xs.length) → ∀ p, H p = none → Q (.ref p) (upd H p (.tup (cutV xs lo hi))))
theorem sl_tupX : SlR X (rSlX X.K) := by
 intro pins s σ H x v vl vu lo hi sl Q I rx hs pl pu h
 obtain ⟨a, xs, rfl, hx, q1, q2⟩ := h
 by_cases hw : HT.sIx xs.length 0 lo = 0 ∧ HT.sIx xs.length xs.length hi = xs.length
 ·cases rx
  obtain ⟨its, r, ht, hz⟩ := I.tuple hx
  have hlen : its.toArray.size = xs.length := by rw [List.size_toArray]; exact r.length.symm
  refine ⟨"tuple", _, PyProof.Rows.slot_tuple_getitem.lookup, ht.typeIs, ?_⟩
  exact getItem_tuple_whole ht hs pl pu (by rw [hlen]; exact hw) ⟨.ref a, H, I, rfl, q1 hw⟩
 ·exact sl_tup pins s σ H _ v vl vu lo hi sl Q I rx hs pl pu ⟨a, xs, rfl, hx, hw, q2 hw⟩
theorem cutD_whole {xs : List PyData} {l u : Option Int} (h : HT.sIx xs.length 0 l = 0 ∧ HT.sIx xs.length xs.length u = xs.length) : cutD xs l u = xs := by
 unfold cutD; rw [h.1, h.2]; simp
def dSlX (t : DT) (tl th : DO) : DT := fun δ Q => t δ fun d => tl δ fun l => th δ fun u => ∃ xs, d = .tuple xs ∧ Q (.tuple (cutD xs l u))
theorem de_sliceX {e : Expr} {lo hi : Option Expr} {t : DT} {tl th : DO} {pos p2 : Pos} (h : DF X H0 O0 e t) (hl : PO X lo (upO X.K H0 O0 tl)) (hu : PO X hi (upO X.K H0 O0 th)) : DE X H0 O0 (.Subscript e (.Slice lo hi none p2) pos) (dSlX t tl th) :=
 (pe_slice sl_tupX h hl hu).imp fun σ H Q ⟨O, δ, Qd, w, q, k⟩ => ⟨O, δ, _, w, q, fun d v H1 q1 s1 r1 => ⟨O, δ, _, w.mono s1, q1, fun l H2 q2 s2 => ⟨O, δ, _, w.mono (s1.trans s2), q2, fun u H3 ⟨xs, e, q3⟩ s3 => by
  subst e
  have r3 := r1.mono (s2.trans s3)
  have r4 := r3
  obtain ⟨a, vs, rfl, h1, d1⟩ := r4.tup
  refine ⟨a, vs, rfl, h1, fun hw => ?_, fun _ p hp => k _ _ _ q3 (s1.trans (s2.trans (s3.trans (Same.new hp)))) (.tup (.inl upd_same) (nex w (s1.trans (s2.trans s3)) hp) ((d1.cut l u).mono (Same.new hp)))⟩
  rw [d1.length] at hw
  rw [cutD_whole hw] at q3
  cases r3 with
  | dt r3 => exact k _ _ _ q3 (s1.trans (s2.trans s3)) r3⟩⟩⟩
def leS (a b : Str) : Bool := decide (a.cps.toList ≤ b.cps.toList)
def sortS (l : List Str) : List Str := l.mergeSort leS
theorem leS_trans (a b c : Str) (h : leS a b = true) (h' : leS b c = true) : leS a c = true :=
 decide_eq_true (List.le_trans (of_decide_eq_true h) (of_decide_eq_true h'))
theorem leS_total (a b : Str) : (leS a b || leS b a) = true := by
 rcases List.le_total a.cps.toList b.cps.toList with h | h
 ·unfold leS; rw [decide_eq_true h]; rfl
 ·unfold leS; rw [decide_eq_true h, Bool.or_true]
theorem str_ext {a b : Str} (h : a.cps.toList = b.cps.toList) : a = b := by
 cases a; cases b; congr 1; exact Array.ext' h
theorem leS_anti {a b : Str} (h : leS a b = true) (h' : leS b a = true) : a = b := str_ext (List.le_antisymm (of_decide_eq_true h) (of_decide_eq_true h'))
theorem sortS_perm (l : List Str) : (sortS l).Perm l := List.mergeSort_perm l leS
theorem sortS_pw (l : List Str) : (sortS l).Pairwise fun a b => leS a b = true := List.pairwise_mergeSort leS_trans leS_total l
theorem sortS_uniq {l m : List Str} (h : m.Perm l) (p : m.Pairwise fun a b => leS a b = true) : m = sortS l :=
 List.Perm.eq_of_pairwise (fun a b _ _ x y => leS_anti x y) p (sortS_pw l) (h.trans (sortS_perm l).symm)
theorem pw_of_risingS : ∀ (p : Str) (l : List Str), risingS p l = true → (p :: l).Pairwise fun a b => leS a b = true
 | p, [], _ => by simp
 | p, x :: r, h => by
  rw [risingS, Bool.and_eq_true, Bool.not_eq_true', ltCps_eq, decide_eq_false_iff_not] at h
  have h1 : leS p x = true := decide_eq_true (List.not_lt.mp h.1)
  have h2 := pw_of_risingS x r h.2
  rw [List.pairwise_cons]
  refine ⟨fun y hy => ?_, h2⟩
  rcases List.mem_cons.mp hy with z | z
  ·rw [z]; exact h1
  ·exact leS_trans p x y h1 ((List.pairwise_cons.mp h2).1 y z)
theorem pw_of_sortedS : ∀ (l : List Str), sortedS l = true → l.Pairwise fun a b => leS a b = true
 | [], _ => .nil
 | x :: r, h => pw_of_risingS x r h
theorem vals_strs : ∀ {ys : List Str} {us : List Value}, Vals (ys.map V.str) us → StrsAre us ys := by
 intro ys
 induction ys with
 | nil => intro us rv; cases rv; exact .nil
 | cons y ys ih =>
  intro us rv
  rw [List.map_cons] at rv
  cases rv with
  | cons r1 r2 => obtain ⟨t, rfl⟩ := r1; exact .cons y t (ih r2)
theorem strs_vals : ∀ {ys : List Str} {us : List Value}, StrsAre us ys → Vals (ys.map V.str) us
 | _, _, .nil => .nil
 | _, _, .cons y t r => .cons ⟨t, rfl⟩ (strs_vals r)
theorem call_sortedS : CallR X (.builtin "sorted") (fun xs H Q => ∃ p ss, xs = [.ref p] ∧ SqL X.K H p (ss.map V.str) ∧ ss.length < 64 ∧ ∀ l, H l = none → Q (.ref l) (upd H l (.lst ((sortS ss).map V.str)))) := by
 intro pins s σ H xs us Q I r h
 obtain ⟨p, ss, rfl, hq, h64, q⟩ := h
 obtain ⟨u, rfl, rx⟩ := vals1 r
 cases rx
 obtain ⟨its, rv, pl, hz⟩ := I.list hq
 have hlen := rv.length
 rw [List.length_map] at hlen
 refine sorted_strs pl.isList (vals_strs rv) (by omega) fun out ss' a1 a2 a3 => ?_
 obtain ⟨e, he⟩ := sortedAll_at s.heap its out
 have es : ss' = sortS ss := sortS_uniq a2 (pw_of_sortedS _ a3)
 subst es
 have hl2 : (sortS ss).length = ss.length := a2.length_eq
 refine ⟨.ref _, _, I.laid (t' := s.toks) (o := .lst ((sortS ss).map V.str)) (fun b ob q => sortedAll_old q) (Nat.le_succ _) ?_, rfl, q _ (I.hok.fresh (Nat.le_succ _))⟩
 refine ⟨by rw [List.length_map, hl2]; exact Nat.le_trans (Nat.le_of_lt h64) (by decide), out.toList, e, strs_vals a1, ?_⟩
 rw [he]
theorem Dts.strs {K : PySem.W.Frag} {H : Hp} {O : Ex} : ∀ {ss : List Str} {vs : List V}, Dts K H O vs (ss.map PyData.str) → vs = ss.map V.str
 | [], _, r => by rw [List.map_nil] at r; cases r; rfl
 | b :: bs, _, r => by
  rw [List.map_cons] at r
  cases r with
  | cons h r => cases h; rw [List.map_cons, Dts.strs r]
theorem Dts.ofStrs {K : PySem.W.Frag} {H : Hp} {O : Ex} : ∀ (ss : List Str), Dts K H O (ss.map V.str) (ss.map PyData.str)
 | [] => .nil
 | s :: r => .cons (.str s) (Dts.ofStrs r)
def dSortS (t : DA) : DA := fun δ Q => t δ fun ds => ∃ ss : List Str, ds = [.list (ss.map .str)] ∧ ss.length < 64 ∧ Q ((sortS ss).map .str)
theorem fe_sortS {a : Expr} {t : DA} {np p : Pos} (hg : Gl X "sorted") (hm : X.mg "sorted" = none) (hv : bootBuiltins "sorted" = some (.builtin "sorted")) (ha : PA X [a] (upB X.K H0 O0 t)) (he : starEach [a] X.env = (false, eval a X.env) :: starEach [] X.env := by rfl) (hpl : (backTo p (starEach [] X.env)).any (·.1) = false := by rfl) : FE X H0 O0 (.Call (.Name "sorted" np) [a] [] p) (dSortS t) :=
 (pe_callB call_sortedS hg hm hv ha (he := he) (hpl := hpl)).imp fun σ H Q ⟨O, δ, Qd, w, q, k⟩ => ⟨O, δ, _, w, q, fun ds vs H1 ⟨ss, e, h64, q1⟩ s1 r1 => by
  subst e
  cases r1 with
  | cons h r =>
   cases r
   obtain ⟨a, us, rfl, h1, d1⟩ := h.lst
   cases d1.strs
   exact ⟨a, ss, rfl, h1, h64, fun l hl => k _ _ _ _ q1 s1 hl (Dts.ofStrs _)⟩⟩
end
end L2

namespace PySem.SeqAt
open AutoSeq1 (wpAny_loadPart')
open MeetsSeq
theorem dict_eq_declines_str (l : Addr) (es : Array DictEntry) (n : Nat) (dd : Option Addr) (sl : Array (Option Value)) (b : Str) (u : Tok) :
  Meets (Builtin.«dict.__eq__» ⟨[.ref l, .str b u], []⟩) (fun _ R s => s.heap.get? l = some { cls := .type "dict", dict := dd, data := .dict es n, slots := sl } ∧ R (.ok (.ret .notImplemented)) s) :=
 .of_wp fun prog w A R s h => by obtain ⟨hp, g, d, tk, os⟩ := s; obtain ⟨hl, h⟩ := h; have f1 := F.sub_str_dict; wp_walk using wpAny_loadPart' hl; exact ⟨_, rfl, h⟩
theorem str_eq_declines_dict (b : Str) (u : Tok) (l : Addr) (c : Value) (es : Array DictEntry) (n : Nat) (dd : Option Addr) (sl : Array (Option Value)) :
  Meets (Builtin.«str.__eq__» ⟨[.str b u, .ref l], []⟩) (fun _ R s => s.heap.get? l = some { cls := c, dict := dd, data := .dict es n, slots := sl } ∧ R (.ok (.ret .notImplemented)) s) :=
 .of_wp fun prog w A R s h => by obtain ⟨hp, g, d, tk, os⟩ := s; obtain ⟨hl, h⟩ := h; wp_walk using wpAny_loadPart' hl, wpAny_load hl; exact ⟨_, rfl, h⟩
section
variable {A : Around} {s : Shared}
theorem RcAt.dict_str {l : Addr} {es : Array DictEntry} {n : Nat} {o : Obj} (b : Str) (u : Tok) (ho : s.heap.get? l = some o) (hc : o.cls = .type "dict") (hd : o.data = .dict es n) (hu : A.units < cLine) : RcAt A s (.ref l) (.str b u) false := fun prog w E Q h => by
 obtain ⟨cls, dd, data, sl⟩ := o
 simp only at hc hd
 subst hc hd
 exact rc_eq_decline_or (k := false) ⟨_, ho, rfl⟩ (typeIs_str s b u) (by decide) F.sub_str_dict F.slot_dict_eq F.slot_str_eq_refl
  (fun _ hq => call_meets F.slot_dict_eq ⟨_, ho, rfl⟩ F.entry_dict_eq (F.args_dict_eq_2 _ _) (dict_eq_declines_str l es n dd sl b u) ⟨ho, hq⟩)
  (fun _ hq => call_meets F.slot_str_eq_refl (typeIs_str s b u) F.entry_str_eq (F.args_str_eq_2 _ _) (str_eq_declines_dict b u l (.type "dict") es n dd sl) ⟨ho, hq⟩)
  (fun _ hq => wpAny_of_eq (rfl : isSame (.ref l) (.str b u) = pure false) hq) (.inr hu) h
theorem RcAt.str_dict {l : Addr} {es : Array DictEntry} {n : Nat} {o : Obj} (b : Str) (u : Tok) (ho : s.heap.get? l = some o) (hc : o.cls = .type "dict") (hd : o.data = .dict es n) (hu : A.units < cLine) : RcAt A s (.str b u) (.ref l) false := fun prog w E Q h => by
 obtain ⟨cls, dd, data, sl⟩ := o
 simp only at hc hd
 subst hc hd
 exact rc_eq_decline_or (k := false) (typeIs_str s b u) ⟨_, ho, rfl⟩ (by decide) F.sub_dict_str F.slot_str_eq F.slot_dict_eq_refl
  (fun _ hq => call_meets F.slot_str_eq (typeIs_str s b u) F.entry_str_eq (F.args_str_eq_2 _ _) (str_eq_declines_dict b u l (.type "dict") es n dd sl) ⟨ho, hq⟩)
  (fun _ hq => call_meets F.slot_dict_eq_refl ⟨_, ho, rfl⟩ F.entry_dict_eq (F.args_dict_eq_2 _ _) (dict_eq_declines_str l es n dd sl b u) ⟨ho, hq⟩)
  (fun _ hq => wpAny_of_eq (rfl : isSame (.str b u) (.ref l) = pure false) hq) (.inr hu) h
theorem EqAt.str_dict {l : Addr} {es : Array DictEntry} {n : Nat} {o : Obj} (b : Str) (u : Tok) (ho : s.heap.get? l = some o) (hc : o.cls = .type "dict") (hd : o.data = .dict es n) (hu : A.units < cLine) : EqAt A s (.str b u) (.ref l) false := fun prog w E Q h => by
 unfold eqBool
 refine wpAny_holding ?_
 refine wpAny_ite_split (fun hab => absurd (eq_of_beq hab) nofun) (fun _ => ?_)
 exact wpAny_bind (RcAt.str_dict b u ho hc hd hu prog w E _ (wpAny_truthy_bool h))
end
end PySem.SeqAt
namespace L2
open PySem PySem.Spec PyProof.Rows PySem.W
section
variable {X : Cx} {pins : List (Addr × Obj)} {σ : St} {H : Hp} {s : Shared}
def isThing : PyData → Bool
 | .dict [(.none, _)] => false
 | _ => true
theorem thing_rc (I : Inv X pins σ H s) {O : Ex} {v : V} {d : PyData} {u : Value} (h : Dt X.K H O v d) (ht : isThing d = true) (r : RelV v u) (y : Str) (t : Tok) (hu : X.A.units < cLine) : SeqAt.RcAt X.A s u (.str y t) (PyData.eqv d (.str y)) := by
 cases h with
 | non => cases (show u = Value.none from r); simpa [PyData.eqv] using SeqAt.RcAt.none_str y t
 | bl b => cases (show u = Value.bool b from r); simpa [PyData.eqv] using SeqAt.RcAt.bool_str b y t
 | int i => obtain ⟨k, e⟩ := (show ∃ t, u = Value.int i t from r); cases e; simpa [PyData.eqv] using SeqAt.RcAt.int_str i k y t
 | str x => obtain ⟨k, e⟩ := (show ∃ t, u = Value.str x t from r); cases e; simpa [PyData.eqv] using SeqAt.RcAt.str_str x k y t
 | @tup a xs ds h n rr =>
  cases (show u = Value.ref a from r)
  obtain ⟨its, rv, p, _⟩ := I.tuple (.inl h)
  simpa [PyData.eqv] using SeqAt.RcAt.tuple_str y t (show s.heap.IsTuple a its.toArray from p) hu
 | @tupK a xs ds h rr =>
  cases (show u = Value.ref a from r)
  obtain ⟨its, rv, p, _⟩ := I.tuple h.of0
  simpa [PyData.eqv] using SeqAt.RcAt.tuple_str y t (show s.heap.IsTuple a its.toArray from p) hu
 | @lst a xs ds h n rr =>
  cases (show u = Value.ref a from r)
  obtain ⟨its, rv, p, _⟩ := I.list (.inl h)
  simpa [PyData.eqv] using SeqAt.RcAt.list_str y t p.isList hu
 | pack h n => exact absurd ht (by simp [isThing])
 | scr h r => exact absurd ht (by simp [isThing])
 | obj h e n r => exact absurd ht (by simp [isThing])
 | @dct0 a h n =>
  cases (show u = Value.ref a from r)
  obtain ⟨_, _, _, _, o, es, ep, e, c, dd, _⟩ := (show ObjOk X.prog X.w H s.heap a (.dK []) from I.hok a _ h)
  simpa [PyData.eqv] using SeqAt.RcAt.dict_str y t e c.1 dd hu
 | @dic a kv ks kp ds h e1 e2 n rr =>
  cases (show u = Value.ref a from r)
  obtain ⟨_, _, _, _, o, es, ep, e, c, dd, _⟩ := (show ObjOk X.prog X.w H s.heap a (.dK kv) from I.hok a _ h)
  simpa [PyData.eqv] using SeqAt.RcAt.dict_str y t e c.1 dd hu
theorem thing_eq (I : Inv X pins σ H s) {A : Around} {O : Ex} {v : V} {d : PyData} {u : Value} (h : Dt X.K H O v d) (ht : isThing d = true) (r : RelV v u) (y : Str) (t : Tok) (hu : A.units < cLine) : SeqAt.EqAt A s (.str y t) u (PyData.eqv (.str y) d) := by
 cases h with
 | non => cases (show u = Value.none from r); simpa [PyData.eqv] using SeqAt.EqAt.str_none y t
 | bl b => cases (show u = Value.bool b from r); simpa [PyData.eqv] using SeqAt.EqAt.str_bool y t b
 | int i => obtain ⟨k, e⟩ := (show ∃ t, u = Value.int i t from r); cases e; simpa [PyData.eqv] using SeqAt.EqAt.str_int y t i k
 | str x => obtain ⟨k, e⟩ := (show ∃ t, u = Value.str x t from r); cases e; simpa [PyData.eqv] using SeqAt.EqAt.str_str y t x k
 | @tup a xs ds h n rr =>
  cases (show u = Value.ref a from r)
  obtain ⟨its, rv, p, _⟩ := I.tuple (.inl h)
  simpa [PyData.eqv] using SeqAt.EqAt.str_tuple y t (show s.heap.IsTuple a its.toArray from p) hu
 | @tupK a xs ds h rr =>
  cases (show u = Value.ref a from r)
  obtain ⟨its, rv, p, _⟩ := I.tuple h.of0
  simpa [PyData.eqv] using SeqAt.EqAt.str_tuple y t (show s.heap.IsTuple a its.toArray from p) hu
 | @lst a xs ds h n rr =>
  cases (show u = Value.ref a from r)
  obtain ⟨its, rv, p, _⟩ := I.list (.inl h)
  simpa [PyData.eqv] using SeqAt.EqAt.str_list y t p.isList hu
 | pack h n => exact absurd ht (by simp [isThing])
 | scr h r => exact absurd ht (by simp [isThing])
 | obj h e n r => exact absurd ht (by simp [isThing])
 | @dct0 a h n =>
  cases (show u = Value.ref a from r)
  obtain ⟨_, _, _, _, o, es, ep, e, c, dd, _⟩ := (show ObjOk X.prog X.w H s.heap a (.dK []) from I.hok a _ h)
  simpa [PyData.eqv] using SeqAt.EqAt.str_dict y t e c.1 dd hu
 | @dic a kv ks kp ds h e1 e2 n rr =>
  cases (show u = Value.ref a from r)
  obtain ⟨_, _, _, _, o, es, ep, e, c, dd, _⟩ := (show ObjOk X.prog X.w H s.heap a (.dK kv) from I.hok a _ h)
  simpa [PyData.eqv] using SeqAt.EqAt.str_dict y t e c.1 dd hu
end
section
variable {X : Cx} {H0 : Hp} {O0 : Ex}
def rEqZ (K : PySem.W.Frag) : R2 := fun x y H Q => ∃ O dx z, Dt K H O x dx ∧ isThing dx = true ∧ y = .str z ∧ Q (.bl (PyData.eqv dx (.str z))) H
theorem op_eqZ {k : Nat} (hr : Room k X.A) : OpR X (compareOp .Eq) (rEqZ X.K) := by
 intro pins s σ H x y v u Q I rx ry h
 obtain ⟨O, dx, z, hx, ht, rfl, q⟩ := h
 obtain ⟨t, rfl⟩ := ry
 have hc : compareOp .Eq v (.str z t) = richCompare .Eq v (.str z t) := rfl
 rw [hc]
 exact thing_rc I hx ht rx z t hr.units0 X.prog X.w X.xe _ (fin_bl I q rfl)
def dEqZ : PyData → PyData → (PyData → Prop) → Prop := fun x y Q => ∃ z, y = .str z ∧ isThing x = true ∧ Q (.bool (PyData.eqv x (.str z)))
theorem od_eqZ {K : PySem.W.Frag} : OpD K (rEqZ K) dEqZ := fun H O x y dx dy Qd R _ hx hy ⟨z, e, ht, q⟩ k => by
 subst e; cases hy.str; exact ⟨_, dx, z, hx.all, ht, rfl, k _ _ H q (Same.refl _) (.bl _)⟩
theorem any_strs (dx : PyData) {its : List Value} {zs : List Str} (hS : StrsAre its zs) : its.any (fun y => PyData.eqv (.str (strOf y)) dx) = zs.any fun z => PyData.eqv (.str z) dx := by
 induction hS with
 | nil => rfl
 | cons y t r ih => rw [List.any_cons, List.any_cons, ih]; rfl
def rInZ (K : PySem.W.Frag) : R2 := fun x y H Q => ∃ (O : Ex) (dx : PyData) (zs : List Str) (a : Addr), Dt K H O x dx ∧ isThing dx = true ∧ y = .ref a ∧ SqT K H a (zs.map V.str) ∧ Q (.bl (zs.any fun z => PyData.eqv (.str z) dx)) H
theorem op_inZ {k : Nat} (hr : Room k X.A) : OpR X (compareOp .In) (rInZ X.K) := by
 intro pins s σ H x y v u Q I rx ry h
 obtain ⟨O, dx, zs, a, hx, ht, rfl, ha, q⟩ := h
 cases ry
 obtain ⟨its, rv, p, _⟩ := I.tuple ha
 have hS := vals_strs rv
 have hl := any_strs dx hS
 refine SeqAt.in_tupleAt (fun y => PyData.eqv (.str (strOf y)) dx) (show s.heap.IsTuple a its.toArray from p) (fun y hy => ?_) (by rw [List.any_toArray, hl]; exact fin_bl I q rfl)
 obtain ⟨z, t, rfl⟩ := hS.all y (by simpa using hy)
 exact thing_eq I hx ht rx z t (by show X.A.units + 1 < cLine; have := hr.un; omega)
def dInZ : PyData → PyData → (PyData → Prop) → Prop := fun x y Q => ∃ zs : List Str, y = .tuple (zs.map .str) ∧ isThing x = true ∧ Q (.bool (zs.any fun z => PyData.eqv (.str z) x))
theorem od_inZ {K : PySem.W.Frag} : OpD K (rInZ K) dInZ := fun H O x y dx dy Qd R _ hx hy ⟨zs, e, ht, q⟩ k => by
 subst e
 obtain ⟨a, vs, rfl, hs, r⟩ := hy.tup
 cases r.strs
 exact ⟨_, dx, zs, a, hx.all, ht, rfl, hs, k _ _ H q (Same.refl _) (.bl _)⟩
end
end L2
namespace L2
open PySem
theorem take_iff {z : Int} {Q : PyData → Prop} : F_take [packD, .int z] Q ↔ (0 < z ∧ z ≤ 1000000 ∧ ∀ i : Int, 0 ≤ i → i < z → Q (.int i)) := by
 constructor
 ·rintro ⟨z', e, a, b, c⟩
  simp only [List.cons.injEq, PyData.int.injEq, and_true, true_and] at e
  subst e; exact ⟨a, b, c⟩
 ·rintro ⟨a, b, c⟩; exact ⟨z, rfl, a, b, c⟩
end L2

namespace L2
open PySem PySem.Spec PyProof.Rows PySem.W
def isStrB : PyData → Bool | .str _ => true | _ => false
def isIntB : PyData → Bool | .int _ => true | .bool _ => true | _ => false
def isBoolB : PyData → Bool | .bool _ => true | _ => false
def isTupB : PyData → Bool | .tuple _ => true | _ => false
theorem kit_str {K : PySem.W.Frag} (d : PyData) : kitOne K (.type (tyD d)) (.type "str") = some (isStrB d) := by cases d <;> rfl
theorem kit_int {K : PySem.W.Frag} (d : PyData) : kitOne K (.type (tyD d)) (.type "int") = some (isIntB d) := by cases d <;> rfl
theorem kit_bool {K : PySem.W.Frag} (d : PyData) : kitOne K (.type (tyD d)) (.type "bool") = some (isBoolB d) := by cases d <;> rfl
theorem kit_tuple {K : PySem.W.Frag} (d : PyData) : kitOne K (.type (tyD d)) (.type "tuple") = some (isTupB d) := by cases d <;> rfl
mutual
/-- things of any kind: their texts not too long, their dicts empty -/
def thg : PyData → Bool
 | .dict [] => true
 | .dict (_ :: _) => false
 | .str z => decide (z.length ≤ 1000)
 | .tuple l => thgs l
 | .list l => thgs l
 | .none => true
 | .bool _ => true
 | .int _ => true
def thgs : List PyData → Bool
 | [] => true
 | d :: r => thg d && thgs r
end
theorem thg_ne {d : PyData} (h : thg d = true) : ∀ x, d ≠ .dict [(.none, x)] := by
 rintro x rfl; simp [thg] at h
theorem thg_thing {d : PyData} (h : thg d = true) : isThing d = true := by
 unfold isThing; split
 ·simp [thg] at h
 ·rfl
theorem thgs_mem : ∀ {l : List PyData} {d : PyData}, thgs l = true → d ∈ l → thg d = true
 | e :: r, d, h, m => by
  rw [thgs, Bool.and_eq_true] at h
  rcases List.mem_cons.mp m with z | z
  ·rw [z]; exact h.1
  ·exact thgs_mem h.2 z
theorem thgs_all {l : List PyData} (h : ∀ d ∈ l, thg d = true) : thgs l = true := by
 induction l with
 | nil => rfl
 | cons e r ih => rw [thgs, h e (by simp), ih fun d hd => h d (by simp [hd])]; rfl
theorem thg_tup {l : List PyData} (h : thg (.tuple l) = true) : ∀ d ∈ l, thg d = true := fun d hd => thgs_mem (by simpa [thg] using h) hd
theorem thg_str {z : Str} (h : thg (.str z) = true) : z.length ≤ 1000 := by simpa [thg] using h
def strIn (zs : List Str) (d : PyData) : Bool := zs.any fun z => PyData.eqv (.str z) d
def isWh : PyData → Bool | .int _ => true | _ => false
def isDy : PyData → Bool | .int i => decide (0 ≤ i) && decide (i ≤ 99999) | _ => false
def isNm : PyData → Bool | .str z => decide (1 ≤ z.length) && decide (z.length ≤ 8) && z.cps.toList.all (fun c => decide (c ∈ abc.cps.toList)) | _ => false
def isSn : PyData → Bool
 | .tuple [a] => PyData.eqv a (.str "coming")
 | .tuple [a, b] => strIn ["first", "last"] a && isNm b
 | _ => false
def isMn : PyData → Bool | .int i => decide (0 ≤ i) && decide (i ≤ 999) | _ => false
def isSpn (m u : PyData) : Bool := isMn m && strIn ["days", "months", "years"] u
def isRl : PyData → Bool
 | .tuple [a, b] => strIn ["while", "follow", "leave"] a && isNm b
 | .tuple [a, b, c, d, e] => strIn ["keep", "gone"] a && isNm b && (isSn c && isSpn d e)
 | _ => false
def ltD : PyData → PyData → Bool | .str a, .str b => decide (a.cps.toList < b.cps.toList) | _, _ => false
def riseD : List PyData → Bool
 | a :: b :: r => ltD a b && riseD (b :: r)
 | _ => true
def isMk : PyData → Bool | .tuple l => decide (l.length ≤ 4) && (l.all isNm && riseD l) | _ => false
def isTg : PyData → Bool | .tuple [a, b] => strIn ["paper", "kind"] a && isNm b | _ => false
def arePt (w : PyData) (ps : List PyData) : Bool :=
 if strIn ["end", "lift"] w then ps.length == 0
 else if strIn ["happens", "leave"] w then (match ps with | [a] => isNm a | _ => false)
 else if PyData.eqv w (.str "rule") then (match ps with | [a] => isRl a | _ => false)
 else if PyData.eqv w (.str "paper") then (match ps with | [a, b] => isNm a && isMk b | _ => false)
 else if PyData.eqv w (.str "hold") then (match ps with | [a, b] => isTg a && isBoolB b | _ => false)
 else false
def isDd : PyData → Bool
 | .tuple (w :: n :: x :: r) => isDy n && isNm x && arePt w r
 | _ => false
structure Nm (z : Str) : Prop where
 lo : 1 ≤ z.length
 hi : z.length ≤ 8
 ab : ∀ c ∈ z.cps.toList, c ∈ abc.cps.toList
theorem Nm.is {z : Str} (h : Nm z) : isNm (.str z) = true := by
 simp only [isNm, decide_eq_true h.lo, decide_eq_true h.hi, Bool.true_and, List.all_eq_true, decide_eq_true_eq]
 exact h.ab
theorem nm_str {d : PyData} (h : isNm d = true) : ∃ z, d = .str z ∧ Nm z := by
 cases d with
 | str z =>
  simp only [isNm, Bool.and_eq_true, decide_eq_true_eq, List.all_eq_true] at h
  exact ⟨z, rfl, h.1.1, h.1.2, h.2⟩
 | _ => simp [isNm] at h
theorem Nm.ok {z : Str} (h : Nm z) : PyData.strOk z = true := strOk_iff.mpr fun c hc => abc_ok c (h.ab c hc)
theorem compI_map {g : DG} {te : DT} {δ0 : Dl} {xs : List PyData} {Q : List PyData → Prop} (f : PyData → PyData)
  (h : ∀ x ∈ xs, ∀ R : PyData → Prop, R (f x) → g x δ0 fun δ2 => te δ2 R) (q : Q (xs.map f)) : compI g dYes te δ0 xs Q := by
 refine ⟨fun i acc => acc = (xs.take i).map f, rfl, ?_, ?_⟩
 ·rintro i x acc hx rfl
  have := h x (List.mem_of_getElem? hx) (fun y => (xs.take i).map f ++ [y] = (xs.take (i + 1)).map f) (by rw [List.take_succ, hx]; simp)
  simpa [dYes] using this
 ·rintro acc rfl
  rw [List.take_of_length_le (Nat.le_refl _)]; exact q
theorem compI_all {g : DG} {te : DT} {δ0 : Dl} {xs : List PyData} {Q : List PyData → Prop} (P : PyData → Prop)
  (h : ∀ x ∈ xs, ∀ R : PyData → Prop, (∀ y, P y → R y) → g x δ0 fun δ2 => te δ2 R) (q : ∀ ys, ys.length = xs.length → (∀ y ∈ ys, P y) → Q ys) : compI g dYes te δ0 xs Q := by
 refine ⟨fun i acc => acc.length = i ∧ ∀ y ∈ acc, P y, ⟨rfl, by simp⟩, ?_, ?_⟩
 ·rintro i x acc hx ⟨hl, ha⟩
  have := h x (List.mem_of_getElem? hx) (fun y => (acc ++ [y]).length = i + 1 ∧ ∀ z ∈ acc ++ [y], P z) (fun y hy => ⟨by simp [hl], fun z hz => by
   rcases List.mem_append.mp hz with m | m
   ·exact ha z m
   ·rw [List.mem_singleton] at m; rw [m]; exact hy⟩)
  simpa [dYes] using this
 ·rintro acc ⟨hl, ha⟩
  exact q acc hl ha
theorem compI_bools {g : DG} {te : DT} {δ0 : Dl} {xs : List PyData} {p : Bool → Prop} {gg : List Bool → Bool} (f : PyData → Bool)
  (h : ∀ x ∈ xs, ∀ R : PyData → Prop, R (.bool (f x)) → g x δ0 fun δ2 => te δ2 R) (q : p (gg (xs.map f))) : compI g dYes te δ0 xs fun ds => ∃ bs : List Bool, ds = bs.map PyData.bool ∧ p (gg bs) :=
 compI_map (fun x => .bool (f x)) h ⟨xs.map f, by rw [List.map_map]; rfl, q⟩
theorem strsE1 {a : Str} {P : List Str → Prop} : (∃ zs, [PyData.str a] = List.map PyData.str zs ∧ P zs) ↔ P [a] := by
 refine ⟨fun ⟨zs, e, h⟩ => ?_, fun h => ⟨_, rfl, h⟩⟩
 match zs, e with
 | [x], e => simp at e; rw [e]; exact h
theorem strsE2 {a b : Str} {P : List Str → Prop} : (∃ zs, [PyData.str a, PyData.str b] = List.map PyData.str zs ∧ P zs) ↔ P [a, b] := by
 refine ⟨fun ⟨zs, e, h⟩ => ?_, fun h => ⟨_, rfl, h⟩⟩
 match zs, e with
 | [x, y], e => simp at e; rw [e.1, e.2]; exact h
theorem strsE3 {a b c : Str} {P : List Str → Prop} : (∃ zs, [PyData.str a, PyData.str b, PyData.str c] = List.map PyData.str zs ∧ P zs) ↔ P [a, b, c] := by
 refine ⟨fun ⟨zs, e, h⟩ => ?_, fun h => ⟨_, rfl, h⟩⟩
 match zs, e with
 | [x, y, z], e => simp at e; rw [e.1, e.2.1, e.2.2]; exact h
theorem tup_cases (d : PyData) : (∃ l, d = .tuple l) ∨ (∀ l, d ≠ .tuple l) := by
 cases d <;> simp
theorem isTup_no {d : PyData} (h : ∀ l, d ≠ .tuple l) : isTupB d = false := by
 cases d with
 | tuple l => exact absurd rfl (h l)
 | _ => rfl
def lenIs (d : PyData) (n : Int) : Bool := match d with | .tuple l => decide ((l.length : Int) = n) | _ => false
theorem lenIs_no {d : PyData} (h : ∀ l, d ≠ .tuple l) (n : Int) : lenIs d n = false := by
 cases d with
 | tuple l => exact absurd rfl (h l)
 | _ => rfl
theorem thing_str {x : Str} : isThing (.str x) = true := rfl
theorem thing_int {x : Int} : isThing (.int x) = true := rfl
theorem thing_bool {x : Bool} : isThing (.bool x) = true := rfl
theorem thing_tup {x : List PyData} : isThing (.tuple x) = true := rfl
theorem thing_list {x : List PyData} : isThing (.list x) = true := rfl
theorem slice_ix (l u : Option Int) (n : Nat) : Builtin.Str.strSliceIndices l u 1 n = (List.range (HT.sIx n n u - HT.sIx n 0 l)).map (HT.sIx n 0 l + ·) := by
 unfold Builtin.Str.strSliceIndices sliceRange
 have c : ∀ (o : Option Int) (d : Nat), (match o with | none => (d : Int) | some i => max 0 (min (if i < 0 then i + (n : Int) else i) (n : Int))) = ((HT.sIx n d o : Nat) : Int) := by
  intro o d
  cases o with
  | none => rfl
  | some v =>
   show max 0 (min (if v < 0 then v + (n : Int) else v) (n : Int)) = (((if v < 0 then (v + (n : Int)).toNat else min v.toNat n) : Nat) : Int)
   by_cases hv : v < 0
   ·rw [if_pos hv, if_pos hv]; omega
   ·rw [if_neg hv, if_neg hv]; omega
 have c0 := c l 0
 have c1 := c u n
 simp only [show (1 : Int) > 0 by decide, if_true] at c0 c1 ⊢
 simp only [Int.natCast_zero] at c0
 have key : ∀ a b : Int, a = ((HT.sIx n 0 l : Nat) : Int) → b = ((HT.sIx n n u : Nat) : Int) → ((List.range (if a < b then (b - a + 1 - 1) / 1 else 0).toNat).map fun (k : Nat) => (a + 1 * (k : Int)).toNat) = (List.range (HT.sIx n n u - HT.sIx n 0 l)).map (HT.sIx n 0 l + ·) := by
  intro a b ea eb
  have e : (if a < b then (b - a + 1 - 1) / 1 else 0).toNat = HT.sIx n n u - HT.sIx n 0 l := by
   rw [Int.ediv_one]; split <;> omega
  rw [e]
  refine List.map_congr_left fun k _ => ?_
  show (a + 1 * (k : Int)).toNat = _
  omega
 exact key _ _ c0 c1
def cutN (xs : List Nat) (l u : Option Int) : List Nat := (xs.drop (HT.sIx xs.length 0 l)).take (HT.sIx xs.length xs.length u - HT.sIx xs.length 0 l)
theorem slice_cps (x : Str) (l u : Option Int) : (Txt.slice x l u).cps.toList = cutN x.cps.toList l u := by
 have hl : x.cps.toList.length = x.length := by rw [Array.length_toList]; rfl
 unfold Txt.slice
 rw [slice_ix, List.length_map, List.length_range]
 unfold cutN
 rw [hl]
 split
 ·rename_i h
  have h2 : HT.sIx x.length x.length u - HT.sIx x.length 0 l = x.length := by simpa using h
  have h3 : HT.sIx x.length x.length u ≤ x.length := HT.sIx_le _ _ (Nat.le_refl _) u
  by_cases hz : x.length = 0
  ·have : x.cps.toList = [] := List.length_eq_zero_iff.mp (by omega)
   rw [this]; simp
  ·have h4 : HT.sIx x.length 0 l = 0 := by omega
   rw [h2, h4, List.drop_zero, List.take_of_length_le (by omega)]
 ·rw [pick_run]
theorem cutN_take {xs : List Nat} {i : Int} (h0 : 0 ≤ i) (h1 : i ≤ xs.length) : cutN xs none (some i) = xs.take i.toNat := by
 unfold cutN; rw [sIx_none, sIx_in h0 h1]; simp
theorem cutN_drop {xs : List Nat} {i : Int} (h0 : 0 ≤ i) (h1 : i ≤ xs.length) : cutN xs (some i) none = xs.drop i.toNat := by
 unfold cutN; rw [sIx_none, sIx_in h0 h1, List.take_of_length_le (by rw [List.length_drop]; exact Nat.le_refl _)]
theorem len_cps (x : Str) : x.length = x.cps.toList.length := by rw [Array.length_toList]; rfl
end L2

namespace L2
open PySem PySem.Spec PyProof.Rows PySem.W
theorem eqv_str_iff {z : Str} {d : PyData} : PyData.eqv (.str z) d = true ↔ d = .str z := by
 cases d <;> simp [PyData.eqv]
 exact ⟨fun h => h.symm, fun h => h.symm⟩
theorem eqv_iff_str {z : Str} {d : PyData} : PyData.eqv d (.str z) = true ↔ d = .str z := by rw [eqv_comm]; exact eqv_str_iff
theorem strIn_iff {zs : List Str} {d : PyData} : strIn zs d = true ↔ ∃ z ∈ zs, d = .str z := by
 unfold strIn; simp only [List.any_eq_true, eqv_str_iff]
def ltS (a b : Str) : Prop := a.cps.toList < b.cps.toList
theorem ltS_trans {a b c : Str} (h : ltS a b) (h' : ltS b c) : ltS a c := List.lt_trans h h'
inductive SinceV : PyData → Prop
 | coming : SinceV (.tuple [.str "coming"])
 | first {h : Str} : Nm h → SinceV (.tuple [.str "first", .str h])
 | last {h : Str} : Nm h → SinceV (.tuple [.str "last", .str h])
def units : List Str := ["days", "months", "years"]
inductive RuleV : PyData → Prop
 | kg {w k u : Str} {s : PyData} {m : Int} : w ∈ (["keep", "gone"] : List Str) → Nm k → SinceV s → 0 ≤ m → m ≤ 999 → u ∈ units → RuleV (.tuple [.str w, .str k, s, .int m, .str u])
 | wfl {w k : Str} : w ∈ (["while", "follow", "leave"] : List Str) → Nm k → RuleV (.tuple [.str w, .str k])
def isDayN (n : Int) : Prop := 0 ≤ n ∧ n ≤ 99999
structure Mks (ms : List Str) : Prop where
 len : ms.length ≤ 4
 nm : ∀ m ∈ ms, Nm m
 up : ms.Pairwise ltS
inductive DeedV : PyData → Prop
 | paper {n : Int} {x k : Str} {ms : List Str} : isDayN n → Nm x → Nm k → Mks ms → DeedV (.tuple [.str "paper", .int n, .str x, .str k, .tuple (ms.map .str)])
 | two {w x y : Str} {n : Int} : w ∈ (["happens", "leave"] : List Str) → isDayN n → Nm x → Nm y → DeedV (.tuple [.str w, .int n, .str x, .str y])
 | rule {n : Int} {x : Str} {p : PyData} : isDayN n → Nm x → RuleV p → DeedV (.tuple [.str "rule", .int n, .str x, p])
 | one {w x : Str} {n : Int} : w ∈ (["end", "lift"] : List Str) → isDayN n → Nm x → DeedV (.tuple [.str w, .int n, .str x])
 | hold {n : Int} {x g y : Str} {b : Bool} : isDayN n → Nm x → g ∈ (["paper", "kind"] : List Str) → Nm y → DeedV (.tuple [.str "hold", .int n, .str x, .tuple [.str g, .str y], .bool b])
theorem isSn_iff {d : PyData} : isSn d = true ↔ SinceV d := by
 constructor
 ·intro h
  unfold isSn at h
  split at h
  ·rw [eqv_iff_str] at h; subst h; exact .coming
  ·rw [Bool.and_eq_true, strIn_iff] at h
   obtain ⟨⟨z, hz, rfl⟩, hb⟩ := h
   obtain ⟨y, rfl, hy⟩ := nm_str hb
   simp only [List.mem_cons, List.not_mem_nil, or_false] at hz
   rcases hz with rfl | rfl
   ·exact .first hy
   ·exact .last hy
  ·cases h
 ·intro h
  cases h with
  | coming => unfold isSn; rw [eqv_iff_str]
  | first hy => simp only [isSn, hy.is, Bool.and_true]; exact strIn_iff.mpr ⟨_, by simp, rfl⟩
  | last hy => simp only [isSn, hy.is, Bool.and_true]; exact strIn_iff.mpr ⟨_, by simp, rfl⟩
theorem isSpn_iff {m u : PyData} : isSpn m u = true ↔ ∃ i z, m = .int i ∧ u = .str z ∧ 0 ≤ i ∧ i ≤ 999 ∧ z ∈ units := by
 unfold isSpn
 rw [Bool.and_eq_true, strIn_iff]
 constructor
 ·rintro ⟨h, z, hz, rfl⟩
  cases m <;> simp [isMn] at h
  exact ⟨_, z, rfl, rfl, h.1, h.2, hz⟩
 ·rintro ⟨i, z, rfl, rfl, h0, h1, hz⟩
  exact ⟨by simp [isMn, h0, h1], z, hz, rfl⟩
theorem isRl_iff {d : PyData} : isRl d = true ↔ RuleV d := by
 constructor
 ·intro h
  unfold isRl at h
  split at h
  ·rw [Bool.and_eq_true, strIn_iff] at h
   obtain ⟨⟨z, hz, rfl⟩, hb⟩ := h
   obtain ⟨y, rfl, hy⟩ := nm_str hb
   exact .wfl hz hy
  ·rw [Bool.and_eq_true, Bool.and_eq_true, Bool.and_eq_true, strIn_iff, isSn_iff, isSpn_iff] at h
   obtain ⟨⟨⟨z, hz, rfl⟩, hb⟩, hs, i, u, rfl, rfl, h0, h1, hu⟩ := h
   obtain ⟨y, rfl, hy⟩ := nm_str hb
   exact .kg hz hy hs h0 h1 hu
  ·cases h
 ·intro h
  cases h with
  | kg hw hk hs h0 h1 hu =>
   simp only [isRl, hk.is, isSn_iff.mpr hs, isSpn_iff.mpr ⟨_, _, rfl, rfl, h0, h1, hu⟩, Bool.and_true]
   exact strIn_iff.mpr ⟨_, hw, rfl⟩
  | wfl hw hk => simp only [isRl, hk.is, Bool.and_true]; exact strIn_iff.mpr ⟨_, hw, rfl⟩
theorem riseD_iff : ∀ {ms : List Str}, riseD (ms.map .str) = true ↔ ms.Pairwise ltS
 | [] => by simp [riseD]
 | [a] => by simp [riseD]
 | a :: b :: r => by
  have ih := riseD_iff (ms := b :: r)
  rw [List.map_cons, List.map_cons, riseD, Bool.and_eq_true, ← List.map_cons, ih]
  simp only [ltD, decide_eq_true_eq]
  constructor
  ·rintro ⟨h1, h2⟩
   rw [List.pairwise_cons]
   refine ⟨fun y hy => ?_, h2⟩
   rcases List.mem_cons.mp hy with z | z
   ·rw [z]; exact h1
   ·exact ltS_trans h1 ((List.pairwise_cons.mp h2).1 y z)
  ·intro h
   rw [List.pairwise_cons] at h
   exact ⟨h.1 b (by simp), h.2⟩
theorem nms_strs : ∀ {l : List PyData}, l.all isNm = true → ∃ ms : List Str, l = ms.map .str ∧ ∀ m ∈ ms, Nm m
 | [], _ => ⟨[], rfl, by simp⟩
 | d :: r, h => by
  rw [List.all_cons, Bool.and_eq_true] at h
  obtain ⟨z, rfl, hz⟩ := nm_str h.1
  obtain ⟨ms, rfl, hm⟩ := nms_strs h.2
  exact ⟨z :: ms, rfl, fun m hm' => by
   rcases List.mem_cons.mp hm' with e | e
   ·rw [e]; exact hz
   ·exact hm m e⟩
theorem isMk_iff {d : PyData} : isMk d = true ↔ ∃ ms : List Str, d = .tuple (ms.map .str) ∧ Mks ms := by
 constructor
 ·intro h
  unfold isMk at h
  split at h
  ·rw [Bool.and_eq_true, Bool.and_eq_true, decide_eq_true_eq] at h
   obtain ⟨h4, ha, hr⟩ := h
   obtain ⟨ms, rfl, hm⟩ := nms_strs ha
   exact ⟨ms, rfl, by simpa using h4, hm, riseD_iff.mp hr⟩
  ·cases h
 ·rintro ⟨ms, rfl, h⟩
  simp only [isMk, List.length_map, decide_eq_true h.len, riseD_iff.mpr h.up, Bool.and_true, Bool.true_and, List.all_map, List.all_eq_true]
  exact fun m hm => (h.nm m hm).is
theorem isTg_iff {d : PyData} : isTg d = true ↔ ∃ g y, d = .tuple [.str g, .str y] ∧ g ∈ (["paper", "kind"] : List Str) ∧ Nm y := by
 constructor
 ·intro h
  unfold isTg at h
  split at h
  ·rw [Bool.and_eq_true, strIn_iff] at h
   obtain ⟨⟨z, hz, rfl⟩, hb⟩ := h
   obtain ⟨y, rfl, hy⟩ := nm_str hb
   exact ⟨z, y, rfl, hz, hy⟩
  ·cases h
 ·rintro ⟨g, y, rfl, hg, hy⟩
  simp only [isTg, hy.is, Bool.and_true]; exact strIn_iff.mpr ⟨_, hg, rfl⟩
theorem isDy_iff {d : PyData} : isDy d = true ↔ ∃ n, d = .int n ∧ isDayN n := by
 constructor
 ·intro h
  cases d <;> simp [isDy] at h
  exact ⟨_, rfl, h.1, h.2⟩
 ·rintro ⟨n, rfl, h0, h1⟩; simp [isDy, h0, h1]
theorem dd_deed {d : PyData} (h : isDd d = true) : DeedV d := by
 unfold isDd at h
 split at h
 ·rename_i w n x r
  rw [Bool.and_eq_true, Bool.and_eq_true, isDy_iff] at h
  obtain ⟨⟨⟨n, rfl, hn⟩, hx⟩, hp⟩ := h
  obtain ⟨x, rfl, hx2⟩ := nm_str hx
  replace hx := hx2
  unfold arePt at hp
  split at hp
  ·rename_i hw
   obtain ⟨z, hz, rfl⟩ := strIn_iff.mp hw
   have : r = [] := List.length_eq_zero_iff.mp (by simpa using hp)
   subst this
   exact .one hz hn hx
  split at hp
  ·rename_i hw
   obtain ⟨z, hz, rfl⟩ := strIn_iff.mp hw
   split at hp
   ·obtain ⟨y, rfl, hy⟩ := nm_str hp
    exact .two hz hn hx hy
   ·cases hp
  split at hp
  ·rename_i hw
   rw [eqv_iff_str] at hw; subst hw
   split at hp
   ·exact .rule hn hx (isRl_iff.mp hp)
   ·cases hp
  split at hp
  ·rename_i hw
   rw [eqv_iff_str] at hw; subst hw
   split at hp
   ·rw [Bool.and_eq_true, isMk_iff] at hp
    obtain ⟨hk, ms, rfl, hm⟩ := hp
    obtain ⟨k, rfl, hk2⟩ := nm_str hk
    replace hk := hk2
    exact .paper hn hx hk hm
   ·cases hp
  split at hp
  ·rename_i hw
   rw [eqv_iff_str] at hw; subst hw
   split at hp
   ·rw [Bool.and_eq_true, isTg_iff] at hp
    obtain ⟨⟨g, y, rfl, hg, hy⟩, hb⟩ := hp
    rename_i b
    cases b <;> simp [isBoolB] at hb
    exact .hold hn hx hg hy
   ·cases hp
  ·cases hp
 ·cases h
theorem DeedV.is {d : PyData} (h : DeedV d) : isDd d = true := by
 have dy : ∀ {n : Int}, isDayN n → isDy (.int n) = true := fun h => isDy_iff.mpr ⟨_, rfl, h⟩
 have no : ∀ {zs : List Str} {w : Str}, w ∉ zs → strIn zs (.str w) = false := fun {zs w} h => by
  rw [Bool.eq_false_iff]; intro q
  obtain ⟨z, hz, e⟩ := strIn_iff.mp q
  injection e with e; rw [e] at h; exact h hz
 have ye : ∀ {zs : List Str} {w : Str}, w ∈ zs → strIn zs (.str w) = true := fun h => strIn_iff.mpr ⟨_, h, rfl⟩
 have nq : ∀ {z w : Str}, w ≠ z → PyData.eqv (.str w) (.str z) = false := fun {z w} h => by rw [eqv_str]; simpa using h
 have yq : ∀ {z : Str}, PyData.eqv (.str z) (.str z) = true := by intro z; rw [eqv_str]; simp
 cases h with
 | paper hn hx hk hm =>
  simp only [isDd, dy hn, hx.is, Bool.and_true, Bool.true_and, arePt]
  rw [if_neg (by rw [no (by decide +kernel)]; decide), if_neg (by rw [no (by decide +kernel)]; decide), if_neg (by rw [nq (by decide +kernel)]; decide), if_pos yq]
  simp only [hk.is, isMk_iff.mpr ⟨_, rfl, hm⟩, Bool.and_true]
 | two hw hn hx hy =>
  simp only [isDd, dy hn, hx.is, Bool.and_true, Bool.true_and, arePt]
  rename_i w x y n
  have h1 : w ∉ (["end", "lift"] : List Str) := by
   simp only [List.mem_cons, List.not_mem_nil, or_false] at hw
   rcases hw with rfl | rfl <;> decide +kernel
  rw [if_neg (by rw [no h1]; decide), if_pos (ye hw)]
  exact hy.is
 | rule hn hx hp =>
  simp only [isDd, dy hn, hx.is, Bool.and_true, Bool.true_and, arePt]
  rw [if_neg (by rw [no (by decide +kernel)]; decide), if_neg (by rw [no (by decide +kernel)]; decide), if_pos yq]
  exact isRl_iff.mpr hp
 | one hw hn hx =>
  simp only [isDd, dy hn, hx.is, Bool.and_true, Bool.true_and, arePt]
  rw [if_pos (ye hw)]; rfl
 | hold hn hx hg hy =>
  simp only [isDd, dy hn, hx.is, Bool.and_true, Bool.true_and, arePt]
  rw [if_neg (by rw [no (by decide +kernel)]; decide), if_neg (by rw [no (by decide +kernel)]; decide), if_neg (by rw [nq (by decide +kernel)]; decide), if_neg (by rw [nq (by decide +kernel)]; decide), if_pos yq]
  simp only [isTg_iff.mpr ⟨_, _, rfl, hg, hy⟩, isBoolB, Bool.and_true]
theorem isDd_iff {d : PyData} : isDd d = true ↔ DeedV d := ⟨dd_deed, DeedV.is⟩
theorem lay_nil {n : Nat} : ∀ d ∈ ([] : List PyData), Lay n d := fun d hd => by simp at hd
theorem lay_cons {n : Nat} {d : PyData} {r : List PyData} (h : Lay n d) (hr : ∀ e ∈ r, Lay n e) : ∀ e ∈ d :: r, Lay n e := fun e he => by
 rcases List.mem_cons.mp he with z | z
 ·rw [z]; exact h
 ·exact hr e z
theorem layS1 {n : Nat} {x : Str} (h : PyData.strOk x = true) (hn : 1 ≤ n := by decide) : Lay n (.str x) := (lay_str h).mono hn
theorem layI1 {n : Nat} {x : Int} (hn : 1 ≤ n := by decide) : Lay n (.int x) := lay_int.mono hn
theorem layB1 {n : Nat} {x : Bool} (hn : 1 ≤ n := by decide) : Lay n (.bool x) := lay_bool.mono hn
theorem lay_strs {n : Nat} {ms : List Str} (h : ∀ m ∈ ms, PyData.strOk m = true) (hn : 1 ≤ n := by decide) : ∀ d ∈ ms.map PyData.str, Lay n d := fun d hd => by
 obtain ⟨m, hm, rfl⟩ := List.mem_map.mp hd
 exact (lay_str (h m hm)).mono hn
theorem SinceV.lay {d : PyData} (h : SinceV d) : Lay 2 d := by
 cases h with
 | coming => exact lay_tup (lay_cons (layS1 (by decide +kernel)) lay_nil)
 | first h => exact lay_tup (lay_cons (layS1 (by decide +kernel)) (lay_cons (layS1 h.ok) lay_nil))
 | last h => exact lay_tup (lay_cons (layS1 (by decide +kernel)) (lay_cons (layS1 h.ok) lay_nil))
theorem ok_of {zs : List Str} {w : Str} (h : w ∈ zs) (hz : ∀ z ∈ zs, PyData.strOk z = true ∧ z.length ≤ 1000) : PyData.strOk w = true ∧ w.length ≤ 1000 := hz w h
theorem RuleV.lay {d : PyData} (h : RuleV d) : Lay 3 d := by
 cases h with
 | kg hw hk hs _ _ hu => exact lay_tup (lay_cons (layS1 (ok_of hw (by decide +kernel)).1) (lay_cons (layS1 hk.ok) (lay_cons hs.lay (lay_cons layI1 (lay_cons (layS1 (ok_of hu (by decide +kernel)).1) lay_nil)))))
 | wfl hw hk => exact (lay_tup (n := 1) (lay_cons (layS1 (ok_of hw (by decide +kernel)).1) (lay_cons (layS1 hk.ok) lay_nil))).mono (by decide)
theorem DeedV.lay {d : PyData} (h : DeedV d) : Lay 4 d := by
 cases h with
 | paper hn hx hk hm => exact lay_tup (lay_cons (layS1 (by decide +kernel)) (lay_cons layI1 (lay_cons (layS1 hx.ok) (lay_cons (layS1 hk.ok) (lay_cons ((lay_tup (n := 1) (lay_strs fun m h => (hm.nm m h).ok)).mono (by decide)) lay_nil)))))
 | two hw hn hx hy => exact lay_tup (lay_cons (layS1 (ok_of hw (by decide +kernel)).1) (lay_cons layI1 (lay_cons (layS1 hx.ok) (lay_cons (layS1 hy.ok) lay_nil))))
 | rule hn hx hp => exact lay_tup (lay_cons (layS1 (by decide +kernel)) (lay_cons layI1 (lay_cons (layS1 hx.ok) (lay_cons hp.lay lay_nil))))
 | one hw hn hx => exact lay_tup (lay_cons (layS1 (ok_of hw (by decide +kernel)).1) (lay_cons layI1 (lay_cons (layS1 hx.ok) lay_nil)))
 | hold hn hx hg hy => exact lay_tup (lay_cons (layS1 (by decide +kernel)) (lay_cons layI1 (lay_cons (layS1 hx.ok) (lay_cons ((lay_tup (n := 1) (lay_cons (layS1 (ok_of hg (by decide +kernel)).1) (lay_cons (layS1 hy.ok) lay_nil))).mono (by decide)) (lay_cons layB1 lay_nil)))))
theorem DeedV.shp {d : PyData} (h : DeedV d) : Shp d := h.lay.shp (by decide)
theorem thgC {d : PyData} {r : List PyData} (h : thg d = true) (hr : thgs r = true) : thgs (d :: r) = true := by rw [thgs, h, hr]; rfl
theorem thgT {r : List PyData} (hr : thgs r = true) : thg (.tuple r) = true := by rw [thg]; exact hr
theorem Nm.thg {z : Str} (h : Nm z) : thg (.str z) = true := by rw [L2.thg]; exact decide_eq_true (Nat.le_trans h.hi (by decide))
theorem thg_lit {z : Str} (h : z.length ≤ 1000) : thg (.str z) = true := by rw [thg]; exact decide_eq_true h
theorem thgI {i : Int} : thg (.int i) = true := by rw [thg]
theorem thgB {i : Bool} : thg (.bool i) = true := by rw [thg]
theorem thgs_strs {ms : List Str} (h : ∀ m ∈ ms, Nm m) : thgs (ms.map .str) = true := thgs_all fun d hd => by
 obtain ⟨m, hm, rfl⟩ := List.mem_map.mp hd; exact (h m hm).thg
theorem SinceV.thg {d : PyData} (h : SinceV d) : L2.thg d = true := by
 cases h with
 | coming => exact thgT (thgC (thg_lit (by decide +kernel)) rfl)
 | first h => exact thgT (thgC (thg_lit (by decide +kernel)) (thgC h.thg rfl))
 | last h => exact thgT (thgC (thg_lit (by decide +kernel)) (thgC h.thg rfl))
theorem RuleV.thg {d : PyData} (h : RuleV d) : L2.thg d = true := by
 cases h with
 | kg hw hk hs _ _ hu => exact thgT (thgC (thg_lit (ok_of hw (by decide +kernel)).2) (thgC hk.thg (thgC hs.thg (thgC thgI (thgC (thg_lit (ok_of hu (by decide +kernel)).2) rfl)))))
 | wfl hw hk => exact thgT (thgC (thg_lit (ok_of hw (by decide +kernel)).2) (thgC hk.thg rfl))
theorem DeedV.thg {d : PyData} (h : DeedV d) : L2.thg d = true := by
 cases h with
 | paper hn hx hk hm => exact thgT (thgC (thg_lit (by decide +kernel)) (thgC thgI (thgC hx.thg (thgC hk.thg (thgC (thgT (thgs_strs hm.nm)) rfl)))))
 | two hw hn hx hy => exact thgT (thgC (thg_lit (ok_of hw (by decide +kernel)).2) (thgC thgI (thgC hx.thg (thgC hy.thg rfl))))
 | rule hn hx hp => exact thgT (thgC (thg_lit (by decide +kernel)) (thgC thgI (thgC hx.thg (thgC hp.thg rfl))))
 | one hw hn hx => exact thgT (thgC (thg_lit (ok_of hw (by decide +kernel)).2) (thgC thgI (thgC hx.thg rfl)))
 | hold hn hx hg hy => exact thgT (thgC (thg_lit (by decide +kernel)) (thgC thgI (thgC hx.thg (thgC (thgT (thgC (thg_lit (ok_of hg (by decide +kernel)).2) (thgC hy.thg rfl))) (thgC thgB rfl)))))
theorem cD_1n {a : PyData} {l : List PyData} : cutD (a :: l) (some 1) none = l := by
 rw [cutD_drop (by decide) (by simp only [List.length_cons]; omega)]; rfl
theorem cD_2n {a b : PyData} {l : List PyData} : cutD (a :: b :: l) (some 2) none = l := by
 rw [cutD_drop (by decide) (by simp only [List.length_cons]; omega)]; rfl
theorem cD_3n {a b c : PyData} {l : List PyData} : cutD (a :: b :: c :: l) (some 3) none = l := by
 rw [cutD_drop (by decide) (by simp only [List.length_cons]; omega)]; rfl
theorem cD_4n {a b c d : PyData} {l : List PyData} : cutD (a :: b :: c :: d :: l) (some 4) none = l := by
 rw [cutD_drop (by decide) (by simp only [List.length_cons]; omega)]; rfl
theorem cD_n1 {a : PyData} {l : List PyData} : cutD (a :: l) none (some 1) = [a] := by
 rw [cutD_take (by decide) (by simp only [List.length_cons]; omega)]; rfl
theorem cD_n2 {a b : PyData} {l : List PyData} : cutD (a :: b :: l) none (some 2) = [a, b] := by
 rw [cutD_take (by decide) (by simp only [List.length_cons]; omega)]; rfl
theorem cD_n3 {a b c : PyData} {l : List PyData} : cutD (a :: b :: c :: l) none (some 3) = [a, b, c] := by
 rw [cutD_take (by decide) (by simp only [List.length_cons]; omega)]; rfl
theorem cD_n4 {a b c d : PyData} {l : List PyData} : cutD (a :: b :: c :: d :: l) none (some 4) = [a, b, c, d] := by
 rw [cutD_take (by decide) (by simp only [List.length_cons]; omega)]; rfl
theorem cD_13 {a b c : PyData} {l : List PyData} : cutD (a :: b :: c :: l) (some 1) (some 3) = [b, c] := by
 unfold cutD
 rw [sIx_in (by decide) (by simp only [List.length_cons]; omega), sIx_in (by decide) (by simp only [List.length_cons]; omega)]
 rfl
end L2

namespace PySem
open Builtin
open AutoSeq1 (wpAny_loadPart')
end PySem
namespace L2
open PySem PySem.Spec PyProof.Rows PySem.W
section
variable {X : Cx} {H0 : Hp} {O0 : Ex}
def dRepT : PyData → PyData → (PyData → Prop) → Prop := fun x y Q => ∃ xs, x = .tuple xs ∧ y = .int 2 ∧ xs ≠ [] ∧ xs.length ≤ 1000 ∧ Q (.tuple (xs ++ xs))
def dDct0 : DT := fun _ Q => Q (.dict [])
def dNeg (t : DT) : DT := fun δ Q => t δ fun d => ∃ i, d = .int i ∧ Q (.int (-i))
def dUpper (t : DT) : DT := fun δ Q => t δ fun d => ∃ z : Str, d = .str z ∧ z.length ≤ 1000000 ∧ Q (.str (Txt.upper z))
end
section
variable {X : Cx} {H0 : Hp} {O0 : Ex}
def dRevT (t : DT) : DT := fun δ Q => t δ fun d => ∃ xs, d = .tuple xs ∧ Q (.tuple xs.reverse)
end
theorem cD_nm1 {xs : List PyData} : cutD xs none (some (-1)) = xs.dropLast := by
 unfold cutD
 rw [sIx_none]
 have e : HT.sIx xs.length xs.length (some (-1)) = xs.length - 1 := by
  simp only [HT.sIx]
  rw [if_pos (by decide)]; omega
 rw [e, List.drop_zero, Nat.sub_zero, List.dropLast_eq_take]
theorem join_cps (ys : List Str) : (Txt.join "" ys).cps.toList = (ys.map (·.cps.toList)).flatten := by
 have key : ∀ ys : List Str, (Str.join "" ys).cps.toList = (ys.map (·.cps.toList)).flatten := by
  intro ys
  induction ys with
  | nil => rfl
  | cons y r ih =>
   cases r with
   | nil => simp [Str.join]
   | cons z r =>
    show (y ++ ("" : Str) ++ Str.join "" (z :: r)).cps.toList = _
    rw [cps_append, cps_append, Array.toList_append, Array.toList_append, ih, List.map_cons, List.flatten_cons]
    have : ("" : Str).cps.toList = [] := by decide +kernel
    rw [this, List.append_nil]; simp
 rw [show Txt.join "" ys = Str.join "" ys from StrLaws.glued_eq_join "" ys]; exact key ys
section
variable {x : Option Expr} {n : Nat} {env : Env}
theorem swaps_List {a b} : swapsWith (.List a b) x n env = pure false := rfl
theorem swaps_Tuple {a b c} : swapsWith (.Tuple a b c) x n env = pure false := rfl
theorem swaps_BinOp {a b c d} : swapsWith (.BinOp a b c d) x n env = pure false := rfl
theorem swaps_Call {a b c d} : swapsWith (.Call a b c d) x n env = pure false := rfl
theorem swaps_Subscript {a b c} : swapsWith (.Subscript a b c) x n env = pure false := rfl
theorem swaps_IfExp {a b c d} : swapsWith (.IfExp a b c d) x n env = pure false := rfl
end
end L2

namespace L2
open PySem PySem.Spec PyProof.Rows PySem.W
section
variable {X : Cx} {H0 : Hp} {O0 : Ex}
def dCallN (F : List PyData → (List PyData → Prop) → Prop) (t : DA) : DA := fun δ Q => t δ fun ds => F ds Q
end
section
variable {P : Program} {w : World} {K : PySem.W.Frag} {mg : Str → Option Value} {base : Heap}
end
section
variable {X : Cx} {H0 : Hp} {O0 : Ex}
def dRep2 (t : DA) : DA := fun δ Q => t δ fun ds => ds.length ≤ 1000 ∧ Q (ds ++ ds)
end
theorem compI_sub {g : DG} {tc : DB} {te : DT} {δ0 : Dl} {xs : List PyData} {Q : List PyData → Prop}
  (h : ∀ x ∈ xs, ∀ (R : PyData → Prop) (S : Prop), R x → S → g x δ0 fun δ2 => tc δ2 fun ok => if ok = true then te δ2 R else S) (q : ∀ ys, ys.Sublist xs → Q ys) : compI g tc te δ0 xs Q := by
 refine ⟨fun i acc => acc.Sublist (xs.take i), by simp, ?_, ?_⟩
 ·rintro i x acc hx ha
  have et : xs.take (i + 1) = xs.take i ++ [x] := by rw [List.take_succ, hx]; rfl
  refine h x (List.mem_of_getElem? hx) (fun y => (acc ++ [y]).Sublist (xs.take (i + 1))) (acc.Sublist (xs.take (i + 1))) ?_ ?_
  ·show (acc ++ [x]).Sublist (xs.take (i + 1))
   rw [et]; exact ha.append (List.Sublist.refl _)
  ·rw [et]; exact ha.trans (List.sublist_append_left _ _)
 ·rintro acc ha
  rw [List.take_of_length_le (Nat.le_refl _)] at ha
  exact q acc ha
theorem wq_paper_happens : (Str.ofString "paper" == Str.ofString "happens") = false := by decide +kernel
theorem wq_paper_rule : (Str.ofString "paper" == Str.ofString "rule") = false := by decide +kernel
theorem wq_paper_end : (Str.ofString "paper" == Str.ofString "end") = false := by decide +kernel
theorem wq_paper_hold : (Str.ofString "paper" == Str.ofString "hold") = false := by decide +kernel
theorem wq_paper_lift : (Str.ofString "paper" == Str.ofString "lift") = false := by decide +kernel
theorem wq_paper_leave : (Str.ofString "paper" == Str.ofString "leave") = false := by decide +kernel
theorem wq_happens_paper : (Str.ofString "happens" == Str.ofString "paper") = false := by decide +kernel
theorem wq_happens_rule : (Str.ofString "happens" == Str.ofString "rule") = false := by decide +kernel
theorem wq_happens_end : (Str.ofString "happens" == Str.ofString "end") = false := by decide +kernel
theorem wq_happens_hold : (Str.ofString "happens" == Str.ofString "hold") = false := by decide +kernel
theorem wq_happens_lift : (Str.ofString "happens" == Str.ofString "lift") = false := by decide +kernel
theorem wq_happens_leave : (Str.ofString "happens" == Str.ofString "leave") = false := by decide +kernel
theorem wq_rule_paper : (Str.ofString "rule" == Str.ofString "paper") = false := by decide +kernel
theorem wq_rule_happens : (Str.ofString "rule" == Str.ofString "happens") = false := by decide +kernel
theorem wq_rule_end : (Str.ofString "rule" == Str.ofString "end") = false := by decide +kernel
theorem wq_rule_hold : (Str.ofString "rule" == Str.ofString "hold") = false := by decide +kernel
theorem wq_rule_lift : (Str.ofString "rule" == Str.ofString "lift") = false := by decide +kernel
theorem wq_rule_leave : (Str.ofString "rule" == Str.ofString "leave") = false := by decide +kernel
theorem wq_end_paper : (Str.ofString "end" == Str.ofString "paper") = false := by decide +kernel
theorem wq_end_happens : (Str.ofString "end" == Str.ofString "happens") = false := by decide +kernel
theorem wq_end_rule : (Str.ofString "end" == Str.ofString "rule") = false := by decide +kernel
theorem wq_end_hold : (Str.ofString "end" == Str.ofString "hold") = false := by decide +kernel
theorem wq_end_lift : (Str.ofString "end" == Str.ofString "lift") = false := by decide +kernel
theorem wq_end_leave : (Str.ofString "end" == Str.ofString "leave") = false := by decide +kernel
theorem wq_hold_paper : (Str.ofString "hold" == Str.ofString "paper") = false := by decide +kernel
theorem wq_hold_happens : (Str.ofString "hold" == Str.ofString "happens") = false := by decide +kernel
theorem wq_hold_rule : (Str.ofString "hold" == Str.ofString "rule") = false := by decide +kernel
theorem wq_hold_end : (Str.ofString "hold" == Str.ofString "end") = false := by decide +kernel
theorem wq_hold_lift : (Str.ofString "hold" == Str.ofString "lift") = false := by decide +kernel
theorem wq_hold_leave : (Str.ofString "hold" == Str.ofString "leave") = false := by decide +kernel
theorem wq_lift_paper : (Str.ofString "lift" == Str.ofString "paper") = false := by decide +kernel
theorem wq_lift_happens : (Str.ofString "lift" == Str.ofString "happens") = false := by decide +kernel
theorem wq_lift_rule : (Str.ofString "lift" == Str.ofString "rule") = false := by decide +kernel
theorem wq_lift_end : (Str.ofString "lift" == Str.ofString "end") = false := by decide +kernel
theorem wq_lift_hold : (Str.ofString "lift" == Str.ofString "hold") = false := by decide +kernel
theorem wq_lift_leave : (Str.ofString "lift" == Str.ofString "leave") = false := by decide +kernel
theorem wq_leave_paper : (Str.ofString "leave" == Str.ofString "paper") = false := by decide +kernel
theorem wq_leave_happens : (Str.ofString "leave" == Str.ofString "happens") = false := by decide +kernel
theorem wq_leave_rule : (Str.ofString "leave" == Str.ofString "rule") = false := by decide +kernel
theorem wq_leave_end : (Str.ofString "leave" == Str.ofString "end") = false := by decide +kernel
theorem wq_leave_hold : (Str.ofString "leave" == Str.ofString "hold") = false := by decide +kernel
theorem wq_leave_lift : (Str.ofString "leave" == Str.ofString "lift") = false := by decide +kernel
end L2

namespace L2
open PySem PySem.Spec PyProof.Rows PySem.W
section
variable {X : Cx} {H0 : Hp} {O0 : Ex}
def dStrI : List PyData → (PyData → Prop) → Prop := fun ds Q => ∃ i : Int, ds = [.int i] ∧ i.natAbs.log2 < 1920 ∧ Q (.str (toString i))
theorem cd_strI {K : PySem.W.Frag} : CallD K (fun xs H Q => ∃ i, xs = [.int i] ∧ i.natAbs.log2 < 1920 ∧ Q (.str (toString i)) H) dStrI := fun H O xs ds Qd R _ hs ⟨i, e, hz, q⟩ k => by
 subst e
 cases hs with
 | cons h r => cases r; cases h.int; exact ⟨i, rfl, hz, k _ _ H q (Same.refl _) (.str _)⟩
theorem call_intT : CallR X (.type "int") (fun xs H Q => ∃ (z : Str) (n : Int), xs = [.str z] ∧ PySem.intText? z = some n ∧ z.length ≤ 640 ∧ Q (.int n) H) := by
 intro pins s σ H xs us Q I r h
 obtain ⟨z, n, rfl, hn, hl, q⟩ := h
 obtain ⟨u, rfl, t, rfl⟩ := vals1 r
 exact KIN.call_text hn hl ⟨.int n, H, I.tok _, ⟨_, rfl⟩, q⟩
def dIntT : List PyData → (PyData → Prop) → Prop := fun ds Q => ∃ (z : Str) (n : Int), ds = [.str z] ∧ PySem.intText? z = some n ∧ z.length ≤ 640 ∧ Q (.int n)
theorem cd_intT {K : PySem.W.Frag} : CallD K (fun xs H Q => ∃ (z : Str) (n : Int), xs = [.str z] ∧ PySem.intText? z = some n ∧ z.length ≤ 640 ∧ Q (.int n) H) dIntT := fun H O xs ds Qd R _ hs ⟨z, n, e, hn, hl, q⟩ k => by
 subst e
 cases hs with
 | cons h r => cases r; cases h.str; exact ⟨z, n, rfl, hn, hl, k _ _ H q (Same.refl _) (.int _)⟩
theorem mt_zfill : MtR X "str.zfill" (fun x xs H Q => ∃ (z : Str) (i : Int), x = .str z ∧ xs = [.int i] ∧ PadOk i = true ∧ Q (.str (Txt.zfill z i)) H) := by
 intro pins s σ H x xs v us Q I rx rs h
 obtain ⟨z, i, rfl, rfl, hp, q⟩ := h
 obtain ⟨t, rfl⟩ := rx
 obtain ⟨u, rfl, t', rfl⟩ := vals1 rs
 exact SC.zfill hp fun t' k => ⟨.str _, H, I.tok _, ⟨_, rfl⟩, q⟩
def dZfill (to t : DT) : DT := fun δ Q => to δ fun x => ∃ z : Str, x = .str z ∧ t δ fun y => ∃ i : Int, y = .int i ∧ PadOk i = true ∧ Q (.str (Txt.zfill z i))
theorem de_zfill {o e : Expr} {to t : DT} {apos cpos : Pos} (ho : DE X H0 O0 o to) (ha : DE X H0 O0 e t) (hbase : attributeBase o "zfill" X.env (eval o X.env) = eval o X.env := by rfl)
  (hfew : ((backTo cpos (starEach [e] X.env)).all (fun x => !x.1) && (backToKw cpos (keywordEach [] X.env)).all (fun x => x.1.isSome) && decide ([e].length + ([] : List Keyword).length + (if ([] : List Keyword).isEmpty then 0 else 1) < 30)) = true := by rfl)
  (hline : (apos.endLine == cpos.line) = true := by rfl) (hst : starEach [e] X.env = (false, eval e X.env) :: starEach [] X.env := by rfl) (hplain : (backTo cpos (starEach [] X.env)).any (·.1) = false := by rfl) :
  DE X H0 O0 (.Call (.Attribute o "zfill" apos) [e] [] cpos) (dZfill to t) :=
 (pe_bm PySem.F.plainAttrs_str PySem.F.slot_str_zfill PySem.F.type_str_zfill mt_zfill ho (pa_cons ha pa_nil hst) hbase hfew hline hst hplain).imp fun σ H Q ⟨O, δ, Qd, w, q, k⟩ => ⟨O, δ, _, w, q, fun x v H1 ⟨z, e, q1⟩ s1 r1 => by
  subst e
  cases r1
  exact ⟨rfl, O, δ, _, w.mono s1, q1, fun y u H2 ⟨i, e, hz, q2⟩ s2 r2 => by subst e; cases r2; exact ⟨z, i, rfl, rfl, hz, k _ _ H2 q2 (s1.trans s2) (.str _)⟩⟩⟩
theorem vals_numbered : ∀ {l : List (Str × Tok)} {ys : List Str}, l.map (·.1) = ys → Vals (ys.map V.str) (strValues l)
 | [], _, rfl => .nil
 | (x, t) :: r, _, rfl => .cons ⟨t, rfl⟩ (vals_numbered (l := r) rfl)
theorem mt_split : MtR X "str.split" (fun x xs H Q => ∃ (z y : Str), x = .str z ∧ xs = [.str y] ∧ (y.length == 0) = false ∧ z.length ≤ 1000000 ∧ ∀ p, H p = none → Q (.ref p) (upd H p (.lst ((Txt.split z y).map V.str)))) := by
 intro pins s σ H x xs v us Q I rx rs h
 obtain ⟨z, y, rfl, rfl, hy, hz, q⟩ := h
 obtain ⟨t, rfl⟩ := rx
 obtain ⟨u, rfl, t', rfl⟩ := vals1 rs
 have hsl : (sizeLine : Nat) = 16777216 := by decide
 have hle := split_le z y
 have hq : ∀ (l : List (Str × Tok)) (k : Nat), l.map (·.1) = Txt.split z y → EP X pins σ Q (.ref s.heap.objs.size) { s with heap := s.heap.push { cls := .type "list", data := .seq (strValues l).toArray }, toks := k } := fun l k e =>
  ⟨.ref _, _, I.laid (t' := k) (o := .lst ((Txt.split z y).map V.str)) (fun b ob q => Heap.get?_push_of_some _ q) (Nat.le_refl _) ⟨by rw [List.length_map]; omega, _, 0, vals_numbered e, Heap.get?_push_size _ rfl⟩, rfl, q _ I.fresh⟩
 cases h1 : (decide (z.length < y.length) || decide (Builtin.Str.strKind z < Builtin.Str.strKind y))
 ·cases hf : (Builtin.Str.occurrences z y 0 z.length (z.length + 1)).isEmpty
  ·have hn : (Builtin.Str.partsBetween z (Builtin.Str.occurrences z y 0 z.length (z.length + 1)) y.length).length ≤ sizeLine := by
    rw [len_partsBetween]
    have := StrLaws.occ_length_le z y 0 z.length (z.length + 1)
    omega
   refine call_meets F.slot_str_split (typeIs_str _ _ _) F.entry_str_split (F.args_str_split_2 _ _) (meets_str_split_sep z y t t' h1 hy hf (by omega) hn) ?_
   show wants _ _ _ { s with toks := _, heap := s.heap.push { cls := .type "list", data := .seq (strsFrom s.toks (Builtin.Str.partsBetween z (Builtin.Str.occurrences z y 0 z.length (z.length + 1)) y.length)).toArray } }
   rw [strsFrom_eq]
   exact hq (numbered s.toks _) _ ((numbered_texts _ _).trans ((if_neg (ne_true_of_eq_false h1)).trans (if_neg (ne_true_of_eq_false hf))).symm)
  ·exact call_meets F.slot_str_split (typeIs_str _ _ _) F.entry_str_split (F.args_str_split_2 _ _) (meets_str_split_not_found z y t t' h1 hy hf) (hq [(z, t)] s.toks ((if_neg (ne_true_of_eq_false h1)).trans (if_pos hf)).symm)
 ·exact call_meets F.slot_str_split (typeIs_str _ _ _) F.entry_str_split (F.args_str_split_2 _ _) (meets_str_split_cannot_occur z y t t' h1) (hq [(z, t)] s.toks (if_pos h1).symm)
def dSplit (to t : DT) : DA := fun δ Q => to δ fun x => ∃ z : Str, x = .str z ∧ t δ fun y => ∃ y' : Str, y = .str y' ∧ (y'.length == 0) = false ∧ z.length ≤ 1000000 ∧ Q ((Txt.split z y').map .str)
theorem fe_split {o e : Expr} {to t : DT} {apos cpos : Pos} (ho : DE X H0 O0 o to) (ha : DE X H0 O0 e t) (hbase : attributeBase o "split" X.env (eval o X.env) = eval o X.env := by rfl)
  (hfew : ((backTo cpos (starEach [e] X.env)).all (fun x => !x.1) && (backToKw cpos (keywordEach [] X.env)).all (fun x => x.1.isSome) && decide ([e].length + ([] : List Keyword).length + (if ([] : List Keyword).isEmpty then 0 else 1) < 30)) = true := by rfl)
  (hline : (apos.endLine == cpos.line) = true := by rfl) (hst : starEach [e] X.env = (false, eval e X.env) :: starEach [] X.env := by rfl) (hplain : (backTo cpos (starEach [] X.env)).any (·.1) = false := by rfl) :
  FE X H0 O0 (.Call (.Attribute o "split" apos) [e] [] cpos) (dSplit to t) :=
 (pe_bm PySem.F.plainAttrs_str PySem.F.slot_str_split PySem.F.type_str_split mt_split ho (pa_cons ha pa_nil hst) hbase hfew hline hst hplain).imp fun σ H Q ⟨O, δ, Qd, w, q, k⟩ => ⟨O, δ, _, w, q, fun x v H1 ⟨z, e, q1⟩ s1 r1 => by
  subst e
  cases r1
  exact ⟨rfl, O, δ, _, w.mono s1, q1, fun y u H2 ⟨y', e, hy, hz, q2⟩ s2 r2 => by subst e; cases r2; exact ⟨z, y', rfl, rfl, hy, hz, fun p hp => k _ _ p H2 q2 (s1.trans s2) hp (Dts.ofStrs _)⟩⟩⟩
end
section
variable {X : Cx} {H0 : Hp} {O0 : Ex}
def PF (X : Cx) (H0 : Hp) (O0 : Ex) (e : Expr) (t : DT) : Prop := ∀ (pins : List (Addr × Obj)) (s : Shared) (σ : St) (H : Hp) (R : Str → Prop) (Q : VK), Inv X pins σ H s → (∃ O δ, Wd X.K H0 O0 H O σ δ ∧ t δ (fun d => ∃ z : Str, d = .str z ∧ z.length ≤ sizeLine ∧ R z) ∧ ∀ z H', R z → Same H H' → Q (.str z) H') → wpAny (model X.prog X.w) X.A (eval e X.env) (EP X pins σ Q) X.xe s
theorem pf_con {x j pos} : PF X H0 O0 (.Constant (.str x) j pos) (dC (.str x)) := fun pins s σ H R Q I h => by
 obtain ⟨O, δ, w, ⟨z, e, hz, q⟩, k⟩ := h
 injection e with e; subst e
 exact pe_str pins s σ H Q I (k _ H q (Same.refl _))
theorem pf_fmt {e : Expr} {t : DT} {pos : Pos} (h : DE X H0 O0 e t) : PF X H0 O0 (.FormattedValue e (-1) none pos) t := fun pins s σ H R Q I hh => by
 obtain ⟨O, δ, w, q, k⟩ := hh
 refine FormattedValue_plain (thn (h pins s σ H (fun v H1 => ∃ z : Str, v = .str z ∧ z.length ≤ sizeLine ∧ Q (.str z) H1) I ⟨O, δ, _, w, q, fun d v H1 ⟨z, e, hz, q1⟩ s1 r1 => by subst e; cases r1; exact ⟨z, rfl, hz, k _ H1 q1 s1⟩⟩) fun v s1 ⟨x, H1, I1, r1, z, e, hz, q1⟩ => ?_)
 subst e
 obtain ⟨t, rfl⟩ := r1
 exact formatField_str (fun t' tk => ⟨.str z, H1, I1.tok _, ⟨_, rfl⟩, q1⟩) hz
def dJs : List DT → Str → DT
 | [], out => fun _ Q => out.length ≤ sizeLine ∧ Q (.str out)
 | t :: ts, out => fun δ Q => t δ fun d => ∃ z : Str, d = .str z ∧ z.length ≤ sizeLine ∧ (out ++ z).length ≤ sizeLine ∧ dJs ts (out ++ z) δ Q
inductive PFs (X : Cx) (H0 : Hp) (O0 : Ex) : List Expr → List DT → Prop
 | nil : PFs X H0 O0 [] []
 | cons {e : Expr} {es : List Expr} {t : DT} {ts : List DT} : PF X H0 O0 e t → PFs X H0 O0 es ts → PFs X H0 O0 (e :: es) (t :: ts)
theorem pfs_join {es : List Expr} {ts : List DT} (h : PFs X H0 O0 es ts) : ∀ (out : Str) (pins : List (Addr × Obj)) (s : Shared) (σ : St) (H : Hp) (Q : VK), Inv X pins σ H s → up X.K H0 O0 (dJs ts out) σ H Q →
  wpAny (model X.prog X.w) X.A (joinParts out (evalEach es X.env)) (EP X pins σ Q) X.xe s := by
 induction h with
 | nil =>
  intro out pins s σ H Q I ⟨O, δ, Qd, w, ⟨hz, q⟩, k⟩
  exact joinParts_nil ⟨.str out, H, I.tok _, ⟨_, rfl⟩, k _ _ H q (Same.refl _) (.str out)⟩ hz
 | @cons e es t ts hp hs ih =>
  intro out pins s σ H Q I ⟨O, δ, Qd, w, q, k⟩
  show wpAny (model X.prog X.w) X.A (joinParts out (eval e X.env :: evalEach es X.env)) (EP X pins σ Q) X.xe s
  refine joinParts_cons (thn (hp pins s σ H (fun z => (out ++ z).length ≤ sizeLine ∧ dJs ts (out ++ z) δ Qd) (fun v H1 => ∃ z : Str, v = .str z ∧ (out ++ z).length ≤ sizeLine ∧ up X.K H0 O0 (dJs ts (out ++ z)) σ H1 Q) I ⟨O, δ, w, q, ?_⟩) fun v s1 ⟨x, H1, I1, r1, z, e, hz, q1⟩ => ?_)
  ·rintro z H1 ⟨hz, q1⟩ s1
   exact ⟨z, rfl, hz, O, δ, Qd, w.mono s1, q1, fun d v H2 q2 s2 r2 => k d v H2 q2 (s1.trans s2) r2⟩
  ·subst e
   obtain ⟨t', rfl⟩ := r1
   exact ⟨hz, ih _ _ _ _ _ _ I1 q1⟩
theorem de_fstr {e1 e2 : Expr} {es : List Expr} {ts : List DT} {pos : Pos} (h : PFs X H0 O0 (e1 :: e2 :: es) ts) : DE X H0 O0 (.JoinedStr (e1 :: e2 :: es) pos) (dJs ts Str.empty) := fun pins s σ H Q I hh =>
 JoinedStr_many (pfs_join h Str.empty pins s σ H Q I hh)
end
end L2

namespace L2
open PySem PySem.Spec PyProof.Rows PySem.W
section
variable {X : Cx} {H0 : Hp} {O0 : Ex}
def dNever : DS := fun _ _ => False
theorem ds_never {st : Stmt} : PS X st (upD X.K H0 O0 dNever) := ps_never.imp fun D σ H ⟨O, δ, E, w, q, _⟩ => q.elim
def dInts (ns : List Int) : List PyData := ns.map .int
def dLtU : PyData → PyData → (PyData → Prop) → Prop := fun x y Q => (∃ i j : Int, x = .int i ∧ y = .int j ∧ Q (.bool (decide (i < j)))) ∨ (∃ i j : Str, x = .str i ∧ y = .str j ∧ Q (.bool (decide (i.cps.toList < j.cps.toList)))) ∨
 (∃ ns ms : List Int, x = .tuple (dInts ns) ∧ y = .tuple (dInts ms) ∧ Q (.bool (HT.lexLt ns ms)))
end
end L2

namespace L2
open PySem PySem.Spec PyProof.Rows PySem.W
section
variable {α : Type} {P : α → Prop}
theorem lz_v0 {a : PyData} {r : Dl} {P : PyData → Prop} : (∃ d, (some (Sl.v a) :: r)[0]? = some (some (Sl.v d)) ∧ P d) = P a := by simp
theorem lz_vS {x : Option Sl} {r : Dl} {i : Nat} {P : PyData → Prop} : (∃ d, (x :: r)[i + 1]? = some (some (Sl.v d)) ∧ P d) = (∃ d, r[i]? = some (some (Sl.v d)) ∧ P d) := by simp
theorem lz_vE {a : PyData} {l : Dl} {i : Nat} {P : PyData → Prop} : (∃ d, (l.set i (some (Sl.v a)))[i]? = some (some (Sl.v d)) ∧ P d) = (i < l.length ∧ P a) := by
 apply propext
 rw [List.getElem?_set_self']
 constructor
 ·rintro ⟨d, e, p⟩
  by_cases h : i < l.length
  ·rw [List.getElem?_eq_getElem h] at e; cases e; exact ⟨h, p⟩
  ·rw [List.getElem?_eq_none (by omega)] at e; cases e
 ·rintro ⟨h, p⟩
  exact ⟨a, by rw [List.getElem?_eq_getElem h]; rfl, p⟩
theorem lz_vN {x : Option Sl} {l : Dl} {i j : Nat} {P : PyData → Prop} (h : i ≠ j) : (∃ d, (l.set i x)[j]? = some (some (Sl.v d)) ∧ P d) = (∃ d, l[j]? = some (some (Sl.v d)) ∧ P d) := by rw [List.getElem?_set_ne h]
theorem lz_o0 {a : List PyData} {r : Dl} {P : List PyData → Prop} : (∃ d, (some (Sl.o a) :: r)[0]? = some (some (Sl.o d)) ∧ P d) = P a := by simp
theorem lz_oS {x : Option Sl} {r : Dl} {i : Nat} {P : List PyData → Prop} : (∃ d, (x :: r)[i + 1]? = some (some (Sl.o d)) ∧ P d) = (∃ d, r[i]? = some (some (Sl.o d)) ∧ P d) := by simp
theorem lz_oE {a : List PyData} {l : Dl} {i : Nat} {P : List PyData → Prop} : (∃ d, (l.set i (some (Sl.o a)))[i]? = some (some (Sl.o d)) ∧ P d) = (i < l.length ∧ P a) := by
 apply propext
 rw [List.getElem?_set_self']
 constructor
 ·rintro ⟨d, e, p⟩
  by_cases h : i < l.length
  ·rw [List.getElem?_eq_getElem h] at e; cases e; exact ⟨h, p⟩
  ·rw [List.getElem?_eq_none (by omega)] at e; cases e
 ·rintro ⟨h, p⟩
  exact ⟨a, by rw [List.getElem?_eq_getElem h]; rfl, p⟩
theorem lz_oN {x : Option Sl} {l : Dl} {i j : Nat} {P : List PyData → Prop} (h : i ≠ j) : (∃ d, (l.set i x)[j]? = some (some (Sl.o d)) ∧ P d) = (∃ d, l[j]? = some (some (Sl.o d)) ∧ P d) := by rw [List.getElem?_set_ne h]
theorem lz_b {a : Bool} {P : Bool → Prop} : (∃ b, PyData.bool a = .bool b ∧ P b) = P a := by simp
theorem lz_i {a : Int} {P : Int → Prop} : (∃ b, PyData.int a = .int b ∧ P b) = P a := by simp
theorem lz_s {a : Str} {P : Str → Prop} : (∃ b, PyData.str a = .str b ∧ P b) = P a := by simp
theorem lz_t {a : List PyData} {P : List PyData → Prop} : (∃ b, PyData.tuple a = .tuple b ∧ P b) = P a := by simp
theorem lz_l {a : List PyData} {P : List PyData → Prop} : (∃ b, PyData.list a = .list b ∧ P b) = P a := by simp
theorem lz_ii {a b : Int} {P : Int → Int → Prop} : (∃ i j, PyData.int a = .int i ∧ PyData.int b = .int j ∧ P i j) = P a b := by simp
theorem lz_ss {a b : Str} {P : Str → Str → Prop} : (∃ i j, PyData.str a = .str i ∧ PyData.str b = .str j ∧ P i j) = P a b := by simp
theorem lz_tt {a b : List PyData} {P : List PyData → List PyData → Prop} : (∃ i j, PyData.tuple a = .tuple i ∧ PyData.tuple b = .tuple j ∧ P i j) = P a b := by simp
theorem lz_ll {a b : List PyData} {P : List PyData → List PyData → Prop} : (∃ i j, PyData.list a = .list i ∧ PyData.list b = .list j ∧ P i j) = P a b := by simp
theorem lz_cons {a : PyData} {r : List PyData} {P : PyData → List PyData → Prop} : (∃ x y, a :: r = x :: y ∧ P x y) = P a r := propext ⟨fun ⟨_, _, e, p⟩ => by cases e; exact p, fun p => ⟨_, _, rfl, p⟩⟩
theorem lz_two {a b : PyData} {P : PyData → PyData → Prop} : (∃ x y, [a, b] = [x, y] ∧ P x y) = P a b := propext ⟨fun ⟨_, _, e, p⟩ => by cases e; exact p, fun p => ⟨_, _, rfl, p⟩⟩
theorem lz_tt0 {a : PyData} {r : List PyData} {P : PyData → Prop} : (∃ ds i d, PyData.tuple (a :: r) = .tuple ds ∧ PyData.int 0 = .int i ∧ atI ds i = some d ∧ P d) = P a := by simp [atI_c0]
theorem lz_tt1 {a b : PyData} {r : List PyData} {P : PyData → Prop} : (∃ ds i d, PyData.tuple (a :: b :: r) = .tuple ds ∧ PyData.int 1 = .int i ∧ atI ds i = some d ∧ P d) = P b := by simp [atI_c1]
theorem lz_tt2 {a b c : PyData} {r : List PyData} {P : PyData → Prop} : (∃ ds i d, PyData.tuple (a :: b :: c :: r) = .tuple ds ∧ PyData.int 2 = .int i ∧ atI ds i = some d ∧ P d) = P c := by simp [atI_c2]
theorem lz_tt3 {a b c e : PyData} {r : List PyData} {P : PyData → Prop} : (∃ ds i d, PyData.tuple (a :: b :: c :: e :: r) = .tuple ds ∧ PyData.int 3 = .int i ∧ atI ds i = some d ∧ P d) = P e := by simp [atI_c3]
theorem lz_ll0 {a : PyData} {r : List PyData} {P : PyData → Prop} : (∃ ds i d, PyData.list (a :: r) = .list ds ∧ PyData.int 0 = .int i ∧ atI ds i = some d ∧ P d) = P a := by simp [atI_c0]
theorem lz_ll1 {a b : PyData} {r : List PyData} {P : PyData → Prop} : (∃ ds i d, PyData.list (a :: b :: r) = .list ds ∧ PyData.int 1 = .int i ∧ atI ds i = some d ∧ P d) = P b := by simp [atI_c1]
theorem lz_ll2 {a b c : PyData} {r : List PyData} {P : PyData → Prop} : (∃ ds i d, PyData.list (a :: b :: c :: r) = .list ds ∧ PyData.int 2 = .int i ∧ atI ds i = some d ∧ P d) = P c := by simp [atI_c2]
theorem lz_tix {xs : List PyData} {k : Int} {P : PyData → Prop} : (∃ ds i d, PyData.tuple xs = .tuple ds ∧ PyData.int k = .int i ∧ atI ds i = some d ∧ P d) = (∃ d, atI xs k = some d ∧ P d) := by simp
theorem lz_lix {xs : List PyData} {k : Int} {P : PyData → Prop} : (∃ ds i d, PyData.list xs = .list ds ∧ PyData.int k = .int i ∧ atI ds i = some d ∧ P d) = (∃ d, atI xs k = some d ∧ P d) := by simp
end
end L2
namespace L2
open PySem PySem.Spec PyProof.Rows PySem.W
theorem lz_w {w v : Str} {r : List PyData} {l : Dl} {Q : Bool → Prop} : dTest (dOp dEqZ (dOp dIxT (dVar 0) (dC (.int 0))) (dC (.str v))) (some (.v (.tuple (.str w :: r))) :: l) Q = Q (w == v) := by
 simp [dTest, dOp, dEqZ, dIxT, dVar, dC, atI_c0, isThing, eqv_str]
theorem lz_wN {v : Str} {x : Option Sl} {l : Dl} {k : Nat} {Q : Bool → Prop} : dTest (dOp dEqZ (dOp dIxT (dVar 0) (dC (.int 0))) (dC (.str v))) (l.set (k + 1) x) Q = dTest (dOp dEqZ (dOp dIxT (dVar 0) (dC (.int 0))) (dC (.str v))) l Q := by
 simp only [dTest, dOp, dVar, dC, List.getElem?_set_ne (show k + 1 ≠ 0 by omega)]
end L2

namespace L2
open PySem PySem.Spec PyProof.Rows PySem.W
def keyD : Key → PyData
 | .inl i => .int i
 | .inr x => .str x
def valD (kd : List (Key × PyData)) (k : Key) : Option PyData := (kd.find? fun p => decide (p.1 = k)).map (·.2)
def putD (kd : List (Key × PyData)) (k : Key) (d : PyData) : List (Key × PyData) := if (kd.any fun p => decide (p.1 = k)) = true then kd.map (fun p => if p.1 = k then (p.1, d) else p) else kd ++ [(k, d)]
section
variable {K : PySem.W.Frag} {H : Hp} {O : Ex}
end
section
variable {X : Cx} {H0 : Hp} {O0 : Ex}
abbrev DKy := Dl → (List (Key × PyData) → Prop) → Prop
def upK (K : PySem.W.Frag) (H0 : Hp) (O0 : Ex) (t : DKy) : TE := fun σ H R => ∃ O δ Qd, Wd K H0 O0 H O σ δ ∧ t δ Qd ∧ ∀ kd kv p H', Qd kd → Same H H' → H' p = none → KDt K H' O kv kd → R (.ref p) (upd H' p (.dK kv))
abbrev KE (X : Cx) (H0 : Hp) (O0 : Ex) (e : Expr) (t : DKy) : Prop := PE X e (upK X.K H0 O0 t)
def dEmp : DKy := fun _ Q => Q []
def dNewK (i : Nat) (t : DKy) : DS := fun E δ => t δ fun kd => E.nx (δ.set i (some (.k kd)))
def dPutK (i : Nat) (tk tv : DT) : DS := fun E δ => tv δ fun d => ∃ kd, δ[i]? = some (some (.k kd)) ∧ tk δ fun y => ∃ k, y = keyD k ∧ kd.length < sizeLine ∧ E.nx (δ.set i (some (.k (putD kd k d))))
def dGetK (i : Nat) (tk : DT) : DT := fun δ Q => ∃ kd, δ[i]? = some (some (.k kd)) ∧ tk δ fun y => ∃ k d, y = keyD k ∧ valD kd k = some d ∧ Q d
def dGet1K (i : Nat) (tk : DT) : DT := fun δ Q => ∃ kd, δ[i]? = some (some (.k kd)) ∧ tk δ fun y => ∃ k, y = keyD k ∧ Q ((valD kd k).getD .none)
def dInK (neg : Bool) (i : Nat) (tk : DT) : DT := fun δ Q => tk δ fun y => ∃ k, y = keyD k ∧ ∃ kd, δ[i]? = some (some (.k kd)) ∧ Q (.bool (if neg then !(valD kd k).isSome else (valD kd k).isSome))
end
end L2

namespace L2
open PySem PySem.Spec PyProof.Rows PySem.W PySem.Calls
section
variable {X : Cx} {H0 : Hp} {O0 : Ex}
def dSortK (i : Nat) : DA := fun δ Q => ∃ kd, δ[i]? = some (some (.k kd)) ∧ ∃ ss : List Str, kd.map (·.1) = ss.map Sum.inr ∧ ss.length < 64 ∧ Q ((sortS ss).map .str)
end
section
theorem lz_k0 {a : List (Key × PyData)} {r : Dl} {P : List (Key × PyData) → Prop} : (∃ d, (some (Sl.k a) :: r)[0]? = some (some (Sl.k d)) ∧ P d) = P a := by simp
theorem lz_kS {x : Option Sl} {r : Dl} {i : Nat} {P : List (Key × PyData) → Prop} : (∃ d, (x :: r)[i + 1]? = some (some (Sl.k d)) ∧ P d) = (∃ d, r[i]? = some (some (Sl.k d)) ∧ P d) := by simp
theorem lz_kE {a : List (Key × PyData)} {l : Dl} {i : Nat} {P : List (Key × PyData) → Prop} : (∃ d, (l.set i (some (Sl.k a)))[i]? = some (some (Sl.k d)) ∧ P d) = (i < l.length ∧ P a) := by
 apply propext
 rw [List.getElem?_set_self']
 constructor
 ·rintro ⟨d, e, p⟩
  by_cases h : i < l.length
  ·rw [List.getElem?_eq_getElem h] at e; cases e; exact ⟨h, p⟩
  ·rw [List.getElem?_eq_none (by omega)] at e; cases e
 ·rintro ⟨h, p⟩
  exact ⟨a, by rw [List.getElem?_eq_getElem h]; rfl, p⟩
theorem lz_kN {x : Option Sl} {l : Dl} {i j : Nat} {P : List (Key × PyData) → Prop} (h : i ≠ j) : (∃ d, (l.set i x)[j]? = some (some (Sl.k d)) ∧ P d) = (∃ d, l[j]? = some (some (Sl.k d)) ∧ P d) := by rw [List.getElem?_set_ne h]
theorem lz_ks {x : Str} {P : Key → Prop} : (∃ k, PyData.str x = keyD k ∧ P k) = P (.inr x) := propext ⟨fun ⟨k, e, p⟩ => by cases k with | inl i => cases e | inr y => cases e; exact p, fun p => ⟨_, rfl, p⟩⟩
theorem lz_ki {x : Int} {P : Key → Prop} : (∃ k, PyData.int x = keyD k ∧ P k) = P (.inl x) := propext ⟨fun ⟨k, e, p⟩ => by cases k with | inr i => cases e | inl y => cases e; exact p, fun p => ⟨_, rfl, p⟩⟩
end
def isNone : PyData → Bool
 | .none => true
 | _ => false
def dIsN : PyData → PyData → (PyData → Prop) → Prop := fun x y Q => y = .none ∧ Q (.bool (isNone x))
def dNotN : PyData → PyData → (PyData → Prop) → Prop := fun x y Q => y = .none ∧ Q (.bool (!isNone x))
theorem Sh.isN {K : PySem.W.Frag} {H : Hp} {O : Ex} {x : V} {d : PyData} (h : Sh K H O x d) : decide (x = .non) = isNone d := by
 cases h with
 | dt h => cases h <;> simp [isNone]
 | _ => simp [isNone]
theorem od_isN {K : PySem.W.Frag} : OpD K (fun x y H Q => y = .non ∧ Q (.bl (decide (x = .non))) H) dIsN := fun H O x y dx dy Qd R _ hx hy ⟨e, q⟩ k => by
 subst e
 refine ⟨hy.non, ?_⟩
 rw [hx.isN]; exact k _ _ H q (Same.refl _) (.bl _)
def dAbs : List PyData → (PyData → Prop) → Prop := fun ds Q => ∃ i : Int, ds = [.int i] ∧ Q (.int (if i < 0 then -i else i))
def dIxSc : PyData → PyData → (PyData → Prop) → Prop := fun x y Q => ∃ ds i d, x = scrD ds ∧ y = .int i ∧ atI ds i = some d ∧ Q d
section
variable {X : Cx} {H0 : Hp} {O0 : Ex}
def dSlSc (t : DT) (tl th : DO) : DA := fun δ Q => t δ fun d => tl δ fun l => th δ fun u => ∃ xs, d = scrD xs ∧ Q (cutD xs l u)
end
def dMulS : PyData → PyData → (PyData → Prop) → Prop := fun x y Q => ∃ (z : Str) (n : Int), x = .str z ∧ y = .int n ∧ MulOk z n ∧ Q (.str (Txt.mul z n))
end L2

namespace L2
open PySem PySem.Spec PyProof.Rows PySem.W
structure Rw where
 w : Str
 n : Int
 nm : Str
 r : List PyData
abbrev Ls := List (Str × Rw)
section
variable {ws : List Str} {day : Int} {xs : List Rw} {L : Ls} {x : Rw}
end
end L2

namespace L2
open PySem PySem.Spec PyProof.Rows PySem.W PySem.Calls
def addS (ss : List Str) (x : Str) : List Str := if x ∈ ss then ss else ss ++ [x]
section
variable {P : Program} {w : World} {A : Around} {E : Value → Shared → Prop} {s : Shared}
end
end L2

namespace L2
open PySem PySem.Spec PyProof.Rows PySem.W PySem.Calls
section
variable {P : Program} {w : World} {A : Around} {R : Result → Shared → Prop} {I : Addr} {fp wr : List Addr} {G : Array GenState → Array GenState → Prop} {n : Nat} {Pv : Nat → Value → Prop} {St : Nat → Shared → Prop}
end
section
variable {P : Program} {w : World} {A : Around} {E : Value → Shared → Prop} {s : Shared}
end
end L2

namespace L2
open PySem PySem.Spec PyProof.Rows PySem.W PySem.Calls
section
variable {P : Program} {w : World} {A : Around} {E : Value → Shared → Prop}
end
section
variable {P : Program} {w : World} {A : Around} {E : Value → Shared → Prop} {s : Shared} {a : Addr} {o : Obj} {es : Array (Int × Value)} {ep : Nat} {t : SetTable}
end
end L2

namespace L2
open PySem PySem.Spec PyProof.Rows PySem.W PySem.Calls
section
variable {P : Program} {w : World} {A : Around} {E : Value → Shared → Prop} {s : Shared} {a : Addr} {o : Obj} {es : Array (Int × Value)} {ep : Nat} {t : SetTable}
end
end L2

namespace L2
open PySem PySem.Spec PyProof.Rows PySem.W PySem.Calls
section
variable {P : Program} {w : World} {A : Around} {E : Value → Shared → Prop} {s : Shared} {a : Addr}
end
end L2

namespace L2
open PySem PySem.Spec PyProof.Rows PySem.W PySem.Calls
section
variable {X : Cx} {H0 : Hp} {O0 : Ex}
def dSortSet (t : DA) : DA := fun δ Q => t δ fun ds => ∃ ss : List Str, ds = [.list (ss.map .str)] ∧ ss.length < 64 ∧ Q ((sortS (ss.foldl addS [])).map .str)
end
end L2

namespace L2
open PySem PySem.Spec PyProof.Rows PySem.W PySem.Calls
section
variable {X : Cx} {H0 : Hp} {O0 : Ex}
def dExt (i : Nat) (t : DA) : DS := fun E δ => ∃ ds, δ[i]? = some (some (.o ds)) ∧ t δ fun es => ds.length + es.length ≤ sizeLine ∧ E.nx (δ.set i (some (.o (ds ++ es))))
end
theorem Dts.intsL {K : PySem.W.Frag} {H : Hp} {O : Ex} : ∀ {ns : List Int} {vs : List V}, Dts K H O vs (ns.map PyData.int) → vs = ns.map V.int
 | [], _, r => by rw [List.map_nil] at r; cases r; rfl
 | b :: bs, _, r => by
  rw [List.map_cons] at r
  cases r with
  | cons h r => cases h; rw [List.map_cons, Dts.intsL r]
def dMaxL : List PyData → (PyData → Prop) → Prop := fun ds Q => ∃ ns : List Int, ds = [.list (ns.map .int)] ∧ ns ≠ [] ∧ ∀ M, M ∈ ns → (∀ a ∈ ns, a ≤ M) → Q (.int M)
section
variable {X : Cx} {H0 : Hp} {O0 : Ex}
def dForDK (i : Nat) (dg : DG) (tb : DS) : DS := fun E δ => ∃ kd, δ[i]? = some (some (.k kd)) ∧ forI dg tb E (kd.map fun p => keyD p.1) (δ.set i none)
end
def dPairs : List (DT × DT) → Dl → (List (PyData × PyData) → Prop) → Prop
 | [], _, Q => Q []
 | (a, b) :: r, δ, Q => a δ fun x => b δ fun y => dPairs r δ fun ps => Q ((x, y) :: ps)
section
variable {X : Cx} {H0 : Hp} {O0 : Ex}
def dDisp (trs : List (DT × DT)) : DKy := fun δ Q => dPairs trs δ fun ps => ∃ kd : List (Key × PyData), ps = kd.map (fun p => (keyD p.1, p.2)) ∧ kd.length ≤ 15 ∧ (∀ p ∈ kd, scalD p.2 = true) ∧ Q (kd.foldl (fun a p => putD a p.1 p.2) [])
end
end L2

namespace L2
open PySem PySem.Spec PyProof.Rows PySem.W PySem.Calls
section
variable {X : Cx} {H0 : Hp} {O0 : Ex}
def dPar3 (i j k : Nat) (t : DA) : DS := fun E δ => t δ fun ds => ∃ x y z, ds = [x, y, z] ∧ E.nx (((δ.set i (some (.v x))).set j (some (.v y))).set k (some (.v z)))
end
end L2

namespace L2
open PySem PySem.Spec PyProof.Rows PySem.W PySem.Calls
section
variable {n : Nat} {lt : Nat → Nat → Bool} {I : Shared → Prop} {cmp : Nat → Nat → (Bool → Shared → Prop) → Shared → Prop}
end
end L2

namespace L2
open PySem PySem.Spec PyProof.Rows PySem.W PySem.Calls
def ltP (p q : Int × Str) : Bool := decide (p.1 < q.1) || (decide (p.1 = q.1) && decide (p.2.cps.toList < q.2.cps.toList))
section
variable {P : Program} {w : World} {A : Around} {E : Value → Shared → Prop} {s : Shared}
end
end L2

namespace L2
open PySem PySem.Spec PyProof.Rows PySem.W PySem.Calls
section
variable {X : Cx} {pins : List (Addr × Obj)} {σ : St} {H : Hp} {s : Shared}
theorem Inv.track {o : HO} {D : Addr} {ch : List Addr} {t' : Nat} {h' : Heap} (I : Inv X pins σ H s) (hD : D ∈ ch) (f : ∀ b ∈ ch, FpOk X pins H b) (k : ∀ b u, b ∉ ch → s.heap.get? b = some u → h'.get? b = some u) (new : ObjOk X.prog X.w (upd H D o) h' D o) : Inv X pins σ (upd H D o) { s with heap := h', toks := t' } := by
 have nC : ∀ b u, H b = some u → b ∉ ch := fun b u e z => by rw [(f b z).1] at e; cases e
 have nD : ∀ b u, H b = some u → b ≠ D := fun b u e z => nC b u e (by rw [z]; exact hD)
 refine I.step (g' := s.gens) (d' := s.drawn) (ch := ch) (fun b hb => ?_) (fun b o _ _ hc e _ => k b o hc e) (fun b o _ _ hc e _ => ⟨o.slots, k b o hc e⟩) (fun b o hc _ n => by rw [upd_ne (fun z => hc (by rw [z]; exact hD))]; exact n)
  (fun b o hc e => ⟨o, k b o hc e⟩) (fun b xs e => by rw [upd_ne (nD _ _ e)]; exact e) (fun b u xs e => by rw [upd_ne (nD _ _ e)]; exact e) (fun b ps e => ⟨#[], by rw [upd_ne (nD _ _ e), e]; simp⟩) (fun m hm => hm.at' fun o e => k _ o (fun z => (f _ z).2.1 rfl) e) (fun b u e => ?_) I.bare
 ·obtain ⟨f0, f1, f2, f3, f4, f5⟩ := f b hb; exact ⟨f3, f1, f4, f5⟩
 ·by_cases hb : b = D
  ·subst hb
   rw [upd_same] at e; cases e
   exact new
  ·rw [upd_ne hb] at e
   refine (I.hok b u e).stay (fun c v hc q => k c v (fun z => ?_) q) (fun c q => by rw [upd_ne (nD _ _ q)]; exact q) (fun c xs q => by rw [upd_ne (nD _ _ q)]; exact q)
   rcases hc with r | r
   ·subst r; exact nC _ _ e z
   ·exact nC _ _ r z
def prD (p : Int × Str) : PyData := .tuple [.int p.1, .str p.2]
end
end L2

namespace L2
open PySem PySem.Spec PyProof.Rows PySem.W PySem.Calls
section
variable {P : Program} {w : World} {A : Around} {E : Value → Shared → Prop} {s : Shared}
end
section
variable {X : Cx} {H0 : Hp} {O0 : Ex}
def dSortPr (t : DA) : DA := fun δ Q => t δ fun ds => ∃ ps : List (Int × Str), ds = [.list (ps.map prD)] ∧ ps.length < 64 ∧ ps.Nodup ∧ ∀ ps' : List (Int × Str), ps'.Perm ps → ps'.Pairwise (fun a b => ltP a b = true) → Q (ps'.map prD)
def dSortKey (F : List PyData → (PyData → Prop) → Prop) (kf : PyData → Int × Str) (t : DA) : DA := fun δ Q => t δ fun ds0 => ∃ ds, ds0 = [.list ds] ∧ (∀ d ∈ ds, ∀ R : PyData → Prop, R (prD (kf d)) → F [d] R) ∧ ds.length < 64 ∧ (ds.map kf).Nodup ∧ ∀ ds', ds'.Perm ds → ds'.Pairwise (fun a b => ltP (kf a) (kf b) = true) → Q ds'
end
end L2

namespace L2
open PySem PySem.Spec PyProof.Rows PySem.W PySem.Calls
section
open PySem.SeqAt
open PySem.AutoSeq1 (wpAny_loadPart')
open PySem.MeetsSeq PySem.MeetsSeq2 PySem.MeetsSeq3
end
def dLtP : PyData → PyData → (PyData → Prop) → Prop := fun x y Q => ∃ p q : Int × Str, x = prD p ∧ y = prD q ∧ Q (.bool (ltP p q))
end L2

namespace L2
open PySem PySem.Spec PyProof.Rows PySem.W PySem.Calls
section
variable {X : Cx} {H0 : Hp} {O0 : Ex}
def dWhile (tc : DB) (tb : DS) : DS := fun E δ => ∃ W : Nat → Dl → Prop, (∃ m, W m δ) ∧ ∀ m δ, W m δ → tc δ fun b => if b = true then tb { E with nx := fun δ' => ∃ m', m' < m ∧ W m' δ', ct := fun δ' => ∃ m', m' < m ∧ W m' δ', bk := E.nx } δ else E.nx δ
theorem ds_while {c : Expr} {body : List Stmt} {tc : DB} {tb : DS} {pos : Pos} (hp : PassesOwn (model X.prog X.w) X.A X.env X.xe) (hc : PT X c (upT X.K H0 O0 tc)) (hb : PSs X body (upD X.K H0 O0 tb)) : PS X (.While c body [] pos) (upD X.K H0 O0 (dWhile tc tb)) :=
 (ps_while hp hc hb).imp fun D σ H ⟨O, δ, E, w, ⟨W, ⟨m0, w0⟩, st⟩, k1, k2, k3, k4⟩ => by
  refine ⟨fun m σ' H' => ∃ O' δ', Wd X.K H0 O0 H' O' σ' δ' ∧ Step H H' O O' ∧ W m δ', ⟨m0, O, δ, w, Step.refl _ _, w0⟩, fun m σ1 H1 ⟨O1, δ1, w1, S1, q1⟩ => ⟨O1, δ1, _, w1, st m δ1 q1, fun b H2 q2 s2 => ?_⟩⟩
  cases b with
  | false =>
   rw [if_neg (by simp)] at q2 ⊢
   exact k1 O1 δ1 σ1 H2 q2 (w1.mono s2) (S1.trans (.same s2))
  | true =>
   rw [if_pos rfl] at q2 ⊢
   refine ⟨fun σ' H' => ∃ O' δ' m', m' < m ∧ Wd X.K H0 O0 H' O' σ' δ' ∧ Step H H' O O' ∧ W m' δ', fun σ' H' ⟨O', δ', m', lt, w', S', q'⟩ => ⟨m', lt, O', δ', w', S', q'⟩, O1, δ1, _, w1.mono s2, q2, ?_, k2, ?_, ?_⟩
   ·rintro O' δ' σ' H' ⟨m', lt, q'⟩ w' S'
    exact ⟨O', δ', m', lt, w', S1.trans ((Step.same s2).trans S'), q'⟩
   ·intro O' δ' σ' H' q' w' S'
    exact k1 O' δ' σ' H' q' w' (S1.trans ((Step.same s2).trans S'))
   ·rintro O' δ' σ' H' ⟨m', lt, q'⟩ w' S'
    exact ⟨O', δ', m', lt, w', S1.trans ((Step.same s2).trans S'), q'⟩
abbrev dicD (ks : List Str) (ds : List PyData) : PyData := dicP (ks.map .str) ds
def dFrzK (i : Nat) (t : DS) : DS := fun E δ => ∃ kd, δ[i]? = some (some (.k kd)) ∧ ∃ ks : List Str, kd.map (·.1) = ks.map Sum.inr ∧ t E (δ.set i (some (.v (dicD ks (kd.map (·.2))))))
def atS : List Str → List PyData → Str → Option PyData
 | k :: ks, d :: ds, z => if k = z then some d else atS ks ds z
 | _, _, _ => none
def dGetD (to tk : DT) : DT := fun δ Q => to δ fun x => ∃ ks ds, x = dicD ks ds ∧ tk δ fun y => ∃ z, y = .str z ∧ ∃ d, atS ks ds z = some d ∧ Q d
end
end L2

namespace L2
open PySem PySem.Spec PyProof.Rows PySem.W PySem.Calls
section
variable {X : Cx} {H0 : Hp} {O0 : Ex}
def dIndex (to t : DT) : DT := fun δ Q => to δ fun x => ∃ ss : List Str, x = .list (ss.map .str) ∧ t δ fun y => ∃ z, y = .str z ∧ z ∈ ss ∧ Q (.int (ss.idxOf z : Nat))
end
section
variable {X : Cx} {H0 : Hp} {O0 : Ex}
def dListRg (t : DA) : DA := fun δ Q => t δ fun ds => ∃ n k : Int, ds = [.int 0, .int n, .int k] ∧ 0 ≤ n ∧ n < 1000 ∧ 0 < k ∧ k < 1000 ∧ ∀ js : List Int, (∀ j ∈ js, 0 ≤ j ∧ j < n) → js.length ≤ 1000 → Q (js.map .int)
def dCompV (t : DT) (g : DG) (tc : DB) (te : DT) (k : Nat) (fr : List Nat) : DA := fun δ Q => dCompI t g tc te k fr δ Q ∨ dCompTI t g tc te k fr δ Q
end
theorem keep_set2 {fr : List Nat} {σ : St} {v u : Option V} : Keep (st0 2 fr σ) (((st0 2 fr σ).set 0 v).set 1 u) := by
 refine ⟨by simp, fun i w h => ?_⟩
 match i with
 | 0 => simp [st0, List.replicate] at h
 | 1 => simp [st0, List.replicate] at h
 | i + 2 => simpa [st0, List.replicate] using h
theorem keepTup {K : PySem.W.Frag} {n : Nat} : KeepG (gTup K n (gCons (gName 0) (gCons (gName 1) gNil))) 2 := fun fr σ v H' R ⟨a, xs, e, h1, h2, x, r, e1, y, r2, e2, e3, h⟩ => ⟨a, xs, e, h1, h2, x, r, e1, y, r2, e2, e3, keep_set2, h⟩
section
variable {X : Cx} {H0 : Hp} {O0 : Ex}
theorem de_isinC {T : String} {a c : Expr} {t : DT} {np p : Pos} {K' : PySem.W.Frag} (hK : X.K = K') (hg : Gl X "isinstance") (hm : X.mg "isinstance" = none) (hv : bootBuiltins "isinstance" = some (.builtin "isinstance")) (ha : DF X H0 O0 a t) (hc : PE X c (tC (.ty T)))
  (hs : starEach [a, c] X.env = (false, eval a X.env) :: starEach [c] X.env := by rfl) (hs2 : starEach [c] X.env = [(false, eval c X.env)] := by rfl) (hb : (backTo p (starEach [c] X.env)).any (·.1) = false := by rfl) : DE X H0 O0 (.Call (.Name "isinstance" np) [a, c] [] p) (dIsin K' T t) := by
 subst hK
 exact de_isin hg hm hv ha hc hs hs2 hb
end
def rCatX (K : PySem.W.Frag) : R2 := fun x y H Q => ∃ a b xs ys, x = .ref a ∧ y = .ref b ∧ SqT K H a xs ∧ SqT K H b ys ∧ xs.length + ys.length ≤ sizeLine ∧ (xs = [] → Q (.ref b) H) ∧ (xs ≠ [] → rCatT K x y H Q)
theorem op_catX {X : Cx} : OpR X (binaryOp .Add) (rCatX X.K) := by
 intro pins s σ H x y v u Q I rx ry h
 obtain ⟨a, b, xs, ys, rfl, rfl, ha, hb, hz, q0, q1⟩ := h
 by_cases hx : xs = []
 ·subst hx
  cases rx
  cases ry
  obtain ⟨its, r1, ⟨⟨c1, d1, da1, s1⟩, o1, k1, n1, e1⟩, _⟩ := I.tuple ha
  obtain ⟨its2, r2, ⟨⟨c2, d2, da2, s2⟩, o2, k2, n2, e2⟩, _⟩ := I.tuple hb
  simp only at k1 e1 k2 e2
  subst k1 e1 k2 e2
  cases r1
  exact concat_meets ⟨_, o1, rfl⟩ ⟨_, o2, rfl⟩ noFill_tuple_add seq_tuple_add PySem.F.slot_tuple_add PySem.F.entry_tuple_add (PySem.F.args_tuple_add_2 _ _)
   (tuple_addW0 a b _ its2.toArray n1 n2 d1 d2 s1 s2 (by simp)) ⟨o1, o2, .ref b, H, I, rfl, q0 rfl⟩
 ·exact op_catT pins s σ H _ _ v u Q I rx ry (q1 hx)
def dCatX : PyData → PyData → (PyData → Prop) → Prop := fun x y Q => ∃ xs ys, x = .tuple xs ∧ y = .tuple ys ∧ xs.length + ys.length ≤ sizeLine ∧ Q (.tuple (xs ++ ys))
theorem od_catX {K : PySem.W.Frag} : OpD K (rCatX K) dCatX := fun H O x y dx dy Qd R tr hx hy ⟨xs, ys, e1, e2, hz, q⟩ k => by
 subst e1 e2
 have hx0 := hx
 have hy0 := hy
 obtain ⟨a, vs, rfl, h1, d1⟩ := hx.tup
 obtain ⟨b, us, rfl, h2, d2⟩ := hy.tup
 refine ⟨a, b, vs, us, rfl, rfl, h1, h2, by rw [d1.length, d2.length]; exact hz, fun z => ?_, fun z => ?_⟩
 ·subst z
  cases d1
  rw [List.nil_append] at q
  cases hy0 with
  | dt hy0 => exact k _ _ H q (Same.refl _) hy0
 ·exact od_catT H O _ _ _ _ Qd R tr hx0 hy0 ⟨xs, ys, rfl, rfl, fun e => z (by subst e; cases d1; rfl), hz, q⟩ k
end L2

namespace L2
open PySem PySem.Spec PyProof.Rows PySem.W PySem.Calls
def putFd (f : Str) (d : PyData) : List (Str × PyData) → List (Str × PyData)
 | [] => [(f, d)]
 | (g, x) :: r => if g = f then (g, d) :: r else (g, x) :: putFd f d r
section
variable {X : Cx} {H0 : Hp} {O0 : Ex}
def dFld (C : Addr) (i : Nat) (f : Str) (t : DT) : DS := fun E δ => t δ fun d => ∃ l fd, δ[i]? = some (some (.i l C fd)) ∧ fd.length < 1000 ∧ E.nx (δ.set i (some (.i l C (putFd f d fd))))
end
section
variable {P : Program} {w : World} {K : PySem.W.Frag} {mg : Str → Option Value} {base : Heap}
end
section
variable {X : Cx} {H0 : Hp} {O0 : Ex}
def dFldD (C : Addr) (f : Str) (t : DT) : DT := fun δ Q => t δ fun x => ∃ ks ds d, x = objP C (ks.map .str) ds ∧ atS ks ds f = some d ∧ Q d
end
end L2

namespace L2
open PySem PySem.Spec PyProof.Rows PySem.W PySem.Calls
end L2

namespace L2
open PySem PySem.Spec PyProof.Rows PySem.W PySem.Calls
def addSN (ss : List Int) (x : Int) : List Int := if x ∈ ss then ss else ss ++ [x]
section
variable {P : Program} {w : World} {A : Around} {E : Value → Shared → Prop} {s : Shared}
end
end L2

namespace L2
open PySem PySem.Spec PyProof.Rows PySem.W PySem.Calls
section
variable {P : Program} {w : World} {A : Around} {R : Result → Shared → Prop} {I : Addr} {fp wr : List Addr} {G : Array GenState → Array GenState → Prop} {n : Nat} {Pv : Nat → Value → Prop} {St : Nat → Shared → Prop}
end
section
variable {P : Program} {w : World} {A : Around} {E : Value → Shared → Prop} {s : Shared}
end
end L2

namespace L2
open PySem PySem.Spec PyProof.Rows PySem.W PySem.Calls
section
variable {P : Program} {w : World} {A : Around} {E : Value → Shared → Prop} {s : Shared} {a : Addr} {o : Obj} {es : Array (Int × Value)} {ep : Nat} {t : SetTable}
end
end L2

namespace L2
open PySem PySem.Spec PyProof.Rows PySem.W PySem.Calls
section
variable {P : Program} {w : World} {A : Around} {E : Value → Shared → Prop} {s : Shared} {a : Addr}
end
end L2

namespace L2
open PySem PySem.Spec PyProof.Rows PySem.W PySem.Calls
section
variable {X : Cx} {H0 : Hp} {O0 : Ex}
def dSortSetN (t : DA) : DA := fun δ Q => t δ fun ds => ∃ ss : List Int, ds = [.list (ss.map .int)] ∧ ss.length < 4000 ∧ (ss.foldl addSN []).length < 64 ∧ ∀ ns : List Int, (∀ z, z ∈ ns ↔ z ∈ ss) → ns.Pairwise (· < ·) → Q (ns.map .int)
end
end L2

namespace L2
open PySem PySem.Spec PyProof.Rows PySem.W PySem.Calls
def enumD : Nat → List PyData → List PyData
 | _, [] => []
 | k, x :: r => .tuple [.int (k : Int), x] :: enumD (k + 1) r
section
variable {X : Cx} {H0 : Hp} {O0 : Ex}
def dForE (t : DA) (g : DG) (tb : DS) : DS := fun E δ => t δ fun ds => ∃ xs, ds = [.list xs] ∧ forI g tb E (enumD 0 xs) δ
end
end L2

namespace L2
open PySem PySem.Spec PyProof.Rows PySem.W PySem.Calls
def dDivmod : List PyData → (PyData → Prop) → Prop := fun ds Q => ∃ i j : Int, ds = [.int i, .int j] ∧ CDiv i j ∧ Q (.tuple [.int (i / j), .int (i % j)])
def dSum : List PyData → (PyData → Prop) → Prop := fun ds Q => ∃ ns : List Int, ds = [.list (ns.map .int)] ∧ Q (.int ns.sum)
theorem cd_sum {K : PySem.W.Frag} : CallD K (fun xs H Q => ∃ (a : Addr) (ns : List Int), xs = [.ref a] ∧ SqL K H a (ns.map V.int) ∧ Q (.int ns.sum) H) dSum := fun H O xs ds Qd R tr hs ⟨ns, e, q⟩ k => by
 subst e
 cases hs with
 | cons h r =>
  cases r
  obtain ⟨a, vs, rfl, h1, d1⟩ := h.lst
  cases d1.intsL
  exact ⟨a, ns, rfl, h1, k _ _ H q (Same.refl _) (.int _)⟩
def dMinL : List PyData → (PyData → Prop) → Prop := fun ds Q => ∃ ns : List Int, ds = [.list (ns.map .int)] ∧ ns ≠ [] ∧ ∀ M, M ∈ ns → (∀ a ∈ ns, M ≤ a) → Q (.int M)
def dAnyI (c : Int → Int → Prop) : PyData → PyData → (PyData → Prop) → Prop := fun x y Q => ∃ i j : Int, x = .int i ∧ y = .int j ∧ c i j ∧ ∀ r : Int, Q (.int r)
section
variable {X : Cx} {H0 : Hp} {O0 : Ex}
def dRepC (n : Nat) (t : DA) : DA := fun δ Q => t δ fun ds => ds.length ≤ 1000 ∧ Q (List.replicate n ds).flatten
theorem Dts.rep {K : PySem.W.Frag} {H : Hp} {O : Ex} {vs : List V} {ds : List PyData} (h : Dts K H O vs ds) : ∀ n : Nat, Dts K H O (List.replicate n vs).flatten (List.replicate n ds).flatten
 | 0 => .nil
 | n + 1 => by rw [List.replicate_succ, List.replicate_succ, List.flatten_cons, List.flatten_cons]; exact h.append (Dts.rep h n)
end
section
variable {X : Cx} {H0 : Hp} {O0 : Ex}
def dExtD (i : Nat) (t : DT) : DS := fun E δ => ∃ ds, δ[i]? = some (some (.o ds)) ∧ t δ fun d => ∃ es, d = .list es ∧ ds.length + es.length ≤ sizeLine ∧ E.nx (δ.set i (some (.o (ds ++ es))))
end
section
variable {X : Cx} {H0 : Hp} {O0 : Ex}
end
end L2

namespace Day
def leap (y : Int) : Bool := decide (y % 400 = 0) || (decide (y % 4 = 0) && !decide (y % 100 = 0))
def ld (y : Int) : Int := if leap y = true then 1 else 0
def mdays : List Int := [31, 28, 31, 30, 31, 30, 31, 31, 30, 31, 30, 31]
def mlen (y m : Int) : Int := if m = 2 ∧ leap y = true then 29 else mdays.getD (m - 1).toNat 0
def lb (y : Int) : Int := (y - 1) / 4 - (y - 1) / 100 + (y - 1) / 400
def ystart (y : Int) : Int := 365 * (y - 2000) + lb y - lb 2000
def bef (y m : Int) : Int := ((List.range (m - 1).toNat).map fun (i : Nat) => mlen y (1 + (i : Int))).sum
def num (y m n : Int) : Int := ystart y + bef y m + n - 1
structure DateOf (d y m n : Int) : Prop where
 m1 : 1 ≤ m
 m12 : m ≤ 12
 n1 : 1 ≤ n
 nl : n ≤ mlen y m
 eq : num y m n = d
theorem ld01 (y : Int) : 0 ≤ ld y ∧ ld y ≤ 1 := by unfold ld; split <;> omega
theorem leap_iff (y : Int) : leap y = true ↔ (y % 400 = 0 ∨ (y % 4 = 0 ∧ y % 100 ≠ 0)) := by
 unfold leap; simp
theorem ystart_succ (y : Int) : ystart (y + 1) = ystart y + 365 + ld y := by
 unfold ystart lb ld
 by_cases h : leap y = true
 ·rw [if_pos h]; have := (leap_iff y).mp h; omega
 ·rw [if_neg h]; have := mt (leap_iff y).mpr h; omega
theorem ystart_mono {a b : Int} (h : a + 1 ≤ b) : ystart (a + 1) ≤ ystart b := by
 unfold ystart lb; omega
theorem mlen_2 (y : Int) : mlen y 2 = 28 + ld y := by
 unfold mlen ld
 by_cases h : leap y = true
 ·rw [if_pos ⟨rfl, h⟩, if_pos h]; rfl
 ·rw [if_neg (fun z => h z.2), if_neg h]; rfl
theorem mlen_ne {y m : Int} (h : m ≠ 2) : mlen y m = mdays.getD (m - 1).toNat 0 := by
 unfold mlen; rw [if_neg (fun z => h z.1)]
theorem mlen_all (y : Int) : mlen y 1 = 31 ∧ mlen y 3 = 31 ∧ mlen y 4 = 30 ∧ mlen y 5 = 31 ∧ mlen y 6 = 30 ∧ mlen y 7 = 31 ∧ mlen y 8 = 31 ∧ mlen y 9 = 30 ∧ mlen y 10 = 31 ∧ mlen y 11 = 30 ∧ mlen y 12 = 31 := by
 refine ⟨?_, ?_, ?_, ?_, ?_, ?_, ?_, ?_, ?_, ?_, ?_⟩ <;> (rw [mlen_ne (by decide)]; rfl)
theorem twelve {m : Int} (h1 : 1 ≤ m) (h2 : m ≤ 12) : m = 1 ∨ m = 2 ∨ m = 3 ∨ m = 4 ∨ m = 5 ∨ m = 6 ∨ m = 7 ∨ m = 8 ∨ m = 9 ∨ m = 10 ∨ m = 11 ∨ m = 12 := by omega
theorem mlen_bd {y m : Int} (h1 : 1 ≤ m) (h2 : m ≤ 12) : 28 ≤ mlen y m ∧ mlen y m ≤ 31 := by
 have := mlen_all y; have := mlen_2 y; have := ld01 y
 rcases twelve h1 h2 with h | h | h | h | h | h | h | h | h | h | h | h <;> subst h <;> omega
theorem bef_1 (y : Int) : bef y 1 = 0 := rfl
theorem bef_succ {y m : Int} (h : 1 ≤ m) : bef y (m + 1) = bef y m + mlen y m := by
 unfold bef
 have e : (m + 1 - 1).toNat = (m - 1).toNat + 1 := by omega
 rw [e, List.range_succ, List.map_append, List.sum_append]
 have e2 : (1 : Int) + (((m - 1).toNat : Nat) : Int) = m := by omega
 simp only [List.map_cons, List.map_nil, List.sum_cons, List.sum_nil, e2]
 omega
theorem bef_all (y : Int) : bef y 1 = 0 ∧ bef y 2 = 31 ∧ bef y 3 = 59 + ld y ∧ bef y 4 = 90 + ld y ∧ bef y 5 = 120 + ld y ∧ bef y 6 = 151 + ld y ∧ bef y 7 = 181 + ld y ∧ bef y 8 = 212 + ld y ∧ bef y 9 = 243 + ld y ∧ bef y 10 = 273 + ld y ∧ bef y 11 = 304 + ld y ∧ bef y 12 = 334 + ld y ∧ bef y 13 = 365 + ld y := by
 have h1 := bef_1 y
 have h2 : bef y 2 = bef y 1 + mlen y 1 := bef_succ (m := 1) (by decide)
 have h3 : bef y 3 = bef y 2 + mlen y 2 := bef_succ (m := 2) (by decide)
 have h4 : bef y 4 = bef y 3 + mlen y 3 := bef_succ (m := 3) (by decide)
 have h5 : bef y 5 = bef y 4 + mlen y 4 := bef_succ (m := 4) (by decide)
 have h6 : bef y 6 = bef y 5 + mlen y 5 := bef_succ (m := 5) (by decide)
 have h7 : bef y 7 = bef y 6 + mlen y 6 := bef_succ (m := 6) (by decide)
 have h8 : bef y 8 = bef y 7 + mlen y 7 := bef_succ (m := 7) (by decide)
 have h9 : bef y 9 = bef y 8 + mlen y 8 := bef_succ (m := 8) (by decide)
 have h10 : bef y 10 = bef y 9 + mlen y 9 := bef_succ (m := 9) (by decide)
 have h11 : bef y 11 = bef y 10 + mlen y 10 := bef_succ (m := 10) (by decide)
 have h12 : bef y 12 = bef y 11 + mlen y 11 := bef_succ (m := 11) (by decide)
 have h13 : bef y 13 = bef y 12 + mlen y 12 := bef_succ (m := 12) (by decide)
 have := mlen_all y; have := mlen_2 y
 omega
theorem bef_mono {y m : Int} (h1 : 1 ≤ m) : ∀ k : Nat, m + k ≤ 13 → bef y m ≤ bef y (m + k)
 | 0, _ => by simp
 | k + 1, h => by
  have ih := bef_mono (y := y) h1 k (by omega)
  have e : m + ((k + 1 : Nat) : Int) = (m + k) + 1 := by omega
  rw [e, bef_succ (by omega)]
  have := mlen_bd (y := y) (m := m + k) (by omega) (by omega)
  omega
theorem bef_le {y m m' : Int} (h1 : 1 ≤ m) (h2 : m ≤ m') (h3 : m' ≤ 13) : bef y m ≤ bef y m' := by
 have := bef_mono (y := y) h1 (m' - m).toNat (by omega)
 rw [show m + (((m' - m).toNat : Nat) : Int) = m' by omega] at this
 exact this
theorem bef_bd {y m : Int} (h1 : 1 ≤ m) (h2 : m ≤ 12) : 0 ≤ bef y m ∧ bef y m + mlen y m ≤ 365 + ld y := by
 have a := bef_le (y := y) (m := 1) (m' := m) (by decide) h1 (by omega)
 have b := bef_le (y := y) (m := m + 1) (m' := 13) (by omega) (by omega) (by decide)
 rw [bef_succ h1] at b
 have c := (bef_all y).1
 have e := (bef_all y).2.2.2.2.2.2.2.2.2.2.2.2
 omega
theorem bef_lt {y m m' : Int} (h1 : 1 ≤ m) (h2 : m < m') (h3 : m' ≤ 12) : bef y m + mlen y m ≤ bef y m' := by
 have b := bef_le (y := y) (m := m + 1) (m' := m') (by omega) (by omega) (by omega)
 rw [bef_succ h1] at b
 exact b
theorem DateOf.in {d y m n : Int} (h : DateOf d y m n) : ystart y ≤ d ∧ d < ystart (y + 1) := by
 have := bef_bd (y := y) h.m1 h.m12; have := h.n1; have := h.nl; have e := h.eq; have := ystart_succ y
 unfold num at e; omega
theorem DateOf.uniq {d y m n y' m' n' : Int} (h : DateOf d y m n) (h' : DateOf d y' m' n') : y = y' ∧ m = m' ∧ n = n' := by
 have a := h.in; have b := h'.in
 have ey : y = y' := by
  rcases Int.lt_trichotomy y y' with z | z | z
  ·have := ystart_mono (a := y) (b := y') (by omega); omega
  ·exact z
  ·have := ystart_mono (a := y') (b := y) (by omega); omega
 subst ey
 have e := h.eq; have e' := h'.eq; unfold num at e e'
 have em : m = m' := by
  rcases Int.lt_trichotomy m m' with z | z | z
  ·have := bef_lt (y := y) h.m1 z h'.m12; have := h.nl; have := h'.n1; omega
  ·exact z
  ·have := bef_lt (y := y) h'.m1 z h.m12; have := h'.nl; have := h.n1; omega
 subst em
 exact ⟨rfl, rfl, by omega⟩
def yearOf (d : Int) : Int :=
 if d < ystart (2000 + d * 400 / 146097) then 2000 + d * 400 / 146097 - 1
 else if ystart (2000 + d * 400 / 146097 + 1) ≤ d then 2000 + d * 400 / 146097 + 1
 else 2000 + d * 400 / 146097
theorem yearOf_ok (d : Int) : ystart (yearOf d) ≤ d ∧ d < ystart (yearOf d + 1) := by
 unfold yearOf
 have e : 2000 + d * 400 / 146097 - 1 + 1 = 2000 + d * 400 / 146097 := by omega
 by_cases h : d < ystart (2000 + d * 400 / 146097)
 ·rw [if_pos h, e]
  refine ⟨?_, h⟩
  unfold ystart lb at *; omega
 ·rw [if_neg h]
  by_cases h2 : ystart (2000 + d * 400 / 146097 + 1) ≤ d
  ·rw [if_pos h2]
   refine ⟨h2, ?_⟩
   unfold ystart lb at *; omega
  ·rw [if_neg h2]; omega
theorem ahead_eq (y : Int) : 365 * (y - 2000) + (y - 2000 + 3) / 4 - (y - 2000 + 99) / 100 + (y - 2000 + 399) / 400 = ystart y := by
 unfold ystart lb; omega
theorem ahead_le {d : Int} (h : 0 ≤ d) : ystart (2000 + d / 366) ≤ d := by
 unfold ystart lb; omega
end Day

namespace Day
theorem year_bd {d y m n : Int} (h : DateOf d y m n) (h0 : 0 ≤ d) (h1 : d < ystart 10000) : 2000 ≤ y ∧ y ≤ 9999 := by
 have a := h.in
 have e0 : ystart 2000 = 0 := by decide
 constructor
 ·by_cases z : 2000 ≤ y
  ·exact z
  ·have := ystart_mono (a := y) (b := 2000) (by omega); omega
 ·by_cases z : y ≤ 9999
  ·exact z
  ·have m1 : ystart 10000 ≤ ystart y := by
    have := ystart_mono (a := 9999) (b := y) (by omega)
    exact this
   omega
end Day

namespace L2
open PySem PySem.Spec PyProof.Rows PySem.W
def d2 (m : Nat) : List Nat := [48 + m / 10, 48 + m % 10]
def d4 (y : Nat) : List Nat := [48 + y / 1000, 48 + y / 100 % 10, 48 + y / 10 % 10, 48 + y % 10]
theorem zfill_d2 : ∀ m : Fin 100, Txt.zfill (Str.ofString (toString (m.val : Int))) 2 = ⟨(d2 m.val).toArray⟩ := by decide +kernel
theorem int_d2 : ∀ m : Fin 100, PySem.intText? ⟨(d2 m.val).toArray⟩ = some (m.val : Int) := by decide +kernel
theorem digitN : ∀ d : Fin 10, (Nat.digitChar d.val).toNat = 48 + d.val := by decide
theorem digitN' {d : Nat} (h : d < 10) : (Nat.digitChar d).toNat = 48 + d := digitN ⟨d, h⟩
theorem str_d4 {y : Nat} (h1 : 1000 ≤ y) (h2 : y < 10000) : Str.ofString (toString (y : Int)) = ⟨(d4 y).toArray⟩ := by
 have e := KIN.signs_num y
 rw [Nat.toDigits_of_base_le (by decide) (by omega), Nat.toDigits_of_base_le (by decide) (by omega), Nat.toDigits_of_base_le (by decide) (by omega), Nat.toDigits_of_lt_base (by omega)] at e
 simp only [List.cons_append, List.nil_append, List.map_cons, List.map_nil] at e
 rw [digitN' (by omega), digitN' (by omega), digitN' (by omega), digitN' (by omega)] at e
 rw [show y / 10 / 10 / 10 = y / 1000 by omega, show y / 10 / 10 % 10 = y / 100 % 10 by omega] at e
 show _ = (⟨(d4 y).toArray⟩ : Str)
 cases hs : Str.ofString (toString (y : Int)) with
 | mk c =>
  rw [hs] at e
  congr 1
  apply Array.ext'
  rw [e]; rfl
theorem int_d4 {y : Nat} (h1 : 1000 ≤ y) (h2 : y < 10000) : PySem.intText? ⟨(d4 y).toArray⟩ = some (y : Int) := by
 rw [← str_d4 h1 h2]; exact KIN.num_reads (by omega) (by omega)
def dtL (y m n : Nat) : List Nat := d4 y ++ 45 :: (d2 m ++ 45 :: d2 n)
def dtx (y m n : Int) : Str := ⟨(dtL y.toNat m.toNat n.toNat).toArray⟩
theorem Str.ext_list {a b : Str} (h : a.cps.toList = b.cps.toList) : a = b := by
 cases a; cases b; congr 1; exact Array.ext' h
theorem app_list (a b : Str) : (a ++ b).cps.toList = a.cps.toList ++ b.cps.toList := by
 show (a.cps ++ b.cps).toList = _; exact Array.toList_append
theorem dtx_eq {y m n : Int} (hy : 1000 ≤ y ∧ y < 10000) (hm : 0 ≤ m ∧ m < 100) (hn : 0 ≤ n ∧ n < 100) :
  Str.empty ++ Str.ofString (toString y) ++ Str.ofString "-" ++ Txt.zfill (Str.ofString (toString m)) 2 ++ Str.ofString "-" ++ Txt.zfill (Str.ofString (toString n)) 2 = dtx y m n := by
 obtain ⟨y, rfl⟩ := Int.eq_ofNat_of_zero_le (show 0 ≤ y by omega)
 obtain ⟨m, rfl⟩ := Int.eq_ofNat_of_zero_le hm.1
 obtain ⟨n, rfl⟩ := Int.eq_ofNat_of_zero_le hn.1
 have e1 := str_d4 (y := y) (by omega) (by omega)
 have e2 := zfill_d2 ⟨m, by omega⟩; have e3 := zfill_d2 ⟨n, by omega⟩
 simp only at e2 e3
 rw [e1, e2, e3]
 apply Str.ext_list
 simp only [app_list]
 have h1 : (Str.ofString "-").cps.toList = [45] := by decide +kernel
 have h2 : Str.empty.cps.toList = [] := rfl
 rw [h1, h2]
 simp [dtx, dtL]
def splitL (c : Nat) : List Nat → List (List Nat)
 | [] => [[]]
 | x :: xs => if x = c then [] :: splitL c xs else match splitL c xs with | [] => [[x]] | p :: ps => (x :: p) :: ps
def glue (c : Nat) : List (List Nat) → List Nat
 | [] => []
 | [p] => p
 | p :: q :: r => p ++ c :: glue c (q :: r)
theorem splitL_free (c : Nat) : ∀ p : List Nat, c ∉ p → splitL c p = [p]
 | [], _ => rfl
 | x :: xs, h => by
  have hx : x ≠ c := fun e => h (by simp [e])
  have hr : c ∉ xs := fun e => h (by simp [e])
  unfold splitL; rw [if_neg hx, splitL_free c xs hr]
theorem splitL_app (c : Nat) (l : List Nat) : ∀ p : List Nat, c ∉ p → splitL c (p ++ c :: l) = p :: splitL c l
 | [], _ => by show splitL c (c :: l) = _; rw [splitL, if_pos rfl]
 | x :: xs, h => by
  have hx : x ≠ c := fun e => h (by simp [e])
  have hr : c ∉ xs := fun e => h (by simp [e])
  show splitL c (x :: (xs ++ c :: l)) = _
  rw [splitL, if_neg hx, splitL_app c l xs hr]
theorem splitL_glue (c : Nat) : ∀ ps : List (List Nat), ps ≠ [] → (∀ p ∈ ps, c ∉ p) → splitL c (glue c ps) = ps
 | [], h, _ => absurd rfl h
 | [p], _, h => splitL_free c p (h p (by simp))
 | p :: q :: r, _, h => by
  show splitL c (p ++ c :: glue c (q :: r)) = _
  rw [splitL_app c _ p (h p (by simp)), splitL_glue c (q :: r) (by simp) (fun x hx => h x (by simp at hx ⊢; exact .inr hx))]
theorem join_glue (c : Nat) : ∀ ps : List Str, (Str.join ⟨#[c]⟩ ps).cps.toList = glue c (ps.map fun p => p.cps.toList)
 | [] => rfl
 | [p] => rfl
 | p :: q :: r => by
  have ih := join_glue c (q :: r)
  show ((p ++ ⟨#[c]⟩ ++ Str.join ⟨#[c]⟩ (q :: r)) : Str).cps.toList = _
  rw [app_list, app_list, ih]
  show p.cps.toList ++ [c] ++ glue c _ = p.cps.toList ++ c :: glue c _
  simp
theorem split_one (x : Str) (c : Nat) : (Txt.split x ⟨#[c]⟩).map (fun p => p.cps.toList) = splitL c x.cps.toList := by
 have hj := StrLaws.join_split x ⟨#[c]⟩
 have hf := StrLaws.split_free x c
 by_cases hn : Txt.split x ⟨#[c]⟩ = []
 ·exfalso
  revert hn
  unfold Txt.split
  split
  ·simp
  ·split
   ·simp
   ·intro h
    have := StrLaws.join_split x ⟨#[c]⟩
    have hl := congrArg List.length h
    rw [PyProof.Rows.len_partsBetween] at hl
    simp at hl
 ·rw [← hj, join_glue, splitL_glue c _ (by simpa using hn) (fun p hp => by
   obtain ⟨q, hq, rfl⟩ := List.mem_map.mp hp; exact hf q hq)]
  rw [hj]
theorem split_dtx {y m n : Int} : Txt.split (dtx y m n) (Str.ofString "-") = [⟨(d4 y.toNat).toArray⟩, ⟨(d2 m.toNat).toArray⟩, ⟨(d2 n.toNat).toArray⟩] := by
 have e : Str.ofString "-" = ⟨#[45]⟩ := by decide +kernel
 rw [e]
 have h := split_one (dtx y m n) 45
 have e2 : (dtx y m n).cps.toList = d4 y.toNat ++ 45 :: (d2 m.toNat ++ 45 :: d2 n.toNat) := by simp [dtx, dtL]
 rw [e2, splitL_app 45 _ _ (by simp [d4]; omega), splitL_app 45 _ _ (by simp [d2]; omega), splitL_free 45 _ (by simp [d2]; omega)] at h
 have inj : ∀ {a b : List Str}, a.map (fun p => p.cps.toList) = b.map (fun p => p.cps.toList) → a = b := fun {a b} h => by
  induction a generalizing b with
  | nil => cases b with
   | nil => rfl
   | cons _ _ => simp at h
  | cons x xs ih => cases b with
   | nil => simp at h
   | cons z zs =>
    simp only [List.map_cons, List.cons.injEq] at h
    rw [Str.ext_list h.1, ih h.2]
 exact inj (h.trans (by simp))
theorem dtx_lt {y m n y' m' n' : Int} (hy : 1000 ≤ y ∧ y < 10000) (hm : 0 ≤ m ∧ m < 100) (hn : 0 ≤ n ∧ n < 100) (hy' : 1000 ≤ y' ∧ y' < 10000) (hm' : 0 ≤ m' ∧ m' < 100) (hn' : 0 ≤ n' ∧ n' < 100) :
  ((dtx y m n).cps.toList < (dtx y' m' n').cps.toList) ↔ (y < y' ∨ (y = y' ∧ (m < m' ∨ (m = m' ∧ n < n')))) := by
 obtain ⟨y, rfl⟩ := Int.eq_ofNat_of_zero_le (show 0 ≤ y by omega)
 obtain ⟨m, rfl⟩ := Int.eq_ofNat_of_zero_le hm.1
 obtain ⟨n, rfl⟩ := Int.eq_ofNat_of_zero_le hn.1
 obtain ⟨y', rfl⟩ := Int.eq_ofNat_of_zero_le (show 0 ≤ y' by omega)
 obtain ⟨m', rfl⟩ := Int.eq_ofNat_of_zero_le hm'.1
 obtain ⟨n', rfl⟩ := Int.eq_ofNat_of_zero_le hn'.1
 simp only [dtx, dtL, d4, d2, Int.toNat_natCast, List.cons_append, List.nil_append, List.cons_lt_cons_iff, Int.ofNat_lt, Int.natCast_inj, List.not_lt_nil, and_false, or_false, Nat.lt_irrefl, false_or, true_and, Nat.add_lt_add_iff_left, Nat.add_left_cancel_iff]
 have a1 : y = 1000 * (y / 1000) + 100 * (y / 100 % 10) + 10 * (y / 10 % 10) + y % 10 := by omega
 have a2 : y' = 1000 * (y' / 1000) + 100 * (y' / 100 % 10) + 10 * (y' / 10 % 10) + y' % 10 := by omega
 have b1 : m = 10 * (m / 10) + m % 10 := by omega
 have b2 : m' = 10 * (m' / 10) + m' % 10 := by omega
 have c1 : n = 10 * (n / 10) + n % 10 := by omega
 have c2 : n' = 10 * (n' / 10) + n' % 10 := by omega
 have hyy : (y < y' ↔ y / 1000 < y' / 1000 ∨ (y / 1000 = y' / 1000 ∧ (y / 100 % 10 < y' / 100 % 10 ∨ (y / 100 % 10 = y' / 100 % 10 ∧ (y / 10 % 10 < y' / 10 % 10 ∨ (y / 10 % 10 = y' / 10 % 10 ∧ y % 10 < y' % 10)))))) := by omega
 have hye : (y = y' ↔ y / 1000 = y' / 1000 ∧ y / 100 % 10 = y' / 100 % 10 ∧ y / 10 % 10 = y' / 10 % 10 ∧ y % 10 = y' % 10) := by omega
 have hmm : (m < m' ↔ m / 10 < m' / 10 ∨ (m / 10 = m' / 10 ∧ m % 10 < m' % 10)) := by omega
 have hme : (m = m' ↔ m / 10 = m' / 10 ∧ m % 10 = m' % 10) := by omega
 have hnn : (n < n' ↔ n / 10 < n' / 10 ∨ (n / 10 = n' / 10 ∧ n % 10 < n' % 10)) := by omega
 rw [hyy, hye, hmm, hme, hnn]
 clear hyy hye hmm hme hnn a1 a2 b1 b2 c1 c2
 constructor
 ·intro h; simp only [and_or_left, and_assoc, or_assoc] at h ⊢; exact h
 ·intro h; simp only [and_or_left, and_assoc, or_assoc] at h ⊢; exact h
theorem dtx_inj {y m n y' m' n' : Int} (hy : 1000 ≤ y ∧ y < 10000) (hm : 0 ≤ m ∧ m < 100) (hn : 0 ≤ n ∧ n < 100) (hy' : 1000 ≤ y' ∧ y' < 10000) (hm' : 0 ≤ m' ∧ m' < 100) (hn' : 0 ≤ n' ∧ n' < 100) (h : dtx y m n = dtx y' m' n') : y = y' ∧ m = m' ∧ n = n' := by
 have h1 : ¬ ((dtx y m n).cps.toList < (dtx y' m' n').cps.toList) := by rw [h]; exact List.lt_irrefl _
 have h2 : ¬ ((dtx y' m' n').cps.toList < (dtx y m n).cps.toList) := by rw [h]; exact List.lt_irrefl _
 rw [dtx_lt hy hm hn hy' hm' hn'] at h1
 rw [dtx_lt hy' hm' hn' hy hm hn] at h2
 omega
theorem dtx_len (y m n : Int) : (dtx y m n).length = 10 := by simp [dtx, dtL, d4, d2, Str.length]
end L2

namespace L2
open PySem PySem.Spec PyProof.Rows PySem.W
section
variable {X : Cx} {H0 : Hp} {O0 : Ex}
theorem ps_quiet {body : List Stmt} {h0 : ExceptHandler} {hs : List ExceptHandler} {pos : Pos} {t : TS} (h : PSs (X.wish fun _ _ => False) body t) : PS X (.Try body (h0 :: hs) [] [] pos) t := by
 intro pins s σ H D I q
 refine wpAny_Try_except (wpAny_mono (h pins s σ H D (I.wish _) q) (fun f s1 z => ?_) fun _ _ z => z.elim)
 cases f with
 | next => obtain ⟨σ', H', J, k⟩ := z; (show wpAny _ _ (execs [] X.env) _ _ _); rw [execs_nil]; exact wpAny_pure ⟨σ', H', J.unwish, k⟩
 | ret u => obtain ⟨v, σ', H', J, r, k⟩ := z; exact ⟨v, σ', H', J.unwish, r, k⟩
 | brk => obtain ⟨σ', H', J, k⟩ := z; exact ⟨σ', H', J.unwish, k⟩
 | cont => obtain ⟨σ', H', J, k⟩ := z; exact ⟨σ', H', J.unwish, k⟩
theorem mt_joinT : MtR X "str.join" (fun x xs H Q => ∃ (O : Ex) (z : Str) (a : V) (ys : List Str), x = .str z ∧ xs = [a] ∧ Sh X.K H O a (.tuple (ys.map .str)) ∧ (ys.map (·.length)).sum + ys.length * z.length ≤ 16777216 ∧ Q (.str (Txt.join z ys)) H) := by
 intro pins s σ H x xs v us Q I rx rs h
 obtain ⟨O, z, a, ys, rfl, rfl, ha, hz, q⟩ := h
 obtain ⟨t, rfl⟩ := rx
 obtain ⟨u, rfl, ru⟩ := vals1 rs
 obtain ⟨l, vs, rfl, hl, dl⟩ := ha.tup
 cases ru
 obtain ⟨its, rv, pl, _⟩ := I.tuple hl
 exact join_tuple pl (by simpa using strs_of dl rv) hz fun t' k => ⟨.str _, H, I.tok _, ⟨_, rfl⟩, q⟩
def dJoinT (to : DT) (t : DT) : DT := fun δ Q => to δ fun x => ∃ z : Str, x = .str z ∧ t δ fun y => ∃ (ys : List Str), y = .tuple (ys.map .str) ∧ (ys.map (·.length)).sum + ys.length * z.length ≤ 16777216 ∧ Q (.str (Txt.join z ys))
theorem de_joinT {o e : Expr} {to t : DT} {apos cpos : Pos} (ho : DE X H0 O0 o to) (ha : DF X H0 O0 e t) (hbase : attributeBase o "join" X.env (eval o X.env) = eval o X.env := by rfl)
  (hfew : ((backTo cpos (starEach [e] X.env)).all (fun x => !x.1) && (backToKw cpos (keywordEach [] X.env)).all (fun x => x.1.isSome) && decide ([e].length + ([] : List Keyword).length + (if ([] : List Keyword).isEmpty then 0 else 1) < 30)) = true := by rfl)
  (hline : (apos.endLine == cpos.line) = true := by rfl) (hst : starEach [e] X.env = (false, eval e X.env) :: starEach [] X.env := by rfl) (hplain : (backTo cpos (starEach [] X.env)).any (·.1) = false := by rfl) :
  DE X H0 O0 (.Call (.Attribute o "join" apos) [e] [] cpos) (dJoinT to t) :=
 (pe_bm PySem.F.plainAttrs_str PySem.F.slot_str_join PySem.F.type_str_join mt_joinT ho (pa_cons ha pa_nil hst) hbase hfew hline hst hplain).imp fun σ H Q ⟨O, δ, Qd, w, q, k⟩ => ⟨O, δ, _, w, q, fun x v H1 ⟨z, e, q1⟩ s1 r1 => by
  subst e
  cases r1
  exact ⟨rfl, O, δ, _, w.mono s1, q1, fun y u H2 ⟨ys, e, hz, q2⟩ s2 r2 => by subst e; exact ⟨O, z, u, ys, rfl, rfl, r2, hz, k _ _ H2 q2 (s1.trans s2) (.str _)⟩⟩⟩
def dRepV (t : DA) (u : DT) : DA := fun δ Q => t δ fun ds => ds.length ≤ 1000 ∧ u δ fun y => ∃ i : Int, y = .int i ∧ 0 ≤ i ∧ i ≤ 1000 ∧ Q (List.replicate i.toNat ds).flatten
theorem fe_repV {e f : Expr} {t : DA} {u : DT} {pos : Pos} (h : FE X H0 O0 e t) (hf : DE X H0 O0 f u) : FE X H0 O0 (.BinOp e .Mult f pos) (dRepV t u) :=
 (pe_op op_rep h hf).imp fun σ H Q ⟨O, δ, Qd, w, q, k⟩ => ⟨O, δ, _, w, q, fun ds vs p H1 q1 s1 hp r1 => ⟨O, δ, _, w.mono (s1.trans (Same.new hp)), q1.2, fun y v H2 ⟨i, e, i0, i1, q2⟩ s2 r2 => by
  subst e
  cases r2
  refine ⟨p, i, vs, rfl, rfl, s2 _ _ upd_same, by omega, by omega, ?_, fun p' hp' => k _ _ p' _ q2 ((s1.trans (Same.new hp)).trans s2) hp' ((r1.rep i.toNat).mono ((Same.new hp).trans s2))⟩
  have h1 := r1.length
  have h2 : (sizeLine : Nat) = 16777216 := by decide
  have h3 := q1.1
  have h4 : vs.length * i.toNat ≤ 1000 * 1000 := Nat.mul_le_mul (by omega) (by omega)
  omega⟩⟩
end
end L2

namespace L2
open PySem PySem.Spec PyProof.Rows PySem.W PySem.Calls
section
variable {prog : Program} {w : World} {A : Around} {E : Value → Shared → Prop} {s : Shared}
theorem tupNext {j t : Addr} {i : Nat} {its : Array Value} {x : Value} {Q : Value → Shared → Prop} (hi : s.heap.IsTupleIter j t i) (ht : s.heap.IsTuple t its) (hx : its[i]? = some x)
  (k : ∀ h2, h2.IsTupleIter j t (i + 1) → Heap.SameBut j s.heap h2 → Q x { s with heap := h2 }) : wpAny (model prog w) A (Builtin.SmallTypes.nextOf (.ref j)) Q E s := by
 obtain ⟨oi, e1, c1, d1⟩ := id hi
 obtain ⟨ot, e2, _, n2, d2⟩ := ht
 unfold Builtin.SmallTypes.nextOf
 refine wpAny_bind (wpAny_callSpecial?_slot (name := Str.ofString "__next__") hi.typeIs F.slot_tuple_iterator_next (wpAny_call_entry F.slot_tuple_iterator_next hi.typeIs F.entry_tuple_iterator_next ?_ (F.args_tuple_iterator_next_1 _)))
 (show wpAny _ _ (field (.ref j) 0 >>= _) _ _ s); refine wpAny_bind (wpAny_field e1 d1 (x := .ref t) rfl ?_)
 (show wpAny _ _ (if (Value.ref t == Value.none) = true then _ else _) _ _ s); rw [if_neg (show ¬ ((Value.ref t == Value.none) = true) from Bool.false_ne_true)]
 (show wpAny _ _ (field (.ref j) 1 >>= _) _ _ s); refine wpAny_bind (wpAny_field e1 d1 (x := .int i 0) rfl ?_)
 (show wpAny _ _ (seqItems? (.ref t) >>= _) _ _ s); refine wpAny_bind (wpAny_seqItems e2 d2 ?_)
 simp only [Int.toNat_natCast, hx]
 refine wpAny_bind (wpAny_setField e1 d1 (by simp) (wpAny_pure ⟨x, rfl, wpAny_pure (k _ ?_ (Heap.SameBut.update ..))⟩))
 exact ⟨_, Heap.get?_update_self _ e1 (Obj.isFreed_of_fields (Obj.data_mapFields d1 _)), (Obj.cls_mapFields ..).trans c1, by rw [Obj.data_mapFields d1]; simp [rawInt]⟩
theorem tupLast {j t : Addr} {i : Nat} {its : Array Value} {Q : Value → Shared → Prop} (hh : A.handled = none) (hi : s.heap.IsTupleIter j t i) (ht : s.heap.IsTuple t its) (hx : its[i]? = none)
  (k : ∀ h2 e, Heap.ExtBut j s.heap h2 → (∃ o, h2.get? e = some o ∧ o.cls = .type "StopIteration") → E (.ref e) { s with heap := h2 }) : wpAny (model prog w) A (Builtin.SmallTypes.nextOf (.ref j)) Q E s := by
 obtain ⟨oi, e1, c1, d1⟩ := id hi
 obtain ⟨ot, e2, _, n2, d2⟩ := ht
 unfold Builtin.SmallTypes.nextOf
 refine wpAny_bind (wpAny_callSpecial?_slot (name := Str.ofString "__next__") hi.typeIs F.slot_tuple_iterator_next (wpAny_call_entry F.slot_tuple_iterator_next hi.typeIs F.entry_tuple_iterator_next ?_ (F.args_tuple_iterator_next_1 _)))
 (show wpAny _ _ (field (.ref j) 0 >>= _) _ _ s); refine wpAny_bind (wpAny_field e1 d1 (x := .ref t) rfl ?_)
 (show wpAny _ _ (if (Value.ref t == Value.none) = true then _ else _) _ _ s); rw [if_neg (show ¬ ((Value.ref t == Value.none) = true) from Bool.false_ne_true)]
 (show wpAny _ _ (field (.ref j) 1 >>= _) _ _ s); refine wpAny_bind (wpAny_field e1 d1 (x := .int i 0) rfl ?_)
 (show wpAny _ _ (seqItems? (.ref t) >>= _) _ _ s); refine wpAny_bind (wpAny_seqItems e2 d2 ?_)
 simp only [Int.toNat_natCast, hx]
 refine wpAny_bind (wpAny_rule (wpAny_bind (wpAny_setField e1 d1 (by simp) ?_)))
 (show wpAny _ _ (newExc (.type "StopIteration") [] >>= _) _ _ _); refine wpAny_bind ?_; simp only [newExc, newTuple]
 refine wpAny_bind (wpAny_newObj_type ?_ (by size_fits)); refine wpAny_bind (m := firstArgMember _ _) (wpAny_of_eq (a := Value.none) (by first | rfl | (simp only [firstArgMember]; rfl)) ?_)
 refine wpAny_newObj_type ?_ (by size_fits); simp only [raiseNew]; refine wpAny_bind (wpAny_handled ?_)
 first | rw [show A.in1.handled = none from hh] | rw [hh]
 refine wpAny_bind (wpAny_pure (wpAny_throw ?_)); exact k _ _ (((Heap.SameBut.update ..).extBut.push _).push _) ⟨_, Heap.get?_push_size _ rfl, rfl⟩
theorem zipT_item {z TI TO i1 i2 l1 l2 : Addr} {k1 k2 : Nat} {xs ys : Array Value} {x y a b : Value} {Q : Value → Shared → Prop} (D : ZipApart z TI TO i1 i2 l1 l2)
  (hz : IsZip s.heap z TI TO .none) (hI : IsPair s.heap TI (.ref i1) (.ref i2)) (hO : IsPair s.heap TO a b) (h1 : s.heap.IsTupleIter i1 l1 k1) (h2 : s.heap.IsTupleIter i2 l2 k2) (t1 : s.heap.IsTuple l1 xs) (t2 : s.heap.IsTuple l2 ys) (hx : xs[k1]? = some x) (hy : ys[k2]? = some y)
  (k : ∀ g, IsZip g z TI TO (rawInt s.heap.objs.size) → IsPair g TO x y → g.IsTupleIter i1 l1 (k1 + 1) → g.IsTupleIter i2 l2 (k2 + 1) → IsPair g s.heap.objs.size x y → g.objs.size = s.heap.objs.size + 1 →
   (∀ c o, c ≠ z → c ≠ TO → c ≠ i1 → c ≠ i2 → s.heap.get? c = some o → g.get? c = some o) → Q (.ref s.heap.objs.size) { s with heap := g }) :
  wpAny (model prog w) A (Builtin.«zip.__next__» ⟨[.ref z], []⟩) (fun fin s' => ∃ v, fin = .done (.ret v) ∧ Q v s') E s := by
 (show wpAny _ _ (field (.ref z) 2 >>= _) _ _ _); refine wpAny_bind (wpAny_field hz rfl (x := .bool false) rfl ?_)
 (show wpAny _ _ (field (.ref z) 3 >>= _) _ _ _); refine wpAny_bind (wpAny_field hz rfl (x := .ref TI) rfl ?_); refine wpAny_bind (wpAny_seqItems hI rfl ?_)
 (show wpAny _ _ (Builtin.SmallTypes.ownedTupleIsFree (.ref z) >>= _) _ _ _); refine wpAny_bind ?_; unfold Builtin.SmallTypes.ownedTupleIsFree
 refine wpAny_bind (wpAny_field hz rfl (x := .none) rfl (wpAny_pure ?_)); simp only [if_true]
 refine wpAny_bind (wpAny_rule ?_); refine wpAny_bind (wpAny_field hz rfl (x := .ref TO) rfl ?_); refine wpAny_bind (wpAny_setField_rec hz (by simp) fun g1 z1 b1 => ?_)
 replace z1 : IsZip g1 z TI TO .ellipsis := z1
 refine wpAny_bind ?_; simp only [List.zipIdx_cons, List.zipIdx_nil, List.forIn_cons, List.forIn_nil]
 refine wpAny_bind (wpAny_bind (wpAny_onRaise ?_)); (show wpAny _ _ (Builtin.SmallTypes.nextOf (.ref i1) >>= _) _ _ _)
 refine wpAny_bind (tupNext (h1.extBut b1.extBut D.i1z) (t1.extBut b1.extBut D.l1z) hx fun g2 j2 b2 => wpAny_pure ?_)
 have o2 : IsPair g2 TO a b := b2.extBut _ _ D.TOi1 (b1.extBut _ _ D.TOz hO)
 refine wpAny_bind (wpAny_seqItems o2 rfl ?_); refine wpAny_bind (wpAny_updateSeq_pair o2 fun g3 o3 b3 => ?_)
 replace o3 : IsPair g3 TO x b := o3
 refine wpAny_bind (wpAny_letGo (wpAny_pure ?_)); refine wpAny_bind (wpAny_bind (wpAny_onRaise ?_)); (show wpAny _ _ (Builtin.SmallTypes.nextOf (.ref i2) >>= _) _ _ _)
 refine wpAny_bind (tupNext (((h2.extBut b1.extBut D.i2z).extBut b2.extBut D.i12.symm).extBut b3.extBut D.TOi2.symm) (((t2.extBut b1.extBut D.l2z).extBut b2.extBut D.l2i1).extBut b3.extBut D.l2TO) hy fun g4 j4 b4 => wpAny_pure ?_)
 have o4 : IsPair g4 TO x b := b4.extBut _ _ D.TOi2 o3
 refine wpAny_bind (wpAny_seqItems o4 rfl ?_); refine wpAny_bind (wpAny_updateSeq_pair o4 fun g5 o5 b5 => ?_)
 replace o5 : IsPair g5 TO x y := o5
 refine wpAny_bind (wpAny_letGo (wpAny_pure (wpAny_pure ?_))); refine wpAny_bind (wpAny_seqItems o5 rfl ?_); refine wpAny_bind (wpAny_newTuple ?_)
 have sz : g5.objs.size = s.heap.objs.size := by rw [b5.1, b4.1, b3.1, b2.1, b1.1]
 have z5 : IsZip g5 z TI TO .ellipsis := b5.extBut _ _ D.TOz.symm (b4.extBut _ _ D.i2z.symm (b3.extBut _ _ D.TOz.symm (b2.extBut _ _ D.i1z.symm z1)))
 have k5 : ∀ c o, c ≠ z → c ≠ TO → c ≠ i1 → c ≠ i2 → s.heap.get? c = some o → g5.get? c = some o := fun c o c1 c2 c3 c4 e => b5.extBut _ _ c2 (b4.extBut _ _ c4 (b3.extBut _ _ c2 (b2.extBut _ _ c3 (b1.extBut _ _ c1 e))))
 have j15 : g5.IsTupleIter i1 l1 (k1 + 1) := ((j2.extBut b3.extBut D.TOi1.symm).extBut b4.extBut D.i12).extBut b5.extBut D.TOi1.symm
 have j25 : g5.IsTupleIter i2 l2 (k2 + 1) := j4.extBut b5.extBut D.TOi2.symm
 have zl : z < g5.objs.size := Heap.lt_size z5
 (show wpAny _ _ (Builtin.SmallTypes.ownedTupleHandOut (.ref z) (.ref g5.objs.size) >>= _) _ _ _); refine wpAny_bind ?_; unfold Builtin.SmallTypes.ownedTupleHandOut
 have z6 : IsZip (g5.push { cls := .type "tuple", data := .seq #[x, y] }) z TI TO .ellipsis := Heap.get?_push_of_some _ z5
 refine wpAny_bind (wpAny_setField_rec z6 (by simp) fun g7 z7 b7 => ?_)
 replace z7 : IsZip g7 z TI TO (rawInt g5.objs.size) := z7
 refine wpAny_setField_rec z7 (by simp) fun g8 z8 b8 => ?_
 replace z8 : IsZip g8 z TI TO (rawInt g5.objs.size) := z8
 have up : ∀ c o, c ≠ z → g5.get? c = some o → g8.get? c = some o := fun c o c1 e => b8.extBut _ _ c1 (b7.extBut _ _ c1 (Heap.get?_push_of_some _ e))
 have p8 : IsPair g8 g5.objs.size x y := b8.extBut _ _ (Nat.ne_of_gt zl) (b7.extBut _ _ (Nat.ne_of_gt zl) (Heap.get?_push_size _ rfl))
 have s8 : g8.objs.size = g5.objs.size + 1 := by rw [b8.1, b7.1, Heap.size_push]
 rw [sz] at z8 p8 s8
 refine wpAny_pure ⟨_, rfl, ?_⟩; (show Q (.ref g5.objs.size) _); rw [sz]
 have at1 : ∀ {j t i}, g5.IsTupleIter j t i → j ≠ z → g8.IsTupleIter j t i := fun h hj => let ⟨o, e, r⟩ := h; ⟨o, up _ o hj e, r⟩
 exact k g8 z8 (up _ _ D.TOz o5) (at1 j15 D.i1z) (at1 j25 D.i2z) p8 s8 fun c o c1 c2 c3 c4 e => up c o c1 (k5 c o c1 c2 c3 c4 e)
theorem zipT_last {z TI TO i1 i2 l1 l2 : Addr} {k1 : Nat} {xs : Array Value} {Q : Fin → Shared → Prop} (hh : A.handled = none) (D : ZipApart z TI TO i1 i2 l1 l2)
  (hz : IsZip s.heap z TI TO .none) (hI : IsPair s.heap TI (.ref i1) (.ref i2)) (h1 : s.heap.IsTupleIter i1 l1 k1) (t1 : s.heap.IsTuple l1 xs) (hx : xs[k1]? = none)
  (k : ∀ g e, (∀ c o, c ≠ z → c ≠ i1 → s.heap.get? c = some o → g.get? c = some o) → (∃ o, g.get? e = some o ∧ o.cls = .type "StopIteration") → E (.ref e) { s with heap := g }) :
  wpAny (model prog w) A (Builtin.«zip.__next__» ⟨[.ref z], []⟩) Q E s := by
 (show wpAny _ _ (field (.ref z) 2 >>= _) _ _ _); refine wpAny_bind (wpAny_field hz rfl (x := .bool false) rfl ?_)
 (show wpAny _ _ (field (.ref z) 3 >>= _) _ _ _); refine wpAny_bind (wpAny_field hz rfl (x := .ref TI) rfl ?_); refine wpAny_bind (wpAny_seqItems hI rfl ?_)
 (show wpAny _ _ (Builtin.SmallTypes.ownedTupleIsFree (.ref z) >>= _) _ _ _); refine wpAny_bind ?_; unfold Builtin.SmallTypes.ownedTupleIsFree
 refine wpAny_bind (wpAny_field hz rfl (x := .none) rfl (wpAny_pure ?_)); simp only [if_true]
 refine wpAny_bind (wpAny_rule ?_); refine wpAny_bind (wpAny_field hz rfl (x := .ref TO) rfl ?_); refine wpAny_bind (wpAny_setField_rec hz (by simp) fun g1 z1 b1 => ?_)
 replace z1 : IsZip g1 z TI TO .ellipsis := z1
 refine wpAny_bind ?_; simp only [List.zipIdx_cons, List.zipIdx_nil, List.forIn_cons, List.forIn_nil]
 refine wpAny_bind (wpAny_bind (wpAny_onRaise ?_)); (show wpAny _ _ (Builtin.SmallTypes.nextOf (.ref i1) >>= _) _ _ _)
 refine wpAny_bind (tupLast hh (h1.extBut b1.extBut D.i1z) (t1.extBut b1.extBut D.l1z) hx fun g2 e b2 he => ?_)
 obtain ⟨oe, hoe, hce⟩ := he
 have z2 : IsZip g2 z TI TO .ellipsis := b2 _ _ D.i1z.symm z1
 have ez : e ≠ z := fun q => by subst q; rw [z2] at hoe; cases hoe; simp at hce
 exact wpAny_setField_rec z2 (by simp) fun g3 _ b3 => k g3 e (fun c o c1 c3 q => b3.extBut _ _ c1 (b2 _ _ c3 (b1.extBut _ _ c1 q))) ⟨oe, b3.extBut _ _ ez hoe, hce⟩
theorem zipT_next {z TI TO i1 i2 l1 l2 : Addr} {k1 k2 : Nat} {xs ys : Array Value} {x y a b : Value} {Q : Option Value → Shared → Prop} (D : ZipApart z TI TO i1 i2 l1 l2)
  (hz : IsZip s.heap z TI TO .none) (hI : IsPair s.heap TI (.ref i1) (.ref i2)) (hO : IsPair s.heap TO a b) (h1 : s.heap.IsTupleIter i1 l1 k1) (h2 : s.heap.IsTupleIter i2 l2 k2) (t1 : s.heap.IsTuple l1 xs) (t2 : s.heap.IsTuple l2 ys) (hx : xs[k1]? = some x) (hy : ys[k2]? = some y)
  (k : ∀ g, IsZip g z TI TO (rawInt s.heap.objs.size) → IsPair g TO x y → g.IsTupleIter i1 l1 (k1 + 1) → g.IsTupleIter i2 l2 (k2 + 1) → IsPair g s.heap.objs.size x y → g.objs.size = s.heap.objs.size + 1 →
   (∀ c o, c ≠ z → c ≠ TO → c ≠ i1 → c ≠ i2 → s.heap.get? c = some o → g.get? c = some o) → Q (some (.ref s.heap.objs.size)) { s with heap := g }) : wpAny (model prog w) A (pyNext (.ref z)) Q E s := by
 have ty : s.TypeIs (.ref z) "zip" := ⟨_, hz, rfl⟩
 unfold pyNext
 exact wpAny_bind (wpAny_attempt (wpAny_callSpecial?_slot (name := Str.ofString "__next__") ty F.slot_zip_next (wpAny_call_entry F.slot_zip_next ty F.entry_zip_next (zipT_item D hz hI hO h1 h2 t1 t2 hx hy fun g a1 a2 a3 a4 a5 a6 a7 => wpAny_pure (k g a1 a2 a3 a4 a5 a6 a7)) (F.args_zip_next_1 _))))
theorem zipT_end {z TI TO i1 i2 l1 l2 : Addr} {k1 : Nat} {xs : Array Value} {Q : Option Value → Shared → Prop} (hh : A.handled = none) (D : ZipApart z TI TO i1 i2 l1 l2)
  (hz : IsZip s.heap z TI TO .none) (hI : IsPair s.heap TI (.ref i1) (.ref i2)) (h1 : s.heap.IsTupleIter i1 l1 k1) (t1 : s.heap.IsTuple l1 xs) (hx : xs[k1]? = none)
  (k : ∀ g, (∀ c o, c ≠ z → c ≠ i1 → s.heap.get? c = some o → g.get? c = some o) → Q none { s with heap := g }) : wpAny (model prog w) A (pyNext (.ref z)) Q E s := by
 have ty : s.TypeIs (.ref z) "zip" := ⟨_, hz, rfl⟩
 unfold pyNext
 refine wpAny_bind (wpAny_attempt (wpAny_callSpecial?_slot (name := Str.ofString "__next__") ty F.slot_zip_next (wpAny_call_entry F.slot_zip_next ty F.entry_zip_next (zipT_last hh D hz hI h1 t1 hx fun g e kk he => ?_) (F.args_zip_next_1 _))))
 obtain ⟨oe, eo, ce⟩ := he
 refine wpAny_bind (wpAny_isInstance (T := "StopIteration") (b := true) ⟨oe, eo, ce⟩ isSubtype_stop ?_); exact wpAny_pure (k _ kk)
abbrev zH1 (h : Heap) (a : Addr) : Heap := h.push { cls := .type "tuple_iterator", data := .fields #[.ref a, .int 0 0] }
abbrev zH2 (h : Heap) (a b : Addr) : Heap := (zH1 h a).push { cls := .type "tuple_iterator", data := .fields #[.ref b, .int 0 0] }
abbrev zH3 (h : Heap) (a b : Addr) : Heap := (zH2 h a b).push { cls := .type "tuple", data := .seq #[.ref h.objs.size, .ref (zH1 h a).objs.size] }
abbrev zH4 (h : Heap) (a b : Addr) : Heap := (zH3 h a b).push { cls := .type "tuple", data := .seq #[.none, .none] }
abbrev zH5 (h : Heap) (a b : Addr) : Heap := (zH4 h a b).push { cls := .type "zip", data := .fields #[.none, .bool false, .bool false, .ref (zH2 h a b).objs.size, .ref (zH3 h a b).objs.size] }
theorem meets_zipT (a b : Addr) (xs ys : Array Value) : Meets (Builtin.«zip.__new__» ⟨[.type "zip", .ref a, .ref b], []⟩) (fun _ R s => s.heap.IsTuple a xs ∧ s.heap.IsTuple b ys ∧ R (.ok (.ret (.ref (zH4 s.heap a b).objs.size))) { s with heap := zH5 s.heap a b }) :=
 .of_wp fun prog w A R s h => by
  obtain ⟨hp, g, d, tk, os⟩ := s; obtain ⟨u1, u2, h⟩ := h
  have hsub := sub_zip
  have v1 : Heap.IsTuple (Shared.heap ⟨hp, g, d, tk, os⟩) a xs := u1
  have v2 : Heap.IsTuple (Shared.heap ⟨hp.push { cls := .type "tuple_iterator", data := .fields #[.ref a, .int 0 0] }, g, d, tk, os⟩) b ys := Heap.IsTuple.push u2 _
  wp_walk using wpAny_pyIter_tuple v1, wpAny_pyIter_tuple v2
  exact ⟨_, rfl, h⟩
theorem call_zipT {a b : Addr} {xs ys : Array Value} {Q : Value → Shared → Prop} (ha : s.heap.IsTuple a xs) (hb : s.heap.IsTuple b ys)
  (k : ∀ g, IsZip g (s.heap.objs.size + 4) (s.heap.objs.size + 2) (s.heap.objs.size + 3) .none → IsPair g (s.heap.objs.size + 2) (.ref s.heap.objs.size) (.ref (s.heap.objs.size + 1)) → IsPair g (s.heap.objs.size + 3) .none .none →
   g.IsTupleIter s.heap.objs.size a 0 → g.IsTupleIter (s.heap.objs.size + 1) b 0 → (∀ c o, s.heap.get? c = some o → g.get? c = some o) → Q (.ref (s.heap.objs.size + 4)) { s with heap := g }) : wpAny (model prog w) A (call (.type "zip") [.ref a, .ref b]) Q E s := by
 refine callType_new F.called_zip (by decide) (F.typeCall_zip_2 _ _) (F.newCall_zip_2 _ _) (fun obj => F.args_object_init_3 obj _ _) F.entry_zip_new (meets_zipT a b xs ys) ⟨ha, hb, ?_⟩
 have n1 : (zH1 s.heap a).objs.size = s.heap.objs.size + 1 := Heap.size_push ..
 have n2 : (zH2 s.heap a b).objs.size = s.heap.objs.size + 2 := by rw [Heap.size_push, n1]
 have n3 : (zH3 s.heap a b).objs.size = s.heap.objs.size + 3 := by rw [Heap.size_push, n2]
 have n4 : (zH4 s.heap a b).objs.size = s.heap.objs.size + 4 := by rw [Heap.size_push, n3]
 have ps : ∀ {h : Heap} {x : Obj} {c : Addr} {o : Obj}, h.get? c = some o → (h.push x).get? c = some o := fun e => Heap.get?_push_of_some _ e
 have g5 : (zH5 s.heap a b).get? (zH4 s.heap a b).objs.size = some _ := Heap.get?_push_size _ rfl
 have g4 : (zH5 s.heap a b).get? (zH3 s.heap a b).objs.size = some _ := ps (Heap.get?_push_size _ rfl)
 have g3 : (zH5 s.heap a b).get? (zH2 s.heap a b).objs.size = some _ := ps (ps (Heap.get?_push_size _ rfl))
 have g2 : (zH5 s.heap a b).get? (zH1 s.heap a).objs.size = some _ := ps (ps (ps (Heap.get?_push_size _ rfl)))
 have g1 : (zH5 s.heap a b).get? s.heap.objs.size = some _ := ps (ps (ps (ps (Heap.get?_push_size _ rfl))))
 show _ ∧ _
 rw [n2, n3, n4] at g5
 rw [n1, n2] at g3
 rw [n3] at g4
 rw [n1] at g2
 rw [n4]
 exact ⟨⟨_, g5, rfl⟩, k _ g5 g3 g4 ⟨_, g1, rfl, rfl⟩ ⟨_, g2, rfl, rfl⟩ fun c o e => ps (ps (ps (ps (ps e))))⟩
end
section
variable {X : Cx} {pins : List (Addr × Obj)} {σ : St} {H : Hp} {s : Shared}
theorem Inv.still {ch : List Addr} {t' : Nat} {h' : Heap} (I : Inv X pins σ H s) (f : ∀ b ∈ ch, FpOk X pins H b) (k : ∀ b u, b ∉ ch → s.heap.get? b = some u → h'.get? b = some u) : Inv X pins σ H { s with heap := h', toks := t' } := by
 have nC : ∀ b u, H b = some u → b ∉ ch := fun b u e z => by rw [(f b z).1] at e; cases e
 refine I.step (g' := s.gens) (d' := s.drawn) (ch := ch) (fun b hb => ?_) (fun b o _ _ hc e _ => k b o hc e) (fun b o _ _ hc e _ => ⟨o.slots, k b o hc e⟩) (fun b o hc _ n => n) (fun b o hc e => ⟨o, k b o hc e⟩) (fun b xs e => e) (fun b u xs e => e) (fun b ps e => ⟨#[], by rw [e]; simp⟩) (fun m hm => hm.at' fun o e => k _ o (fun z => (f _ z).2.1 rfl) e) (fun b u e => ?_) I.bare
 ·obtain ⟨f0, f1, f2, f3, f4, f5⟩ := f b hb; exact ⟨f3, f1, f4, f5⟩
 ·refine (I.hok b u e).stay (fun c v hc q => k c v (fun z => ?_) q) (fun c q => q) (fun c xs q => q)
  rcases hc with r | r
  ·rw [r] at z; exact nC _ _ e z
  ·exact nC _ _ r z
end
def Itz (K : PySem.W.Frag) (a b : Addr) : It :=
 ⟨fun i H => ∃ xs ys x y, SqT K H a xs ∧ SqT K H b ys ∧ xs[i]? = some x ∧ ys[i]? = some y, fun i H x H' => ∃ p v u, H p = none ∧ x = .ref p ∧ H' = upd H p (.tup [v, u]) ∧ (∀ xs, SqT K H a xs → xs[i]? = some v) ∧ ∀ ys, SqT K H b ys → ys[i]? = some u, fun i H => ∃ xs, SqT K H a xs ∧ xs.length ≤ i⟩
theorem turn_zipT {P : Program} {w : World} {K : PySem.W.Frag} {elts : List Expr} {k0} {pos : Pos} (a b z TI TO i1 i2 : Addr) (D : ZipApart z TI TO i1 i2 a b) : Turn P w K (.Tuple elts k0 pos) (Itz K a b) [z, TI, TO, i1, i2] z
  (fun i h => IsZip h z TI TO .none ∧ IsPair h TI (.ref i1) (.ref i2) ∧ (∃ u v, IsPair h TO u v) ∧ h.IsTupleIter i1 a i ∧ h.IsTupleIter i2 b i) where
 mem := by simp
 obj := fun i h st c hc => by
  simp only [List.mem_cons, List.not_mem_nil, or_false] at hc
  obtain ⟨a1, a2, ⟨u, v, a3⟩, ⟨o4, e4, c4, d4⟩, o5, e5, c5, d5⟩ := st
  rcases hc with rfl | rfl | rfl | rfl | rfl
  ·exact ⟨_, a1, fun v z => by cases z⟩
  ·exact ⟨_, a2, fun v z => by cases z⟩
  ·exact ⟨_, a3, fun v z => by cases z⟩
  ·exact ⟨o4, e4, fun v z => by rw [d4] at z; cases z⟩
  ·exact ⟨o5, e5, fun v z => by rw [d5] at z; cases z⟩
 keep := fun i h h' st k => by
  obtain ⟨a1, a2, ⟨u, v, a3⟩, ⟨o4, e4, r4⟩, o5, e5, r5⟩ := st
  exact ⟨k _ (by simp) _ a1, k _ (by simp) _ a2, ⟨u, v, k _ (by simp) _ a3⟩, ⟨o4, k _ (by simp) _ e4, r4⟩, o5, k _ (by simp) _ e5, r5⟩
 item := by
  intro X hP hw hK hc i pins s σ H E I hf st hg
  subst hP hw hK
  obtain ⟨xs, ys, x, y, qa, qb, hx, hy⟩ := hg
  obtain ⟨ia, ra, pa, _⟩ := I.tuple qa
  obtain ⟨ib, rb, pb, _⟩ := I.tuple qb
  obtain ⟨u, hu, ru⟩ := ra.get hx
  obtain ⟨v, hv, rv⟩ := rb.get hy
  obtain ⟨a1, a2, ⟨_, _, a3⟩, a4, a5⟩ := st
  refine zipT_next D a1 a2 a3 a4 a5 (show s.heap.IsTuple a ia.toArray from pa) (show s.heap.IsTuple b ib.toArray from pb) (x := u) (y := v) (by simpa using hu) (by simpa using hv) fun g b1 b2 b3 b4 b5 b6 hk => ?_
  have T0 : H s.heap.objs.size = none := I.hok.fresh (Nat.le_refl _)
  have lts : ∀ c ∈ [z, TI, TO, i1, i2], c < s.heap.objs.size := fun c hc => by
   simp only [List.mem_cons, List.not_mem_nil, or_false] at hc
   rcases hc with rfl | rfl | rfl | rfl | rfl
   ·exact Heap.lt_size a1
   ·exact Heap.lt_size a2
   ·exact Heap.lt_size a3
   ·obtain ⟨_, e, _⟩ := a4; exact Heap.lt_size e
   ·obtain ⟨_, e, _⟩ := a5; exact Heap.lt_size e
  have I1 : Inv X pins σ (upd H s.heap.objs.size (.tup [x, y])) { s with heap := g } := by
   refine I.track (t' := s.toks) (ch := [s.heap.objs.size, z, TO, i1, i2]) (by simp) (fun c hc => ?_) (fun c o hc e => hk c o (fun q => hc (by simp [q])) (fun q => hc (by simp [q])) (fun q => hc (by simp [q])) (fun q => hc (by simp [q])) e) ?_
   ·rcases List.mem_cons.mp hc with q | q
    ·rw [q]; exact I.fpOk (Nat.le_refl _) T0
    ·refine hf c ?_
     simp only [List.mem_cons, List.not_mem_nil, or_false] at q ⊢
     rcases q with q | q | q | q <;> simp [q]
   ·exact ⟨by rw [sizeLine_eq, List.length_cons, List.length_cons, List.length_nil]; decide, [u, v], .cons ru (.cons rv .nil), _, b5, rfl, 0, rfl⟩
  refine ⟨_, rfl, wpAny_letOwnedTupleGo_zip b1 fun g2 z2 sb => ?_⟩
  obtain ⟨f0, f1, f2, f3, f4, f5⟩ := hf z (by simp)
  have nz : s.heap.objs.size ≠ z := Nat.ne_of_gt (lts z (by simp))
  have I2 : Inv X pins σ (upd H s.heap.objs.size (.tup [x, y])) { s with heap := g2 } := I1.turned (t' := s.toks) (fun c o hc q => (sb.2 c hc).trans q) (by rw [upd_ne (Ne.symm nz)]; exact f0) f1 f3 f4 f5
  have at2 : ∀ {j t i}, g.IsTupleIter j t i → j ≠ z → g2.IsTupleIter j t i := fun h hj => let ⟨o, e, r⟩ := h; ⟨o, (sb.2 _ hj).trans e, r⟩
  refine ⟨.ref s.heap.objs.size, _, I2, rfl, ⟨_, x, y, T0, rfl, rfl, fun us hus => by rw [I.tuple_inj hus qa]; exact hx, fun us hus => by rw [I.tuple_inj hus qb]; exact hy⟩, ⟨z2, (sb.2 _ D.TIz).trans (hk _ _ D.TIz D.TITO D.TIi1 D.TIi2 a2), ⟨_, _, (sb.2 _ D.TOz).trans b2⟩, at2 b3 D.i1z, at2 b4 D.i2z⟩, fun c hc => ?_⟩
  rw [upd_ne fun q => ?_]
  ·exact (hf c hc).1
  ·have := lts c hc; rw [q] at this; exact Nat.lt_irrefl _ this
 done := by
  intro X hP hw hK hc i pins s σ H E I hf st hg
  subst hP hw hK
  obtain ⟨xs, qa, hx⟩ := hg
  obtain ⟨ia, ra, pa, _⟩ := I.tuple qa
  obtain ⟨a1, a2, _, a4, _⟩ := st
  have hl := ra.length
  obtain ⟨f0, f1, f2, f3, f4, f5⟩ := hf z (by simp)
  obtain ⟨e0, e1, e2, e3, e4, e5⟩ := hf i1 (by simp)
  refine zipT_end (I.ok.hd hc) D a1 a2 a4 (show s.heap.IsTuple a ia.toArray from pa) (by simp; omega) fun g hk => ⟨rfl, ?_⟩
  exact I.still (ch := [z, i1]) (t' := s.toks) (fun c hc => by
   simp only [List.mem_cons, List.not_mem_nil, or_false] at hc
   rcases hc with rfl | rfl
   ·exact hf _ (by simp)
   ·exact hf _ (by simp)) fun c o hc e => hk c o (fun q => hc (by simp [q])) (fun q => hc (by simp [q])) e
 self := fun A i s Q E st h => wpAny_pyIter_zip st.1 h
theorem zip_apart {n u v : Nat} (hu : u < n) (hv : v < n) : ZipApart (n + 4) (n + 2) (n + 3) n (n + 1) u v := by constructor <;> (intro q; have q : (_ : Nat) = _ := q; omega)
def iZipT (K : PySem.W.Frag) (ta : TA) : TI := fun σ H R => ta σ H fun vs H1 => ∃ a b xs ys, vs = [.ref a, .ref b] ∧ SqT K H1 a xs ∧ SqT K H1 b ys ∧ R (Itz K a b) H1
theorem pi_zipT {X : Cx} {elts : List Expr} {k0} {tp : Pos} {a b : Expr} {ta : TA} {p pos : Pos} (hg : Gl X "zip") (hm : X.mg "zip" = none) (ha : PA X [a, b] ta) (hs : starEach [a, b] X.env = (false, eval a X.env) :: starEach [b] X.env := by rfl) (hpl : (backTo pos (starEach [b] X.env)).any (·.1) = false := by rfl) : PI X (.Tuple elts k0 tp) (.Call (.Name "zip" p) [a, b] [] pos) (iZipT X.K ta) := by
 intro pins s σ H R I h
 refine Call_ (ld_blt I hg hm boot_zip (PyProof.Rows.callWith_type1 (thn (ha pos pins s σ H _ I h) fun us s1 ⟨vs, H1, I1, r1, q1⟩ => ?_) hs hpl))
 obtain ⟨u, v, xs, ys, e, qa, qb, q⟩ := q1
 subst e
 cases r1 with
 | cons r rr =>
  cases rr with
  | cons r2 rr =>
   cases rr
   cases r
   cases r2
   obtain ⟨ia, ra, pa, _⟩ := I1.tuple qa
   obtain ⟨ib, rb, pb, _⟩ := I1.tuple qb
   have la : u < s1.heap.objs.size := by obtain ⟨o, e, _⟩ := (show s1.heap.IsTuple u ia.toArray from pa); exact Heap.lt_size e
   have lb : v < s1.heap.objs.size := by obtain ⟨o, e, _⟩ := (show s1.heap.IsTuple v ib.toArray from pb); exact Heap.lt_size e
   refine call_zipT (show s1.heap.IsTuple u ia.toArray from pa) (show s1.heap.IsTuple v ib.toArray from pb) fun g z1 z2 z3 z4 z5 hk => wpAny_pyIter_zip z1 ?_
   have I2 : Inv X pins σ H1 { s1 with heap := g } := I1.kept (t' := s1.toks) hk
   have D : ZipApart (s1.heap.objs.size + 4) (s1.heap.objs.size + 2) (s1.heap.objs.size + 3) s1.heap.objs.size (s1.heap.objs.size + 1) u v := zip_apart la lb
   refine ⟨_, _, _, _, H1, rfl, I2, turn_zipT u v _ _ _ _ _ D, ⟨z1, z2, ⟨_, _, z3⟩, z4, z5⟩, fun c hc => ?_, q⟩
   have le : s1.heap.objs.size ≤ c := by
    simp only [List.mem_cons, List.not_mem_nil, or_false] at hc
    rcases hc with rfl | rfl | rfl | rfl | rfl <;> omega
   exact I1.fpOk le (I1.hok.fresh le)
def zipD (xs ys : List PyData) : List PyData := List.zipWith (fun x y => .tuple [x, y]) xs ys
theorem sqT_same {K : PySem.W.Frag} {H H' : Hp} {a : Addr} {xs : List V} (s : ∀ o, H a = some o → H' a = some o) (h : SqT K H a xs) : SqT K H' a xs := by
 rcases h with h | h
 ·exact .inl (h.same s)
 ·exact .inr h
theorem comp_stepZ {K : PySem.W.Frag} {H0 : Hp} {O0 : Ex} {a b : Addr} {vs us : List V} {xs ys : List PyData} {g : TG} {dg : DG} {tc : TT} {dc : DB} {te : TE} {de : DT} {k : Nat} {fr : List Nat} {σ : St} {H : Hp} {O : Ex} {δ : Dl} {Qd : List PyData → Prop} {Q : VK} (qa : SqT K H a vs) (qb : SqT K H b us) (gd : GD K g dg) (hf : fr.Nodup)
  (hk : ∀ v : V, ∀ σ' : St, ∀ H' : Hp, ∀ R : St → Hp → Prop, g v (st0 k fr σ) H' R → g v (st0 k fr σ) H' fun σ2 H2 => Keep (st0 k fr σ) σ2 ∧ R σ2 H2)
  (hc : ∀ σ H Q, upT K H0 O0 dc σ H Q → tc σ H Q) (he : ∀ σ H Q, up K H0 O0 de σ H Q → te σ H Q)
  (r1 : Dts K H O vs xs) (r2 : Dts K H O us ys) (hl : vs.length = us.length) (w : Wd K H0 O0 H O σ δ) (hz : vs.length ≤ sizeLine) (q : compI dg dc de (dst0 k fr δ) (zipD xs ys) Qd)
  (k1 : ∀ ds us p H', Qd ds → Same H H' → H' p = none → Dts K H' O us ds → Q (.ref p) (upd H' p (.lst us))) : CmR (Itz K a b) g tc te k fr σ H Q := by
 obtain ⟨Iv, q0, qs, qe⟩ := q
 intro D hD
 have w0 : Wd K H0 O0 H O (st0 k fr σ) (dst0 k fr δ) := w.comp hf
 have nD : ¬ O D := fun z => w.trk D z hD
 have D0 : H0 D = none := by
  cases e : H0 D with
  | none => rfl
  | some o => rw [w.same _ _ e] at hD; cases hD
 have ex : ∀ H', SameE D H H' → H' D ≠ none → Wd K H0 O0 H' (fun a => O a ∨ a = D) (st0 k fr σ) (dst0 k fr δ) := fun H' s' hd => by
  have S' : Step H H' O (fun a => O a ∨ a = D) := ⟨fun b o e _ => s' b o e (ne_of_none e hD), fun b hb hn z => z.elim hn fun q => hb (by rw [q]; exact hD)⟩
  refine ⟨fun b o e => s' b o (w.same b o e) (fun z => by rw [z, D0] at e; cases e), fun l z => .inl (w.sub l z), fun l z => z.elim (w.new l) fun q => .inr (by rw [q]; exact D0), fun l z => ?_, w0.len, fun j y e => ?_, w0.dis⟩
  ·by_cases ql : l = D
   ·rw [ql]; exact hd
   ·have hl := w.trk l (z.resolve_right ql)
    cases e : H l with
    | none => exact absurd e hl
    | some o => rw [s' l o e ql]; exact fun z => nomatch z
  ·exact (w0.sl j y e).go S' fun l o _ _ a1 _ a3 => ⟨.inl a1, s' _ _ a3 (fun z => nD (by rw [← z]; exact a1))⟩
 have zl : (zipD xs ys).length = vs.length := by unfold zipD; rw [List.length_zipWith, ← r1.length, ← r2.length, ← hl]; exact Nat.min_self _
 have sq : ∀ H', SameE D H H' → SqT K H' a vs ∧ SqT K H' b us := fun H' s' => ⟨sqT_same (fun o e => s' _ _ e (ne_of_none e hD)) qa, sqT_same (fun o e => s' _ _ e (ne_of_none e hD)) qb⟩
 refine ⟨fun i m H' => ∃ acc ws, m = vs.length - i ∧ i ≤ vs.length ∧ SameE D H H' ∧ H' D = some (.lst ws) ∧ ws.length ≤ i ∧ Dts K H' (fun a => O a ∨ a = D) ws acc ∧ Iv i acc, ⟨vs.length, [], [], by simp, Nat.zero_le _, fun b o e n => by rw [upd_ne n]; exact e, upd_same, Nat.zero_le _, .nil, q0⟩, ?_⟩
 rintro i m H1 ⟨acc, ws, rfl, hi, s1, e1, hy, ra, q1⟩
 obtain ⟨sa, sb⟩ := sq H1 s1
 by_cases hlt : i < vs.length
 ·refine .inr ⟨⟨vs, us, vs[i], us[i]'(by omega), sa, sb, by simp [hlt], by simp [show i < us.length by omega]⟩, fun x H' y => ?_⟩
  obtain ⟨p, v, u, hp, rfl, rfl, hv, hu⟩ := y
  obtain ⟨d, ed, rd⟩ := r1.get (hv vs sa)
  obtain ⟨e, ee, re⟩ := r2.get (hu us sb)
  have pD : p ≠ D := fun z => by rw [z, e1] at hp; cases hp
  have s2 : SameE D H (upd H1 p (.tup [v, u])) := fun b o e n => by
   have e' := s1 b o e n
   rw [upd_ne (fun z => by rw [z, hp] at e'; cases e')]; exact e'
  have e2 : (upd H1 p (.tup [v, u])) D = some (.lst ws) := by rw [upd_ne (Ne.symm pD)]; exact e1
  have w1 := ex _ s2 (by rw [e2]; exact fun z => nomatch z)
  have sm : Same H1 (upd H1 p (.tup [v, u])) := Same.new hp
  have S' : Step H (upd H1 p (.tup [v, u])) O (fun a => O a ∨ a = D) := ⟨fun b o e _ => s2 b o e (ne_of_none e hD), fun b hb hn z => z.elim hn fun q => hb (by rw [q]; exact hD)⟩
  have np : ¬ (O p ∨ p = D) := fun z => z.elim (fun z => by
   have := w.trk p z
   cases eh : H p with
   | none => exact this eh
   | some o => rw [s1 p o eh pD] at hp; cases hp) pD
  have dt : Dt K (upd H1 p (.tup [v, u])) (fun a => O a ∨ a = D) (.ref p) (.tuple [d, e]) := .tup (.inl upd_same) np (.cons (rd.step S') (.cons (re.step S') .nil))
  have ez : (zipD xs ys)[i]? = some (.tuple [d, e]) := by unfold zipD; rw [List.getElem?_zipWith, ed, ee]
  refine hk (.ref p) σ _ _ (gd H0 O0 _ _ _ _ (.ref p) _ _ _ w1 dt (qs i _ acc ez q1) fun δ2 σ2 q2 w2 => ?_)
  refine hc σ2 _ _ ⟨_, δ2, _, w2, q2, fun ok H3 q3 s3 => ?_⟩
  cases ok with
  | true =>
   rw [if_pos rfl]
   refine he σ2 H3 _ ⟨_, δ2, _, w2.mono s3, q3, fun d' v' H4 q4 s4 r4 => ?_⟩
   have e4 := s4 _ _ (s3 _ _ e2)
   have sD : Step H4 (upd H4 D (.lst (ws ++ [v']))) (fun a => O a ∨ a = D) (fun a => O a ∨ a = D) := ⟨fun b o e n => by rw [upd_ne (fun z => n (.inr z))]; exact e, fun _ _ n => n⟩
   refine ⟨ws, e4, by omega, vs.length - (i + 1), by omega, acc ++ [d'], ws ++ [v'], rfl, hlt, fun b o e n => by rw [upd_ne n]; exact s4 _ _ (s3 _ _ (s2 b o e n)), upd_same, by simpa using hy, ?_, q4⟩
   exact ((ra.mono ((sm.trans s3).trans s4)).append (.cons r4 .nil)).step sD
  | false =>
   rw [if_neg (by decide)]
   exact ⟨vs.length - (i + 1), by omega, acc, ws, rfl, hlt, fun b o e n => s3 _ _ (s2 b o e n), s3 _ _ e2, by omega, ra.mono (sm.trans s3), q3⟩
 ·have e : i = vs.length := by omega
  subst e
  refine .inl ⟨⟨vs, sa, Nat.le_refl _⟩, ?_⟩
  rw [← zl] at q1
  have hrest : ∃ H2 : Hp, H2 D = none ∧ Same H H2 ∧ H1 = upd H2 D (.lst ws) := by
   refine ⟨fun b => if b = D then none else H1 b, by simp, fun b o e => ?_, ?_⟩
   ·have n := ne_of_none e hD
    show (if b = D then none else H1 b) = some o
    rw [if_neg n]; exact s1 b o e n
   ·funext b
    by_cases z : b = D
    ·rw [z, upd_same]; exact e1
    ·rw [upd_ne z]; show H1 b = if b = D then none else H1 b; rw [if_neg z]
  obtain ⟨H2, h2, s2, rfl⟩ := hrest
  refine k1 acc ws D H2 (qe acc q1) s2 h2 (ra.step ⟨fun b o e n => ?_, fun b _ n z => n (.inl z)⟩)
  rw [upd_ne (fun z => n (.inr z))] at e; exact e
def dCompZ (ta : DA) (g : DG) (tc : DB) (te : DT) (k : Nat) (fr : List Nat) : DA := fun δ Q => ta δ fun ds => ∃ xs ys, ds = [.tuple xs, .tuple ys] ∧ xs.length = ys.length ∧ xs.length ≤ sizeLine ∧ compI g tc te (dst0 k fr δ) (zipD xs ys) Q
section
variable {X : Cx} {H0 : Hp} {O0 : Ex} {elts : List Expr} {k0 : Nat} {tp : Pos} {elt : Expr} {ifs : List Expr} {scope : Scope} {N' : List Str} {k : Nat} {fr : List Nat} {g : TG} {dg : DG} {ta : DA} {tc : DB} {te : DT} {pos p ps : Pos} {a b : Expr}
theorem fe_compZ (hc : X.calm = true) (S : CompScope X.env.scope X.N N' k fr scope) (hgl : Gl X "zip") (hm : X.mg "zip" = none) (ha : PA X [a, b] (upB X.K H0 O0 ta)) (gd : GD X.K g dg) (hk : KeepG g k) (hfr : fr.Nodup)
  (hg : ∀ fp C s H, PG (compCx X scope N' fp C s H) (.Tuple elts k0 tp) g) (hf : ∀ fp C s H, PIfs (compCx X scope N' fp C s H) ifs (upT X.K H0 O0 tc)) (he : ∀ fp C s H, PE (compCx X scope N' fp C s H) elt (up X.K H0 O0 te))
  (hst : starEach [a, b] X.env = (false, eval a X.env) :: starEach [b] X.env := by rfl) (hpl : (backTo ps (starEach [b] X.env)).any (·.1) = false := by rfl) (hs : ∀ x, foldedSetIterable (.Call (.Name "zip" p) [a, b] [] ps) X.env x = pure x := by intro _; rfl) :
  FE X H0 O0 (.ListComp elt [⟨.Tuple elts k0 tp, (.Call (.Name "zip" p) [a, b] [] ps), ifs, 0⟩] scope pos) (dCompZ ta dg tc te k fr) :=
 (pe_comp hc S (pi_zipT hgl hm ha hst hpl) hg hf he hs).imp fun σ H Q ⟨O, δ, Qd, w, q, kk⟩ => ⟨O, δ, _, w, q, fun ds vs H1 ⟨xs, ys, e, hl, hz, q1⟩ s1 r1 => by
  subst e
  cases r1 with
  | cons r1 r2 =>
   cases r2 with
   | cons r2 r3 =>
    cases r3
    obtain ⟨u, us, rfl, qa, ra⟩ := r1.tup
    obtain ⟨v, vs, rfl, qb, rb⟩ := r2.tup
    exact ⟨u, v, us, vs, rfl, qa, qb, fun D hD => comp_stepZ qa qb gd hfr (fun v _ H' R h => hk fr σ v H' R h) (fun _ _ _ z => z) (fun _ _ _ z => z) ra rb (by rw [ra.length, rb.length]; exact hl) (w.mono s1) (by rw [ra.length]; exact hz) q1 (fun ds us p H' z s' hp r' => kk ds us p H' z (s1.trans s') hp r') D hD⟩⟩
end
end L2

namespace K58
open PySem L2
def top (i : Nat) : Stmt := PySem.Challenge.pw_goneday_k58_deeds_as_texts.main.body.getD i (.Pass ⟨0, 0, 0, 0⟩)
abbrev s_x0 : Stmt := top 11
abbrev s_x1 : Stmt := top 12
abbrev s_x2 : Stmt := top 13
abbrev s_x3 : Stmt := top 14
abbrev s_x4 : Stmt := top 15
abbrev s_x5 : Stmt := top 16
abbrev s_x6 : Stmt := top 17
abbrev s_x7 : Stmt := top 18
abbrev s_x8 : Stmt := top 19
abbrev s_x9 : Stmt := top 20
abbrev s_x10 : Stmt := top 21
abbrev s_x11 : Stmt := top 22
abbrev s_x12 : Stmt := top 23
abbrev s_x13 : Stmt := top 30
abbrev s_x14 : Stmt := top 31
abbrev s_x15 : Stmt := top 32
abbrev s_x16 : Stmt := top 33
abbrev s_x17 : Stmt := top 34
abbrev s_x18 : Stmt := top 35
abbrev s_x19 : Stmt := top 36
abbrev s_x20 : Stmt := top 37
abbrev s_x21 : Stmt := top 38
abbrev s_x22 : Stmt := top 41
abbrev s_x23 : Stmt := top 42
abbrev s_x24 : Stmt := top 43
abbrev s_x25 : Stmt := top 44
abbrev s_x26 : Stmt := top 45
abbrev s_x27 : Stmt := top 46
abbrev s_x28 : Stmt := top 47
abbrev s_x29 : Stmt := top 48
abbrev s_x30 : Stmt := top 49
abbrev s_x31 : Stmt := top 51
abbrev s_x32 : Stmt := top 52
abbrev s_x33 : Stmt := top 53
abbrev s_x34 : Stmt := top 54
abbrev s_x35 : Stmt := top 55
abbrev s_x36 : Stmt := top 56
abbrev s_x37 : Stmt := top 57
abbrev s_x38 : Stmt := top 58
abbrev s_x39 : Stmt := top 59
abbrev s_x40 : Stmt := top 60
abbrev s_x41 : Stmt := top 61
abbrev s_x42 : Stmt := top 62
abbrev s_x43 : Stmt := top 63
structure Adr where
 a_x0 : Addr
 d_x0 : FuncData
 a_x1 : Addr
 d_x1 : FuncData
 a_x2 : Addr
 d_x2 : FuncData
 a_x3 : Addr
 d_x3 : FuncData
 a_x4 : Addr
 d_x4 : FuncData
 a_x5 : Addr
 d_x5 : FuncData
 a_x6 : Addr
 d_x6 : FuncData
 a_x7 : Addr
 d_x7 : FuncData
 a_x8 : Addr
 d_x8 : FuncData
 a_x9 : Addr
 d_x9 : FuncData
 a_x10 : Addr
 d_x10 : FuncData
 a_x11 : Addr
 d_x11 : FuncData
 a_x12 : Addr
 d_x12 : FuncData
 a_x13 : Addr
 d_x13 : FuncData
 a_x14 : Addr
 d_x14 : FuncData
 a_x15 : Addr
 d_x15 : FuncData
 a_x16 : Addr
 d_x16 : FuncData
 a_x17 : Addr
 d_x17 : FuncData
 a_x18 : Addr
 d_x18 : FuncData
 a_x19 : Addr
 d_x19 : FuncData
 a_x20 : Addr
 d_x20 : FuncData
 a_x21 : Addr
 d_x21 : FuncData
 a_x22 : Addr
 d_x22 : FuncData
 a_x23 : Addr
 d_x23 : FuncData
 a_x24 : Addr
 d_x24 : FuncData
 a_x25 : Addr
 d_x25 : FuncData
 a_x26 : Addr
 d_x26 : FuncData
 a_x27 : Addr
 d_x27 : FuncData
 a_x28 : Addr
 d_x28 : FuncData
 a_x29 : Addr
 d_x29 : FuncData
 a_x30 : Addr
 d_x30 : FuncData
 a_x31 : Addr
 d_x31 : FuncData
 a_x32 : Addr
 d_x32 : FuncData
 a_x33 : Addr
 d_x33 : FuncData
 a_x34 : Addr
 d_x34 : FuncData
 a_x35 : Addr
 d_x35 : FuncData
 a_x36 : Addr
 d_x36 : FuncData
 a_x37 : Addr
 d_x37 : FuncData
 a_x38 : Addr
 d_x38 : FuncData
 a_x39 : Addr
 d_x39 : FuncData
 a_x40 : Addr
 d_x40 : FuncData
 a_x41 : Addr
 d_x41 : FuncData
 a_x42 : Addr
 d_x42 : FuncData
 a_x43 : Addr
 d_x43 : FuncData
 u_LAST_WRITTEN : Value
 u_MONTH_DAYS : Value
 u_FIRST_YEAR : Value
 u_ROUND_DAYS : Value
 u_ROUND_YEARS : Value
 u_LAST_YEAR : Value
 u_FIGURES : Value
 u_NoText : Addr
 u_LONGEST_NAME : Value
 u_LETTERS : Value
 u_MOST_MANY : Value
 u_UNITS : Value
 u_MOST_MAKERS : Value
 u_MANY_FIGURES : Value
structure Txt (K : PySem.W.Frag) (mg : Str → Option Value) (t : Adr) : Prop where
 F_x0 : Fun K "is_whole" "is_whole" s_x0 t.a_x0 t.d_x0
 m_x0 : mg "is_whole" = some (.ref t.a_x0)
 b_x0 : Binds K t.d_x0 ["thing"] []
 F_x1 : Fun K "is_day" "is_day" s_x1 t.a_x1 t.d_x1
 m_x1 : mg "is_day" = some (.ref t.a_x1)
 b_x1 : Binds K t.d_x1 ["thing"] []
 F_x2 : Fun K "is_leap" "is_leap" s_x2 t.a_x2 t.d_x2
 m_x2 : mg "is_leap" = some (.ref t.a_x2)
 b_x2 : Binds K t.d_x2 ["year"] []
 F_x3 : Fun K "month_length" "month_length" s_x3 t.a_x3 t.d_x3
 m_x3 : mg "month_length" = some (.ref t.a_x3)
 b_x3 : Binds K t.d_x3 ["year", "month"] []
 F_x4 : Fun K "leaps_before" "leaps_before" s_x4 t.a_x4 t.d_x4
 m_x4 : mg "leaps_before" = some (.ref t.a_x4)
 b_x4 : Binds K t.d_x4 ["year"] []
 F_x5 : Fun K "year_start" "year_start" s_x5 t.a_x5 t.d_x5
 m_x5 : mg "year_start" = some (.ref t.a_x5)
 b_x5 : Binds K t.d_x5 ["year"] []
 F_x6 : Fun K "year_of" "year_of" s_x6 t.a_x6 t.d_x6
 m_x6 : mg "year_of" = some (.ref t.a_x6)
 b_x6 : Binds K t.d_x6 ["day"] []
 F_x7 : Fun K "parts_of" "parts_of" s_x7 t.a_x7 t.d_x7
 m_x7 : mg "parts_of" = some (.ref t.a_x7)
 b_x7 : Binds K t.d_x7 ["day"] []
 F_x8 : Fun K "number_of" "number_of" s_x8 t.a_x8 t.d_x8
 m_x8 : mg "number_of" = some (.ref t.a_x8)
 b_x8 : Binds K t.d_x8 ["year", "month", "day"] []
 F_x9 : Fun K "is_date" "is_date" s_x9 t.a_x9 t.d_x9
 m_x9 : mg "is_date" = some (.ref t.a_x9)
 b_x9 : Binds K t.d_x9 ["year", "month", "day"] []
 F_x10 : Fun K "show_day" "show_day" s_x10 t.a_x10 t.d_x10
 m_x10 : mg "show_day" = some (.ref t.a_x10)
 b_x10 : Binds K t.d_x10 ["day"] []
 F_x11 : Fun K "is_figures" "is_figures" s_x11 t.a_x11 t.d_x11
 m_x11 : mg "is_figures" = some (.ref t.a_x11)
 b_x11 : Binds K t.d_x11 ["text", "length"] []
 F_x12 : Fun K "read_day" "read_day" s_x12 t.a_x12 t.d_x12
 m_x12 : mg "read_day" = some (.ref t.a_x12)
 b_x12 : Binds K t.d_x12 ["text"] []
 F_x13 : Fun K "is_tuple_of" "is_tuple_of" s_x13 t.a_x13 t.d_x13
 m_x13 : mg "is_tuple_of" = some (.ref t.a_x13)
 b_x13 : Binds K t.d_x13 ["thing", "length"] []
 F_x14 : Fun K "is_name" "is_name" s_x14 t.a_x14 t.d_x14
 m_x14 : mg "is_name" = some (.ref t.a_x14)
 b_x14 : Binds K t.d_x14 ["thing"] []
 F_x15 : Fun K "is_since" "is_since" s_x15 t.a_x15 t.d_x15
 m_x15 : mg "is_since" = some (.ref t.a_x15)
 b_x15 : Binds K t.d_x15 ["thing"] []
 F_x16 : Fun K "is_span" "is_span" s_x16 t.a_x16 t.d_x16
 m_x16 : mg "is_span" = some (.ref t.a_x16)
 b_x16 : Binds K t.d_x16 ["many", "unit"] []
 F_x17 : Fun K "is_rule" "is_rule" s_x17 t.a_x17 t.d_x17
 m_x17 : mg "is_rule" = some (.ref t.a_x17)
 b_x17 : Binds K t.d_x17 ["thing"] []
 F_x18 : Fun K "is_makers" "is_makers" s_x18 t.a_x18 t.d_x18
 m_x18 : mg "is_makers" = some (.ref t.a_x18)
 b_x18 : Binds K t.d_x18 ["thing"] []
 F_x19 : Fun K "is_target" "is_target" s_x19 t.a_x19 t.d_x19
 m_x19 : mg "is_target" = some (.ref t.a_x19)
 b_x19 : Binds K t.d_x19 ["thing"] []
 F_x20 : Fun K "are_parts" "are_parts" s_x20 t.a_x20 t.d_x20
 m_x20 : mg "are_parts" = some (.ref t.a_x20)
 b_x20 : Binds K t.d_x20 ["word", "parts"] []
 F_x21 : Fun K "is_deed" "is_deed" s_x21 t.a_x21 t.d_x21
 m_x21 : mg "is_deed" = some (.ref t.a_x21)
 b_x21 : Binds K t.d_x21 ["thing"] []
 F_x22 : Fun K "rule_words" "rule_words" s_x22 t.a_x22 t.d_x22
 m_x22 : mg "rule_words" = some (.ref t.a_x22)
 b_x22 : Binds K t.d_x22 ["parts"] []
 F_x23 : Fun K "part_words" "part_words" s_x23 t.a_x23 t.d_x23
 m_x23 : mg "part_words" = some (.ref t.a_x23)
 b_x23 : Binds K t.d_x23 ["word", "parts"] []
 F_x24 : Fun K "show_deed" "show_deed" s_x24 t.a_x24 t.d_x24
 m_x24 : mg "show_deed" = some (.ref t.a_x24)
 b_x24 : Binds K t.d_x24 ["deed"] []
 F_x25 : Fun K "number_in" "number_in" s_x25 t.a_x25 t.d_x25
 m_x25 : mg "number_in" = some (.ref t.a_x25)
 b_x25 : Binds K t.d_x25 ["word", "figures"] []
 F_x26 : Fun K "day_in" "day_in" s_x26 t.a_x26 t.d_x26
 m_x26 : mg "day_in" = some (.ref t.a_x26)
 b_x26 : Binds K t.d_x26 ["word"] []
 F_x27 : Fun K "rule_in" "rule_in" s_x27 t.a_x27 t.d_x27
 m_x27 : mg "rule_in" = some (.ref t.a_x27)
 b_x27 : Binds K t.d_x27 ["words"] []
 F_x28 : Fun K "parts_in" "parts_in" s_x28 t.a_x28 t.d_x28
 m_x28 : mg "parts_in" = some (.ref t.a_x28)
 b_x28 : Binds K t.d_x28 ["word", "words"] []
 F_x29 : Fun K "deed_in" "deed_in" s_x29 t.a_x29 t.d_x29
 m_x29 : mg "deed_in" = some (.ref t.a_x29)
 b_x29 : Binds K t.d_x29 ["row"] []
 F_x30 : Fun K "read_deed" "read_deed" s_x30 t.a_x30 t.d_x30
 m_x30 : mg "read_deed" = some (.ref t.a_x30)
 b_x30 : Binds K t.d_x30 ["text"] []
 F_x31 : Fun K "_law_mixed" "_law_mixed" s_x31 t.a_x31 t.d_x31
 m_x31 : mg "_law_mixed" = some (.ref t.a_x31)
 b_x31 : Binds K t.d_x31 ["_law_cell"] []
 F_x32 : Fun K "_law_pack" "_law_pack" s_x32 t.a_x32 t.d_x32
 m_x32 : mg "_law_pack" = some (.ref t.a_x32)
 b_x32 : Binds K t.d_x32 ["_law_script", "_law_k"] []
 F_x33 : Fun K "_law_take" "_law_take" s_x33 t.a_x33 t.d_x33
 m_x33 : mg "_law_take" = some (.ref t.a_x33)
 b_x33 : Binds K t.d_x33 ["_law_pack_here", "_law_size"] []
 F_x34 : Fun K "_law_names" "_law_names" s_x34 t.a_x34 t.d_x34
 m_x34 : mg "_law_names" = some (.ref t.a_x34)
 b_x34 : Binds K t.d_x34 ["_law_pack_here", "_law_many"] []
 F_x35 : Fun K "_law_rule" "_law_rule" s_x35 t.a_x35 t.d_x35
 m_x35 : mg "_law_rule" = some (.ref t.a_x35)
 b_x35 : Binds K t.d_x35 ["_law_pack_here", "_law_names_here"] []
 F_x36 : Fun K "_law_length" "_law_length" s_x36 t.a_x36 t.d_x36
 m_x36 : mg "_law_length" = some (.ref t.a_x36)
 b_x36 : Binds K t.d_x36 ["_law_year", "_law_month"] []
 F_x37 : Fun K "_law_ahead" "_law_ahead" s_x37 t.a_x37 t.d_x37
 m_x37 : mg "_law_ahead" = some (.ref t.a_x37)
 b_x37 : Binds K t.d_x37 ["_law_year"] []
 F_x38 : Fun K "_law_day_text" "_law_day_text" s_x38 t.a_x38 t.d_x38
 m_x38 : mg "_law_day_text" = some (.ref t.a_x38)
 b_x38 : Binds K t.d_x38 ["_law_day"] []
 F_x39 : Fun K "_law_any_day" "_law_any_day" s_x39 t.a_x39 t.d_x39
 m_x39 : mg "_law_any_day" = some (.ref t.a_x39)
 b_x39 : Binds K t.d_x39 ["_law_pack_here"] []
 F_x40 : Fun K "_law_drawn" "_law_drawn" s_x40 t.a_x40 t.d_x40
 m_x40 : mg "_law_drawn" = some (.ref t.a_x40)
 b_x40 : Binds K t.d_x40 ["_law_pack_here", "_law_names_here"] []
 F_x41 : Fun K "_law_written" "_law_written" s_x41 t.a_x41 t.d_x41
 m_x41 : mg "_law_written" = some (.ref t.a_x41)
 b_x41 : Binds K t.d_x41 ["_law_deed"] []
 F_x42 : Fun K "_law_same" "_law_same" s_x42 t.a_x42 t.d_x42
 m_x42 : mg "_law_same" = some (.ref t.a_x42)
 b_x42 : Binds K t.d_x42 ["_law_found", "_law_due"] []
 F_x43 : Fun K "law" "law" s_x43 t.a_x43 t.d_x43
 m_x43 : mg "law" = some (.ref t.a_x43)
 b_x43 : Binds K t.d_x43 ["_law_script"] []
 bt_x43 : ∀ (s : Shared) (u : Value), BindsTo s t.d_x43 ⟨[u], []⟩ [("_law_script", u)]
 c_LAST_WRITTEN : mg "LAST_WRITTEN" = some t.u_LAST_WRITTEN
 r_LAST_WRITTEN : RelV (.int 99999) t.u_LAST_WRITTEN
 c_MONTH_DAYS : mg "MONTH_DAYS" = some t.u_MONTH_DAYS
 e_MONTH_DAYS : ∃ a, t.u_MONTH_DAYS = .ref a ∧ ∀ H, SqT K H a [V.int 31, V.int 28, V.int 31, V.int 30, V.int 31, V.int 30, V.int 31, V.int 31, V.int 30, V.int 31, V.int 30, V.int 31]
 c_FIRST_YEAR : mg "FIRST_YEAR" = some t.u_FIRST_YEAR
 r_FIRST_YEAR : RelV (.int 2000) t.u_FIRST_YEAR
 c_ROUND_DAYS : mg "ROUND_DAYS" = some t.u_ROUND_DAYS
 r_ROUND_DAYS : RelV (.int 146097) t.u_ROUND_DAYS
 c_ROUND_YEARS : mg "ROUND_YEARS" = some t.u_ROUND_YEARS
 r_ROUND_YEARS : RelV (.int 400) t.u_ROUND_YEARS
 c_LAST_YEAR : mg "LAST_YEAR" = some t.u_LAST_YEAR
 r_LAST_YEAR : RelV (.int 9999) t.u_LAST_YEAR
 c_FIGURES : mg "FIGURES" = some t.u_FIGURES
 r_FIGURES : RelV (.str "0123456789") t.u_FIGURES
 c_NoText : mg "NoText" = some (.ref t.u_NoText)
 c_LONGEST_NAME : mg "LONGEST_NAME" = some t.u_LONGEST_NAME
 r_LONGEST_NAME : RelV (.int 8) t.u_LONGEST_NAME
 c_LETTERS : mg "LETTERS" = some t.u_LETTERS
 r_LETTERS : RelV (.str "abcdefghijklmnopqrstuvwxyz") t.u_LETTERS
 c_MOST_MANY : mg "MOST_MANY" = some t.u_MOST_MANY
 r_MOST_MANY : RelV (.int 999) t.u_MOST_MANY
 c_UNITS : mg "UNITS" = some t.u_UNITS
 e_UNITS : ∃ a, t.u_UNITS = .ref a ∧ ∀ H, SqT K H a [V.str "days", V.str "months", V.str "years"]
 c_MOST_MAKERS : mg "MOST_MAKERS" = some t.u_MOST_MAKERS
 r_MOST_MAKERS : RelV (.int 4) t.u_MOST_MAKERS
 c_MANY_FIGURES : mg "MANY_FIGURES" = some t.u_MANY_FIGURES
 r_MANY_FIGURES : RelV (.int 3) t.u_MANY_FIGURES
 n_all : mg "all" = none
 n_bool : mg "bool" = none
 n_divmod : mg "divmod" = none
 n_int : mg "int" = none
 n_isinstance : mg "isinstance" = none
 n_len : mg "len" = none
 n_list : mg "list" = none
 n_max : mg "max" = none
 n_min : mg "min" = none
 n_range : mg "range" = none
 n_sorted : mg "sorted" = none
 n_str : mg "str" = none
 n_sum : mg "sum" = none
 n_tuple : mg "tuple" = none
 n_zip : mg "zip" = none
theorem sc_x0 : FnScope ["thing"] ["thing"] (defScope s_x0) := ⟨rfl, rfl, rfl, by decide +kernel, rfl, by decide +kernel, by decide +kernel⟩
theorem sc_x1 : FnScope ["thing"] ["thing"] (defScope s_x1) := ⟨rfl, rfl, rfl, by decide +kernel, rfl, by decide +kernel, by decide +kernel⟩
theorem sc_x2 : FnScope ["year"] ["year"] (defScope s_x2) := ⟨rfl, rfl, rfl, by decide +kernel, rfl, by decide +kernel, by decide +kernel⟩
theorem sc_x3 : FnScope ["year", "month"] ["year", "month"] (defScope s_x3) := ⟨rfl, rfl, rfl, by decide +kernel, rfl, by decide +kernel, by decide +kernel⟩
theorem sc_x4 : FnScope ["year", "past"] ["year"] (defScope s_x4) := ⟨rfl, rfl, rfl, by decide +kernel, rfl, by decide +kernel, by decide +kernel⟩
theorem sc_x5 : FnScope ["year"] ["year"] (defScope s_x5) := ⟨rfl, rfl, rfl, by decide +kernel, rfl, by decide +kernel, by decide +kernel⟩
theorem sc_x6 : FnScope ["day", "year"] ["day"] (defScope s_x6) := ⟨rfl, rfl, rfl, by decide +kernel, rfl, by decide +kernel, by decide +kernel⟩
theorem sc_x7 : FnScope ["day", "year", "left", "month"] ["day"] (defScope s_x7) := ⟨rfl, rfl, rfl, by decide +kernel, rfl, by decide +kernel, by decide +kernel⟩
theorem sc_x8 : FnScope ["year", "month", "day", "before"] ["year", "month", "day"] (defScope s_x8) := ⟨rfl, rfl, rfl, by decide +kernel, rfl, by decide +kernel, by decide +kernel⟩
theorem sc_x9 : FnScope ["year", "month", "day"] ["year", "month", "day"] (defScope s_x9) := ⟨rfl, rfl, rfl, by decide +kernel, rfl, by decide +kernel, by decide +kernel⟩
theorem sc_x10 : FnScope ["day", "parts", "year", "month", "number"] ["day"] (defScope s_x10) := ⟨rfl, rfl, rfl, by decide +kernel, rfl, by decide +kernel, by decide +kernel⟩
theorem sc_x11 : FnScope ["text", "length"] ["text", "length"] (defScope s_x11) := ⟨rfl, rfl, rfl, by decide +kernel, rfl, by decide +kernel, by decide +kernel⟩
theorem sc_x12 : FnScope ["text", "words", "year", "month", "number"] ["text"] (defScope s_x12) := ⟨rfl, rfl, rfl, by decide +kernel, rfl, by decide +kernel, by decide +kernel⟩
theorem sc_x13 : FnScope ["thing", "length"] ["thing", "length"] (defScope s_x13) := ⟨rfl, rfl, rfl, by decide +kernel, rfl, by decide +kernel, by decide +kernel⟩
theorem sc_x14 : FnScope ["thing"] ["thing"] (defScope s_x14) := ⟨rfl, rfl, rfl, by decide +kernel, rfl, by decide +kernel, by decide +kernel⟩
theorem sc_x15 : FnScope ["thing"] ["thing"] (defScope s_x15) := ⟨rfl, rfl, rfl, by decide +kernel, rfl, by decide +kernel, by decide +kernel⟩
theorem sc_x16 : FnScope ["many", "unit"] ["many", "unit"] (defScope s_x16) := ⟨rfl, rfl, rfl, by decide +kernel, rfl, by decide +kernel, by decide +kernel⟩
theorem sc_x17 : FnScope ["thing", "named"] ["thing"] (defScope s_x17) := ⟨rfl, rfl, rfl, by decide +kernel, rfl, by decide +kernel, by decide +kernel⟩
theorem sc_x18 : FnScope ["thing"] ["thing"] (defScope s_x18) := ⟨rfl, rfl, rfl, by decide +kernel, rfl, by decide +kernel, by decide +kernel⟩
theorem sc_x19 : FnScope ["thing"] ["thing"] (defScope s_x19) := ⟨rfl, rfl, rfl, by decide +kernel, rfl, by decide +kernel, by decide +kernel⟩
theorem sc_x20 : FnScope ["word", "parts"] ["word", "parts"] (defScope s_x20) := ⟨rfl, rfl, rfl, by decide +kernel, rfl, by decide +kernel, by decide +kernel⟩
theorem sc_x21 : FnScope ["thing"] ["thing"] (defScope s_x21) := ⟨rfl, rfl, rfl, by decide +kernel, rfl, by decide +kernel, by decide +kernel⟩
theorem sc_x22 : FnScope ["parts"] ["parts"] (defScope s_x22) := ⟨rfl, rfl, rfl, by decide +kernel, rfl, by decide +kernel, by decide +kernel⟩
theorem sc_x23 : FnScope ["word", "parts"] ["word", "parts"] (defScope s_x23) := ⟨rfl, rfl, rfl, by decide +kernel, rfl, by decide +kernel, by decide +kernel⟩
theorem sc_x24 : FnScope ["deed"] ["deed"] (defScope s_x24) := ⟨rfl, rfl, rfl, by decide +kernel, rfl, by decide +kernel, by decide +kernel⟩
theorem sc_x25 : FnScope ["word", "figures"] ["word", "figures"] (defScope s_x25) := ⟨rfl, rfl, rfl, by decide +kernel, rfl, by decide +kernel, by decide +kernel⟩
theorem sc_x26 : FnScope ["word"] ["word"] (defScope s_x26) := ⟨rfl, rfl, rfl, by decide +kernel, rfl, by decide +kernel, by decide +kernel⟩
theorem sc_x27 : FnScope ["words"] ["words"] (defScope s_x27) := ⟨rfl, rfl, rfl, by decide +kernel, rfl, by decide +kernel, by decide +kernel⟩
theorem sc_x28 : FnScope ["word", "words"] ["word", "words"] (defScope s_x28) := ⟨rfl, rfl, rfl, by decide +kernel, rfl, by decide +kernel, by decide +kernel⟩
theorem sc_x29 : FnScope ["row", "words", "deed"] ["row"] (defScope s_x29) := ⟨rfl, rfl, rfl, by decide +kernel, rfl, by decide +kernel, by decide +kernel⟩
theorem sc_x30 : FnScope ["text", "deed"] ["text"] (defScope s_x30) := ⟨rfl, rfl, rfl, by decide +kernel, rfl, by decide +kernel, by decide +kernel⟩
theorem sc_x31 : FnScope ["_law_cell"] ["_law_cell"] (defScope s_x31) := ⟨rfl, rfl, rfl, by decide +kernel, rfl, by decide +kernel, by decide +kernel⟩
theorem sc_x32 : FnScope ["_law_script", "_law_k"] ["_law_script", "_law_k"] (defScope s_x32) := ⟨rfl, rfl, rfl, by decide +kernel, rfl, by decide +kernel, by decide +kernel⟩
theorem sc_x33 : FnScope ["_law_pack_here", "_law_size", "_law_digit"] ["_law_pack_here", "_law_size"] (defScope s_x33) := ⟨rfl, rfl, rfl, by decide +kernel, rfl, by decide +kernel, by decide +kernel⟩
theorem sc_x34 : FnScope ["_law_pack_here", "_law_many", "_law_letters", "_law_words", "_law_turn", "_law_size", "_law_at", "_law_stem", "_law_first"] ["_law_pack_here", "_law_many"] (defScope s_x34) := ⟨rfl, rfl, rfl, by decide +kernel, rfl, by decide +kernel, by decide +kernel⟩
theorem sc_x35 : FnScope ["_law_pack_here", "_law_names_here", "_law_word", "_law_kind", "_law_since", "_law_way", "_law_many"] ["_law_pack_here", "_law_names_here"] (defScope s_x35) := ⟨rfl, rfl, rfl, by decide +kernel, rfl, by decide +kernel, by decide +kernel⟩
theorem sc_x36 : FnScope ["_law_year", "_law_month"] ["_law_year", "_law_month"] (defScope s_x36) := ⟨rfl, rfl, rfl, by decide +kernel, rfl, by decide +kernel, by decide +kernel⟩
theorem sc_x37 : FnScope ["_law_year", "_law_years"] ["_law_year"] (defScope s_x37) := ⟨rfl, rfl, rfl, by decide +kernel, rfl, by decide +kernel, by decide +kernel⟩
theorem sc_x38 : FnScope ["_law_day", "_law_year", "_law_month", "_law_number"] ["_law_day"] (defScope s_x38) := ⟨rfl, rfl, rfl, by decide +kernel, rfl, by decide +kernel, by decide +kernel⟩
theorem sc_x39 : FnScope ["_law_pack_here", "_law_way", "_law_year", "_law_month", "_law_last"] ["_law_pack_here"] (defScope s_x39) := ⟨rfl, rfl, rfl, by decide +kernel, rfl, by decide +kernel, by decide +kernel⟩
theorem sc_x40 : FnScope ["_law_pack_here", "_law_names_here", "_law_word", "_law_head", "_law_other", "_law_some", "_law_target"] ["_law_pack_here", "_law_names_here"] (defScope s_x40) := ⟨rfl, rfl, rfl, by decide +kernel, rfl, by decide +kernel, by decide +kernel⟩
theorem sc_x41 : FnScope ["_law_deed", "_law_words"] ["_law_deed"] (defScope s_x41) := ⟨rfl, rfl, rfl, by decide +kernel, rfl, by decide +kernel, by decide +kernel⟩
theorem sc_x42 : FnScope ["_law_found", "_law_due"] ["_law_found", "_law_due"] (defScope s_x42) := ⟨rfl, rfl, rfl, by decide +kernel, rfl, by decide +kernel, by decide +kernel⟩
theorem sc_x43 : FnScope ["_law_script", "_law_ahead_here", "_law_k", "_law_pack_here", "_law_names_here", "_law_turn", "_law_deed", "_law_text"] ["_law_script"] (defScope s_x43) := ⟨rfl, rfl, rfl, by decide +kernel, rfl, by decide +kernel, by decide +kernel⟩
set_option maxHeartbeats 0 in
theorem txt_mk {K : PySem.W.Frag} {h : Heap} {mg : Str → Option Value} (X : K.In h) (G : h.Ns mainGlobals mg)
  {f0 f1 f2 f3 f4 f5 f6 f7 f8 f9 f10 f11 f12 f13 f14 f15 f16 f17 f18 f19 f20 f21 f22 f23 f24 f25 f26 f27 f28 f29 f30 f31 f32 f33 f34 f35 f36 f37 f38 f39 f40 f41 f42 f43 : Addr} {od0 an0 od1 an1 od2 an2 od3 an3 od4 an4 od5 an5 od6 an6 od7 an7 od8 an8 od9 an9 od10 an10 od11 an11 od12 an12 od13 an13 od14 an14 od15 an15 od16 an16 od17 an17 od18 an18 od19 an19 od20 an20 od21 an21 od22 an22 od23 an23 od24 an24 od25 an25 od26 an26 od27 an27 od28 an28 od29 an29 od30 an30 od31 an31 od32 an32 od33 an33 od34 an34 od35 an35 od36 an36 od37 an37 od38 an38 od39 an39 od40 an40 od41 an41 od42 an42 od43 an43 : Option Addr} {sl0 sl1 sl2 sl3 sl4 sl5 sl6 sl7 sl8 sl9 sl10 sl11 sl12 sl13 sl14 sl15 sl16 sl17 sl18 sl19 sl20 sl21 sl22 sl23 sl24 sl25 sl26 sl27 sl28 sl29 sl30 sl31 sl32 sl33 sl34 sl35 sl36 sl37 sl38 sl39 sl40 sl41 sl42 sl43 : Array (Option Value)} {oc0 kV0 dc0 pm0 cd0 ct0 oc1 kV1 dc1 pm1 cd1 ct1 oc2 kV2 dc2 pm2 cd2 ct2 oc3 kV3 dc3 pm3 cd3 ct3 oc4 kV4 dc4 pm4 cd4 ct4 oc5 kV5 dc5 pm5 cd5 ct5 oc6 kV6 dc6 pm6 cd6 ct6 oc7 kV7 dc7 pm7 cd7 ct7 oc8 kV8 dc8 pm8 cd8 ct8 oc9 kV9 dc9 pm9 cd9 ct9 oc10 kV10 dc10 pm10 cd10 ct10 oc11 kV11 dc11 pm11 cd11 ct11 oc12 kV12 dc12 pm12 cd12 ct12 oc13 kV13 dc13 pm13 cd13 ct13 oc14 kV14 dc14 pm14 cd14 ct14 oc15 kV15 dc15 pm15 cd15 ct15 oc16 kV16 dc16 pm16 cd16 ct16 oc17 kV17 dc17 pm17 cd17 ct17 oc18 kV18 dc18 pm18 cd18 ct18 oc19 kV19 dc19 pm19 cd19 ct19 oc20 kV20 dc20 pm20 cd20 ct20 oc21 kV21 dc21 pm21 cd21 ct21 oc22 kV22 dc22 pm22 cd22 ct22 oc23 kV23 dc23 pm23 cd23 ct23 oc24 kV24 dc24 pm24 cd24 ct24 oc25 kV25 dc25 pm25 cd25 ct25 oc26 kV26 dc26 pm26 cd26 ct26 oc27 kV27 dc27 pm27 cd27 ct27 oc28 kV28 dc28 pm28 cd28 ct28 oc29 kV29 dc29 pm29 cd29 ct29 oc30 kV30 dc30 pm30 cd30 ct30 oc31 kV31 dc31 pm31 cd31 ct31 oc32 kV32 dc32 pm32 cd32 ct32 oc33 kV33 dc33 pm33 cd33 ct33 oc34 kV34 dc34 pm34 cd34 ct34 oc35 kV35 dc35 pm35 cd35 ct35 oc36 kV36 dc36 pm36 cd36 ct36 oc37 kV37 dc37 pm37 cd37 ct37 oc38 kV38 dc38 pm38 cd38 ct38 oc39 kV39 dc39 pm39 cd39 ct39 oc40 kV40 dc40 pm40 cd40 ct40 oc41 kV41 dc41 pm41 cd41 ct41 oc42 kV42 dc42 pm42 cd42 ct42 oc43 kV43 dc43 pm43 cd43 ct43 : Value}
  {u_NoText : Addr}
  {u_LAST_WRITTEN u_FIRST_YEAR u_ROUND_DAYS u_ROUND_YEARS u_LAST_YEAR u_FIGURES u_LONGEST_NAME u_LETTERS u_MOST_MANY u_MOST_MAKERS u_MANY_FIGURES : Value}
  {A_MONTH_DAYS : Addr} {dd_MONTH_DAYS : Option Addr} {its_MONTH_DAYS : Array Value} {n_MONTH_DAYS : Nat} {sl_MONTH_DAYS : Array (Option Value)}
  {A_UNITS : Addr} {dd_UNITS : Option Addr} {its_UNITS : Array Value} {n_UNITS : Nat} {sl_UNITS : Array (Option Value)}
  (a0 : PySem.W.nsIn K mainGlobals "is_whole" = some (some (.ref f0))) (l0 : K.lookup f0 = some ⟨oc0, od0, .func (PySem.W.fnOf "is_whole" "is_whole" (defArgs s_x0) (defBody s_x0) (defScope s_x0) .none kV0 dc0 pm0 an0 cd0 ct0), sl0⟩) (c0 : PySem.W.codeIn K cd0 "is_whole" = true) (k0 : PySem.W.keepIn K (.ref f0) = true)
  (a1 : PySem.W.nsIn K mainGlobals "is_day" = some (some (.ref f1))) (l1 : K.lookup f1 = some ⟨oc1, od1, .func (PySem.W.fnOf "is_day" "is_day" (defArgs s_x1) (defBody s_x1) (defScope s_x1) .none kV1 dc1 pm1 an1 cd1 ct1), sl1⟩) (c1 : PySem.W.codeIn K cd1 "is_day" = true) (k1 : PySem.W.keepIn K (.ref f1) = true)
  (a2 : PySem.W.nsIn K mainGlobals "is_leap" = some (some (.ref f2))) (l2 : K.lookup f2 = some ⟨oc2, od2, .func (PySem.W.fnOf "is_leap" "is_leap" (defArgs s_x2) (defBody s_x2) (defScope s_x2) .none kV2 dc2 pm2 an2 cd2 ct2), sl2⟩) (c2 : PySem.W.codeIn K cd2 "is_leap" = true) (k2 : PySem.W.keepIn K (.ref f2) = true)
  (a3 : PySem.W.nsIn K mainGlobals "month_length" = some (some (.ref f3))) (l3 : K.lookup f3 = some ⟨oc3, od3, .func (PySem.W.fnOf "month_length" "month_length" (defArgs s_x3) (defBody s_x3) (defScope s_x3) .none kV3 dc3 pm3 an3 cd3 ct3), sl3⟩) (c3 : PySem.W.codeIn K cd3 "month_length" = true) (k3 : PySem.W.keepIn K (.ref f3) = true)
  (a4 : PySem.W.nsIn K mainGlobals "leaps_before" = some (some (.ref f4))) (l4 : K.lookup f4 = some ⟨oc4, od4, .func (PySem.W.fnOf "leaps_before" "leaps_before" (defArgs s_x4) (defBody s_x4) (defScope s_x4) .none kV4 dc4 pm4 an4 cd4 ct4), sl4⟩) (c4 : PySem.W.codeIn K cd4 "leaps_before" = true) (k4 : PySem.W.keepIn K (.ref f4) = true)
  (a5 : PySem.W.nsIn K mainGlobals "year_start" = some (some (.ref f5))) (l5 : K.lookup f5 = some ⟨oc5, od5, .func (PySem.W.fnOf "year_start" "year_start" (defArgs s_x5) (defBody s_x5) (defScope s_x5) .none kV5 dc5 pm5 an5 cd5 ct5), sl5⟩) (c5 : PySem.W.codeIn K cd5 "year_start" = true) (k5 : PySem.W.keepIn K (.ref f5) = true)
  (a6 : PySem.W.nsIn K mainGlobals "year_of" = some (some (.ref f6))) (l6 : K.lookup f6 = some ⟨oc6, od6, .func (PySem.W.fnOf "year_of" "year_of" (defArgs s_x6) (defBody s_x6) (defScope s_x6) .none kV6 dc6 pm6 an6 cd6 ct6), sl6⟩) (c6 : PySem.W.codeIn K cd6 "year_of" = true) (k6 : PySem.W.keepIn K (.ref f6) = true)
  (a7 : PySem.W.nsIn K mainGlobals "parts_of" = some (some (.ref f7))) (l7 : K.lookup f7 = some ⟨oc7, od7, .func (PySem.W.fnOf "parts_of" "parts_of" (defArgs s_x7) (defBody s_x7) (defScope s_x7) .none kV7 dc7 pm7 an7 cd7 ct7), sl7⟩) (c7 : PySem.W.codeIn K cd7 "parts_of" = true) (k7 : PySem.W.keepIn K (.ref f7) = true)
  (a8 : PySem.W.nsIn K mainGlobals "number_of" = some (some (.ref f8))) (l8 : K.lookup f8 = some ⟨oc8, od8, .func (PySem.W.fnOf "number_of" "number_of" (defArgs s_x8) (defBody s_x8) (defScope s_x8) .none kV8 dc8 pm8 an8 cd8 ct8), sl8⟩) (c8 : PySem.W.codeIn K cd8 "number_of" = true) (k8 : PySem.W.keepIn K (.ref f8) = true)
  (a9 : PySem.W.nsIn K mainGlobals "is_date" = some (some (.ref f9))) (l9 : K.lookup f9 = some ⟨oc9, od9, .func (PySem.W.fnOf "is_date" "is_date" (defArgs s_x9) (defBody s_x9) (defScope s_x9) .none kV9 dc9 pm9 an9 cd9 ct9), sl9⟩) (c9 : PySem.W.codeIn K cd9 "is_date" = true) (k9 : PySem.W.keepIn K (.ref f9) = true)
  (a10 : PySem.W.nsIn K mainGlobals "show_day" = some (some (.ref f10))) (l10 : K.lookup f10 = some ⟨oc10, od10, .func (PySem.W.fnOf "show_day" "show_day" (defArgs s_x10) (defBody s_x10) (defScope s_x10) .none kV10 dc10 pm10 an10 cd10 ct10), sl10⟩) (c10 : PySem.W.codeIn K cd10 "show_day" = true) (k10 : PySem.W.keepIn K (.ref f10) = true)
  (a11 : PySem.W.nsIn K mainGlobals "is_figures" = some (some (.ref f11))) (l11 : K.lookup f11 = some ⟨oc11, od11, .func (PySem.W.fnOf "is_figures" "is_figures" (defArgs s_x11) (defBody s_x11) (defScope s_x11) .none kV11 dc11 pm11 an11 cd11 ct11), sl11⟩) (c11 : PySem.W.codeIn K cd11 "is_figures" = true) (k11 : PySem.W.keepIn K (.ref f11) = true)
  (a12 : PySem.W.nsIn K mainGlobals "read_day" = some (some (.ref f12))) (l12 : K.lookup f12 = some ⟨oc12, od12, .func (PySem.W.fnOf "read_day" "read_day" (defArgs s_x12) (defBody s_x12) (defScope s_x12) .none kV12 dc12 pm12 an12 cd12 ct12), sl12⟩) (c12 : PySem.W.codeIn K cd12 "read_day" = true) (k12 : PySem.W.keepIn K (.ref f12) = true)
  (a13 : PySem.W.nsIn K mainGlobals "is_tuple_of" = some (some (.ref f13))) (l13 : K.lookup f13 = some ⟨oc13, od13, .func (PySem.W.fnOf "is_tuple_of" "is_tuple_of" (defArgs s_x13) (defBody s_x13) (defScope s_x13) .none kV13 dc13 pm13 an13 cd13 ct13), sl13⟩) (c13 : PySem.W.codeIn K cd13 "is_tuple_of" = true) (k13 : PySem.W.keepIn K (.ref f13) = true)
  (a14 : PySem.W.nsIn K mainGlobals "is_name" = some (some (.ref f14))) (l14 : K.lookup f14 = some ⟨oc14, od14, .func (PySem.W.fnOf "is_name" "is_name" (defArgs s_x14) (defBody s_x14) (defScope s_x14) .none kV14 dc14 pm14 an14 cd14 ct14), sl14⟩) (c14 : PySem.W.codeIn K cd14 "is_name" = true) (k14 : PySem.W.keepIn K (.ref f14) = true)
  (a15 : PySem.W.nsIn K mainGlobals "is_since" = some (some (.ref f15))) (l15 : K.lookup f15 = some ⟨oc15, od15, .func (PySem.W.fnOf "is_since" "is_since" (defArgs s_x15) (defBody s_x15) (defScope s_x15) .none kV15 dc15 pm15 an15 cd15 ct15), sl15⟩) (c15 : PySem.W.codeIn K cd15 "is_since" = true) (k15 : PySem.W.keepIn K (.ref f15) = true)
  (a16 : PySem.W.nsIn K mainGlobals "is_span" = some (some (.ref f16))) (l16 : K.lookup f16 = some ⟨oc16, od16, .func (PySem.W.fnOf "is_span" "is_span" (defArgs s_x16) (defBody s_x16) (defScope s_x16) .none kV16 dc16 pm16 an16 cd16 ct16), sl16⟩) (c16 : PySem.W.codeIn K cd16 "is_span" = true) (k16 : PySem.W.keepIn K (.ref f16) = true)
  (a17 : PySem.W.nsIn K mainGlobals "is_rule" = some (some (.ref f17))) (l17 : K.lookup f17 = some ⟨oc17, od17, .func (PySem.W.fnOf "is_rule" "is_rule" (defArgs s_x17) (defBody s_x17) (defScope s_x17) .none kV17 dc17 pm17 an17 cd17 ct17), sl17⟩) (c17 : PySem.W.codeIn K cd17 "is_rule" = true) (k17 : PySem.W.keepIn K (.ref f17) = true)
  (a18 : PySem.W.nsIn K mainGlobals "is_makers" = some (some (.ref f18))) (l18 : K.lookup f18 = some ⟨oc18, od18, .func (PySem.W.fnOf "is_makers" "is_makers" (defArgs s_x18) (defBody s_x18) (defScope s_x18) .none kV18 dc18 pm18 an18 cd18 ct18), sl18⟩) (c18 : PySem.W.codeIn K cd18 "is_makers" = true) (k18 : PySem.W.keepIn K (.ref f18) = true)
  (a19 : PySem.W.nsIn K mainGlobals "is_target" = some (some (.ref f19))) (l19 : K.lookup f19 = some ⟨oc19, od19, .func (PySem.W.fnOf "is_target" "is_target" (defArgs s_x19) (defBody s_x19) (defScope s_x19) .none kV19 dc19 pm19 an19 cd19 ct19), sl19⟩) (c19 : PySem.W.codeIn K cd19 "is_target" = true) (k19 : PySem.W.keepIn K (.ref f19) = true)
  (a20 : PySem.W.nsIn K mainGlobals "are_parts" = some (some (.ref f20))) (l20 : K.lookup f20 = some ⟨oc20, od20, .func (PySem.W.fnOf "are_parts" "are_parts" (defArgs s_x20) (defBody s_x20) (defScope s_x20) .none kV20 dc20 pm20 an20 cd20 ct20), sl20⟩) (c20 : PySem.W.codeIn K cd20 "are_parts" = true) (k20 : PySem.W.keepIn K (.ref f20) = true)
  (a21 : PySem.W.nsIn K mainGlobals "is_deed" = some (some (.ref f21))) (l21 : K.lookup f21 = some ⟨oc21, od21, .func (PySem.W.fnOf "is_deed" "is_deed" (defArgs s_x21) (defBody s_x21) (defScope s_x21) .none kV21 dc21 pm21 an21 cd21 ct21), sl21⟩) (c21 : PySem.W.codeIn K cd21 "is_deed" = true) (k21 : PySem.W.keepIn K (.ref f21) = true)
  (a22 : PySem.W.nsIn K mainGlobals "rule_words" = some (some (.ref f22))) (l22 : K.lookup f22 = some ⟨oc22, od22, .func (PySem.W.fnOf "rule_words" "rule_words" (defArgs s_x22) (defBody s_x22) (defScope s_x22) .none kV22 dc22 pm22 an22 cd22 ct22), sl22⟩) (c22 : PySem.W.codeIn K cd22 "rule_words" = true) (k22 : PySem.W.keepIn K (.ref f22) = true)
  (a23 : PySem.W.nsIn K mainGlobals "part_words" = some (some (.ref f23))) (l23 : K.lookup f23 = some ⟨oc23, od23, .func (PySem.W.fnOf "part_words" "part_words" (defArgs s_x23) (defBody s_x23) (defScope s_x23) .none kV23 dc23 pm23 an23 cd23 ct23), sl23⟩) (c23 : PySem.W.codeIn K cd23 "part_words" = true) (k23 : PySem.W.keepIn K (.ref f23) = true)
  (a24 : PySem.W.nsIn K mainGlobals "show_deed" = some (some (.ref f24))) (l24 : K.lookup f24 = some ⟨oc24, od24, .func (PySem.W.fnOf "show_deed" "show_deed" (defArgs s_x24) (defBody s_x24) (defScope s_x24) .none kV24 dc24 pm24 an24 cd24 ct24), sl24⟩) (c24 : PySem.W.codeIn K cd24 "show_deed" = true) (k24 : PySem.W.keepIn K (.ref f24) = true)
  (a25 : PySem.W.nsIn K mainGlobals "number_in" = some (some (.ref f25))) (l25 : K.lookup f25 = some ⟨oc25, od25, .func (PySem.W.fnOf "number_in" "number_in" (defArgs s_x25) (defBody s_x25) (defScope s_x25) .none kV25 dc25 pm25 an25 cd25 ct25), sl25⟩) (c25 : PySem.W.codeIn K cd25 "number_in" = true) (k25 : PySem.W.keepIn K (.ref f25) = true)
  (a26 : PySem.W.nsIn K mainGlobals "day_in" = some (some (.ref f26))) (l26 : K.lookup f26 = some ⟨oc26, od26, .func (PySem.W.fnOf "day_in" "day_in" (defArgs s_x26) (defBody s_x26) (defScope s_x26) .none kV26 dc26 pm26 an26 cd26 ct26), sl26⟩) (c26 : PySem.W.codeIn K cd26 "day_in" = true) (k26 : PySem.W.keepIn K (.ref f26) = true)
  (a27 : PySem.W.nsIn K mainGlobals "rule_in" = some (some (.ref f27))) (l27 : K.lookup f27 = some ⟨oc27, od27, .func (PySem.W.fnOf "rule_in" "rule_in" (defArgs s_x27) (defBody s_x27) (defScope s_x27) .none kV27 dc27 pm27 an27 cd27 ct27), sl27⟩) (c27 : PySem.W.codeIn K cd27 "rule_in" = true) (k27 : PySem.W.keepIn K (.ref f27) = true)
  (a28 : PySem.W.nsIn K mainGlobals "parts_in" = some (some (.ref f28))) (l28 : K.lookup f28 = some ⟨oc28, od28, .func (PySem.W.fnOf "parts_in" "parts_in" (defArgs s_x28) (defBody s_x28) (defScope s_x28) .none kV28 dc28 pm28 an28 cd28 ct28), sl28⟩) (c28 : PySem.W.codeIn K cd28 "parts_in" = true) (k28 : PySem.W.keepIn K (.ref f28) = true)
  (a29 : PySem.W.nsIn K mainGlobals "deed_in" = some (some (.ref f29))) (l29 : K.lookup f29 = some ⟨oc29, od29, .func (PySem.W.fnOf "deed_in" "deed_in" (defArgs s_x29) (defBody s_x29) (defScope s_x29) .none kV29 dc29 pm29 an29 cd29 ct29), sl29⟩) (c29 : PySem.W.codeIn K cd29 "deed_in" = true) (k29 : PySem.W.keepIn K (.ref f29) = true)
  (a30 : PySem.W.nsIn K mainGlobals "read_deed" = some (some (.ref f30))) (l30 : K.lookup f30 = some ⟨oc30, od30, .func (PySem.W.fnOf "read_deed" "read_deed" (defArgs s_x30) (defBody s_x30) (defScope s_x30) .none kV30 dc30 pm30 an30 cd30 ct30), sl30⟩) (c30 : PySem.W.codeIn K cd30 "read_deed" = true) (k30 : PySem.W.keepIn K (.ref f30) = true)
  (a31 : PySem.W.nsIn K mainGlobals "_law_mixed" = some (some (.ref f31))) (l31 : K.lookup f31 = some ⟨oc31, od31, .func (PySem.W.fnOf "_law_mixed" "_law_mixed" (defArgs s_x31) (defBody s_x31) (defScope s_x31) .none kV31 dc31 pm31 an31 cd31 ct31), sl31⟩) (c31 : PySem.W.codeIn K cd31 "_law_mixed" = true) (k31 : PySem.W.keepIn K (.ref f31) = true)
  (a32 : PySem.W.nsIn K mainGlobals "_law_pack" = some (some (.ref f32))) (l32 : K.lookup f32 = some ⟨oc32, od32, .func (PySem.W.fnOf "_law_pack" "_law_pack" (defArgs s_x32) (defBody s_x32) (defScope s_x32) .none kV32 dc32 pm32 an32 cd32 ct32), sl32⟩) (c32 : PySem.W.codeIn K cd32 "_law_pack" = true) (k32 : PySem.W.keepIn K (.ref f32) = true)
  (a33 : PySem.W.nsIn K mainGlobals "_law_take" = some (some (.ref f33))) (l33 : K.lookup f33 = some ⟨oc33, od33, .func (PySem.W.fnOf "_law_take" "_law_take" (defArgs s_x33) (defBody s_x33) (defScope s_x33) .none kV33 dc33 pm33 an33 cd33 ct33), sl33⟩) (c33 : PySem.W.codeIn K cd33 "_law_take" = true) (k33 : PySem.W.keepIn K (.ref f33) = true)
  (a34 : PySem.W.nsIn K mainGlobals "_law_names" = some (some (.ref f34))) (l34 : K.lookup f34 = some ⟨oc34, od34, .func (PySem.W.fnOf "_law_names" "_law_names" (defArgs s_x34) (defBody s_x34) (defScope s_x34) .none kV34 dc34 pm34 an34 cd34 ct34), sl34⟩) (c34 : PySem.W.codeIn K cd34 "_law_names" = true) (k34 : PySem.W.keepIn K (.ref f34) = true)
  (a35 : PySem.W.nsIn K mainGlobals "_law_rule" = some (some (.ref f35))) (l35 : K.lookup f35 = some ⟨oc35, od35, .func (PySem.W.fnOf "_law_rule" "_law_rule" (defArgs s_x35) (defBody s_x35) (defScope s_x35) .none kV35 dc35 pm35 an35 cd35 ct35), sl35⟩) (c35 : PySem.W.codeIn K cd35 "_law_rule" = true) (k35 : PySem.W.keepIn K (.ref f35) = true)
  (a36 : PySem.W.nsIn K mainGlobals "_law_length" = some (some (.ref f36))) (l36 : K.lookup f36 = some ⟨oc36, od36, .func (PySem.W.fnOf "_law_length" "_law_length" (defArgs s_x36) (defBody s_x36) (defScope s_x36) .none kV36 dc36 pm36 an36 cd36 ct36), sl36⟩) (c36 : PySem.W.codeIn K cd36 "_law_length" = true) (k36 : PySem.W.keepIn K (.ref f36) = true)
  (a37 : PySem.W.nsIn K mainGlobals "_law_ahead" = some (some (.ref f37))) (l37 : K.lookup f37 = some ⟨oc37, od37, .func (PySem.W.fnOf "_law_ahead" "_law_ahead" (defArgs s_x37) (defBody s_x37) (defScope s_x37) .none kV37 dc37 pm37 an37 cd37 ct37), sl37⟩) (c37 : PySem.W.codeIn K cd37 "_law_ahead" = true) (k37 : PySem.W.keepIn K (.ref f37) = true)
  (a38 : PySem.W.nsIn K mainGlobals "_law_day_text" = some (some (.ref f38))) (l38 : K.lookup f38 = some ⟨oc38, od38, .func (PySem.W.fnOf "_law_day_text" "_law_day_text" (defArgs s_x38) (defBody s_x38) (defScope s_x38) .none kV38 dc38 pm38 an38 cd38 ct38), sl38⟩) (c38 : PySem.W.codeIn K cd38 "_law_day_text" = true) (k38 : PySem.W.keepIn K (.ref f38) = true)
  (a39 : PySem.W.nsIn K mainGlobals "_law_any_day" = some (some (.ref f39))) (l39 : K.lookup f39 = some ⟨oc39, od39, .func (PySem.W.fnOf "_law_any_day" "_law_any_day" (defArgs s_x39) (defBody s_x39) (defScope s_x39) .none kV39 dc39 pm39 an39 cd39 ct39), sl39⟩) (c39 : PySem.W.codeIn K cd39 "_law_any_day" = true) (k39 : PySem.W.keepIn K (.ref f39) = true)
  (a40 : PySem.W.nsIn K mainGlobals "_law_drawn" = some (some (.ref f40))) (l40 : K.lookup f40 = some ⟨oc40, od40, .func (PySem.W.fnOf "_law_drawn" "_law_drawn" (defArgs s_x40) (defBody s_x40) (defScope s_x40) .none kV40 dc40 pm40 an40 cd40 ct40), sl40⟩) (c40 : PySem.W.codeIn K cd40 "_law_drawn" = true) (k40 : PySem.W.keepIn K (.ref f40) = true)
  (a41 : PySem.W.nsIn K mainGlobals "_law_written" = some (some (.ref f41))) (l41 : K.lookup f41 = some ⟨oc41, od41, .func (PySem.W.fnOf "_law_written" "_law_written" (defArgs s_x41) (defBody s_x41) (defScope s_x41) .none kV41 dc41 pm41 an41 cd41 ct41), sl41⟩) (c41 : PySem.W.codeIn K cd41 "_law_written" = true) (k41 : PySem.W.keepIn K (.ref f41) = true)
  (a42 : PySem.W.nsIn K mainGlobals "_law_same" = some (some (.ref f42))) (l42 : K.lookup f42 = some ⟨oc42, od42, .func (PySem.W.fnOf "_law_same" "_law_same" (defArgs s_x42) (defBody s_x42) (defScope s_x42) .none kV42 dc42 pm42 an42 cd42 ct42), sl42⟩) (c42 : PySem.W.codeIn K cd42 "_law_same" = true) (k42 : PySem.W.keepIn K (.ref f42) = true)
  (a43 : PySem.W.nsIn K mainGlobals "law" = some (some (.ref f43))) (l43 : K.lookup f43 = some ⟨oc43, od43, .func (PySem.W.fnOf "law" "law" (defArgs s_x43) (defBody s_x43) (defScope s_x43) .none kV43 dc43 pm43 an43 cd43 ct43), sl43⟩) (c43 : PySem.W.codeIn K cd43 "law" = true) (k43 : PySem.W.keepIn K (.ref f43) = true)
  (x_LAST_WRITTEN : PySem.W.nsIn K mainGlobals "LAST_WRITTEN" = some (some u_LAST_WRITTEN)) (r_LAST_WRITTEN : RelV (.int 99999) u_LAST_WRITTEN)
  (x_MONTH_DAYS : PySem.W.nsIn K mainGlobals "MONTH_DAYS" = some (some (.ref A_MONTH_DAYS))) (y_MONTH_DAYS : K.lookup A_MONTH_DAYS = some ⟨.type "tuple", dd_MONTH_DAYS, .seq its_MONTH_DAYS n_MONTH_DAYS, sl_MONTH_DAYS⟩) (z_MONTH_DAYS : Vals [V.int 31, V.int 28, V.int 31, V.int 30, V.int 31, V.int 30, V.int 31, V.int 31, V.int 30, V.int 31, V.int 30, V.int 31] its_MONTH_DAYS.toList) (w_MONTH_DAYS : its_MONTH_DAYS.size ≤ sizeLine)
  (x_FIRST_YEAR : PySem.W.nsIn K mainGlobals "FIRST_YEAR" = some (some u_FIRST_YEAR)) (r_FIRST_YEAR : RelV (.int 2000) u_FIRST_YEAR)
  (x_ROUND_DAYS : PySem.W.nsIn K mainGlobals "ROUND_DAYS" = some (some u_ROUND_DAYS)) (r_ROUND_DAYS : RelV (.int 146097) u_ROUND_DAYS)
  (x_ROUND_YEARS : PySem.W.nsIn K mainGlobals "ROUND_YEARS" = some (some u_ROUND_YEARS)) (r_ROUND_YEARS : RelV (.int 400) u_ROUND_YEARS)
  (x_LAST_YEAR : PySem.W.nsIn K mainGlobals "LAST_YEAR" = some (some u_LAST_YEAR)) (r_LAST_YEAR : RelV (.int 9999) u_LAST_YEAR)
  (x_FIGURES : PySem.W.nsIn K mainGlobals "FIGURES" = some (some u_FIGURES)) (r_FIGURES : RelV (.str "0123456789") u_FIGURES)
  (x_NoText : PySem.W.nsIn K mainGlobals "NoText" = some (some (.ref u_NoText)))
  (x_LONGEST_NAME : PySem.W.nsIn K mainGlobals "LONGEST_NAME" = some (some u_LONGEST_NAME)) (r_LONGEST_NAME : RelV (.int 8) u_LONGEST_NAME)
  (x_LETTERS : PySem.W.nsIn K mainGlobals "LETTERS" = some (some u_LETTERS)) (r_LETTERS : RelV (.str "abcdefghijklmnopqrstuvwxyz") u_LETTERS)
  (x_MOST_MANY : PySem.W.nsIn K mainGlobals "MOST_MANY" = some (some u_MOST_MANY)) (r_MOST_MANY : RelV (.int 999) u_MOST_MANY)
  (x_UNITS : PySem.W.nsIn K mainGlobals "UNITS" = some (some (.ref A_UNITS))) (y_UNITS : K.lookup A_UNITS = some ⟨.type "tuple", dd_UNITS, .seq its_UNITS n_UNITS, sl_UNITS⟩) (z_UNITS : Vals [V.str "days", V.str "months", V.str "years"] its_UNITS.toList) (w_UNITS : its_UNITS.size ≤ sizeLine)
  (x_MOST_MAKERS : PySem.W.nsIn K mainGlobals "MOST_MAKERS" = some (some u_MOST_MAKERS)) (r_MOST_MAKERS : RelV (.int 4) u_MOST_MAKERS)
  (x_MANY_FIGURES : PySem.W.nsIn K mainGlobals "MANY_FIGURES" = some (some u_MANY_FIGURES)) (r_MANY_FIGURES : RelV (.int 3) u_MANY_FIGURES)
  (n_all : PySem.W.nsIn K mainGlobals "all" = some none)
  (n_bool : PySem.W.nsIn K mainGlobals "bool" = some none)
  (n_divmod : PySem.W.nsIn K mainGlobals "divmod" = some none)
  (n_int : PySem.W.nsIn K mainGlobals "int" = some none)
  (n_isinstance : PySem.W.nsIn K mainGlobals "isinstance" = some none)
  (n_len : PySem.W.nsIn K mainGlobals "len" = some none)
  (n_list : PySem.W.nsIn K mainGlobals "list" = some none)
  (n_max : PySem.W.nsIn K mainGlobals "max" = some none)
  (n_min : PySem.W.nsIn K mainGlobals "min" = some none)
  (n_range : PySem.W.nsIn K mainGlobals "range" = some none)
  (n_sorted : PySem.W.nsIn K mainGlobals "sorted" = some none)
  (n_str : PySem.W.nsIn K mainGlobals "str" = some none)
  (n_sum : PySem.W.nsIn K mainGlobals "sum" = some none)
  (n_tuple : PySem.W.nsIn K mainGlobals "tuple" = some none)
  (n_zip : PySem.W.nsIn K mainGlobals "zip" = some none) : ∃ t : Adr, Txt K mg t := by
 have F0 := fun_mk (st := s_x0) l0 c0 k0
 have F1 := fun_mk (st := s_x1) l1 c1 k1
 have F2 := fun_mk (st := s_x2) l2 c2 k2
 have F3 := fun_mk (st := s_x3) l3 c3 k3
 have F4 := fun_mk (st := s_x4) l4 c4 k4
 have F5 := fun_mk (st := s_x5) l5 c5 k5
 have F6 := fun_mk (st := s_x6) l6 c6 k6
 have F7 := fun_mk (st := s_x7) l7 c7 k7
 have F8 := fun_mk (st := s_x8) l8 c8 k8
 have F9 := fun_mk (st := s_x9) l9 c9 k9
 have F10 := fun_mk (st := s_x10) l10 c10 k10
 have F11 := fun_mk (st := s_x11) l11 c11 k11
 have F12 := fun_mk (st := s_x12) l12 c12 k12
 have F13 := fun_mk (st := s_x13) l13 c13 k13
 have F14 := fun_mk (st := s_x14) l14 c14 k14
 have F15 := fun_mk (st := s_x15) l15 c15 k15
 have F16 := fun_mk (st := s_x16) l16 c16 k16
 have F17 := fun_mk (st := s_x17) l17 c17 k17
 have F18 := fun_mk (st := s_x18) l18 c18 k18
 have F19 := fun_mk (st := s_x19) l19 c19 k19
 have F20 := fun_mk (st := s_x20) l20 c20 k20
 have F21 := fun_mk (st := s_x21) l21 c21 k21
 have F22 := fun_mk (st := s_x22) l22 c22 k22
 have F23 := fun_mk (st := s_x23) l23 c23 k23
 have F24 := fun_mk (st := s_x24) l24 c24 k24
 have F25 := fun_mk (st := s_x25) l25 c25 k25
 have F26 := fun_mk (st := s_x26) l26 c26 k26
 have F27 := fun_mk (st := s_x27) l27 c27 k27
 have F28 := fun_mk (st := s_x28) l28 c28 k28
 have F29 := fun_mk (st := s_x29) l29 c29 k29
 have F30 := fun_mk (st := s_x30) l30 c30 k30
 have F31 := fun_mk (st := s_x31) l31 c31 k31
 have F32 := fun_mk (st := s_x32) l32 c32 k32
 have F33 := fun_mk (st := s_x33) l33 c33 k33
 have F34 := fun_mk (st := s_x34) l34 c34 k34
 have F35 := fun_mk (st := s_x35) l35 c35 k35
 have F36 := fun_mk (st := s_x36) l36 c36 k36
 have F37 := fun_mk (st := s_x37) l37 c37 k37
 have F38 := fun_mk (st := s_x38) l38 c38 k38
 have F39 := fun_mk (st := s_x39) l39 c39 k39
 have F40 := fun_mk (st := s_x40) l40 c40 k40
 have F41 := fun_mk (st := s_x41) l41 c41 k41
 have F42 := fun_mk (st := s_x42) l42 c42 k42
 have F43 := fun_mk (st := s_x43) l43 c43 k43
 refine ⟨⟨f0, PySem.W.fnOf "is_whole" "is_whole" (defArgs s_x0) (defBody s_x0) (defScope s_x0) .none kV0 dc0 pm0 an0 cd0 ct0, f1, PySem.W.fnOf "is_day" "is_day" (defArgs s_x1) (defBody s_x1) (defScope s_x1) .none kV1 dc1 pm1 an1 cd1 ct1, f2, PySem.W.fnOf "is_leap" "is_leap" (defArgs s_x2) (defBody s_x2) (defScope s_x2) .none kV2 dc2 pm2 an2 cd2 ct2, f3, PySem.W.fnOf "month_length" "month_length" (defArgs s_x3) (defBody s_x3) (defScope s_x3) .none kV3 dc3 pm3 an3 cd3 ct3, f4, PySem.W.fnOf "leaps_before" "leaps_before" (defArgs s_x4) (defBody s_x4) (defScope s_x4) .none kV4 dc4 pm4 an4 cd4 ct4, f5, PySem.W.fnOf "year_start" "year_start" (defArgs s_x5) (defBody s_x5) (defScope s_x5) .none kV5 dc5 pm5 an5 cd5 ct5, f6, PySem.W.fnOf "year_of" "year_of" (defArgs s_x6) (defBody s_x6) (defScope s_x6) .none kV6 dc6 pm6 an6 cd6 ct6, f7, PySem.W.fnOf "parts_of" "parts_of" (defArgs s_x7) (defBody s_x7) (defScope s_x7) .none kV7 dc7 pm7 an7 cd7 ct7, f8, PySem.W.fnOf "number_of" "number_of" (defArgs s_x8) (defBody s_x8) (defScope s_x8) .none kV8 dc8 pm8 an8 cd8 ct8, f9, PySem.W.fnOf "is_date" "is_date" (defArgs s_x9) (defBody s_x9) (defScope s_x9) .none kV9 dc9 pm9 an9 cd9 ct9, f10, PySem.W.fnOf "show_day" "show_day" (defArgs s_x10) (defBody s_x10) (defScope s_x10) .none kV10 dc10 pm10 an10 cd10 ct10, f11, PySem.W.fnOf "is_figures" "is_figures" (defArgs s_x11) (defBody s_x11) (defScope s_x11) .none kV11 dc11 pm11 an11 cd11 ct11, f12, PySem.W.fnOf "read_day" "read_day" (defArgs s_x12) (defBody s_x12) (defScope s_x12) .none kV12 dc12 pm12 an12 cd12 ct12, f13, PySem.W.fnOf "is_tuple_of" "is_tuple_of" (defArgs s_x13) (defBody s_x13) (defScope s_x13) .none kV13 dc13 pm13 an13 cd13 ct13, f14, PySem.W.fnOf "is_name" "is_name" (defArgs s_x14) (defBody s_x14) (defScope s_x14) .none kV14 dc14 pm14 an14 cd14 ct14, f15, PySem.W.fnOf "is_since" "is_since" (defArgs s_x15) (defBody s_x15) (defScope s_x15) .none kV15 dc15 pm15 an15 cd15 ct15, f16, PySem.W.fnOf "is_span" "is_span" (defArgs s_x16) (defBody s_x16) (defScope s_x16) .none kV16 dc16 pm16 an16 cd16 ct16, f17, PySem.W.fnOf "is_rule" "is_rule" (defArgs s_x17) (defBody s_x17) (defScope s_x17) .none kV17 dc17 pm17 an17 cd17 ct17, f18, PySem.W.fnOf "is_makers" "is_makers" (defArgs s_x18) (defBody s_x18) (defScope s_x18) .none kV18 dc18 pm18 an18 cd18 ct18, f19, PySem.W.fnOf "is_target" "is_target" (defArgs s_x19) (defBody s_x19) (defScope s_x19) .none kV19 dc19 pm19 an19 cd19 ct19, f20, PySem.W.fnOf "are_parts" "are_parts" (defArgs s_x20) (defBody s_x20) (defScope s_x20) .none kV20 dc20 pm20 an20 cd20 ct20, f21, PySem.W.fnOf "is_deed" "is_deed" (defArgs s_x21) (defBody s_x21) (defScope s_x21) .none kV21 dc21 pm21 an21 cd21 ct21, f22, PySem.W.fnOf "rule_words" "rule_words" (defArgs s_x22) (defBody s_x22) (defScope s_x22) .none kV22 dc22 pm22 an22 cd22 ct22, f23, PySem.W.fnOf "part_words" "part_words" (defArgs s_x23) (defBody s_x23) (defScope s_x23) .none kV23 dc23 pm23 an23 cd23 ct23, f24, PySem.W.fnOf "show_deed" "show_deed" (defArgs s_x24) (defBody s_x24) (defScope s_x24) .none kV24 dc24 pm24 an24 cd24 ct24, f25, PySem.W.fnOf "number_in" "number_in" (defArgs s_x25) (defBody s_x25) (defScope s_x25) .none kV25 dc25 pm25 an25 cd25 ct25, f26, PySem.W.fnOf "day_in" "day_in" (defArgs s_x26) (defBody s_x26) (defScope s_x26) .none kV26 dc26 pm26 an26 cd26 ct26, f27, PySem.W.fnOf "rule_in" "rule_in" (defArgs s_x27) (defBody s_x27) (defScope s_x27) .none kV27 dc27 pm27 an27 cd27 ct27, f28, PySem.W.fnOf "parts_in" "parts_in" (defArgs s_x28) (defBody s_x28) (defScope s_x28) .none kV28 dc28 pm28 an28 cd28 ct28, f29, PySem.W.fnOf "deed_in" "deed_in" (defArgs s_x29) (defBody s_x29) (defScope s_x29) .none kV29 dc29 pm29 an29 cd29 ct29, f30, PySem.W.fnOf "read_deed" "read_deed" (defArgs s_x30) (defBody s_x30) (defScope s_x30) .none kV30 dc30 pm30 an30 cd30 ct30, f31, PySem.W.fnOf "_law_mixed" "_law_mixed" (defArgs s_x31) (defBody s_x31) (defScope s_x31) .none kV31 dc31 pm31 an31 cd31 ct31, f32, PySem.W.fnOf "_law_pack" "_law_pack" (defArgs s_x32) (defBody s_x32) (defScope s_x32) .none kV32 dc32 pm32 an32 cd32 ct32, f33, PySem.W.fnOf "_law_take" "_law_take" (defArgs s_x33) (defBody s_x33) (defScope s_x33) .none kV33 dc33 pm33 an33 cd33 ct33, f34, PySem.W.fnOf "_law_names" "_law_names" (defArgs s_x34) (defBody s_x34) (defScope s_x34) .none kV34 dc34 pm34 an34 cd34 ct34, f35, PySem.W.fnOf "_law_rule" "_law_rule" (defArgs s_x35) (defBody s_x35) (defScope s_x35) .none kV35 dc35 pm35 an35 cd35 ct35, f36, PySem.W.fnOf "_law_length" "_law_length" (defArgs s_x36) (defBody s_x36) (defScope s_x36) .none kV36 dc36 pm36 an36 cd36 ct36, f37, PySem.W.fnOf "_law_ahead" "_law_ahead" (defArgs s_x37) (defBody s_x37) (defScope s_x37) .none kV37 dc37 pm37 an37 cd37 ct37, f38, PySem.W.fnOf "_law_day_text" "_law_day_text" (defArgs s_x38) (defBody s_x38) (defScope s_x38) .none kV38 dc38 pm38 an38 cd38 ct38, f39, PySem.W.fnOf "_law_any_day" "_law_any_day" (defArgs s_x39) (defBody s_x39) (defScope s_x39) .none kV39 dc39 pm39 an39 cd39 ct39, f40, PySem.W.fnOf "_law_drawn" "_law_drawn" (defArgs s_x40) (defBody s_x40) (defScope s_x40) .none kV40 dc40 pm40 an40 cd40 ct40, f41, PySem.W.fnOf "_law_written" "_law_written" (defArgs s_x41) (defBody s_x41) (defScope s_x41) .none kV41 dc41 pm41 an41 cd41 ct41, f42, PySem.W.fnOf "_law_same" "_law_same" (defArgs s_x42) (defBody s_x42) (defScope s_x42) .none kV42 dc42 pm42 an42 cd42 ct42, f43, PySem.W.fnOf "law" "law" (defArgs s_x43) (defBody s_x43) (defScope s_x43) .none kV43 dc43 pm43 an43 cd43 ct43, u_LAST_WRITTEN, .ref A_MONTH_DAYS, u_FIRST_YEAR, u_ROUND_DAYS, u_ROUND_YEARS, u_LAST_YEAR, u_FIGURES, u_NoText, u_LONGEST_NAME, u_LETTERS, u_MOST_MANY, .ref A_UNITS, u_MOST_MAKERS, u_MANY_FIGURES⟩, ?_⟩
 exact ⟨(F0),
  (PySem.W.mg_of X G a0),
  (F0.binds (ps := ["thing"]) fun _ _ _ _ _ _ us hl => match us, hl with | [_], _ => rfl),
  (F1),
  (PySem.W.mg_of X G a1),
  (F1.binds (ps := ["thing"]) fun _ _ _ _ _ _ us hl => match us, hl with | [_], _ => rfl),
  (F2),
  (PySem.W.mg_of X G a2),
  (F2.binds (ps := ["year"]) fun _ _ _ _ _ _ us hl => match us, hl with | [_], _ => rfl),
  (F3),
  (PySem.W.mg_of X G a3),
  (F3.binds (ps := ["year", "month"]) fun _ _ _ _ _ _ us hl => match us, hl with | [_, _], _ => rfl),
  (F4),
  (PySem.W.mg_of X G a4),
  (F4.binds (ps := ["year"]) fun _ _ _ _ _ _ us hl => match us, hl with | [_], _ => rfl),
  (F5),
  (PySem.W.mg_of X G a5),
  (F5.binds (ps := ["year"]) fun _ _ _ _ _ _ us hl => match us, hl with | [_], _ => rfl),
  (F6),
  (PySem.W.mg_of X G a6),
  (F6.binds (ps := ["day"]) fun _ _ _ _ _ _ us hl => match us, hl with | [_], _ => rfl),
  (F7),
  (PySem.W.mg_of X G a7),
  (F7.binds (ps := ["day"]) fun _ _ _ _ _ _ us hl => match us, hl with | [_], _ => rfl),
  (F8),
  (PySem.W.mg_of X G a8),
  (F8.binds (ps := ["year", "month", "day"]) fun _ _ _ _ _ _ us hl => match us, hl with | [_, _, _], _ => rfl),
  (F9),
  (PySem.W.mg_of X G a9),
  (F9.binds (ps := ["year", "month", "day"]) fun _ _ _ _ _ _ us hl => match us, hl with | [_, _, _], _ => rfl),
  (F10),
  (PySem.W.mg_of X G a10),
  (F10.binds (ps := ["day"]) fun _ _ _ _ _ _ us hl => match us, hl with | [_], _ => rfl),
  (F11),
  (PySem.W.mg_of X G a11),
  (F11.binds (ps := ["text", "length"]) fun _ _ _ _ _ _ us hl => match us, hl with | [_, _], _ => rfl),
  (F12),
  (PySem.W.mg_of X G a12),
  (F12.binds (ps := ["text"]) fun _ _ _ _ _ _ us hl => match us, hl with | [_], _ => rfl),
  (F13),
  (PySem.W.mg_of X G a13),
  (F13.binds (ps := ["thing", "length"]) fun _ _ _ _ _ _ us hl => match us, hl with | [_, _], _ => rfl),
  (F14),
  (PySem.W.mg_of X G a14),
  (F14.binds (ps := ["thing"]) fun _ _ _ _ _ _ us hl => match us, hl with | [_], _ => rfl),
  (F15),
  (PySem.W.mg_of X G a15),
  (F15.binds (ps := ["thing"]) fun _ _ _ _ _ _ us hl => match us, hl with | [_], _ => rfl),
  (F16),
  (PySem.W.mg_of X G a16),
  (F16.binds (ps := ["many", "unit"]) fun _ _ _ _ _ _ us hl => match us, hl with | [_, _], _ => rfl),
  (F17),
  (PySem.W.mg_of X G a17),
  (F17.binds (ps := ["thing"]) fun _ _ _ _ _ _ us hl => match us, hl with | [_], _ => rfl),
  (F18),
  (PySem.W.mg_of X G a18),
  (F18.binds (ps := ["thing"]) fun _ _ _ _ _ _ us hl => match us, hl with | [_], _ => rfl),
  (F19),
  (PySem.W.mg_of X G a19),
  (F19.binds (ps := ["thing"]) fun _ _ _ _ _ _ us hl => match us, hl with | [_], _ => rfl),
  (F20),
  (PySem.W.mg_of X G a20),
  (F20.binds (ps := ["word", "parts"]) fun _ _ _ _ _ _ us hl => match us, hl with | [_, _], _ => rfl),
  (F21),
  (PySem.W.mg_of X G a21),
  (F21.binds (ps := ["thing"]) fun _ _ _ _ _ _ us hl => match us, hl with | [_], _ => rfl),
  (F22),
  (PySem.W.mg_of X G a22),
  (F22.binds (ps := ["parts"]) fun _ _ _ _ _ _ us hl => match us, hl with | [_], _ => rfl),
  (F23),
  (PySem.W.mg_of X G a23),
  (F23.binds (ps := ["word", "parts"]) fun _ _ _ _ _ _ us hl => match us, hl with | [_, _], _ => rfl),
  (F24),
  (PySem.W.mg_of X G a24),
  (F24.binds (ps := ["deed"]) fun _ _ _ _ _ _ us hl => match us, hl with | [_], _ => rfl),
  (F25),
  (PySem.W.mg_of X G a25),
  (F25.binds (ps := ["word", "figures"]) fun _ _ _ _ _ _ us hl => match us, hl with | [_, _], _ => rfl),
  (F26),
  (PySem.W.mg_of X G a26),
  (F26.binds (ps := ["word"]) fun _ _ _ _ _ _ us hl => match us, hl with | [_], _ => rfl),
  (F27),
  (PySem.W.mg_of X G a27),
  (F27.binds (ps := ["words"]) fun _ _ _ _ _ _ us hl => match us, hl with | [_], _ => rfl),
  (F28),
  (PySem.W.mg_of X G a28),
  (F28.binds (ps := ["word", "words"]) fun _ _ _ _ _ _ us hl => match us, hl with | [_, _], _ => rfl),
  (F29),
  (PySem.W.mg_of X G a29),
  (F29.binds (ps := ["row"]) fun _ _ _ _ _ _ us hl => match us, hl with | [_], _ => rfl),
  (F30),
  (PySem.W.mg_of X G a30),
  (F30.binds (ps := ["text"]) fun _ _ _ _ _ _ us hl => match us, hl with | [_], _ => rfl),
  (F31),
  (PySem.W.mg_of X G a31),
  (F31.binds (ps := ["_law_cell"]) fun _ _ _ _ _ _ us hl => match us, hl with | [_], _ => rfl),
  (F32),
  (PySem.W.mg_of X G a32),
  (F32.binds (ps := ["_law_script", "_law_k"]) fun _ _ _ _ _ _ us hl => match us, hl with | [_, _], _ => rfl),
  (F33),
  (PySem.W.mg_of X G a33),
  (F33.binds (ps := ["_law_pack_here", "_law_size"]) fun _ _ _ _ _ _ us hl => match us, hl with | [_, _], _ => rfl),
  (F34),
  (PySem.W.mg_of X G a34),
  (F34.binds (ps := ["_law_pack_here", "_law_many"]) fun _ _ _ _ _ _ us hl => match us, hl with | [_, _], _ => rfl),
  (F35),
  (PySem.W.mg_of X G a35),
  (F35.binds (ps := ["_law_pack_here", "_law_names_here"]) fun _ _ _ _ _ _ us hl => match us, hl with | [_, _], _ => rfl),
  (F36),
  (PySem.W.mg_of X G a36),
  (F36.binds (ps := ["_law_year", "_law_month"]) fun _ _ _ _ _ _ us hl => match us, hl with | [_, _], _ => rfl),
  (F37),
  (PySem.W.mg_of X G a37),
  (F37.binds (ps := ["_law_year"]) fun _ _ _ _ _ _ us hl => match us, hl with | [_], _ => rfl),
  (F38),
  (PySem.W.mg_of X G a38),
  (F38.binds (ps := ["_law_day"]) fun _ _ _ _ _ _ us hl => match us, hl with | [_], _ => rfl),
  (F39),
  (PySem.W.mg_of X G a39),
  (F39.binds (ps := ["_law_pack_here"]) fun _ _ _ _ _ _ us hl => match us, hl with | [_], _ => rfl),
  (F40),
  (PySem.W.mg_of X G a40),
  (F40.binds (ps := ["_law_pack_here", "_law_names_here"]) fun _ _ _ _ _ _ us hl => match us, hl with | [_, _], _ => rfl),
  (F41),
  (PySem.W.mg_of X G a41),
  (F41.binds (ps := ["_law_deed"]) fun _ _ _ _ _ _ us hl => match us, hl with | [_], _ => rfl),
  (F42),
  (PySem.W.mg_of X G a42),
  (F42.binds (ps := ["_law_found", "_law_due"]) fun _ _ _ _ _ _ us hl => match us, hl with | [_, _], _ => rfl),
  (F43),
  (PySem.W.mg_of X G a43),
  (F43.binds (ps := ["_law_script"]) fun _ _ _ _ _ _ us hl => match us, hl with | [_], _ => rfl),
  (fun s v => .of_eq rfl),
  (PySem.W.mg_of X G x_LAST_WRITTEN),
  (r_LAST_WRITTEN),
  (PySem.W.mg_of X G x_MONTH_DAYS),
  (⟨A_MONTH_DAYS, rfl, fun H => .inr ⟨_, _, _, y_MONTH_DAYS, rfl, rfl, w_MONTH_DAYS, z_MONTH_DAYS⟩⟩),
  (PySem.W.mg_of X G x_FIRST_YEAR),
  (r_FIRST_YEAR),
  (PySem.W.mg_of X G x_ROUND_DAYS),
  (r_ROUND_DAYS),
  (PySem.W.mg_of X G x_ROUND_YEARS),
  (r_ROUND_YEARS),
  (PySem.W.mg_of X G x_LAST_YEAR),
  (r_LAST_YEAR),
  (PySem.W.mg_of X G x_FIGURES),
  (r_FIGURES),
  (PySem.W.mg_of X G x_NoText),
  (PySem.W.mg_of X G x_LONGEST_NAME),
  (r_LONGEST_NAME),
  (PySem.W.mg_of X G x_LETTERS),
  (r_LETTERS),
  (PySem.W.mg_of X G x_MOST_MANY),
  (r_MOST_MANY),
  (PySem.W.mg_of X G x_UNITS),
  (⟨A_UNITS, rfl, fun H => .inr ⟨_, _, _, y_UNITS, rfl, rfl, w_UNITS, z_UNITS⟩⟩),
  (PySem.W.mg_of X G x_MOST_MAKERS),
  (r_MOST_MAKERS),
  (PySem.W.mg_of X G x_MANY_FIGURES),
  (r_MANY_FIGURES),
  (PySem.W.mg_none_of X G n_all),
  (PySem.W.mg_none_of X G n_bool),
  (PySem.W.mg_none_of X G n_divmod),
  (PySem.W.mg_none_of X G n_int),
  (PySem.W.mg_none_of X G n_isinstance),
  (PySem.W.mg_none_of X G n_len),
  (PySem.W.mg_none_of X G n_list),
  (PySem.W.mg_none_of X G n_max),
  (PySem.W.mg_none_of X G n_min),
  (PySem.W.mg_none_of X G n_range),
  (PySem.W.mg_none_of X G n_sorted),
  (PySem.W.mg_none_of X G n_str),
  (PySem.W.mg_none_of X G n_sum),
  (PySem.W.mg_none_of X G n_tuple),
  (PySem.W.mg_none_of X G n_zip)⟩
end K58

open PySem L2
local macro_rules | `(tactic| walk_at "o") => `(tactic| first | exact Or.inl rfl | exact Or.inr rfl)
local macro_rules | `(tactic| walk_at "rd") => `(tactic| simp only [tSeq, tNext, tIfS, tRet, tDrop, tAsg, gName, tVar, tC, tOp, rI, rI0, rEq, rNe, scal, tTest, tB, tAnd, tOr, tNot, tAndV, tOrV, tNotV, tIf, tCall, tCons, tNil, tCB, tTup, tLst, gTup, gCons, gNil, gSub, tPar, tFor_rng1, tFor_rng2, tFor_list, tFor_tup, tComp_rng1, tComp_rng2, tComp_list, tComp_tup, CDiv, CPow, CMul, L2.start, List.map_cons, List.map_nil, List.length_cons, List.length_nil, List.replicate, List.cons_append, List.nil_append, List.append_nil, Nat.reduceAdd, Nat.reduceSub, Nat.add_zero, Nat.zero_add, Nat.sub_self, List.getElem?_cons_zero, List.getElem?_cons_succ, List.set_cons_zero, List.set_cons_succ, Option.some.injEq, exists_eq_left', exists_eq_left, exists_and_left, exists_and_right, V.int.injEq, V.bl.injEq, V.str.injEq, V.ref.injEq, List.cons.injEq, and_true, true_and, Nat.reduceLT, exists_const, decide_eq_true_eq, Int.reduceLT, Int.reduceLE, Int.reduceNeg, Int.reducePow, Bool.not_eq_true', decide_eq_false_iff_not, and_assoc, st0, Option.join_some, List.getElem?_nil, Option.join_none, L2.cxK, L2.cmK, or_true, true_or])
namespace K58
open Day
theorem cs_x8_0 : CompScope (defScope s_x8) ["year", "month", "day", "before"] ["other", "year"] 1 [0] { kind := PySem.ScopeKind.function, names := [ (PySem.Str.ofString ".0", PySem.NameKind.local), (PySem.Str.ofString "other", PySem.NameKind.local), (PySem.Str.ofString "month_length", PySem.NameKind.globalImplicit), (PySem.Str.ofString "year", PySem.NameKind.free)], isGenerator := false, isCoroutine := false, more := [] : PySem.Scope } := ⟨rfl, by decide +kernel, by decide +kernel, by decide +kernel, rfl, by decide +kernel, by decide +kernel, by decide +kernel, rfl⟩
section
variable {P : Program} {w : World} {K : PySem.W.Frag} {mg : Str → Option Value} {base : Heap} {t : Adr}
def sp_leap : Sp := fun vs H Q _ => ∃ (y : Int), vs = [.int y] ∧ Q (.bl (leap y)) H
theorem ok_is_leap (T : Txt K mg t) : FnOk P w K mg base CX0 1 t.a_x2 t.d_x2 ["year"] sp_leap := by
 refine T.F_x2.ok sc_x2 (fun vs H Q E h => ?_) (fun cdv A outer s H vs Q E hr h => ?_)
 ·obtain ⟨y, rfl, _⟩ := h; rfl
 ·obtain ⟨y, rfl, k⟩ := h
  refine ⟨_, (pss_one (ps_ret (pe_or (pe_cmpR op_eq (pe_op op_mod (pv 0) pe_int) pe_int (nomark _)) (pe_one (pe_and (pe_cmpR op_eq (pe_op op_mod (pv 0) pe_int) pe_int (nomark _)) (pe_one (pe_cmpR op_ne (pe_op op_mod (pv 0) pe_int) pe_int (nomark _)))))))), ?_⟩
  walk_at "rd"
  have e : leap y = (decide (y % 400 = 0) || (decide (y % 4 = 0) && !decide (y % 100 = 0))) := rfl
  rw [e] at k
  by_cases h1 : y % 400 = 0
  ·simpa [h1] using k
  ·by_cases h2 : y % 4 = 0
   ·simpa [h1, h2] using k
   ·simpa [h1, h2] using k
def sp_mlen : Sp := fun vs H Q _ => ∃ (y m : Int), vs = [.int y, .int m] ∧ 1 ≤ m ∧ m ≤ 12 ∧ Q (.int (mlen y m)) H
theorem ok_month_length (T : Txt K mg t) : FnOk P w K mg base CX0 2 t.a_x3 t.d_x3 ["year", "month"] sp_mlen := by
 have G_x2 := ok_is_leap (P := P) (w := w) (base := base) T
 refine T.F_x3.ok sc_x3 (fun vs H Q E h => ?_) (fun cdv A outer s H vs Q E hr h => ?_)
 ·obtain ⟨y, m, rfl, _⟩ := h; rfl
 ·obtain ⟨y, m, rfl, h1, h2, k⟩ := h
  obtain ⟨a, ea, hM⟩ := T.e_MONTH_DAYS
  have T_r : RelV (.ref a) t.u_MONTH_DAYS := ea
  refine ⟨_, (pss_cons (ps_if (PW.pt (pw_and (pt_cmpR op_eq (pv 1) pe_int (nomark _)) (pw_and1 (pt_val (pe_call G_x2 (hr.mono (by decide)) rfl T.m_x2 T.F_x2.kp T.b_x2 .nil pass0 (pa_cons (pv 0) pa_nil)))))) (pss_one (ps_ret pe_int)) pss_nil)
   (pss_one (ps_ret (pe_ix ix_tup (pe_glob rfl T.c_MONTH_DAYS T_r) (pe_op op_sub (pv 1) pe_int) (fun _ _ => rfl))))), ?_⟩
  walk_at "rd"
  simp only [sp_leap]
  walk_at "rd"
  have fin : ∀ {v : Int}, v = mlen y m → Q (.int v) H := fun e => by rw [e]; exact k
  have tail : mlen y m = mdays.getD (m - 1).toNat 0 → rIxT K (.ref a) (.int (m - 1)) H Q := fun e => by
   refine ⟨a, _, m - 1, .int (mlen y m), rfl, rfl, hM H, ?_, k⟩
   rw [e]
   rcases twelve h1 h2 with z | z | z | z | z | z | z | z | z | z | z | z <;> subst z <;> rfl
  by_cases hm : m = 2
  ·rw [if_pos hm]
   by_cases hl : leap y = true
   ·rw [if_pos hl]
    exact fin (by unfold mlen; rw [if_pos ⟨hm, hl⟩])
   ·rw [if_neg hl]
    exact tail (by unfold mlen; rw [if_neg (fun z => hl z.2)])
  ·rw [if_neg hm]
   exact tail (mlen_ne hm)
def sp_lb : Sp := fun vs H Q _ => ∃ (y : Int), vs = [.int y] ∧ Q (.int (lb y)) H
theorem ok_leaps_before (T : Txt K mg t) : FnOk P w K mg base CX0 1 t.a_x4 t.d_x4 ["year"] sp_lb := by
 refine T.F_x4.ok sc_x4 (fun vs H Q E h => ?_) (fun cdv A outer s H vs Q E hr h => ?_)
 ·obtain ⟨y, rfl, _⟩ := h; rfl
 ·obtain ⟨y, rfl, k⟩ := h
  refine ⟨_, (pss_cons (ps_set (i := 1) sc_x4.nd rfl (by walk_at "o") (pe_op op_sub (pv 0) pe_int))
   (pss_one (ps_ret (pe_op op_add (pe_op op_sub (pe_op op_fdiv (pv 1) pe_int) (pe_op op_fdiv (pv 1) pe_int)) (pe_op op_fdiv (pv 1) pe_int))))), ?_⟩
  walk_at "rd"
  exact k
def sp_ys : Sp := fun vs H Q _ => ∃ (y : Int), vs = [.int y] ∧ Q (.int (ystart y)) H
theorem ok_year_start (T : Txt K mg t) : FnOk P w K mg base CX0 2 t.a_x5 t.d_x5 ["year"] sp_ys := by
 have G_x4 := ok_leaps_before (P := P) (w := w) (base := base) T
 refine T.F_x5.ok sc_x5 (fun vs H Q E h => ?_) (fun cdv A outer s H vs Q E hr h => ?_)
 ·obtain ⟨y, rfl, _⟩ := h; rfl
 ·obtain ⟨y, rfl, k⟩ := h
  refine ⟨_, (pss_one (ps_ret (pe_op op_sub (pe_op op_add (pe_op op_mul pe_int (pe_op op_sub (pv 0) (pe_glob rfl T.c_FIRST_YEAR T.r_FIRST_YEAR))) (pe_call G_x4 (hr.mono (by decide)) rfl T.m_x4 T.F_x4.kp T.b_x4 .nil pass0 (pa_cons (pv 0) pa_nil))) (pe_call G_x4 (hr.mono (by decide)) rfl T.m_x4 T.F_x4.kp T.b_x4 .nil pass0 (pa_cons (pe_glob rfl T.c_FIRST_YEAR T.r_FIRST_YEAR) pa_nil))))), ?_⟩
  walk_at "rd"
  simp only [sp_lb]
  walk_at "rd"
  exact k
def sp_yof : Sp := fun vs H Q _ => ∃ (d : Int), vs = [.int d] ∧ Q (.int (yearOf d)) H
theorem ok_year_of (T : Txt K mg t) : FnOk P w K mg base CX0 3 t.a_x6 t.d_x6 ["day"] sp_yof := by
 have G_x5 := ok_year_start (P := P) (w := w) (base := base) T
 refine T.F_x6.ok sc_x6 (fun vs H Q E h => ?_) (fun cdv A outer s H vs Q E hr h => ?_)
 ·obtain ⟨d, rfl, _⟩ := h; rfl
 ·obtain ⟨d, rfl, k⟩ := h
  refine ⟨_, (pss_cons (ps_set (i := 1) sc_x6.nd rfl (by walk_at "o") (pe_op op_add (pe_glob rfl T.c_FIRST_YEAR T.r_FIRST_YEAR) (pe_op op_fdiv (pe_op op_mul (pv 0) (pe_glob rfl T.c_ROUND_YEARS T.r_ROUND_YEARS)) (pe_glob rfl T.c_ROUND_DAYS T.r_ROUND_DAYS))))
   (pss_cons (ps_if (pt_cmpR op_gt (pe_call G_x5 (hr.mono (by decide)) rfl T.m_x5 T.F_x5.kp T.b_x5 .nil pass0 (pa_cons (pv 1) pa_nil)) (pv 0) (nomark _)) (pss_one (ps_ret (pe_op op_sub (pv 1) pe_int))) pss_nil)
   (pss_cons (ps_if (pt_cmpR op_le (pe_call G_x5 (hr.mono (by decide)) rfl T.m_x5 T.F_x5.kp T.b_x5 .nil pass0 (pa_cons (pe_op op_add (pv 1) pe_int) pa_nil)) (pv 0) (nomark _)) (pss_one (ps_ret (pe_op op_add (pv 1) pe_int))) pss_nil)
   (pss_one (ps_ret (pv 1)))))), ?_⟩
  walk_at "rd"
  simp only [sp_ys]
  walk_at "rd"
  unfold yearOf at k
  split
  ·rename_i h; rw [if_pos h] at k; exact k
  ·rename_i h; rw [if_neg h] at k
   split
   ·rename_i h; rw [if_pos h] at k; exact k
   ·rename_i h; rw [if_neg h] at k; exact k
def sp_parts : Sp := fun vs H Q _ => ∃ (d : Int), vs = [.int d] ∧ ∀ (p : Addr) (H' : Hp) (y m n : Int), DateOf d y m n → Same H H' → H p = none → H' p = some (.tup [.int y, .int m, .int n]) → Q (.ref p) H'
theorem ok_parts_of (T : Txt K mg t) : FnOk P w K mg base CX0 4 t.a_x7 t.d_x7 ["day"] sp_parts := by
 have G_x6 := ok_year_of (P := P) (w := w) (base := base) T
 have G_x5 := ok_year_start (P := P) (w := w) (base := base) T
 have G_x3 := ok_month_length (P := P) (w := w) (base := base) T
 refine T.F_x7.ok sc_x7 (fun vs H Q E h => ?_) (fun cdv A outer s H vs Q E hr h => ?_)
 ·obtain ⟨d, rfl, _⟩ := h; rfl
 ·obtain ⟨d, rfl, k⟩ := h
  refine ⟨_, (pss_cons (ps_set (i := 1) sc_x7.nd rfl (by walk_at "o") (pe_call G_x6 (hr.mono (by decide)) rfl T.m_x6 T.F_x6.kp T.b_x6 .nil pass0 (pa_cons (pv 0) pa_nil)))
   (pss_cons (ps_set (i := 2) sc_x7.nd rfl (by walk_at "o") (pe_op op_sub (pv 0) (pe_call G_x5 (hr.mono (by decide)) rfl T.m_x5 T.F_x5.kp T.b_x5 .nil pass0 (pa_cons (pv 1) pa_nil))))
   (pss_cons (ps_set (i := 3) sc_x7.nd rfl (by walk_at "o") pe_int)
   (pss_cons (ps_while PassesOwn.never (pt_cmpR op_ge (pv 2) (pe_call G_x3 (hr.mono (by decide)) rfl T.m_x3 T.F_x3.kp T.b_x3 .nil pass0 (pa_cons (pv 1) (pa_cons (pv 3) pa_nil))) (nomark _)) (pss_cons (ps_set (i := 2) sc_x7.nd rfl (by walk_at "o") (pe_op op_sub (pv 2) (pe_call G_x3 (hr.mono (by decide)) rfl T.m_x3 T.F_x3.kp T.b_x3 .nil pass0 (pa_cons (pv 1) (pa_cons (pv 3) pa_nil)))))
   (pss_one (ps_set (i := 3) sc_x7.nd rfl (by walk_at "o") (pe_op op_add (pv 3) pe_int)))))
   (pss_one (ps_ret (pe_tup (pa_cons (pv 1) (pa_cons (pv 3) (pa_cons (pe_op op_add (pv 2) pe_int) pa_nil)))))))))), ?_⟩
  walk_at "rd"
  simp only [sp_yof]
  walk_at "rd"
  simp only [sp_ys]
  walk_at "rd"
  have yo := yearOf_ok d
  generalize yearOf d = y at *
  refine ⟨fun m σ H' => H' = H ∧ ∃ mo : Int, 1 ≤ mo ∧ mo ≤ 12 ∧ bef y mo ≤ d - ystart y ∧ m = (12 - mo).toNat ∧ σ = [some (.int d), some (.int y), some (.int (d - ystart y - bef y mo)), some (.int mo)], ⟨11, rfl, 1, by decide, by decide, ?_, rfl, ?_⟩, ?_⟩
  ·rw [bef_1]; omega
  ·rw [bef_1]; simp
  ·rintro m σ H' ⟨rfl, mo, h1, h2, hb, rfl, rfl⟩
   walk_at "rd"
   simp only [sp_mlen]
   walk_at "rd"
   refine ⟨h1, h2, ?_⟩
   have ys := ystart_succ y
   have ba := bef_bd (y := y) h1 h2
   split
   ·rename_i hge
    have lt12 : mo < 12 := by
     by_cases z : mo < 12
     ·exact z
     ·have e : mo = 12 := by omega
      subst e
      have := (bef_all y); have := mlen_all y; omega
    refine ⟨_, fun _ _ h => h, h1, h2, (12 - (mo + 1)).toNat, by omega, rfl, mo + 1, by omega, by omega, ?_, rfl, ?_⟩
    ·rw [bef_succ h1]; omega
    ·rw [bef_succ h1, show d - ystart y - (bef y mo + mlen y mo) = d - ystart y - bef y mo - mlen y mo by omega]
   ·rename_i hlt
    refine ⟨by show 3 ≤ sizeLine; decide, fun p hp => ?_⟩
    refine k p _ y mo (d - ystart y - bef y mo + 1) ⟨h1, h2, by omega, by omega, by unfold num; omega⟩ (Same.new hp) hp upd_same
def sp_num : Sp := fun vs H Q _ => ∃ (y m n : Int), vs = [.int y, .int m, .int n] ∧ 1 ≤ m ∧ m ≤ 12 ∧ ∀ H', Same H H' → Q (.int (num y m n)) H'
theorem ok_number_of (T : Txt K mg t) : FnOk P w K mg base CX0 3 t.a_x8 t.d_x8 ["year", "month", "day"] sp_num := by
 have G_x5 := ok_year_start (P := P) (w := w) (base := base) T
 have G_x3 := ok_month_length (P := P) (w := w) (base := base) T
 refine T.F_x8.ok sc_x8 (fun vs H Q E h => ?_) (fun cdv A outer s H vs Q E hr h => ?_)
 ·obtain ⟨y, m, n, rfl, _⟩ := h; rfl
 ·obtain ⟨y, m, n, rfl, h1, h2, k⟩ := h
  refine ⟨_, (pss_cons (ps_set (i := 3) sc_x8.nd rfl (by walk_at "o") (pe_callB (call_sum rfl) rfl T.n_sum PyProof.Rows.boot_sum (pa_cons (pe_comp rfl cs_x8_0 (pi_range2 rfl T.n_range (pa_cons pe_int (pa_cons (pv 1) pa_nil))) (fun _ _ _ _ => (pg_name (i := 0) cs_x8_0.nd rfl (by walk_at "o"))) (fun _ _ _ _ => pf_nil) (fun _ _ _ _ => (pe_call G_x3 (hr.mono (by decide)) rfl T.m_x3 T.F_x3.kp T.b_x3 .nil pass0 (pa_cons (pv 1) (pa_cons (pv 0) pa_nil))))) pa_nil)))
   (pss_one (ps_ret (pe_op op_sub (pe_op op_add (pe_op op_add (pe_call G_x5 (hr.mono (by decide)) rfl T.m_x5 T.F_x5.kp T.b_x5 .nil pass0 (pa_cons (pv 0) pa_nil)) (pv 3)) (pv 2)) pe_int)))), ?_⟩
  walk_at "rd"
  refine ⟨by omega, by omega, ?_⟩
  refine comp_range (fun i => .int (mlen y (1 + (i : Int)))) (by omega) (fun i H' R hi s1 hR => ?_) (fun D H' hD s1 e1 => ?_)
  ·walk_at "rd"
   exact ⟨_, _, rfl, by omega, by omega, hR H' (Same.refl _)⟩
  ·refine ⟨D, rfl, (List.range (m - 1).toNat).map fun (i : Nat) => mlen y (1 + (i : Int)), SqL.of (by rw [e1, List.map_map]; rfl), ?_⟩
   simp only [sp_ys]
   walk_at "rd"
   exact k H' s1
def F_mlen : List PyData → (PyData → Prop) → Prop := fun ds Q => ∃ y m : Int, ds = [.int y, .int m] ∧ 1 ≤ m ∧ m ≤ 12 ∧ Q (.int (mlen y m))
theorem okd_mlen (T : Txt K mg t) : FnOk P w K mg base CX0 2 t.a_x3 t.d_x3 ["year", "month"] (spD K F_mlen) :=
 (ok_month_length T).imp fun vs H Q E ⟨O, ds, Qd, tr, hs, ⟨y, m, e, h1, h2, q⟩, k⟩ => by
  subst e
  cases hs with
  | cons a r => cases r with
   | cons b r => cases r; cases a; cases b; exact ⟨y, m, rfl, h1, h2, k _ _ H q (Same.refl _) (.int _)⟩
def F_pof : List PyData → (PyData → Prop) → Prop := fun ds Q => ∃ d : Int, ds = [.int d] ∧ ∀ y m n, DateOf d y m n → Q (.tuple [.int y, .int m, .int n])
theorem okd_parts (T : Txt K mg t) : FnOk P w K mg base CX0 4 t.a_x7 t.d_x7 ["day"] (spD K F_pof) :=
 (ok_parts_of T).imp fun vs H Q E ⟨O, ds, Qd, tr, hs, ⟨d, e, q⟩, k⟩ => by
  subst e
  cases hs with
  | cons a r => cases r; cases a; exact ⟨d, rfl, fun p H' y m n D s1 hp e1 => k _ _ H' (q y m n D) s1 (.tup (.inl e1) (fun z => tr p z hp) (.cons (.int _) (.cons (.int _) (.cons (.int _) .nil))))⟩
def F_num : List PyData → (PyData → Prop) → Prop := fun ds Q => ∃ y m n : Int, ds = [.int y, .int m, .int n] ∧ 1 ≤ m ∧ m ≤ 12 ∧ Q (.int (num y m n))
theorem okd_num (T : Txt K mg t) : FnOk P w K mg base CX0 3 t.a_x8 t.d_x8 ["year", "month", "day"] (spD K F_num) :=
 (ok_number_of T).imp fun vs H Q E ⟨O, ds, Qd, tr, hs, ⟨y, m, n, e, h1, h2, q⟩, k⟩ => by
  subst e
  cases hs with
  | cons a r => cases r with
   | cons b r => cases r with
    | cons c r => cases r; cases a; cases b; cases c; exact ⟨y, m, n, rfl, h1, h2, fun H' s1 => k _ _ H' q s1 (.int _)⟩
end
end K58

open PySem L2
local macro_rules | `(tactic| walk_at "rz") => `(tactic| ((try simp only [startD, List.map_cons, List.map_nil, List.length_cons, List.length_nil, Nat.reduceAdd, Nat.reduceSub, List.replicate, List.cons_append, List.nil_append]); simp only [↓lz_w, ↓lz_k0, ↓lz_kS, ↓lz_kE, ↓lz_kN, ↓lz_ks, ↓lz_ki, ↓lz_wN, ↓lz_v0, ↓lz_vS, ↓lz_vE, ↓lz_vN, ↓lz_o0, ↓lz_oS, ↓lz_oE, ↓lz_oN, ↓lz_b, ↓lz_i, ↓lz_s, ↓lz_t, ↓lz_l, ↓lz_ii, ↓lz_ss, ↓lz_tt, ↓lz_ll, ↓lz_cons, ↓lz_two, ↓lz_tt0, ↓lz_tt1, ↓lz_tt2, ↓lz_tt3, ↓lz_ll0, ↓lz_ll1, ↓lz_ll2, ↓lz_tix, ↓lz_lix, dSeq, dNext, dIfS, dRet, dRetO, dDrop, dSet, dNew, dApp, dAsg, dPar, dFrz, dVar, dOwn, dC, dOp, dI, dIC, dEq, dNe, dIn, dIxL, dIxT, dIxS, dAddS, dCatT, dCat, dL, dFin, dTup, dLst, dNil, dCons, dTest, dAnd, dOr, dNot, dAndV, dOrV, dNotV, dIf, dChain, dCall, dCallS, dCallN, wq_paper_happens, wq_paper_rule, wq_paper_end, wq_paper_hold, wq_paper_lift, wq_paper_leave, wq_happens_paper, wq_happens_rule, wq_happens_end, wq_happens_hold, wq_happens_lift, wq_happens_leave, wq_rule_paper, wq_rule_happens, wq_rule_end, wq_rule_hold, wq_rule_lift, wq_rule_leave, wq_end_paper, wq_end_happens, wq_end_rule, wq_end_hold, wq_end_lift, wq_end_leave, wq_hold_paper, wq_hold_happens, wq_hold_rule, wq_hold_end, wq_hold_lift, wq_hold_leave, wq_lift_paper, wq_lift_happens, wq_lift_rule, wq_lift_end, wq_lift_hold, wq_lift_leave, wq_leave_paper, wq_leave_happens, wq_leave_rule, wq_leave_end, wq_leave_hold, wq_leave_lift, dRep2, dSlL, dSlT, dSlS, dLits, dSel, dRev, dNoPart, dPart, dLen, dLenS, dTupOf, dAny, dTwo, dIsin, dJoin, dInt, dListOf, dYes, dComp, dCompT, dCompR, dFor, dForT, dForR, dForR2, dForI, dForTI, dForRI, dForR2I, dSlX, dDct0, dNeg, dUpper, dRevT, dRepT, cD_nm1, dInX, dLenT, dLtS, dInS, dEqZ, dInZ, dSortS, dCompSI, dCompR2I, dStrI, dIntT, dZfill, dSplit, dJs, dNever, dLtU, dNewK, dEmp, dPutK, dGetK, dGet1K, dInK, dSortK, dIsN, dNotN, dMulS, dIxSc, dSlSc, dAbs, dPar3, dExt, dMaxL, dForDK, dDisp, dPairs, dSortSet, dFrzK, dGetD, dSortPr, dSortKey, dLtP, dIndex, dListRg, dCompV, dCatX, dFld, dFldD, dForE, dDivmod, dSum, dMinL, dAnyI, dRepC, dSortSetN, dExtD, dJoinT, dRepV, dCompZ, take_iff, cD_1n, cD_2n, cD_3n, cD_4n, cD_n1, cD_n2, cD_n3, cD_n4, cD_13, ne_eq, thing_str, thing_int, thing_bool, thing_tup, thing_list, strsE1, strsE2, strsE3, dCompI, dCompTI, dCompRI, dgName, dgTup, dgCons, dgNil, forW, startD, dst0, CDiv, CPow, CMul, List.map_cons, List.map_nil, List.length_cons, List.length_nil, List.replicate, List.cons_append, List.nil_append, List.append_nil, Nat.reduceAdd, Nat.reduceSub, Nat.add_zero, Nat.zero_add, Nat.sub_self, List.getElem?_cons_zero, List.getElem?_cons_succ, List.getElem?_nil, List.set_cons_zero, List.set_cons_succ, Option.some.injEq, exists_eq_left', exists_eq_left, exists_and_left, exists_and_right, Option.join_some, Option.join_none, Sl.v.injEq, Sl.o.injEq, Sl.k.injEq, PyData.int.injEq, PyData.bool.injEq, PyData.str.injEq, PyData.tuple.injEq, PyData.list.injEq, List.cons.injEq, and_true, true_and, Nat.reduceLT, Nat.reduceLeDiff, exists_const, decide_eq_true_eq, Int.reduceLT, Int.reduceLE, Int.reduceNeg, Int.reducePow, Bool.not_eq_true', decide_eq_false_iff_not, and_assoc, or_true, true_or, ↓reduceIte, if_true, if_false, Bool.false_eq_true, Bool.true_eq_false, not_true_eq_false, not_false_eq_true, Bool.not_true, Bool.not_false, ite_true, ite_false, eq_self, exists_eq, reduceCtorEq, false_and, and_false, or_false, false_or, exists_false, Option.map_some, Option.map_none, scalD, List.all_cons, List.all_nil, List.any_cons, List.any_nil, Bool.and_true, Bool.or_false, Bool.true_and, Bool.false_or, atI_c0, atI_c1, atI_c2, atI_c3, atI_c4, eqv_str, eqv_int, eqv_bool, beq_self_eq_true, shp_int, shp_bl, shp_non, Shp, sizeLine_eq]))
namespace K58
open Day
theorem cs_x11_0 : CompScope (defScope s_x11) ["text", "length"] ["sign"] 1 [] { kind := PySem.ScopeKind.function, names := [ (PySem.Str.ofString ".0", PySem.NameKind.local), (PySem.Str.ofString "sign", PySem.NameKind.local), (PySem.Str.ofString "FIGURES", PySem.NameKind.globalImplicit)], isGenerator := false, isCoroutine := false, more := [] : PySem.Scope } := ⟨rfl, by decide +kernel, by decide +kernel, by decide +kernel, rfl, by decide +kernel, by decide +kernel, by decide +kernel, rfl⟩
section
variable {P : Program} {w : World} {K : PySem.W.Frag} {mg : Str → Option Value} {base : Heap} {t : Adr}
theorem mlen_iff {y m : Int} {Q : PyData → Prop} : F_mlen [.int y, .int m] Q ↔ 1 ≤ m ∧ m ≤ 12 ∧ Q (.int (mlen y m)) := ⟨fun ⟨_, _, e, h⟩ => by cases e; exact h, fun h => ⟨_, _, rfl, h⟩⟩
theorem parts_iff {d : Int} {Q : PyData → Prop} : F_pof [.int d] Q ↔ ∀ y m n, DateOf d y m n → Q (.tuple [.int y, .int m, .int n]) := ⟨fun ⟨_, e, h⟩ => by cases e; exact h, fun h => ⟨_, rfl, h⟩⟩
theorem num_iff {y m n : Int} {Q : PyData → Prop} : F_num [.int y, .int m, .int n] Q ↔ 1 ≤ m ∧ m ≤ 12 ∧ Q (.int (num y m n)) := ⟨fun ⟨_, _, _, e, h⟩ => by cases e; exact h, fun h => ⟨_, _, _, rfl, h⟩⟩
def F_whole : List PyData → (PyData → Prop) → Prop := fun ds Q => ∃ d, ds = [d] ∧ thg d = true ∧ Q (.bool (isWh d))
theorem ok_whole (T : Txt K mg t) : FnOk P w K mg base CX0 1 t.a_x0 t.d_x0 ["thing"] (spD K F_whole) := by
 refine T.F_x0.okD sc_x0 (fun ds Q h => ?_) (fun cdv A outer s H O ds Q E hr h => ?_)
 ·obtain ⟨d, rfl, _⟩ := h; rfl
 ·obtain ⟨d, rfl, hd, q⟩ := h
  refine ⟨_, (dss_one (ds_ret (de_and (de_isinC (K' := K) (T := "int") rfl rfl T.n_isinstance bt_isinstance (df (dv 0)) (pe_bltn (v := .ty "int") rfl T.n_int bt_int rfl)) (de_one (de_not (de_isinC (K' := K) (T := "bool") rfl rfl T.n_isinstance bt_isinstance (df (dv 0)) (pe_bltn (v := .ty "bool") rfl T.n_bool bt_bool rfl))))))), ?_⟩
  walk_at "rz"
  simp only [kit_int, kit_bool]
  walk_at "rz"
  refine ⟨thg_ne hd, ?_⟩
  cases d <;> simp [isIntB, isBoolB, isWh] at q ⊢ <;> exact q
theorem whole_iff {i : Int} {Q : PyData → Prop} : F_whole [.int i] Q ↔ Q (.bool true) := ⟨fun ⟨_, e, _, h⟩ => by cases e; exact h, fun h => ⟨_, rfl, rfl, h⟩⟩
def F_day : List PyData → (PyData → Prop) → Prop := fun ds Q => ∃ d, ds = [d] ∧ thg d = true ∧ Q (.bool (isDy d))
theorem ok_day (T : Txt K mg t) : FnOk P w K mg base CX0 2 t.a_x1 t.d_x1 ["thing"] (spD K F_day) := by
 have G_x0 := ok_whole (P := P) (w := w) (base := base) T
 refine T.F_x1.okD sc_x1 (fun ds Q h => ?_) (fun cdv A outer s H O ds Q E hr h => ?_)
 ·obtain ⟨d, rfl, _⟩ := h; rfl
 ·obtain ⟨d, rfl, hd, q⟩ := h
  refine ⟨_, (dss_one (ds_ret (de_and (PE.imp (pe_call G_x0 (hr.mono (by decide)) rfl T.m_x0 T.F_x0.kp T.b_x0 .nil pass0 (da_cons (dv 0) da_nil)) dcall) (de_one (de_chain op_le op_le od_bl od_bl (df de_int) (df (dv 0)) (df (dc (pe_glob rfl T.c_LAST_WRITTEN T.r_LAST_WRITTEN) (fun _ _ => .int _)))))))), ?_⟩
  walk_at "rz"
  refine ⟨d, rfl, hd, ?_⟩
  cases d with
  | int i =>
   walk_at "rz"
   simp only [isWh, isDy] at q ⊢
   by_cases h0 : 0 ≤ i
   ·rw [if_pos h0]; simpa [h0] using q
   ·rw [if_neg h0]; simpa [h0] using q
  | _ => exact ⟨_, rfl, by simpa [isWh, isDy] using q⟩
theorem day_iff {i : Int} {Q : PyData → Prop} : F_day [.int i] Q ↔ Q (.bool (isDy (.int i))) := ⟨fun ⟨_, e, _, h⟩ => by cases e; exact h, fun h => ⟨_, rfl, rfl, h⟩⟩
def Dat (y m n : Int) : Prop := 2000 ≤ y ∧ y ≤ 9999 ∧ 1 ≤ m ∧ m ≤ 12 ∧ 1 ≤ n ∧ n ≤ mlen y m
instance {y m n : Int} : Decidable (Dat y m n) := by unfold Dat; infer_instance
def F_isdate : List PyData → (PyData → Prop) → Prop := fun ds Q => ∃ y m n : Int, ds = [.int y, .int m, .int n] ∧ Q (.bool (decide (Dat y m n)))
theorem ok_isdate (T : Txt K mg t) : FnOk P w K mg base CX0 3 t.a_x9 t.d_x9 ["year", "month", "day"] (spD K F_isdate) := by
 have G_x0 := ok_whole (P := P) (w := w) (base := base) T
 have G_x3 := okd_mlen (P := P) (w := w) (base := base) T
 refine T.F_x9.okD sc_x9 (fun ds Q h => ?_) (fun cdv A outer s H O ds Q E hr h => ?_)
 ·obtain ⟨y, m, n, rfl, _⟩ := h; rfl
 ·obtain ⟨y, m, n, rfl, q⟩ := h
  refine' ⟨_, ?body, ?read⟩
  case body =>
   refine' dss_cons ?s1 ?r1
   case s1 =>
    refine' ds_if ?c2 ?a2 dss_nil
    case c2 => exact (dt_not (PW.pt (dw_and (dt_val (PE.imp (pe_call G_x0 (hr.mono (by decide)) rfl T.m_x0 T.F_x0.kp T.b_x0 .nil pass0 (da_cons (dv 0) da_nil)) dcall)) (dw_and (dt_val (PE.imp (pe_call G_x0 (hr.mono (by decide)) rfl T.m_x0 T.F_x0.kp T.b_x0 .nil pass0 (da_cons (dv 1) da_nil)) dcall)) (dw_and1 (dt_val (PE.imp (pe_call G_x0 (hr.mono (by decide)) rfl T.m_x0 T.F_x0.kp T.b_x0 .nil pass0 (da_cons (dv 2) da_nil)) dcall)))))))
    case a2 => refine' dss_one (ds_ret de_bl)
   case' r1 => refine' dss_cons ?s5 ?r5
   case s5 =>
    refine' ds_if ?c6 ?a6 dss_nil
    case c6 => exact (dt_not (PW.pt (dw_and (dt_chain op_le op_le od_bl od_bl (df (dc (pe_glob rfl T.c_FIRST_YEAR T.r_FIRST_YEAR) (fun _ _ => .int _))) (df (dv 0)) (df (dc (pe_glob rfl T.c_LAST_YEAR T.r_LAST_YEAR) (fun _ _ => .int _)))) (dw_and1 (dt_chain op_le op_le od_bl od_bl (df de_int) (df (dv 1)) (df de_int))))))
    case a6 => refine' dss_one (ds_ret de_bl)
   case' r5 => refine' dss_one ?s9
   case' s9 => refine' ds_ret ?e10
   case e10 => exact (de_chain op_le op_le od_bl od_bl (df de_int) (df (dv 2)) (df (PE.imp (pe_call G_x3 (hr.mono (by decide)) rfl T.m_x3 T.F_x3.kp T.b_x3 .nil pass0 (da_cons (dv 0) (da_cons (dv 1) da_nil))) dcall)))
  case read =>
  walk_at "rz"
  simp only [whole_iff, mlen_iff]
  walk_at "rz"
  have no : ¬ Dat y m n → Q (.bool false) := fun z => by rw [decide_eq_false z] at q; exact q
  split
  ·split
   ·split
    ·split
     ·exact no (by unfold Dat; omega)
     ·split
      ·refine ⟨by omega, by omega, ?_⟩
       rw [show decide (n ≤ mlen y m) = decide (Dat y m n) from decide_eq_decide.mpr (by unfold Dat; omega)]; exact q
      ·exact no (by unfold Dat; omega)
    ·exact no (by unfold Dat; omega)
   ·exact no (by unfold Dat; omega)
  ·exact no (by unfold Dat; omega)
theorem isdate_iff {y m n : Int} {Q : PyData → Prop} : F_isdate [.int y, .int m, .int n] Q ↔ Q (.bool (decide (Dat y m n))) := ⟨fun ⟨_, _, _, e, h⟩ => by cases e; exact h, fun h => ⟨_, _, _, rfl, h⟩⟩
theorem log_lt {i : Int} (h0 : 0 ≤ i) (h1 : i < 10000) : i.natAbs.log2 < 1920 := by
 by_cases z : i.natAbs = 0
 ·rw [z]; decide
 ·rw [Nat.log2_lt z]; exact Nat.lt_of_lt_of_le (show i.natAbs < 2 ^ 14 by omega) (Nat.pow_le_pow_right (by decide) (by decide))
theorem nat2 {m : Int} (h0 : 0 ≤ m) (h1 : m < 100) : (Txt.zfill (Str.ofString (toString m)) 2).length = 2 := by
 obtain ⟨m, rfl⟩ := Int.eq_ofNat_of_zero_le h0
 have e := zfill_d2 ⟨m, by omega⟩
 simp only at e
 rw [e]; rfl
theorem nat4 {m : Int} (h0 : 1000 ≤ m) (h1 : m < 10000) : (Str.ofString (toString m)).length = 4 := by
 obtain ⟨m, rfl⟩ := Int.eq_ofNat_of_zero_le (show 0 ≤ m by omega)
 rw [str_d4 (by omega) (by omega)]; rfl
theorem app_len (a b : Str) : (a ++ b).length = a.length + b.length := by
 show (a.cps ++ b.cps).size = a.cps.size + b.cps.size; exact Array.size_append
def F_show : List PyData → (PyData → Prop) → Prop := fun ds Q => ∃ d : Int, ds = [.int d] ∧ 0 ≤ d ∧ d < ystart 10000 ∧ ∀ y m n, DateOf d y m n → Q (.str (dtx y m n))
theorem ok_show (T : Txt K mg t) : FnOk P w K mg base CX0 5 t.a_x10 t.d_x10 ["day"] (spD K F_show) := by
 have G_x7 := okd_parts (P := P) (w := w) (base := base) T
 refine T.F_x10.okD sc_x10 (fun ds Q h => ?_) (fun cdv A outer s H O ds Q E hr h => ?_)
 ·obtain ⟨d, rfl, _⟩ := h; rfl
 ·obtain ⟨d, rfl, h0, h1, q⟩ := h
  refine' ⟨_, ?body, ?read⟩
  case body =>
   refine' dss_cons ?s1 ?r1
   case s1 => exact (ds_set (i := 1) sc_x10.nd rfl (by walk_at "o") (PE.imp (pe_call G_x7 (hr.mono (by decide)) rfl T.m_x7 T.F_x7.kp T.b_x7 .nil pass0 (da_cons (dv 0) da_nil)) dcall))
   case' r1 => refine' dss_cons ?s3 ?r3
   case s3 => exact (ds_set (i := 2) sc_x10.nd rfl (by walk_at "o") (PE.imp (pe_callTy call_str_int rfl T.n_str bt_str (db_cons (df (de_ix ix_tup od_ixT (df (dv 1)) (df de_int))) db_nil)) (dcb cd_strI)))
   case' r3 => refine' dss_cons ?s5 ?r5
   case s5 =>
    refine' ds_set (i := 3) sc_x10.nd rfl (by walk_at "o") ?e6 (hs := swaps_Call)
    case e6 => exact (de_zfill (PE.imp (pe_callTy call_str_int rfl T.n_str bt_str (db_cons (df (de_ix ix_tup od_ixT (df (dv 1)) (df de_int))) db_nil)) (dcb cd_strI)) de_int)
   case' r5 => refine' dss_cons ?s8 ?r8
   case s8 =>
    refine' ds_set (i := 4) sc_x10.nd rfl (by walk_at "o") ?e9 (hs := swaps_Call)
    case e9 => exact (de_zfill (PE.imp (pe_callTy call_str_int rfl T.n_str bt_str (db_cons (df (de_ix ix_tup od_ixT (df (dv 1)) (df de_int))) db_nil)) (dcb cd_strI)) de_int)
   case' r8 => refine' dss_one ?s11
   case' s11 => refine' ds_ret ?e12
   case e12 => exact (de_fstr (.cons (pf_fmt (dv 2)) (.cons pf_con (.cons (pf_fmt (dv 3)) (.cons pf_con (.cons (pf_fmt (dv 4)) .nil))))))
  case read =>
  walk_at "rz"
  simp only [parts_iff]
  walk_at "rz"
  intro y m n D
  have hy := year_bd D h0 h1
  have hb := mlen_bd (y := y) D.m1 D.m12
  have := D.m1; have := D.m12; have := D.n1; have := D.nl
  have ly := nat4 (m := y) (by omega) (by omega); have lm := nat2 (m := m) (by omega) (by omega); have ln := nat2 (m := n) (by omega) (by omega)
  have le : Str.empty.length = 0 := rfl
  have ld : (Str.ofString "-").length = 1 := by decide +kernel
  refine ⟨log_lt (by omega) (by omega), log_lt (by omega) (by omega), by decide, log_lt (by omega) (by omega), by decide, ?_⟩
  rw [dtx_eq (by omega) (by omega) (by omega)]
  simp only [app_len, ly, lm, ln, le, ld, dtx_len]
  exact ⟨by decide, by decide, by decide, by decide, by decide, by decide, by decide, by decide, by decide, by decide, by decide, q y m n D⟩
def figs : Str := "0123456789"
def isFigs (z : Str) (k : Int) : Bool := decide ((z.length : Int) = k) && z.cps.toList.all fun c => decide (c ∈ figs.cps.toList)
def F_figs : List PyData → (PyData → Prop) → Prop := fun ds Q => ∃ (z : Str) (k : Int), ds = [.str z, .int k] ∧ z.length ≤ 16777216 ∧ Q (.bool (isFigs z k))
theorem ok_figs (T : Txt K mg t) : FnOk P w K mg base CX0 1 t.a_x11 t.d_x11 ["text", "length"] (spD K F_figs) := by
 refine T.F_x11.okD sc_x11 (fun ds Q h => ?_) (fun cdv A outer s H O ds Q E hr h => ?_)
 ·obtain ⟨z, k, rfl, _⟩ := h; rfl
 ·obtain ⟨z, k, rfl, hz, q⟩ := h
  refine' ⟨_, ?body, ?read⟩
  case body =>
   refine' dss_one ?s1
   case' s1 => refine' ds_ret ?e2
   case e2 => exact (de_and (de_cmp (op_eqX hr.units) od_eq (df (PE.imp (pe_callB call_len_str rfl T.n_len PySem.boot_len (db_cons (df (dv 0)) db_nil)) (dcb cd_lenT))) (df (dv 1)) (nomark _)) (de_one (PE.imp (pe_callB (call_all rfl) rfl T.n_all bt_all (db_cons (df (fe (fe_compSI rfl cs_x11_0 (df (dv 0)) gd_name keepName (by decide) (fun _ _ _ _ => (pg_name (i := 0) cs_x11_0.nd rfl (by walk_at "o"))) (fun _ _ _ _ => pf_nilD) (fun _ _ _ _ => (de_cmp op_in_str od_inS (df (dv 0)) (df (dc (pe_glob rfl T.c_FIGURES T.r_FIGURES) (fun _ _ => .str _))) rfl))))) db_nil)) (dcb cd_any))))
  case read =>
  walk_at "rz"
  refine ⟨hz, ?_⟩
  unfold isFigs at q
  split
  ·rename_i h1
   rw [decide_eq_true (p := (z.length : Int) = k) (by simpa using h1)] at q
   refine ⟨by omega, compI_bools (p := fun b => Q (.bool b)) (fun x => match x with | .str y => decide (y.cps.toList.headD 0 ∈ figs.cps.toList) | _ => false) (fun x hx R hR => ?_) ?_⟩
   ·obtain ⟨c, _, rfl⟩ := List.mem_map.mp hx
    walk_at "rz"
    rw [StrLaws.found_one]; exact hR
   ·unfold signsD; rw [List.map_map, List.all_map]; exact q
  ·rename_i h1
   rw [decide_eq_false (p := (z.length : Int) = k) (by simpa using h1)] at q; exact q
theorem figs_iff {z : Str} {k : Int} {Q : PyData → Prop} : F_figs [.str z, .int k] Q ↔ z.length ≤ 16777216 ∧ Q (.bool (isFigs z k)) := ⟨fun ⟨_, _, e, h⟩ => by cases e; exact h, fun h => ⟨_, _, rfl, h⟩⟩
theorem figs_d2 {m : Nat} (h : m < 100) : isFigs ⟨(d2 m).toArray⟩ 2 = true := by
 have : ∀ m : Fin 100, isFigs ⟨(d2 m.val).toArray⟩ 2 = true := by decide +kernel
 exact this ⟨m, h⟩
theorem fig_mem : ∀ c : Fin 10, 48 + c.val ∈ figs.cps.toList := by decide +kernel
theorem figs_d4 {y : Nat} (h : y < 10000) : isFigs ⟨(d4 y).toArray⟩ 4 = true := by
 have f : ∀ {c : Nat}, c < 10 → 48 + c ∈ figs.cps.toList := fun {c} hc => fig_mem ⟨c, hc⟩
 unfold isFigs
 rw [decide_eq_true (by rfl)]
 simp only [d4, Bool.true_and, List.all_cons, List.all_nil, Bool.and_true, Bool.and_eq_true, decide_eq_true_eq]
 exact ⟨f (by omega), f (by omega), f (by omega), f (by omega)⟩
def F_read : List PyData → (PyData → Prop) → Prop := fun ds Q => ∃ y m n : Int, ds = [.str (dtx y m n)] ∧ Dat y m n ∧ 0 ≤ num y m n ∧ num y m n ≤ 99999 ∧ Q (.int (num y m n))
theorem ok_read (T : Txt K mg t) : FnOk P w K mg base CX0 4 t.a_x12 t.d_x12 ["text"] (spD K F_read) := by
 have G_x11 := ok_figs (P := P) (w := w) (base := base) T
 have G_x9 := ok_isdate (P := P) (w := w) (base := base) T
 have G_x1 := ok_day (P := P) (w := w) (base := base) T
 have G_x8 := okd_num (P := P) (w := w) (base := base) T
 refine T.F_x12.okD sc_x12 (fun ds Q h => ?_) (fun cdv A outer s H O ds Q E hr h => ?_)
 ·obtain ⟨y, m, n, rfl, _⟩ := h; rfl
 ·obtain ⟨y, m, n, rfl, hd, h0, h1, q⟩ := h
  refine' ⟨_, ?body, ?read⟩
  case body =>
   refine' dss_cons ?s1 ?r1
   case s1 =>
    refine' ds_if ?c2 ?a2 dss_nil
    case c2 => exact (dt_not (dt_val (de_isinC (K' := K) (T := "str") rfl rfl T.n_isinstance bt_isinstance (df (dv 0)) (pe_bltn (v := .ty "str") rfl T.n_str bt_str rfl))))
    case a2 => refine' dss_one ds_never
   case' r1 => refine' dss_cons ?s5 ?r5
   case s5 => exact (ds_set (i := 1) sc_x12.nd rfl (by walk_at "o") (fe (fe_split (dv 0) de_str)))
   case' r5 => refine' dss_cons ?s7 ?r7
   case s7 =>
    refine' ds_if ?c8 ?a8 dss_nil
    case c8 => exact (PW.pt (dw_or (dt_cmp (op_neX hr.units) od_ne (df (PE.imp (pe_callB call_len_seq rfl T.n_len PySem.boot_len (db_cons (df (dv 1)) db_nil)) (dcb cd_len))) (df de_int) (nomark _)) (dw_or1 (dt_not (dt_val (PE.imp (pe_call G_x11 (hr.mono (by decide)) rfl T.m_x11 T.F_x11.kp T.b_x11 .nil pass0 (da_cons (de_ix ix_list od_ixL (df (dv 1)) (df de_int)) (da_cons de_int da_nil))) dcall))))))
    case a8 => refine' dss_one ds_never
   case' r7 => refine' dss_cons ?s11 ?r11
   case s11 =>
    refine' ds_if ?c12 ?a12 dss_nil
    case c12 => exact (dt_not (PW.pt (dw_and (dt_val (PE.imp (pe_call G_x11 (hr.mono (by decide)) rfl T.m_x11 T.F_x11.kp T.b_x11 .nil pass0 (da_cons (de_ix ix_list od_ixL (df (dv 1)) (df de_int)) (da_cons de_int da_nil))) dcall)) (dw_and1 (dt_val (PE.imp (pe_call G_x11 (hr.mono (by decide)) rfl T.m_x11 T.F_x11.kp T.b_x11 .nil pass0 (da_cons (de_ix ix_list od_ixL (df (dv 1)) (df de_int)) (da_cons de_int da_nil))) dcall))))))
    case a12 => refine' dss_one ds_never
   case' r11 => refine' dss_cons ?s15 ?r15
   case s15 => exact (ds_set (i := 2) sc_x12.nd rfl (by walk_at "o") (PE.imp (pe_callTy call_intT rfl T.n_int bt_int (db_cons (df (de_ix ix_list od_ixL (df (dv 1)) (df de_int))) db_nil)) (dcb cd_intT)))
   case' r15 => refine' dss_cons ?s17 ?r17
   case s17 => exact (ds_set (i := 3) sc_x12.nd rfl (by walk_at "o") (PE.imp (pe_callTy call_intT rfl T.n_int bt_int (db_cons (df (de_ix ix_list od_ixL (df (dv 1)) (df de_int))) db_nil)) (dcb cd_intT)))
   case' r17 => refine' dss_cons ?s19 ?r19
   case s19 => exact (ds_set (i := 4) sc_x12.nd rfl (by walk_at "o") (PE.imp (pe_callTy call_intT rfl T.n_int bt_int (db_cons (df (de_ix ix_list od_ixL (df (dv 1)) (df de_int))) db_nil)) (dcb cd_intT)))
   case' r19 => refine' dss_cons ?s21 ?r21
   case s21 =>
    refine' ds_if ?c22 ?a22 dss_nil
    case c22 => exact (PW.pt (dw_or (dt_not (dt_val (PE.imp (pe_call G_x9 (hr.mono (by decide)) rfl T.m_x9 T.F_x9.kp T.b_x9 .nil pass0 (da_cons (dv 2) (da_cons (dv 3) (da_cons (dv 4) da_nil)))) dcall))) (dw_or1 (dt_not (dt_val (PE.imp (pe_call G_x1 (hr.mono (by decide)) rfl T.m_x1 T.F_x1.kp T.b_x1 .nil pass0 (da_cons (PE.imp (pe_call G_x8 (hr.mono (by decide)) rfl T.m_x8 T.F_x8.kp T.b_x8 .nil pass0 (da_cons (dv 2) (da_cons (dv 3) (da_cons (dv 4) da_nil)))) dcall) da_nil)) dcall))))))
    case a22 => refine' dss_one ds_never
   case' r21 => refine' dss_one ?s25
   case s25 => exact (ds_ret (PE.imp (pe_call G_x8 (hr.mono (by decide)) rfl T.m_x8 T.F_x8.kp T.b_x8 .nil pass0 (da_cons (dv 2) (da_cons (dv 3) (da_cons (dv 4) da_nil)))) dcall))
  case read =>
  walk_at "rz"
  simp only [kit_str, isStrB]
  walk_at "rz"
  obtain ⟨y1, y2, m1, m2, n1, n2⟩ := hd
  have hb := mlen_bd (y := y) m1 m2
  have e1 := int_d4 (y := y.toNat) (by omega) (by omega)
  have e2 := int_d2 ⟨m.toNat, by omega⟩
  have e3 := int_d2 ⟨n.toNat, by omega⟩
  simp only [Int.toNat_of_nonneg (show 0 ≤ y by omega), Int.toNat_of_nonneg (show 0 ≤ m by omega), Int.toNat_of_nonneg (show 0 ≤ n by omega)] at e1 e2 e3
  have g1 := figs_d4 (y := y.toNat) (by omega)
  have g2 := figs_d2 (m := m.toNat) (by omega)
  have g3 := figs_d2 (m := n.toNat) (by omega)
  refine ⟨by simp, by decide +kernel, by rw [dtx_len]; decide, ?_⟩
  rw [split_dtx]
  walk_at "rz"
  rw [if_neg (by decide)]
  simp only [figs_iff, isdate_iff, day_iff, num_iff, g1, g2, g3, e1, e2, e3, ↓lz_w, ↓lz_k0, ↓lz_kS, ↓lz_kE, ↓lz_kN, ↓lz_ks, ↓lz_ki, ↓lz_wN, ↓lz_v0, ↓lz_vS, ↓lz_vE, ↓lz_vN, ↓lz_o0, ↓lz_oS, ↓lz_oE, ↓lz_oN, ↓lz_b, ↓lz_i, ↓lz_s, ↓lz_t, ↓lz_l, ↓lz_ii, ↓lz_ss, ↓lz_tt, ↓lz_ll, ↓lz_cons, ↓lz_two, ↓lz_tt0, ↓lz_tt1, ↓lz_tt2, ↓lz_tt3, ↓lz_ll0, ↓lz_ll1, ↓lz_ll2, ↓lz_tix, ↓lz_lix, dSeq, dNext, dIfS, dRet, dRetO, dDrop, dSet, dNew, dApp, dAsg, dPar, dFrz, dVar, dOwn, dC, dOp, dI, dIC, dEq, dNe, dIn, dIxL, dIxT, dIxS, dAddS, dCatT, dCat, dL, dFin, dTup, dLst, dNil, dCons, dTest, dAnd, dOr, dNot, dAndV, dOrV, dNotV, dIf, dChain, dCall, dCallS, dCallN, wq_paper_happens, wq_paper_rule, wq_paper_end, wq_paper_hold, wq_paper_lift, wq_paper_leave, wq_happens_paper, wq_happens_rule, wq_happens_end, wq_happens_hold, wq_happens_lift, wq_happens_leave, wq_rule_paper, wq_rule_happens, wq_rule_end, wq_rule_hold, wq_rule_lift, wq_rule_leave, wq_end_paper, wq_end_happens, wq_end_rule, wq_end_hold, wq_end_lift, wq_end_leave, wq_hold_paper, wq_hold_happens, wq_hold_rule, wq_hold_end, wq_hold_lift, wq_hold_leave, wq_lift_paper, wq_lift_happens, wq_lift_rule, wq_lift_end, wq_lift_hold, wq_lift_leave, wq_leave_paper, wq_leave_happens, wq_leave_rule, wq_leave_end, wq_leave_hold, wq_leave_lift, dRep2, dSlL, dSlT, dSlS, dLits, dSel, dRev, dNoPart, dPart, dLen, dLenS, dTupOf, dAny, dTwo, dIsin, dJoin, dInt, dListOf, dYes, dComp, dCompT, dCompR, dFor, dForT, dForR, dForR2, dForI, dForTI, dForRI, dForR2I, dSlX, dDct0, dNeg, dUpper, dRevT, dRepT, cD_nm1, dInX, dLenT, dLtS, dInS, dEqZ, dInZ, dSortS, dCompSI, dCompR2I, dStrI, dIntT, dZfill, dSplit, dJs, dNever, dLtU, dNewK, dEmp, dPutK, dGetK, dGet1K, dInK, dSortK, dIsN, dNotN, dMulS, dIxSc, dSlSc, dAbs, dPar3, dExt, dMaxL, dForDK, dDisp, dPairs, dSortSet, dFrzK, dGetD, dSortPr, dSortKey, dLtP, dIndex, dListRg, dCompV, dCatX, dFld, dFldD, dForE, dDivmod, dSum, dMinL, dAnyI, dRepC, dSortSetN, dExtD, dJoinT, dRepV, dCompZ, take_iff, cD_1n, cD_2n, cD_3n, cD_4n, cD_n1, cD_n2, cD_n3, cD_n4, cD_13, ne_eq, thing_str, thing_int, thing_bool, thing_tup, thing_list, strsE1, strsE2, strsE3, dCompI, dCompTI, dCompRI, dgName, dgTup, dgCons, dgNil, forW, startD, dst0, CDiv, CPow, CMul, List.map_cons, List.map_nil, List.length_cons, List.length_nil, List.replicate, List.cons_append, List.nil_append, List.append_nil, Nat.reduceAdd, Nat.reduceSub, Nat.add_zero, Nat.zero_add, Nat.sub_self, List.getElem?_cons_zero, List.getElem?_cons_succ, List.getElem?_nil, List.set_cons_zero, List.set_cons_succ, Option.some.injEq, exists_eq_left', exists_eq_left, exists_and_left, exists_and_right, Option.join_some, Option.join_none, Sl.v.injEq, Sl.o.injEq, Sl.k.injEq, PyData.int.injEq, PyData.bool.injEq, PyData.str.injEq, PyData.tuple.injEq, PyData.list.injEq, List.cons.injEq, and_true, true_and, Nat.reduceLT, Nat.reduceLeDiff, exists_const, decide_eq_true_eq, Int.reduceLT, Int.reduceLE, Int.reduceNeg, Int.reducePow, Bool.not_eq_true', decide_eq_false_iff_not, and_assoc, or_true, true_or, ↓reduceIte, if_true, if_false, Bool.false_eq_true, Bool.true_eq_false, not_true_eq_false, not_false_eq_true, Bool.not_true, Bool.not_false, ite_true, ite_false, eq_self, exists_eq, reduceCtorEq, false_and, and_false, or_false, false_or, exists_false, Option.map_some, Option.map_none, scalD, List.all_cons, List.all_nil, List.any_cons, List.any_nil, Bool.and_true, Bool.or_false, Bool.true_and, Bool.false_or, atI_c0, atI_c1, atI_c2, atI_c3, atI_c4, eqv_str, eqv_int, eqv_bool, beq_self_eq_true, shp_int, shp_bl, shp_non, Shp, sizeLine_eq]
  have hd : Dat y m n := ⟨y1, y2, m1, m2, n1, n2⟩
  refine ⟨by show 4 ≤ _; decide, by show 2 ≤ _; decide, by show 2 ≤ _; decide, by show 4 ≤ _; decide, by show 2 ≤ _; decide, by show 2 ≤ _; decide, ?_⟩
  rw [if_neg (fun z => z hd)]
  refine ⟨m1, m2, ?_⟩
  rw [if_neg (by simp [isDy, h0, h1])]
  exact ⟨m1, m2, q⟩
end
end K58

open PySem L2
namespace K58
theorem cs_x14_0 : CompScope (defScope s_x14) ["thing"] ["sign"] 1 [] { kind := PySem.ScopeKind.function, names := [ (PySem.Str.ofString ".0", PySem.NameKind.local), (PySem.Str.ofString "sign", PySem.NameKind.local), (PySem.Str.ofString "LETTERS", PySem.NameKind.globalImplicit)], isGenerator := false, isCoroutine := false, more := [] : PySem.Scope } := ⟨rfl, by decide +kernel, by decide +kernel, by decide +kernel, rfl, by decide +kernel, by decide +kernel, by decide +kernel, rfl⟩
theorem cs_x18_0 : CompScope (defScope s_x18) ["thing"] ["name"] 1 [] { kind := PySem.ScopeKind.function, names := [ (PySem.Str.ofString ".0", PySem.NameKind.local), (PySem.Str.ofString "name", PySem.NameKind.local), (PySem.Str.ofString "is_name", PySem.NameKind.globalImplicit)], isGenerator := false, isCoroutine := false, more := [] : PySem.Scope } := ⟨rfl, by decide +kernel, by decide +kernel, by decide +kernel, rfl, by decide +kernel, by decide +kernel, by decide +kernel, rfl⟩
theorem cs_x18_1 : CompScope (defScope s_x18) ["thing"] ["place", "thing"] 1 [0] { kind := PySem.ScopeKind.function, names := [ (PySem.Str.ofString ".0", PySem.NameKind.local), (PySem.Str.ofString "place", PySem.NameKind.local), (PySem.Str.ofString "thing", PySem.NameKind.free)], isGenerator := false, isCoroutine := false, more := [] : PySem.Scope } := ⟨rfl, by decide +kernel, by decide +kernel, by decide +kernel, rfl, by decide +kernel, by decide +kernel, by decide +kernel, rfl⟩
section
variable {P : Program} {w : World} {K : PySem.W.Frag} {mg : Str → Option Value} {base : Heap} {t : Adr}
def F_tupOf : List PyData → (PyData → Prop) → Prop := fun ds Q => ∃ d, ∃ n : Int, ds = [d, .int n] ∧ thg d = true ∧ Q (.bool (lenIs d n))
theorem ok_tupOf (T : Txt K mg t) : FnOk P w K mg base CX0 1 t.a_x13 t.d_x13 ["thing", "length"] (spD K F_tupOf) := by
 refine T.F_x13.okD sc_x13 (fun ds Q h => ?_) (fun cdv A outer s H O ds Q E hr h => ?_)
 ·obtain ⟨d, n, rfl, _⟩ := h; rfl
 ·obtain ⟨d, n, rfl, hd, q⟩ := h
  refine ⟨_, (dss_one (ds_ret (de_and (de_isinC (K' := K) (T := "tuple") rfl rfl T.n_isinstance bt_isinstance (df (dv 0)) (pe_bltn (v := .ty "tuple") rfl T.n_tuple bt_tuple rfl)) (de_one (de_cmp (op_eqX hr.units) od_eq (df (PE.imp (pe_callB call_len_seq rfl T.n_len PySem.boot_len (db_cons (df (dv 0)) db_nil)) (dcb cd_len))) (df (dv 1)) (nomark _)))))), ?_⟩
  walk_at "rz"
  simp only [kit_tuple]
  walk_at "rz"
  refine ⟨thg_ne hd, ?_⟩
  cases d with
  | tuple l => simp only [isTupB]; walk_at "rz"; exact q
  | _ => simpa [isTupB, lenIs] using q
def F_name : List PyData → (PyData → Prop) → Prop := fun ds Q => ∃ d, ds = [d] ∧ thg d = true ∧ Q (.bool (isNm d))
theorem ok_name (T : Txt K mg t) : FnOk P w K mg base CX0 1 t.a_x14 t.d_x14 ["thing"] (spD K F_name) := by
 refine T.F_x14.okD sc_x14 (fun ds Q h => ?_) (fun cdv A outer s H O ds Q E hr h => ?_)
 ·obtain ⟨d, rfl, _⟩ := h; rfl
 ·obtain ⟨d, rfl, hd, q⟩ := h
  refine ⟨_, (dss_cons (ds_if (PW.pt (dw_or (dt_not (dt_val (de_isinC (K' := K) (T := "str") rfl rfl T.n_isinstance bt_isinstance (df (dv 0)) (pe_bltn (v := .ty "str") rfl T.n_str bt_str rfl)))) (dw_or1 (dt_not (dt_chain op_le op_le od_bl od_bl (df de_int) (df (PE.imp (pe_callB call_len_str rfl T.n_len PySem.boot_len (db_cons (df (dv 0)) db_nil)) (dcb cd_lenT))) (df (dc (pe_glob rfl T.c_LONGEST_NAME T.r_LONGEST_NAME) (fun _ _ => .int _)))))))) (dss_one (ds_ret de_bl)) dss_nil)
   (dss_one (ds_ret (PE.imp (pe_callB (call_all rfl) rfl T.n_all bt_all (db_cons (df (fe (fe_compSI rfl cs_x14_0 (df (dv 0)) gd_name keepName (by decide) (fun _ _ _ _ => (pg_name (i := 0) cs_x14_0.nd rfl (by walk_at "o"))) (fun _ _ _ _ => pf_nilD) (fun _ _ _ _ => (de_cmp op_in_str od_inS (df (dv 0)) (df (dc (pe_glob rfl T.c_LETTERS T.r_LETTERS) (fun _ _ => .str _))) rfl))))) db_nil)) (dcb cd_any))))), ?_⟩
  walk_at "rz"
  simp only [kit_str]
  walk_at "rz"
  refine ⟨thg_ne hd, ?_⟩
  cases d with
  | str z =>
   have hz := thg_str hd
   simp only [isStrB]
   walk_at "rz"
   refine ⟨by omega, ?_⟩
   simp only [isNm] at q
   split
   ·rename_i h1
    split
    ·rename_i h2
     rw [decide_eq_false (p := z.length ≤ 8) (by omega)] at q; simpa using q
    ·rename_i h2
     rw [decide_eq_true (p := 1 ≤ z.length) (by omega), decide_eq_true (p := z.length ≤ 8) (by omega)] at q
     refine ⟨by omega, compI_bools (p := fun b => Q (.bool b)) (fun x => match x with | .str y => decide (y.cps.toList.headD 0 ∈ abc.cps.toList) | _ => false) (fun x hx R hR => ?_) ?_⟩
     ·obtain ⟨c, _, rfl⟩ := List.mem_map.mp hx
      walk_at "rz"
      rw [StrLaws.found_one]; exact hR
     ·unfold signsD; rw [List.map_map, List.all_map]; exact q
   ·rename_i h1
    rw [decide_eq_false (p := 1 ≤ z.length) (by omega)] at q; simpa using q
  | _ => simpa [isStrB, isNm] using q
def F_since : List PyData → (PyData → Prop) → Prop := fun ds Q => ∃ d, ds = [d] ∧ thg d = true ∧ Q (.bool (isSn d))
theorem ok_since (T : Txt K mg t) : FnOk P w K mg base CX0 2 t.a_x15 t.d_x15 ["thing"] (spD K F_since) := by
 have G_x13 := ok_tupOf (P := P) (w := w) (base := base) T
 have G_x14 := ok_name (P := P) (w := w) (base := base) T
 refine T.F_x15.okD sc_x15 (fun ds Q h => ?_) (fun cdv A outer s H O ds Q E hr h => ?_)
 ·obtain ⟨d, rfl, _⟩ := h; rfl
 ·obtain ⟨d, rfl, hd, q⟩ := h
  refine ⟨_, (dss_cons (ds_if (dt_val (PE.imp (pe_call G_x13 (hr.mono (by decide)) rfl T.m_x13 T.F_x13.kp T.b_x13 .nil pass0 (da_cons (dv 0) (da_cons de_int da_nil))) dcall)) (dss_one (ds_ret (de_cmp (op_eqZ hr) od_eqZ (df (de_ix ix_tup od_ixT (df (dv 0)) (df de_int))) (df de_str) (nomark _)))) dss_nil)
   (dss_cons (ds_if (dt_val (PE.imp (pe_call G_x13 (hr.mono (by decide)) rfl T.m_x13 T.F_x13.kp T.b_x13 .nil pass0 (da_cons (dv 0) (da_cons de_int da_nil))) dcall)) (dss_one (ds_ret (de_and (de_cmp (op_inZ hr) od_inZ (df (de_ix ix_tup od_ixT (df (dv 0)) (df de_int))) (df (de_tup (da_cons de_str (da_cons de_str da_nil)))) rfl) (de_one (PE.imp (pe_call G_x14 (hr.mono (by decide)) rfl T.m_x14 T.F_x14.kp T.b_x14 .nil pass0 (da_cons (de_ix ix_tup od_ixT (df (dv 0)) (df de_int)) da_nil)) dcall))))) dss_nil)
   (dss_one (ds_ret de_bl)))), ?_⟩
  walk_at "rz"
  simp only [F_tupOf]
  walk_at "rz"
  refine ⟨hd, ?_⟩
  rcases tup_cases d with ⟨l, rfl⟩ | hn
  ·have hl := thg_tup hd
   match l, hl with
   | [], _ => simpa [isSn, lenIs, hd] using q
   | [a], hl =>
    have ha := hl a (by simp)
    simp [isSn, lenIs, thg_thing ha, atI_c0] at q ⊢; exact q
   | [a, b], hl =>
    have ha := hl a (by simp)
    have hb := hl b (by simp)
    simp [isSn, strIn, lenIs, thg_thing ha, hd, F_name, hb, atI_c0, atI_c1] at q ⊢
    generalize ((PyData.str (Str.ofString "first")).eqv a) = A at *
    generalize ((PyData.str (Str.ofString "last")).eqv a) = B at *
    cases A <;> cases B <;> simp at q ⊢ <;> exact q
   | _ :: _ :: _ :: r, _ =>
    have h1 : ¬ ((r.length : Int) + 1 + 1 + 1 = 1) := by omega
    have h2 : ¬ ((r.length : Int) + 1 + 1 + 1 = 2) := by omega
    simpa [isSn, lenIs, hd, h1, h2] using q
  ·have e : isSn d = false := by
    unfold isSn; split
    ·exact absurd rfl (hn _)
    ·exact absurd rfl (hn _)
    ·rfl
   rw [e] at q
   simpa [lenIs_no hn, hd] using q
theorem units_d {a : Addr} (h : ∀ H, SqT K H a [V.str "days", V.str "months", V.str "years"]) : ∀ H O, Dt K H O (.ref a) (.tuple [.str "days", .str "months", .str "years"]) := fun H O =>
 .tupK (h H00) (.cons (.str _) (.cons (.str _) (.cons (.str _) .nil)))
def F_span : List PyData → (PyData → Prop) → Prop := fun ds Q => ∃ m u, ds = [m, u] ∧ thg m = true ∧ thg u = true ∧ Q (.bool (isSpn m u))
theorem ok_span (T : Txt K mg t) : FnOk P w K mg base CX0 2 t.a_x16 t.d_x16 ["many", "unit"] (spD K F_span) := by
 have G_x0 := ok_whole (P := P) (w := w) (base := base) T
 obtain ⟨aU, eU, hU⟩ := T.e_UNITS
 have Tr_UNITS : RelV (.ref aU) t.u_UNITS := eU
 have Td_UNITS := units_d hU
 refine T.F_x16.okD sc_x16 (fun ds Q h => ?_) (fun cdv A outer s H O ds Q E hr h => ?_)
 ·obtain ⟨d, u, rfl, _⟩ := h; rfl
 ·obtain ⟨m, u, rfl, hm, hu, q⟩ := h
  refine ⟨_, (dss_one (ds_ret (de_and (PE.imp (pe_call G_x0 (hr.mono (by decide)) rfl T.m_x0 T.F_x0.kp T.b_x0 .nil pass0 (da_cons (dv 0) da_nil)) dcall) (de_and (de_chain op_le op_le od_bl od_bl (df de_int) (df (dv 0)) (df (dc (pe_glob rfl T.c_MOST_MANY T.r_MOST_MANY) (fun _ _ => .int _)))) (de_one (de_cmp (op_inZ hr) od_inZ (df (dv 1)) (df (dc (pe_glob rfl T.c_UNITS Tr_UNITS) Td_UNITS)) rfl)))))), ?_⟩
  walk_at "rz"
  refine ⟨m, rfl, hm, ?_⟩
  cases m with
  | int i =>
   walk_at "rz"
   simp only [isWh, isSpn, isMn, strIn] at q ⊢
   simp only [if_true]
   by_cases h0 : 0 ≤ i
   ·rw [if_pos h0]
    by_cases h1 : i ≤ 999
    ·simp [h0, h1, thg_thing hu] at q ⊢; exact q
    ·simp [h0, h1] at q ⊢; exact q
   ·simp [h0] at q ⊢; exact q
  | _ => exact ⟨_, rfl, by simpa [isWh, isSpn, isMn] using q⟩
def F_rule : List PyData → (PyData → Prop) → Prop := fun ds Q => ∃ d, ds = [d] ∧ thg d = true ∧ Q (.bool (isRl d))
theorem ok_rule (T : Txt K mg t) : FnOk P w K mg base CX0 3 t.a_x17 t.d_x17 ["thing"] (spD K F_rule) := by
 have G_x13 := ok_tupOf (P := P) (w := w) (base := base) T
 have G_x14 := ok_name (P := P) (w := w) (base := base) T
 have G_x15 := ok_since (P := P) (w := w) (base := base) T
 have G_x16 := ok_span (P := P) (w := w) (base := base) T
 refine T.F_x17.okD sc_x17 (fun ds Q h => ?_) (fun cdv A outer s H O ds Q E hr h => ?_)
 ·obtain ⟨d, rfl, _⟩ := h; rfl
 ·obtain ⟨d, rfl, hd, q⟩ := h
  refine ⟨_, (dss_cons (ds_if (dt_val (PE.imp (pe_call G_x13 (hr.mono (by decide)) rfl T.m_x13 T.F_x13.kp T.b_x13 .nil pass0 (da_cons (dv 0) (da_cons de_int da_nil))) dcall)) (dss_one (ds_ret (de_and (de_cmp (op_inZ hr) od_inZ (df (de_ix ix_tup od_ixT (df (dv 0)) (df de_int))) (df (de_tup (da_lits (ds := [.str "while", .str "follow", .str "leave"]) (by rfl)))) rfl) (de_one (PE.imp (pe_call G_x14 (hr.mono (by decide)) rfl T.m_x14 T.F_x14.kp T.b_x14 .nil pass0 (da_cons (de_ix ix_tup od_ixT (df (dv 0)) (df de_int)) da_nil)) dcall))))) dss_nil)
   (dss_cons (ds_if (dt_val (PE.imp (pe_call G_x13 (hr.mono (by decide)) rfl T.m_x13 T.F_x13.kp T.b_x13 .nil pass0 (da_cons (dv 0) (da_cons de_int da_nil))) dcall)) (dss_cons (ds_set (i := 1) sc_x17.nd rfl (by walk_at "o") (de_and (de_cmp (op_inZ hr) od_inZ (df (de_ix ix_tup od_ixT (df (dv 0)) (df de_int))) (df (de_tup (da_cons de_str (da_cons de_str da_nil)))) rfl) (de_one (PE.imp (pe_call G_x14 (hr.mono (by decide)) rfl T.m_x14 T.F_x14.kp T.b_x14 .nil pass0 (da_cons (de_ix ix_tup od_ixT (df (dv 0)) (df de_int)) da_nil)) dcall))))
   (dss_one (ds_ret (de_and (dv 1) (de_and (PE.imp (pe_call G_x15 (hr.mono (by decide)) rfl T.m_x15 T.F_x15.kp T.b_x15 .nil pass0 (da_cons (de_ix ix_tup od_ixT (df (dv 0)) (df de_int)) da_nil)) dcall) (de_one (PE.imp (pe_call G_x16 (hr.mono (by decide)) rfl T.m_x16 T.F_x16.kp T.b_x16 .nil pass0 (da_cons (de_ix ix_tup od_ixT (df (dv 0)) (df de_int)) (da_cons (de_ix ix_tup od_ixT (df (dv 0)) (df de_int)) da_nil))) dcall))))))) dss_nil)
   (dss_one (ds_ret de_bl)))), ?_⟩
  walk_at "rz"
  simp only [F_tupOf]
  walk_at "rz"
  refine ⟨hd, ?_⟩
  rcases tup_cases d with ⟨l, rfl⟩ | hn
  ·have hl := thg_tup hd
   match l, hl with
   | [], _ => simpa [isRl, lenIs, hd] using q
   | [a], _ => simpa [isRl, lenIs, hd] using q
   | [_, _, _], _ => simpa [isRl, lenIs, hd] using q
   | [_, _, _, _], _ => simpa [isRl, lenIs, hd] using q
   | [a, b], hl =>
    have ha := hl a (by simp)
    have hb := hl b (by simp)
    simp [isRl, strIn, lenIs, thg_thing ha, hd, F_name, hb, atI_c0, atI_c1] at q ⊢
    generalize ((PyData.str (Str.ofString "while")).eqv a) = A at *
    generalize ((PyData.str (Str.ofString "follow")).eqv a) = B at *
    generalize ((PyData.str (Str.ofString "leave")).eqv a) = C at *
    cases A <;> cases B <;> cases C <;> simp at q ⊢ <;> exact q
   | [a, b, c, d, e], hl =>
    have ha := hl a (by simp)
    have hb := hl b (by simp)
    have hc := hl c (by simp)
    have hd' := hl d (by simp)
    have he := hl e (by simp)
    simp [isRl, strIn, lenIs, thg_thing ha, hd, F_name, F_since, F_span, hb, hc, hd', he, atI_c0, atI_c1, atI_c2, atI_c3, atI_c4] at q ⊢
    generalize ((PyData.str (Str.ofString "keep")).eqv a) = A at *
    generalize ((PyData.str (Str.ofString "gone")).eqv a) = B at *
    generalize isNm b = C at *
    generalize isSn c = D at *
    cases A <;> cases B <;> cases C <;> cases D <;> simp at q ⊢ <;> first | exact q | exact ⟨_, _, ⟨rfl, rfl⟩, hd', he, q⟩
   | _ :: _ :: _ :: _ :: _ :: _ :: r, _ =>
    have h1 : ¬ ((r.length : Int) + 1 + 1 + 1 + 1 + 1 + 1 = 2) := by omega
    have h2 : ¬ ((r.length : Int) + 1 + 1 + 1 + 1 + 1 + 1 = 5) := by omega
    simpa [isRl, lenIs, hd, h1, h2] using q
  ·have e : isRl d = false := by
    unfold isRl; split
    ·exact absurd rfl (hn _)
    ·exact absurd rfl (hn _)
    ·rfl
   rw [e] at q
   simpa [lenIs_no hn, hd] using q
def F_makers : List PyData → (PyData → Prop) → Prop := fun ds Q => ∃ d, ds = [d] ∧ thg d = true ∧ Q (.bool (isMk d))
theorem ok_makers (T : Txt K mg t) : FnOk P w K mg base CX0 2 t.a_x18 t.d_x18 ["thing"] (spD K F_makers) := by
 have G_x14 := ok_name (P := P) (w := w) (base := base) T
 refine T.F_x18.okD sc_x18 (fun ds Q h => ?_) (fun cdv A outer s H O ds Q E hr h => ?_)
 ·obtain ⟨d, rfl, _⟩ := h; rfl
 ·obtain ⟨d, rfl, hd, q⟩ := h
  refine ⟨_, (dss_cons (ds_if (PW.pt (dw_or (dt_not (dt_val (de_isinC (K' := K) (T := "tuple") rfl rfl T.n_isinstance bt_isinstance (df (dv 0)) (pe_bltn (v := .ty "tuple") rfl T.n_tuple bt_tuple rfl)))) (dw_or1 (dt_cmp op_gt od_bl (df (PE.imp (pe_callB call_len_seq rfl T.n_len PySem.boot_len (db_cons (df (dv 0)) db_nil)) (dcb cd_len))) (df (dc (pe_glob rfl T.c_MOST_MAKERS T.r_MOST_MAKERS) (fun _ _ => .int _))) (nomark _))))) (dss_one (ds_ret de_bl)) dss_nil)
   (dss_cons (ds_if (dt_not (dt_val (PE.imp (pe_callB (call_all rfl) rfl T.n_all bt_all (db_cons (df (fe (fe_compTI rfl cs_x18_0 (df (dv 0)) gd_name keepName (by decide) (fun _ _ _ _ => (pg_name (i := 0) cs_x18_0.nd rfl (by walk_at "o"))) (fun _ _ _ _ => pf_nilD) (fun _ _ _ _ => (PE.imp (pe_call G_x14 (hr.mono (by decide)) rfl T.m_x14 T.F_x14.kp T.b_x14 .nil pass0 (da_cons (dv 0) da_nil)) dcall))))) db_nil)) (dcb cd_any)))) (dss_one (ds_ret de_bl)) dss_nil)
   (dss_one (ds_ret (PE.imp (pe_callB (call_all rfl) rfl T.n_all bt_all (db_cons (df (fe (fe_compR2I rfl cs_x18_1 rfl T.n_range (db_cons (df de_int) (db_cons (df (PE.imp (pe_callB call_len_seq rfl T.n_len PySem.boot_len (db_cons (df (dv 0)) db_nil)) (dcb cd_len))) db_nil)) gd_name keepName (by decide) (fun _ _ _ _ => (pg_name (i := 0) cs_x18_1.nd rfl (by walk_at "o"))) (fun _ _ _ _ => pf_nilD) (fun _ _ _ _ => (de_cmp op_lt_str od_ltS (df (de_ix ix_tup od_ixT (df (dv 1)) (df (de_op op_sub od_int (df (dv 0)) (df de_int))))) (df (de_ix ix_tup od_ixT (df (dv 1)) (df (dv 0)))) (nomark _)))))) db_nil)) (dcb cd_any)))))), ?_⟩
  walk_at "rz"
  simp only [kit_tuple]
  walk_at "rz"
  refine ⟨thg_ne hd, ?_⟩
  rcases tup_cases d with ⟨l, rfl⟩ | hn
  ·have hl := thg_tup hd
   simp only [isTupB]
   walk_at "rz"
   simp only [isMk] at q
   split
   ·rename_i h4
    rw [decide_eq_false (p := l.length ≤ 4) (by omega)] at q; simpa using q
   ·rename_i h4
    rw [decide_eq_true (p := l.length ≤ 4) (by omega)] at q
    refine ⟨by omega, compI_bools (p := fun b => if b = false then Q (.bool false) else _) isNm (fun x hx R hR => ?_) ?_⟩
    ·walk_at "rz"; exact ⟨x, rfl, hl x hx, hR⟩
    ·have ea : (l.map isNm).all id = l.all isNm := by rw [List.all_map]; rfl
     rw [ea]
     split
     ·rename_i h5; rw [h5] at q; simpa using q
     ·rename_i h5
      rw [Bool.not_eq_false] at h5
      rw [h5] at q
      refine ⟨by have : ((16777216 : Nat) : Int) = 16777216 := rfl; omega, by omega, by omega, compI_bools (p := fun b => Q (.bool b)) (fun x => match x with | .int p => ltD (l.getD (p - 1).toNat .none) (l.getD p.toNat .none) | _ => false) (fun x hx R hR => ?_) ?_⟩
      ·obtain ⟨i, hi, rfl⟩ := List.mem_map.mp hx
       have hi' := List.mem_range.mp hi
       have l1 : i < l.length := by omega
       have l2 : i + 1 < l.length := by omega
       have n1 : isNm l[i] = true := List.all_eq_true.mp h5 _ (List.getElem_mem l1)
       have n2 : isNm l[i + 1] = true := List.all_eq_true.mp h5 _ (List.getElem_mem l2)
       obtain ⟨z1, e1, _⟩ := nm_str n1
       obtain ⟨z2, e2, _⟩ := nm_str n2
       have a1 : (1 : Int) + (i : Int) - 1 = ((i : Nat) : Int) := by omega
       have a2 : (1 : Int) + (i : Int) = ((i + 1 : Nat) : Int) := by omega
       simp only [a1] at hR
       rw [a2] at hR
       simp only [Int.toNat_natCast, List.getD_eq_getElem?_getD, List.getElem?_eq_getElem l1, List.getElem?_eq_getElem l2, Option.getD_some, e1, e2, ltD] at hR
       walk_at "rz"
       rw [a1, a2]
       exact ⟨_, atI_nat (by rw [List.getElem?_eq_getElem l1, e1]), _, atI_nat (by rw [List.getElem?_eq_getElem l2, e2]), z1, rfl, z2, rfl, hR⟩
      ·simp only [Bool.true_and] at q
       match l, h4, q with
       | [], _, q => simpa [riseD, rangeD] using q
       | [a], _, q => simpa [riseD, rangeD] using q
       | [a, b], _, q => simpa [riseD, rangeD, List.range_succ] using q
       | [a, b, c], _, q => simpa [riseD, rangeD, List.range_succ] using q
       | [a, b, c, d], _, q => simpa [riseD, rangeD, List.range_succ] using q
       | _ :: _ :: _ :: _ :: _ :: r, h4, _ => simp only [List.length_cons] at h4; omega
  ·rw [isTup_no hn]
   have e : isMk d = false := by
    unfold isMk; split
    ·exact absurd rfl (hn _)
    ·rfl
   rw [e] at q
   simpa using q
def F_target : List PyData → (PyData → Prop) → Prop := fun ds Q => ∃ d, ds = [d] ∧ thg d = true ∧ Q (.bool (isTg d))
theorem ok_target (T : Txt K mg t) : FnOk P w K mg base CX0 2 t.a_x19 t.d_x19 ["thing"] (spD K F_target) := by
 have G_x13 := ok_tupOf (P := P) (w := w) (base := base) T
 have G_x14 := ok_name (P := P) (w := w) (base := base) T
 refine T.F_x19.okD sc_x19 (fun ds Q h => ?_) (fun cdv A outer s H O ds Q E hr h => ?_)
 ·obtain ⟨d, rfl, _⟩ := h; rfl
 ·obtain ⟨d, rfl, hd, q⟩ := h
  refine ⟨_, (dss_one (ds_ret (de_and (PE.imp (pe_call G_x13 (hr.mono (by decide)) rfl T.m_x13 T.F_x13.kp T.b_x13 .nil pass0 (da_cons (dv 0) (da_cons de_int da_nil))) dcall) (de_and (de_cmp (op_inZ hr) od_inZ (df (de_ix ix_tup od_ixT (df (dv 0)) (df de_int))) (df (de_tup (da_cons de_str (da_cons de_str da_nil)))) rfl) (de_one (PE.imp (pe_call G_x14 (hr.mono (by decide)) rfl T.m_x14 T.F_x14.kp T.b_x14 .nil pass0 (da_cons (de_ix ix_tup od_ixT (df (dv 0)) (df de_int)) da_nil)) dcall)))))), ?_⟩
  walk_at "rz"
  simp only [F_tupOf]
  walk_at "rz"
  refine ⟨hd, ?_⟩
  rcases tup_cases d with ⟨l, rfl⟩ | hn
  ·have hl := thg_tup hd
   match l, hl with
   | [], _ => simpa [isTg, lenIs] using q
   | [a], _ => simpa [isTg, lenIs] using q
   | [a, b], hl =>
    have ha := hl a (by simp)
    have hb := hl b (by simp)
    simp [isTg, strIn, lenIs, thg_thing ha, F_name, hb, atI_c0, atI_c1] at q ⊢
    generalize ((PyData.str (Str.ofString "paper")).eqv a) = A at *
    generalize ((PyData.str (Str.ofString "kind")).eqv a) = B at *
    cases A <;> cases B <;> simp at q ⊢ <;> exact q
   | _ :: _ :: _ :: r, _ =>
    have h2 : ¬ ((r.length : Int) + 1 + 1 + 1 = 2) := by omega
    simpa [isTg, lenIs, h2] using q
  ·have e : isTg d = false := by
    unfold isTg; split
    ·exact absurd rfl (hn _)
    ·rfl
   rw [e] at q
   simpa [lenIs_no hn] using q
def F_parts : List PyData → (PyData → Prop) → Prop := fun ds Q => ∃ d ps, ds = [d, .tuple ps] ∧ thg d = true ∧ (∀ p ∈ ps, thg p = true) ∧ Q (.bool (arePt d ps))
theorem ok_partsP (T : Txt K mg t) : FnOk P w K mg base CX0 4 t.a_x20 t.d_x20 ["word", "parts"] (spD K F_parts) := by
 have G_x14 := ok_name (P := P) (w := w) (base := base) T
 have G_x17 := ok_rule (P := P) (w := w) (base := base) T
 have G_x18 := ok_makers (P := P) (w := w) (base := base) T
 have G_x19 := ok_target (P := P) (w := w) (base := base) T
 refine T.F_x20.okD sc_x20 (fun ds Q h => ?_) (fun cdv A outer s H O ds Q E hr h => ?_)
 ·obtain ⟨d, ps, rfl, _⟩ := h; rfl
 ·obtain ⟨d, ps, rfl, hd, hp, q⟩ := h
  refine ⟨_, (dss_cons (ds_if (dt_cmp (op_inZ hr) od_inZ (df (dv 0)) (df (de_tup (da_cons de_str (da_cons de_str da_nil)))) rfl) (dss_one (ds_ret (de_cmp (op_eqX hr.units) od_eq (df (PE.imp (pe_callB call_len_seq rfl T.n_len PySem.boot_len (db_cons (df (dv 1)) db_nil)) (dcb cd_len))) (df de_int) (nomark _)))) dss_nil)
   (dss_cons (ds_if (dt_cmp (op_inZ hr) od_inZ (df (dv 0)) (df (de_tup (da_cons de_str (da_cons de_str da_nil)))) rfl) (dss_one (ds_ret (de_and (de_cmp (op_eqX hr.units) od_eq (df (PE.imp (pe_callB call_len_seq rfl T.n_len PySem.boot_len (db_cons (df (dv 1)) db_nil)) (dcb cd_len))) (df de_int) (nomark _)) (de_one (PE.imp (pe_call G_x14 (hr.mono (by decide)) rfl T.m_x14 T.F_x14.kp T.b_x14 .nil pass0 (da_cons (de_ix ix_tup od_ixT (df (dv 1)) (df de_int)) da_nil)) dcall))))) dss_nil)
   (dss_cons (ds_if (dt_cmp (op_eqZ hr) od_eqZ (df (dv 0)) (df de_str) (nomark _)) (dss_one (ds_ret (de_and (de_cmp (op_eqX hr.units) od_eq (df (PE.imp (pe_callB call_len_seq rfl T.n_len PySem.boot_len (db_cons (df (dv 1)) db_nil)) (dcb cd_len))) (df de_int) (nomark _)) (de_one (PE.imp (pe_call G_x17 (hr.mono (by decide)) rfl T.m_x17 T.F_x17.kp T.b_x17 .nil pass0 (da_cons (de_ix ix_tup od_ixT (df (dv 1)) (df de_int)) da_nil)) dcall))))) dss_nil)
   (dss_cons (ds_if (dt_cmp (op_eqZ hr) od_eqZ (df (dv 0)) (df de_str) (nomark _)) (dss_one (ds_ret (de_and (de_cmp (op_eqX hr.units) od_eq (df (PE.imp (pe_callB call_len_seq rfl T.n_len PySem.boot_len (db_cons (df (dv 1)) db_nil)) (dcb cd_len))) (df de_int) (nomark _)) (de_and (PE.imp (pe_call G_x14 (hr.mono (by decide)) rfl T.m_x14 T.F_x14.kp T.b_x14 .nil pass0 (da_cons (de_ix ix_tup od_ixT (df (dv 1)) (df de_int)) da_nil)) dcall) (de_one (PE.imp (pe_call G_x18 (hr.mono (by decide)) rfl T.m_x18 T.F_x18.kp T.b_x18 .nil pass0 (da_cons (de_ix ix_tup od_ixT (df (dv 1)) (df de_int)) da_nil)) dcall)))))) dss_nil)
   (dss_cons (ds_if (dt_cmp (op_eqZ hr) od_eqZ (df (dv 0)) (df de_str) (nomark _)) (dss_one (ds_ret (de_and (de_cmp (op_eqX hr.units) od_eq (df (PE.imp (pe_callB call_len_seq rfl T.n_len PySem.boot_len (db_cons (df (dv 1)) db_nil)) (dcb cd_len))) (df de_int) (nomark _)) (de_and (PE.imp (pe_call G_x19 (hr.mono (by decide)) rfl T.m_x19 T.F_x19.kp T.b_x19 .nil pass0 (da_cons (de_ix ix_tup od_ixT (df (dv 1)) (df de_int)) da_nil)) dcall) (de_one (de_isinC (K' := K) (T := "bool") rfl rfl T.n_isinstance bt_isinstance (df (de_ix ix_tup od_ixT (df (dv 1)) (df de_int))) (pe_bltn (v := .ty "bool") rfl T.n_bool bt_bool rfl))))))) dss_nil)
   (dss_one (ds_ret de_bl))))))), ?_⟩
  walk_at "rz"
  simp only [thg_thing hd, kit_bool]
  walk_at "rz"
  simp only [arePt, strIn, List.any_cons, List.any_nil, Bool.or_false] at q
  split
  ·rename_i h; rw [if_pos h] at q
   match ps with
   | [] => simpa using q
   | _ :: r =>
    have h1 : (((r.length + 1 : Nat) : Int) == 0) = false := by rw [beq_eq_false_iff_ne]; omega
    rw [List.length_cons, h1]; simpa using q
  rename_i h; rw [if_neg h] at q
  clear h
  split
  ·rename_i h; rw [if_pos h] at q
   match ps, hp with
   | [], _ => simpa using q
   | [a], hp => have ha := hp a (by simp); simpa [atI_c0, F_name, ha] using q
   | _ :: _ :: r, _ =>
    have h1 : ¬ ((r.length : Int) + 1 + 1 = 1) := by omega
    simpa [h1] using q
  rename_i h; rw [if_neg h] at q
  clear h
  split
  ·rename_i h; rw [if_pos h] at q
   match ps, hp with
   | [], _ => simpa using q
   | [a], hp => have ha := hp a (by simp); simpa [atI_c0, F_rule, ha] using q
   | _ :: _ :: r, _ =>
    have h1 : ¬ ((r.length : Int) + 1 + 1 = 1) := by omega
    simpa [h1] using q
  rename_i h; rw [if_neg h] at q
  clear h
  split
  ·rename_i h; rw [if_pos h] at q
   match ps, hp with
   | [], _ => simpa using q
   | [a], _ => simpa using q
   | [a, b], hp =>
    have ha := hp a (by simp)
    have hb := hp b (by simp)
    simp [atI_c0, atI_c1, F_name, F_makers, ha, hb] at q ⊢
    generalize isNm a = A at *
    cases A <;> simp at q ⊢ <;> exact q
   | _ :: _ :: _ :: r, _ =>
    have h1 : ¬ ((r.length : Int) + 1 + 1 + 1 = 2) := by omega
    simpa [h1] using q
  rename_i h; rw [if_neg h] at q
  clear h
  split
  ·rename_i h; rw [if_pos h] at q
   match ps, hp with
   | [], _ => simpa using q
   | [a], _ => simpa using q
   | [a, b], hp =>
    have ha := hp a (by simp)
    have hb := thg_ne (hp b (by simp))
    simp [atI_c0, atI_c1, F_target, ha] at q ⊢
    generalize isTg a = A at *
    cases A <;> simp at q ⊢ <;> first | exact q | exact ⟨hb, q⟩
   | _ :: _ :: _ :: r, _ =>
    have h1 : ¬ ((r.length : Int) + 1 + 1 + 1 = 2) := by omega
    simpa [h1] using q
  ·rename_i h; rw [if_neg h] at q; exact q
def F_deedP : List PyData → (PyData → Prop) → Prop := fun ds Q => ∃ d, ds = [d] ∧ thg d = true ∧ Q (.bool (isDd d))
theorem ok_deedP (T : Txt K mg t) : FnOk P w K mg base CX0 5 t.a_x21 t.d_x21 ["thing"] (spD K F_deedP) := by
 have G_x14 := ok_name (P := P) (w := w) (base := base) T
 have G_x1 := ok_day (P := P) (w := w) (base := base) T
 have G_x20 := ok_partsP (P := P) (w := w) (base := base) T
 refine T.F_x21.okD sc_x21 (fun ds Q h => ?_) (fun cdv A outer s H O ds Q E hr h => ?_)
 ·obtain ⟨d, rfl, _⟩ := h; rfl
 ·obtain ⟨d, rfl, hd, q⟩ := h
  refine ⟨_, (dss_cons (ds_if (PW.pt (dw_or (dt_not (dt_val (de_isinC (K' := K) (T := "tuple") rfl rfl T.n_isinstance bt_isinstance (df (dv 0)) (pe_bltn (v := .ty "tuple") rfl T.n_tuple bt_tuple rfl)))) (dw_or1 (dt_cmp op_lt od_bl (df (PE.imp (pe_callB call_len_seq rfl T.n_len PySem.boot_len (db_cons (df (dv 0)) db_nil)) (dcb cd_len))) (df de_int) (nomark _))))) (dss_one (ds_ret de_bl)) dss_nil)
   (dss_one (ds_ret (de_and (PE.imp (pe_call G_x1 (hr.mono (by decide)) rfl T.m_x1 T.F_x1.kp T.b_x1 .nil pass0 (da_cons (de_ix ix_tup od_ixT (df (dv 0)) (df de_int)) da_nil)) dcall) (de_and (PE.imp (pe_call G_x14 (hr.mono (by decide)) rfl T.m_x14 T.F_x14.kp T.b_x14 .nil pass0 (da_cons (de_ix ix_tup od_ixT (df (dv 0)) (df de_int)) da_nil)) dcall) (de_one (PE.imp (pe_call G_x20 (hr.mono (by decide)) rfl T.m_x20 T.F_x20.kp T.b_x20 .nil pass0 (da_cons (de_ix ix_tup od_ixT (df (dv 0)) (df de_int)) (da_cons (de_sliceX (df (dv 0)) (do_some de_int) do_none) da_nil))) dcall))))))), ?_⟩
  walk_at "rz"
  simp only [kit_tuple]
  walk_at "rz"
  refine ⟨thg_ne hd, ?_⟩
  rcases tup_cases d with ⟨l, rfl⟩ | hn
  ·have hl := thg_tup hd
   simp only [isTupB]
   walk_at "rz"
   match l, hl with
   | [], _ => simpa [isDd] using q
   | [a], _ => simpa [isDd] using q
   | [a, b], _ => simpa [isDd] using q
   | w :: n :: x :: r, hl =>
    have h3 : ¬ ((((w :: n :: x :: r).length : Nat) : Int) < 3) := by simp only [List.length_cons]; omega
    rw [if_neg h3]
    have hw := hl w (by simp)
    have hn := hl n (by simp)
    have hx := hl x (by simp)
    have hr' : ∀ p ∈ r, thg p = true := fun p hp => hl p (by simp [hp])
    have ec : cutD (w :: n :: x :: r) (some 3) none = r := by rw [cutD_drop (by decide) (by simp only [List.length_cons]; omega)]; rfl
    simp only [isDd] at q
    refine ⟨_, atI_c1, n, rfl, hn, ?_⟩
    refine ⟨_, rfl, ?_⟩
    cases e1 : isDy n with
    | false => simpa [e1] using q
    | true =>
     rw [if_pos rfl]
     refine ⟨_, atI_c2, x, rfl, hx, _, rfl, ?_⟩
     cases e2 : isNm x with
     | false => simpa [e1, e2] using q
     | true =>
      rw [if_pos rfl]
      refine ⟨_, atI_c0, w, r, by rw [ec], hw, hr', ?_⟩
      simpa [e1, e2] using q
  ·rw [isTup_no hn]
   have e : isDd d = false := by
    unfold isDd; split
    ·exact absurd rfl (hn _)
    ·rfl
   rw [e] at q
   simpa using q
end
end K58

open PySem L2
namespace K58
section
variable {P : Program} {w : World} {K : PySem.W.Frag} {mg : Str → Option Value} {base : Heap} {t : Adr}
def sp_mixed : Sp := fun vs H Q _ => ∃ (c : Int), vs = [.int c] ∧ Builtin.Int.intBits c ≤ 2000000 ∧ ∀ n : Int, Q (.int n) H
theorem ok_mixed (T : Txt K mg t) : FnOk P w K mg base CX0 1 t.a_x31 t.d_x31 ["_law_cell"] sp_mixed := by
 refine T.F_x31.ok sc_x31 (fun vs H Q E h => ?_) (fun cdv A outer s H vs Q E hr h => ?_)
 ·obtain ⟨c, rfl, _⟩ := h; rfl
 ·obtain ⟨c, rfl, hb, k⟩ := h
  refine ⟨_, (pss_one (ps_ret (pe_op op_mod (pe_op op_mulB (pv 0) pe_int) (pe_op op_pow pe_int pe_int)))), ?_⟩
  walk_at "rd"
  refine ⟨IntMulOk.of_le (m := 2000000) (n := 256) hb (intBits_le_iff.mpr (by decide)) (by decide), ?_, ?_, k _⟩
  ·decide
  ·decide
theorem bits_small {x : Int} (h1 : 0 ≤ x) (h2 : x ≤ 1000000) : Builtin.Int.intBits x ≤ 20 := intBits_le_iff.mpr (by
 have : (2 : Nat) ^ 20 = 1048576 := by decide
 omega)
theorem ints_of {H : Hp} {O : Ex} {v : V} {ns : List Int} (h : Dt K H O v (scrD (ns.map .int))) : ∃ a, v = .ref a ∧ SqL K H a (ns.map V.int) := by
 obtain ⟨a, xs, rfl, hs, r⟩ := (Sh.dt h).scr
 refine ⟨a, rfl, ?_⟩
 have : xs = ns.map V.int := by
  clear hs h
  induction ns generalizing xs with
  | nil => rw [List.map_nil] at r; cases r; rfl
  | cons n ns ih =>
   rw [List.map_cons] at r
   cases r with
   | cons h r => cases h; rw [List.map_cons, ih _ r]
 rw [← this]; exact hs
theorem ok_pack (T : Txt K mg t) : FnOk P w K mg base CX0 2 t.a_x32 t.d_x32 ["_law_script", "_law_k"] (spD K F_pack) := by
 have G_x31 := ok_mixed (P := P) (w := w) (base := base) T
 refine T.F_x32.ok sc_x32 (fun vs H Q E h => ?_) (fun cdv A outer s H vs Q E hr h => ?_)
 ·obtain ⟨O, ds, Qd, _, r, ⟨ns, i, rfl, _⟩, _⟩ := h; exact r.length
 ·obtain ⟨O, ds, Qd, tr, r, ⟨ns, i, rfl, hb, i0, i1, q⟩, k⟩ := h
  cases r with
  | cons r1 r2 =>
   cases r2 with
   | cons r2 r3 =>
    cases r3
    cases r2
    obtain ⟨a, rfl, hS⟩ := ints_of r1
    refine ⟨_, PSs.newPack (pss_cons (ps_if (pt_cmpR op_lt (pv 1) (pe_callB call_len rfl T.n_len PySem.boot_len (pa_cons (pv 0) pa_nil)) (nomark _)) (pss_one (ps_ret (pe_lst (pa_cons (pe_call G_x31 (hr.mono (by decide)) rfl T.m_x31 T.F_x31.kp T.b_x31 .nil pass0 (pa_cons (pe_op op_add (pe_ix ix_list (pv 0) (pv 1) (fun _ _ => rfl)) (pe_op op_mul pe_int (pv 1))) pa_nil)) pa_nil)))) pss_nil)
   (pss_one (ps_ret (pe_lst (pa_cons (pe_call G_x31 (hr.mono (by decide)) rfl T.m_x31 T.F_x31.kp T.b_x31 .nil pass0 (pa_cons (pe_op op_add (pe_op op_mul pe_int (pv 1)) pe_int) pa_nil)) pa_nil))))), ?_⟩
    have fin : ∀ (n : Int) (p : Addr), H p = none → ∃ p' n', V.ref p = V.ref p' ∧ upd H p (.lst [.int n]) p' = some (.lst [.int n']) ∧ Q (.ref p) (upd (upd H p (.lst [.int n])) p' (packO p')) := fun n p hp =>
     ⟨p, n, rfl, upd_same, k _ _ _ q (fun b o e => by rw [upd_ne (ne_of_none e hp), upd_ne (ne_of_none e hp)]; exact e) (.pack upd_same fun z => tr p z hp)⟩
    walk_at "rd"
    refine ⟨ns.length, .inl ⟨_, hS, by simp⟩, ?_⟩
    split
    ·rename_i hlt
     obtain ⟨j, rfl⟩ := Int.eq_ofNat_of_zero_le i0
     have hj : j < ns.length := by omega
     refine ixL (v := .int ns[j]) hS (atI_nat (by simp [hj])) ⟨_, rfl, ?_⟩
     simp only [sp_mixed]
     walk_at "rd"
     refine ⟨?_, fun n => ⟨by show 1 ≤ sizeLine; decide, fun p hp => ?_⟩⟩
     ·have e1 := hb ns[j] (List.getElem_mem hj)
      have e2 : Builtin.Int.intBits (23 * (j : Int)) ≤ 20 := bits_small (by omega) (by omega)
      exact Nat.le_trans (intBits_add_le e1 e2) (by decide)
     ·simpa using fin n p hp
    ·simp only [sp_mixed]
     walk_at "rd"
     refine ⟨?_, fun n => ⟨by show 1 ≤ sizeLine; decide, fun p hp => ?_⟩⟩
     ·exact Nat.le_trans (bits_small (by omega) (by omega)) (by decide)
     ·simpa using fin n p hp
theorem ok_take (T : Txt K mg t) : FnOk P w K mg base CX0 1 t.a_x33 t.d_x33 ["_law_pack_here", "_law_size"] (spD K F_take) := by
 refine T.F_x33.ok sc_x33 (fun vs H Q E h => ?_) (fun cdv A outer s H vs Q E hr h => ?_)
 ·obtain ⟨O, ds, Qd, _, r, ⟨z, rfl, _⟩, _⟩ := h; exact r.length
 ·obtain ⟨O, ds, Qd, tr, r, ⟨z, rfl, z0, z1, qq⟩, k⟩ := h
  cases r with
  | cons r1 r2 =>
   cases r2 with
   | cons r2 r3 =>
    cases r3
    cases r2
    cases r1 with
    | @pack p hp hn =>
     refine ⟨_, PSs.pack (pss_cons (ps_asg (pe_callB call_divmod rfl T.n_divmod bt_divmod (pa_cons (pe_ix ix_list (pv 0) pe_int (fun _ _ => rfl)) (pa_cons (pv 1) pa_nil))) (pg_tup (n := 2) rfl (pgs_cons (pg_sub (pv 0) pe_int set_list) (pgs_cons (pg_name (i := 2) sc_x33.nd rfl (by walk_at "o")) pgs_nil))))
   (pss_one (ps_ret (pv 2)))), p, hp, fun n => ?_⟩
     walk_at "rd"
     refine ixL (SqL.of upd_same) rfl ⟨n, rfl, z0, by omega, fun q hq => ?_⟩
     have hpq : p ≠ q := ne_of_none upd_same hq
     refine ⟨_, SqT.of upd_same, rfl, _, _, rfl, ?_⟩
     refine ⟨p, [.int n], 0, 0, rfl, rfl, by rw [upd_ne hpq, upd_same], rfl, ?_⟩
     refine ⟨_, _, rfl, rfl, ?_⟩
     refine ⟨⟨_, upd_same⟩, k _ _ _ (qq (n % z) (Int.emod_nonneg _ (by omega)) (Int.emod_lt_of_pos _ z0)) (fun b o e => ?_) (.int _)⟩
     by_cases hb : b = p
     ·subst hb; rw [upd_same, ← hp, e]
     ·have hbq : b ≠ q := fun y => by
       subst y
       rw [upd_ne hb] at hq; rw [hq] at e; cases e
      rw [upd_ne hb, upd_ne hb, upd_ne hbq, upd_ne hb]; exact e
end
end K58

set_option maxHeartbeats 1000000
open PySem L2
namespace K58
theorem cs_x34_0 : CompScope (defScope s_x34) ["_law_pack_here", "_law_many", "_law_letters", "_law_words", "_law_turn", "_law_size", "_law_at", "_law_stem", "_law_first"] ["_law_k", "_law_letters", "_law_pack_here"] 1 [2, 0] { kind := PySem.ScopeKind.function, names := [ (PySem.Str.ofString ".0", PySem.NameKind.local), (PySem.Str.ofString "_law_k", PySem.NameKind.local), (PySem.Str.ofString "_law_take", PySem.NameKind.globalImplicit), (PySem.Str.ofString "_law_letters", PySem.NameKind.free), (PySem.Str.ofString "_law_pack_here", PySem.NameKind.free)], isGenerator := false, isCoroutine := false, more := [] : PySem.Scope } := ⟨rfl, by decide +kernel, by decide +kernel, by decide +kernel, rfl, by decide +kernel, by decide +kernel, by decide +kernel, rfl⟩
theorem cs_x34_1 : CompScope (defScope s_x34) ["_law_pack_here", "_law_many", "_law_letters", "_law_words", "_law_turn", "_law_size", "_law_at", "_law_stem", "_law_first"] ["_law_k", "_law_stem", "_law_letters", "_law_at", "_law_first"] 1 [7, 2, 6, 8] { kind := PySem.ScopeKind.function, names := [ (PySem.Str.ofString ".0", PySem.NameKind.local), (PySem.Str.ofString "_law_k", PySem.NameKind.local), (PySem.Str.ofString "_law_at", PySem.NameKind.free), (PySem.Str.ofString "_law_first", PySem.NameKind.free), (PySem.Str.ofString "_law_letters", PySem.NameKind.free), (PySem.Str.ofString "_law_stem", PySem.NameKind.free)], isGenerator := false, isCoroutine := false, more := [] : PySem.Scope } := ⟨rfl, by decide +kernel, by decide +kernel, by decide +kernel, rfl, by decide +kernel, by decide +kernel, by decide +kernel, rfl⟩
section
variable {P : Program} {w : World} {K : PySem.W.Frag} {mg : Str → Option Value} {base : Heap} {t : Adr}
structure Names (ns : List Str) : Prop where
 len : ns.length = 5
 nd : ns.Nodup
 nm : ∀ n ∈ ns, Nm n
def words : List Str := ["paper", "kind", "keep", "days", "coming", "first", "deep", "none", "never", "gone", "held", "rule", "last", "end", "hold", "lift", "leave", "happens", "while", "follow", "months", "years"]
theorem words_nd : words.Nodup := by decide +kernel
theorem words_nm : ∀ n ∈ words, isNm (.str n) = true := by decide +kernel
theorem words_Nm {n : Str} (h : n ∈ words) : Nm n := by
 obtain ⟨z, e, hz⟩ := nm_str (words_nm n h)
 injection e with e; rw [e]; exact hz
theorem words_mem {j : Nat} {n : Str} (h : n ∈ words.drop j ++ words.take j) : n ∈ words := by
 rcases List.mem_append.mp h with z | z
 ·exact List.mem_of_mem_drop z
 ·exact List.mem_of_mem_take z
theorem abcAt_mem {j : Int} (h0 : 0 ≤ j) (h1 : j < 26) : abcAt j ∈ abc.cps.toList := by
 obtain ⟨c, _, e2, _⟩ := abc_at h0 h1
 have : abcAt j = c := by unfold abcAt; rw [e2]; rfl
 rw [this]; exact List.mem_of_getElem? e2
def nameAt (a b : Str) (fi : Int) (k : Nat) : Str := a ++ ⟨#[abcAt ((fi + 5 * (k : Int)) % 26)]⟩ ++ b
def F_names : List PyData → (PyData → Prop) → Prop := fun ds Q => ds = [packD, .int 5] ∧ ∀ ns, Names ns → Q (.list (ns.map .str))
theorem ok_names (T : Txt K mg t) : FnOk P w K mg base CX0 2 t.a_x34 t.d_x34 ["_law_pack_here", "_law_many"] (spD K F_names) := by
 have G_x33 := ok_take (P := P) (w := w) (base := base) T
 refine T.F_x34.okD sc_x34 (fun ds Q h => ?_) (fun cdv A outer s H O ds Q E hr h => ?_)
 ·obtain ⟨rfl, _⟩ := h; rfl
 ·obtain ⟨rfl, q⟩ := h
  refine' ⟨_, ?body, ?read⟩
  case body =>
   refine' dss_cons ?s1 ?r1
   case s1 => exact (ds_set (i := 2) sc_x34.nd rfl (by walk_at "o") de_str)
   case' r1 => refine' dss_cons ?s3 ?r3
   case s3 =>
    refine' ds_if ?c4 ?a4 dss_nil
    case c4 => exact (dt_cmp (op_eqX hr.units) od_eq (df (PE.imp (pe_call G_x33 (hr.mono (by decide)) rfl T.m_x33 T.F_x33.kp T.b_x33 .nil pass0 (da_cons (dv 0) (da_cons de_int da_nil))) dcall)) (df de_int) (nomark _))
    case' a4 => refine' dss_cons ?s5 ?r5
    case s5 =>
     generalize hE6_0 : Expr.List _ _ = ee6_0
     exact ds_set (i := 3) sc_x34.nd rfl (by walk_at "o") (fe (fe_lits (ds := [.str "paper", .str "kind", .str "keep", .str "days", .str "coming", .str "first", .str "deep", .str "none", .str "never", .str "gone", .str "held", .str "rule"]) (by first | (subst hE6_0; rfl)))) (hs := swaps_lits (ds := [.str "paper", .str "kind", .str "keep", .str "days", .str "coming", .str "first", .str "deep", .str "none", .str "never", .str "gone", .str "held", .str "rule"]) (by first | (subst hE6_0; rfl)))
    case' r5 => refine' dss_cons ?s7 ?r7
    case s7 =>
     generalize hE8_0 : Expr.List _ _ = ee8_0
     exact (ds_set (i := 3) sc_x34.nd rfl (by walk_at "o") (fe (fe_cat (df (dv 3)) (df (fe (fe_lits (ds := [.str "last", .str "end", .str "hold", .str "lift", .str "leave", .str "happens", .str "while", .str "follow", .str "months", .str "years"]) (by first | (subst hE8_0; rfl))))))))
    case' r7 => refine' dss_cons ?s9 ?r9
    case s9 => exact (ds_set (i := 4) sc_x34.nd rfl (by walk_at "o") (PE.imp (pe_call G_x33 (hr.mono (by decide)) rfl T.m_x33 T.F_x33.kp T.b_x33 .nil pass0 (da_cons (dv 0) (da_cons (PE.imp (pe_callB call_len_seq rfl T.n_len PySem.boot_len (db_cons (df (dv 3)) db_nil)) (dcb cd_len)) da_nil))) dcall))
    case' r9 => refine' dss_one ?s11
    case' s11 => refine' ds_ret ?e12
    case' e12 => refine' fe ?f13
    case f13 => exact (fe_slice (df (fe (fe_cat (df (fe (fe_slice (df (dv 3)) (do_some (dv 4)) do_none))) (df (fe (fe_slice (df (dv 3)) do_none (do_some (dv 4)))))))) do_none (do_some (dv 1)))
   case' r3 => refine' dss_cons ?s15 ?r15
   case s15 => exact (ds_set (i := 5) sc_x34.nd rfl (by walk_at "o") (de_op op_add od_int (df de_int) (df (PE.imp (pe_call G_x33 (hr.mono (by decide)) rfl T.m_x33 T.F_x33.kp T.b_x33 .nil pass0 (da_cons (dv 0) (da_cons de_int da_nil))) dcall))))
   case' r15 => refine' dss_cons ?s17 ?r17
   case s17 => exact (ds_set (i := 6) sc_x34.nd rfl (by walk_at "o") (PE.imp (pe_call G_x33 (hr.mono (by decide)) rfl T.m_x33 T.F_x33.kp T.b_x33 .nil pass0 (da_cons (dv 0) (da_cons (dv 5) da_nil))) dcall))
   case' r17 => refine' dss_cons ?s19 ?r19
   case s19 =>
    refine' ds_set (i := 7) sc_x34.nd rfl (by walk_at "o") ?e20 (hs := swaps_Call)
    case e20 => exact (de_join de_str (df (fe (fe_compRI rfl cs_x34_0 rfl T.n_range (db_cons (df (dv 5)) db_nil) gd_name keepName (by decide) (fun _ _ _ _ => (pg_name (i := 0) cs_x34_0.nd rfl (by walk_at "o"))) (fun _ _ _ _ => pf_nilD) (fun _ _ _ _ => (de_ix ix_str od_ixS (df (dv 1)) (df (PE.imp (pe_call G_x33 (hr.mono (by decide)) rfl T.m_x33 T.F_x33.kp T.b_x33 .nil pass0 (da_cons (dv 2) (da_cons de_int da_nil))) dcall))))))))
   case' r19 => refine' dss_cons ?s22 ?r22
   case s22 => exact (ds_set (i := 8) sc_x34.nd rfl (by walk_at "o") (PE.imp (pe_call G_x33 (hr.mono (by decide)) rfl T.m_x33 T.F_x33.kp T.b_x33 .nil pass0 (da_cons (dv 0) (da_cons de_int da_nil))) dcall))
   case' r22 => refine' dss_one ?s24
   case' s24 => refine' ds_ret ?e25
   case' e25 => refine' fe ?f26
   case f26 => exact (fe_compRI rfl cs_x34_1 rfl T.n_range (db_cons (df (dv 1)) db_nil) gd_name keepName (by decide) (fun _ _ _ _ => (pg_name (i := 0) cs_x34_1.nd rfl (by walk_at "o"))) (fun _ _ _ _ => pf_nilD) (fun _ _ _ _ => (de_op op_add_str od_addS (df (de_op op_add_str od_addS (df (de_sliceS (df (dv 1)) do_none (do_some (dv 3)))) (df (de_ix ix_str od_ixS (df (dv 2)) (df (de_op op_mod od_intC (df (de_op op_add od_int (df (dv 4)) (df (de_op op_mul od_intC (df de_int) (df (dv 0)))))) (df de_int))))))) (df (de_sliceS (df (dv 1)) (do_some (de_op op_add od_int (df (dv 3)) (df de_int))) do_none)))))
  case read =>
  walk_at "rz"
  rw [show ([PyData.str "paper", PyData.str "kind", PyData.str "keep", PyData.str "days", PyData.str "coming", PyData.str "first", PyData.str "deep", PyData.str "none", PyData.str "never", PyData.str "gone", PyData.str "held", PyData.str "rule", PyData.str "last", PyData.str "end", PyData.str "hold", PyData.str "lift", PyData.str "leave", PyData.str "happens", PyData.str "while", PyData.str "follow", PyData.str "months", PyData.str "years"] : List PyData) = words.map PyData.str from rfl]
  have hl : (words.map PyData.str).length = 22 := rfl
  intro c c0 c1
  split
  ·refine ⟨by decide, by decide, fun j j0 j1 => ?_⟩
   have j2 : j < 22 := j1
   have hj : (j.toNat : Int) = j := Int.toNat_of_nonneg j0
   rw [cutD_drop j0 (by rw [hl]; omega), cutD_take j0 (by rw [hl]; omega)]
   have e5 : ((words.map PyData.str).drop j.toNat ++ (words.map PyData.str).take j.toNat) = (words.drop j.toNat ++ words.take j.toNat).map PyData.str := by
    rw [List.map_append, List.map_drop, List.map_take]
   have l5 : (words.drop j.toNat ++ words.take j.toNat).length = 22 := by
    rw [List.length_append, List.length_drop, List.length_take, show words.length = 22 from rfl]; omega
   refine ⟨by rw [List.length_drop, List.length_take, hl]; omega, ?_⟩
   rw [e5, cutD_take (by decide) (by rw [List.length_map, l5]; decide), ← List.map_take]
   refine q _ ⟨by rw [List.length_take, l5]; rfl, ?_, fun n hn => ?_⟩
   ·refine List.Nodup.sublist (List.take_sublist _ _) ?_
    have hp : (words.drop j.toNat ++ words.take j.toNat).Perm words := by
     have := List.perm_append_comm (l₁ := words.drop j.toNat) (l₂ := words.take j.toNat)
     rwa [List.take_append_drop] at this
    exact hp.nodup_iff.mpr words_nd
   ·exact words_Nm (words_mem (List.mem_of_mem_take hn))
  ·intro x x0 x1
   refine ⟨by omega, by omega, fun at0 a0 a1 => ⟨by omega, by have : (16777216 : Nat) = (16777216 : Int) := rfl; omega, ?_⟩⟩
   refine compI_all (fun y => ∃ c, y = .str ⟨#[c]⟩ ∧ c ∈ abc.cps.toList) (fun y hy R hR => ?_) fun ds hdl hds => ?_
   ·obtain ⟨k, hk, rfl⟩ := List.mem_map.mp hy
    walk_at "rz"
    refine fun j j0 j1 => ⟨by decide +kernel, ?_⟩
    obtain ⟨ch, e1, e2, _⟩ := abc_at j0 j1
    exact ⟨ch, e1, hR _ ⟨ch, rfl, List.mem_of_getElem? e2⟩⟩
   ·obtain ⟨cs, rfl, hcs⟩ : ∃ cs : List Nat, ds = (cs.map fun c => (⟨#[c]⟩ : Str)).map .str ∧ ∀ c ∈ cs, c ∈ abc.cps.toList := by
     clear hdl
     induction ds with
     | nil => exact ⟨[], rfl, by simp⟩
     | cons d r ih =>
      obtain ⟨c, rfl, hc⟩ := hds d (by simp)
      obtain ⟨cs, rfl, h⟩ := ih fun y hy => hds y (by simp [hy])
      exact ⟨c :: cs, rfl, fun z hz => by
       rcases List.mem_cons.mp hz with e | e
       ·rw [e]; exact hc
       ·exact h z e⟩
    rw [rangeD_len, List.length_map, List.length_map] at hdl
    have jc : (Txt.join "" (cs.map fun c => (⟨#[c]⟩ : Str))).cps.toList = cs := by
     rw [join_cps, List.map_map]
     clear hdl hds hcs
     induction cs with
     | nil => rfl
     | cons c r ih => rw [List.map_cons, List.flatten_cons, ih]; rfl
    have sm : ((cs.map fun c => (⟨#[c]⟩ : Str)).map fun x => x.length).sum = cs.length := by
     clear hdl hds hcs jc
     induction cs with
     | nil => rfl
     | cons c r ih =>
      simp only [List.map_cons, List.sum_cons, List.length_cons] at ih ⊢
      rw [ih, show (⟨#[c]⟩ : Str).length = 1 from rfl]; omega
    refine ⟨_, rfl, by rw [sm, List.length_map, show (Str.ofString "").length = 0 by decide +kernel]; omega, fun fi f0 f1 => ⟨by decide, ?_⟩⟩
    have hst : (Txt.join "" (cs.map fun c => (⟨#[c]⟩ : Str))).length = cs.length := by rw [len_cps, jc]
    generalize Txt.join "" (cs.map fun c => (⟨#[c]⟩ : Str)) = stem at *
    have cA : (Txt.slice stem none (some at0)).cps.toList = cs.take at0.toNat := by rw [slice_cps, jc, cutN_take a0 (by omega)]
    have cB : (Txt.slice stem (some (at0 + 1)) none).cps.toList = cs.drop (at0 + 1).toNat := by rw [slice_cps, jc, cutN_drop (by omega) (by omega)]
    have lA : (Txt.slice stem none (some at0)).length = at0.toNat := by rw [len_cps, cA, List.length_take]; omega
    have lB : (Txt.slice stem (some (at0 + 1)) none).length = cs.length - (at0 + 1).toNat := by rw [len_cps, cB, List.length_drop]
    have lc : ∀ j, (⟨#[j]⟩ : Str).length = 1 := fun _ => rfl
    refine compI_map (fun y => match y with | .int k => .str (nameAt (Txt.slice stem none (some at0)) (Txt.slice stem (some (at0 + 1)) none) fi k.toNat) | _ => .none) (fun y hy R hR => ?_) ?_
    ·obtain ⟨k, hk, rfl⟩ := List.mem_map.mp hy
     walk_at "rz"
     simp only [Int.zero_add, Int.toNat_natCast] at hR ⊢
     have r0 : 0 ≤ (fi + 5 * (k : Int)) % 26 := by omega
     have r1 : (fi + 5 * (k : Int)) % 26 < 26 := by omega
     obtain ⟨e1, e2⟩ := abcAt_at r0 r1
     refine ⟨by omega, by decide +kernel, _, e1, by rw [lA, lc]; omega, by omega, ?_⟩
     exact ⟨by rw [len_append, lA, lB, lc]; omega, hR⟩
    ·have e : (rangeD 0 (Int.toNat 5)).map (fun y => match y with | .int k => PyData.str (nameAt (Txt.slice stem none (some at0)) (Txt.slice stem (some (at0 + 1)) none) fi k.toNat) | _ => .none) = ((List.range 5).map fun (k : Nat) => nameAt (Txt.slice stem none (some at0)) (Txt.slice stem (some (at0 + 1)) none) fi k).map .str := by
      unfold rangeD; rw [List.map_map, List.map_map]
      refine List.map_congr_left fun k _ => ?_
      simp only [Function.comp, Int.zero_add, Int.toNat_natCast]
     rw [e]
     refine q _ ⟨by simp, ?_, fun n hn => ?_⟩
     ·rw [List.Nodup, List.pairwise_map]
      refine List.Pairwise.imp_of_mem ?_ (List.nodup_range (n := 5))
      intro a b ha hb hab e
      have ha' := List.mem_range.mp ha
      have hb' := List.mem_range.mp hb
      have z := ext_mid e
      have := abcAt_inj (by omega) (by omega) (by omega) (by omega) z
      omega
     ·obtain ⟨k, _, rfl⟩ := List.mem_map.mp hn
      have r0 : 0 ≤ (fi + 5 * (k : Int)) % 26 := by omega
      have r1 : (fi + 5 * (k : Int)) % 26 < 26 := by omega
      unfold nameAt
      refine ⟨by rw [len_append, len_append, lA, lB, lc]; omega, by rw [len_append, len_append, lA, lB, lc]; omega, fun c hc => ?_⟩
      simp only [cps_append, Array.toList_append, List.mem_append] at hc
      rcases hc with (h | h) | h
      ·rw [cA] at h; exact hcs c (List.mem_of_mem_take h)
      ·have : c = abcAt ((fi + 5 * (k : Int)) % 26) := by simpa using h
       rw [this]; exact abcAt_mem r0 r1
      ·rw [cB] at h; exact hcs c (List.mem_of_mem_drop h)
end
end K58

open PySem L2
namespace K58
open Day
section
variable {P : Program} {w : World} {K : PySem.W.Frag} {mg : Str → Option Value} {base : Heap} {t : Adr}
theorem dtx_uniq {d y m n y' m' n' : Int} (D : DateOf d y m n) (D' : DateOf d y' m' n') : dtx y m n = dtx y' m' n' := by
 obtain ⟨rfl, rfl, rfl⟩ := D.uniq D'; rfl
open Classical in
noncomputable def dayT (d : Int) : Str := if h : ∃ z y m n, DateOf d y m n ∧ z = dtx y m n then h.choose else Str.ofString ""
theorem dayT_eq {d y m n : Int} (D : DateOf d y m n) : dtx y m n = dayT d := by
 have h : ∃ z y m n, DateOf d y m n ∧ z = dtx y m n := ⟨_, y, m, n, D, rfl⟩
 unfold dayT
 rw [dif_pos h]
 obtain ⟨y', m', n', D', e⟩ := h.choose_spec
 rw [e]; exact dtx_uniq D D'
def sinT : PyData → List Str
 | .tuple [.str a] => [a]
 | .tuple [.str a, .str b] => [a, b]
 | _ => []
def ruleW : PyData → List Str
 | .tuple [.str w, .str k] => [w, k]
 | .tuple [.str w, .str k, s, .int m, .str u] => [w, k, Txt.join (Str.ofString ":") (sinT s), Str.ofString (toString m), u]
 | _ => []
def strsD : PyData → List Str
 | .tuple l => l.filterMap fun d => match d with | .str z => some z | _ => none
 | _ => []
def partW : List PyData → List Str
 | [.str k, .tuple l] => k :: strsD (.tuple l)
 | [.tuple [.str g, .str y], .bool b] => [g, y] ++ if b = true then [Str.ofString "deep"] else []
 | [.str y] => [y]
 | [.tuple l] => ruleW (.tuple l)
 | _ => []
theorem strsD_map (ms : List Str) : strsD (.tuple (ms.map .str)) = ms := by
 show List.filterMap _ (ms.map PyData.str) = ms
 rw [List.filterMap_map]
 exact List.filterMap_some
theorem l_c : (Str.ofString ":").length = 1 := by decide +kernel
theorem l_s : (Str.ofString " ").length = 1 := by decide +kernel
theorem sinT_of {s : PyData} (h : SinceV s) : s = .tuple ((sinT s).map .str) ∧ ((sinT s).map (fun x : Str => x.length)).sum + (sinT s).length * (Str.ofString ":").length ≤ 16777216 := by
 rw [l_c]
 cases h with
 | coming => exact ⟨rfl, by decide +kernel⟩
 | @first h hn =>
  refine ⟨rfl, ?_⟩
  have a : (Str.ofString "first").length = 5 := by decide +kernel
  have := hn.hi
  simp only [sinT, List.map_cons, List.map_nil, List.sum_cons, List.sum_nil, List.length_cons, List.length_nil, a]; omega
 | @last h hn =>
  refine ⟨rfl, ?_⟩
  have a : (Str.ofString "last").length = 4 := by decide +kernel
  have := hn.hi
  simp only [sinT, List.map_cons, List.map_nil, List.sum_cons, List.sum_nil, List.length_cons, List.length_nil, a]; omega
theorem deed_form {d : PyData} (h : DeedV d) : ∃ w n x r, d = .tuple (.str w :: .int n :: .str x :: r) ∧ isDayN n := by
 cases h with
 | paper a => exact ⟨_, _, _, _, rfl, a⟩
 | two _ a => exact ⟨_, _, _, _, rfl, a⟩
 | rule a => exact ⟨_, _, _, _, rfl, a⟩
 | one _ a => exact ⟨_, _, _, _, rfl, a⟩
 | hold a => exact ⟨_, _, _, _, rfl, a⟩
def F_ruleW : List PyData → (PyData → Prop) → Prop := fun ds Q => ∃ p, ds = [p] ∧ RuleV p ∧ Q (.list ((ruleW p).map .str))
theorem ok_ruleW (T : Txt K mg t) : FnOk P w K mg base CX0 1 t.a_x22 t.d_x22 ["parts"] (spD K F_ruleW) := by
 refine T.F_x22.okD sc_x22 (fun ds Q h => ?_) (fun cdv A outer s H O ds Q E hr h => ?_)
 ·obtain ⟨p, rfl, _⟩ := h; rfl
 ·obtain ⟨p, rfl, hp, q⟩ := h
  refine' ⟨_, ?body, ?read⟩
  case body =>
   refine' dss_cons ?s1 ?r1
   case s1 =>
    refine' ds_if ?c2 ?a2 dss_nil
    case c2 => exact (dt_cmp (op_eqX hr.units) od_eq (df (PE.imp (pe_callB call_len_seq rfl T.n_len PySem.boot_len (db_cons (df (dv 0)) db_nil)) (dcb cd_len))) (df de_int) (nomark _))
    case' a2 => refine' dss_one ?s3
    case s3 => exact (ds_ret (fe (fe_listOf rfl T.n_list bt_list (db_cons (df (dv 0)) db_nil))))
   case' r1 => refine' dss_one ?s5
   case' s5 => generalize hG6 : Expr.List _ _ = eg6
   refine' ds_ret ?e6
   case' e6 => subst hG6
   refine' fe ?f7
   case' f7 => refine' fe_lst ?g8
   case' g8 => refine' da_cons ?u9 ?w9
   case u9 => exact (de_ix ix_tup od_ixT (df (dv 0)) (df de_int))
   case' w9 => refine' da_cons ?u11 ?w11
   case u11 => exact (de_ix ix_tup od_ixT (df (dv 0)) (df de_int))
   case' w11 => refine' da_cons ?u13 ?w13
   case u13 => exact (de_joinT de_str (df (de_ix ix_tup od_ixT (df (dv 0)) (df de_int))))
   case' w13 => refine' da_cons ?u15 ?w15
   case u15 => exact (PE.imp (pe_callTy call_str_int rfl T.n_str bt_str (db_cons (df (de_ix ix_tup od_ixT (df (dv 0)) (df de_int))) db_nil)) (dcb cd_strI))
   case' w15 => refine' da_cons ?u17 da_nil
   case u17 => exact (de_ix ix_tup od_ixT (df (dv 0)) (df de_int))
  case read =>
  clear hr T
  cases hp with
  | wfl hw hk =>
   walk_at "rz"
   rw [if_pos (by decide)]
   exact q
  | kg hw hk hs h0 h1 hu =>
   walk_at "rz"
   rw [if_neg (by decide)]
   obtain ⟨e, z⟩ := sinT_of hs
   exact ⟨_, e, z, log_lt h0 (by omega), q⟩
def F_partW : List PyData → (PyData → Prop) → Prop := fun ds Q => ∃ (w : Str) (r : List PyData) (n : Int) (x : Str), ds = [.str w, .tuple r] ∧ DeedV (.tuple (.str w :: .int n :: .str x :: r)) ∧ Q (.list ((partW r).map .str))
theorem ok_partW (T : Txt K mg t) : FnOk P w K mg base CX0 2 t.a_x23 t.d_x23 ["word", "parts"] (spD K F_partW) := by
 have G_x22 := ok_ruleW (P := P) (w := w) (base := base) T
 refine T.F_x23.okD sc_x23 (fun ds Q h => ?_) (fun cdv A outer s H O ds Q E hr h => ?_)
 ·obtain ⟨w, r, n, x, rfl, _⟩ := h; rfl
 ·obtain ⟨w, r, n, x, rfl, hd, q⟩ := h
  refine' ⟨_, ?body, ?read⟩
  case body =>
   refine' dss_cons ?s1 ?r1
   case s1 =>
    refine' ds_if ?c2 ?a2 dss_nil
    case c2 => exact (dt_cmp (op_eqZ hr) od_eqZ (df (dv 0)) (df de_str) (nomark _))
    case' a2 => refine' dss_one ?s3
    case' s3 => refine' ds_ret ?e4
    case' e4 => refine' fe ?f5
    case' f5 => refine' fe_cat (df ?a6) (df ?b6)
    case a6 => exact (fe (fe_lst (da_cons (de_ix ix_tup od_ixT (df (dv 1)) (df de_int)) da_nil)))
    case b6 => exact (fe (fe_listOf rfl T.n_list bt_list (db_cons (df (de_ix ix_tup od_ixT (df (dv 1)) (df de_int))) db_nil)))
   case' r1 => refine' dss_cons ?s9 ?r9
   case s9 =>
    refine' ds_if ?c10 ?a10 dss_nil
    case c10 => exact (dt_cmp (op_eqZ hr) od_eqZ (df (dv 0)) (df de_str) (nomark _))
    case' a10 => refine' dss_one ?s11
    case s11 => exact (ds_ret (PE.imp (pe_call G_x22 (hr.mono (by decide)) rfl T.m_x22 T.F_x22.kp T.b_x22 .nil pass0 (da_cons (de_ix ix_tup od_ixT (df (dv 1)) (df de_int)) da_nil)) dcall))
   case' r9 => refine' dss_cons ?s13 ?r13
   case s13 =>
    refine' ds_if ?c14 ?a14 dss_nil
    case c14 => exact (dt_cmp (op_eqZ hr) od_eqZ (df (dv 0)) (df de_str) (nomark _))
    case' a14 => refine' dss_one ?s15
    case' s15 => refine' ds_ret ?e16
    case' e16 => refine' fe ?f17
    case' f17 => refine' fe_cat (df ?a18) (df ?b18)
    case a18 => exact (fe (fe_listOf rfl T.n_list bt_list (db_cons (df (de_ix ix_tup od_ixT (df (dv 1)) (df de_int))) db_nil)))
    case b18 => exact (de_ifExp (dt_val (de_ix ix_tup od_ixT (df (dv 1)) (df de_int))) (fe (fe_lst (da_cons de_str da_nil))) (fe (fe_lst da_nil)))
   case' r13 => refine' dss_one ?s21
   case s21 => exact (ds_ret (fe (fe_listOf rfl T.n_list bt_list (db_cons (df (dv 1)) db_nil))))
  case read =>
  clear hr T G_x22
  have nw : ∀ {u v : Str} {l : List Str}, u ∈ l → (∀ z ∈ l, z ≠ v) → (u == v) = false := fun h h2 => by simpa using h2 _ h
  cases hd with
  | @paper _ _ k ms _ _ _ hm =>
   walk_at "rz"
   have := hm.len
   refine ⟨by rw [List.length_map]; omega, ?_⟩
   have e : partW [PyData.str k, PyData.tuple (List.map PyData.str ms)] = k :: ms := by
    show k :: strsD (.tuple (ms.map .str)) = _
    rw [strsD_map]
   rw [e] at q; exact q
  | two hw =>
   walk_at "rz"
   rw [nw hw (by decide +kernel), nw hw (by decide +kernel), nw hw (by decide +kernel), if_neg Bool.false_ne_true, if_neg Bool.false_ne_true, if_neg Bool.false_ne_true]
   exact q
  | rule _ _ hp =>
   walk_at "rz"
   refine ⟨_, rfl, hp, ?_⟩
   cases hp <;> exact q
  | one hw =>
   walk_at "rz"
   rw [nw hw (by decide +kernel), nw hw (by decide +kernel), nw hw (by decide +kernel), if_neg Bool.false_ne_true, if_neg Bool.false_ne_true, if_neg Bool.false_ne_true]
   exact q
  | @hold _ _ g y b =>
   walk_at "rz"
   cases b
   ·rw [if_neg Bool.false_ne_true]; exact q
   ·rw [if_pos rfl]; exact q
noncomputable def deedW : PyData → List Str
 | .tuple (.str w :: .int n :: .str x :: r) => w :: dayT n :: x :: partW r
 | _ => []
noncomputable def deedT (d : PyData) : Str := Txt.join (Str.ofString " ") (deedW d)
def Wz (z : Str) : Prop := z.length ≤ 20 ∧ ∀ c ∈ z.cps.toList, c ≠ 32 ∧ c < 128
theorem abc_ok : ∀ c ∈ abc.cps.toList, (c ≠ 32 ∧ c < 128) ∧ c ≠ 58 := by decide +kernel
theorem nm_wz {z : Str} (h : Nm z) : Wz z := ⟨Nat.le_trans h.hi (by decide), fun c hc => (abc_ok c (h.ab _ hc)).1⟩
theorem nm_nc {z : Str} (h : Nm z) : 58 ∉ z.cps.toList := fun c => (abc_ok 58 (h.ab _ c)).2 rfl
theorem wz_32 {z : Str} (h : Wz z) : 32 ∉ z.cps.toList := fun c => (h.2 32 c).1 rfl
theorem day_lt {n : Int} (h : isDayN n) : n < ystart 10000 := by
 have : ystart 10000 = 2921940 := by decide
 have := h.2; omega
theorem dayT_wz {n : Int} (h : isDayN n) : Wz (dayT n) := by
 unfold dayT
 split
 ·rename_i hx
  obtain ⟨y, m, k, D, e⟩ := hx.choose_spec
  rw [e]
  refine ⟨by rw [dtx_len]; decide, ?_⟩
  have e : (dtx y m k).cps.toList = d4 y.toNat ++ 45 :: (d2 m.toNat ++ 45 :: d2 k.toNat) := by simp [dtx, dtL]
  have hy := year_bd D h.1 (day_lt h)
  have hb := mlen_bd (y := y) D.m1 D.m12
  have := D.m12; have := D.nl
  intro c hc
  rw [e] at hc
  simp only [d4, d2, List.cons_append, List.nil_append, List.mem_cons, List.not_mem_nil, or_false] at hc
  rcases hc with h | h | h | h | h | h | h | h | h | h <;> omega
 ·unfold Wz; decide +kernel
theorem map_toL : ∀ {a b : List Str}, a.map (fun p : Str => p.cps.toList) = b.map (fun p : Str => p.cps.toList) → a = b
 | [], [], _ => rfl
 | [], _ :: _, h => by simp at h
 | _ :: _, [], h => by simp at h
 | ⟨⟨x⟩⟩ :: a, ⟨⟨y⟩⟩ :: b, h => by
  simp only [List.map_cons, List.cons.injEq] at h
  rw [map_toL h.2, h.1]
theorem split_join {c : Nat} {ws : List Str} (hn : ws ≠ []) (h : ∀ z ∈ ws, c ∉ z.cps.toList) : Txt.split (Txt.join ⟨#[c]⟩ ws) ⟨#[c]⟩ = ws := by
 have e : Txt.join ⟨#[c]⟩ ws = Str.join ⟨#[c]⟩ ws := StrLaws.glued_eq_join _ _
 have h1 := split_one (Txt.join ⟨#[c]⟩ ws) c
 rw [e, join_glue, splitL_glue c _ (by simpa using hn) (fun p hp => by obtain ⟨q, hq, rfl⟩ := List.mem_map.mp hp; exact h q hq)] at h1
 rw [e]
 exact map_toL h1
theorem e_c : Str.ofString ":" = ⟨#[58]⟩ := by decide +kernel
theorem e_s : Str.ofString " " = ⟨#[32]⟩ := by decide +kernel
def numZ (m : Int) : Str := Str.ofString (toString m)
theorem num_all : ∀ m : Fin 1000, ((numZ (m.val : Int)).length ≤ 3 ∧ 1 ≤ (numZ (m.val : Int)).length) ∧ isFigs (numZ (m.val : Int)) ((numZ (m.val : Int)).length : Int) = true ∧ (1 < (numZ (m.val : Int)).length → (numZ (m.val : Int)).cps.toList.headD 48 ≠ 48) ∧ (numZ (m.val : Int)).cps.toList.all (fun c => decide (48 ≤ c ∧ c ≤ 57)) = true := by decide +kernel
theorem num_at {m : Int} (h0 : 0 ≤ m) (h1 : m ≤ 999) : ((numZ m).length ≤ 3 ∧ 1 ≤ (numZ m).length) ∧ isFigs (numZ m) ((numZ m).length : Int) = true ∧ (1 < (numZ m).length → (numZ m).cps.toList.headD 48 ≠ 48) ∧ (numZ m).cps.toList.all (fun c => decide (48 ≤ c ∧ c ≤ 57)) = true := by
 obtain ⟨k, rfl⟩ := Int.eq_ofNat_of_zero_le h0
 exact num_all ⟨k, by omega⟩
theorem num_wz {m : Int} (h0 : 0 ≤ m) (h1 : m ≤ 999) : Wz (numZ m) := by
 obtain ⟨a, _, _, b⟩ := num_at h0 h1
 refine ⟨Nat.le_trans a.1 (by decide), fun c hc => ?_⟩
 have := of_decide_eq_true (List.all_eq_true.mp b _ hc)
 omega
theorem glue_mem {c x : Nat} : ∀ {ps : List (List Nat)}, x ∈ glue c ps → x = c ∨ ∃ p ∈ ps, x ∈ p
 | [], h => by cases h
 | [p], h => .inr ⟨p, by simp, h⟩
 | p :: q :: r, h => by
  have h : x ∈ p ++ c :: glue c (q :: r) := h
  rcases List.mem_append.mp h with z | z
  ·exact .inr ⟨p, by simp, z⟩
  ·rcases List.mem_cons.mp z with z | z
   ·exact .inl z
   ·rcases glue_mem z with z | ⟨s, hs, z⟩
    ·exact .inl z
    ·exact .inr ⟨s, by simp at hs ⊢; exact .inr hs, z⟩
theorem sin_words {s : PyData} (h : SinceV s) : sinT s ≠ [] ∧ ∀ z ∈ sinT s, Wz z ∧ 58 ∉ z.cps.toList ∧ z.length ≤ 8 := by
 have c1 : Wz (Str.ofString "coming") ∧ 58 ∉ (Str.ofString "coming").cps.toList ∧ (Str.ofString "coming").length ≤ 8 := by unfold Wz; decide +kernel
 have c2 : Wz (Str.ofString "first") ∧ 58 ∉ (Str.ofString "first").cps.toList ∧ (Str.ofString "first").length ≤ 8 := by unfold Wz; decide +kernel
 have c3 : Wz (Str.ofString "last") ∧ 58 ∉ (Str.ofString "last").cps.toList ∧ (Str.ofString "last").length ≤ 8 := by unfold Wz; decide +kernel
 cases h with
 | coming => exact ⟨by simp [sinT], fun z hz => by rw [sinT, List.mem_singleton] at hz; rw [hz]; exact c1⟩
 | first hn =>
  refine ⟨by simp [sinT], fun z hz => ?_⟩
  simp only [sinT, List.mem_cons, List.not_mem_nil, or_false] at hz
  rcases hz with rfl | rfl
  ·exact c2
  ·exact ⟨nm_wz hn, nm_nc hn, hn.hi⟩
 | last hn =>
  refine ⟨by simp [sinT], fun z hz => ?_⟩
  simp only [sinT, List.mem_cons, List.not_mem_nil, or_false] at hz
  rcases hz with rfl | rfl
  ·exact c3
  ·exact ⟨nm_wz hn, nm_nc hn, hn.hi⟩
theorem glue_len (c : Nat) : ∀ ps : List (List Nat), (glue c ps).length ≤ (ps.map List.length).sum + ps.length
 | [] => Nat.zero_le _
 | [p] => by show p.length ≤ _; simp
 | p :: q :: r => by
  have ih := glue_len c (q :: r)
  show (p ++ c :: glue c (q :: r)).length ≤ _
  rw [List.length_append, List.length_cons, List.map_cons, List.sum_cons, List.length_cons]
  omega
theorem sin_wz {s : PyData} (h : SinceV s) : Wz (Txt.join (Str.ofString ":") (sinT s)) := by
 obtain ⟨_, hw⟩ := sin_words h
 have hl : (sinT s).length ≤ 2 := by cases h <;> simp [sinT]
 rw [e_c]
 have e : (Txt.join ⟨#[58]⟩ (sinT s)).cps.toList = glue 58 ((sinT s).map fun p => p.cps.toList) := by
  rw [show Txt.join ⟨#[58]⟩ (sinT s) = Str.join ⟨#[58]⟩ (sinT s) from StrLaws.glued_eq_join _ _, join_glue]
 refine ⟨?_, fun c hc => ?_⟩
 ·show (Txt.join ⟨#[58]⟩ (sinT s)).cps.size ≤ 20
  rw [← Array.length_toList, e]
  refine Nat.le_trans (glue_len _ _) ?_
  rw [List.map_map, List.length_map]
  have : ∀ l : List Str, (∀ z ∈ l, z.length ≤ 8) → (l.map (List.length ∘ fun p : Str => p.cps.toList)).sum ≤ 8 * l.length := fun l => by
   induction l with
   | nil => simp
   | cons a l ih =>
    intro hh
    have h1 := ih fun z hz => hh z (by simp [hz])
    have h2 : a.cps.toList.length ≤ 8 := by rw [Array.length_toList]; exact hh a (by simp)
    rw [List.map_cons, List.sum_cons, List.length_cons]
    show a.cps.toList.length + _ ≤ _
    omega
  have := this (sinT s) fun z hz => (hw z hz).2.2
  omega
 ·rw [e] at hc
  rcases glue_mem hc with z | ⟨p, hp, z⟩
  ·rw [z]; decide
  ·obtain ⟨q, hq, rfl⟩ := List.mem_map.mp hp
   exact (hw q hq).1.2 c z
theorem lits_wz : ∀ z ∈ (["keep", "gone", "while", "follow", "leave", "days", "months", "years", "paper", "kind", "happens", "rule", "end", "lift", "hold", "deep"] : List Str), Wz z := by unfold Wz; decide +kernel
theorem rule_words {p : PyData} (h : RuleV p) : (ruleW p).length ≤ 5 ∧ ∀ z ∈ ruleW p, Wz z := by
 cases h with
 | wfl hw hk =>
  refine ⟨by simp [ruleW], fun z hz => ?_⟩
  simp only [ruleW, List.mem_cons, List.not_mem_nil, or_false] at hz hw
  rcases hz with rfl | rfl
  ·rcases hw with rfl | rfl | rfl <;> exact lits_wz _ (by simp)
  ·exact nm_wz hk
 | kg hw hk hs h0 h1 hu =>
  refine ⟨by simp [ruleW], fun z hz => ?_⟩
  simp only [ruleW, units, List.mem_cons, List.not_mem_nil, or_false] at hz hw hu
  rcases hz with rfl | rfl | rfl | rfl | rfl
  ·rcases hw with rfl | rfl <;> exact lits_wz _ (by simp)
  ·exact nm_wz hk
  ·exact sin_wz hs
  ·exact num_wz h0 h1
  ·rcases hu with rfl | rfl | rfl <;> exact lits_wz _ (by simp)
theorem deed_words {d : PyData} (h : DeedV d) : (deedW d).length ≤ 8 ∧ ∀ z ∈ deedW d, Wz z := by
 have key : ∀ {w : Str} {n : Int} {x : Str} {ws : List Str}, Wz w → isDayN n → Nm x → ws.length ≤ 5 → (∀ z ∈ ws, Wz z) → (w :: dayT n :: x :: ws).length ≤ 8 ∧ ∀ z ∈ w :: dayT n :: x :: ws, Wz z := fun hw hn hx hl hz => by
  refine ⟨by simp only [List.length_cons]; omega, fun z hz' => ?_⟩
  rcases List.mem_cons.mp hz' with rfl | hz'
  ·exact hw
  ·rcases List.mem_cons.mp hz' with rfl | hz'
   ·exact dayT_wz hn
   ·rcases List.mem_cons.mp hz' with rfl | hz'
    ·exact nm_wz hx
    ·exact hz z hz'
 cases h with
 | @paper n x k ms hn hx hk hm =>
  have e : deedW (.tuple [.str "paper", .int n, .str x, .str k, .tuple (ms.map .str)]) = Str.ofString "paper" :: dayT n :: x :: k :: ms := by
   show Str.ofString "paper" :: dayT n :: x :: k :: strsD (.tuple (ms.map .str)) = _
   rw [strsD_map]
  rw [e]
  have := hm.len
  refine key (lits_wz _ (by simp)) hn hx (by rw [List.length_cons]; omega) fun z hz => ?_
  rcases List.mem_cons.mp hz with rfl | hz
  ·exact nm_wz hk
  ·exact nm_wz (hm.nm z hz)
 | two hw hn hx hy =>
  simp only [List.mem_cons, List.not_mem_nil, or_false] at hw
  refine key (ws := [_]) (by rcases hw with rfl | rfl <;> exact lits_wz _ (by simp)) hn hx (by simp) fun z hz => ?_
  rw [List.mem_singleton] at hz; rw [hz]; exact nm_wz hy
 | rule hn hx hp =>
  have hr := rule_words hp
  cases hp <;> exact key (lits_wz _ (by simp)) hn hx hr.1 hr.2
 | one hw hn hx =>
  simp only [List.mem_cons, List.not_mem_nil, or_false] at hw
  exact key (ws := []) (by rcases hw with rfl | rfl <;> exact lits_wz _ (by simp)) hn hx (by simp) fun z hz => by cases hz
 | @hold n x g y b hn hx hg hy =>
  simp only [List.mem_cons, List.not_mem_nil, or_false] at hg
  have wg : Wz g := by rcases hg with rfl | rfl <;> exact lits_wz _ (by simp)
  refine key (ws := [g, y] ++ if b = true then [Str.ofString "deep"] else []) (lits_wz _ (by simp)) hn hx (by cases b <;> simp) fun z hz => ?_
  cases b
  ·simp only [List.append_nil, List.mem_cons, List.not_mem_nil, or_false, Bool.false_eq_true, if_false] at hz
   rcases hz with rfl | rfl
   ·exact wg
   ·exact nm_wz hy
  ·simp only [if_true, List.cons_append, List.nil_append, List.mem_cons, List.not_mem_nil, or_false] at hz
   rcases hz with rfl | rfl | rfl
   ·exact wg
   ·exact nm_wz hy
   ·exact lits_wz _ (by simp)
theorem sum_wz : ∀ {ws : List Str}, (∀ z ∈ ws, Wz z) → (ws.map (fun x : Str => x.length)).sum ≤ 20 * ws.length
 | [], _ => by simp
 | a :: l, h => by
  have ih := sum_wz (ws := l) fun z hz => h z (by simp [hz])
  have := (h a (by simp)).1
  rw [List.map_cons, List.sum_cons, List.length_cons]; omega
theorem deedT_ok {d : PyData} (h : DeedV d) : PyData.strOk (deedT d) = true ∧ (deedT d).length ≤ 200 := by
 obtain ⟨hl, hw⟩ := deed_words h
 have e : (deedT d).cps.toList = glue 32 ((deedW d).map fun p => p.cps.toList) := by
  unfold deedT
  rw [e_s, show Txt.join ⟨#[32]⟩ (deedW d) = Str.join ⟨#[32]⟩ (deedW d) from StrLaws.glued_eq_join _ _, join_glue]
 refine ⟨strOk_iff.mpr fun c hc => ?_, ?_⟩
 ·rw [e] at hc
  rcases glue_mem hc with z | ⟨p, hp, z⟩
  ·rw [z]; decide
  ·obtain ⟨q, hq, rfl⟩ := List.mem_map.mp hp
   exact Nat.lt_trans (hw q hq |>.2 c z).2 (by decide)
 ·show (deedT d).cps.size ≤ 200
  rw [← Array.length_toList, e]
  refine Nat.le_trans (glue_len _ _) ?_
  rw [List.map_map, List.length_map]
  have sm := sum_wz hw
  have e2 : (deedW d).map (List.length ∘ fun p : Str => p.cps.toList) = (deedW d).map fun x : Str => x.length := List.map_congr_left fun z _ => Array.length_toList
  rw [e2]; omega
def F_showD : List PyData → (PyData → Prop) → Prop := fun ds Q => ∃ d, ds = [d] ∧ DeedV d ∧ Q (.str (deedT d))
theorem ok_showD (T : Txt K mg t) : FnOk P w K mg base CX0 6 t.a_x24 t.d_x24 ["deed"] (spD K F_showD) := by
 have G_x10 := ok_show (P := P) (w := w) (base := base) T
 have G_x23 := ok_partW (P := P) (w := w) (base := base) T
 refine T.F_x24.okD sc_x24 (fun ds Q h => ?_) (fun cdv A outer s H O ds Q E hr h => ?_)
 ·obtain ⟨d, rfl, _⟩ := h; rfl
 ·obtain ⟨d, rfl, hd, q⟩ := h
  refine' ⟨_, ?body, ?read⟩
  case body =>
   refine' dss_one ?s1
   case' s1 => generalize hG2 : Expr.Call _ _ _ _ = eg2
   refine' ds_ret ?e2
   case' e2 => subst hG2
   exact (de_join de_str (df (fe (fe_cat (df (fe (fe_lst (da_cons (de_ix ix_tup od_ixT (df (dv 0)) (df de_int)) (da_cons (PE.imp (pe_call G_x10 (hr.mono (by decide)) rfl T.m_x10 T.F_x10.kp T.b_x10 .nil pass0 (da_cons (de_ix ix_tup od_ixT (df (dv 0)) (df de_int)) da_nil)) dcall) (da_cons (de_ix ix_tup od_ixT (df (dv 0)) (df de_int)) da_nil)))))) (df (PE.imp (pe_call G_x23 (hr.mono (by decide)) rfl T.m_x23 T.F_x23.kp T.b_x23 .nil pass0 (da_cons (de_ix ix_tup od_ixT (df (dv 0)) (df de_int)) (da_cons (de_sliceX (df (dv 0)) (do_some de_int) do_none) da_nil))) dcall))))))
  case read =>
  clear hr T G_x10 G_x23
  have hw := deed_words hd
  obtain ⟨w, n, x, r, rfl, hn⟩ := deed_form hd
  walk_at "rz"
  have sm := sum_wz hw.2
  have hl := hw.1
  have e : deedW (.tuple (.str w :: .int n :: .str x :: r)) = w :: dayT n :: x :: partW r := rfl
  rw [e] at sm hl
  refine ⟨n, rfl, hn.1, day_lt hn, fun y m k D => ?_⟩
  rw [dayT_eq D]
  refine ⟨w, r, n, x, rfl, hd, _, rfl, ?_, w :: dayT n :: x :: partW r, rfl, ?_, q⟩
  ·rw [List.length_map]; simp only [List.length_cons] at hl; omega
  ·rw [l_s]; omega
end
end K58

open PySem L2
namespace K58
open Day
section
variable {P : Program} {w : World} {K : PySem.W.Frag} {mg : Str → Option Value} {base : Heap} {t : Adr}
def F_numin : List PyData → (PyData → Prop) → Prop := fun ds Q => ∃ m : Int, ds = [.str (numZ m), .int 3] ∧ 0 ≤ m ∧ m ≤ 999 ∧ Q (.int m)
theorem ok_numin (T : Txt K mg t) : FnOk P w K mg base CX0 2 t.a_x25 t.d_x25 ["word", "figures"] (spD K F_numin) := by
 have G_x11 := ok_figs (P := P) (w := w) (base := base) T
 refine T.F_x25.okD sc_x25 (fun ds Q h => ?_) (fun cdv A outer s H O ds Q E hr h => ?_)
 ·obtain ⟨m, rfl, _⟩ := h; rfl
 ·obtain ⟨m, rfl, h0, h1, q⟩ := h
  refine' ⟨_, ?body, ?read⟩
  case body =>
   refine' dss_cons ?s1 ?r1
   case s1 =>
    refine' ds_if ?c2 ?a2 dss_nil
    case c2 => exact (PW.pt (dw_or (dt_not (dt_chain op_le op_le od_bl od_bl (df de_int) (df (PE.imp (pe_callB call_len_str rfl T.n_len PySem.boot_len (db_cons (df (dv 0)) db_nil)) (dcb cd_lenT))) (df (dv 1)))) (dw_or1 (dt_not (dt_val (PE.imp (pe_call G_x11 (hr.mono (by decide)) rfl T.m_x11 T.F_x11.kp T.b_x11 .nil pass0 (da_cons (dv 0) (da_cons (PE.imp (pe_callB call_len_str rfl T.n_len PySem.boot_len (db_cons (df (dv 0)) db_nil)) (dcb cd_lenT)) da_nil))) dcall))))))
    case a2 => refine' dss_one (ds_ret de_non)
   case' r1 => refine' dss_one ?s5
   case' s5 => refine' ds_ret ?e6
   case e6 => exact (de_ifExp (PW.pt (dw_and (dt_cmp op_gt od_bl (df (PE.imp (pe_callB call_len_str rfl T.n_len PySem.boot_len (db_cons (df (dv 0)) db_nil)) (dcb cd_lenT))) (df de_int) (nomark _)) (dw_and1 (dt_cmp (op_eqZ hr) od_eqZ (df (de_ix ix_str od_ixS (df (dv 0)) (df de_int))) (df de_str) (nomark _))))) de_non (PE.imp (pe_callTy call_intT rfl T.n_int bt_int (db_cons (df (dv 0)) db_nil)) (dcb cd_intT)))
  case read =>
  clear hr T G_x11
  obtain ⟨⟨l1, l2⟩, f1, f2, _⟩ := num_at h0 h1
  walk_at "rz"
  have rd : intText? (numZ m) = some m := by
   obtain ⟨k, rfl⟩ := Int.eq_ofNat_of_zero_le h0
   exact PySem.W.KIN.num_reads (by omega) (by omega)
  have fin : ∃ x, intText? (numZ m) = some x ∧ (numZ m).length ≤ 640 ∧ Q (.int x) := ⟨m, rd, by omega, q⟩
  have big : (numZ m).length ≤ 16777216 := by omega
  refine ⟨big, ?_⟩
  rw [if_pos (by omega), if_neg (by omega)]
  refine ⟨big, _, _, rfl, big, ?_⟩
  rw [f1]
  refine ⟨_, rfl, ?_⟩
  rw [if_neg (by decide)]
  refine ⟨big, ?_⟩
  split
  ·rename_i h
   have f3 := f2 (by omega)
   have hl : (numZ m).cps.toList.length = (numZ m).length := Array.length_toList
   cases e : (numZ m).cps.toList with
   | nil => rw [e] at hl; simp at hl; omega
   | cons c r =>
    rw [e] at f3
    refine ⟨big, c, atI_c0, ?_⟩
    rw [if_neg fun z => f3 (by
     have z := eq_of_beq z
     rw [show Str.ofString "0" = ⟨#[48]⟩ by decide +kernel] at z
     simpa using z)]
    exact fin
  ·exact fin
theorem date_ex (d : Int) : ∃ y m n, DateOf d y m n := by
 have yo := yearOf_ok d
 generalize yearOf d = y at yo
 have key : ∀ k : Nat, k ≤ 12 → d - ystart y < bef y ((k : Int) + 1) → ∃ mo : Int, 1 ≤ mo ∧ mo ≤ 12 ∧ bef y mo ≤ d - ystart y ∧ d - ystart y < bef y (mo + 1) := fun k => by
  induction k with
  | zero => intro _ h; rw [show ((0 : Nat) : Int) + 1 = 1 from rfl, bef_1] at h; omega
  | succ k ih =>
   intro hk h
   by_cases z : d - ystart y < bef y ((k : Int) + 1)
   ·exact ih (by omega) z
   ·exact ⟨(k : Int) + 1, by omega, by omega, by omega, by rw [show ((k + 1 : Nat) : Int) + 1 = (k : Int) + 1 + 1 by omega] at h; exact h⟩
 have ys := ystart_succ y
 have ba := bef_all y
 obtain ⟨mo, m1, m2, h1, h2⟩ := key 12 (Nat.le_refl _) (by rw [show ((12 : Nat) : Int) + 1 = 13 from rfl]; omega)
 have bs := bef_succ (y := y) m1
 exact ⟨y, mo, d - ystart y - bef y mo + 1, m1, m2, by omega, by omega, by unfold num; omega⟩
def F_dayin : List PyData → (PyData → Prop) → Prop := fun ds Q => ∃ n : Int, ds = [.str (dayT n)] ∧ isDayN n ∧ Q (.int n)
theorem ok_dayin (T : Txt K mg t) : FnOk P w K mg base CX0 5 t.a_x26 t.d_x26 ["word"] (spD K F_dayin) := by
 have G_x12 := ok_read (P := P) (w := w) (base := base) T
 refine T.F_x26.okD sc_x26 (fun ds Q h => ?_) (fun cdv A outer s H O ds Q E hr h => ?_)
 ·obtain ⟨n, rfl, _⟩ := h; rfl
 ·obtain ⟨n, rfl, hn, q⟩ := h
  refine' ⟨_, ?body, ?read⟩
  case body =>
   refine' dss_one ?s1
   case s1 => exact (ps_quiet (dss_one (ds_ret (PE.imp (pe_call G_x12 (hr.mono (by decide)) rfl T.m_x12 T.F_x12.kp T.b_x12 .nil pass0 (da_cons (dv 0) da_nil)) dcall))))
  case read =>
  clear hr T G_x12
  walk_at "rz"
  obtain ⟨y, m, k, D⟩ := date_ex n
  have hy := year_bd D hn.1 (day_lt hn)
  have e : num y m k = n := D.eq
  refine ⟨y, m, k, by rw [dayT_eq D], ⟨by omega, by omega, D.m1, D.m12, D.n1, D.nl⟩, by rw [e]; exact hn.1, by rw [e]; exact hn.2, by rw [e]; exact q⟩
def F_rulein : List PyData → (PyData → Prop) → Prop := fun ds Q => ∃ p, ds = [.list ((ruleW p).map .str)] ∧ RuleV p ∧ Q p
theorem ok_rulein (T : Txt K mg t) : FnOk P w K mg base CX0 3 t.a_x27 t.d_x27 ["words"] (spD K F_rulein) := by
 have G_x25 := ok_numin (P := P) (w := w) (base := base) T
 refine T.F_x27.okD sc_x27 (fun ds Q h => ?_) (fun cdv A outer s H O ds Q E hr h => ?_)
 ·obtain ⟨p, rfl, _⟩ := h; rfl
 ·obtain ⟨p, rfl, hp, q⟩ := h
  refine' ⟨_, ?body, ?read⟩
  case body =>
   refine' dss_cons ?s1 ?r1
   case s1 =>
    refine' ds_if ?c2 ?a2 dss_nil
    case c2 => exact (dt_cmp (op_neX hr.units) od_ne (df (PE.imp (pe_callB call_len_seq rfl T.n_len PySem.boot_len (db_cons (df (dv 0)) db_nil)) (dcb cd_len))) (df de_int) (nomark _))
    case' a2 => refine' dss_one ?s3
    case s3 => exact (ds_ret (PE.imp (pe_callTy call_tuple_of rfl T.n_tuple bt_tuple (db_cons (df (dv 0)) db_nil)) (dcb cd_tupOf)))
   case' r1 => refine' dss_one ?s5
   case' s5 => generalize hG6 : Expr.Tuple _ _ _ = eg6
   refine' ds_ret ?e6
   case' e6 => subst hG6
   refine' de_tup ?t7
   case' t7 => refine' da_cons ?u8 ?w8
   case u8 => exact (de_ix ix_list od_ixL (df (dv 0)) (df de_int))
   case' w8 => refine' da_cons ?u10 ?w10
   case u10 => exact (de_ix ix_list od_ixL (df (dv 0)) (df de_int))
   case' w10 => refine' da_cons ?u12 ?w12
   case u12 => exact (PE.imp (pe_callTy call_tuple_of rfl T.n_tuple bt_tuple (db_cons (df (fe (fe_split (de_ix ix_list od_ixL (df (dv 0)) (df de_int)) de_str))) db_nil)) (dcb cd_tupOf))
   case' w12 => refine' da_cons ?u14 ?w14
   case u14 => exact (PE.imp (pe_call G_x25 (hr.mono (by decide)) rfl T.m_x25 T.F_x25.kp T.b_x25 .nil pass0 (da_cons (de_ix ix_list od_ixL (df (dv 0)) (df de_int)) (da_cons (dc (pe_glob rfl T.c_MANY_FIGURES T.r_MANY_FIGURES) (fun _ _ => .int _)) da_nil))) dcall)
   case' w14 => refine' da_cons ?u16 da_nil
   case u16 => exact (de_ix ix_list od_ixL (df (dv 0)) (df de_int))
  case read =>
  clear hr T G_x25
  cases hp with
  | wfl hw hk =>
   simp only [ruleW]
   walk_at "rz"
   rw [if_pos (by decide)]
   exact q
  | kg hw hk hs h0 h1 hu =>
   simp only [ruleW]
   walk_at "rz"
   rw [if_neg (by decide)]
   have hw := sin_words hs
   refine ⟨by decide +kernel, Nat.le_trans (sin_wz hs).1 (by decide), _, rfl, h0, h1, ?_⟩
   rw [e_c, split_join hw.1 fun z hz => (hw.2 z hz).2.1, ← (sinT_of hs).1]
   exact q
def F_partin : List PyData → (PyData → Prop) → Prop := fun ds Q => ∃ (w : Str) (r : List PyData) (n : Int) (x : Str), ds = [.str w, .list ((partW r).map .str)] ∧ DeedV (.tuple (.str w :: .int n :: .str x :: r)) ∧ Q (.tuple r)
theorem ok_partin (T : Txt K mg t) : FnOk P w K mg base CX0 4 t.a_x28 t.d_x28 ["word", "words"] (spD K F_partin) := by
 have G_x27 := ok_rulein (P := P) (w := w) (base := base) T
 refine T.F_x28.okD sc_x28 (fun ds Q h => ?_) (fun cdv A outer s H O ds Q E hr h => ?_)
 ·obtain ⟨w, r, n, x, rfl, _⟩ := h; rfl
 ·obtain ⟨w, r, n, x, rfl, hd, q⟩ := h
  refine' ⟨_, ?body, ?read⟩
  case body =>
   refine' dss_cons ?s1 ?r1
   case s1 =>
    refine' ds_if ?c2 ?a2 dss_nil
    case c2 => exact (dt_cmp (op_eqZ hr) od_eqZ (df (dv 0)) (df de_str) (nomark _))
    case' a2 => refine' dss_one ?s3
    case' s3 => refine' ds_ret ?e4
    case' e4 => refine' de_op op_catX od_catX (df ?a5) (df ?b5)
    case a5 => exact (PE.imp (pe_callTy call_tuple_of rfl T.n_tuple bt_tuple (db_cons (df (fe (fe_slice (df (dv 1)) do_none (do_some de_int)))) db_nil)) (dcb cd_tupOf))
    case b5 => exact (de_tup (da_cons (PE.imp (pe_callTy call_tuple_of rfl T.n_tuple bt_tuple (db_cons (df (fe (fe_slice (df (dv 1)) (do_some de_int) do_none))) db_nil)) (dcb cd_tupOf)) da_nil))
   case' r1 => refine' dss_cons ?s8 ?r8
   case s8 =>
    refine' ds_if ?c9 ?a9 dss_nil
    case c9 => exact (dt_cmp (op_eqZ hr) od_eqZ (df (dv 0)) (df de_str) (nomark _))
    case' a9 => refine' dss_one ?s10
    case s10 => exact (ds_ret (de_tup (da_cons (PE.imp (pe_call G_x27 (hr.mono (by decide)) rfl T.m_x27 T.F_x27.kp T.b_x27 .nil pass0 (da_cons (dv 1) da_nil)) dcall) da_nil)))
   case' r8 => refine' dss_cons ?s12 ?r12
   case s12 =>
    refine' ds_if ?c13 ?a13 dss_nil
    case c13 => exact (dt_cmp (op_eqZ hr) od_eqZ (df (dv 0)) (df de_str) (nomark _))
    case' a13 => refine' dss_one ?s14
    case' s14 => refine' ds_ret ?e15
    case' e15 => refine' de_tup ?t16
    case' t16 => refine' da_cons ?u17 ?w17
    case u17 => exact (PE.imp (pe_callTy call_tuple_of rfl T.n_tuple bt_tuple (db_cons (df (fe (fe_slice (df (dv 1)) do_none (do_some de_int)))) db_nil)) (dcb cd_tupOf))
    case' w17 => refine' da_cons ?u19 da_nil
    case u19 => exact (de_cmp (op_eqX hr.units) od_eq (df (fe (fe_slice (df (dv 1)) (do_some de_int) do_none))) (df (fe (fe_lst (da_cons de_str da_nil)))) (nomark _))
   case' r12 => refine' dss_one ?s22
   case s22 => exact (ds_ret (PE.imp (pe_callTy call_tuple_of rfl T.n_tuple bt_tuple (db_cons (df (dv 1)) db_nil)) (dcb cd_tupOf)))
  case read =>
  clear hr T G_x27
  have nw : ∀ {u v : Str} {l : List Str}, u ∈ l → (∀ z ∈ l, z ≠ v) → (u == v) = false := fun h h2 => by simpa using h2 _ h
  cases hd with
  | @paper _ _ k ms _ _ _ hm =>
   have e : partW [PyData.str k, PyData.tuple (List.map PyData.str ms)] = k :: ms := by
    show k :: strsD (.tuple (ms.map .str)) = _
    rw [strsD_map]
   rw [e]
   walk_at "rz"
   exact q
  | two hw =>
   simp only [partW]
   walk_at "rz"
   rw [nw hw (by decide +kernel), nw hw (by decide +kernel), nw hw (by decide +kernel), if_neg Bool.false_ne_true, if_neg Bool.false_ne_true, if_neg Bool.false_ne_true]
   exact q
  | @rule _ _ p _ _ hp =>
   have e : partW [p] = ruleW p := by cases hp <;> rfl
   rw [e]
   walk_at "rz"
   exact ⟨p, rfl, hp, q⟩
  | one hw =>
   simp only [partW]
   walk_at "rz"
   rw [nw hw (by decide +kernel), nw hw (by decide +kernel), nw hw (by decide +kernel), if_neg Bool.false_ne_true, if_neg Bool.false_ne_true, if_neg Bool.false_ne_true]
   exact q
  | @hold _ _ g y b =>
   simp only [partW]
   have s1 : SeqAt.shaped (PyData.list [PyData.str (Str.ofString "deep")]) = true := by decide +kernel
   cases b
   ·walk_at "rz"
    refine ⟨by decide +kernel, s1, ?_⟩
    rw [show (PyData.list []).eqv (PyData.list [PyData.str (Str.ofString "deep")]) = false by simp [PyData.eqv, PyData.eqvAll]]
    exact q
   ·walk_at "rz"
    refine ⟨s1, s1, ?_⟩
    rw [show (PyData.list [PyData.str (Str.ofString "deep")]).eqv (PyData.list [PyData.str (Str.ofString "deep")]) = true by simp [PyData.eqv, PyData.eqvAll]]
    exact q
theorem deed_len {w : Str} {n : Int} {x : Str} {r : List PyData} (h : DeedV (.tuple (.str w :: .int n :: .str x :: r))) : (.str w :: .int n :: .str x :: r : List PyData).length ≤ 5 := by
 cases h <;> simp
def F_deedin : List PyData → (PyData → Prop) → Prop := fun ds Q => ∃ d, ds = [.str (deedT d)] ∧ DeedV d ∧ Q d
theorem ok_deedin (T : Txt K mg t) : FnOk P w K mg base CX0 7 t.a_x29 t.d_x29 ["row"] (spD K F_deedin) := by
 have G_x26 := ok_dayin (P := P) (w := w) (base := base) T
 have G_x28 := ok_partin (P := P) (w := w) (base := base) T
 have G_x21 := ok_deedP (P := P) (w := w) (base := base) T
 have G_x24 := ok_showD (P := P) (w := w) (base := base) T
 refine T.F_x29.okD sc_x29 (fun ds Q h => ?_) (fun cdv A outer s H O ds Q E hr h => ?_)
 ·obtain ⟨d, rfl, _⟩ := h; rfl
 ·obtain ⟨d, rfl, hd, q⟩ := h
  refine' ⟨_, ?body, ?read⟩
  case body =>
   refine' dss_cons ?s1 ?r1
   case s1 => exact (ds_set (i := 1) sc_x29.nd rfl (by walk_at "o") (fe (fe_split (dv 0) de_str)))
   case' r1 => refine' dss_cons ?s3 ?r3
   case s3 =>
    refine' ds_if ?c4 ?a4 dss_nil
    case c4 => exact (dt_cmp op_lt od_bl (df (PE.imp (pe_callB call_len_seq rfl T.n_len PySem.boot_len (db_cons (df (dv 1)) db_nil)) (dcb cd_len))) (df de_int) (nomark _))
    case a4 => refine' dss_one (ds_ret de_non)
   case' r3 => refine' dss_cons ?s7 ?r7
   case s7 =>
    generalize hG8 : Expr.BinOp _ _ _ _ = eg8
    refine' ds_set (i := 2) sc_x29.nd rfl (by walk_at "o") ?e8 (hs := by subst hG8; exact swaps_BinOp)
    case' e8 => subst hG8
    refine' de_op op_catX od_catX (df ?a9) (df ?b9)
    case a9 =>
     refine' de_tup ?t10
     case' t10 => refine' da_cons ?u11 ?w11
     case u11 => exact (de_ix ix_list od_ixL (df (dv 1)) (df de_int))
     case' w11 => refine' da_cons ?u13 ?w13
     case u13 => exact (PE.imp (pe_call G_x26 (hr.mono (by decide)) rfl T.m_x26 T.F_x26.kp T.b_x26 .nil pass0 (da_cons (de_ix ix_list od_ixL (df (dv 1)) (df de_int)) da_nil)) dcall)
     case' w13 => refine' da_cons ?u15 da_nil
     case u15 => exact (de_ix ix_list od_ixL (df (dv 1)) (df de_int))
    case b9 => exact (PE.imp (pe_call G_x28 (hr.mono (by decide)) rfl T.m_x28 T.F_x28.kp T.b_x28 .nil pass0 (da_cons (de_ix ix_list od_ixL (df (dv 1)) (df de_int)) (da_cons (fe (fe_slice (df (dv 1)) (do_some de_int) do_none)) da_nil))) dcall)
   case' r7 => refine' dss_one ?s19
   case' s19 => refine' ds_ret ?e20
   case e20 => exact (de_ifExp (PW.pt (dw_and (dt_val (PE.imp (pe_call G_x21 (hr.mono (by decide)) rfl T.m_x21 T.F_x21.kp T.b_x21 .nil pass0 (da_cons (dv 2) da_nil)) dcall)) (dw_and1 (dt_cmp (op_eqX hr.units) od_eq (df (PE.imp (pe_call G_x24 (hr.mono (by decide)) rfl T.m_x24 T.F_x24.kp T.b_x24 .nil pass0 (da_cons (dv 2) da_nil)) dcall)) (df (dv 0)) (nomark _))))) (dv 2) de_non)
  case read =>
  clear hr T G_x26 G_x28 G_x21 G_x24
  have hw := deed_words hd
  obtain ⟨w, n, x, r, rfl, hn⟩ := deed_form hd
  have sp : Txt.split (deedT (.tuple (.str w :: .int n :: .str x :: r))) (Str.ofString " ") = w :: dayT n :: x :: partW r := by
   show Txt.split (Txt.join (Str.ofString " ") (w :: dayT n :: x :: partW r)) (Str.ofString " ") = _
   rw [e_s]; exact split_join (by simp) fun z hz => wz_32 (hw.2 z hz)
  walk_at "rz"
  rw [sp]
  walk_at "rz"
  have tk := deedT_ok hd
  have sk := shp_str.mpr tk.1
  refine ⟨by decide +kernel, Nat.le_trans tk.2 (by decide), ?_⟩
  rw [if_neg (by omega)]
  have hl : (deedW (.tuple (.str w :: .int n :: .str x :: r))).length ≤ 8 := hw.1
  refine ⟨n, rfl, hn, w, r, n, x, rfl, hd, r, rfl, ?_, _, rfl, hd.thg, _, rfl, ?_⟩
  ·have := deed_len hd; simp only [List.length_cons] at this; omega
  ·rw [isDd_iff.mpr hd, if_pos rfl]
   refine ⟨_, rfl, hd, sk, sk, ?_⟩
   rw [eqv_str, if_pos (beq_self_eq_true _)]
   exact q
def F_readD : List PyData → (PyData → Prop) → Prop := F_deedin
theorem ok_readD (T : Txt K mg t) : FnOk P w K mg base CX0 8 t.a_x30 t.d_x30 ["text"] (spD K F_readD) := by
 have G_x29 := ok_deedin (P := P) (w := w) (base := base) T
 refine T.F_x30.okD sc_x30 (fun ds Q h => ?_) (fun cdv A outer s H O ds Q E hr h => ?_)
 ·obtain ⟨d, rfl, _⟩ := h; rfl
 ·obtain ⟨d, rfl, hd, q⟩ := h
  refine' ⟨_, ?body, ?read⟩
  case body =>
   refine' dss_cons ?s1 ?r1
   case s1 =>
    refine' ds_set (i := 1) sc_x30.nd rfl (by walk_at "o") ?e2 (hs := swaps_IfExp)
    case e2 => exact (de_ifExp (dt_val (de_isinC (K' := K) (T := "str") rfl rfl T.n_isinstance bt_isinstance (df (dv 0)) (pe_bltn (v := .ty "str") rfl T.n_str bt_str rfl))) (PE.imp (pe_call G_x29 (hr.mono (by decide)) rfl T.m_x29 T.F_x29.kp T.b_x29 .nil pass0 (da_cons (dv 0) da_nil)) dcall) de_non)
   case' r1 => refine' dss_cons ?s4 ?r4
   case s4 =>
    refine' ds_if ?c5 ?a5 dss_nil
    case c5 => exact (dt_cmp op_isN od_isN (df (dv 1)) (df de_non) (nomark _))
    case a5 => refine' dss_one ds_never
   case' r4 => refine' dss_one ?s8
   case s8 => exact (ds_ret (dv 1))
  case read =>
  clear hr T G_x29
  walk_at "rz"
  simp only [kit_str, isStrB]
  refine ⟨_, rfl, fun _ => trivial, ?_⟩
  rw [if_pos rfl]
  refine ⟨d, rfl, hd, ?_⟩
  show if isNone d = true then False else Q d
  rw [if_neg (by cases hd <;> exact Bool.false_ne_true)]
  exact q
end
end K58

open PySem L2
namespace K58
open Day
theorem cs_x39_0 : CompScope (defScope s_x39) ["_law_pack_here", "_law_way", "_law_year", "_law_month", "_law_last"] ["_law_k", "_law_year"] 1 [2] { kind := PySem.ScopeKind.function, names := [ (PySem.Str.ofString ".0", PySem.NameKind.local), (PySem.Str.ofString "_law_k", PySem.NameKind.local), (PySem.Str.ofString "_law_length", PySem.NameKind.globalImplicit), (PySem.Str.ofString "_law_year", PySem.NameKind.free)], isGenerator := false, isCoroutine := false, more := [] : PySem.Scope } := ⟨rfl, by decide +kernel, by decide +kernel, by decide +kernel, rfl, by decide +kernel, by decide +kernel, by decide +kernel, rfl⟩
section
variable {P : Program} {w : World} {K : PySem.W.Frag} {mg : Str → Option Value} {base : Heap} {t : Adr}
theorem tab12 {y m : Int} (h1 : 1 ≤ m) (h2 : m ≤ 12) (hm : m ≠ 2) : atI [PyData.int 31, PyData.int 29, PyData.int 31, PyData.int 30, PyData.int 31, PyData.int 30, PyData.int 31, PyData.int 31, PyData.int 30, PyData.int 31, PyData.int 30, PyData.int 31] (m - 1) = some (.int (mlen y m)) := by
 have a := mlen_all y
 rcases twelve h1 h2 with z | z | z | z | z | z | z | z | z | z | z | z <;> subst z
 ·rw [a.1]; rfl
 ·exact absurd rfl hm
 ·rw [a.2.1]; rfl
 ·rw [a.2.2.1]; rfl
 ·rw [a.2.2.2.1]; rfl
 ·rw [a.2.2.2.2.1]; rfl
 ·rw [a.2.2.2.2.2.1]; rfl
 ·rw [a.2.2.2.2.2.2.1]; rfl
 ·rw [a.2.2.2.2.2.2.2.1]; rfl
 ·rw [a.2.2.2.2.2.2.2.2.1]; rfl
 ·rw [a.2.2.2.2.2.2.2.2.2.1]; rfl
 ·rw [a.2.2.2.2.2.2.2.2.2.2]; rfl
theorem ystart_ge {y : Int} (h : 2000 ≤ y) : 365 * (y - 2000) ≤ ystart y := by unfold ystart lb; omega
theorem pickT (ss : List Str) {i : Int} (h0 : 0 ≤ i) (h1 : i < ss.length) : ∃ nm ∈ ss, atI (ss.map PyData.str) i = some (.str nm) := by
 obtain ⟨v, e, m⟩ := atI_mem (xs := ss.map PyData.str) h0 (by rw [List.length_map]; exact h1)
 obtain ⟨nm, hn, rfl⟩ := List.mem_map.mp m
 exact ⟨nm, hn, e⟩
theorem sl_all : ∀ m : Fin 100, Txt.slice (Str.ofString (toString (100 + (m.val : Int)))) (some 1) none = ⟨(d2 m.val).toArray⟩ ∧ (Str.ofString (toString (100 + (m.val : Int)))).length = 3 := by decide +kernel
theorem sl_at {m : Int} (h0 : 0 ≤ m) (h1 : m < 100) : Txt.slice (Str.ofString (toString (100 + m))) (some 1) none = ⟨(d2 m.toNat).toArray⟩ ∧ (Str.ofString (toString (100 + m))).length = 3 := by
 obtain ⟨k, rfl⟩ := Int.eq_ofNat_of_zero_le h0
 exact sl_all ⟨k, by omega⟩
theorem join_dtx {y m n : Int} : Txt.join (Str.ofString "-") [⟨(d4 y.toNat).toArray⟩, ⟨(d2 m.toNat).toArray⟩, ⟨(d2 n.toNat).toArray⟩] = dtx y m n := by
 have e : Str.ofString "-" = ⟨#[45]⟩ := by decide +kernel
 have h : (Txt.join (Str.ofString "-") [⟨(d4 y.toNat).toArray⟩, ⟨(d2 m.toNat).toArray⟩, ⟨(d2 n.toNat).toArray⟩]).cps.toList = (dtx y m n).cps.toList := by
  rw [e, show Txt.join ⟨#[45]⟩ [⟨(d4 y.toNat).toArray⟩, ⟨(d2 m.toNat).toArray⟩, ⟨(d2 n.toNat).toArray⟩] = Str.join ⟨#[45]⟩ _ from StrLaws.glued_eq_join _ _, join_glue]
  simp [dtx, dtL, glue]
 have := map_toL (a := [_]) (b := [_]) (congrArg (fun l => [l]) h)
 exact (List.cons.inj this).1
def F_length : List PyData → (PyData → Prop) → Prop := fun ds Q => ∃ y m : Int, ds = [.int y, .int m] ∧ 1 ≤ m ∧ m ≤ 12 ∧ Q (.int (mlen y m))
theorem ok_length (T : Txt K mg t) : FnOk P w K mg base CX0 1 t.a_x36 t.d_x36 ["_law_year", "_law_month"] (spD K F_length) := by
 refine T.F_x36.okD sc_x36 (fun ds Q h => ?_) (fun cdv A outer s H O ds Q E hr h => ?_)
 ·obtain ⟨y, m, rfl, _⟩ := h; rfl
 ·obtain ⟨y, m, rfl, h1, h2, q⟩ := h
  refine' ⟨_, ?body, ?read⟩
  case body =>
   refine' dss_cons ?s1 ?r1
   case s1 =>
    refine' ds_if ?c2 ?a2 dss_nil
    case c2 => exact (PW.pt (dw_and (dt_cmp (op_eqX hr.units) od_eq (df (dv 1)) (df de_int) (nomark _)) (dw_and1 (PW.pt (dw_or (dt_cmp (op_neX hr.units) od_ne (df (de_op op_mod od_intC (df (dv 0)) (df de_int))) (df de_int) (nomark _)) (dw_or1 (PW.pt (dw_and (dt_cmp (op_eqX hr.units) od_eq (df (de_op op_mod od_intC (df (dv 0)) (df de_int))) (df de_int) (nomark _)) (dw_and1 (dt_cmp (op_neX hr.units) od_ne (df (de_op op_mod od_intC (df (dv 0)) (df de_int))) (df de_int) (nomark _)))))))))))
    case a2 => refine' dss_one (ds_ret de_int)
   case' r1 => refine' dss_one ?s5
   case' s5 => generalize hE6_0 : Expr.List _ _ = ee6_0
   exact (ds_ret (de_ix ix_list od_ixL (df (fe (fe_lits (ds := [.int 31, .int 29, .int 31, .int 30, .int 31, .int 30, .int 31, .int 31, .int 30, .int 31, .int 30, .int 31]) (by first | (subst hE6_0; rfl))))) (df (de_op op_sub od_int (df (dv 1)) (df de_int)))))
  case read =>
  clear hr T
  walk_at "rz"
  have tb := tab12 (y := y) h1 h2
  by_cases hm : m = 2
  ·subst hm
   have l1 := leap_iff y
   have e2 := mlen_2 y
   have t29 : leap y = true → ∃ d, atI [PyData.int 31, PyData.int 29, PyData.int 31, PyData.int 30, PyData.int 31, PyData.int 30, PyData.int 31, PyData.int 31, PyData.int 30, PyData.int 31, PyData.int 30, PyData.int 31] (2 - 1) = some d ∧ Q d := fun h => ⟨.int 29, rfl, by rw [e2] at q; unfold ld at q; rw [h] at q; exact q⟩
   have t28 : ¬ leap y = true → Q (.int 28) := fun h => by rw [e2] at q; unfold ld at q; rw [if_neg h] at q; exact q
   rw [if_pos (by decide)]
   split
   ·rename_i h4; exact t28 (by rw [l1]; simp at h4; omega)
   ·rename_i h4
    simp at h4
    split
    ·rename_i h5
     simp at h5
     split
     ·rename_i h6; exact t28 (by rw [l1]; simp at h6; omega)
     ·rename_i h6; exact t29 (l1.mpr (by simp at h6; omega))
    ·rename_i h5; exact t29 (l1.mpr (by simp at h5; omega))
  ·rw [if_neg (by simpa using hm)]
   exact ⟨_, tb hm, q⟩
def F_ahead : List PyData → (PyData → Prop) → Prop := fun ds Q => ∃ y : Int, ds = [.int y] ∧ Q (.int (ystart y))
theorem ok_ahead (T : Txt K mg t) : FnOk P w K mg base CX0 1 t.a_x37 t.d_x37 ["_law_year"] (spD K F_ahead) := by
 refine T.F_x37.okD sc_x37 (fun ds Q h => ?_) (fun cdv A outer s H O ds Q E hr h => ?_)
 ·obtain ⟨y, rfl, _⟩ := h; rfl
 ·obtain ⟨y, rfl, q⟩ := h
  refine' ⟨_, ?body, ?read⟩
  case body =>
   refine' dss_cons ?s1 ?r1
   case s1 => exact (ds_set (i := 1) sc_x37.nd rfl (by walk_at "o") (de_op op_sub od_int (df (dv 0)) (df de_int)))
   case' r1 => refine' dss_one ?s3
   case' s3 => generalize hG4 : Expr.BinOp _ _ _ _ = eg4
   refine' ds_ret ?e4
   case' e4 => subst hG4
   exact (de_op op_add od_int (df (de_op op_sub od_int (df (de_op op_add od_int (df (de_op op_mul od_intC (df de_int) (df (dv 1)))) (df (de_op op_fdiv od_intC (df (de_op op_add od_int (df (dv 1)) (df de_int))) (df de_int))))) (df (de_op op_fdiv od_intC (df (de_op op_add od_int (df (dv 1)) (df de_int))) (df de_int))))) (df (de_op op_fdiv od_intC (df (de_op op_add od_int (df (dv 1)) (df de_int))) (df de_int))))
  case read =>
  clear hr T
  walk_at "rz"
  have e : 365 * (y - 2000) + (y - 2000 + 3) / 4 - (y - 2000 + 99) / 100 + (y - 2000 + 399) / 400 = ystart y := by rw [← ahead_eq y]
  rw [e]; exact q
def F_dayt : List PyData → (PyData → Prop) → Prop := fun ds Q => ∃ d : Int, ds = [.int d] ∧ isDayN d ∧ Q (.str (dayT d))
theorem ok_dayt (T : Txt K mg t) : FnOk P w K mg base CX0 2 t.a_x38 t.d_x38 ["_law_day"] (spD K F_dayt) := by
 have G_x37 := ok_ahead (P := P) (w := w) (base := base) T
 have G_x36 := ok_length (P := P) (w := w) (base := base) T
 refine T.F_x38.okD sc_x38 (fun ds Q h => ?_) (fun cdv A outer s H O ds Q E hr h => ?_)
 ·obtain ⟨d, rfl, _⟩ := h; rfl
 ·obtain ⟨d, rfl, hd, q⟩ := h
  refine' ⟨_, ?body, ?read⟩
  case body =>
   refine' dss_cons ?s1 ?r1
   case s1 => exact (ds_set (i := 1) sc_x38.nd rfl (by walk_at "o") (de_op op_add od_int (df de_int) (df (de_op op_fdiv od_intC (df (dv 0)) (df de_int)))))
   case' r1 => refine' dss_cons ?s3 ?r3
   case s3 =>
    refine' ds_while PassesOwn.never ?c4 ?b4
    case c4 => exact (dt_cmp op_le od_bl (df (PE.imp (pe_call G_x37 (hr.mono (by decide)) rfl T.m_x37 T.F_x37.kp T.b_x37 .nil pass0 (da_cons (de_op op_add od_int (df (dv 1)) (df de_int)) da_nil)) dcall)) (df (dv 0)) (nomark _))
    case' b4 => refine' dss_one ?s5
    case s5 => exact (ds_set (i := 1) sc_x38.nd rfl (by walk_at "o") (de_op op_add od_int (df (dv 1)) (df de_int)))
   case' r3 => refine' dss_cons ?s7 ?r7
   case s7 => exact (ds_par (i := 2) (j := 3) rfl sc_x38.nd rfl rfl (by decide) rfl rfl (da_cons de_int (da_cons (de_op op_add od_int (df (de_op op_sub od_int (df (dv 0)) (df (PE.imp (pe_call G_x37 (hr.mono (by decide)) rfl T.m_x37 T.F_x37.kp T.b_x37 .nil pass0 (da_cons (dv 1) da_nil)) dcall)))) (df de_int)) da_nil)) (by rfl))
   case' r7 => refine' dss_cons ?s9 ?r9
   case s9 =>
    refine' ds_while PassesOwn.never ?c10 ?b10
    case c10 => exact (dt_cmp op_gt od_bl (df (dv 3)) (df (PE.imp (pe_call G_x36 (hr.mono (by decide)) rfl T.m_x36 T.F_x36.kp T.b_x36 .nil pass0 (da_cons (dv 1) (da_cons (dv 2) da_nil))) dcall)) (nomark _))
    case' b10 => refine' dss_cons ?s11 ?r11
    case s11 => exact (ds_set (i := 3) sc_x38.nd rfl (by walk_at "o") (de_op op_sub od_int (df (dv 3)) (df (PE.imp (pe_call G_x36 (hr.mono (by decide)) rfl T.m_x36 T.F_x36.kp T.b_x36 .nil pass0 (da_cons (dv 1) (da_cons (dv 2) da_nil))) dcall))))
    case' r11 => refine' dss_one ?s13
    case s13 => exact (ds_set (i := 2) sc_x38.nd rfl (by walk_at "o") (de_op op_add od_int (df (dv 2)) (df de_int)))
   case' r9 => refine' dss_one ?s15
   case' s15 => generalize hG16 : Expr.Call _ _ _ _ = eg16
   refine' ds_ret ?e16
   case' e16 => subst hG16
   exact (de_join de_str (df (fe (fe_lst (da_cons (PE.imp (pe_callTy call_str_int rfl T.n_str bt_str (db_cons (df (dv 1)) db_nil)) (dcb cd_strI)) (da_cons (de_sliceS (df (PE.imp (pe_callTy call_str_int rfl T.n_str bt_str (db_cons (df (de_op op_add od_int (df de_int) (df (dv 2)))) db_nil)) (dcb cd_strI))) (do_some de_int) do_none) (da_cons (de_sliceS (df (PE.imp (pe_callTy call_str_int rfl T.n_str bt_str (db_cons (df (de_op op_add od_int (df de_int) (df (dv 3)))) db_nil)) (dcb cd_strI))) (do_some de_int) do_none) da_nil)))))))
  case read =>
  clear hr T G_x37 G_x36
  walk_at "rz"
  have d0 := hd.1
  refine ⟨fun m δ => ∃ y : Int, 2000 ≤ y ∧ ystart y ≤ d ∧ m = (2001 + d - y).toNat ∧ δ = [some (Sl.v (PyData.int d)), some (Sl.v (PyData.int y)), none, none], ⟨_, _, by omega, ahead_le d0, rfl, rfl⟩, ?_⟩
  rintro m δ ⟨y, y0, hy, rfl, rfl⟩
  walk_at "rz"
  refine ⟨y + 1, rfl, ?_⟩
  walk_at "rz"
  by_cases hc : ystart (y + 1) ≤ d
  ·rw [if_pos hc]
   have := ystart_ge (y := y + 1) (by omega)
   exact ⟨_, by omega, y + 1, by omega, hc, rfl, rfl⟩
  ·rw [if_neg hc]
   refine ⟨y, rfl, ?_⟩
   walk_at "rz"
   have ys := ystart_succ y
   refine ⟨fun m δ => ∃ mo : Int, 1 ≤ mo ∧ mo ≤ 12 ∧ bef y mo ≤ d - ystart y ∧ m = (12 - mo).toNat ∧ δ = [some (Sl.v (PyData.int d)), some (Sl.v (PyData.int y)), some (Sl.v (PyData.int mo)), some (Sl.v (PyData.int (d - ystart y - bef y mo + 1)))], ⟨11, 1, by omega, by omega, by rw [bef_1]; omega, rfl, by rw [bef_1, Int.sub_zero]⟩, ?_⟩
   rintro m δ ⟨mo, m1, m2, hb, rfl, rfl⟩
   have ba := bef_bd (y := y) m1 m2
   have bs := bef_succ (y := y) m1
   walk_at "rz"
   refine ⟨y, mo, rfl, m1, m2, ?_⟩
   walk_at "rz"
   split
   ·rename_i hge
    have lt12 : mo < 12 := by
     by_cases z : mo < 12
     ·exact z
     ·have e : mo = 12 := by omega
      subst e
      rw [show (12 : Int) + 1 = 13 from rfl] at bs
      have := (bef_all y); omega
    refine ⟨y, mo, rfl, m1, m2, ?_⟩
    walk_at "rz"
    exact ⟨_, by omega, mo + 1, by omega, by omega, by rw [bs]; omega, rfl, rfl, by rw [bs]; omega⟩
   ·rename_i hlt
    have D : DateOf d y mo (d - ystart y - bef y mo + 1) := ⟨m1, m2, by omega, by omega, by unfold num; omega⟩
    generalize d - ystart y - bef y mo + 1 = n at D ⊢
    have hyb := year_bd D d0 (day_lt hd)
    have hb2 := mlen_bd (y := y) m1 m2
    have := D.n1; have := D.nl
    have e1 := str_d4 (y := y.toNat) (by omega) (by omega)
    rw [Int.toNat_of_nonneg (by omega)] at e1
    obtain ⟨s1, s2⟩ := sl_at (m := mo) (by omega) (by omega)
    obtain ⟨s3, s4⟩ := sl_at (m := n) (by omega) (by omega)
    have lm : (Str.ofString "-").length = 1 := by decide +kernel
    refine ⟨log_lt (by omega) (by omega), log_lt (by omega) (by omega), by rw [s2]; decide, log_lt (by omega) (by omega), by rw [s4]; decide, ?_, ?_⟩
    ·rw [e1, s1, s3, lm]; show 4 + (2 + (2 + 0)) + 3 * 1 ≤ 16777216; decide
    ·rw [e1, s1, s3, join_dtx, dayT_eq D]; exact q
def F_anyd : List PyData → (PyData → Prop) → Prop := fun ds Q => ds = [packD] ∧ ∀ d : Int, isDayN d → Q (.int d)
theorem ok_anyd (T : Txt K mg t) : FnOk P w K mg base CX0 2 t.a_x39 t.d_x39 ["_law_pack_here"] (spD K F_anyd) := by
 have G_x33 := ok_take (P := P) (w := w) (base := base) T
 have G_x37 := ok_ahead (P := P) (w := w) (base := base) T
 have G_x36 := ok_length (P := P) (w := w) (base := base) T
 refine T.F_x39.okD sc_x39 (fun ds Q h => ?_) (fun cdv A outer s H O ds Q E hr h => ?_)
 ·obtain ⟨rfl, _⟩ := h; rfl
 ·obtain ⟨rfl, q⟩ := h
  refine' ⟨_, ?body, ?read⟩
  case body =>
   refine' dss_cons ?s1 ?r1
   case s1 => exact (ds_set (i := 1) sc_x39.nd rfl (by walk_at "o") (PE.imp (pe_call G_x33 (hr.mono (by decide)) rfl T.m_x33 T.F_x33.kp T.b_x33 .nil pass0 (da_cons (dv 0) (da_cons de_int da_nil))) dcall))
   case' r1 => refine' dss_cons ?s3 ?r3
   case s3 =>
    refine' ds_if ?c4 ?a4 dss_nil
    case c4 => exact (dt_cmp (op_eqX hr.units) od_eq (df (dv 1)) (df de_int) (nomark _))
    case' a4 => refine' dss_one ?s5
    case s5 => exact (ds_ret (PE.imp (pe_call G_x33 (hr.mono (by decide)) rfl T.m_x33 T.F_x33.kp T.b_x33 .nil pass0 (da_cons (dv 0) (da_cons de_int da_nil))) dcall))
   case' r3 => refine' dss_cons ?s7 ?r7
   case s7 =>
    refine' ds_if ?c8 ?a8 dss_nil
    case c8 => exact (dt_cmp (op_eqX hr.units) od_eq (df (dv 1)) (df de_int) (nomark _))
    case' a8 => refine' dss_one ?s9
    case s9 => exact (ds_ret (PE.imp (pe_call G_x33 (hr.mono (by decide)) rfl T.m_x33 T.F_x33.kp T.b_x33 .nil pass0 (da_cons (dv 0) (da_cons de_int da_nil))) dcall))
   case' r7 => refine' dss_cons ?s11 ?r11
   case s11 =>
    refine' ds_if ?c12 ?a12 dss_nil
    case c12 => exact (dt_cmp (op_eqX hr.units) od_eq (df (dv 1)) (df de_int) (nomark _))
    case' a12 => refine' dss_one ?s13
    case' s13 => generalize hE14_0 : Expr.List _ _ = ee14_0
    exact (ds_ret (de_ix ix_list od_ixL (df (fe (fe_lits (ds := [.int 0, .int 99999, .int 59, .int 60, .int 365, .int 366, .int 36524, .int 36525, .int 99996]) (by first | (subst hE14_0; rfl))))) (df (PE.imp (pe_call G_x33 (hr.mono (by decide)) rfl T.m_x33 T.F_x33.kp T.b_x33 .nil pass0 (da_cons (dv 0) (da_cons de_int da_nil))) dcall))))
   case' r11 => refine' dss_cons ?s15 ?r15
   case s15 => exact (ds_asg (de_tup (da_cons (de_op op_add od_int (df de_int) (df (PE.imp (pe_call G_x33 (hr.mono (by decide)) rfl T.m_x33 T.F_x33.kp T.b_x33 .nil pass0 (da_cons (dv 0) (da_cons de_int da_nil))) dcall))) (da_cons (de_op op_add od_int (df de_int) (df (PE.imp (pe_call G_x33 (hr.mono (by decide)) rfl T.m_x33 T.F_x33.kp T.b_x33 .nil pass0 (da_cons (dv 0) (da_cons de_int da_nil))) dcall))) da_nil))) (pg_tup (n := 2) rfl (pgs_cons (pg_name (i := 2) sc_x39.nd rfl (by walk_at "o")) (pgs_cons (pg_name (i := 3) sc_x39.nd rfl (by walk_at "o")) pgs_nil))) (gd_tup (gds_cons gd_name (gds_cons gd_name gds_nil))))
   case' r15 => refine' dss_cons ?s17 ?r17
   case s17 =>
    refine' ds_set (i := 4) sc_x39.nd rfl (by walk_at "o") ?e18 (hs := swaps_BinOp)
    case e18 => exact (de_op op_sub od_int (df (de_op op_add od_int (df (PE.imp (pe_call G_x37 (hr.mono (by decide)) rfl T.m_x37 T.F_x37.kp T.b_x37 .nil pass0 (da_cons (dv 2) da_nil)) dcall)) (df (PE.imp (pe_callB (call_sum rfl) rfl T.n_sum PyProof.Rows.boot_sum (db_cons (df (fe (fe_compR2I rfl cs_x39_0 rfl T.n_range (db_cons (df de_int) (db_cons (df (de_op op_add od_int (df (dv 3)) (df de_int))) db_nil)) gd_name keepName (by decide) (fun _ _ _ _ => (pg_name (i := 0) cs_x39_0.nd rfl (by walk_at "o"))) (fun _ _ _ _ => pf_nilD) (fun _ _ _ _ => (PE.imp (pe_call G_x36 (hr.mono (by decide)) rfl T.m_x36 T.F_x36.kp T.b_x36 .nil pass0 (da_cons (dv 1) (da_cons (dv 0) da_nil))) dcall))))) db_nil)) (dcb cd_sum))))) (df de_int))
   case' r17 => refine' dss_one ?s20
   case' s20 => refine' ds_ret ?e21
   case e21 => exact (PE.imp (pe_callB (call_min2 rfl) rfl T.n_min PyProof.Rows.boot_min (db_cons (df de_int) (db_cons (df (de_op op_add od_int (df (dv 4)) (df (PE.imp (pe_call G_x33 (hr.mono (by decide)) rfl T.m_x33 T.F_x33.kp T.b_x33 .nil pass0 (da_cons (dv 0) (da_cons de_int da_nil))) dcall)))) db_nil))) (dcb cd_two))
  case read =>
  clear hr T G_x33 G_x37 G_x36
  simp only [take_iff, true_and, ↓lz_w, ↓lz_k0, ↓lz_kS, ↓lz_kE, ↓lz_kN, ↓lz_ks, ↓lz_ki, ↓lz_wN, ↓lz_v0, ↓lz_vS, ↓lz_vE, ↓lz_vN, ↓lz_o0, ↓lz_oS, ↓lz_oE, ↓lz_oN, ↓lz_b, ↓lz_i, ↓lz_s, ↓lz_t, ↓lz_l, ↓lz_ii, ↓lz_ss, ↓lz_tt, ↓lz_ll, ↓lz_cons, ↓lz_two, ↓lz_tt0, ↓lz_tt1, ↓lz_tt2, ↓lz_tt3, ↓lz_ll0, ↓lz_ll1, ↓lz_ll2, ↓lz_tix, ↓lz_lix, dSeq, dNext, dIfS, dRet, dRetO, dDrop, dSet, dNew, dApp, dAsg, dPar, dFrz, dVar, dOwn, dC, dOp, dI, dIC, dEq, dNe, dIn, dIxL, dIxT, dIxS, dAddS, dCatT, dCat, dL, dFin, dTup, dLst, dNil, dCons, dTest, dAnd, dOr, dNot, dAndV, dOrV, dNotV, dIf, dChain, dCall, dCallS, dCallN, wq_paper_happens, wq_paper_rule, wq_paper_end, wq_paper_hold, wq_paper_lift, wq_paper_leave, wq_happens_paper, wq_happens_rule, wq_happens_end, wq_happens_hold, wq_happens_lift, wq_happens_leave, wq_rule_paper, wq_rule_happens, wq_rule_end, wq_rule_hold, wq_rule_lift, wq_rule_leave, wq_end_paper, wq_end_happens, wq_end_rule, wq_end_hold, wq_end_lift, wq_end_leave, wq_hold_paper, wq_hold_happens, wq_hold_rule, wq_hold_end, wq_hold_lift, wq_hold_leave, wq_lift_paper, wq_lift_happens, wq_lift_rule, wq_lift_end, wq_lift_hold, wq_lift_leave, wq_leave_paper, wq_leave_happens, wq_leave_rule, wq_leave_end, wq_leave_hold, wq_leave_lift, dRep2, dSlL, dSlT, dSlS, dLits, dSel, dRev, dNoPart, dPart, dLen, dLenS, dTupOf, dAny, dTwo, dIsin, dJoin, dInt, dListOf, dYes, dComp, dCompT, dCompR, dFor, dForT, dForR, dForR2, dForI, dForTI, dForRI, dForR2I, dSlX, dDct0, dNeg, dUpper, dRevT, dRepT, cD_nm1, dInX, dLenT, dLtS, dInS, dEqZ, dInZ, dSortS, dCompSI, dCompR2I, dStrI, dIntT, dZfill, dSplit, dJs, dNever, dLtU, dNewK, dEmp, dPutK, dGetK, dGet1K, dInK, dSortK, dIsN, dNotN, dMulS, dIxSc, dSlSc, dAbs, dPar3, dExt, dMaxL, dForDK, dDisp, dPairs, dSortSet, dFrzK, dGetD, dSortPr, dSortKey, dLtP, dIndex, dListRg, dCompV, dCatX, dFld, dFldD, dForE, dDivmod, dSum, dMinL, dAnyI, dRepC, dSortSetN, dExtD, dJoinT, dRepV, dCompZ, take_iff, cD_1n, cD_2n, cD_3n, cD_4n, cD_n1, cD_n2, cD_n3, cD_n4, cD_13, ne_eq, thing_str, thing_int, thing_bool, thing_tup, thing_list, strsE1, strsE2, strsE3, dCompI, dCompTI, dCompRI, dgName, dgTup, dgCons, dgNil, forW, startD, dst0, CDiv, CPow, CMul, List.map_cons, List.map_nil, List.length_cons, List.length_nil, List.replicate, List.cons_append, List.nil_append, List.append_nil, Nat.reduceAdd, Nat.reduceSub, Nat.add_zero, Nat.zero_add, Nat.sub_self, List.getElem?_cons_zero, List.getElem?_cons_succ, List.getElem?_nil, List.set_cons_zero, List.set_cons_succ, Option.some.injEq, exists_eq_left', exists_eq_left, exists_and_left, exists_and_right, Option.join_some, Option.join_none, Sl.v.injEq, Sl.o.injEq, Sl.k.injEq, PyData.int.injEq, PyData.bool.injEq, PyData.str.injEq, PyData.tuple.injEq, PyData.list.injEq, List.cons.injEq, and_true, true_and, Nat.reduceLT, Nat.reduceLeDiff, exists_const, decide_eq_true_eq, Int.reduceLT, Int.reduceLE, Int.reduceNeg, Int.reducePow, Bool.not_eq_true', decide_eq_false_iff_not, and_assoc, or_true, true_or, ↓reduceIte, if_true, if_false, Bool.false_eq_true, Bool.true_eq_false, not_true_eq_false, not_false_eq_true, Bool.not_true, Bool.not_false, ite_true, ite_false, eq_self, exists_eq, reduceCtorEq, false_and, and_false, or_false, false_or, exists_false, Option.map_some, Option.map_none, scalD, List.all_cons, List.all_nil, List.any_cons, List.any_nil, Bool.and_true, Bool.or_false, Bool.true_and, Bool.false_or, atI_c0, atI_c1, atI_c2, atI_c3, atI_c4, eqv_str, eqv_int, eqv_bool, beq_self_eq_true, shp_int, shp_bl, shp_non, Shp, sizeLine_eq]
  intro i i0 i1
  split
  ·exact fun j j0 j1 => q j ⟨j0, by omega⟩
  ·split
   ·exact fun j j0 j1 => q j ⟨j0, by omega⟩
   ·split
    ·intro j j0 j1
     obtain ⟨v, e, hv⟩ := atI_mem (xs := [PyData.int 0, PyData.int 99999, PyData.int 59, PyData.int 60, PyData.int 365, PyData.int 366, PyData.int 36524, PyData.int 36525, PyData.int 99996]) (i := j) j0 (by show _ < ((9 : Nat) : Int); omega)
     refine ⟨v, e, ?_⟩
     simp only [List.mem_cons, List.not_mem_nil, or_false] at hv
     rcases hv with rfl | rfl | rfl | rfl | rfl | rfl | rfl | rfl | rfl <;> exact q _ ⟨by decide, by decide⟩
    ·intro y y0 y1 m m0 m1
     have yg := ystart_ge (y := 2000 + y) (by omega)
     refine ⟨_, rfl, by have : ((16777216 : Nat) : Int) = 16777216 := rfl; omega, by omega, by omega, ?_⟩
     refine ⟨fun i acc => ∃ ns : List Int, acc = ns.map .int ∧ (i : Int) ≤ ns.sum, ⟨[], rfl, by simp⟩, ?_, ?_⟩
     ·rintro i z acc hz ⟨ns, rfl, hs⟩
      obtain ⟨hi, rfl⟩ := rangeD_at hz
      have hb := mlen_bd (y := 2000 + y) (m := 1 + (i : Int)) (by omega) (by omega)
      walk_at "rz"
      exact ⟨_, _, rfl, by omega, by omega, ns ++ [_], by rw [List.map_append]; rfl, by rw [List.sum_append, List.sum_singleton]; omega⟩
     ·rintro acc ⟨ns, rfl, hs⟩
      rw [rangeD_len] at hs
      refine ⟨ns, rfl, _, rfl, fun j j0 j1 => q _ ?_⟩
      unfold isDayN
      split <;> omega
def F_lrule : List PyData → (PyData → Prop) → Prop := fun ds Q => ∃ a b c d e : Str, ds = [packD, .list [.str a, .str b, .str c, .str d, .str e]] ∧ (∀ z ∈ [a, b, c, d, e], Nm z) ∧ ∀ p, RuleV p → Q p
theorem ok_lrule (T : Txt K mg t) : FnOk P w K mg base CX0 2 t.a_x35 t.d_x35 ["_law_pack_here", "_law_names_here"] (spD K F_lrule) := by
 have G_x33 := ok_take (P := P) (w := w) (base := base) T
 refine T.F_x35.okD sc_x35 (fun ds Q h => ?_) (fun cdv A outer s H O ds Q E hr h => ?_)
 ·obtain ⟨a, b, c, d, e, rfl, _⟩ := h; rfl
 ·obtain ⟨a, b, c, d, e, rfl, hn, q⟩ := h
  refine' ⟨_, ?body, ?read⟩
  case body =>
   refine' dss_cons ?s1 ?r1
   case s1 =>
    generalize hE2_0 : Expr.List _ _ = ee2_0
    exact (ds_set (i := 2) sc_x35.nd rfl (by walk_at "o") (de_ix ix_list od_ixL (df (fe (fe_lits (ds := [.str "keep", .str "gone", .str "keep", .str "gone", .str "while", .str "follow", .str "leave"]) (by first | (subst hE2_0; rfl))))) (df (PE.imp (pe_call G_x33 (hr.mono (by decide)) rfl T.m_x33 T.F_x33.kp T.b_x33 .nil pass0 (da_cons (dv 0) (da_cons de_int da_nil))) dcall))))
   case' r1 => refine' dss_cons ?s3 ?r3
   case s3 => exact (ds_set (i := 3) sc_x35.nd rfl (by walk_at "o") (de_ix ix_list od_ixL (df (dv 1)) (df (PE.imp (pe_call G_x33 (hr.mono (by decide)) rfl T.m_x33 T.F_x33.kp T.b_x33 .nil pass0 (da_cons (dv 0) (da_cons de_int da_nil))) dcall))))
   case' r3 => refine' dss_cons ?s5 ?r5
   case s5 =>
    refine' ds_if ?c6 ?a6 dss_nil
    case c6 => exact (dt_cmp (op_inX hr) od_inX (df (dv 2)) (df (fe (fe_lst (da_lits (ds := [.str "while", .str "follow", .str "leave"]) (by rfl))))) rfl)
    case' a6 => refine' dss_one ?s7
    case s7 => exact (ds_ret (de_tup (da_cons (dv 2) (da_cons (dv 3) da_nil))))
   case' r5 => refine' dss_cons ?s9 ?r9
   case s9 => exact (ds_set (i := 4) sc_x35.nd rfl (by walk_at "o") (de_tup (da_cons de_str da_nil)))
   case' r9 => refine' dss_cons ?s11 ?r11
   case s11 => exact (ds_set (i := 5) sc_x35.nd rfl (by walk_at "o") (PE.imp (pe_call G_x33 (hr.mono (by decide)) rfl T.m_x33 T.F_x33.kp T.b_x33 .nil pass0 (da_cons (dv 0) (da_cons de_int da_nil))) dcall))
   case' r11 => refine' dss_cons ?s13 ?r13
   case s13 =>
    refine' ds_if ?c14 ?a14 dss_nil
    case c14 => exact (dt_cmp op_gt od_bl (df (dv 5)) (df de_int) (nomark _))
    case' a14 => refine' dss_one ?s15
    case' s15 => refine' ds_set (i := 4) sc_x35.nd rfl (by walk_at "o") ?e16 (hs := swaps_Tuple)
    case' e16 => refine' de_tup ?t17
    case' t17 => refine' da_cons ?u18 ?w18
    case u18 => exact (de_ix ix_list od_ixL (df (fe (fe_lst (da_cons de_str (da_cons de_str da_nil))))) (df (de_op op_sub od_int (df (dv 5)) (df de_int))))
    case' w18 => refine' da_cons ?u20 da_nil
    case u20 => exact (de_ix ix_list od_ixL (df (dv 1)) (df (PE.imp (pe_call G_x33 (hr.mono (by decide)) rfl T.m_x33 T.F_x33.kp T.b_x33 .nil pass0 (da_cons (dv 0) (da_cons de_int da_nil))) dcall)))
   case' r13 => refine' dss_cons ?s23 ?r23
   case s23 => exact (ds_set (i := 5) sc_x35.nd rfl (by walk_at "o") (PE.imp (pe_call G_x33 (hr.mono (by decide)) rfl T.m_x33 T.F_x33.kp T.b_x33 .nil pass0 (da_cons (dv 0) (da_cons de_int da_nil))) dcall))
   case' r23 => refine' dss_cons ?s25 ?r25
   case s25 => exact (ds_set (i := 6) sc_x35.nd rfl (by walk_at "o") (de_ix ix_list od_ixL (df (fe (fe_lst (da_cons de_int (da_cons de_int da_nil))))) (df (de_op op_mod od_intC (df (dv 5)) (df de_int)))))
   case' r25 => refine' dss_cons ?s27 ?r27
   case s27 =>
    refine' ds_if ?c28 ?a28 dss_nil
    case c28 => exact (dt_cmp op_gt od_bl (df (dv 5)) (df de_int) (nomark _))
    case' a28 => refine' dss_one ?s29
    case' s29 => refine' ds_set (i := 6) sc_x35.nd rfl (by walk_at "o") ?e30 (hs := swaps_Call)
    case e30 => exact (PE.imp (pe_call G_x33 (hr.mono (by decide)) rfl T.m_x33 T.F_x33.kp T.b_x33 .nil pass0 (da_cons (dv 0) (da_cons (de_ix ix_list od_ixL (df (fe (fe_lst (da_cons de_int (da_cons de_int da_nil))))) (df (de_op op_sub od_int (df (dv 5)) (df de_int)))) da_nil))) dcall)
   case' r27 => refine' dss_one ?s32
   case' s32 => refine' ds_ret ?e33
   case' e33 => refine' de_tup ?t34
   case' t34 => refine' da_cons (dv 2) ?w35
   case' w35 => refine' da_cons (dv 3) ?w37
   case' w37 => refine' da_cons (dv 4) ?w39
   case' w39 => refine' da_cons (dv 6) ?w41
   case' w41 => refine' da_cons ?u43 da_nil
   case' u43 => refine' de_ix ix_list od_ixL (df ?a44) ?b44
   case a44 => exact (fe (fe_lst (da_lits (ds := [.str "days", .str "months", .str "years"]) (by rfl))))
   case b44 => exact (df (PE.imp (pe_call G_x33 (hr.mono (by decide)) rfl T.m_x33 T.F_x33.kp T.b_x33 .nil pass0 (da_cons (dv 0) (da_cons de_int da_nil))) dcall))
  case read =>
  clear hr T G_x33
  simp only [take_iff, true_and, ↓lz_w, ↓lz_k0, ↓lz_kS, ↓lz_kE, ↓lz_kN, ↓lz_ks, ↓lz_ki, ↓lz_wN, ↓lz_v0, ↓lz_vS, ↓lz_vE, ↓lz_vN, ↓lz_o0, ↓lz_oS, ↓lz_oE, ↓lz_oN, ↓lz_b, ↓lz_i, ↓lz_s, ↓lz_t, ↓lz_l, ↓lz_ii, ↓lz_ss, ↓lz_tt, ↓lz_ll, ↓lz_cons, ↓lz_two, ↓lz_tt0, ↓lz_tt1, ↓lz_tt2, ↓lz_tt3, ↓lz_ll0, ↓lz_ll1, ↓lz_ll2, ↓lz_tix, ↓lz_lix, dSeq, dNext, dIfS, dRet, dRetO, dDrop, dSet, dNew, dApp, dAsg, dPar, dFrz, dVar, dOwn, dC, dOp, dI, dIC, dEq, dNe, dIn, dIxL, dIxT, dIxS, dAddS, dCatT, dCat, dL, dFin, dTup, dLst, dNil, dCons, dTest, dAnd, dOr, dNot, dAndV, dOrV, dNotV, dIf, dChain, dCall, dCallS, dCallN, wq_paper_happens, wq_paper_rule, wq_paper_end, wq_paper_hold, wq_paper_lift, wq_paper_leave, wq_happens_paper, wq_happens_rule, wq_happens_end, wq_happens_hold, wq_happens_lift, wq_happens_leave, wq_rule_paper, wq_rule_happens, wq_rule_end, wq_rule_hold, wq_rule_lift, wq_rule_leave, wq_end_paper, wq_end_happens, wq_end_rule, wq_end_hold, wq_end_lift, wq_end_leave, wq_hold_paper, wq_hold_happens, wq_hold_rule, wq_hold_end, wq_hold_lift, wq_hold_leave, wq_lift_paper, wq_lift_happens, wq_lift_rule, wq_lift_end, wq_lift_hold, wq_lift_leave, wq_leave_paper, wq_leave_happens, wq_leave_rule, wq_leave_end, wq_leave_hold, wq_leave_lift, dRep2, dSlL, dSlT, dSlS, dLits, dSel, dRev, dNoPart, dPart, dLen, dLenS, dTupOf, dAny, dTwo, dIsin, dJoin, dInt, dListOf, dYes, dComp, dCompT, dCompR, dFor, dForT, dForR, dForR2, dForI, dForTI, dForRI, dForR2I, dSlX, dDct0, dNeg, dUpper, dRevT, dRepT, cD_nm1, dInX, dLenT, dLtS, dInS, dEqZ, dInZ, dSortS, dCompSI, dCompR2I, dStrI, dIntT, dZfill, dSplit, dJs, dNever, dLtU, dNewK, dEmp, dPutK, dGetK, dGet1K, dInK, dSortK, dIsN, dNotN, dMulS, dIxSc, dSlSc, dAbs, dPar3, dExt, dMaxL, dForDK, dDisp, dPairs, dSortSet, dFrzK, dGetD, dSortPr, dSortKey, dLtP, dIndex, dListRg, dCompV, dCatX, dFld, dFldD, dForE, dDivmod, dSum, dMinL, dAnyI, dRepC, dSortSetN, dExtD, dJoinT, dRepV, dCompZ, take_iff, cD_1n, cD_2n, cD_3n, cD_4n, cD_n1, cD_n2, cD_n3, cD_n4, cD_13, ne_eq, thing_str, thing_int, thing_bool, thing_tup, thing_list, strsE1, strsE2, strsE3, dCompI, dCompTI, dCompRI, dgName, dgTup, dgCons, dgNil, forW, startD, dst0, CDiv, CPow, CMul, List.map_cons, List.map_nil, List.length_cons, List.length_nil, List.replicate, List.cons_append, List.nil_append, List.append_nil, Nat.reduceAdd, Nat.reduceSub, Nat.add_zero, Nat.zero_add, Nat.sub_self, List.getElem?_cons_zero, List.getElem?_cons_succ, List.getElem?_nil, List.set_cons_zero, List.set_cons_succ, Option.some.injEq, exists_eq_left', exists_eq_left, exists_and_left, exists_and_right, Option.join_some, Option.join_none, Sl.v.injEq, Sl.o.injEq, Sl.k.injEq, PyData.int.injEq, PyData.bool.injEq, PyData.str.injEq, PyData.tuple.injEq, PyData.list.injEq, List.cons.injEq, and_true, true_and, Nat.reduceLT, Nat.reduceLeDiff, exists_const, decide_eq_true_eq, Int.reduceLT, Int.reduceLE, Int.reduceNeg, Int.reducePow, Bool.not_eq_true', decide_eq_false_iff_not, and_assoc, or_true, true_or, ↓reduceIte, if_true, if_false, Bool.false_eq_true, Bool.true_eq_false, not_true_eq_false, not_false_eq_true, Bool.not_true, Bool.not_false, ite_true, ite_false, eq_self, exists_eq, reduceCtorEq, false_and, and_false, or_false, false_or, exists_false, Option.map_some, Option.map_none, scalD, List.all_cons, List.all_nil, List.any_cons, List.any_nil, Bool.and_true, Bool.or_false, Bool.true_and, Bool.false_or, atI_c0, atI_c1, atI_c2, atI_c3, atI_c4, eqv_str, eqv_int, eqv_bool, beq_self_eq_true, shp_int, shp_bl, shp_non, Shp, sizeLine_eq]
  intro i i0 i1
  obtain ⟨wo, hw, ew⟩ := pickT [Str.ofString "keep", Str.ofString "gone", Str.ofString "keep", Str.ofString "gone", Str.ofString "while", Str.ofString "follow", Str.ofString "leave"] (i := i) i0 (by show _ < ((7 : Nat) : Int); omega)
  refine ⟨_, ew, fun i i0 i1 => ?_⟩
  have nm5 : ∀ i : Int, 0 ≤ i → i < 5 → ∃ nm, atI [PyData.str a, PyData.str b, PyData.str c, PyData.str d, PyData.str e] i = some (.str nm) ∧ Nm nm := fun i i0 i1 => by
   obtain ⟨nm, hm, en⟩ := pickT [a, b, c, d, e] i0 (show i < ((5 : Nat) : Int) by omega)
   exact ⟨nm, en, hn nm hm⟩
  obtain ⟨kd, ek, hk⟩ := nm5 i i0 i1
  have hw2 : wo ∈ (["while", "follow", "leave"] : List Str) ∨ wo ∈ (["keep", "gone"] : List Str) := by
   simp only [List.mem_cons, List.not_mem_nil, or_false] at hw ⊢
   rcases hw with h | h | h | h | h | h | h <;> simp [h]
  have wl : ∀ z ∈ (["while", "follow", "leave", "keep", "gone"] : List Str), SeqAt.shaped (.str z) = true := by decide +kernel
  refine ⟨_, ek, wl wo (by
   simp only [List.mem_cons, List.not_mem_nil, or_false] at hw2 ⊢
   rcases hw2 with (h | h | h) | (h | h) <;> simp [h]), by decide +kernel, ?_⟩
  rw [eqv_str, eqv_str, eqv_str]
  split
  ·rename_i h
   refine q _ (.wfl ?_ hk)
   simp only [Bool.or_eq_true, beq_iff_eq] at h
   simp only [List.mem_cons, List.not_mem_nil, or_false]
   rcases h with h | h | h <;> simp [h]
  ·rename_i h
   have hkg : wo ∈ (["keep", "gone"] : List Str) := by
    rcases hw2 with z | z
    ·exfalso; apply h
     simp only [List.mem_cons, List.not_mem_nil, or_false] at z
     rcases z with rfl | rfl | rfl <;> decide +kernel
    ·exact z
   have un : ∀ (s : PyData) (m : Int), SinceV s → 0 ≤ m → m ≤ 999 → ∀ i : Int, 0 ≤ i → i < 3 → ∃ x_3, atI [PyData.str (Str.ofString "days"), PyData.str (Str.ofString "months"), PyData.str (Str.ofString "years")] i = some x_3 ∧ Q (PyData.tuple [.str wo, .str kd, s, .int m, x_3]) := fun s m hs m0 m1 i i0 i1 => by
    obtain ⟨u, hu, eu⟩ := pickT [Str.ofString "days", Str.ofString "months", Str.ofString "years"] i0 (show i < ((3 : Nat) : Int) by omega)
    exact ⟨_, eu, q _ (.kg hkg hk hs m0 m1 hu)⟩
   have tl : ∀ s : PyData, SinceV s → ∀ i : Int, 0 ≤ i → i < 4 → ∃ d, atI [PyData.int 0, PyData.int 999] (i % 2) = some d ∧ if 1 < i then ∃ d, atI [PyData.int 1000, PyData.int 13] (i - 2) = some d ∧ F_take [packD, d] fun d => ∀ i : Int, 0 ≤ i → i < 3 → ∃ x_3, atI [PyData.str (Str.ofString "days"), PyData.str (Str.ofString "months"), PyData.str (Str.ofString "years")] i = some x_3 ∧ Q (PyData.tuple [.str wo, .str kd, s, d, x_3]) else ∀ i : Int, 0 ≤ i → i < 3 → ∃ x_3, atI [PyData.str (Str.ofString "days"), PyData.str (Str.ofString "months"), PyData.str (Str.ofString "years")] i = some x_3 ∧ Q (PyData.tuple [.str wo, .str kd, s, d, x_3]) := fun s hs i i0 i1 => by
    rcases (show i = 0 ∨ i = 1 ∨ i = 2 ∨ i = 3 by omega) with rfl | rfl | rfl | rfl
    ·exact ⟨_, rfl, un s 0 hs (by decide) (by decide)⟩
    ·exact ⟨_, rfl, un s 999 hs (by decide) (by decide)⟩
    ·exact ⟨_, rfl, _, rfl, 1000, rfl, by decide, by decide, fun j j0 j1 => un s j hs j0 (by omega)⟩
    ·exact ⟨_, rfl, _, rfl, 13, rfl, by decide, by decide, fun j j0 j1 => un s j hs j0 (by omega)⟩
   intro i i0 i1
   rcases (show i = 0 ∨ i = 1 ∨ i = 2 by omega) with rfl | rfl | rfl
   ·exact tl _ .coming
   ·refine ⟨_, rfl, fun j j0 j1 => ?_⟩
    obtain ⟨h, eh, hh⟩ := nm5 j j0 j1
    exact ⟨_, eh, tl _ (.first hh)⟩
   ·refine ⟨_, rfl, fun j j0 j1 => ?_⟩
    obtain ⟨h, eh, hh⟩ := nm5 j j0 j1
    exact ⟨_, eh, tl _ (.last hh)⟩
end
end K58

open PySem L2
namespace K58
open Day
theorem cs_x40_0 : CompScope (defScope s_x40) ["_law_pack_here", "_law_names_here", "_law_word", "_law_head", "_law_other", "_law_some", "_law_target"] ["_law_name", "_law_pack_here"] 1 [0] { kind := PySem.ScopeKind.function, names := [ (PySem.Str.ofString ".0", PySem.NameKind.local), (PySem.Str.ofString "_law_name", PySem.NameKind.local), (PySem.Str.ofString "_law_take", PySem.NameKind.globalImplicit), (PySem.Str.ofString "_law_pack_here", PySem.NameKind.free)], isGenerator := false, isCoroutine := false, more := [] : PySem.Scope } := ⟨rfl, by decide +kernel, by decide +kernel, by decide +kernel, rfl, by decide +kernel, by decide +kernel, by decide +kernel, rfl⟩
section
variable {P : Program} {w : World} {K : PySem.W.Frag} {mg : Str → Option Value} {base : Heap} {t : Adr}
theorem sort_up {ns : List Str} (h : ns.Nodup) : (sortS ns).Pairwise ltS := by
 have p := sortS_pw ns
 have n : (sortS ns).Nodup := (sortS_perm ns).nodup_iff.mpr h
 refine List.Pairwise.imp₂ (fun a b h1 h2 => ?_) p n
 by_cases q : a.cps.toList < b.cps.toList
 ·exact q
 ·exact absurd (leS_anti h1 (decide_eq_true (List.not_lt.mp q))) h2
theorem cut_nat {xs : List PyData} {k : Nat} : cutD xs none (some (k : Int)) = xs.take k := by
 by_cases h : k ≤ xs.length
 ·rw [cutD_take (by omega) (by omega), Int.toNat_natCast]
 ·unfold cutD
  have e : HT.sIx xs.length xs.length (some (k : Int)) = xs.length := by
   simp only [HT.sIx]; rw [if_neg (by omega), Int.toNat_natCast]; omega
  rw [sIx_none, List.drop_zero, Nat.sub_zero, e, List.take_of_length_le (Nat.le_refl _), List.take_of_length_le (by omega)]
theorem anyd_iff {Q : PyData → Prop} : F_anyd [packD] Q ↔ ∀ d : Int, isDayN d → Q (.int d) := ⟨fun ⟨_, h⟩ => h, fun h => ⟨rfl, h⟩⟩
def F_ldrawn : List PyData → (PyData → Prop) → Prop := fun ds Q => ∃ a b c d e : Str, ds = [packD, .list [.str a, .str b, .str c, .str d, .str e]] ∧ (∀ z ∈ [a, b, c, d, e], Nm z) ∧ [a, b, c, d, e].Nodup ∧ ∀ p, DeedV p → Q p
theorem ok_ldrawn (T : Txt K mg t) : FnOk P w K mg base CX0 3 t.a_x40 t.d_x40 ["_law_pack_here", "_law_names_here"] (spD K F_ldrawn) := by
 have G_x33 := ok_take (P := P) (w := w) (base := base) T
 have G_x39 := ok_anyd (P := P) (w := w) (base := base) T
 have G_x35 := ok_lrule (P := P) (w := w) (base := base) T
 refine T.F_x40.okD sc_x40 (fun ds Q h => ?_) (fun cdv A outer s H O ds Q E hr h => ?_)
 ·obtain ⟨a, b, c, d, e, rfl, _⟩ := h; rfl
 ·obtain ⟨a, b, c, d, e, rfl, hn, nd, q⟩ := h
  refine' ⟨_, ?body, ?read⟩
  case body =>
   refine' dss_cons ?s1 ?r1
   case s1 =>
    generalize hE2_0 : Expr.List _ _ = ee2_0
    exact (ds_set (i := 2) sc_x40.nd rfl (by walk_at "o") (de_ix ix_list od_ixL (df (fe (fe_lits (ds := [.str "paper", .str "happens", .str "rule", .str "rule", .str "end", .str "hold", .str "lift", .str "leave"]) (by first | (subst hE2_0; rfl))))) (df (PE.imp (pe_call G_x33 (hr.mono (by decide)) rfl T.m_x33 T.F_x33.kp T.b_x33 .nil pass0 (da_cons (dv 0) (da_cons de_int da_nil))) dcall))))
   case' r1 => refine' dss_cons ?s3 ?r3
   case s3 =>
    refine' ds_set (i := 3) sc_x40.nd rfl (by walk_at "o") ?e4 (hs := swaps_Tuple)
    case' e4 => refine' de_tup ?t5
    case' t5 => refine' da_cons (dv 2) ?w6
    case' w6 => refine' da_cons ?u8 ?w8
    case u8 => exact (PE.imp (pe_call G_x39 (hr.mono (by decide)) rfl T.m_x39 T.F_x39.kp T.b_x39 .nil pass0 (da_cons (dv 0) da_nil)) dcall)
    case' w8 => refine' da_cons ?u10 da_nil
    case u10 => exact (de_ix ix_list od_ixL (df (dv 1)) (df (PE.imp (pe_call G_x33 (hr.mono (by decide)) rfl T.m_x33 T.F_x33.kp T.b_x33 .nil pass0 (da_cons (dv 0) (da_cons de_int da_nil))) dcall)))
   case' r3 => refine' dss_cons ?s13 ?r13
   case s13 => exact (ds_set (i := 4) sc_x40.nd rfl (by walk_at "o") (de_ix ix_list od_ixL (df (dv 1)) (df (PE.imp (pe_call G_x33 (hr.mono (by decide)) rfl T.m_x33 T.F_x33.kp T.b_x33 .nil pass0 (da_cons (dv 0) (da_cons de_int da_nil))) dcall))))
   case' r13 => refine' dss_cons ?s15 ?r15
   case s15 =>
    refine' ds_if ?c16 ?a16 dss_nil
    case c16 => exact (dt_cmp (op_eqZ hr) od_eqZ (df (dv 2)) (df de_str) (nomark _))
    case' a16 => refine' dss_cons ?s17 ?r17
    case s17 =>
     refine' ds_set (i := 5) sc_x40.nd rfl (by walk_at "o") ?e18 (hs := swaps_Call)
     case e18 => exact (fe (fe_sortS rfl T.n_sorted PyProof.Rows.boot_sorted (db_cons (df (fe (fe_compI rfl cs_x40_0 (df (dv 1)) gd_name keepName (by decide) (fun _ _ _ _ => (pg_name (i := 0) cs_x40_0.nd rfl (by walk_at "o"))) (fun _ _ _ _ => (pf_one (dt_cmp (op_eqX hr.units) od_eq (df (PE.imp (pe_call G_x33 (hr.mono (by decide)) rfl T.m_x33 T.F_x33.kp T.b_x33 .nil pass0 (da_cons (dv 1) (da_cons de_int da_nil))) dcall)) (df de_int) (nomark _)))) (fun _ _ _ _ => (dv 0))))) db_nil)))
    case' r17 => refine' dss_one ?s20
    case' s20 => refine' ds_ret ?e21
    case' e21 => refine' de_op op_catX od_catX (df (dv 3)) (df ?b22)
    case' b22 => refine' de_tup ?t24
    case' t24 => refine' da_cons (dv 4) ?w25
    case' w25 => refine' da_cons ?u27 da_nil
    case u27 => exact (PE.imp (pe_callTy call_tuple_of rfl T.n_tuple bt_tuple (db_cons (df (fe (fe_slice (df (dv 5)) do_none (do_some de_int)))) db_nil)) (dcb cd_tupOf))
   case' r15 => refine' dss_cons ?s30 ?r30
   case s30 =>
    refine' ds_if ?c31 ?a31 dss_nil
    case c31 => exact (dt_cmp (op_eqZ hr) od_eqZ (df (dv 2)) (df de_str) (nomark _))
    case' a31 => refine' dss_one ?s32
    case' s32 => refine' ds_ret ?e33
    case' e33 => refine' de_op op_catX od_catX (df (dv 3)) (df ?b34)
    case b34 => exact (de_tup (da_cons (PE.imp (pe_call G_x35 (hr.mono (by decide)) rfl T.m_x35 T.F_x35.kp T.b_x35 .nil pass0 (da_cons (dv 0) (da_cons (dv 1) da_nil))) dcall) da_nil))
   case' r30 => refine' dss_cons ?s37 ?r37
   case s37 =>
    refine' ds_if ?c38 ?a38 dss_nil
    case c38 => exact (dt_cmp (op_eqZ hr) od_eqZ (df (dv 2)) (df de_str) (nomark _))
    case' a38 => refine' dss_cons ?s39 ?r39
    case s39 =>
     refine' ds_set (i := 6) sc_x40.nd rfl (by walk_at "o") ?e40 (hs := swaps_Subscript)
     case' e40 => refine' de_ix ix_list od_ixL (df ?a41) ?b41
     case a41 =>
      refine' fe ?f42
      case' f42 => refine' fe_lst ?g43
      case' g43 => refine' da_cons ?u44 ?w44
      case u44 => exact (de_tup (da_cons de_str (da_cons (dv 4) da_nil)))
      case' w44 => refine' da_cons ?u46 da_nil
      case u46 => exact (de_tup (da_cons de_str (da_cons (dv 4) da_nil)))
     case b41 => exact (df (PE.imp (pe_call G_x33 (hr.mono (by decide)) rfl T.m_x33 T.F_x33.kp T.b_x33 .nil pass0 (da_cons (dv 0) (da_cons de_int da_nil))) dcall))
    case' r39 => refine' dss_one ?s49
    case' s49 => refine' ds_ret ?e50
    case' e50 => refine' de_op op_catX od_catX (df (dv 3)) (df ?b51)
    case' b51 => refine' de_tup ?t53
    case' t53 => refine' da_cons (dv 6) ?w54
    case' w54 => refine' da_cons ?u56 da_nil
    case u56 => exact (de_cmp (op_eqX hr.units) od_eq (df (PE.imp (pe_call G_x33 (hr.mono (by decide)) rfl T.m_x33 T.F_x33.kp T.b_x33 .nil pass0 (da_cons (dv 0) (da_cons de_int da_nil))) dcall)) (df de_int) (nomark _))
   case' r37 => refine' dss_cons ?s59 ?r59
   case s59 =>
    refine' ds_if ?c60 ?a60 dss_nil
    case c60 => exact (PW.pt (dw_or (dt_cmp (op_eqZ hr) od_eqZ (df (dv 2)) (df de_str) (nomark _)) (dw_or1 (dt_cmp (op_eqZ hr) od_eqZ (df (dv 2)) (df de_str) (nomark _)))))
    case' a60 => refine' dss_one ?s61
    case s61 => exact (ds_ret (de_op op_catX od_catX (df (dv 3)) (df (de_tup (da_cons (dv 4) da_nil)))))
   case' r59 => refine' dss_one ?s63
   case s63 => exact (ds_ret (dv 3))
  case read =>
  clear hr T G_x33 G_x39 G_x35
  simp only [take_iff, anyd_iff, true_and, ↓lz_w, ↓lz_k0, ↓lz_kS, ↓lz_kE, ↓lz_kN, ↓lz_ks, ↓lz_ki, ↓lz_wN, ↓lz_v0, ↓lz_vS, ↓lz_vE, ↓lz_vN, ↓lz_o0, ↓lz_oS, ↓lz_oE, ↓lz_oN, ↓lz_b, ↓lz_i, ↓lz_s, ↓lz_t, ↓lz_l, ↓lz_ii, ↓lz_ss, ↓lz_tt, ↓lz_ll, ↓lz_cons, ↓lz_two, ↓lz_tt0, ↓lz_tt1, ↓lz_tt2, ↓lz_tt3, ↓lz_ll0, ↓lz_ll1, ↓lz_ll2, ↓lz_tix, ↓lz_lix, dSeq, dNext, dIfS, dRet, dRetO, dDrop, dSet, dNew, dApp, dAsg, dPar, dFrz, dVar, dOwn, dC, dOp, dI, dIC, dEq, dNe, dIn, dIxL, dIxT, dIxS, dAddS, dCatT, dCat, dL, dFin, dTup, dLst, dNil, dCons, dTest, dAnd, dOr, dNot, dAndV, dOrV, dNotV, dIf, dChain, dCall, dCallS, dCallN, wq_paper_happens, wq_paper_rule, wq_paper_end, wq_paper_hold, wq_paper_lift, wq_paper_leave, wq_happens_paper, wq_happens_rule, wq_happens_end, wq_happens_hold, wq_happens_lift, wq_happens_leave, wq_rule_paper, wq_rule_happens, wq_rule_end, wq_rule_hold, wq_rule_lift, wq_rule_leave, wq_end_paper, wq_end_happens, wq_end_rule, wq_end_hold, wq_end_lift, wq_end_leave, wq_hold_paper, wq_hold_happens, wq_hold_rule, wq_hold_end, wq_hold_lift, wq_hold_leave, wq_lift_paper, wq_lift_happens, wq_lift_rule, wq_lift_end, wq_lift_hold, wq_lift_leave, wq_leave_paper, wq_leave_happens, wq_leave_rule, wq_leave_end, wq_leave_hold, wq_leave_lift, dRep2, dSlL, dSlT, dSlS, dLits, dSel, dRev, dNoPart, dPart, dLen, dLenS, dTupOf, dAny, dTwo, dIsin, dJoin, dInt, dListOf, dYes, dComp, dCompT, dCompR, dFor, dForT, dForR, dForR2, dForI, dForTI, dForRI, dForR2I, dSlX, dDct0, dNeg, dUpper, dRevT, dRepT, cD_nm1, dInX, dLenT, dLtS, dInS, dEqZ, dInZ, dSortS, dCompSI, dCompR2I, dStrI, dIntT, dZfill, dSplit, dJs, dNever, dLtU, dNewK, dEmp, dPutK, dGetK, dGet1K, dInK, dSortK, dIsN, dNotN, dMulS, dIxSc, dSlSc, dAbs, dPar3, dExt, dMaxL, dForDK, dDisp, dPairs, dSortSet, dFrzK, dGetD, dSortPr, dSortKey, dLtP, dIndex, dListRg, dCompV, dCatX, dFld, dFldD, dForE, dDivmod, dSum, dMinL, dAnyI, dRepC, dSortSetN, dExtD, dJoinT, dRepV, dCompZ, take_iff, cD_1n, cD_2n, cD_3n, cD_4n, cD_n1, cD_n2, cD_n3, cD_n4, cD_13, ne_eq, thing_str, thing_int, thing_bool, thing_tup, thing_list, strsE1, strsE2, strsE3, dCompI, dCompTI, dCompRI, dgName, dgTup, dgCons, dgNil, forW, startD, dst0, CDiv, CPow, CMul, List.map_cons, List.map_nil, List.length_cons, List.length_nil, List.replicate, List.cons_append, List.nil_append, List.append_nil, Nat.reduceAdd, Nat.reduceSub, Nat.add_zero, Nat.zero_add, Nat.sub_self, List.getElem?_cons_zero, List.getElem?_cons_succ, List.getElem?_nil, List.set_cons_zero, List.set_cons_succ, Option.some.injEq, exists_eq_left', exists_eq_left, exists_and_left, exists_and_right, Option.join_some, Option.join_none, Sl.v.injEq, Sl.o.injEq, Sl.k.injEq, PyData.int.injEq, PyData.bool.injEq, PyData.str.injEq, PyData.tuple.injEq, PyData.list.injEq, List.cons.injEq, and_true, true_and, Nat.reduceLT, Nat.reduceLeDiff, exists_const, decide_eq_true_eq, Int.reduceLT, Int.reduceLE, Int.reduceNeg, Int.reducePow, Bool.not_eq_true', decide_eq_false_iff_not, and_assoc, or_true, true_or, ↓reduceIte, if_true, if_false, Bool.false_eq_true, Bool.true_eq_false, not_true_eq_false, not_false_eq_true, Bool.not_true, Bool.not_false, ite_true, ite_false, eq_self, exists_eq, reduceCtorEq, false_and, and_false, or_false, false_or, exists_false, Option.map_some, Option.map_none, scalD, List.all_cons, List.all_nil, List.any_cons, List.any_nil, Bool.and_true, Bool.or_false, Bool.true_and, Bool.false_or, atI_c0, atI_c1, atI_c2, atI_c3, atI_c4, eqv_str, eqv_int, eqv_bool, beq_self_eq_true, shp_int, shp_bl, shp_non, Shp, sizeLine_eq]
  intro i i0 i1
  obtain ⟨wo, hw, ew⟩ := pickT [Str.ofString "paper", Str.ofString "happens", Str.ofString "rule", Str.ofString "rule", Str.ofString "end", Str.ofString "hold", Str.ofString "lift", Str.ofString "leave"] (i := i) i0 (by show _ < ((8 : Nat) : Int); omega)
  have nm5 : ∀ i : Int, 0 ≤ i → i < 5 → ∃ nm, atI [PyData.str a, PyData.str b, PyData.str c, PyData.str d, PyData.str e] i = some (.str nm) ∧ Nm nm := fun i i0 i1 => by
   obtain ⟨nm, hm, en⟩ := pickT [a, b, c, d, e] i0 (show i < ((5 : Nat) : Int) by omega)
   exact ⟨nm, en, hn nm hm⟩
  refine ⟨_, ew, fun n hd i i0 i1 => ?_⟩
  obtain ⟨x, ex, hx⟩ := nm5 i i0 i1
  refine ⟨_, ex, fun i i0 i1 => ?_⟩
  obtain ⟨y, ey, hy⟩ := nm5 i i0 i1
  refine ⟨_, ey, thing_str, ?_⟩
  rw [eqv_str]
  split
  ·rename_i h
   rw [eq_of_beq h]
   refine compI_sub (fun x hx R S hR hS => ?_) fun ys hy' => ?_
   ·walk_at "rz"
    intro i i0 i1
    split
    ·exact hR
    ·exact hS
   ·have e5 : ([PyData.str a, .str b, .str c, .str d, .str e] : List PyData) = [a, b, c, d, e].map .str := rfl
    rw [e5] at hy'
    obtain ⟨zs, hz, rfl⟩ := List.sublist_map_iff.mp hy'
    have zl : zs.length ≤ 5 := hz.length_le
    refine ⟨zs, rfl, by omega, ?_⟩
    have ce : cutD ((sortS zs).map PyData.str) none (some 4) = ((sortS zs).take 4).map .str := by rw [List.map_take]; exact cut_nat (k := 4)
    rw [ce]
    refine q _ (.paper hd hx hy ⟨by rw [List.length_take]; omega, fun m hm => hn m (hz.subset ((sortS_perm zs).mem_iff.mp (List.mem_of_mem_take hm))), (sort_up (nd.sublist hz)).sublist (List.take_sublist _ _)⟩)
  ·rename_i hp
   refine ⟨thing_str, ?_⟩
   rw [eqv_str]
   split
   ·rename_i h
    rw [eq_of_beq h]
    exact ⟨a, b, c, d, e, rfl, hn, fun p pp => q _ (.rule hd hx pp)⟩
   ·rename_i hr
    refine ⟨thing_str, ?_⟩
    rw [eqv_str]
    split
    ·rename_i h
     rw [eq_of_beq h]
     intro i i0 i1
     rcases (show i = 0 ∨ i = 1 by omega) with rfl | rfl
     ·exact ⟨_, rfl, fun j _ _ => q _ (.hold hd hx (by simp) hy)⟩
     ·exact ⟨_, rfl, fun j _ _ => q _ (.hold hd hx (by simp) hy)⟩
    ·rename_i ho
     refine ⟨thing_str, ?_⟩
     rw [eqv_str]
     split
     ·rename_i h
      exact q _ (.two (by rw [eq_of_beq h]; simp) hd hx hy)
     ·rename_i hh
      refine ⟨thing_str, ?_⟩
      rw [eqv_str]
      split
      ·rename_i h
       exact q _ (.two (by rw [eq_of_beq h]; simp) hd hx hy)
      ·rename_i hl
       refine q _ (.one ?_ hd hx)
       simp only [List.mem_cons, List.not_mem_nil, or_false] at hw ⊢
       rcases hw with h | h | h | h | h | h | h | h
       ·exact absurd (by rw [h]; rfl) hp
       ·exact absurd (by rw [h]; rfl) hh
       ·exact absurd (by rw [h]; rfl) hr
       ·exact absurd (by rw [h]; rfl) hr
       ·exact .inl h
       ·exact absurd (by rw [h]; rfl) ho
       ·exact .inr h
       ·exact absurd (by rw [h]; rfl) hl
theorem deed_sz {d : PyData} (h : DeedV d) : ((deedW d).map (fun x : Str => x.length)).sum + (deedW d).length * (Str.ofString " ").length ≤ 16777216 := by
 have dw := deed_words h
 have := sum_wz dw.2
 have := dw.1
 rw [l_s]; omega
def F_written : List PyData → (PyData → Prop) → Prop := fun ds Q => ∃ d, ds = [d] ∧ DeedV d ∧ Q (.str (deedT d))
set_option maxHeartbeats 2000000 in
theorem ok_written (T : Txt K mg t) : FnOk P w K mg base CX0 3 t.a_x41 t.d_x41 ["_law_deed"] (spD K F_written) := by
 have G_x38 := ok_dayt (P := P) (w := w) (base := base) T
 refine T.F_x41.okD sc_x41 (fun ds Q h => ?_) (fun cdv A outer s H O ds Q E hr h => ?_)
 ·obtain ⟨d, rfl, _⟩ := h; rfl
 ·obtain ⟨d, rfl, hd, q⟩ := h
  refine' ⟨_, ?body, ?read⟩
  case body =>
   refine' dss_cons ?s1 ?r1
   case s1 =>
    refine' ds_new (i := 1) sc_x41.nd rfl (by walk_at "o") ?e2 (hs := swaps_List)
    case' e2 => refine' fe_lst ?g3
    case' g3 => refine' da_cons ?u4 ?w4
    case u4 => exact (de_ix ix_tup od_ixT (df (dv 0)) (df de_int))
    case' w4 => refine' da_cons ?u6 ?w6
    case u6 => exact (PE.imp (pe_call G_x38 (hr.mono (by decide)) rfl T.m_x38 T.F_x38.kp T.b_x38 .nil pass0 (da_cons (de_ix ix_tup od_ixT (df (dv 0)) (df de_int)) da_nil)) dcall)
    case' w6 => refine' da_cons ?u8 da_nil
    case u8 => exact (de_ix ix_tup od_ixT (df (dv 0)) (df de_int))
   case' r1 => refine' dss_cons ?s11 ?r11
   case s11 =>
    refine' ds_if ?c12 ?a12 dss_nil
    case c12 => exact (dt_cmp (op_eqZ hr) od_eqZ (df (de_ix ix_tup od_ixT (df (dv 0)) (df de_int))) (df de_str) (nomark _))
    case' a12 => refine' dss_one ?s13
    case' s13 => refine' ds_new (i := 1) sc_x41.nd rfl (by walk_at "o") ?e14 (hs := swaps_BinOp)
    case' e14 => refine' fe_cat (df ?a15) (df ?b15)
    case a15 => exact (fe (fe_cat (dw 1) (df (fe (fe_lst (da_cons (de_ix ix_tup od_ixT (df (dv 0)) (df de_int)) da_nil))))))
    case b15 => exact (fe (fe_listOf rfl T.n_list bt_list (db_cons (df (de_ix ix_tup od_ixT (df (dv 0)) (df de_int))) db_nil)))
   case' r11 => refine' dss_cons ?s18 ?r18
   case s18 =>
    refine' ds_if ?c19 ?a19 dss_nil
    case c19 => exact (dt_cmp (op_eqZ hr) od_eqZ (df (de_ix ix_tup od_ixT (df (dv 0)) (df de_int))) (df de_str) (nomark _))
    case' a19 => refine' dss_cons ?s20 ?r20
    case s20 =>
     refine' ds_new (i := 1) sc_x41.nd rfl (by walk_at "o") ?e21 (hs := swaps_BinOp)
     case' e21 => refine' fe_cat (dw 1) (df ?b22)
     case b22 => exact (fe (fe_listOf rfl T.n_list bt_list (db_cons (df (de_sliceX (df (de_ix ix_tup od_ixT (df (dv 0)) (df de_int))) do_none (do_some de_int))) db_nil)))
    case' r20 => refine' dss_one ?s24
    case' s24 => refine' ds_if ?c25 ?a25 dss_nil
    case c25 => exact (dt_cmp (op_eqX hr.units) od_eq (df (PE.imp (pe_callB call_len_seq rfl T.n_len PySem.boot_len (db_cons (df (de_ix ix_tup od_ixT (df (dv 0)) (df de_int))) db_nil)) (dcb cd_len))) (df de_int) (nomark _))
    case' a25 => refine' dss_one ?s26
    case' s26 => generalize hG27 : Expr.BinOp _ _ _ _ = eg27
    refine' ds_new (i := 1) sc_x41.nd rfl (by walk_at "o") ?e27 (hs := by subst hG27; exact swaps_BinOp)
    case' e27 => subst hG27
    refine' fe_cat (dw 1) (df ?b28)
    case' b28 => refine' fe ?f29
    case' f29 => refine' fe_lst ?g30
    case' g30 => refine' da_cons ?u31 ?w31
    case u31 => exact (de_joinT de_str (df (de_ix ix_tup od_ixT (df (de_ix ix_tup od_ixT (df (dv 0)) (df de_int))) (df de_int))))
    case' w31 => refine' da_cons ?u33 ?w33
    case u33 => exact (PE.imp (pe_callTy call_str_int rfl T.n_str bt_str (db_cons (df (de_ix ix_tup od_ixT (df (de_ix ix_tup od_ixT (df (dv 0)) (df de_int))) (df de_int))) db_nil)) (dcb cd_strI))
    case' w33 => refine' da_cons ?u35 da_nil
    case u35 => exact (de_ix ix_tup od_ixT (df (de_ix ix_tup od_ixT (df (dv 0)) (df de_int))) (df de_int))
   case' r18 => refine' dss_cons ?s38 ?r38
   case s38 =>
    refine' ds_if ?c39 ?a39 dss_nil
    case c39 => exact (dt_cmp (op_eqZ hr) od_eqZ (df (de_ix ix_tup od_ixT (df (dv 0)) (df de_int))) (df de_str) (nomark _))
    case' a39 => refine' dss_one ?s40
    case' s40 => refine' ds_new (i := 1) sc_x41.nd rfl (by walk_at "o") ?e41 (hs := swaps_BinOp)
    case' e41 => refine' fe_cat (df ?a42) (df ?b42)
    case a42 =>
     refine' fe ?f43
     case' f43 => refine' fe_cat (dw 1) (df ?b44)
     case b44 => exact (fe (fe_listOf rfl T.n_list bt_list (db_cons (df (de_ix ix_tup od_ixT (df (dv 0)) (df de_int))) db_nil)))
    case' b42 => refine' fe ?f46
    case f46 => exact (fe_repV (fe_lst (da_cons de_str da_nil)) (PE.imp (pe_callTy call_int1 rfl T.n_int bt_int (db_cons (df (de_ix ix_tup od_ixT (df (dv 0)) (df de_int))) db_nil)) (dcb cd_int)))
   case' r38 => refine' dss_cons ?s48 ?r48
   case s48 =>
    refine' ds_if ?c49 ?a49 dss_nil
    case c49 => exact (PW.pt (dw_or (dt_cmp (op_eqZ hr) od_eqZ (df (de_ix ix_tup od_ixT (df (dv 0)) (df de_int))) (df de_str) (nomark _)) (dw_or1 (dt_cmp (op_eqZ hr) od_eqZ (df (de_ix ix_tup od_ixT (df (dv 0)) (df de_int))) (df de_str) (nomark _)))))
    case' a49 => refine' dss_one ?s50
    case s50 => exact (ds_app (i := 1) (pv 1) (de_ix ix_tup od_ixT (df (dv 0)) (df de_int)))
   case' r48 => refine' dss_one ?s52
   case s52 => exact (ds_ret (de_join de_str (dw 1)))
  case read =>
  clear hr T G_x38
  have sz := deed_sz hd
  cases hd with
  | @paper n x k ms hn hx hk hm =>
   have e : deedW (.tuple [.str "paper", .int n, .str x, .str k, .tuple (ms.map .str)]) = Str.ofString "paper" :: dayT n :: x :: k :: ms := by
    show Str.ofString "paper" :: dayT n :: x :: k :: strsD (.tuple (ms.map .str)) = _
    rw [strsD_map]
   walk_at "rz"
   have := hm.len
   unfold deedT at q
   rw [e] at sz q
   exact ⟨n, rfl, hn, by rw [List.length_map]; omega, _, rfl, sz, q⟩
  | two hw hn hx hy =>
   simp only [List.mem_cons, List.not_mem_nil, or_false] at hw
   rcases hw with rfl | rfl
   ·walk_at "rz"
    exact ⟨_, rfl, hn, _, rfl, sz, q⟩
   ·walk_at "rz"
    exact ⟨_, rfl, hn, _, rfl, sz, q⟩
  | rule hn hx hp =>
   cases hp with
   | wfl hw hk =>
    walk_at "rz"
    refine ⟨_, rfl, hn, ?_⟩
    dsimp only
    rw [if_neg (by decide)]
    exact ⟨_, rfl, sz, q⟩
   | kg hw hk hs h0 h1 hu =>
    walk_at "rz"
    refine ⟨_, rfl, hn, ?_⟩
    dsimp only
    rw [if_pos (by decide)]
    obtain ⟨e, z⟩ := sinT_of hs
    exact ⟨_, e, z, log_lt h0 (by omega), _, rfl, sz, q⟩
  | one hw hn hx =>
   simp only [List.mem_cons, List.not_mem_nil, or_false] at hw
   rcases hw with rfl | rfl
   ·walk_at "rz"
    exact ⟨_, rfl, hn, _, rfl, sz, q⟩
   ·walk_at "rz"
    exact ⟨_, rfl, hn, _, rfl, sz, q⟩
  | @hold n x g y b hn hx hg hy =>
   cases b
   ·walk_at "rz"
    exact ⟨n, rfl, hn, (by show (5 : Nat) ≤ 16777216; decide), [Str.ofString "hold", dayT n, x, g, y], rfl, sz, q⟩
   ·walk_at "rz"
    exact ⟨n, rfl, hn, (by show (6 : Nat) ≤ 16777216; decide), [Str.ofString "hold", dayT n, x, g, y, Str.ofString "deep"], rfl, sz, q⟩
end
end K58

open PySem L2
namespace K58
open Day
theorem cs_x42_0 : CompScope (defScope s_x42) ["_law_found", "_law_due"] ["_law_one", "_law_other"] 2 [] { kind := PySem.ScopeKind.function, names := [ (PySem.Str.ofString ".0", PySem.NameKind.local), (PySem.Str.ofString "_law_one", PySem.NameKind.local), (PySem.Str.ofString "_law_other", PySem.NameKind.local), (PySem.Str.ofString "_law_same", PySem.NameKind.globalImplicit)], isGenerator := false, isCoroutine := false, more := [] : PySem.Scope } := ⟨rfl, by decide +kernel, by decide +kernel, by decide +kernel, rfl, by decide +kernel, by decide +kernel, by decide +kernel, rfl⟩
section
variable {P : Program} {w : World} {K : PySem.W.Frag} {mg : Str → Option Value} {base : Heap} {t : Adr}
def scalT : PyData → Prop
 | .bool _ => True
 | .int _ => True
 | .str z => PyData.strOk z = true
 | _ => False
def plainT : Nat → PyData → Prop
 | 0, x => scalT x
 | d + 1, x => scalT x ∨ ∃ xs, x = .tuple xs ∧ xs.length ≤ 1000 ∧ ∀ y ∈ xs, plainT d y
theorem zip_self : ∀ {xs : List PyData} {x : PyData}, x ∈ zipD xs xs → ∃ y ∈ xs, x = .tuple [y, y]
 | [], _, h => by cases h
 | a :: l, x, h => by
  have h : x ∈ PyData.tuple [a, a] :: zipD l l := h
  rcases List.mem_cons.mp h with e | e
  ·exact ⟨a, by simp, e⟩
  ·obtain ⟨y, hy, e⟩ := zip_self e
   exact ⟨y, by simp [hy], e⟩
def F_same (d : Nat) : List PyData → (PyData → Prop) → Prop := fun ds Q => ∃ x, ds = [x, x] ∧ plainT d x ∧ Q (.bool true)
theorem fn_no {k : Nat} {f : Addr} {fd : FuncData} {ps : List Str} : FnOk P w K mg base CX0 k f fd ps (spD K fun _ _ => False) := ⟨fun vs H Q E ⟨_, _, _, _, _, h, _⟩ => h.elim, fun _ _ _ _ _ _ _ _ _ _ _ _ _ ⟨_, _, _, _, _, h, _⟩ => h.elim⟩
theorem ok_same1 {d : Nat} {F : List PyData → (PyData → Prop) → Prop} (T : Txt K mg t) (G_x42 : FnOk P w K mg base CX0 d t.a_x42 t.d_x42 ["_law_found", "_law_due"] (spD K F)) :
  FnOk P w K mg base CX0 (d + 1) t.a_x42 t.d_x42 ["_law_found", "_law_due"] (spD K fun ds Q => ∃ x, ds = [x, x] ∧ (scalT x ∨ ∃ xs, x = .tuple xs ∧ xs.length ≤ 1000 ∧ ∀ y ∈ xs, ∀ R : PyData → Prop, R (.bool true) → F [y, y] R) ∧ Q (.bool true)) := by
 refine T.F_x42.okD sc_x42 (fun ds Q h => ?_) (fun cdv A outer s H O ds Q E hr h => ?_)
 ·obtain ⟨x, rfl, _⟩ := h; rfl
 ·obtain ⟨x, rfl, hx, q⟩ := h
  refine' ⟨_, ?body, ?read⟩
  case body =>
   refine' dss_cons ?s1 ?r1
   case s1 =>
    refine' ds_if ?c2 ?a2 dss_nil
    case c2 => exact (dt_val (de_isinC (K' := K) (T := "tuple") rfl rfl T.n_isinstance bt_isinstance (df (dv 1)) (pe_bltn (v := .ty "tuple") rfl T.n_tuple bt_tuple rfl)))
    case' a2 => refine' dss_cons ?s3 ?r3
    case s3 =>
     refine' ds_if ?c4 ?a4 dss_nil
     case c4 => exact (PW.pt (dw_or (dt_not (dt_val (de_isinC (K' := K) (T := "tuple") rfl rfl T.n_isinstance bt_isinstance (df (dv 0)) (pe_bltn (v := .ty "tuple") rfl T.n_tuple bt_tuple rfl)))) (dw_or1 (dt_cmp (op_neX hr.units) od_ne (df (PE.imp (pe_callB call_len_seq rfl T.n_len PySem.boot_len (db_cons (df (dv 0)) db_nil)) (dcb cd_len))) (df (PE.imp (pe_callB call_len_seq rfl T.n_len PySem.boot_len (db_cons (df (dv 1)) db_nil)) (dcb cd_len))) (nomark _)))))
     case a4 => refine' dss_one (ds_ret de_bl)
    case' r3 => refine' dss_one ?s7
    case' s7 => refine' ds_ret ?e8
    case e8 => exact (PE.imp (pe_callB (call_all rfl) rfl T.n_all bt_all (db_cons (df (fe (fe_compZ rfl cs_x42_0 rfl T.n_zip (db_cons (df (dv 0)) (db_cons (df (dv 1)) db_nil)) (gd_tup (gds_cons gd_name (gds_cons gd_name gds_nil))) keepTup (by decide) (fun _ _ _ _ => (pg_tup (n := 2) rfl (pgs_cons (pg_name (i := 0) cs_x42_0.nd rfl (by walk_at "o")) (pgs_cons (pg_name (i := 1) cs_x42_0.nd rfl (by walk_at "o")) pgs_nil)))) (fun _ _ _ _ => pf_nilD) (fun _ _ _ _ => (PE.imp (pe_call G_x42 (hr.mono (Nat.le_refl _)) rfl T.m_x42 T.F_x42.kp T.b_x42 .nil pass0 (da_cons (dv 0) (da_cons (dv 1) da_nil))) dcall))))) db_nil)) (dcb cd_any))
   case' r1 => refine' dss_one ?s10
   case' s10 => refine' ds_ret ?e11
   case e11 => exact (de_and (de_cmp (op_eqX hr.units) od_eq (df (de_isinC (K' := K) (T := "bool") rfl rfl T.n_isinstance bt_isinstance (df (dv 0)) (pe_bltn (v := .ty "bool") rfl T.n_bool bt_bool rfl))) (df (de_isinC (K' := K) (T := "bool") rfl rfl T.n_isinstance bt_isinstance (df (dv 1)) (pe_bltn (v := .ty "bool") rfl T.n_bool bt_bool rfl))) (nomark _)) (de_one (de_cmp (op_eqX hr.units) od_eq (df (dv 0)) (df (dv 1)) (nomark _))))
  case read =>
  clear hr T G_x42
  walk_at "rz"
  simp only [kit_tuple, kit_bool]
  rcases hx with hs | ⟨xs, rfl, hl, hF⟩
  ·obtain ⟨t0, nd, sh, ev⟩ : isTupB x = false ∧ (∀ y : PyData, ¬ x = PyData.dict [(PyData.none, y)]) ∧ SeqAt.shaped x = true ∧ x.eqv x = true := by
    cases x with
    | bool b => exact ⟨rfl, (fun _ e => by cases e), shp_bl, by rw [eqv_bool]; exact beq_self_eq_true _⟩
    | int i => exact ⟨rfl, (fun _ e => by cases e), shp_int, by rw [eqv_int]; exact beq_self_eq_true _⟩
    | str z => exact ⟨rfl, (fun _ e => by cases e), shp_str.mpr hs, by rw [eqv_str]; exact beq_self_eq_true _⟩
    | none => exact hs.elim
    | list l => exact hs.elim
    | tuple l => exact hs.elim
    | dict l => exact hs.elim
   refine ⟨_, rfl, nd, ?_⟩
   rw [t0, if_neg Bool.false_ne_true]
   refine ⟨_, rfl, nd, _, rfl, nd, ?_⟩
   rw [if_pos (by simp), ev]
   exact ⟨sh, sh, q⟩
  ·have nd : ∀ y : PyData, ¬ PyData.tuple xs = PyData.dict [(PyData.none, y)] := fun _ e => by cases e
   refine ⟨_, rfl, nd, ?_⟩
   rw [show isTupB (.tuple xs) = true from rfl, if_pos rfl]
   refine ⟨_, rfl, nd, ?_⟩
   rw [if_neg (by decide)]
   refine ⟨xs, .inr rfl, xs, .inr rfl, ?_⟩
   rw [if_neg (by simp)]
   refine ⟨xs, rfl, xs, rfl, rfl, by omega, compI_bools (p := fun b => Q (.bool b)) (fun _ => true) (fun x hx R hR => ?_) ?_⟩
   ·obtain ⟨y, hy, rfl⟩ := zip_self hx
    walk_at "rz"
    exact hF y hy R hR
   ·have e : ∀ l : List PyData, ((l.map fun _ => true).all id) = true := fun l => by rw [List.all_map]; exact List.all_eq_true.mpr fun _ _ => rfl
    rw [e]; exact q
theorem ok_same (T : Txt K mg t) : ∀ n, FnOk P w K mg base CX0 (16 + n) t.a_x42 t.d_x42 ["_law_found", "_law_due"] (spD K (F_same n))
 | 0 => (ok_same1 T (d := 15) fn_no).imp fun vs H Q E ⟨O, ds, Qd, a, b, ⟨x, e, hx, q⟩, k⟩ => ⟨O, ds, Qd, a, b, ⟨x, e, .inl hx, q⟩, k⟩
 | n + 1 => (ok_same1 T (ok_same T n)).imp fun vs H Q E ⟨O, ds, Qd, a, b, ⟨x, e, hx, q⟩, k⟩ => ⟨O, ds, Qd, a, b, ⟨x, e, hx.imp id (fun ⟨xs, e1, e2, e3⟩ => ⟨xs, e1, e2, fun y hy R hR => ⟨y, rfl, e3 y hy, hR⟩⟩), q⟩, k⟩
end
end K58

open PySem L2
namespace K58
open Day
section
variable {P : Program} {w : World} {K : PySem.W.Frag} {mg : Str → Option Value} {base : Heap} {t : Adr}
theorem dayT_inj {n n' : Int} (h : isDayN n) (h' : isDayN n') (e : dayT n = dayT n') : n = n' := by
 obtain ⟨y, m, k, D⟩ := date_ex n
 obtain ⟨y', m', k', D'⟩ := date_ex n'
 rw [← dayT_eq D, ← dayT_eq D'] at e
 have b := year_bd D h.1 (day_lt h); have b' := year_bd D' h'.1 (day_lt h')
 have c := mlen_bd (y := y) D.m1 D.m12; have c' := mlen_bd (y := y') D'.m1 D'.m12
 have := D.m1; have := D.m12; have := D.n1; have := D.nl
 have := D'.m1; have := D'.m12; have := D'.n1; have := D'.nl
 obtain ⟨e1, e2, e3⟩ := dtx_inj (by omega) (by omega) (by omega) (by omega) (by omega) (by omega) e
 rw [← D.eq, ← D'.eq, e1, e2, e3]
theorem numZ_inj {m m' : Int} (h0 : 0 ≤ m) (h1 : m ≤ 999) (h0' : 0 ≤ m') (h1' : m' ≤ 999) (e : numZ m = numZ m') : m = m' := by
 have a : intText? (numZ m) = some m := PySem.W.KIN.num_reads h0 (by omega)
 have b : intText? (numZ m') = some m' := PySem.W.KIN.num_reads h0' (by omega)
 rw [e, b] at a
 exact (Option.some.inj a).symm
theorem rule_inj {p p' : PyData} (h : RuleV p) (h' : RuleV p') (e : ruleW p = ruleW p') : p = p' := by
 cases h with
 | wfl _ _ =>
  cases h' with
  | wfl _ _ => simp only [ruleW, List.cons.injEq, and_true] at e; rw [e.1, e.2]
  | kg => exact absurd (congrArg List.length e) (by simp [ruleW])
 | kg _ _ hs h0 h1 _ =>
  cases h' with
  | wfl => exact absurd (congrArg List.length e) (by simp [ruleW])
  | kg _ _ hs' h0' h1' _ =>
   simp only [ruleW, List.cons.injEq, and_true] at e
   obtain ⟨e1, e2, e3, e4, e5⟩ := e
   have s1 := sin_words hs
   have s2 := sin_words hs'
   rw [e_c] at e3
   have e6 := congrArg (fun z => Txt.split z ⟨#[58]⟩) e3
   simp only [split_join s1.1 fun z hz => (s1.2 z hz).2.1, split_join s2.1 fun z hz => (s2.2 z hz).2.1] at e6
   rw [e1, e2, (sinT_of hs).1, (sinT_of hs').1, e6, numZ_inj h0 h1 h0' h1' e4, e5]
theorem strs_eqv : ∀ {a b : List Str}, PyData.eqvAll (a.map .str) (b.map .str) = true → a = b
 | [], [], _ => rfl
 | [], _ :: _, h => by simp [PyData.eqvAll] at h
 | _ :: _, [], h => by simp [PyData.eqvAll] at h
 | x :: a, y :: b, h => by
  rw [List.map_cons, List.map_cons, PyData.eqvAll, Bool.and_eq_true, eqv_str] at h
  rw [strs_eqv h.2, eq_of_beq h.1]
theorem sin_eqv {s s' : PyData} (h : SinceV s) (h' : SinceV s') (e : s.eqv s' = true) : s = s' := by
 rw [(sinT_of h).1, (sinT_of h').1, PyData.eqv] at e
 rw [(sinT_of h).1, (sinT_of h').1, strs_eqv e]
theorem rule_eqv {p p' : PyData} (h : RuleV p) (h' : RuleV p') (e : p.eqv p' = true) : p = p' := by
 cases h with
 | wfl _ _ =>
  cases h' with
  | wfl _ _ =>
   simp only [PyData.eqv, PyData.eqvAll, Bool.and_eq_true, beq_iff_eq, and_true] at e
   rw [e.1, e.2]
  | kg => simp [PyData.eqv, PyData.eqvAll] at e
 | kg _ _ hs _ _ _ =>
  cases h' with
  | wfl => simp [PyData.eqv, PyData.eqvAll] at e
  | kg _ _ hs' _ _ _ =>
   rw [PyData.eqv] at e
   simp only [PyData.eqvAll, Bool.and_eq_true, and_true, eqv_str, eqv_int, beq_iff_eq] at e
   obtain ⟨e1, e2, e3, e4, e5⟩ := e
   rw [e1, e2, sin_eqv hs hs' e3, e4, e5]
theorem deed_same {w w' : Str} {n n' : Int} {x x' : Str} {r r' : List PyData} (h : DeedV (.tuple (.str w :: .int n :: .str x :: r))) (h' : DeedV (.tuple (.str w' :: .int n' :: .str x' :: r'))) (ew : w = w') (en : n = n') (ex : x = x') (er : partW r = partW r' ∨ PyData.eqvAll r r' = true) : PyData.tuple (.str w :: .int n :: .str x :: r) = .tuple (.str w' :: .int n' :: .str x' :: r') := by
 subst ew en ex
 have pap : ∀ {k : Str} {ms : List Str}, partW [PyData.str k, PyData.tuple (List.map PyData.str ms)] = k :: ms := fun {k ms} => by
  show k :: strsD (.tuple (ms.map .str)) = _
  rw [strsD_map]
 have no : ∀ {u v : Str} {l : List Str}, u ∈ l → (∀ z ∈ l, z ≠ v) → u = v → False := fun h h2 e => h2 _ h e
 have no2 : ∀ {u : Str}, u ∈ (["happens", "leave"] : List Str) → u ∈ (["end", "lift"] : List Str) → False := fun h h2 => by
  simp only [List.mem_cons, List.not_mem_nil, or_false] at h h2
  rcases h2 with z | z <;> rw [z] at h <;> exact absurd h (by decide +kernel)
 suffices hr : r = r' by rw [hr]
 cases h with
 | paper =>
  cases h' with
  | paper =>
   rcases er with e | e
   ·rw [pap, pap] at e; cases e; rfl
   ·simp only [PyData.eqvAll, PyData.eqv, Bool.and_eq_true, beq_iff_eq, and_true] at e
    rw [e.1, strs_eqv e.2]
  | two hw => exact (no hw (by decide +kernel) rfl).elim
  | one hw => exact (no hw (by decide +kernel) rfl).elim
 | two hw =>
  cases h' with
  | paper => exact (no hw (by decide +kernel) rfl).elim
  | two =>
   rcases er with e | e
   ·cases e; rfl
   ·simp only [PyData.eqvAll, PyData.eqv, Bool.and_eq_true, beq_iff_eq, and_true] at e
    rw [e]
  | rule => exact (no hw (by decide +kernel) rfl).elim
  | one hw' => exact (no2 hw hw').elim
  | hold => exact (no hw (by decide +kernel) rfl).elim
 | rule _ _ hp =>
  cases h' with
  | two hw => exact (no hw (by decide +kernel) rfl).elim
  | rule _ _ hp' =>
   have e1 : ∀ {p : PyData}, RuleV p → partW [p] = ruleW p := fun h => by cases h <;> rfl
   rcases er with e | e
   ·rw [e1 hp, e1 hp'] at e; rw [rule_inj hp hp' e]
   ·simp only [PyData.eqvAll, Bool.and_eq_true, and_true] at e
    rw [rule_eqv hp hp' e]
  | one hw => exact (no hw (by decide +kernel) rfl).elim
 | one hw =>
  cases h' with
  | paper => exact (no hw (by decide +kernel) rfl).elim
  | two hw' => exact (no2 hw' hw).elim
  | rule => exact (no hw (by decide +kernel) rfl).elim
  | one => rfl
  | hold => exact (no hw (by decide +kernel) rfl).elim
 | @hold _ _ g y b =>
  cases h' with
  | two hw => exact (no hw (by decide +kernel) rfl).elim
  | one hw => exact (no hw (by decide +kernel) rfl).elim
  | @hold _ _ g' y' b' =>
   rcases er with e | e
   ·have e : [g, y] ++ (if b = true then [Str.ofString "deep"] else []) = [g', y'] ++ (if b' = true then [Str.ofString "deep"] else []) := e
    cases b <;> cases b' <;> simp at e <;> rw [e.1, e.2]
   ·simp only [PyData.eqvAll, PyData.eqv, Bool.and_eq_true, beq_iff_eq, and_true] at e
    rw [e.1.1, e.1.2, e.2]
theorem deedW_inj {d d' : PyData} (h : DeedV d) (h' : DeedV d') (e : deedW d = deedW d') : d = d' := by
 obtain ⟨w, n, x, r, rfl, a⟩ := deed_form h
 obtain ⟨w', n', x', r', rfl, a'⟩ := deed_form h'
 simp only [deedW, List.cons.injEq] at e
 exact deed_same h h' e.1 (dayT_inj a a' e.2.1) e.2.2.1 (.inl e.2.2.2)
theorem deed_eqv {d d' : PyData} (h : DeedV d) (h' : DeedV d') (e : d.eqv d' = true) : d = d' := by
 obtain ⟨w, n, x, r, rfl, a⟩ := deed_form h
 obtain ⟨w', n', x', r', rfl, a'⟩ := deed_form h'
 rw [PyData.eqv, PyData.eqvAll, PyData.eqvAll, PyData.eqvAll] at e
 simp only [Bool.and_eq_true, eqv_str, eqv_int, beq_iff_eq] at e
 exact deed_same h h' e.1 e.2.1 e.2.2.1 (.inr e.2.2.2)
theorem deedT_inj {d d' : PyData} (h : DeedV d) (h' : DeedV d') (e : deedT d = deedT d') : d = d' := by
 have w1 := deed_words h
 have w2 := deed_words h'
 have ne : ∀ {d : PyData}, DeedV d → deedW d ≠ [] := fun h => by
  obtain ⟨w, n, x, r, rfl, _⟩ := deed_form h
  exact fun z => by cases z
 unfold deedT at e
 rw [e_s] at e
 have e6 := congrArg (fun z => Txt.split z ⟨#[32]⟩) e
 simp only [split_join (ne h) fun z hz => wz_32 (w1.2 z hz), split_join (ne h') fun z hz => wz_32 (w2.2 z hz)] at e6
 exact deedW_inj h h' e6
mutual
theorem eqv_self : ∀ d : PyData, d.canLay0 = true → PyData.eqv d d = true
 | .none, _ => by simp [PyData.eqv]
 | .bool _, _ | .int _, _ | .str _, _ => by simp [PyData.eqv]
 | .list xs, h => by rw [PyData.eqv]; exact eqvAll_self xs (by simpa [PyData.canLay0] using h)
 | .tuple xs, h => by rw [PyData.eqv]; exact eqvAll_self xs (by simpa [PyData.canLay0] using h)
 | .dict _, h => by simp [PyData.canLay0] at h
theorem eqvAll_self : ∀ ds : List PyData, PyData.canLayAll0 ds = true → PyData.eqvAll ds ds = true
 | [], _ => by simp [PyData.eqvAll]
 | d :: ds, h => by
  rw [PyData.canLayAll0, Bool.and_eq_true] at h
  rw [PyData.eqvAll, eqv_self d h.1, eqvAll_self ds h.2]; rfl
end
theorem deed_both {d d' : PyData} (h : DeedV d) (h' : DeedV d') : (deedT d == deedT d') = d.eqv d' := by
 cases e : d.eqv d' with
 | true => rw [deed_eqv h h' e]; exact beq_self_eq_true _
 | false =>
  rw [← Bool.not_eq_true] at e
  rw [beq_eq_false_iff_ne]
  exact fun z => e (by rw [deedT_inj h h' z]; exact eqv_self _ h'.lay.can)
theorem deed_plain {d : PyData} (h : DeedV d) : plainT 3 d := by
 have st : ∀ {z : Str} (n : Nat), PyData.strOk z = true → plainT n (.str z) := fun n h => by cases n; exact h; exact .inl h
 have it : ∀ {z : Int} (n : Nat), plainT n (.int z) := fun n => by cases n; exact trivial; exact .inl trivial
 have bt : ∀ {z : Bool} (n : Nat), plainT n (.bool z) := fun n => by cases n; exact trivial; exact .inl trivial
 have tp : ∀ {l : List PyData} {n : Nat}, l.length ≤ 1000 → (∀ x ∈ l, plainT n x) → plainT (n + 1) (.tuple l) := fun h1 h2 => .inr ⟨_, rfl, h1, h2⟩
 have ac : ∀ {p : PyData → Prop} {a : PyData} {l : List PyData}, p a → (∀ x ∈ l, p x) → ∀ x ∈ a :: l, p x := fun h1 h2 => List.forall_mem_cons.mpr ⟨h1, h2⟩
 have an : ∀ {p : PyData → Prop}, ∀ x ∈ ([] : List PyData), p x := fun x hx => by cases hx
 have wl : ∀ {u : Str} {l : List Str}, u ∈ l → (∀ z ∈ l, PyData.strOk z = true) → PyData.strOk u = true := fun h h2 => h2 _ h
 have sn : ∀ {s : PyData}, SinceV s → plainT 1 s := fun h => by
  cases h with
  | coming => exact tp (by simp) (ac (st 0 (by decide +kernel)) an)
  | first h => exact tp (by simp) (ac (st 0 (by decide +kernel)) (ac (st 0 h.ok) an))
  | last h => exact tp (by simp) (ac (st 0 (by decide +kernel)) (ac (st 0 h.ok) an))
 cases h with
 | paper _ hx hk hm => exact tp (by simp) (ac (st _ (by decide +kernel)) (ac (it _) (ac (st _ hx.ok) (ac (st _ hk.ok) (ac (tp (by rw [List.length_map]; have := hm.len; omega) fun x hx => by obtain ⟨m, hm', rfl⟩ := List.mem_map.mp hx; exact st _ (hm.nm m hm').ok) an)))))
 | two hw _ hx hy => exact tp (by simp) (ac (st _ (wl hw (by decide +kernel))) (ac (it _) (ac (st _ hx.ok) (ac (st _ hy.ok) an))))
 | rule _ hx hp =>
  refine tp (by simp) (ac (st _ (by decide +kernel)) (ac (it _) (ac (st _ hx.ok) (ac ?_ an))))
  cases hp with
  | wfl hw hk => exact tp (by simp) (ac (st _ (wl hw (by decide +kernel))) (ac (st _ hk.ok) an))
  | kg hw hk hs _ _ hu => exact tp (by simp) (ac (st _ (wl hw (by decide +kernel))) (ac (st _ hk.ok) (ac (sn hs) (ac (it _) (ac (st _ (wl hu (by decide +kernel))) an)))))
 | one hw _ hx => exact tp (by simp) (ac (st _ (wl hw (by decide +kernel))) (ac (it _) (ac (st _ hx.ok) an)))
 | hold _ hx hg hy => exact tp (by simp) (ac (st _ (by decide +kernel)) (ac (it _) (ac (st _ hx.ok) (ac (tp (by simp) (ac (st _ (wl hg (by decide +kernel))) (ac (st _ hy.ok) an))) (ac (bt _) an)))))
def F_x43 : List PyData → (PyData → Prop) → Prop := fun ds Q => ∃ ns : List Int, ds = [scrD (ns.map .int)] ∧ ns.length ≤ 63 ∧ (∀ z ∈ ns, Builtin.Int.intBits z ≤ 1048576) ∧ Q (.bool true)
def sp_law (K : PySem.W.Frag) : Sp := spD K F_x43
theorem start_law {K : PySem.W.Frag} {H : Hp} {a : Addr} {ns : List Int} (hl : ns.length ≤ 63) (hb : ∀ z ∈ ns, Builtin.Int.intBits z ≤ 1048576) (hS : SqL K H a (ns.map V.int)) : sp_law K [.ref a] H (fun v _ => v = .bl true) fun _ _ _ => False :=
 ⟨fun _ => False, [scrD (ns.map .int)], fun d => d = .bool true, fun _ z => z.elim, .cons (.scr (by
  rcases hS with h | h
  ·exact .inl ⟨h, fun z => z⟩
  ·exact .inr (.inr h)) (Dts.ints ns)) .nil, ⟨ns, rfl, hl, hb, rfl⟩, fun d v H' e _ r => by subst e; cases r; rfl⟩
theorem ok_law (T : Txt K mg t) : FnOk P w K mg base CX0 20 t.a_x43 t.d_x43 ["_law_script"] (sp_law K) := by
 have G_x32 := ok_pack (P := P) (w := w) (base := base) T
 have G_x34 := ok_names (P := P) (w := w) (base := base) T
 have G_x40 := ok_ldrawn (P := P) (w := w) (base := base) T
 have G_x24 := ok_showD (P := P) (w := w) (base := base) T
 have G_x41 := ok_written (P := P) (w := w) (base := base) T
 have G_x30 := ok_readD (P := P) (w := w) (base := base) T
 have G_x42 := ok_same (P := P) (w := w) (base := base) T 3
 refine T.F_x43.okD sc_x43 (fun ds Q h => ?_) (fun cdv A outer s H O ds Q E hr h => ?_)
 ·obtain ⟨ns, rfl, _⟩ := h; rfl
 ·obtain ⟨ns, rfl, hl, hb, q⟩ := h
  refine' ⟨_, ?body, ?read⟩
  case body =>
   refine' dss_cons ?s1 ?r1
   case s1 => exact (ds_set (i := 1) sc_x43.nd rfl (by walk_at "o") (de_tup (da_lits (ds := [.str "end", .int 0, .str "a"]) (by rfl))))
   case' r1 => refine' dss_cons ?s3 ?r3
   case s3 =>
    refine' ds_forRI PassesOwn.never rfl rfl T.n_range (da_cons (PE.imp (pe_callB (call_max2 rfl) rfl T.n_max PyProof.Rows.boot_max (db_cons (df de_int) (db_cons (df (PE.imp (pe_callB (call_min2 rfl) rfl T.n_min PyProof.Rows.boot_min (db_cons (df (PE.imp (pe_callB call_len_seq rfl T.n_len PySem.boot_len (db_cons (df (dv 0)) db_nil)) (dcb cd_lenS))) (db_cons (df de_int) db_nil))) (dcb cd_two))) db_nil))) (dcb cd_two)) da_nil) ?a4 gd_name ?b4
    case a4 => exact (pg_name (i := 2) sc_x43.nd rfl (by walk_at "o"))
    case' b4 => refine' dss_cons ?s5 ?r5
    case s5 => exact (ds_set (i := 3) sc_x43.nd rfl (by walk_at "o") (PE.imp (pe_call G_x32 (hr.mono (by decide)) rfl T.m_x32 T.F_x32.kp T.b_x32 .nil pass0 (da_cons (dv 0) (da_cons (dv 2) da_nil))) dcall))
    case' r5 => refine' dss_cons ?s7 ?r7
    case s7 => exact (ds_set (i := 4) sc_x43.nd rfl (by walk_at "o") (PE.imp (pe_call G_x34 (hr.mono (by decide)) rfl T.m_x34 T.F_x34.kp T.b_x34 .nil pass0 (da_cons (dv 3) (da_cons de_int da_nil))) dcall))
    case' r7 => refine' dss_one ?s9
    case' s9 => refine' ds_forRI PassesOwn.never rfl rfl T.n_range (da_cons de_int da_nil) ?a10 gd_name ?b10
    case a10 => exact (pg_name (i := 5) sc_x43.nd rfl (by walk_at "o"))
    case' b10 => refine' dss_cons ?s11 ?r11
    case s11 => exact (ds_set (i := 6) sc_x43.nd rfl (by walk_at "o") (PE.imp (pe_call G_x40 (hr.mono (by decide)) rfl T.m_x40 T.F_x40.kp T.b_x40 .nil pass0 (da_cons (dv 3) (da_cons (dv 4) da_nil))) dcall))
    case' r11 => refine' dss_cons ?s13 ?r13
    case s13 => exact (ds_set (i := 7) sc_x43.nd rfl (by walk_at "o") (PE.imp (pe_call G_x24 (hr.mono (by decide)) rfl T.m_x24 T.F_x24.kp T.b_x24 .nil pass0 (da_cons (dv 6) da_nil)) dcall))
    case' r13 => refine' dss_cons ?s15 ?r15
    case s15 =>
     refine' ds_if ?c16 ?a16 dss_nil
     case c16 => exact (PW.pt (dw_or (dt_not (dt_val (de_isinC (K' := K) (T := "str") rfl rfl T.n_isinstance bt_isinstance (df (dv 7)) (pe_bltn (v := .ty "str") rfl T.n_str bt_str rfl)))) (dw_or (dt_cmp (op_neX hr.units) od_ne (df (dv 7)) (df (PE.imp (pe_call G_x41 (hr.mono (by decide)) rfl T.m_x41 T.F_x41.kp T.b_x41 .nil pass0 (da_cons (dv 6) da_nil)) dcall)) (nomark _)) (dw_or1 (dt_not (dt_val (PE.imp (pe_call G_x42 (hr.mono (Nat.le_refl _)) rfl T.m_x42 T.F_x42.kp T.b_x42 .nil pass0 (da_cons (PE.imp (pe_call G_x30 (hr.mono (by decide)) rfl T.m_x30 T.F_x30.kp T.b_x30 .nil pass0 (da_cons (dv 7) da_nil)) dcall) (da_cons (dv 6) da_nil))) dcall)))))))
     case a16 => refine' dss_one (ds_ret de_bl)
    case' r15 => refine' dss_cons ?s19 ?r19
    case s19 =>
     refine' ds_if ?c20 ?a20 dss_nil
     case c20 => exact (dt_cmp (op_neX hr.units) od_ne (df (de_cmp (op_eqX hr.units) od_eq (df (PE.imp (pe_call G_x24 (hr.mono (by decide)) rfl T.m_x24 T.F_x24.kp T.b_x24 .nil pass0 (da_cons (dv 1) da_nil)) dcall)) (df (dv 7)) (nomark _))) (df (de_cmp (op_eqX hr.units) od_eq (df (dv 1)) (df (dv 6)) (nomark _))) (nomark _))
     case a20 => refine' dss_one (ds_ret de_bl)
    case' r19 => refine' dss_one ?s23
    case s23 => exact (ds_set (i := 1) sc_x43.nd rfl (by walk_at "o") (dv 6))
   case r3 => refine' dss_one (ds_ret de_bl)
  case read =>
  clear G_x32 G_x34 G_x40 G_x24 G_x41 G_x30 G_x42 hr T
  walk_at "rz"
  refine ⟨_, rfl, ?_⟩
  generalize hm : (if (if (16 : Int) < ((List.map PyData.int ns).length : Int) then 16 else ((List.map PyData.int ns).length : Int)) > 1 then if (16 : Int) < ((List.map PyData.int ns).length : Int) then 16 else ((List.map PyData.int ns).length : Int) else 1) = m
  have m16 : m ≤ 16 := by
   rw [← hm]
   repeat' split
   all_goals omega
  have m1 : 1 ≤ m := by
   rw [← hm]
   repeat' split
   all_goals omega
  clear hm
  refine ⟨by omega, by omega, ?_⟩
  refine ⟨fun i δ => ∃ (d0 : PyData) (o2 o3 o4 o5 o6 o7 : Option Sl), DeedV d0 ∧ δ = [some (Sl.v (scrD (ns.map .int))), some (Sl.v d0), o2, o3, o4, o5, o6, o7], ⟨_, _, _, _, _, _, _, .one (by simp) ⟨by decide, by decide⟩ ⟨by decide +kernel, by decide +kernel, by decide +kernel⟩, rfl⟩, ?_, ?_⟩
  ·rintro i z δ hz ⟨d0, o2, o3, o4, o5, o6, o7, hd0, rfl⟩
   obtain ⟨hi, rfl⟩ := rangeD_at hz
   clear hz
   walk_at "rz"
   refine ⟨ns, _, rfl, hb, by omega, by omega, rfl, fun nms hN => ?_⟩
   obtain ⟨a, b, c, d, e, rfl⟩ : ∃ a b c d e, nms = [a, b, c, d, e] := by
    match nms, hN.len with
    | [a, b, c, d, e], _ => exact ⟨_, _, _, _, _, rfl⟩
   refine ⟨fun j δ => ∃ (d1 : PyData) (o5 o6 o7 : Option Sl), DeedV d1 ∧ δ = [some (Sl.v (scrD (ns.map .int))), some (Sl.v d1), some (Sl.v (PyData.int (0 + (i : Int)))), some (Sl.v packD), some (Sl.v (PyData.list (List.map PyData.str [a, b, c, d, e]))), o5, o6, o7], ⟨d0, _, _, _, hd0, rfl⟩, ?_, ?_⟩
   ·rintro j z δ hz ⟨d1, o5, o6, o7, hd1, rfl⟩
    obtain ⟨hj, rfl⟩ := rangeD_at hz
    clear hz
    walk_at "rz"
    refine ⟨a, b, c, d, e, rfl, hN.nm, hN.nd, fun p hp => ⟨p, rfl, hp, ?_⟩⟩
    have tk := deedT_ok hp
    have sk := shp_str.mpr tk.1
    have sk1 := shp_str.mpr (deedT_ok hd1).1
    have sp := hp.shp
    have sp1 := hd1.shp
    walk_at "rz"
    simp only [kit_str, isStrB]
    refine ⟨_, rfl, fun _ => trivial, ?_⟩
    rw [if_neg (by decide)]
    refine ⟨p, rfl, hp, sk, sk, ?_⟩
    rw [eqv_str, if_neg (by simp)]
    refine ⟨p, rfl, hp, p, rfl, deed_plain hp, _, rfl, ?_⟩
    rw [if_neg (by decide)]
    refine ⟨d1, rfl, hd1, sk1, sk, sp1, sp, ?_⟩
    rw [eqv_str, deed_both hd1 hp, if_neg (by simp)]
    exact ⟨p, hp, rfl, _, rfl⟩
   ·rintro δ ⟨d1, o5, o6, o7, hd1, rfl⟩
    exact ⟨d1, hd1, _, _, _, _, _, _, rfl⟩
  ·rintro δ ⟨d0, o2, o3, o4, o5, o6, o7, hd0, rfl⟩
   walk_at "rz"
   exact q
end
end K58

def PySem.W.Fast.tw14101433599493004031 := 0
def PySem.W.Fast.tw6549842812305416911 := 0
def PySem.W.Fast.tw14207172871128161882 := 0
def PySem.W.Fast.tw14494073468334508780 := 0
def PySem.W.Fast.tw6732750189539091891 := 0
def PySem.W.Fast.tw14821756242010889848 := 0
def PySem.W.Fast.tw13570826222341981996 := 0
def PySem.W.Fast.tw12887256301954143966 := 0
def PySem.W.Fast.tw10331870235938601681 := 0
def PySem.W.Fast.tw9532332393881548768 := 0
def PySem.W.Fast.tw4988670751359838466 := 0
def PySem.W.Fast.tw7943243691034205272 := 0
def PySem.W.Fast.tw3492202772643121955 := 0
def PySem.W.Fast.tw1592052032714975377 := 0
def PySem.W.Fast.tw5287778921257616239 := 0
def PySem.W.Fast.tw16587908649320402946 := 0
def PySem.W.Fast.tw3636526794169008387 := 0
def PySem.W.Fast.tw5452386578926729481 := 0
def PySem.W.Fast.tw3017931974798290833 := 0
def PySem.W.Fast.tw1511628439930740884 := 0
def PySem.W.Fast.tw4894228231269113814 := 0
def PySem.W.Fast.tw17783060253529803610 := 0
def PySem.W.Fast.tw7840491565642001790 := 0
def PySem.W.Fast.tw5223956196412316211 := 0
def PySem.W.Fast.tw8593648495609259301 := 0
def PySem.W.Fast.tw14068975594718022258 := 0
def PySem.W.Fast.tw10098865814814724804 := 0
def PySem.W.Fast.tw16477452955322254387 := 0
def PySem.W.Fast.tw4759801952091875695 := 0
def PySem.W.Fast.tw8381377349124349838 := 0
def PySem.W.Fast.tw9975558615777214092 := 0
def PySem.W.Fast.tw16846734365405376997 := 0
def PySem.W.Fast.tw13142823124361177903 := 0
def PySem.W.Fast.tw12476544182978872824 := 0
def PySem.W.Fast.tw2639741381242856918 := 0
def PySem.W.Fast.tw867844829543067461 := 0
def PySem.W.Fast.tw2282734668023711268 := 0
def PySem.W.Fast.tw8436184657857948437 := 0
def PySem.W.Fast.tw1829290637905173642 := 0
def PySem.W.Fast.tw33537085990742431 := 0
def PySem.W.Fast.tw9040989904651130868 := 0
def PySem.W.Fast.tw4295334696606592090 := 0
def PySem.W.Fast.tw5012722427865579299 := 0
def PySem.W.Fast.tw9650247516689006903 := 0
def PySem.W.Fast.tw15916486469594975168 := 0
def PySem.W.Fast.tw12761129505582118935 := 0
def PySem.W.Fast.tw2618625085750648147 := 0
def PySem.W.Fast.tw2333601144323741248 := 0
def PySem.W.Fast.tw13442294640245566459 := 0
def PySem.W.Fast.tw6031343676111415737 := 0
def PySem.W.Fast.tw3985580597952702571 := 0
def PySem.W.Fast.tw6808280371553407490 := 0
def PySem.W.Fast.tw10383316194365988507 := 0
def PySem.W.Fast.tw14711719014246667160 := 0
def PySem.W.Fast.tw382636673417181672 := 0
def PySem.W.Fast.tw888621721711938255 := 0
def PySem.W.Fast.tw6580174320457241147 := 0
def PySem.W.Fast.tw14697813236841174798 := 0
def PySem.W.Fast.tw12857025156907018501 := 0
def PySem.W.Fast.tw18056067725241237565 := 0
open PySem PySem.W PyProof.Rows
set_option maxRecDepth 100000 in
set_option maxHeartbeats 0 in
theorem PySem.Challenge.cw_goneday_k58_deeds_as_texts_holds : PySem.Challenge.rw_goneday_k58_deeds_as_texts.Holds := by
 w_on; o_law; k_head; (case hw => w_witness2)
 k_fill
 refine L2.walk_ofBK (l := PySem.Challenge.rw_goneday_k58_deeds_as_texts) (n := 63) (k := 20) (x := "_law_script") (CX := L2.CX0) (sp := K58.sp_law) rfl (by decide) rfl ⟨rfl, by decide, by decide⟩ (fun w h Y => PySem.W.kIn_of Y) ?F ?S ?C
 case F =>
  intro w mg fa h KX G hmg
  have T : ∃ t, K58.Txt (L2.KOf KX) mg t := by
   dsimp only [L2.KOf]
   refine' K58.txt_mk KX G ?a0 ?l0 ?c0 ?k0 ?a1 ?l1 ?c1 ?k1 ?a2 ?l2 ?c2 ?k2 ?a3 ?l3 ?c3 ?k3 ?a4 ?l4 ?c4 ?k4 ?a5 ?l5 ?c5 ?k5 ?a6 ?l6 ?c6 ?k6 ?a7 ?l7 ?c7 ?k7 ?a8 ?l8 ?c8 ?k8 ?a9 ?l9 ?c9 ?k9 ?a10 ?l10 ?c10 ?k10 ?a11 ?l11 ?c11 ?k11 ?a12 ?l12 ?c12 ?k12 ?a13 ?l13 ?c13 ?k13 ?a14 ?l14 ?c14 ?k14 ?a15 ?l15 ?c15 ?k15 ?a16 ?l16 ?c16 ?k16 ?a17 ?l17 ?c17 ?k17 ?a18 ?l18 ?c18 ?k18 ?a19 ?l19 ?c19 ?k19 ?a20 ?l20 ?c20 ?k20 ?a21 ?l21 ?c21 ?k21 ?a22 ?l22 ?c22 ?k22 ?a23 ?l23 ?c23 ?k23 ?a24 ?l24 ?c24 ?k24 ?a25 ?l25 ?c25 ?k25 ?a26 ?l26 ?c26 ?k26 ?a27 ?l27 ?c27 ?k27 ?a28 ?l28 ?c28 ?k28 ?a29 ?l29 ?c29 ?k29 ?a30 ?l30 ?c30 ?k30 ?a31 ?l31 ?c31 ?k31 ?a32 ?l32 ?c32 ?k32 ?a33 ?l33 ?c33 ?k33 ?a34 ?l34 ?c34 ?k34 ?a35 ?l35 ?c35 ?k35 ?a36 ?l36 ?c36 ?k36 ?a37 ?l37 ?c37 ?k37 ?a38 ?l38 ?c38 ?k38 ?a39 ?l39 ?c39 ?k39 ?a40 ?l40 ?c40 ?k40 ?a41 ?l41 ?c41 ?k41 ?a42 ?l42 ?c42 ?k42 ?a43 ?l43 ?c43 ?k43 ?x_LAST_WRITTEN ?r_LAST_WRITTEN ?x_MONTH_DAYS ?y_MONTH_DAYS ?z_MONTH_DAYS ?w_MONTH_DAYS ?x_FIRST_YEAR ?r_FIRST_YEAR ?x_ROUND_DAYS ?r_ROUND_DAYS ?x_ROUND_YEARS ?r_ROUND_YEARS ?x_LAST_YEAR ?r_LAST_YEAR ?x_FIGURES ?r_FIGURES ?x_NoText ?x_LONGEST_NAME ?r_LONGEST_NAME ?x_LETTERS ?r_LETTERS ?x_MOST_MANY ?r_MOST_MANY ?x_UNITS ?y_UNITS ?z_UNITS ?w_UNITS ?x_MOST_MAKERS ?r_MOST_MAKERS ?x_MANY_FIGURES ?r_MANY_FIGURES ?n_all ?n_bool ?n_divmod ?n_int ?n_isinstance ?n_len ?n_list ?n_max ?n_min ?n_range ?n_sorted ?n_str ?n_sum ?n_tuple ?n_zip
   (case a0 => k_is)
   (case l0 => k_is)
   (case c0 => k_is)
   (case k0 => k_is)
   (case a1 => k_is)
   (case l1 => k_is)
   (case c1 => k_is)
   (case k1 => k_is)
   (case a2 => k_is)
   (case l2 => k_is)
   (case c2 => k_is)
   (case k2 => k_is)
   (case a3 => k_is)
   (case l3 => k_is)
   (case c3 => k_is)
   (case k3 => k_is)
   (case a4 => k_is)
   (case l4 => k_is)
   (case c4 => k_is)
   (case k4 => k_is)
   (case a5 => k_is)
   (case l5 => k_is)
   (case c5 => k_is)
   (case k5 => k_is)
   (case a6 => k_is)
   (case l6 => k_is)
   (case c6 => k_is)
   (case k6 => k_is)
   (case a7 => k_is)
   (case l7 => k_is)
   (case c7 => k_is)
   (case k7 => k_is)
   (case a8 => k_is)
   (case l8 => k_is)
   (case c8 => k_is)
   (case k8 => k_is)
   (case a9 => k_is)
   (case l9 => k_is)
   (case c9 => k_is)
   (case k9 => k_is)
   (case a10 => k_is)
   (case l10 => k_is)
   (case c10 => k_is)
   (case k10 => k_is)
   (case a11 => k_is)
   (case l11 => k_is)
   (case c11 => k_is)
   (case k11 => k_is)
   (case a12 => k_is)
   (case l12 => k_is)
   (case c12 => k_is)
   (case k12 => k_is)
   (case a13 => k_is)
   (case l13 => k_is)
   (case c13 => k_is)
   (case k13 => k_is)
   (case a14 => k_is)
   (case l14 => k_is)
   (case c14 => k_is)
   (case k14 => k_is)
   (case a15 => k_is)
   (case l15 => k_is)
   (case c15 => k_is)
   (case k15 => k_is)
   (case a16 => k_is)
   (case l16 => k_is)
   (case c16 => k_is)
   (case k16 => k_is)
   (case a17 => k_is)
   (case l17 => k_is)
   (case c17 => k_is)
   (case k17 => k_is)
   (case a18 => k_is)
   (case l18 => k_is)
   (case c18 => k_is)
   (case k18 => k_is)
   (case a19 => k_is)
   (case l19 => k_is)
   (case c19 => k_is)
   (case k19 => k_is)
   (case a20 => k_is)
   (case l20 => k_is)
   (case c20 => k_is)
   (case k20 => k_is)
   (case a21 => k_is)
   (case l21 => k_is)
   (case c21 => k_is)
   (case k21 => k_is)
   (case a22 => k_is)
   (case l22 => k_is)
   (case c22 => k_is)
   (case k22 => k_is)
   (case a23 => k_is)
   (case l23 => k_is)
   (case c23 => k_is)
   (case k23 => k_is)
   (case a24 => k_is)
   (case l24 => k_is)
   (case c24 => k_is)
   (case k24 => k_is)
   (case a25 => k_is)
   (case l25 => k_is)
   (case c25 => k_is)
   (case k25 => k_is)
   (case a26 => k_is)
   (case l26 => k_is)
   (case c26 => k_is)
   (case k26 => k_is)
   (case a27 => k_is)
   (case l27 => k_is)
   (case c27 => k_is)
   (case k27 => k_is)
   (case a28 => k_is)
   (case l28 => k_is)
   (case c28 => k_is)
   (case k28 => k_is)
   (case a29 => k_is)
   (case l29 => k_is)
   (case c29 => k_is)
   (case k29 => k_is)
   (case a30 => k_is)
   (case l30 => k_is)
   (case c30 => k_is)
   (case k30 => k_is)
   (case a31 => k_is)
   (case l31 => k_is)
   (case c31 => k_is)
   (case k31 => k_is)
   (case a32 => k_is)
   (case l32 => k_is)
   (case c32 => k_is)
   (case k32 => k_is)
   (case a33 => k_is)
   (case l33 => k_is)
   (case c33 => k_is)
   (case k33 => k_is)
   (case a34 => k_is)
   (case l34 => k_is)
   (case c34 => k_is)
   (case k34 => k_is)
   (case a35 => k_is)
   (case l35 => k_is)
   (case c35 => k_is)
   (case k35 => k_is)
   (case a36 => k_is)
   (case l36 => k_is)
   (case c36 => k_is)
   (case k36 => k_is)
   (case a37 => k_is)
   (case l37 => k_is)
   (case c37 => k_is)
   (case k37 => k_is)
   (case a38 => k_is)
   (case l38 => k_is)
   (case c38 => k_is)
   (case k38 => k_is)
   (case a39 => k_is)
   (case l39 => k_is)
   (case c39 => k_is)
   (case k39 => k_is)
   (case a40 => k_is)
   (case l40 => k_is)
   (case c40 => k_is)
   (case k40 => k_is)
   (case a41 => k_is)
   (case l41 => k_is)
   (case c41 => k_is)
   (case k41 => k_is)
   (case a42 => k_is)
   (case l42 => k_is)
   (case c42 => k_is)
   (case k42 => k_is)
   (case a43 => k_is)
   (case l43 => k_is)
   (case c43 => k_is)
   (case k43 => k_is)
   (case x_LAST_WRITTEN => k_is)
   (case r_LAST_WRITTEN => exact ⟨_, rfl⟩)
   (case x_MONTH_DAYS => k_is)
   (case y_MONTH_DAYS => k_is)
   (case z_MONTH_DAYS => first | (repeat (first | exact .nil | refine .cons ⟨_, rfl⟩ ?_)))
   (case w_MONTH_DAYS => decide)
   (case x_FIRST_YEAR => k_is)
   (case r_FIRST_YEAR => exact ⟨_, rfl⟩)
   (case x_ROUND_DAYS => k_is)
   (case r_ROUND_DAYS => exact ⟨_, rfl⟩)
   (case x_ROUND_YEARS => k_is)
   (case r_ROUND_YEARS => exact ⟨_, rfl⟩)
   (case x_LAST_YEAR => k_is)
   (case r_LAST_YEAR => exact ⟨_, rfl⟩)
   (case x_FIGURES => k_is)
   (case r_FIGURES => exact ⟨_, rfl⟩)
   (case x_NoText => k_is)
   (case x_LONGEST_NAME => k_is)
   (case r_LONGEST_NAME => exact ⟨_, rfl⟩)
   (case x_LETTERS => k_is)
   (case r_LETTERS => exact ⟨_, rfl⟩)
   (case x_MOST_MANY => k_is)
   (case r_MOST_MANY => exact ⟨_, rfl⟩)
   (case x_UNITS => k_is)
   (case y_UNITS => k_is)
   (case z_UNITS => first | (repeat (first | exact .nil | refine .cons ⟨_, rfl⟩ ?_)))
   (case w_UNITS => decide)
   (case x_MOST_MAKERS => k_is)
   (case r_MOST_MAKERS => exact ⟨_, rfl⟩)
   (case x_MANY_FIGURES => k_is)
   (case r_MANY_FIGURES => exact ⟨_, rfl⟩)
   (case n_all => k_is)
   (case n_bool => k_is)
   (case n_divmod => k_is)
   (case n_int => k_is)
   (case n_isinstance => k_is)
   (case n_len => k_is)
   (case n_list => k_is)
   (case n_max => k_is)
   (case n_min => k_is)
   (case n_range => k_is)
   (case n_sorted => k_is)
   (case n_str => k_is)
   (case n_sum => k_is)
   (case n_tuple => k_is)
   (case n_zip => k_is)
  obtain ⟨t, T⟩ := T
  have e0 := hmg.symm.trans T.m_x43
  cases e0
  exact ⟨t.d_x43, T.bt_x43, fun base kb nb => K58.ok_law T⟩
 case S => exact fun K H a ns hl hb hO hS => K58.start_law hl hb hS
 case C => exact fun _ _ _ _ z => z

