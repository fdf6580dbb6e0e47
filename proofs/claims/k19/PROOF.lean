import PyProof.Rows.All
import Wide.All
import OpenK.AllK
import Wide.FinOn
import Lean
import PyProof.EqAt
import PyProof.EqKinds
import PyProof.TupleCall
import KE.KUnpack
import PyProof.StrWalks
import PyProof.Rows.SortStr
import PyProof.FactsAll.dict_1
import PyProof.FactsAll.subtypes_3
import PyProof.FactsAll.subtypes_4
import PyProof.StrLawsIn
import PyProof.ListMulRoad
import PyProof.FactsAll.tuple
import PyProof.FactsAll.str
import KE.KIntText
import PyProof.StrBlockH
import PyProof.Rows.FStr
import PyProof.StrLawsTight
import KE.KDictSum
import PyProof.StrBlock2
import PyProof.Rows.SetFrom
import KE.KSortTup
import KE.KSortKey
import PyProof.Rows.CallKwBuiltin
import PyProof.Rows.Range3
import PyProof.ListRange
import PyProof.EnumFor
import PyProof.Rows.EnumRows
import PySem.Challenge.RW_goneday_k19_turning_days
set_option Elab.async false
set_option linter.all false
set_option maxRecDepth 100000
-- CHANGE: your row's module here, as the last of these rows
namespace L2
open PySem PySem.Spec PyProof.Rows
abbrev Key := Sum Int Str
def keyIs : Key → Value → Bool
  | .inl k, v => Value.isInt k v
  | .inr x, v => Value.isStrOf x v
def keyH (w : World) : Key → Int
  | .inl k => hashInt k
  | .inr x => hashStr w x
theorem keyIs_shape : ∀ {k : Key} {v : Value}, keyIs k v = true → (∃ i t, k = Sum.inl i ∧ v = Value.int i t) ∨ (∃ x t, k = Sum.inr x ∧ v = Value.str x t)
  | .inl i, v, h => by
    obtain ⟨t, e⟩ := Value.isInt_shape (k := i) (v := v) h
    exact .inl ⟨i, t, rfl, e⟩
  | .inr x, v, h => by
    obtain ⟨t, e⟩ := Value.isStrOf_shape (x := x) (v := v) h
    exact .inr ⟨x, t, rfl, e⟩
theorem key_ll (a b : Int) : decide ((Sum.inl a : Key) = Sum.inl b) = (a == b) := by
  by_cases e : a = b
  · subst e; simp
  · have h : ¬ (Sum.inl a : Key) = Sum.inl b := fun q => e (Sum.inl.inj q)
    rw [decide_eq_false h]
    exact (beq_eq_false_iff_ne.mpr e).symm
theorem key_rr (a b : Str) : decide ((Sum.inr a : Key) = Sum.inr b) = decide (a = b) := by
  by_cases e : a = b
  · subst e; simp
  · have h : ¬ (Sum.inr a : Key) = Sum.inr b := fun q => e (Sum.inr.inj q)
    rw [decide_eq_false h, decide_eq_false e]
theorem key_lr (a : Int) (b : Str) : decide ((Sum.inl a : Key) = Sum.inr b) = false := decide_eq_false (fun q => nomatch q)
theorem key_rl (a : Str) (b : Int) : decide ((Sum.inr a : Key) = Sum.inl b) = false := decide_eq_false (fun q => nomatch q)
def mixKind (prog : Program) (w : World) : PySem.KeyKind prog w Key where
  is := keyIs
  hash := keyH w
  inj := fun v a b ha hb => by
    rcases keyIs_shape ha with ⟨i, t, rfl, rfl⟩ | ⟨x, t, rfl, rfl⟩
    · rcases keyIs_shape hb with ⟨j, u, rfl, e⟩ | ⟨y, u, rfl, e⟩
      · injection e with e1 _; rw [e1]
      · exact nomatch e
    · rcases keyIs_shape hb with ⟨j, u, rfl, e⟩ | ⟨y, u, rfl, e⟩
      · exact nomatch e
      · injection e with e1 _; rw [e1]
  byValue := fun k v h => by
    rcases keyIs_shape h with ⟨i, t, rfl, rfl⟩ | ⟨x, t, rfl, rfl⟩ <;> rfl
  pyHash := fun hv h => by
    rcases keyIs_shape hv with ⟨i, t, rfl, rfl⟩ | ⟨x, t, rfl, rfl⟩
    · exact wpAny_pyHash_int h
    · exact wpAny_pyHash_str h
  eqBool := fun hu hv h => by
    rcases keyIs_shape hu with ⟨i, t, rfl, rfl⟩ | ⟨x, t, rfl, rfl⟩
    · rcases keyIs_shape hv with ⟨j, u, rfl, rfl⟩ | ⟨y, u, rfl, rfl⟩
      · rw [key_ll] at h; exact wpAny_eqBool_int h
      · rw [key_lr] at h; exact SeqAt.EqAt.int_str i t y u _ _ _ _ h
    · rcases keyIs_shape hv with ⟨j, u, rfl, rfl⟩ | ⟨y, u, rfl, rfl⟩
      · rw [key_rl] at h; exact SeqAt.EqAt.str_int x t j u _ _ _ _ h
      · rw [key_rr] at h; exact wpAny_eqBool_str h
  «strs» := fun k x t v h => by
    rcases keyIs_shape h with ⟨i, u, rfl, e⟩ | ⟨y, u, rfl, e⟩
    · exact nomatch e
    · injection e with e1 _
      subst e1
      cases v <;> rfl
end L2
namespace L2
open PySem PySem.Spec PyProof.Rows
inductive V where
  | non | bl (b : Bool) | int (i : Int) | str (x : Str) | byt (b : Array UInt8) | flt (b : UInt64) | ref (a : Addr) | ty (n : String)
  deriving DecidableEq
def RelV : V → Value → Prop
  | .non, u => u = Value.none
  | .bl b, u => u = Value.bool b
  | .int i, u => ∃ t, u = Value.int i t
  | .str x, u => ∃ t, u = Value.str x t
  | .byt b, u => ∃ t, u = Value.bytes b t
  | .flt b, u => ∃ t, u = Value.float b t
  | .ref a, u => u = Value.ref a
  | .ty n, u => u = Value.type n
abbrev Vals : List V → List Value → Prop := Paired RelV
theorem Vals.length {xs : List V} {us : List Value} (r : Vals xs us) : xs.length = us.length := Paired.length r
theorem Vals.get : ∀ {xs : List V} {us : List Value} {i : Nat} {x : V}, Vals xs us → xs[i]? = some x → ∃ u, us[i]? = some u ∧ RelV x u
  | _, _, _, _, .nil, e => by simp at e
  | _, _, 0, _, .cons r _, e => by simp at e; subst e; exact ⟨_, rfl, r⟩
  | _, _, i + 1, x, .cons _ t, e => by
    obtain ⟨u, h1, h2⟩ := Vals.get (i := i) (x := x) t (by simpa using e)
    exact ⟨u, by simpa using h1, h2⟩
theorem Vals.append : ∀ {xs ys : List V} {us ws : List Value}, Vals xs us → Vals ys ws → Vals (xs ++ ys) (us ++ ws)
  | _, _, _, _, .nil, s => s
  | _, _, _, _, .cons r t, s => .cons r (Vals.append t s)
theorem Vals.take : ∀ {xs : List V} {us : List Value} (n : Nat), Vals xs us → Vals (xs.take n) (us.take n)
  | _, _, 0, _ => .nil
  | _, _, _ + 1, .nil => .nil
  | _, _, n + 1, .cons r t => .cons r (Vals.take n t)
theorem Vals.drop : ∀ {xs : List V} {us : List Value} (n : Nat), Vals xs us → Vals (xs.drop n) (us.drop n)
  | _, _, 0, r => r
  | _, _, _ + 1, .nil => .nil
  | _, _, n + 1, .cons _ t => Vals.drop n t
def RelO : Option V → Option Value → Prop
  | some v, some u => RelV v u
  | none, none => True
  | _, _ => False
def KV {κ : Type} : List (κ × V) → List (κ × Value) → Prop := Paired fun (p : κ × V) (q : κ × Value) => p.1 = q.1 ∧ RelV p.2 q.2
def kV : Key → V
  | .inl i => .int i
  | .inr x => .str x
inductive HO where
  /-- a list -/
  | lst (xs : List V)
  /-- a tuple (never changes) -/
  | tup (xs : List V)
  /-- a dict whose keys are ints and texts; one whose keys are tuples of ints and texts (the empty one is both) -/
  | dK (kvs : List (Key × V)) | dT (kvs : List (List Key × V))
  /-- a set of ints: its members, its size -/
  | set (S : Int → Bool) (n : Nat)
  /-- an instance of the class at C, its dict at dx, its attributes -/
  | ins (C dx : Addr) (fs : List (Str × V))
  /-- the dict of the instance at x -/
  | own (x : Addr)
  /-- the dict of an exception -/
  | xd (fs : List (Str × V))
  /-- a bound method, f of x -/
  | met (f x : Addr)
  /-- a range object lo, lo + 1, .. below hi -/
  | rng (lo hi : Int)
  /-- a thing that is known to the object (the script; a dict while a loop walks it): read, never written while it is so -/
  | frz (o : Obj) (u : HO)
  /-- a code object's table -/
  | tbl (ps : Array Value)
  /-- any other thing, by what is true of its one object (a def of one's own: SetO a S n := HO.ext fun h => ..) -/
  | ext (φ : Heap → Prop)
abbrev Hp := Addr → Option HO
def upd (H : Hp) (a : Addr) (o : HO) : Hp := fun b => if b = a then some o else H b
theorem upd_same {H : Hp} {a : Addr} {o : HO} : upd H a o a = some o := by unfold upd; rw [if_pos rfl]
theorem upd_ne {H : Hp} {a b : Addr} {o : HO} (h : b ≠ a) : upd H a o b = H b := by unfold upd; rw [if_neg h]
theorem ne_of_none {H : Hp} {a b : Addr} {o : HO} (h : H a = some o) (h' : H b = none) : a ≠ b := by
  intro e; subst e; rw [h] at h'; cases h'
section
variable (P : Program) (w : World)
def ObjOk (H : Hp) (h : Heap) (a : Addr) : HO → Prop
  | .lst xs => xs.length ≤ sizeLine ∧ ∃ (its : List Value) (n : Nat), Vals xs its ∧ h.get? a = some { cls := .type "list", data := .seq its.toArray n }
  | .tup xs => xs.length ≤ sizeLine ∧ ∃ its : List Value, Vals xs its ∧ IsTup h a its.toArray
  | .dK kvs => kvs.length ≤ sizeLine ∧ (a == sysModules) = false ∧ ∃ vs, KV kvs vs ∧ h.DictOf (mixKind P w) a vs
  | .dT kvs => kvs.length ≤ sizeLine ∧ (a == sysModules) = false ∧ ∃ xs : List (List Key × Addr × Value),
      Paired (fun (p : List Key × V) (q : List Key × Addr × Value) => p.1 = q.1 ∧ H q.2.1 = some (.tup (p.1.map kV)) ∧ RelV p.2 q.2.2) kvs xs ∧
      ∃ o es ep, h.get? a = some o ∧ o.ExactDict ∧ o.data = .dict es ep ∧ es.toList = xs.map (entryOfKey (tupleKind (mixKind P w))) ∧ (xs.map (·.1)).Nodup
  | .set S n => h.SetOf (intKind P w) a S n
  | .ins C dx fs => H dx = some (.own a) ∧ fs.length ≤ 1000 ∧ dx ≠ a ∧ h.get? a = some (PySem.W.instObj C dx) ∧
      ∃ mA, h.Ns1 dx mA ∧ (∀ f, RelO (fs.lookup f) (mA f)) ∧ PySem.Within mA (fs.map (·.1))
  | .own _ => ∃ o, h.get? a = some o
  | .xd fs => ∃ mA, h.Ns1 a mA ∧ ∀ f, RelO (fs.lookup f) (mA f)
  | .rng lo hi => ∃ t u v, h.get? a = some { cls := .type "range", data := .fields #[.int lo t, .int hi u, .int 1 v] }
  | .frz o u => h.get? a = some o ∧ ObjOk H h a u
  | .tbl ps => h.get? a = some { cls := .none, data := .fields ps }
  | .met f x => h.get? a = some (PySem.W.methodObj (.ref f) (.ref x))
  | .ext φ => φ h ∧ (∃ o, h.get? a = some o) ∧ ∀ h1 h2 : Heap, φ h1 → (∀ o, h1.get? a = some o → h2.get? a = some o) → φ h2
def HOk (H : Hp) (h : Heap) : Prop := ∀ a o, H a = some o → ObjOk P w H h a o
end
section
variable {P : Program} {w : World} {H H' : Hp} {h h' : Heap} {a : Addr} {o : HO}
theorem ObjOk.lt (x : ObjOk P w H h a o) : a < h.objs.size := by
  cases o with
  | lst xs => obtain ⟨_, _, _, _, e⟩ := x; exact Heap.lt_size e
  | tup xs => obtain ⟨_, _, _, p⟩ := x; exact p.lt
  | dK kvs => obtain ⟨_, _, _, _, o, _, _, e, _⟩ := x; exact Heap.lt_size e
  | dT kvs => obtain ⟨_, _, _, _, o, _, _, e, _⟩ := x; exact Heap.lt_size e
  | set S n => obtain ⟨o, _, _, _, e, _⟩ := x; exact Heap.lt_size e
  | ins C dx fs => obtain ⟨_, _, _, e, _⟩ := x; exact Heap.lt_size e
  | own y => obtain ⟨_, e⟩ := x; exact Heap.lt_size e
  | xd fs => obtain ⟨_, ⟨_, _, _, e, _⟩, _⟩ := x; exact Heap.lt_size e
  | rng lo hi => obtain ⟨_, _, _, e⟩ := x; exact Heap.lt_size e
  | frz ob u => obtain ⟨e, _⟩ := x; exact Heap.lt_size e
  | tbl ps => exact Heap.lt_size (show h.get? a = some _ from x)
  | met f y => exact Heap.lt_size (show h.get? a = some _ from x)
  | ext φ => obtain ⟨_, ⟨_, e⟩, _⟩ := x; exact Heap.lt_size e
theorem Paired.mapP {α β : Type} {F G : α → β → Prop} : ∀ {l₁ : List α} {l₂ : List β}, Paired F l₁ l₂ → (∀ a b, F a b → G a b) → Paired G l₁ l₂
  | _, _, .nil, _ => .nil
  | _, _, .cons r t, f => .cons (f _ _ r) (Paired.mapP t f)
theorem ObjOk.stay (x : ObjOk P w H h a o) (k : ∀ b u, (b = a ∨ H b = some (.own a)) → h.get? b = some u → h'.get? b = some u)
    (ho : ∀ b, H b = some (.own a) → H' b = some (.own a)) (ht : ∀ b xs, H b = some (.tup xs) → H' b = some (.tup xs)) : ObjOk P w H' h' a o := by
  induction o with
  | lst xs => obtain ⟨z, its, n, r, e⟩ := x; exact ⟨z, its, n, r, k _ _ (.inl rfl) e⟩
  | tup xs => obtain ⟨z, its, r, ob, e, c⟩ := x; exact ⟨z, its, r, ob, k _ _ (.inl rfl) e, c⟩
  | dK kvs => obtain ⟨z, y, vs, r, ob, es, ep, e, c⟩ := x; exact ⟨z, y, vs, r, ob, es, ep, k _ _ (.inl rfl) e, c⟩
  | dT kvs =>
    obtain ⟨z, y, xs, r, ob, es, ep, e, c⟩ := x
    exact ⟨z, y, xs, Paired.mapP r fun p q z => ⟨z.1, ht _ _ z.2.1, z.2.2⟩, ob, es, ep, k _ _ (.inl rfl) e, c⟩
  | set S n => obtain ⟨ob, es, ep, t, e, c⟩ := x; exact ⟨ob, es, ep, t, k _ _ (.inl rfl) e, c⟩
  | ins C dx fs =>
    obtain ⟨d, z, ne, e, mA, ⟨od, es, ep, e2, c⟩, r⟩ := x
    exact ⟨ho _ d, z, ne, k _ _ (.inl rfl) e, mA, ⟨od, es, ep, k _ _ (.inr d) e2, c⟩, r⟩
  | own y => obtain ⟨ob, e⟩ := x; exact ⟨ob, k _ _ (.inl rfl) e⟩
  | xd fs => obtain ⟨mA, ⟨od, es, ep, e, c⟩, r⟩ := x; exact ⟨mA, ⟨od, es, ep, k _ _ (.inl rfl) e, c⟩, r⟩
  | rng lo hi => obtain ⟨t, u, v, e⟩ := x; exact ⟨t, u, v, k _ _ (.inl rfl) e⟩
  | frz ob u ih => obtain ⟨e, q⟩ := x; exact ⟨k _ _ (.inl rfl) e, ih q⟩
  | tbl ps =>
    have e : h.get? a = some { cls := .none, data := .fields ps } := x
    show h'.get? a = some { cls := .none, data := .fields ps }
    exact k a _ (.inl rfl) e
  | met f y =>
    have e : h.get? a = some (PySem.W.methodObj (.ref f) (.ref y)) := x
    show h'.get? a = some (PySem.W.methodObj (.ref f) (.ref y))
    exact k a _ (.inl rfl) e
  | ext φ => obtain ⟨p, ⟨o, e⟩, st⟩ := x; exact ⟨st _ _ p fun o q => k _ _ (.inl rfl) q, ⟨o, k _ _ (.inl rfl) e⟩, st⟩
theorem HOk.lt (x : HOk P w H h) (e : H a = some o) : a < h.objs.size := (x a o e).lt
theorem HOk.fresh (x : HOk P w H h) (e : h.objs.size ≤ a) : H a = none := by
  cases q : H a with
  | none => rfl
  | some u => exact absurd (Nat.lt_of_lt_of_le (x.lt q) e) (Nat.lt_irrefl _)
theorem HOk.kept (x : HOk P w H h) (k : ∀ b u, h.get? b = some u → h'.get? b = some u) : HOk P w H h' := fun a o e =>
  (x a o e).stay (fun b u _ q => k b u q) (fun _ q => q) fun _ _ q => q
theorem HOk.laid (x : HOk P w H h) (k : ∀ b u, h.get? b = some u → h'.get? b = some u) (hp : h.objs.size ≤ a) (new : ObjOk P w (upd H a o) h' a o) : HOk P w (upd H a o) h' := fun b u e => by
  have hn := x.fresh hp
  by_cases hb : b = a
  · subst hb; rw [upd_same] at e; cases e; exact new
  · rw [upd_ne hb] at e
    exact (x b u e).stay (fun c v _ q => k c v q) (fun c q => by rw [upd_ne (ne_of_none q hn)]; exact q) fun c xs q => by rw [upd_ne (ne_of_none q hn)]; exact q
end
def Rd (H : Hp) (a : Addr) (u : HO) : Prop := H a = some u ∨ ∃ o, H a = some (.frz o u)
theorem Rd.ok {P : Program} {w : World} {H : Hp} {h : Heap} {a : Addr} {u : HO} (r : Rd H a u) (x : HOk P w H h) : ObjOk P w H h a u := by
  rcases r with r | ⟨o, r⟩
  · exact x a u r
  · obtain ⟨_, q⟩ := x a _ r
    exact q
def Mut : Option HO → Prop
  | some (.lst _) => True
  | some (.dK _) => True
  | some (.dT _) => True
  | some (.set _ _) => True
  | some (.ins _ _ _) => True
  | some (.ext _) => True
  | _ => False
section
variable {P : Program} {w : World} {H : Hp} {h h' : Heap} {x e : Addr} {o' : HO}
theorem HOk.write (ok : HOk P w H h) (mu : Mut (H x)) (he : e = x ∨ H e = some (.own x)) (k : ∀ b u, b ≠ e → h.get? b = some u → h'.get? b = some u) (heo : ∃ u, h'.get? e = some u)
    (new : ObjOk P w (upd H x o') h' x o') : HOk P w (upd H x o') h' := fun b u q => by
  have nown : ∀ c y, H c = some (.own y) → c ≠ x := fun c y r z => by subst z; rw [r] at mu; exact mu
  have ntup : ∀ c xs, H c = some (.tup xs) → c ≠ x := fun c xs r z => by subst z; rw [r] at mu; exact mu
  by_cases hb : b = x
  · subst hb; rw [upd_same] at q; cases q; exact new
  · rw [upd_ne hb] at q
    by_cases hbe : b = e
    · have q' : H b = some (.own x) := by
        rcases he with z | z
        · exact absurd (hbe.trans z) hb
        · rw [hbe]; exact z
      rw [q] at q'; cases q'
      obtain ⟨v, hv⟩ := heo
      exact ⟨v, by rw [hbe]; exact hv⟩
    · refine (ok b u q).stay (fun c v hc r => k c v ?_ r) (fun c r => by rw [upd_ne (nown c b r)]; exact r) fun c xs r => by rw [upd_ne (ntup c xs r)]; exact r
      rcases hc with rfl | hc
      · exact hbe
      · rintro rfl
        rcases he with z | z
        · exact nown c b hc z
        · rw [hc] at z; cases z; exact hb rfl
end
structure Un (fs ex : List Addr) (H H' : Hp) (h h' : Heap) : Prop where
  keep : ∀ b o, h.get? b = some o → H b = none → b ∉ fs → b ∉ ex → h'.get? b = some o
  slot : ∀ b o, h.get? b = some o → H b = none → b ∈ fs → b ∉ ex → ∃ sl, h'.get? b = some { o with slots := sl }
  free : ∀ b o, h.get? b = some o → H b = none → b ∉ ex → H' b = none
  there : ∀ b o, h.get? b = some o → b ∉ ex → ∃ o', h'.get? b = some o'
  tups : ∀ b xs, H b = some (.tup xs) → H' b = some (.tup xs)
  frzs : ∀ b o u, H b = some (.frz o u) → H' b = some (.frz o u)
  tbls : ∀ b ps, H b = some (.tbl ps) → ∃ more, H' b = some (.tbl (ps ++ more))
section
variable {fs fs' ex ex' : List Addr} {H H1 H2 : Hp} {h h1 h2 h' : Heap} {a x e : Addr} {o : HO}
theorem Un.any (u : Un fs ex H H1 h h1) {b : Addr} {ob : Obj} (q : h.get? b = some ob) (n : H b = none) (hx : b ∉ ex) : ∃ sl, h1.get? b = some { ob with slots := sl } := by
  by_cases hb : b ∈ fs
  · exact u.slot b ob q n hb hx
  · exact ⟨ob.slots, u.keep b ob q n hb hx⟩
theorem Un.kept (k : ∀ b u, h.get? b = some u → h'.get? b = some u) : Un fs ex H H h h' :=
  ⟨fun b ob q _ _ _ => k b ob q, fun b ob q _ _ _ => ⟨ob.slots, k b ob q⟩, fun _ _ _ n _ => n, fun b ob q _ => ⟨ob, k b ob q⟩, fun _ _ q => q, fun _ _ _ q => q, fun _ ps q => ⟨#[], by rw [q]; simp⟩⟩
theorem Un.refl : Un fs ex H H h h := Un.kept fun _ _ q => q
theorem Un.laid (k : ∀ b u, h.get? b = some u → h'.get? b = some u) (hp : h.objs.size ≤ a) (hn : H a = none) : Un fs ex H (upd H a o) h h' where
  keep := fun b u q _ _ _ => k b u q
  slot := fun b u q _ _ _ => ⟨u.slots, k b u q⟩
  free := fun b u q n _ => by rw [upd_ne (Nat.ne_of_lt (Nat.lt_of_lt_of_le (Heap.lt_size q) hp))]; exact n
  there := fun b u q _ => ⟨u, k b u q⟩
  tups := fun b xs q => by rw [upd_ne (ne_of_none q hn)]; exact q
  frzs := fun b u xs q => by rw [upd_ne (ne_of_none q hn)]; exact q
  tbls := fun b ps q => ⟨#[], by rw [upd_ne (ne_of_none q hn), q]; simp⟩
theorem Un.write (mu : Mut (H x)) (he : e = x ∨ H e = some (.own x)) (k : ∀ b u, b ≠ e → h.get? b = some u → h'.get? b = some u) (heo : ∃ u, h'.get? e = some u) : Un fs ex H (upd H x o) h h' := by
  have hx : ∀ b, H b = none → b ≠ x := fun b n z => by subst z; rw [n] at mu; exact mu
  have hb : ∀ b, H b = none → b ≠ e := fun b n z => by
    subst z
    rcases he with r | r
    · exact hx b n r
    · rw [n] at r; cases r
  have hm : ∀ b u, H b = some u → ¬ Mut (some u) → b ≠ x := fun b u q nm z => by subst z; rw [q] at mu; exact nm mu
  refine ⟨fun b u q n _ _ => k b u (hb b n) q, fun b u q n _ _ => ⟨u.slots, k b u (hb b n) q⟩, fun b u q n _ => by rw [upd_ne (hx b n)]; exact n, fun b u q _ => ?_,
    fun b xs q => by rw [upd_ne (hm b _ q fun z => z)]; exact q, fun b u xs q => by rw [upd_ne (hm b _ q fun z => z)]; exact q, fun b ps q => ⟨#[], by rw [upd_ne (hm b _ q fun z => z), q]; simp⟩⟩
  by_cases hbe : b = e
  · subst hbe; exact heo
  · exact ⟨u, k b u hbe q⟩
end
def trk (h : Heap) (H : Hp) : List Addr := (List.range h.objs.size).filter fun a => (H a).isSome
def hidT (h : Heap) (H : Hp) : Heap := PySem.W.hideAll h (trk h H)
theorem hidT_size (h : Heap) (H : Hp) : (hidT h H).objs.size = h.objs.size := PySem.W.hideAll_size _ _
theorem hidT_get {h : Heap} {H : Hp} {b : Addr} {o : Obj} (e : h.get? b = some o) (n : H b = none) : (hidT h H).get? b = some o :=
  PySem.W.hideAll_get _ e fun hm => by
    have q : (H b).isSome = true := (List.mem_filter.mp hm).2
    rw [n] at q; simp at q
theorem of_hidT {h : Heap} {H : Hp} {b : Addr} {o : Obj} (e : (hidT h H).get? b = some o) : h.get? b = some o ∧ H b = none := by
  have e' : h.get? b = some o := PySem.W.of_hideAll (trk h H) e
  refine ⟨e', ?_⟩
  cases q : H b with
  | none => rfl
  | some x =>
    have hm : b ∈ trk h H := List.mem_filter.mpr ⟨List.mem_range.mpr (Heap.lt_size e'), by simp [q]⟩
    have z : (hidT h H).get? b = none := PySem.W.hideAll_none (trk h H) hm
    rw [z] at e; cases e
def allNews (g h : Heap) (L : Addr) : List (Addr × Obj) := (List.range h.objs.size).filterMap fun a => if a = L ∨ (g.get? a).isSome = true then none else (h.get? a).map fun o => (a, o)
def rest (g h : Heap) (L d : Addr) : List (Addr × Obj) := (allNews g h L).filter fun p => decide (p.1 ≠ d)
end L2
namespace L2
open PySem PySem.Spec PyProof.Rows
structure Mod (K : PySem.W.Frag) (mg : Str → Option Value) (base : Heap) : Prop where
  kin : K.In base
  glob : base.Ns mainGlobals mg
  blt : ∃ mb, base.Ns builtinsNs mb ∧ ∀ x : Str, x ≠ "__name__" → mb x = bootBuiltins x
  nolimit : base.NoLimit
structure Cx where
  prog : Program
  w : World
  K : PySem.W.Frag
  mg : Str → Option Value
  base : Heap
  A : Around
  N : List Str
  s₀ : Shared
  H₀ : Hp
  env : Env
  outer : List Env
  stack : List Env
  ex : List Addr
  fn : Str → Bool
  calm : Bool
  pn : List (Addr × Obj)
  xe : Value → Shared → Prop
def frs (l : List Env) : List Addr := l.filterMap (·.frame)
abbrev Cx.fs (X : Cx) : List Addr := frs X.outer
def Vis (sc : Scope) (x : Str) : Prop := sc.names.lookup x = some .local ∨ sc.names.lookup x = some .cell ∨ sc.names.lookup x = some .free
def Loc (sc : Scope) (x : Str) : Prop := sc.names.lookup x = some .local ∨ sc.names.lookup x = some .cell
def Look (env : Env) (h : Heap) (m : Str → Option Value) (x : Str) (u : Value) : Prop :=
  (env.kindOf x = some .local ∧ m x = some u) ∨ ((env.kindOf x = some .cell ∨ env.kindOf x = some .free) ∧ ∃ c, env.cells.lookup x = some c ∧ h.IsCell c (some u))
structure Cx.Ok (X : Cx) : Prop where
  mod : Mod X.K X.mg X.base
  kind : X.env.scope.kind = .function
  glob : X.env.globals = mainGlobals
  blt : X.env.builtins = builtinsNs
  above : X.s₀.heap.objs.size ≤ X.env.locals
  inj : ∀ x y c, X.env.cells.lookup x = some c → X.env.cells.lookup y = some c → x = y
  has : ∀ x, (X.env.kindOf x = some .cell ∨ X.env.kindOf x = some .free) → ∃ c, X.env.cells.lookup x = some c
  cab : ∀ x c, X.fn x = true → X.env.cells.lookup x = some c → X.s₀.heap.objs.size ≤ c
  hd : X.calm = true → X.A.handled = none
  frames : X.A.frames = some X.stack
  stk : X.stack = X.outer ∨ (X.stack = X.env :: X.outer ∧ X.env.frame = some X.env.locals)
  exf : ∀ b ∈ X.ex, b ≠ X.env.locals ∧ ∀ x c, X.env.cells.lookup x = some c → c ≠ b
  bs : ∀ b o, X.base.get? b = some o → X.s₀.heap.get? b = some o ∧ X.H₀ b = none
  bsz : X.base.objs.size ≤ X.s₀.heap.objs.size
  noex : ∀ b o, X.base.get? b = some o → b ∉ X.ex
  exfs : ∀ b ∈ X.ex, b ∉ X.fs
  funs : X.s₀.heap.FunFrames X.base X.outer
  frf : ∀ b ∈ X.fs, X.H₀ b = none
structure Inv (X : Cx) (pins : List (Addr × Obj)) (σ : List (Option V)) (H : Hp) (s : Shared) : Prop where
  ok : X.Ok
  os : s.os = X.s₀.os
  bare : AllBare s.gens
  base : Un X.fs X.ex X.H₀ H X.s₀.heap s.heap
  loc : ∃ m, s.heap.Ns X.env.locals m ∧ ∀ (i : Nat) (x : Str) (v : V), X.N[i]? = some x → σ[i]? = some (some v) → Vis X.env.scope x → ∃ u, RelV v u ∧ Look X.env s.heap m x u
  cell : ∀ x c, X.env.cells.lookup x = some c → ∃ v, s.heap.IsCell c v
  free : H X.env.locals = none
  freeC : ∀ x c, X.env.cells.lookup x = some c → H c = none
  pin : ∀ p ∈ X.pn ++ pins, s.heap.get? p.1 = some p.2 ∧ H p.1 = none ∧ p.1 ≠ X.env.locals ∧ p.1 ∉ X.fs ∧ ∀ v, p.2.data ≠ .cell v
  hok : HOk X.prog X.w H s.heap
  len : σ.length = X.N.length
section
variable {X : Cx} {pins : List (Addr × Obj)} {σ : List (Option V)} {H H' : Hp} {s : Shared} {h' : Heap}
theorem Cx.Ok.nofr (ok : X.Ok) {b : Addr} {o : Obj} (e : X.base.get? b = some o) : b ∉ X.fs := fun hb => by
  have := (ok.funs.mem hb).1
  rw [e] at this; cases this
theorem Inv.bs (I : Inv X pins σ H s) : ∀ b o, X.base.get? b = some o → s.heap.get? b = some o ∧ H b = none := fun b o e =>
  ⟨I.base.keep b o (I.ok.bs b o e).1 (I.ok.bs b o e).2 (I.ok.nofr e) (I.ok.noex b o e), I.base.free b o (I.ok.bs b o e).1 (I.ok.bs b o e).2 (I.ok.noex b o e)⟩
theorem Inv.bk (I : Inv X pins σ H s) : ∀ b o, X.base.get? b = some o → s.heap.get? b = some o := fun b o e => (I.bs b o e).1
theorem Inv.mod (I : Inv X pins σ H s) : Mod X.K X.mg X.base := I.ok.mod
theorem Inv.kIn (I : Inv X pins σ H s) : X.K.In s.heap := I.ok.mod.kin.keeps I.bk
theorem Inv.fr (I : Inv X pins σ H s) : ∃ m, Fr X.base X.env.locals s.heap m :=
  let ⟨m, hn, _⟩ := I.loc
  ⟨m, hn, I.bk, Nat.le_trans I.ok.bsz I.ok.above⟩
theorem Inv.lt (I : Inv X pins σ H s) : X.env.locals < s.heap.objs.size := let ⟨_, hn, _⟩ := I.loc; hn.lt
theorem Inv.sz (I : Inv X pins σ H s) : X.s₀.heap.objs.size ≤ s.heap.objs.size := Nat.le_trans I.ok.above (Nat.le_of_lt I.lt)
theorem Inv.nofs (I : Inv X pins σ H s) {a : Addr} (h : s.heap.objs.size ≤ a) : a ∉ X.fs := fun hb => by
  obtain ⟨_, o, ho, _⟩ := I.ok.funs.mem hb
  exact absurd (Nat.lt_of_lt_of_le (Heap.lt_size ho) (Nat.le_trans I.sz h)) (Nat.lt_irrefl _)
theorem Inv.cne (I : Inv X pins σ H s) : ∀ x c, X.env.cells.lookup x = some c → c ≠ X.env.locals := fun x c e z => by
  obtain ⟨v, o, ho, hd⟩ := I.cell x c e
  obtain ⟨m, ⟨o', es, ep, ho', hd', _⟩, _⟩ := I.loc
  rw [z, ho'] at ho; cases ho; rw [hd'] at hd; cases hd
theorem Inv.funs (I : Inv X pins σ H s) : s.heap.FunFrames X.base X.outer := by
  have all : ∀ (l : List Env), (∀ b ∈ frs l, b ∈ X.fs) → X.s₀.heap.FunFrames X.base l → s.heap.FunFrames X.base l := by
    intro l
    induction l with
    | nil => intro _ _; trivial
    | cons env r ih =>
      intro hs hl
      obtain ⟨hk, ⟨L, o, hf, hn, ho, hd⟩, hr⟩ := hl
      have hL : L ∈ X.fs := hs L (by unfold frs; rw [List.filterMap_cons, hf]; exact List.mem_cons_self)
      obtain ⟨sl, e⟩ := I.base.slot L o ho (I.ok.frf L hL) hL fun z => I.ok.exfs L z hL
      exact ⟨hk, ⟨L, _, hf, hn, e, hd⟩, ih (fun b hb => hs b (by unfold frs; rw [List.filterMap_cons, hf]; exact List.mem_cons_of_mem _ hb)) hr⟩
  exact all X.outer (fun _ hb => hb) I.ok.funs
theorem Inv.stack (I : Inv X pins σ H s) : s.heap.FunFrames X.base X.stack := by
  rcases I.ok.stk with e | ⟨e, hf⟩
  · rw [e]; exact I.funs
  · rw [e]
    obtain ⟨m, hn, _⟩ := I.loc
    refine .cons (by rw [I.ok.kind]; decide) hf hn ?_ I.funs
    exact Heap.get?_none_of_le (Nat.le_trans I.ok.bsz I.ok.above)
theorem Inv.stkSub (I : Inv X pins σ H s) : ∀ b ∈ frs X.stack, b ∈ X.env.locals :: X.fs := fun b hb => by
  rcases I.ok.stk with e | ⟨e, hf⟩
  · rw [e] at hb; exact List.mem_cons_of_mem _ hb
  · rw [e] at hb
    unfold frs at hb
    rw [List.filterMap_cons, hf] at hb
    exact hb
theorem Inv.stkFree (I : Inv X pins σ H s) : ∀ b ∈ frs X.stack, H b = none := fun b hb => by
  rcases List.mem_cons.mp (I.stkSub b hb) with e | hb
  · rw [e]; exact I.free
  · obtain ⟨_, o, ho, _⟩ := I.ok.funs.mem hb
    exact I.base.free b o ho (I.ok.frf b hb) fun z => I.ok.exfs b z hb
theorem Inv.step {g' : Array GenState} {t' : Nat} {d' : Drawn} {ch : List Addr} (I : Inv X pins σ H s)
    (hch : ∀ b ∈ ch, (b ∈ X.ex ∨ X.s₀.heap.objs.size ≤ b) ∧ b ≠ X.env.locals ∧ (∀ x c, X.env.cells.lookup x = some c → c ≠ b) ∧ ∀ p ∈ X.pn ++ pins, p.1 ≠ b)
    (keep : ∀ b o, b ≠ X.env.locals → b ∉ X.fs → b ∉ ch → s.heap.get? b = some o → H b = none → h'.get? b = some o)
    (slot : ∀ b o, b ≠ X.env.locals → b ∈ X.fs → b ∉ ch → s.heap.get? b = some o → H b = none → ∃ sl, h'.get? b = some { o with slots := sl }) (free : ∀ b o, b ∉ ch → s.heap.get? b = some o → H b = none → H' b = none)
    (there : ∀ b o, b ∉ ch → s.heap.get? b = some o → ∃ o', h'.get? b = some o')
    (tups : ∀ b xs, H b = some (.tup xs) → H' b = some (.tup xs)) (frzs : ∀ b o u, H b = some (.frz o u) → H' b = some (.frz o u)) (tbls : ∀ b ps, H b = some (.tbl ps) → ∃ more, H' b = some (.tbl (ps ++ more)))
    (ns : ∀ m, s.heap.Ns X.env.locals m → h'.Ns X.env.locals m) (hok : HOk X.prog X.w H' h') (hg : AllBare g') :
    Inv X pins σ H' { s with heap := h', gens := g', drawn := d', toks := t' } := by
  have neL : ∀ b o, X.s₀.heap.get? b = some o → b ≠ X.env.locals := fun b o e => Nat.ne_of_lt (Nat.lt_of_lt_of_le (Heap.lt_size e) I.ok.above)
  have neC : ∀ b o, X.s₀.heap.get? b = some o → b ∉ X.ex → b ∉ ch := fun b o e hx hb => by
    rcases (hch b hb).1 with z | z
    · exact hx z
    · exact absurd (Nat.lt_of_lt_of_le (Heap.lt_size e) z) (Nat.lt_irrefl _)
  have cellK : ∀ x c, X.env.cells.lookup x = some c → ∀ v, s.heap.IsCell c v → h'.IsCell c v := fun x c e v ⟨o, ho, hd⟩ => by
    have nch : c ∉ ch := fun z => (hch c z).2.2.1 x c e rfl
    by_cases hc : c ∈ X.fs
    · obtain ⟨sl, q⟩ := slot c o (I.cne x c e) hc nch ho (I.freeC x c e)
      exact ⟨_, q, hd⟩
    · exact ⟨o, keep c o (I.cne x c e) hc nch ho (I.freeC x c e), hd⟩
  refine ⟨I.ok, I.os, hg, ⟨fun b o e n hb hx => ?_, fun b o e n hb hx => ?_, fun b o e n hx => ?_, fun b o e hx => ?_, fun b xs e => tups b xs (I.base.tups b xs e), fun b o xs e => frzs b o xs (I.base.frzs b o xs e), fun b ps e => ?_⟩, ?_, fun x c e => ?_, ?_, fun x c e => ?_, fun p hp => ?_, hok, I.len⟩
  · exact keep b o (neL b o e) hb (neC b o e hx) (I.base.keep b o e n hb hx) (I.base.free b o e n hx)
  · obtain ⟨sl, e1⟩ := I.base.slot b o e n hb hx
    obtain ⟨sl', e2⟩ := slot b _ (neL b o e) hb (neC b o e hx) e1 (I.base.free b o e n hx)
    exact ⟨sl', e2⟩
  · obtain ⟨o', e1⟩ := I.base.there b o e hx
    exact free b o' (neC b o e hx) e1 (I.base.free b o e n hx)
  · obtain ⟨o', e1⟩ := I.base.there b o e hx
    exact there b o' (neC b o e hx) e1
  · obtain ⟨m1, e1⟩ := I.base.tbls b ps e
    obtain ⟨m2, e2⟩ := tbls b _ e1
    exact ⟨m1 ++ m2, by rw [e2, Array.append_assoc]⟩
  · obtain ⟨m, hn, hl⟩ := I.loc
    refine ⟨m, ns m hn, fun i x v e1 e2 e3 => ?_⟩
    obtain ⟨u, r, l⟩ := hl i x v e1 e2 e3
    refine ⟨u, r, ?_⟩
    rcases l with l | ⟨k, c, e, z⟩
    · exact .inl l
    · exact .inr ⟨k, c, e, cellK x c e _ z⟩
  · obtain ⟨v, z⟩ := I.cell x c e
    exact ⟨v, cellK x c e v z⟩
  · obtain ⟨m, ⟨o, _, _, ho, _⟩, _⟩ := I.loc
    exact free _ o (fun z => (hch _ z).2.1 rfl) ho I.free
  · obtain ⟨v, o, ho, hd⟩ := I.cell x c e
    exact free c o (fun z => (hch c z).2.2.1 x c e rfl) ho (I.freeC x c e)
  · obtain ⟨e, n, ne, nf, d⟩ := I.pin p hp
    have nch : p.1 ∉ ch := fun z => (hch p.1 z).2.2.2 p hp rfl
    exact ⟨keep p.1 p.2 ne nf nch e n, free p.1 p.2 nch e n, ne, nf, d⟩
theorem Inv.un {t' : Nat} (I : Inv X pins σ H s) (u : Un X.fs [] H H' s.heap h') (hok : HOk X.prog X.w H' h') : Inv X pins σ H' { s with heap := h', toks := t' } := by
  obtain ⟨m, ⟨o, es, ep, ho, r⟩, _⟩ := id I.loc
  obtain ⟨sl, hL⟩ := u.any ho I.free (by simp)
  exact I.step (g' := s.gens) (d' := s.drawn) (ch := []) (fun _ z => nomatch z) (fun b o _ hb _ e n => u.keep b o e n hb (by simp)) (fun b o _ hb _ e n => u.slot b o e n hb (by simp)) (fun b o _ e n => u.free b o e n (by simp)) (fun b o _ e => u.there b o e (by simp)) u.tups u.frzs u.tbls (fun m' hm => by
    obtain ⟨o', es', ep', ho', r'⟩ := hm
    rw [ho] at ho'; cases ho'
    exact ⟨_, es', ep', hL, r'⟩) hok I.bare
theorem Inv.call {g' : Array GenState} {t' : Nat} {d' : Drawn} {ch : List Addr} (I : Inv X pins σ H s) (u : Un (frs X.stack) ch H H' s.heap h') (hok : HOk X.prog X.w H' h') (hg : AllBare g')
    (hch : ∀ b ∈ ch, (b ∈ X.ex ∨ X.s₀.heap.objs.size ≤ b) ∧ b ≠ X.env.locals ∧ (∀ x c, X.env.cells.lookup x = some c → c ≠ b) ∧ ∀ p ∈ X.pn ++ pins, p.1 ≠ b) :
    Inv X pins σ H' { s with heap := h', gens := g', drawn := d', toks := t' } := by
  obtain ⟨m, ⟨o, es, ep, ho, r⟩, _⟩ := id I.loc
  obtain ⟨sl, hL⟩ := u.any ho I.free fun z => (hch _ z).2.1 rfl
  exact I.step (ch := ch) hch (fun b o hL hb hc e n => u.keep b o e n (fun z => (List.mem_cons.mp (I.stkSub b z)).elim hL hb) hc) (fun b o _ _ hc e n => u.any e n hc) (fun b o hc e n => u.free b o e n hc) (fun b o hc e => u.there b o e hc) u.tups u.frzs u.tbls (fun m' hm => by
    obtain ⟨o', es', ep', ho', r'⟩ := hm
    rw [ho] at ho'; cases ho'
    exact ⟨_, es', ep', hL, r'⟩) hok hg
theorem Inv.turned {t' : Nat} {it : Addr} (I : Inv X pins σ H s) (k : ∀ b o, b ≠ it → s.heap.get? b = some o → h'.get? b = some o) (hn : H it = none) (hL : it ≠ X.env.locals)
    (h1 : it ∈ X.ex ∨ X.s₀.heap.objs.size ≤ it) (h2 : ∀ x c, X.env.cells.lookup x = some c → c ≠ it) (h3 : ∀ p ∈ X.pn ++ pins, p.1 ≠ it) : Inv X pins σ H { s with heap := h', toks := t' } := by
  have nit : ∀ b u, H b = some u → b ≠ it := fun b u e z => by rw [z, hn] at e; cases e
  refine I.step (g' := s.gens) (d' := s.drawn) (ch := [it]) (fun b hb => ?_) (fun b o _ _ hc e _ => k b o (fun z => hc (by simp [z])) e) (fun b o _ _ hc e _ => ⟨o.slots, k b o (fun z => hc (by simp [z])) e⟩) (fun _ _ _ _ n => n)
    (fun b o hc e => ⟨o, k b o (fun z => hc (by simp [z])) e⟩) (fun _ _ e => e) (fun _ _ _ e => e) (fun b ps e => ⟨#[], by rw [e]; simp⟩) (fun m hm => ?_) (fun b u e => ?_) I.bare
  · have e : b = it := by simpa using hb
    subst e
    exact ⟨h1, hL, h2, h3⟩
  · obtain ⟨o, es, ep, ho, r⟩ := hm
    exact ⟨o, es, ep, k _ o (Ne.symm hL) ho, r⟩
  · refine (I.hok b u e).stay (fun c v hc q => k c v ?_ q) (fun _ q => q) fun _ _ q => q
    rcases hc with z | z
    · rw [z]; exact nit b u e
    · exact nit c _ z
theorem Inv.tok (I : Inv X pins σ H s) (t : Nat) : Inv X pins σ H { s with toks := t } := I.un (h' := s.heap) (t' := t) Un.refl I.hok
theorem Inv.kept {t' : Nat} (I : Inv X pins σ H s) (k : ∀ b u, s.heap.get? b = some u → h'.get? b = some u) : Inv X pins σ H { s with heap := h', toks := t' } := I.un (Un.kept k) (I.hok.kept k)
theorem Inv.laid {a : Addr} {o : HO} {t' : Nat} (I : Inv X pins σ H s) (k : ∀ b u, s.heap.get? b = some u → h'.get? b = some u) (hp : s.heap.objs.size ≤ a) (new : ObjOk X.prog X.w (upd H a o) h' a o) :
    Inv X pins σ (upd H a o) { s with heap := h', toks := t' } := I.un (Un.laid k hp (I.hok.fresh hp)) (I.hok.laid k hp new)
theorem Inv.write {x e : Addr} {o : HO} {t' : Nat} (I : Inv X pins σ H s) (mu : Mut (H x)) (he : e = x ∨ H e = some (.own x)) (k : ∀ b u, b ≠ e → s.heap.get? b = some u → h'.get? b = some u) (heo : ∃ u, h'.get? e = some u)
    (new : ObjOk X.prog X.w (upd H x o) h' x o) : Inv X pins σ (upd H x o) { s with heap := h', toks := t' } := I.un (Un.write mu he k heo) (I.hok.write mu he k heo new)
theorem Inv.weak {σ' : List (Option V)} (I : Inv X pins σ H s) (hl : σ'.length = σ.length) (w : ∀ (i : Nat) v, σ'[i]? = some (some v) → σ[i]? = some (some v)) : Inv X pins σ' H s :=
  ⟨I.ok, I.os, I.bare, I.base, let ⟨m, hn, hl'⟩ := I.loc; ⟨m, hn, fun i x v e1 e2 e3 => hl' i x v e1 (w i v e2) e3⟩, I.cell, I.free, I.freeC, I.pin, I.hok, hl.trans I.len⟩
theorem Inv.pins_of {pins' : List (Addr × Obj)} (I : Inv X pins σ H s) (h : ∀ p ∈ pins', s.heap.get? p.1 = some p.2 ∧ H p.1 = none ∧ p.1 ≠ X.env.locals ∧ p.1 ∉ X.fs ∧ ∀ v, p.2.data ≠ .cell v) : Inv X pins' σ H s :=
  ⟨I.ok, I.os, I.bare, I.base, I.loc, I.cell, I.free, I.freeC, fun p hp => (List.mem_append.mp hp).elim (fun z => I.pin p (List.mem_append_left _ z)) (h p), I.hok, I.len⟩
theorem nodup_ix {N : List Str} (hN : N.Nodup) {i j : Nat} {x : Str} (a : N[i]? = some x) (b : N[j]? = some x) : i = j := by
  obtain ⟨h1, e1⟩ := List.getElem?_eq_some_iff.mp a
  obtain ⟨h2, e2⟩ := List.getElem?_eq_some_iff.mp b
  exact (List.getElem_inj hN).mp (e1.trans e2.symm)
theorem store_ok2 {M : Model} {A : Around} {E : Value → Shared → Prop} {i : Nat} {x : Str} {v : V} {u : Value} {Q : Unit → Shared → Prop} (I : Inv X pins σ H s) (hN : X.N.Nodup) (hi : X.N[i]? = some x) (hx : Loc X.env.scope x) (r : RelV v u)
    (h : ∀ s', Inv X pins (σ.set i (some v)) H s' → (∃ a, Heap.SameBut a s.heap s'.heap ∧ (a = X.env.locals ∨ X.env.cells.lookup x = some a)) → Q () s') (hf : X.fn x = true ∨ X.env.scope.names.lookup x = some .local := by first | exact .inl rfl | exact .inr rfl | assumption) : wpAny M A (storeName X.env x u) Q E s := by
  obtain ⟨m, hn, hl⟩ := id I.loc
  have hcls : (X.env.scope.kind == .class || (X.env.scope.kind == .module && X.env.locals != X.env.globals)) = false := by rw [I.ok.kind]; rfl
  have hiσ : i < σ.length := by rw [I.len]; exact (List.getElem?_eq_some_iff.mp hi).1
  have cne := I.cne
  have tracked : ∀ {a : Addr} {h' : Heap}, (∃ o, s.heap.get? a = some o ∧ H a = none) → Heap.SameBut a s.heap h' → HOk X.prog X.w H h' := fun {a h'} ha hs b ob e => by
    obtain ⟨_, _, hfree⟩ := ha
    refine (I.hok b ob e).stay (fun c w' hc q => (hs.2 c ?_).trans q) (fun _ q => q) fun _ _ q => q
    rintro rfl
    rcases hc with rfl | hc
    · rw [hfree] at e; cases e
    · rw [hfree] at hc; cases hc
  rcases hx with hk | hk
  · refine wpAny_storeName_local hk hn (fun h' hn' hs => ?_) hcls
    obtain ⟨oL, _, _, hoL, _⟩ := id hn
    refine h _ ⟨I.ok, I.os, I.bare, ⟨fun b o e n hb hx => ?_, fun b o e n hb hx => ?_, I.base.free, fun b o e hx => ?_, I.base.tups, I.base.frzs, I.base.tbls⟩, ⟨_, hn', fun j y v' e1 e2 e3 => ?_⟩, fun y c e => ?_, I.free, I.freeC, fun p hp => ?_, tracked ⟨oL, hoL, I.free⟩ hs, by simpa using I.len⟩ ⟨_, hs, .inl rfl⟩
    · exact (hs.2 b (Nat.ne_of_lt (Nat.lt_of_lt_of_le (Heap.lt_size e) I.ok.above))).trans (I.base.keep b o e n hb hx)
    · obtain ⟨sl, e1⟩ := I.base.slot b o e n hb hx
      exact ⟨sl, (hs.2 b (Nat.ne_of_lt (Nat.lt_of_lt_of_le (Heap.lt_size e) I.ok.above))).trans e1⟩
    · obtain ⟨o', e1⟩ := I.base.there b o e hx
      exact ⟨o', (hs.2 b (Nat.ne_of_lt (Nat.lt_of_lt_of_le (Heap.lt_size e) I.ok.above))).trans e1⟩
    · by_cases hj : j = i
      · subst hj
        rw [hi] at e1; cases e1
        rw [List.getElem?_set_self hiσ] at e2
        cases e2
        exact ⟨u, r, .inl ⟨hk, by simp⟩⟩
      · rw [List.getElem?_set_ne (Ne.symm hj)] at e2
        obtain ⟨u', r', q⟩ := hl j y v' e1 e2 e3
        refine ⟨u', r', ?_⟩
        rcases q with ⟨k, e⟩ | ⟨k, c, e, z⟩
        · refine .inl ⟨k, ?_⟩
          have : y ≠ x := fun e => hj (nodup_ix hN e1 (e ▸ hi))
          simp [this, e]
        · exact .inr ⟨k, c, e, z.sameBut hs (cne y c e)⟩
    · obtain ⟨w', z⟩ := I.cell y c e
      exact ⟨w', z.sameBut hs (cne y c e)⟩
    · obtain ⟨e, n, ne, nf, d⟩ := I.pin p hp
      exact ⟨(hs.2 p.1 ne).trans e, n, ne, nf, d⟩
  · have hfn : X.fn x = true := by
      rcases hf with z | z
      · exact z
      · rw [z] at hk; cases hk
    obtain ⟨c, hc⟩ := I.ok.has x (.inl hk)
    obtain ⟨w', z⟩ := I.cell x c hc
    refine wpAny_storeName_cell I.ok.kind hk hc z (fun h' hc' hs => ?_)
    obtain ⟨oc, hoc, hocd⟩ := id z
    refine h { s with heap := h' } ⟨I.ok, I.os, I.bare, ⟨fun b o e n hb hx => ?_, fun b o e n hb hx => ?_, I.base.free, fun b o e hx => ?_, I.base.tups, I.base.frzs, I.base.tbls⟩, ⟨m, hn.sameBut hs (Ne.symm (cne x c hc)), fun j y v' e1 e2 e3 => ?_⟩, fun y c' e => ?_, I.free, I.freeC, fun p hp => ?_, tracked ⟨oc, hoc, I.freeC x c hc⟩ hs, by simpa using I.len⟩ ⟨c, hs, .inr hc⟩
    · exact (hs.2 b (Nat.ne_of_lt (Nat.lt_of_lt_of_le (Heap.lt_size e) (I.ok.cab x c hfn hc)))).trans (I.base.keep b o e n hb hx)
    · obtain ⟨sl, e1⟩ := I.base.slot b o e n hb hx
      exact ⟨sl, (hs.2 b (Nat.ne_of_lt (Nat.lt_of_lt_of_le (Heap.lt_size e) (I.ok.cab x c hfn hc)))).trans e1⟩
    · obtain ⟨o', e1⟩ := I.base.there b o e hx
      exact ⟨o', (hs.2 b (Nat.ne_of_lt (Nat.lt_of_lt_of_le (Heap.lt_size e) (I.ok.cab x c hfn hc)))).trans e1⟩
    · by_cases hj : j = i
      · subst hj
        rw [hi] at e1; cases e1
        rw [List.getElem?_set_self hiσ] at e2
        cases e2
        exact ⟨u, r, .inr ⟨.inl hk, c, hc, hc'⟩⟩
      · rw [List.getElem?_set_ne (Ne.symm hj)] at e2
        obtain ⟨u', r', q⟩ := hl j y v' e1 e2 e3
        refine ⟨u', r', ?_⟩
        rcases q with q | ⟨k, c', e, z'⟩
        · exact .inl q
        · refine .inr ⟨k, c', e, z'.sameBut hs ?_⟩
          rintro rfl
          exact hj (nodup_ix hN e1 (I.ok.inj _ _ _ e hc ▸ hi))
    · by_cases hcc : c' = c
      · subst hcc; exact ⟨_, hc'⟩
      · obtain ⟨w2, z2⟩ := I.cell y c' e
        exact ⟨w2, z2.sameBut hs hcc⟩
    · obtain ⟨e, n, ne, nf, d⟩ := I.pin p hp
      refine ⟨(hs.2 p.1 ?_).trans e, n, ne, nf, d⟩
      intro q
      rw [q, hoc] at e
      have q' : oc = p.2 := Option.some.inj e
      exact d w' (by rw [← q']; exact hocd)
theorem store_ok {M : Model} {A : Around} {E : Value → Shared → Prop} {i : Nat} {x : Str} {v : V} {u : Value} {Q : Unit → Shared → Prop} (I : Inv X pins σ H s) (hN : X.N.Nodup) (hi : X.N[i]? = some x) (hx : Loc X.env.scope x) (r : RelV v u)
    (h : ∀ s', Inv X pins (σ.set i (some v)) H s' → Q () s') (hf : X.fn x = true ∨ X.env.scope.names.lookup x = some .local := by first | exact .inl rfl | exact .inr rfl | assumption) : wpAny M A (storeName X.env x u) Q E s :=
  store_ok2 I hN hi hx r (fun s' I' _ => h s' I') hf
theorem Inv.call' {s' : Shared} {ch : List Addr} (I : Inv X pins σ H s) (ho : s'.os = s.os) (u : Un (frs X.stack) ch H H' s.heap s'.heap) (hok : HOk X.prog X.w H' s'.heap) (hg : AllBare s'.gens)
    (hch : ∀ b ∈ ch, (b ∈ X.ex ∨ X.s₀.heap.objs.size ≤ b) ∧ b ≠ X.env.locals ∧ (∀ x c, X.env.cells.lookup x = some c → c ≠ b) ∧ ∀ p ∈ X.pn ++ pins, p.1 ≠ b) : Inv X pins σ H' s' := by
  obtain ⟨h', g', d', t', o'⟩ := s'
  have e : o' = s.os := ho
  subst e
  exact I.call (g' := g') (t' := t') (d' := d') u hok hg hch
end
abbrev XK := Value → Option Addr → Hp → Prop
abbrev St := List (Option V)
abbrev VK := V → Hp → Prop
abbrev TE := St → Hp → VK → Prop
abbrev TT := St → Hp → (Bool → Hp → Prop) → Prop
abbrev TA := St → Hp → (List V → Hp → Prop) → Prop
structure Ends where
  nx : St → Hp → Prop
  rt : VK
  bk : St → Hp → Prop := fun _ _ => False
  ct : St → Hp → Prop := fun _ _ => False
abbrev TS := Ends → St → Hp → Prop
def EP (X : Cx) (pins : List (Addr × Obj)) (σ : St) (Q : VK) (u : Value) (s' : Shared) : Prop := ∃ v H', Inv X pins σ H' s' ∧ RelV v u ∧ Q v H'
def TP (X : Cx) (pins : List (Addr × Obj)) (σ : St) (Q : Bool → Hp → Prop) (b : Bool) (s' : Shared) : Prop := ∃ H', Inv X pins σ H' s' ∧ Q b H'
def AP (X : Cx) (pins : List (Addr × Obj)) (σ : St) (Q : List V → Hp → Prop) (us : List Value) (s' : Shared) : Prop := ∃ vs H', Inv X pins σ H' s' ∧ Vals vs us ∧ Q vs H'
def SP (X : Cx) (pins : List (Addr × Obj)) (D : Ends) (f : Flow) (s' : Shared) : Prop :=
  match f with
  | .next => ∃ σ' H', Inv X pins σ' H' s' ∧ D.nx σ' H'
  | .brk => ∃ σ' H', Inv X pins σ' H' s' ∧ D.bk σ' H'
  | .cont => ∃ σ' H', Inv X pins σ' H' s' ∧ D.ct σ' H'
  | .ret u => ∃ v σ' H', Inv X pins σ' H' s' ∧ RelV v u ∧ D.rt v H'
def PE (X : Cx) (e : Expr) (t : TE) : Prop :=
  ∀ (pins : List (Addr × Obj)) (s : Shared) (σ : St) (H : Hp) (Q : VK), Inv X pins σ H s → t σ H Q → wpAny (model X.prog X.w) X.A (eval e X.env) (EP X pins σ Q) X.xe s
def PT (X : Cx) (e : Expr) (t : TT) : Prop :=
  ∀ (pins : List (Addr × Obj)) (s : Shared) (σ : St) (H : Hp) (Q : Bool → Hp → Prop), Inv X pins σ H s → t σ H Q → wpAny (model X.prog X.w) X.A (isTrue e X.env (eval e X.env)) (TP X pins σ Q) X.xe s
def PW (X : Cx) (e : Expr) (t : TT) : Prop :=
  ∀ (whole : Sem Value) (pins : List (Addr × Obj)) (s : Shared) (σ : St) (H : Hp) (Q : Bool → Hp → Prop), Inv X pins σ H s → t σ H Q → wpAny (model X.prog X.w) X.A (isTrue e X.env whole) (TP X pins σ Q) X.xe s
theorem PW.pt {X : Cx} {e : Expr} {t : TT} (h : PW X e t) : PT X e t := h _
def PA (X : Cx) (es : List Expr) (t : TA) : Prop :=
  ∀ (pos : Pos) (pins : List (Addr × Obj)) (s : Shared) (σ : St) (H : Hp) (Q : List V → Hp → Prop), Inv X pins σ H s → t σ H Q → wpAny (model X.prog X.w) X.A (spliced (backTo pos (starEach es X.env))) (AP X pins σ Q) X.xe s
def PS (X : Cx) (st : Stmt) (t : TS) : Prop :=
  ∀ (pins : List (Addr × Obj)) (s : Shared) (σ : St) (H : Hp) (D : Ends), Inv X pins σ H s → t D σ H → wpAny (model X.prog X.w) X.A (exec st X.env) (SP X pins D) X.xe s
def PSs (X : Cx) (st : List Stmt) (t : TS) : Prop :=
  ∀ (pins : List (Addr × Obj)) (s : Shared) (σ : St) (H : Hp) (D : Ends), Inv X pins σ H s → t D σ H → wpAny (model X.prog X.w) X.A (execs st X.env) (SP X pins D) X.xe s
theorem thn {α : Type} {t : Sem α} {Q Q' : α → Shared → Prop} {M : Model} {A : Around} {E : Value → Shared → Prop} {s : Shared} (h : wpAny M A t Q E s) (hQ : ∀ a s, Q a s → Q' a s) : wpAny M A t Q' E s := wpAny_mono h hQ fun _ _ x => x
end L2
namespace L2
open PySem PySem.Spec PyProof.Rows
section
variable {X : Cx}
theorem bin {a b : Expr} {ta tb : TE} (ha : PE X a ta) (hb : PE X b tb) {pins : List (Addr × Obj)} {s : Shared} {σ : St} {H : Hp} {R : V → V → Hp → Prop} (I : Inv X pins σ H s) (h : ta σ H fun x H1 => tb σ H1 fun y H2 => R x y H2)
    {α : Type} {Q : α → Shared → Prop} {f : Value → Value → Sem α}
    (hf : ∀ v u s2 x y H2, Inv X pins σ H2 s2 → RelV x v → RelV y u → R x y H2 → wpAny (model X.prog X.w) X.A (f v u) Q X.xe s2) :
    wpAny (model X.prog X.w) X.A (eval a X.env) (fun v s₁ => wpAny (model X.prog X.w) X.A (eval b X.env) (fun u s₂ => wpAny (model X.prog X.w) X.A (f v u) Q X.xe s₂) X.xe s₁) X.xe s := by
  refine thn (ha pins s σ H _ I h) fun v s1 ⟨x, H1, I1, r1, q1⟩ => ?_
  refine thn (hb pins s1 σ H1 _ I1 q1) fun u s2 ⟨y, H2, I2, r2, q2⟩ => ?_
  exact hf v u s2 x y H2 I2 r1 r2 q2
def tVar (i : Nat) : TE := fun σ H Q => ∃ v, σ[i]? = some (some v) ∧ Q v H
def tC (v : V) : TE := fun _ H Q => Q v H
theorem pe_var {i : Nat} {x : Str} {pos : Pos} (hN : X.N[i]? = some x) (hv : Vis X.env.scope x) (hd : (x == ("__debug__" : Str)) = false := by decide) (hcd : (x == ("__classdict__" : Str)) = false := by decide) : PE X (.Name x pos) (tVar i) := by
  intro pins s σ H Q I h
  obtain ⟨v, e, h⟩ := h
  obtain ⟨m, hn, hl⟩ := I.loc
  obtain ⟨u, r, l⟩ := hl i x v hN e hv
  have fin : EP X pins σ Q u s := ⟨v, H, I, r, h⟩
  rcases l with ⟨hk, hm⟩ | ⟨hk, c, hc, hcell⟩
  · exact wpAny_Name (wpAny_loadName_local I.ok.kind hk hn hm fin) hd
  · rcases hk with hk | hk
    · exact wpAny_Name (wpAny_loadName_cell I.ok.kind hk hc hcell fin) hd
    · exact wpAny_Name (wpAny_loadName_free I.ok.kind hk hc hcell fin hcd) hd
theorem pe_int {i j pos} : PE X (.Constant (.int i) j pos) (tC (.int i)) := fun _ _ _ H _ I h => wpAny_Constant_int ⟨.int i, H, I.tok _, ⟨_, rfl⟩, h⟩
theorem pe_bl {b j pos} : PE X (.Constant (.bool b) j pos) (tC (.bl b)) := fun _ _ _ H _ I h => Constant_bool ⟨.bl b, H, I, rfl, h⟩
theorem pe_non {j pos} : PE X (.Constant .none j pos) (tC .non) := fun _ _ _ H _ I h => Constant_none ⟨.non, H, I, rfl, h⟩
theorem pe_str {x j pos} : PE X (.Constant (.str x) j pos) (tC (.str x)) := fun _ _ _ H _ I h => Calls.Constant_str ⟨.str x, H, I.tok _, ⟨_, rfl⟩, h⟩
def Gl (X : Cx) (x : Str) : Prop := X.env.kindOf x = some .globalImplicit
theorem ld_glob {E : Value → Shared → Prop} {pins : List (Addr × Obj)} {s : Shared} {σ : St} {H : Hp} {x : Str} {u : Value} {pos : Pos} {Q : Value → Shared → Prop} (I : Inv X pins σ H s) (hg : Gl X x) (hm : X.mg x = some u) (h : Q u s)
    (hd : (x == ("__debug__" : Str)) = false := by decide) : wpAny (model X.prog X.w) X.A (eval (.Name x pos) X.env) Q E s :=
  Calls.Name_function_global I.ok.kind hg (Calls.loadGlobal_global (by rw [I.ok.glob]; exact I.mod.glob.keeps I.bk) hm h) hd
theorem ld_blt {E : Value → Shared → Prop} {pins : List (Addr × Obj)} {s : Shared} {σ : St} {H : Hp} {x : Str} {u : Value} {pos : Pos} {Q : Value → Shared → Prop} (I : Inv X pins σ H s) (hg : Gl X x) (hm : X.mg x = none) (hv : bootBuiltins x = some u) (h : Q u s)
    (hn : x ≠ "__name__" := by decide) (hd : (x == ("__debug__" : Str)) = false := by decide) : wpAny (model X.prog X.w) X.A (eval (.Name x pos) X.env) Q E s := by
  obtain ⟨mb, h1, h2⟩ := I.mod.blt
  exact Calls.Name_function_global I.ok.kind hg (Calls.loadGlobal_builtin (by rw [I.ok.glob]; exact I.mod.glob.keeps I.bk) hm (by rw [I.ok.blt]; exact h1.keeps I.bk) ((h2 x hn).trans hv) h) hd
theorem pe_glob {x : Str} {v : V} {u : Value} {pos : Pos} (hg : Gl X x) (hm : X.mg x = some u) (r : RelV v u) (hd : (x == ("__debug__" : Str)) = false := by decide) : PE X (.Name x pos) (tC v) :=
  fun _ _ _ H _ I h => ld_glob I hg hm ⟨v, H, I, r, h⟩ hd
theorem pe_bltn {x : Str} {v : V} {u : Value} {pos : Pos} (hg : Gl X x) (hm : X.mg x = none) (hv : bootBuiltins x = some u) (r : RelV v u) (hn : x ≠ "__name__" := by decide) (hd : (x == ("__debug__" : Str)) = false := by decide) : PE X (.Name x pos) (tC v) :=
  fun _ _ _ H _ I h => ld_blt I hg hm hv ⟨v, H, I, r, h⟩ hn hd
variable {a b : Expr} {ta tb : TE} {pos : Pos}
def PC (X : Cx) (op : CmpOp) (a b : Expr) (t : TE) : Prop :=
  ∀ (pins : List (Addr × Obj)) (s : Shared) (σ : St) (H : Hp) (Q : VK), Inv X pins σ H s → t σ H Q →
    wpAny (model X.prog X.w) X.A (eval a X.env) (fun v s₁ => wpAny (model X.prog X.w) X.A (eval b X.env) (fun u s₂ => wpAny (model X.prog X.w) X.A (compareOp op v u) (EP X pins σ Q) X.xe s₂) X.xe s₁) X.xe s
theorem nobehind (b : Expr) {op : CmpOp} (h : op ≠ .In) (h2 : op ≠ .NotIn) : behindInMarks op b = false := by
  have e1 : (op == CmpOp.In) = false := by cases op <;> first | rfl | exact absurd rfl h
  have e2 : (op == CmpOp.NotIn) = false := by cases op <;> first | rfl | exact absurd rfl h2
  cases b <;> simp [behindInMarks, e1, e2]
def tB (t : TE) : TT := fun σ H Q => t σ H fun x H1 => ∃ c, x = .bl c ∧ Q c H1
theorem pt_cmp {op : CmpOp} {t : TE} (h : PC X op a b t) (h1 : behindInMarks op b = false := by first | exact nobehind _ (by decide) (by decide) | rfl) : PT X (.Compare a [op] [b] pos) (tB t) := by
  intro pins s σ H Q I hw
  refine wpAny_isTrue_Compare1 (thn (h pins s σ H _ I hw) fun v s1 h1 => thn h1 fun u s2 h2 => thn h2 fun c s3 ⟨x, H1, I1, r1, q1⟩ => ?_) h1
  obtain ⟨d, rfl, q⟩ := q1
  cases r1
  exact wpAny_truthy_bool ⟨H1, I1, q⟩
theorem pt_val {e : Expr} {t : TE} (h : PE X e t) (he : ∀ whole, isTrue e X.env whole = (do let v ← whole; standAt e.pos; holding [v] (truthy v)) := by intro _; rfl) : PT X e (tB t) := by
  intro pins s σ H Q I hw
  refine isTrue_plain (thn (h pins s σ H _ I hw) fun v s1 ⟨x, H1, I1, r1, q1⟩ => ?_) (he _)
  obtain ⟨d, rfl, q⟩ := q1
  cases r1
  exact wpAny_truthy_bool ⟨H1, I1, q⟩
variable {tA tB' : TT} {rest : List Expr}
def tAnd (t u : TT) : TT := fun σ H Q => t σ H fun c H1 => if c = true then u σ H1 Q else Q false H1
def tOr (t u : TT) : TT := fun σ H Q => t σ H fun c H1 => if c = true then Q true H1 else u σ H1 Q
def tNot (t : TT) : TT := fun σ H Q => t σ H fun c H1 => Q (!c) H1
theorem pw_and1 (ha : PT X a tA) : PW X (.BoolOp .And [a] pos) tA := by
  intro wh pins s σ H Q I h
  refine isTrue_and (thn (ha pins s σ H Q I h) fun c s1 e => ?_)
  cases c with
  | true => exact isTrue_and_nil e
  | false => exact e
theorem pw_or1 (ha : PT X a tA) : PW X (.BoolOp .Or [a] pos) tA := by
  intro wh pins s σ H Q I h
  refine isTrue_or (thn (ha pins s σ H Q I h) fun c s1 e => ?_)
  cases c with
  | false => exact isTrue_or_nil e
  | true => exact e
theorem pw_and (ha : PT X a tA) (hb : PW X (.BoolOp .And (b :: rest) pos) tB') : PW X (.BoolOp .And (a :: b :: rest) pos) (tAnd tA tB') := by
  intro wh pins s σ H Q I h
  refine isTrue_and (thn (ha pins s σ H _ I h) fun c s1 ⟨H1, I1, q1⟩ => ?_)
  cases c with
  | true => exact hb wh pins s1 σ H1 Q I1 q1
  | false => exact ⟨H1, I1, q1⟩
theorem pw_or (ha : PT X a tA) (hb : PW X (.BoolOp .Or (b :: rest) pos) tB') : PW X (.BoolOp .Or (a :: b :: rest) pos) (tOr tA tB') := by
  intro wh pins s σ H Q I h
  refine isTrue_or (thn (ha pins s σ H _ I h) fun c s1 ⟨H1, I1, q1⟩ => ?_)
  cases c with
  | true => exact ⟨H1, I1, q1⟩
  | false => exact hb wh pins s1 σ H1 Q I1 q1
theorem pt_not (ha : PT X a tA) : PT X (.UnaryOp .Not a pos) (tNot tA) := by
  intro pins s σ H Q I h
  exact isTrue_not (ha pins s σ H (fun c H1 => Q (!c) H1) I h)
def tAndV (ta tb : TE) : TE := fun σ H Q => ta σ H fun x H1 => ∃ c, x = .bl c ∧ if c = true then tb σ H1 Q else Q (.bl false) H1
def tOrV (ta tb : TE) : TE := fun σ H Q => ta σ H fun x H1 => ∃ c, x = .bl c ∧ if c = true then Q (.bl true) H1 else tb σ H1 Q
def tNotV (ta : TE) : TE := fun σ H Q => ta σ H fun x H1 => ∃ c, x = .bl c ∧ Q (.bl (!c)) H1
theorem pe_one {op} {t : TE} (h : PE X a t) : PE X (.BoolOp op [a] pos) t := fun pins s σ H Q I hw => BoolOp_one (h pins s σ H Q I hw)
theorem pe_and (ha : PE X a ta) (hb : PE X (.BoolOp .And (b :: rest) pos) tb) : PE X (.BoolOp .And (a :: b :: rest) pos) (tAndV ta tb) := by
  intro pins s σ H Q I h
  refine BoolOp_and (thn (ha pins s σ H _ I h) fun v s1 ⟨x, H1, I1, r1, q1⟩ => ?_)
  obtain ⟨c, rfl, q1⟩ := q1
  cases r1
  refine wpAny_truthy_bool ?_
  cases c with
  | true => exact hb pins s1 σ H1 Q I1 q1
  | false => exact ⟨.bl false, H1, I1, rfl, q1⟩
theorem pe_or (ha : PE X a ta) (hb : PE X (.BoolOp .Or (b :: rest) pos) tb) : PE X (.BoolOp .Or (a :: b :: rest) pos) (tOrV ta tb) := by
  intro pins s σ H Q I h
  refine BoolOp_or (thn (ha pins s σ H _ I h) fun v s1 ⟨x, H1, I1, r1, q1⟩ => ?_)
  obtain ⟨c, rfl, q1⟩ := q1
  cases r1
  refine wpAny_truthy_bool ?_
  cases c with
  | false => exact hb pins s1 σ H1 Q I1 q1
  | true => exact ⟨.bl true, H1, I1, rfl, q1⟩
theorem pe_not (ha : PE X a ta) : PE X (.UnaryOp .Not a pos) (tNotV ta) := by
  intro pins s σ H Q I h
  refine UnaryOp_ (thn (ha pins s σ H _ I h) fun v s1 ⟨x, H1, I1, r1, q1⟩ => ?_)
  obtain ⟨c, rfl, q1⟩ := q1
  cases r1
  exact not_of (wpAny_truthy_bool ⟨.bl (!c), H1, I1, rfl, q1⟩)
def tIf (t : TT) (ta tb : TE) : TE := fun σ H Q => t σ H fun c H1 => if c = true then ta σ H1 Q else tb σ H1 Q
theorem pe_ifExp {c : Expr} (hc : PT X c tA) (ha : PE X a ta) (hb : PE X b tb) : PE X (.IfExp c a b pos) (tIf tA ta tb) := by
  intro pins s σ H Q I h
  refine wpAny_IfExp (thn (hc pins s σ H _ I h) fun d s1 ⟨H1, I1, q1⟩ => ?_)
  cases d with
  | true => exact ha pins s1 σ H1 Q I1 q1
  | false => exact hb pins s1 σ H1 Q I1 q1
end
end L2
namespace L2
open PySem PySem.Spec PyProof.Rows
def SqL (K : PySem.W.Frag) (H : Hp) (a : Addr) (xs : List V) : Prop :=
  Rd H a (.lst xs) ∨
    ∃ (o : Obj) (its : Array Value) (n : Nat), K.lookup a = some o ∧ o.cls = .type "list" ∧ o.dict = none ∧ o.data = .seq its n ∧ its.size ≤ sizeLine ∧ Vals xs its.toList
def SqT (K : PySem.W.Frag) (H : Hp) (a : Addr) (xs : List V) : Prop :=
  Rd H a (.tup xs) ∨
    ∃ (o : Obj) (its : Array Value) (n : Nat), K.lookup a = some o ∧ o.cls = .type "tuple" ∧ o.data = .seq its n ∧ its.size ≤ sizeLine ∧ Vals xs its.toList
def absV : Value → Option V
  | .none => some .non
  | .bool b => some (.bl b)
  | .int i _ => some (.int i)
  | .str x _ => some (.str x)
  | .bytes b _ => some (.byt b)
  | .float b _ => some (.flt b)
  | .ref a => some (.ref a)
  | .type n => some (.ty n)
  | _ => none
theorem RelV.abs {x : V} {u : Value} (r : RelV x u) : absV u = some x := by
  cases x with
  | non => cases r; rfl
  | bl _ => cases r; rfl
  | int _ => obtain ⟨t, rfl⟩ := r; rfl
  | str _ => obtain ⟨t, rfl⟩ := r; rfl
  | byt _ => obtain ⟨t, rfl⟩ := r; rfl
  | flt _ => obtain ⟨t, rfl⟩ := r; rfl
  | ref _ => cases r; rfl
  | ty _ => cases r; rfl
theorem RelV.inj {x y : V} {u : Value} (r : RelV x u) (q : RelV y u) : x = y := Option.some.inj (r.abs.symm.trans q.abs)
theorem Vals.inj : ∀ {xs ys : List V} {us : List Value}, Vals xs us → Vals ys us → xs = ys
  | _, _, _, .nil, .nil => rfl
  | _, _, _, .cons r t, .cons r' t' => by rw [r.inj r', Vals.inj t t']
section
variable {X : Cx} {pins : List (Addr × Obj)} {σ : St} {H : Hp} {s : Shared} {a : Addr} {xs ys : List V}
theorem SqL.of {K : PySem.W.Frag} (h : H a = some (.lst xs)) : SqL K H a xs := .inl (.inl h)
theorem SqT.of {K : PySem.W.Frag} (h : H a = some (.tup xs)) : SqT K H a xs := .inl (.inl h)
theorem Inv.list (I : Inv X pins σ H s) (h : SqL X.K H a xs) : ∃ its : List Value, Vals xs its ∧ PlainL s.heap a its.toArray ∧ xs.length ≤ sizeLine := by
  rcases h with h | ⟨o, its, n, hk, hc, hd, hs, hz, r⟩
  · obtain ⟨z, its, n, r, e⟩ := h.ok I.hok
    exact ⟨its, r, ⟨_, n, e, rfl, rfl, rfl⟩, z⟩
  · refine ⟨its.toList, r, ⟨o, n, I.kIn a o hk, hc, hd, by simpa using hs⟩, ?_⟩
    have e := r.length
    simp only [Array.length_toList] at e
    omega
theorem Inv.tuple (I : Inv X pins σ H s) (h : SqT X.K H a xs) : ∃ its : List Value, Vals xs its ∧ IsTup s.heap a its.toArray ∧ xs.length ≤ sizeLine := by
  rcases h with h | ⟨o, its, n, hk, hc, hs, hz, r⟩
  · obtain ⟨z, its, r, p⟩ := h.ok I.hok
    exact ⟨its, r, p, z⟩
  · refine ⟨its.toList, r, ⟨o, I.kIn a o hk, hc, n, by simpa using hs⟩, ?_⟩
    have e := r.length
    simp only [Array.length_toList] at e
    omega
theorem Inv.list_inj (I : Inv X pins σ H s) (h : SqL X.K H a xs) (h' : SqL X.K H a ys) : xs = ys := by
  obtain ⟨its, r, ⟨o, n, e, _, _, d⟩, _⟩ := I.list h
  obtain ⟨its', r', ⟨o', n', e', _, _, d'⟩, _⟩ := I.list h'
  rw [e] at e'; cases e'
  rw [d] at d'
  injection d' with d1 _
  have : its = its' := by simpa using congrArg Array.toList d1
  subst this
  exact r.inj r'
theorem Inv.tuple_inj (I : Inv X pins σ H s) (h : SqT X.K H a xs) (h' : SqT X.K H a ys) : xs = ys := by
  obtain ⟨its, r, ⟨o, e, _, n, d⟩, _⟩ := I.tuple h
  obtain ⟨its', r', ⟨o', e', _, n', d'⟩, _⟩ := I.tuple h'
  rw [e] at e'; cases e'
  rw [d] at d'
  injection d' with d1 _
  have : its = its' := by simpa using congrArg Array.toList d1
  subst this
  exact r.inj r'
end
abbrev Cx.wish (X : Cx) (E : Value → Shared → Prop) : Cx := { X with xe := E }
abbrev Cx.nox (X : Cx) : Cx := X.wish fun _ _ => False
theorem Cx.Ok.wish {X : Cx} (ok : X.Ok) (E : Value → Shared → Prop) : (X.wish E).Ok :=
  ⟨ok.mod, ok.kind, ok.glob, ok.blt, ok.above, ok.inj, ok.has, ok.cab, ok.hd, ok.frames, ok.stk, ok.exf, ok.bs, ok.bsz, ok.noex, ok.exfs, ok.funs, ok.frf⟩
theorem Cx.Ok.unwish {X : Cx} {E : Value → Shared → Prop} (ok : (X.wish E).Ok) : X.Ok :=
  ⟨ok.mod, ok.kind, ok.glob, ok.blt, ok.above, ok.inj, ok.has, ok.cab, ok.hd, ok.frames, ok.stk, ok.exf, ok.bs, ok.bsz, ok.noex, ok.exfs, ok.funs, ok.frf⟩
section
variable {X : Cx} {pins : List (Addr × Obj)} {σ : St} {H : Hp} {s : Shared} {E : Value → Shared → Prop}
theorem Inv.wish (I : Inv X pins σ H s) (E : Value → Shared → Prop) : Inv (X.wish E) pins σ H s := ⟨I.ok.wish E, I.os, I.bare, I.base, I.loc, I.cell, I.free, I.freeC, I.pin, I.hok, I.len⟩
theorem Inv.unwish (I : Inv (X.wish E) pins σ H s) : Inv X pins σ H s := ⟨I.ok.unwish, I.os, I.bare, I.base, I.loc, I.cell, I.free, I.freeC, I.pin, I.hok, I.len⟩
theorem SP.unwish {D : Ends} {f : Flow} {s' : Shared} (h : SP (X.wish E) pins D f s') : SP X pins D f s' := by
  cases f with
  | next => obtain ⟨σ', H', I, q⟩ := h; exact ⟨σ', H', I.unwish, q⟩
  | brk => obtain ⟨σ', H', I, q⟩ := h; exact ⟨σ', H', I.unwish, q⟩
  | cont => obtain ⟨σ', H', I, q⟩ := h; exact ⟨σ', H', I.unwish, q⟩
  | ret u => obtain ⟨v, σ', H', I, r, q⟩ := h; exact ⟨v, σ', H', I.unwish, r, q⟩
theorem PSs.nox {st : List Stmt} {t : TS} (h : PSs X.nox st t) : PSs X st t := fun pins s σ H D I hw =>
  wpAny_mono (h pins s σ H D (I.wish _) hw) (fun _ _ q => q.unwish) fun _ _ z => False.elim z
end
section
variable {X : Cx} {st : Stmt} {rest : List Stmt} {t u : TS} {e : Expr} {te : TE} {pos : Pos}
def tNext : TS := fun D σ H => D.nx σ H
def tSeq (t u : TS) : TS := fun D σ H => t { D with nx := u D } σ H
theorem pss_nil : PSs X [] tNext := fun _ _ σ H _ I h => wpAny_execs_nil ⟨σ, H, I, h⟩
theorem pss_cons (h1 : PS X st t) (h2 : PSs X rest u) : PSs X (st :: rest) (tSeq t u) := by
  intro pins s σ H D I h
  refine wpAny_execs_cons (thn (h1 pins s σ H { D with nx := u D } I h) fun f s1 q => ?_)
  cases f with
  | next =>
    obtain ⟨σ', H', I', q⟩ := q
    exact h2 pins s1 σ' H' D I' q
  | ret v => exact q
  | brk => exact q
  | cont => exact q
theorem pss_one (h1 : PS X st t) : PSs X [st] t := by
  intro pins s σ H D I h
  refine wpAny_execs_cons (thn (h1 pins s σ H D I h) fun f s1 q => ?_)
  cases f with
  | next => exact wpAny_execs_nil q
  | ret v => exact q
  | brk => exact q
  | cont => exact q
theorem Inv.quiet {pins : List (Addr × Obj)} {σ : St} {H : Hp} {s : Shared} (I : Inv X pins σ H s) : interactive X.env = false := by simp [interactive, I.ok.kind]
def tDrop (te : TE) : TS := fun D σ H => te σ H fun _ H1 => D.nx σ H1
theorem ps_expr (he : PE X e te) (hs : swapsWith e none pos.line X.env = pure false := by rfl) : PS X (.Expr e pos) (tDrop te) := by
  intro pins s σ H D I h
  exact wpAny_Expr_any (thn (he pins s σ H _ I h) fun v s1 ⟨x, H1, I1, r1, q1⟩ => ⟨σ, H1, I1, q1⟩) I.quiet hs
def tRet (te : TE) : TS := fun D σ H => te σ H D.rt
theorem ps_ret (he : PE X e te) : PS X (.Return (some e) pos) (tRet te) := by
  intro pins s σ H D I h
  exact wpAny_Return_some (thn (he pins s σ H _ I h) fun v s1 ⟨x, H1, I1, r1, q1⟩ => ⟨x, σ, H1, I1, r1, q1⟩)
def tIfS (c : TT) (t u : TS) : TS := fun D σ H => c σ H fun b H1 => if b = true then t D σ H1 else u D σ H1
theorem ps_if {c : Expr} {a b : List Stmt} {tc : TT} (hc : PT X c tc) (ha : PSs X a t) (hb : PSs X b u) : PS X (.If c a b pos) (tIfS tc t u) := by
  intro pins s σ H D I h
  refine wpAny_If (thn (hc pins s σ H _ I h) fun d s1 ⟨H1, I1, q1⟩ => ?_)
  cases d with
  | true => exact ha pins s1 σ H1 D I1 q1
  | false => exact hb pins s1 σ H1 D I1 q1
def tNever : TS := fun _ _ _ => False
theorem ps_never : PS X st tNever := fun _ _ _ _ _ _ h => h.elim
end
abbrev TG := V → St → Hp → (St → Hp → Prop) → Prop
abbrev TGs := List V → St → Hp → (St → Hp → Prop) → Prop
def PG (X : Cx) (target : Expr) (t : TG) : Prop :=
  ∀ (pins : List (Addr × Obj)) (s : Shared) (σ : St) (H : Hp) (v : V) (u : Value) (Q : St → Hp → Prop), Inv X pins σ H s → RelV v u → t v σ H Q →
    wpAny (model X.prog X.w) X.A (assign target X.env u) (fun _ s' => ∃ σ' H', Inv X pins σ' H' s' ∧ Q σ' H') X.xe s
def PGs (X : Cx) (ts : List Expr) (t : TGs) : Prop :=
  ∀ (pins : List (Addr × Obj)) (s : Shared) (σ : St) (H : Hp) (vs : List V) (us : List Value) (Q : St → Hp → Prop), Inv X pins σ H s → Vals vs us → t vs σ H Q →
    wpAny (model X.prog X.w) X.A (assignInOrder ((assignEach ts X.env).map (·.2)) us) (fun _ s' => ∃ σ' H', Inv X pins σ' H' s' ∧ Q σ' H') X.xe s
section
variable {X : Cx} {pos : Pos}
def gName (i : Nat) : TG := fun v σ H Q => Q (σ.set i (some v)) H
theorem pg_name {i : Nat} {x : Str} (hN : X.N.Nodup) (hi : X.N[i]? = some x) (hx : Loc X.env.scope x) (hf : X.fn x = true ∨ X.env.scope.names.lookup x = some .local := by first | exact .inl rfl | exact .inr rfl | assumption) : PG X (.Name x pos) (gName i) := by
  intro pins s σ H v u Q I r h
  exact wpAny_assign_Name (store_ok I hN hi hx r (fun s' I' => ⟨_, H, I', h⟩) hf)
def gNil : TGs := fun vs σ H Q => vs = [] ∧ Q σ H
def gCons (t : TG) (u : TGs) : TGs := fun vs σ H Q => ∃ v r, vs = v :: r ∧ t v σ H fun σ' H' => u r σ' H' Q
theorem pgs_nil : PGs X [] gNil := by
  intro pins s σ H vs us Q I r h
  obtain ⟨e, h⟩ := h
  subst e
  cases r
  exact assignInOrder_nil ⟨σ, H, I, h⟩
theorem pgs_cons {e : Expr} {es : List Expr} {t : TG} {u : TGs} (h1 : PG X e t) (h2 : PGs X es u)
    (hs : (assignEach (e :: es) X.env).map (·.2) = assign e X.env :: (assignEach es X.env).map (·.2) := by rfl) : PGs X (e :: es) (gCons t u) := by
  intro pins s σ H vs us Q I r h
  obtain ⟨v, vr, e1, h⟩ := h
  subst e1
  cases r with
  | cons r rr =>
    rw [hs]
    refine assignInOrder_cons (thn (h1 pins s σ H _ _ _ I r h) fun _ s1 ⟨σ1, H1, I1, q1⟩ => ?_)
    exact h2 pins s1 σ1 H1 _ _ Q I1 rr q1
def gTup (K : PySem.W.Frag) (n : Nat) (t : TGs) : TG := fun v σ H Q => ∃ a xs, v = .ref a ∧ SqT K H a xs ∧ xs.length = n ∧ t xs σ H Q
theorem pg_tup {es : List Expr} {k : Nat} {t : TGs} {n : Nat} (hc : X.calm = true) (h : PGs X es t)
    (hn : (assignEach es X.env).length = n := by rfl) (hst : (assignEach es X.env).findIdx? (·.1) = none := by rfl) : PG X (.Tuple es k pos) (gTup X.K n t) := by
  intro pins s σ H v u Q I r hw
  obtain ⟨a, xs, e1, hq, hl, hw⟩ := hw
  subst e1
  cases r
  obtain ⟨its, rv, ht, hz⟩ := I.tuple hq
  refine assign_Tuple_tuple (I.ok.hd hc) ht (by simp [hn, ← hl, rv.length]) hst fun h' hx => ?_
  have I1 : Inv X pins σ H { s with heap := h' } := I.kept (t' := s.toks) fun b o e => hx b o (Nat.ne_of_lt (Heap.lt_size e)) e
  exact h pins _ σ H xs _ Q I1 (by simpa using rv) hw
def tAsg (te : TE) (g : TG) : TS := fun D σ H => te σ H fun x H1 => g x σ H1 D.nx
theorem ps_asg {tg e : Expr} {te : TE} {g : TG} (he : PE X e te) (hg : PG X tg g) (hs : swapsWithSole [tg] e pos.line X.env = pure false := by rfl) (hw : swappedStores [tg] e X.env = pure none := by rfl)
    (h1 : (assignEach [tg] X.env).map (·.2) = [assign tg X.env] := by rfl) : PS X (.Assign [tg] e pos) (tAsg te g) := by
  intro pins s σ H D I h
  refine wpAny_Assign_stores (thn (he pins s σ H _ I h) fun v s1 ⟨x, H1, I1, r1, q1⟩ => ?_) hs hw
  rw [h1]
  exact thn (hg pins s1 σ H1 x v _ I1 r1 q1) fun _ s2 q => q
theorem ps_set {i : Nat} {x : Str} {e : Expr} {te : TE} {pos' : Pos} (hN : X.N.Nodup) (hi : X.N[i]? = some x) (hx : Loc X.env.scope x) (he : PE X e te) (hs : swapsWith e (some (.Name x pos')) pos.line X.env = pure false := by rfl) (hf : X.fn x = true ∨ X.env.scope.names.lookup x = some .local := by first | exact .inl rfl | exact .inr rfl | assumption) :
    PS X (.Assign [.Name x pos'] e pos) (tAsg te (gName i)) := by
  intro pins s σ H D I h
  refine wpAny_Assign_Name (thn (he pins s σ H _ I h) fun v s1 ⟨y, H1, I1, r1, q1⟩ => ?_) hs
  exact store_ok I1 hN hi hx r1 (fun s2 I2 => ⟨_, H1, I2, q1⟩) hf
end
section
variable {X : Cx} {pos : Pos}
def tWhile (c : TT) (tb : TS) : TS := fun D σ H => ∃ W : Nat → St → Hp → Prop, (∃ m, W m σ H) ∧ ∀ m σ H, W m σ H →
  c σ H fun b H1 => if b = true then ∃ N : St → Hp → Prop, (∀ σ' H', N σ' H' → ∃ m', m' < m ∧ W m' σ' H') ∧ tb { D with nx := N, ct := N, bk := D.nx } σ H1 else D.nx σ H1
theorem ps_while {c : Expr} {body : List Stmt} {tc : TT} {tb : TS} (hp : PassesOwn (model X.prog X.w) X.A X.env X.xe) (hc : PT X c tc) (hb : PSs X body tb) : PS X (.While c body [] pos) (tWhile tc tb) := by
  intro pins s σ H D I h
  obtain ⟨W, ⟨m0, w0⟩, turn⟩ := h
  refine wpAny_While (codeAny_whileLoop (fun n s' => ∃ σ' H', Inv X pins σ' H' s' ∧ W n σ' H') ?_ m0 ⟨σ, H, I, w0⟩)
  rintro n s1 ⟨σ1, H1, I1, w1⟩
  refine wpAny_passesOwn hp (thn (hc pins s1 σ1 H1 _ I1 (turn n σ1 H1 w1)) fun b s2 ⟨H2, I2, q2⟩ => ?_)
  cases b with
  | true =>
    obtain ⟨N, hN, q2⟩ := q2
    rw [if_pos rfl]
    refine wpAny_passesOwn hp (thn (hb pins s2 σ1 H2 _ I2 q2) fun f s3 q3 => ?_)
    cases f with
    | next =>
      obtain ⟨σ3, H3, I3, n3⟩ := q3
      obtain ⟨m', hm, w3⟩ := hN σ3 H3 n3
      exact ⟨m', hm, σ3, H3, I3, w3⟩
    | cont =>
      obtain ⟨σ3, H3, I3, n3⟩ := q3
      obtain ⟨m', hm, w3⟩ := hN σ3 H3 n3
      exact ⟨m', hm, σ3, H3, I3, w3⟩
    | brk => exact q3
    | ret v => exact q3
  | false =>
    rw [if_neg Bool.false_ne_true]
    exact wpAny_execs_nil ⟨σ1, H2, I2, q2⟩
end
structure It where
  go : Nat → Hp → Prop
  yld : Nat → Hp → V → Hp → Prop
  stop : Nat → Hp → Prop
def FpOk (X : Cx) (pins : List (Addr × Obj)) (H : Hp) (b : Addr) : Prop :=
  H b = none ∧ b ≠ X.env.locals ∧ b ∉ X.fs ∧ (b ∈ X.ex ∨ X.s₀.heap.objs.size ≤ b) ∧ (∀ x c, X.env.cells.lookup x = some c → c ≠ b) ∧ ∀ p ∈ X.pn ++ pins, p.1 ≠ b
theorem Inv.fpOk {X : Cx} {pins : List (Addr × Obj)} {σ : St} {H H' : Hp} {s : Shared} {b : Addr} (I : Inv X pins σ H s) (hb : s.heap.objs.size ≤ b) (hn : H' b = none) : FpOk X pins H' b := by
  refine ⟨hn, Nat.ne_of_gt (Nat.lt_of_lt_of_le I.lt hb), I.nofs hb, .inr (Nat.le_trans I.sz hb), fun x c e z => ?_, fun p hp z => ?_⟩
  · obtain ⟨v, q⟩ := I.cell x c e
    exact absurd (Nat.lt_of_lt_of_le q.lt (by rw [z]; exact hb)) (Nat.lt_irrefl _)
  · exact absurd (Nat.lt_of_lt_of_le (Heap.lt_size (I.pin p hp).1) (by rw [z]; exact hb)) (Nat.lt_irrefl _)
structure Turn (P : Program) (w : World) (K : PySem.W.Frag) (tg : Expr) (J : It) (fp : List Addr) (it : Addr) (tn : Nat → Heap → Prop) : Prop where
  mem : it ∈ fp
  obj : ∀ i h, tn i h → ∀ b ∈ fp, ∃ o, h.get? b = some o ∧ ∀ v, o.data ≠ .cell v
  keep : ∀ i h h', tn i h → (∀ b ∈ fp, ∀ o, h.get? b = some o → h'.get? b = some o) → tn i h'
  item : ∀ (X : Cx), X.prog = P → X.w = w → X.K = K → X.calm = true → ∀ (i : Nat) (pins : List (Addr × Obj)) (s : Shared) (σ : St) (H : Hp) (E : Value → Shared → Prop), Inv X pins σ H s → (∀ b ∈ fp, FpOk X pins H b) → tn i s.heap → J.go i H →
    wpAny (model P w) X.A (pyNext (.ref it)) (fun r s1 => ∃ u, r = some u ∧
      wpAny (model P w) X.A (letOwnedTupleGo tg (.ref it) u) (fun _ s2 => ∃ x H', Inv X pins σ H' s2 ∧ RelV x u ∧ J.yld i H x H' ∧ tn (i + 1) s2.heap ∧ ∀ b ∈ fp, H' b = none) E s1) E s
  done : ∀ (X : Cx), X.prog = P → X.w = w → X.K = K → X.calm = true → ∀ (i : Nat) (pins : List (Addr × Obj)) (s : Shared) (σ : St) (H : Hp) (E : Value → Shared → Prop), Inv X pins σ H s → (∀ b ∈ fp, FpOk X pins H b) → tn i s.heap → J.stop i H →
    wpAny (model P w) X.A (pyNext (.ref it)) (fun r s1 => r = none ∧ Inv X pins σ H s1) E s
  self : ∀ (A : Around) (i : Nat) (s : Shared) (Q : Value → Shared → Prop) (E : Value → Shared → Prop), tn i s.heap → Q (.ref it) s → wpAny (model P w) A (pyIter (.ref it)) Q E s
abbrev TI := St → Hp → (It → Hp → Prop) → Prop
def PIE (X : Cx) (pins : List (Addr × Obj)) (σ : St) (tg : Expr) (R : It → Hp → Prop) (itv : Value) (s2 : Shared) : Prop :=
  ∃ (it : Addr) (fp : List Addr) (tn : Nat → Heap → Prop) (J : It) (H' : Hp), itv = .ref it ∧ Inv X pins σ H' s2 ∧ Turn X.prog X.w X.K tg J fp it tn ∧ tn 0 s2.heap ∧ (∀ b ∈ fp, FpOk X pins H' b) ∧ R J H'
def PI (X : Cx) (tg iter : Expr) (wi : TI) : Prop :=
  ∀ (pins : List (Addr × Obj)) (s : Shared) (σ : St) (H : Hp) (R : It → Hp → Prop), Inv X pins σ H s → wi σ H R →
    wpAny (model X.prog X.w) X.A (eval iter X.env) (fun v s1 => wpAny (model X.prog X.w) X.A (pyIter v) (PIE X pins σ tg R) X.xe s1) X.xe s
theorem go_of {M : Model} {A : Around} {E : Value → Shared → Prop} {s : Shared} {tg : Expr} {it : Addr} {u : Value} {o : Obj} {n : String} {vs : Array Value} {Q : Unit → Shared → Prop} (ho : s.heap.get? it = some o) (hc : o.cls = .type n) (hd : o.data = .fields vs)
    (hn : ["enumerate", "zip", "dict_itemiterator", "dict_reverseitemiterator", "odict_iterator", "itertools.zip_longest", "itertools.pairwise"].contains n = false) (hQ : Q () s) : wpAny M A (letOwnedTupleGo tg (.ref it) u) Q E s := by
  unfold letOwnedTupleGo
  cases tg <;> first
    | exact wpAny_pure hQ
    | (cases u <;> first
        | exact wpAny_pure hQ
        | (refine wpAny_bind (wpAny_load ho ?_)
           rw [hc, hd]
           show wpAny M A (if (["enumerate", "zip", "dict_itemiterator", "dict_reverseitemiterator", "odict_iterator", "itertools.zip_longest", "itertools.pairwise"].contains n && vs[0]? == some (rawInt _)) = true then _ else _) Q E s
           rw [if_neg (by intro h; rw [hn, Bool.false_and] at h; cases h)]
           exact wpAny_pure hQ))
def Itl (K : PySem.W.Frag) (a : Addr) : It :=
  ⟨fun i H => ∃ xs x, SqL K H a xs ∧ xs[i]? = some x, fun i H x H' => H' = H ∧ ∀ xs, SqL K H a xs → xs[i]? = some x, fun i H => ∃ xs, SqL K H a xs ∧ xs.length ≤ i⟩
def Itt (K : PySem.W.Frag) (a : Addr) : It :=
  ⟨fun i H => ∃ xs x, SqT K H a xs ∧ xs[i]? = some x, fun i H x H' => H' = H ∧ ∀ xs, SqT K H a xs → xs[i]? = some x, fun i H => ∃ xs, SqT K H a xs ∧ xs.length ≤ i⟩
def Itr (lo : Int) (n : Nat) : It := ⟨fun i _ => i < n, fun i H x H' => H' = H ∧ x = .int (lo + i), fun i _ => n ≤ i⟩
theorem turn_list {P : Program} {w : World} {K : PySem.W.Frag} {tg : Expr} (a it : Addr) : Turn P w K tg (Itl K a) [it] it (fun i h => h.IsListIter it a i) where
  mem := by simp
  obj := fun i h st b hb => by
    have e : b = it := by simpa using hb
    subst e
    obtain ⟨o, e, c, d⟩ := st
    exact ⟨o, e, fun v z => by rw [d] at z; cases z⟩
  keep := fun i h h' st k => st.at fun o e => k it (by simp) o e
  item := by
    intro X hP hw hK hc i pins s σ H E I hf st hg
    subst hP hw hK
    obtain ⟨xs, x, hq, hx⟩ := hg
    obtain ⟨its, rv, p, hz⟩ := I.list hq
    obtain ⟨u, hu, ru⟩ := rv.get hx
    obtain ⟨f0, f1, f2, f3, f4, f5⟩ := hf it (by simp)
    refine wpAny_pyNext_list_item st p.isList (x := u) (by simpa using hu) fun h' st' sb => ?_
    have I1 : Inv X pins σ H { s with heap := h' } := I.turned (t' := s.toks) (fun b o hb e => (sb.2 b hb).trans e) f0 f1 f3 f4 f5
    obtain ⟨o, e, c, d⟩ := id st'
    exact ⟨u, rfl, go_of (s := { s with heap := h' }) e c d (by decide) ⟨x, H, I1, ru, ⟨rfl, fun ys hy => by rw [I.list_inj hy hq]; exact hx⟩, st', fun b hb => (hf b hb).1⟩⟩
  done := by
    intro X hP hw hK hc i pins s σ H E I hf st hg
    subst hP hw hK
    obtain ⟨xs, hq, hx⟩ := hg
    obtain ⟨its, rv, p, hz⟩ := I.list hq
    obtain ⟨f0, f1, f2, f3, f4, f5⟩ := hf it (by simp)
    have hl := rv.length
    exact wpAny_pyNext_list_end (I.ok.hd hc) st p.isList (by simp; omega) fun h' eb => ⟨rfl, I.turned (t' := s.toks) (fun b o hb e => eb b o hb e) f0 f1 f3 f4 f5⟩
  self := fun _ _ _ _ _ st h => wpAny_pyIter_listiter st h
theorem turn_tuple {P : Program} {w : World} {K : PySem.W.Frag} {tg : Expr} (a it : Addr) : Turn P w K tg (Itt K a) [it] it (fun i h => h.IsTupleIter it a i) where
  mem := by simp
  obj := fun i h st b hb => by
    have e : b = it := by simpa using hb
    subst e
    obtain ⟨o, e, c, d⟩ := st
    exact ⟨o, e, fun v z => by rw [d] at z; cases z⟩
  keep := fun i h h' st k => st.at fun o e => k it (by simp) o e
  item := by
    intro X hP hw hK hc i pins s σ H E I hf st hg
    subst hP hw hK
    obtain ⟨xs, x, hq, hx⟩ := hg
    obtain ⟨its, rv, p, hz⟩ := I.tuple hq
    obtain ⟨u, hu, ru⟩ := rv.get hx
    obtain ⟨f0, f1, f2, f3, f4, f5⟩ := hf it (by simp)
    refine wpAny_pyNext_tuple_item st (show s.heap.IsTuple a its.toArray from p) (x := u) (by simpa using hu) fun h' st' sb => ?_
    have I1 : Inv X pins σ H { s with heap := h' } := I.turned (t' := s.toks) (fun b o hb e => (sb.2 b hb).trans e) f0 f1 f3 f4 f5
    obtain ⟨o, e, c, d⟩ := id st'
    exact ⟨u, rfl, go_of (s := { s with heap := h' }) e c d (by decide) ⟨x, H, I1, ru, ⟨rfl, fun ys hy => by rw [I.tuple_inj hy hq]; exact hx⟩, st', fun b hb => (hf b hb).1⟩⟩
  done := by
    intro X hP hw hK hc i pins s σ H E I hf st hg
    subst hP hw hK
    obtain ⟨xs, hq, hx⟩ := hg
    obtain ⟨its, rv, p, hz⟩ := I.tuple hq
    obtain ⟨f0, f1, f2, f3, f4, f5⟩ := hf it (by simp)
    have hl := rv.length
    exact wpAny_pyNext_tuple_end (I.ok.hd hc) st (show s.heap.IsTuple a its.toArray from p) (by simp; omega) fun h' eb => ⟨rfl, I.turned (t' := s.toks) (fun b o hb e => eb b o hb e) f0 f1 f3 f4 f5⟩
  self := fun _ _ _ _ _ st h => wpAny_pyIter_tupleiter st h
theorem turn_range {P : Program} {w : World} {K : PySem.W.Frag} {tg : Expr} (it : Addr) (lo : Int) (n : Nat) : Turn P w K tg (Itr lo n) [it] it (fun i h => IsRangeIter h it (lo + (i : Nat) * 1) ((n : Int) - (i : Nat)) 1) where
  mem := by simp
  obj := fun i h st b hb => by
    have e : b = it := by simpa using hb
    subst e
    exact ⟨_, st, fun v z => by
      have z' : Data.fields _ = Data.cell v := z
      cases z'⟩
  keep := fun i h h' st k => k it (by simp) _ st
  item := by
    intro X hP hw hK hc i pins s σ H E I hf st hg
    subst hP hw hK
    obtain ⟨f0, f1, f2, f3, f4, f5⟩ := hf it (by simp)
    have W := Walks.range (prog := X.prog) (w := X.w) (I.ok.hd hc) it lo 1 n
    refine W.item i s _ _ hg st fun v h' tk hv st' kk => ?_
    obtain ⟨t, rfl⟩ := hv
    have I1 : Inv X pins σ H { s with heap := h', toks := tk } := I.turned (fun b o hb e => kk b o (by simpa using hb) e) f0 f1 f3 f4 f5
    refine ⟨_, rfl, go_of (s := { s with heap := h', toks := tk }) (n := "range_iterator") st' rfl rfl (by decide) ⟨.int (lo + i), H, I1, ⟨t, ?_⟩, ⟨rfl, rfl⟩, st', fun b hb => (hf b hb).1⟩⟩
    rw [Int.mul_one]
  done := by
    intro X hP hw hK hc i pins s σ H E I hf st hg
    subst hP hw hK
    obtain ⟨f0, f1, f2, f3, f4, f5⟩ := hf it (by simp)
    exact wpAny_pyNext_range_end (I.ok.hd hc) st (by have : n ≤ i := hg; omega) fun h' eb => ⟨rfl, I.turned (t' := s.toks) (fun b o hb e => eb b o hb e) f0 f1 f3 f4 f5⟩
  self := fun _ _ _ _ _ st h => wpAny_pyIter_rangeiter st h
end L2
namespace L2
open PySem PySem.Spec PyProof.Rows
section
variable {X : Cx} {tg : Expr}
def iList (K : PySem.W.Frag) (tl : TE) : TI := fun σ H R => tl σ H fun x H1 => ∃ a, x = .ref a ∧ (∃ xs, SqL K H1 a xs) ∧ R (Itl K a) H1
def iTup (K : PySem.W.Frag) (tl : TE) : TI := fun σ H R => tl σ H fun x H1 => ∃ a, x = .ref a ∧ (∃ xs, SqT K H1 a xs) ∧ R (Itt K a) H1
theorem pi_list {l : Expr} {tl : TE} (hl : PE X l tl) : PI X tg l (iList X.K tl) := by
  intro pins s σ H R I h
  refine thn (hl pins s σ H _ I h) fun v s1 ⟨x, H1, I1, r1, q1⟩ => ?_
  obtain ⟨a, e, ⟨xs, hq⟩, q⟩ := q1
  subst e
  cases r1
  obtain ⟨its, rv, p, hz⟩ := I1.list hq
  refine wpAny_pyIter_list p.isList ?_
  refine ⟨s1.heap.objs.size, [s1.heap.objs.size], _, _, H1, rfl, I1.kept (t' := s1.toks) fun b o e => Heap.get?_push_of_some _ e, turn_list a _, ⟨_, Heap.get?_push_size _ rfl, rfl, rfl⟩, fun b hb => ?_, q⟩
  have e : b = s1.heap.objs.size := by simpa using hb
  subst e
  exact I1.fpOk (Nat.le_refl _) (I1.hok.fresh (Nat.le_refl _))
theorem pi_tup {l : Expr} {tl : TE} (hl : PE X l tl) : PI X tg l (iTup X.K tl) := by
  intro pins s σ H R I h
  refine thn (hl pins s σ H _ I h) fun v s1 ⟨x, H1, I1, r1, q1⟩ => ?_
  obtain ⟨a, e, ⟨xs, hq⟩, q⟩ := q1
  subst e
  cases r1
  obtain ⟨its, rv, p, hz⟩ := I1.tuple hq
  refine wpAny_pyIter_tuple (show s1.heap.IsTuple a its.toArray from p) ?_
  refine ⟨s1.heap.objs.size, [s1.heap.objs.size], _, _, H1, rfl, I1.kept (t' := s1.toks) fun b o e => Heap.get?_push_of_some _ e, turn_tuple a _, ⟨_, Heap.get?_push_size _ rfl, rfl, rfl⟩, fun b hb => ?_, q⟩
  have e : b = s1.heap.objs.size := by simpa using hb
  subst e
  exact I1.fpOk (Nat.le_refl _) (I1.hok.fresh (Nat.le_refl _))
theorem range_it {pins : List (Addr × Obj)} {σ : St} {H : Hp} {s : Shared} {R : It → Hp → Prop} {E : Value → Shared → Prop} {lo hi : Int} {t u v : Tok} {tk : Nat} (I : Inv X pins σ H s) (h1 : -(2 ^ 62) ≤ lo) (h2 : lo < 2 ^ 62) (h3 : -(2 ^ 62) ≤ hi) (h4 : hi < 2 ^ 62)
    (q : R (Itr lo (hi - lo).toNat) H) : wpAny (model X.prog X.w) X.A (pyIter (.ref s.heap.objs.size)) (PIE X pins σ tg R) E { s with heap := s.heap.push { cls := .type "range", data := .fields #[.int lo t, .int hi u, .int 1 v] }, toks := tk } := by
  refine wpAny_pyIter_range (IsRange.new ..) (small_one h1 h2 h3 h4) ?_
  have I1 : Inv X pins σ H { s with heap := s.heap.push { cls := .type "range", data := .fields #[.int lo t, .int hi u, .int 1 v] }, toks := tk } := I.kept fun b o e => Heap.get?_push_of_some _ e
  refine ⟨(s.heap.push { cls := .type "range", data := .fields #[.int lo t, .int hi u, .int 1 v] }).objs.size, [(s.heap.push { cls := .type "range", data := .fields #[.int lo t, .int hi u, .int 1 v] }).objs.size], _, _, H, rfl,
    I1.kept (t' := tk) fun b o e => Heap.get?_push_of_some _ e, turn_range _ lo (hi - lo).toNat, ?_, fun b hb => ?_, q⟩
  · have e1 : lo + ((0 : Nat) : Int) * 1 = lo := by simp
    have e2 : (((hi - lo).toNat : Nat) : Int) - ((0 : Nat) : Int) = Builtin.Range.rangeSize lo hi 1 := by rw [rangeSize_one]; split <;> omega
    show IsRangeIter _ _ (lo + ((0 : Nat) : Int) * 1) ((((hi - lo).toNat : Nat) : Int) - ((0 : Nat) : Int)) 1
    rw [e1, e2]
    exact Heap.get?_push_size _ rfl
  · have e : b = (s.heap.push { cls := .type "range", data := .fields #[.int lo t, .int hi u, .int 1 v] }).objs.size := by simpa using hb
    subst e
    exact I1.fpOk (Nat.le_refl _) (I1.hok.fresh (Nat.le_refl _))
def iRng1 (ta : TA) : TI := fun σ H R => ta σ H fun vs H1 => ∃ j : Int, vs = [.int j] ∧ -(2 ^ 62) ≤ j ∧ j < 2 ^ 62 ∧ R (Itr 0 j.toNat) H1
def iRng2 (ta : TA) : TI := fun σ H R => ta σ H fun vs H1 => ∃ i j : Int, vs = [.int i, .int j] ∧ (-(2 ^ 62) ≤ i ∧ i < 2 ^ 62 ∧ -(2 ^ 62) ≤ j ∧ j < 2 ^ 62) ∧ R (Itr i (j - i).toNat) H1
theorem pi_range1 {a : Expr} {ta : TA} {p pos : Pos} (hg : Gl X "range") (hm : X.mg "range" = none) (ha : PA X [a] ta) (hs : starEach [a] X.env = [(false, eval a X.env)] := by rfl) : PI X tg (.Call (.Name "range" p) [a] [] pos) (iRng1 ta) := by
  intro pins s σ H R I h
  refine Call_ (ld_blt I hg hm boot_range (PyProof.Rows.callWith_type1 (thn (ha pos pins s σ H _ I h) fun us s1 ⟨vs, H1, I1, r1, q1⟩ => ?_) hs rfl))
  obtain ⟨j, e, q1, q2, q⟩ := q1
  subst e
  cases r1 with
  | cons r rr =>
    cases rr
    obtain ⟨t, rfl⟩ := r
    exact call_range_1 (range_it I1 (by omega) (by omega) q1 q2 (by simpa using q))
theorem pi_range2 {a b : Expr} {ta : TA} {p pos : Pos} (hg : Gl X "range") (hm : X.mg "range" = none) (ha : PA X [a, b] ta) (hs : starEach [a, b] X.env = [(false, eval a X.env), (false, eval b X.env)] := by rfl) (hs2 : starEach [b] X.env = [(false, eval b X.env)] := by rfl) :
    PI X tg (.Call (.Name "range" p) [a, b] [] pos) (iRng2 ta) := by
  intro pins s σ H R I h
  refine Call_ (ld_blt I hg hm boot_range (PyProof.Rows.callWith_type1 (thn (ha pos pins s σ H _ I h) fun us s1 ⟨vs, H1, I1, r1, q1⟩ => ?_) (by rw [hs, hs2]) (by rw [hs2]; rfl)))
  obtain ⟨i, j, e, ⟨q1, q2, q3, q4⟩, q⟩ := q1
  subst e
  cases r1 with
  | cons r rr =>
    cases rr with
    | cons r' rr =>
      cases rr
      obtain ⟨t, rfl⟩ := r
      obtain ⟨t', rfl⟩ := r'
      exact call_range_2 (range_it I1 q1 q2 q3 q4 q)
def tFor (wi : TI) (g : TG) (tb : TS) : TS := fun D σ H => wi σ H fun J H1 => ∃ W : Nat → Nat → St → Hp → Prop, (∃ m, W 0 m σ H1) ∧ ∀ i m σ H, W i m σ H →
  (J.stop i H ∧ D.nx σ H) ∨ (J.go i H ∧ ∃ N : St → Hp → Prop, (∀ σ' H', N σ' H' → ∃ m', m' < m ∧ W (i + 1) m' σ' H') ∧ ∀ x H', J.yld i H x H' → g x σ H' fun σ2 H2 => tb { D with nx := N, ct := N, bk := D.nx } σ2 H2)
def pinsAt (fp : List Addr) (h : Heap) : List (Addr × Obj) := fp.filterMap fun b => (h.get? b).map fun o => (b, o)
theorem mem_pinsAt {fp : List Addr} {h : Heap} {b : Addr} {o : Obj} (hb : b ∈ fp) (e : h.get? b = some o) : (b, o) ∈ pinsAt fp h := List.mem_filterMap.mpr ⟨b, hb, by rw [e]; rfl⟩
theorem of_pinsAt {fp : List Addr} {h : Heap} {p : Addr × Obj} (hp : p ∈ pinsAt fp h) : p.1 ∈ fp ∧ h.get? p.1 = some p.2 := by
  obtain ⟨b, hb, e⟩ := List.mem_filterMap.mp hp
  cases q : h.get? b with
  | none => rw [q] at e; cases e
  | some o =>
    rw [q] at e
    have e' : (b, o) = p := Option.some.inj e
    subst e'
    exact ⟨hb, q⟩
theorem Inv.pinned {pins : List (Addr × Obj)} {σ : St} {H : Hp} {s : Shared} {fp : List Addr} (I : Inv X pins σ H s) (hf : ∀ b ∈ fp, FpOk X pins H b) (ho : ∀ b ∈ fp, ∃ o, s.heap.get? b = some o ∧ ∀ v, o.data ≠ .cell v) : Inv X (pins ++ pinsAt fp s.heap) σ H s :=
  I.pins_of fun p hp => (List.mem_append.mp hp).elim (fun z => I.pin p (List.mem_append_right _ z)) fun z => by
    obtain ⟨hb, e⟩ := of_pinsAt z
    obtain ⟨f0, f1, f2, _⟩ := hf p.1 hb
    obtain ⟨o, e', d⟩ := ho p.1 hb
    rw [e] at e'; cases e'
    exact ⟨e, f0, f1, f2, d⟩
theorem Inv.unpinned {pins pl : List (Addr × Obj)} {σ : St} {H : Hp} {s : Shared} (I : Inv X (pins ++ pl) σ H s) : Inv X pins σ H s := I.pins_of fun p hp => I.pin p (List.mem_append_right _ (List.mem_append_left _ hp))
theorem ps_for {iter : Expr} {body : List Stmt} {wi : TI} {g : TG} {tb : TS} {pos : Pos} (hp : PassesOwn (model X.prog X.w) X.A X.env X.xe) (hc : X.calm = true) (hi : PI X tg iter wi) (hg : PG X tg g) (hb : PSs X body tb)
    (hs : ∀ x, foldedSetIterable iter X.env x = pure x := by intro _; rfl) : PS X (.For tg iter body [] pos) (tFor wi g tb) := by
  intro pins s σ H D I h
  refine wpAny_For (thn (hi pins s σ H _ I h) fun v s1 h1 => thn h1 fun itv s2 h2 => ?_) hs
  obtain ⟨it, fp, tn, J, H2, e, I2, T, st2, f2, W, ⟨m0, w0⟩, turn⟩ := h2
  subst e
  -- what stays true of the iterator's objects through the loop
  have stat : ∀ {H' : Hp}, (∀ b ∈ fp, H' b = none) → ∀ b ∈ fp, FpOk X pins H' b := fun hn b hb => ⟨hn b hb, (f2 b hb).2⟩
  refine codeAny_forLoop_any (fun n s' => ∃ i σ' H', Inv X pins σ' H' s' ∧ tn i s'.heap ∧ (∀ b ∈ fp, H' b = none) ∧ W i n σ' H') ?_ m0 ⟨0, σ, H2, I2, st2, fun b hb => (f2 b hb).1, w0⟩
  rintro n s3 ⟨i, σ3, H3, I3, st3, fr3, w3⟩
  rcases turn i n σ3 H3 w3 with ⟨stop, qn⟩ | ⟨go, N, hN, step⟩
  · refine wpAny_passesOwn hp (thn (T.done X rfl rfl rfl hc i pins s3 σ3 H3 X.xe I3 (stat fr3) st3 stop) fun r s4 ⟨hr, I4⟩ => ?_)
    subst hr
    exact wpAny_execs_nil ⟨σ3, H3, I4, qn⟩
  · refine wpAny_passesOwn hp (thn (T.item X rfl rfl rfl hc i pins s3 σ3 H3 X.xe I3 (stat fr3) st3 go) fun r s4 ⟨u, hr, h4⟩ => ?_)
    subst hr
    refine wpAny_passesOwn hp (thn h4 fun _ s5 ⟨x, H5, I5, r5, y5, st5, fr5⟩ => ?_)
    have I5' := I5.pinned (stat fr5) (T.obj _ _ st5)
    refine wpAny_passesOwn hp (thn (hg _ s5 σ3 H5 x u _ I5' r5 (step x H5 y5)) fun _ s6 ⟨σ6, H6, I6, q6⟩ => ?_)
    refine wpAny_passesOwn hp (thn (hb _ s6 σ6 H6 _ I6 q6) fun f s7 q7 => ?_)
    have again : ∀ {σ7 : St} {H7 : Hp}, Inv X (pins ++ pinsAt fp s5.heap) σ7 H7 s7 → N σ7 H7 → ∃ m, m < n ∧ ∃ i σ' H', Inv X pins σ' H' s7 ∧ tn i s7.heap ∧ (∀ b ∈ fp, H' b = none) ∧ W i m σ' H' := fun {σ7 H7} I7 n7 => by
      obtain ⟨m', hm, w7⟩ := hN σ7 H7 n7
      refine ⟨m', hm, i + 1, σ7, H7, I7.unpinned, T.keep _ _ _ st5 fun b hb o e => (I7.pin (b, o) (List.mem_append_right _ (List.mem_append_right _ (mem_pinsAt hb e)))).1, fun b hb => ?_, w7⟩
      obtain ⟨o, e, d⟩ := T.obj _ _ st5 b hb
      exact (I7.pin (b, o) (List.mem_append_right _ (List.mem_append_right _ (mem_pinsAt hb e)))).2.1
    cases f with
    | next => obtain ⟨σ7, H7, I7, n7⟩ := q7; exact again I7 n7
    | cont => obtain ⟨σ7, H7, I7, n7⟩ := q7; exact again I7 n7
    | brk => obtain ⟨σ7, H7, I7, q7⟩ := q7; exact ⟨σ7, H7, I7.unpinned, q7⟩
    | ret v => obtain ⟨x7, σ7, H7, I7, r7, q7⟩ := q7; exact ⟨x7, σ7, H7, I7.unpinned, r7, q7⟩
end
end L2
namespace L2
open PySem PySem.Spec PyProof.Rows
abbrev R2 := V → V → Hp → VK → Prop
def OpR (X : Cx) (f : Value → Value → Sem Value) (r : R2) : Prop :=
  ∀ (pins : List (Addr × Obj)) (s : Shared) (σ : St) (H : Hp) (x y : V) (v u : Value) (Q : VK), Inv X pins σ H s → RelV x v → RelV y u → r x y H Q →
    wpAny (model X.prog X.w) X.A (f v u) (EP X pins σ Q) X.xe s
def UnR (X : Cx) (f : Value → Sem Value) (r : V → Hp → VK → Prop) : Prop :=
  ∀ (pins : List (Addr × Obj)) (s : Shared) (σ : St) (H : Hp) (x : V) (v : Value) (Q : VK), Inv X pins σ H s → RelV x v → r x H Q →
    wpAny (model X.prog X.w) X.A (f v) (EP X pins σ Q) X.xe s
def CallR (X : Cx) (f : Value) (r : List V → Hp → VK → Prop) : Prop :=
  ∀ (pins : List (Addr × Obj)) (s : Shared) (σ : St) (H : Hp) (xs : List V) (us : List Value) (Q : VK), Inv X pins σ H s → Vals xs us → r xs H Q →
    wpAny (model X.prog X.w) X.A (call f us) (EP X pins σ Q) X.xe s
def tOp (r : R2) (ta tb : TE) : TE := fun σ H Q => ta σ H fun x H1 => tb σ H1 fun y H2 => r x y H2 Q
def tUn (r : V → Hp → VK → Prop) (ta : TE) : TE := fun σ H Q => ta σ H fun x H1 => r x H1 Q
def rI (C : Int → Int → Prop) (g : Int → Int → V) : R2 := fun x y H Q => ∃ i j, x = .int i ∧ y = .int j ∧ C i j ∧ Q (g i j) H
def rI0 (g : Int → Int → V) : R2 := fun x y H Q => ∃ i j, x = .int i ∧ y = .int j ∧ Q (g i j) H
def rU (g : Int → V) : V → Hp → VK → Prop := fun x H Q => ∃ i, x = .int i ∧ Q (g i) H
section
variable {X : Cx} {a b c : Expr} {ta tb tc : TE} {pos : Pos}
theorem binT (ha : PE X a ta) (hb : PE X b tb) {pins : List (Addr × Obj)} {s : Shared} {σ : St} {H : Hp} {R : V → V → Hp → Prop} (I : Inv X pins σ H s)
    (h : ta σ H fun x H1 => tb σ H1 fun y H2 => R x y H2) {Q : Value → Shared → Prop} {f : Value → Value → Sem Value}
    (hf : ∀ v u s2 x y H2, Inv X pins σ H2 s2 → RelV x v → RelV y u → R x y H2 → wpAny (model X.prog X.w) X.A (f v u) Q X.xe s2) :
    wpAny (model X.prog X.w) X.A (eval a X.env) (fun v s₁ => wpAny (model X.prog X.w) X.A (eval b X.env) (fun u s₂ => wpAny (model X.prog X.w) X.A (f v u) Q X.xe s₂) X.xe s₁) X.xe s := by
  refine thn (ha pins s σ H _ I h) fun v s1 ⟨x, H1, I1, r1, q1⟩ => ?_
  refine thn (hb pins s1 σ H1 _ I1 q1) fun u s2 ⟨y, H2, I2, r2, q2⟩ => ?_
  exact hf v u s2 x y H2 I2 r1 r2 q2
theorem pe_op {op : Operator} {r : R2} (ho : OpR X (binaryOp op) r) (ha : PE X a ta) (hb : PE X b tb) : PE X (.BinOp a op b pos) (tOp r ta tb) := by
  intro pins s σ H Q I h
  exact wpAny_BinOp (binT ha hb I h fun v u s2 x y H2 I2 rx ry q => ho pins s2 σ H2 x y v u Q I2 rx ry q)
theorem pe_un {op : UnaryOp} {r : V → Hp → VK → Prop} (ho : UnR X (unaryOp op) r) (ha : PE X a ta) : PE X (.UnaryOp op a pos) (tUn r ta) := by
  intro pins s σ H Q I h
  exact UnaryOp_ (thn (ha pins s σ H _ I h) fun v s1 ⟨x, H1, I1, r1, q1⟩ => ho pins s1 σ H1 x v Q I1 r1 q1)
theorem opI {f : Value → Value → Sem Value} {C : Int → Int → Prop} {g : Int → Int → Int}
    (rule : ∀ (i j : Int) (t u : Tok) (s : Shared) (Q : Value → Shared → Prop) (E : Value → Shared → Prop), C i j → Q (.int (g i j) s.toks) { s with toks := s.toks + 1 } → wpAny (model X.prog X.w) X.A (f (.int i t) (.int j u)) Q E s) :
    OpR X f (rI C fun i j => .int (g i j)) := by
  intro pins s σ H x y v u Q I rx ry h
  obtain ⟨i, j, rfl, rfl, hc, q⟩ := h
  obtain ⟨t, rfl⟩ := rx
  obtain ⟨t', rfl⟩ := ry
  exact rule i j t t' s _ _ hc ⟨.int (g i j), H, I.tok _, ⟨_, rfl⟩, q⟩
theorem opI0 {f : Value → Value → Sem Value} {g : Int → Int → Int}
    (rule : ∀ (i j : Int) (t u : Tok) (s : Shared) (Q : Value → Shared → Prop) (E : Value → Shared → Prop), Q (.int (g i j) s.toks) { s with toks := s.toks + 1 } → wpAny (model X.prog X.w) X.A (f (.int i t) (.int j u)) Q E s) :
    OpR X f (rI0 fun i j => .int (g i j)) := by
  intro pins s σ H x y v u Q I rx ry h
  obtain ⟨i, j, rfl, rfl, q⟩ := h
  obtain ⟨t, rfl⟩ := rx
  obtain ⟨t', rfl⟩ := ry
  exact rule i j t t' s _ _ ⟨.int (g i j), H, I.tok _, ⟨_, rfl⟩, q⟩
theorem opB0 {f : Value → Value → Sem Value} {g : Int → Int → Bool}
    (rule : ∀ (i j : Int) (t u : Tok) (s : Shared) (Q : Value → Shared → Prop) (E : Value → Shared → Prop), Q (.bool (g i j)) s → wpAny (model X.prog X.w) X.A (f (.int i t) (.int j u)) Q E s) :
    OpR X f (rI0 fun i j => .bl (g i j)) := by
  intro pins s σ H x y v u Q I rx ry h
  obtain ⟨i, j, rfl, rfl, q⟩ := h
  obtain ⟨t, rfl⟩ := rx
  obtain ⟨t', rfl⟩ := ry
  exact rule i j t t' s _ _ ⟨.bl (g i j), H, I, rfl, q⟩
def CDiv (i j : Int) : Prop := 0 < j ∧ j < 1073741824
def CPow (i j : Int) : Prop := 0 ≤ j ∧ j ≤ 1000000 ∧ i.natAbs < 2 ^ 64
def CMul (i j : Int) : Prop := (-(2 ^ 64) < i ∧ i < 2 ^ 64) ∨ (-(2 ^ 64) < j ∧ j < 2 ^ 64)
theorem CMul.ok {i j : Int} (h : CMul i j) : IntMulOk i j := by
  rcases h with ⟨h1, h2⟩ | ⟨h1, h2⟩
  · exact .of_left (intBits_le_64 h1 h2)
  · exact .of_right (intBits_le_64 h1 h2)
theorem op_add : OpR X (binaryOp .Add) (rI0 fun i j => .int (i + j)) := opI0 fun _ _ _ _ _ _ _ q => add_int q
theorem op_sub : OpR X (binaryOp .Sub) (rI0 fun i j => .int (i - j)) := opI0 fun _ _ _ _ _ _ _ q => sub_int q
theorem op_mul : OpR X (binaryOp .Mult) (rI CMul fun i j => .int (i * j)) := opI fun _ _ _ _ _ _ _ hc q => mul_int q hc.ok
theorem op_fdiv : OpR X (binaryOp .FloorDiv) (rI CDiv fun i j => .int (i / j)) := opI fun i j _ _ _ _ _ hc q => by
  have h1 : (0 : Int) < j := hc.1
  have h2 : j < 1073741824 := hc.2
  exact floordiv_int (by omega) (by rw [Int.fdiv_eq_ediv_of_nonneg i (by omega)]; exact q) (.inl (PyProof.noPylong_small (by omega)))
theorem op_mod : OpR X (binaryOp .Mod) (rI (fun _ j => 0 < j) fun i j => .int (i % j)) := opI fun i j _ _ _ _ _ hc q => by
  have h1 : (0 : Int) < j := hc
  exact mod_int' (by omega) (by rw [Int.fmod_eq_emod_of_nonneg i (by omega)]; exact q)
theorem op_pow : OpR X (binaryOp .Pow) (rI CPow fun i j => .int (i ^ j.toNat)) := opI fun _ _ _ _ _ _ _ hc q => pow_int_small hc.1 hc.2.1 hc.2.2 q
theorem unI {f : Value → Sem Value} {g : Int → Int}
    (rule : ∀ (i : Int) (t : Tok) (s : Shared) (Q : Value → Shared → Prop) (E : Value → Shared → Prop), Q (.int (g i) s.toks) { s with toks := s.toks + 1 } → wpAny (model X.prog X.w) X.A (f (.int i t)) Q E s) :
    UnR X f (rU fun i => .int (g i)) := by
  intro pins s σ H x v Q I rx h
  obtain ⟨i, rfl, q⟩ := h
  obtain ⟨t, rfl⟩ := rx
  exact rule i t s _ _ ⟨.int (g i), H, I.tok _, ⟨_, rfl⟩, q⟩
theorem un_neg : UnR X (unaryOp .USub) (rU fun i => .int (-i)) := unI fun _ _ _ _ _ q => neg_int q
end
def scal : V → V → Bool
  | .non, .non => true | .non, .int _ => true | .int _, .non => true | .non, .bl _ => true | .bl _, .non => true | .non, .str _ => true | .str _, .non => true
  | .int _, .int _ => true | .bl _, .bl _ => true | .str _, .str _ => true | .byt _, .byt _ => true
  | .int _, .str _ => true | .str _, .int _ => true | .bl _, .str _ => true | .str _, .bl _ => true
  | _, _ => false
def rEq : R2 := fun x y H Q => scal x y = true ∧ Q (.bl (decide (x = y))) H
def rNe : R2 := fun x y H Q => scal x y = true ∧ Q (.bl (!decide (x = y))) H
theorem dec_int {i j : Int} : decide (V.int i = V.int j) = (i == j) := by
  rw [Bool.eq_iff_iff]
  simp
theorem dec_bl {i j : Bool} : decide (V.bl i = V.bl j) = (i == j) := by
  rw [Bool.eq_iff_iff]
  simp
theorem dec_str {i j : Str} : decide (V.str i = V.str j) = (i == j) := by
  rw [Bool.eq_iff_iff]
  simp
theorem dec_byt {i j : Array UInt8} : decide (V.byt i = V.byt j) = (i.toList == j.toList) := by
  rw [Bool.eq_iff_iff]
  cases i
  cases j
  simp
section
variable {X : Cx} {a b c : Expr} {ta tb tc : TE} {pos : Pos}
theorem fin_bl {pins : List (Addr × Obj)} {σ : St} {H : Hp} {s : Shared} {Q : VK} {k k' : Bool} (I : Inv X pins σ H s) (q : Q (.bl k) H) (e : k = k') : EP X pins σ Q (.bool k') s := by
  subst e
  exact ⟨.bl k, H, I, rfl, q⟩
theorem op_eq : OpR X (compareOp .Eq) rEq := by
  intro pins s σ H x y v u Q I rx ry h
  obtain ⟨hs, q⟩ := h
  cases x with
  | non =>
    cases rx
    cases y with
    | non => cases ry; exact PySem.EqNone.eq_none_none (fin_bl I q (by simp))
    | bl j => cases ry; exact PySem.EqNone.eq_none_bool (fin_bl I q (by simp))
    | int j => obtain ⟨t', rfl⟩ := ry; exact PySem.EqNone.eq_none_int (fin_bl I q (by simp))
    | str j => obtain ⟨t', rfl⟩ := ry; exact PySem.EqNone.eq_none_str (fin_bl I q (by simp))
    | _ => exact absurd (show false = true from hs) Bool.false_ne_true
  | bl i =>
    cases rx
    cases y with
    | non => cases ry; exact PySem.EqNone.eq_bool_none (fin_bl I q (by simp))
    | bl j => cases ry; exact eq_bool (fin_bl I q dec_bl)
    | str j => obtain ⟨t', rfl⟩ := ry; exact PySem.EqMixed.eq_bool_str (fin_bl I q (by simp))
    | _ => exact absurd (show false = true from hs) Bool.false_ne_true
  | int i =>
    obtain ⟨t, rfl⟩ := rx
    cases y with
    | non => cases ry; exact PySem.EqNone.eq_int_none (fin_bl I q (by simp))
    | int j => obtain ⟨t', rfl⟩ := ry; exact eq_int (fin_bl I q dec_int)
    | str j => obtain ⟨t', rfl⟩ := ry; exact PySem.EqMixed.eq_int_str (fin_bl I q (by simp))
    | _ => exact absurd (show false = true from hs) Bool.false_ne_true
  | str i =>
    obtain ⟨t, rfl⟩ := rx
    cases y with
    | non => cases ry; exact PySem.EqNone.eq_str_none (fin_bl I q (by simp))
    | bl j => cases ry; exact PySem.EqMixed.eq_str_bool (fin_bl I q (by simp))
    | int j => obtain ⟨t', rfl⟩ := ry; exact PySem.EqMixed.eq_str_int (fin_bl I q (by simp))
    | str j => obtain ⟨t', rfl⟩ := ry; exact eq_str (fin_bl I q dec_str)
    | _ => exact absurd (show false = true from hs) Bool.false_ne_true
  | byt i =>
    obtain ⟨t, rfl⟩ := rx
    cases y with
    | byt j => obtain ⟨t', rfl⟩ := ry; exact PySem.W.eq_bytes (fin_bl I q dec_byt)
    | _ => exact absurd (show false = true from hs) Bool.false_ne_true
  | _ => cases y <;> exact absurd (show false = true from hs) Bool.false_ne_true
theorem op_ne : OpR X (compareOp .NotEq) rNe := by
  intro pins s σ H x y v u Q I rx ry h
  obtain ⟨hs, q⟩ := h
  cases x with
  | non =>
    cases rx
    cases y with
    | non => cases ry; exact PySem.EqNone.ne_none_none (fin_bl I q (by simp))
    | bl j => cases ry; exact PySem.EqNone.ne_none_bool (fin_bl I q (by simp))
    | int j => obtain ⟨t', rfl⟩ := ry; exact PySem.EqNone.ne_none_int (fin_bl I q (by simp))
    | str j => obtain ⟨t', rfl⟩ := ry; exact PySem.EqNone.ne_none_str (fin_bl I q (by simp))
    | _ => exact absurd (show false = true from hs) Bool.false_ne_true
  | bl i =>
    cases rx
    cases y with
    | non => cases ry; exact PySem.EqNone.ne_bool_none (fin_bl I q (by simp))
    | bl j => cases ry; exact ne_bool (fin_bl I q (congrArg not dec_bl))
    | str j => obtain ⟨t', rfl⟩ := ry; exact PySem.EqMixed.ne_bool_str (fin_bl I q (by simp))
    | _ => exact absurd (show false = true from hs) Bool.false_ne_true
  | int i =>
    obtain ⟨t, rfl⟩ := rx
    cases y with
    | non => cases ry; exact PySem.EqNone.ne_int_none (fin_bl I q (by simp))
    | int j => obtain ⟨t', rfl⟩ := ry; exact ne_int (fin_bl I q (congrArg not dec_int))
    | str j => obtain ⟨t', rfl⟩ := ry; exact PySem.EqMixed.ne_int_str (fin_bl I q (by simp))
    | _ => exact absurd (show false = true from hs) Bool.false_ne_true
  | str i =>
    obtain ⟨t, rfl⟩ := rx
    cases y with
    | non => cases ry; exact PySem.EqNone.ne_str_none (fin_bl I q (by simp))
    | bl j => cases ry; exact PySem.EqMixed.ne_str_bool (fin_bl I q (by simp))
    | int j => obtain ⟨t', rfl⟩ := ry; exact PySem.EqMixed.ne_str_int (fin_bl I q (by simp))
    | str j => obtain ⟨t', rfl⟩ := ry; exact ne_str (fin_bl I q (congrArg not dec_str))
    | _ => exact absurd (show false = true from hs) Bool.false_ne_true
  | byt i =>
    obtain ⟨t, rfl⟩ := rx
    cases y with
    | byt j => obtain ⟨t', rfl⟩ := ry; exact PySem.W.ne_bytes (fin_bl I q (congrArg not dec_byt))
    | _ => exact absurd (show false = true from hs) Bool.false_ne_true
  | _ => cases y <;> exact absurd (show false = true from hs) Bool.false_ne_true
theorem op_lt : OpR X (compareOp .Lt) (rI0 fun i j => .bl (decide (i < j))) := opB0 fun _ _ _ _ _ _ _ q => lt_int q
theorem op_le : OpR X (compareOp .LtE) (rI0 fun i j => .bl (decide (i ≤ j))) := opB0 fun _ _ _ _ _ _ _ q => le_int q
theorem op_gt : OpR X (compareOp .Gt) (rI0 fun i j => .bl (decide (j < i))) := opB0 fun _ _ _ _ _ _ _ q => gt_int q
theorem op_ge : OpR X (compareOp .GtE) (rI0 fun i j => .bl (decide (j ≤ i))) := opB0 fun _ _ _ _ _ _ _ q => ge_int q
theorem op_isN : OpR X (compareOp .Is) (fun x y H Q => y = .non ∧ Q (.bl (decide (x = .non))) H) := by
  intro pins s σ H x y v u Q I rx ry h
  obtain ⟨rfl, q⟩ := h
  cases ry
  refine is_none_gen (fin_bl I q ?_)
  cases x <;> first
    | (cases rx; rfl)
    | (obtain ⟨t, rfl⟩ := rx; rfl)
theorem op_notN : OpR X (compareOp .IsNot) (fun x y H Q => y = .non ∧ Q (.bl (!decide (x = .non))) H) := by
  intro pins s σ H x y v u Q I rx ry h
  obtain ⟨rfl, q⟩ := h
  cases ry
  refine isnot_none_gen (fin_bl I q ?_)
  cases x <;> first
    | (cases rx; rfl)
    | (obtain ⟨t, rfl⟩ := rx; rfl)
theorem nomark (b : Expr) {op : CmpOp} (h : op ≠ .In := by decide) (h2 : op ≠ .NotIn := by decide) : behindInMarks op b = false := by
  have e1 : (op == CmpOp.In) = false := by cases op <;> first | rfl | exact absurd rfl h
  have e2 : (op == CmpOp.NotIn) = false := by cases op <;> first | rfl | exact absurd rfl h2
  cases b <;> simp [behindInMarks, e1, e2]
theorem pe_cmpR {op : CmpOp} {r : R2} (ho : OpR X (compareOp op) r) (ha : PE X a ta) (hb : PE X b tb) (hm : behindInMarks op b = false) : PE X (.Compare a [op] [b] pos) (tOp r ta tb) := by
  intro pins s σ H Q I h
  exact wpAny_Compare1 (binT ha hb I h fun v u s2 x y H2 I2 rx ry q => ho pins s2 σ H2 x y v u Q I2 rx ry q) hm
def tTest (t : TE) : TT := fun σ H Q => t σ H fun x H' => ∃ k, x = .bl k ∧ Q k H'
theorem pt_cmpR {op : CmpOp} {r : R2} (ho : OpR X (compareOp op) r) (ha : PE X a ta) (hb : PE X b tb) (hm : behindInMarks op b = false) : PT X (.Compare a [op] [b] pos) (tTest (tOp r ta tb)) := by
  intro pins s σ H Q I h
  refine wpAny_isTrue_Compare1 (thn (ha pins s σ H _ I h) fun v s1 ⟨x, H1, I1, r1, q1⟩ => thn (hb pins s1 σ H1 _ I1 q1) fun u s2 ⟨y, H2, I2, r2, q2⟩ =>
    thn (ho pins s2 σ H2 x y v u _ I2 r1 r2 q2) fun c s3 ⟨z, H3, I3, r3, k, e, q3⟩ => ?_) hm
  subst e
  cases r3
  exact wpAny_truthy_bool ⟨H3, I3, q3⟩
theorem line63 : (sizeLine : Nat) < 2 ^ 63 := by rw [sizeLine_eq]; decide
theorem op_add_str : OpR X (binaryOp .Add) (fun x y H Q => ∃ i j, x = .str i ∧ y = .str j ∧ i.length + j.length ≤ sizeLine ∧ Q (.str (i ++ j)) H) := by
  intro pins s σ H x y v u Q I rx ry h
  obtain ⟨i, j, rfl, rfl, hz, q⟩ := h
  obtain ⟨t, rfl⟩ := rx
  obtain ⟨t', rfl⟩ := ry
  exact add_str (fun t' tk => ⟨.str (i ++ j), H, I.tok _, ⟨_, rfl⟩, q⟩) hz
theorem vals1 {x : V} {us : List Value} (r : Vals [x] us) : ∃ u, us = [u] ∧ RelV x u := by
  cases r with
  | cons r1 r2 => cases r2; exact ⟨_, rfl, r1⟩
theorem vals2 {x y : V} {us : List Value} (r : Vals [x, y] us) : ∃ u w', us = [u, w'] ∧ RelV x u ∧ RelV y w' := by
  cases r with
  | cons r1 r2 =>
    cases r2 with
    | cons r3 r4 => cases r4; exact ⟨_, _, rfl, r1, r3⟩
theorem call_abs : CallR X (.builtin "abs") (fun xs H Q => ∃ i, xs = [.int i] ∧ Q (.int (if i < 0 then -i else i)) H) := by
  intro pins s σ H xs us Q I r h
  obtain ⟨i, rfl, q⟩ := h
  obtain ⟨u, rfl, t, rfl⟩ := vals1 r
  exact call_abs_int fun u tk => ⟨.int (if i < 0 then -i else i), H, I.tok _, ⟨_, rfl⟩, q⟩
theorem call_max2 (hc : X.calm = true) : CallR X (.builtin "max") (fun xs H Q => ∃ i j, xs = [.int i, .int j] ∧ Q (.int (if j > i then j else i)) H) := by
  intro pins s σ H xs us Q I r h
  obtain ⟨i, j, rfl, q⟩ := h
  obtain ⟨u, w', rfl, ⟨t, rfl⟩, ⟨t', rfl⟩⟩ := vals2 r
  refine max_two_ints (I.ok.hd hc) fun h' tk k => ⟨_, H, I.kept k, ?_, q⟩
  by_cases hj : j > i
  · rw [if_pos hj, if_pos hj]; exact ⟨_, rfl⟩
  · rw [if_neg hj, if_neg hj]; exact ⟨_, rfl⟩
theorem call_min2 (hc : X.calm = true) : CallR X (.builtin "min") (fun xs H Q => ∃ i j, xs = [.int i, .int j] ∧ Q (.int (if j < i then j else i)) H) := by
  intro pins s σ H xs us Q I r h
  obtain ⟨i, j, rfl, q⟩ := h
  obtain ⟨u, w', rfl, ⟨t, rfl⟩, ⟨t', rfl⟩⟩ := vals2 r
  refine min_two_ints (I.ok.hd hc) fun h' tk k => ⟨_, H, I.kept k, ?_, q⟩
  by_cases hj : j < i
  · rw [if_pos hj, if_pos hj]; exact ⟨_, rfl⟩
  · rw [if_neg hj, if_neg hj]; exact ⟨_, rfl⟩
theorem call_int1 : CallR X (.type "int") (fun xs H Q => (∃ i, xs = [.int i] ∧ Q (.int i) H) ∨ ∃ k, xs = [.bl k] ∧ Q (.int (if k then 1 else 0)) H) := by
  intro pins s σ H xs us Q I r h
  rcases h with ⟨i, rfl, q⟩ | ⟨k, rfl, q⟩
  · obtain ⟨u, rfl, t, rfl⟩ := vals1 r
    exact call_int_int ⟨.int i, H, I, ⟨_, rfl⟩, q⟩
  · obtain ⟨u, rfl, r1⟩ := vals1 r
    cases r1
    exact call_int_bool ⟨.int (if k then 1 else 0), H, I.tok _, ⟨_, rfl⟩, q⟩
theorem call_divmod : CallR X (.builtin "divmod") (fun xs H Q => ∃ i j, xs = [.int i, .int j] ∧ CDiv i j ∧ ∀ p, H p = none → Q (.ref p) (upd H p (.tup [.int (i / j), .int (i % j)]))) := by
  intro pins s σ H xs us Q I r h
  obtain ⟨i, j, rfl, ⟨h1, h2⟩, q⟩ := h
  obtain ⟨u, w', rfl, ⟨t, rfl⟩, ⟨t', rfl⟩⟩ := vals2 r
  refine divmod_int (by omega) ?_ (.inl (PyProof.noPylong_small (by omega)))
  rw [Int.fdiv_eq_ediv_of_nonneg i (by omega), Int.fmod_eq_emod_of_nonneg i (by omega)]
  have hn : H s.heap.objs.size = none := I.hok.fresh (Nat.le_refl _)
  refine ⟨.ref s.heap.objs.size, _, ?_, rfl, q _ hn⟩
  refine I.laid (fun b o e => Heap.get?_push_of_some _ e) (Nat.le_refl _) ⟨by simp only [List.length_cons, List.length_nil]; rw [sizeLine_eq]; decide, [.int (i / j) s.toks, .int (i % j) (s.toks + 1)], .cons ⟨_, rfl⟩ (.cons ⟨_, rfl⟩ .nil), ?_⟩
  exact ⟨_, Heap.get?_push_size s.heap rfl, rfl, 0, rfl⟩
end
end L2
namespace L2
open PySem PySem.Spec PyProof.Rows
structure ObjM (h : Heap) (x dx C : Addr) (mA : Str → Option Value) : Prop where
  obj : h.get? x = some (PySem.W.instObj C dx)
  ns : h.Ns1 dx mA
  ne : dx ≠ x
theorem lookIn_ns {h : Heap} {dx : Addr} {mA : Str → Option Value} (n : h.Ns1 dx mA) : ∃ od, h.get? dx = some od ∧ ∀ name, PySem.W.lookIn name od = some (mA name) := by
  obtain ⟨o, es, ep, ho, hd, hk, _, hm⟩ := n
  refine ⟨o, ho, fun name => ?_⟩
  have e := hm name
  unfold nsFind findBy at e
  rw [← Array.find?_toList] at e
  unfold PySem.W.lookIn
  rw [hd]
  dsimp only
  split
  · rename_i y q
    rw [q] at e
    exact congrArg some e
  · rename_i q
    rw [q] at e
    have a : es.toList.any (·.refKey) = false := by
      rw [List.any_eq_false]
      intro y hy
      obtain ⟨z, t, hkey⟩ := hk y (Array.mem_toList_iff.mp hy)
      simp [DictEntry.refKey, hkey]
    have a' : ¬ es.toList.any (·.refKey) = true := by rw [a]; exact Bool.false_ne_true
    rw [if_neg a']
    exact congrArg some e
theorem ObjM.look {h : Heap} {x dx C : Addr} {mA : Str → Option Value} (I : ObjM h x dx C mA) : ∃ od, PySem.W.InstAt h x (PySem.W.instObj C dx) C (some od) ∧ ∀ name, PySem.W.lookIn name od = some (mA name) :=
  let ⟨od, ho, hl⟩ := lookIn_ns I.ns
  ⟨od, ⟨I.obj, rfl, rfl, ho⟩, hl⟩
section
variable {prog : Program} {w : World} {A : Around} {E : Value → Shared → Prop} {s : Shared} {K : PySem.W.Frag} {x dx C f : Addr} {mA : Str → Option Value} {name : Str} {v : Value}
theorem get_map {expr : Bool} {Q : Value → Shared → Prop} (X : K.In s.heap) (I : ObjM s.heap x dx C mA) (hg : PySem.W.plainGet K C name = true) (hh : PySem.W.hasDictIn K C = true)
    (ha : PySem.W.findIn K (.ref C) name = some none) (hv : mA name = some v) (hv' : PySem.W.handedIn v = true) (h : Q v { s with toks := s.toks + 1 }) :
    wpAny (model prog w) A (getAttr (.ref x) name expr) Q E s := by
  obtain ⟨od, J, hl⟩ := I.look
  exact PySem.W.get_value X J (PySem.W.plainGet_of hg).1 (PySem.W.findObj_own hh ha rfl (by rw [hl, hv])) hv' h
theorem set_map {ns : List Str} {Q : Unit → Shared → Prop} (X : K.In s.heap) (I : ObjM s.heap x dx C mA)
    (hs : PySem.W.findIn K (.ref C) "__setattr__" = some (some (.builtin "object.__setattr__"))) (hp : PySem.W.plainOver K C = true) (ht : PySem.W.takerIn K C name = some none) (hh : PySem.W.hasDictIn K C = true)
    (hw : PySem.Within mA ns) (hsz : ns.length ≤ sizeLine)
    (h : ∀ h', ObjM h' x dx C (fun y => if y = name then some v else mA y) → Heap.SameBut dx s.heap h' → Q () { s with heap := h', toks := s.toks + 2 }) :
    wpAny (model prog w) A (setAttr (.ref x) name v) Q E s := by
  obtain ⟨od, J, hl⟩ := I.look
  refine PySem.W.set_plain X J hs (PySem.W.osa_open (s := { s with toks := s.toks + 1 }) (r := none) X J hp ht fun b => ?_)
  obtain ⟨cd, hc, hd'⟩ := PySem.W.any_some hh
  have hx : s.heap.get? x = some ⟨.ref C, some dx, .plain, #[]⟩ := I.obj
  refine wpAny_bind (wpAny_pure (wpAny_bind (wpAny_bind (wpAny_loadPart hx (wpAny_bind (PySem.W.Looks.here (s := { s with toks := s.toks + 1 }) (PySem.W.looks_clsIn X hc) ?_))))))
  rw [hd']
  refine wpAny_pure (a := some dx) (wpAny_bind (wpAny_pure (wpAny_bind ?_)))
  refine wpAny_nsSet1 (s := { s with toks := s.toks + 1 }) I.ns fun h' hn2 hs2 => ?_
  obtain ⟨oD, esD, epD, hoD, hdD, hcD⟩ := hn2.count (PySem.Within.cons name v hw)
  refine wpAny_bind (wpAny_lookBehind hoD (by rw [hdD]; exact pastItsLine_dict (Nat.le_trans hcD (by rw [List.length_cons]; omega))) ?_)
  exact wpAny_pure (h _ ⟨(hs2.2 _ (Ne.symm I.ne)).trans I.obj, hn2, I.ne⟩ hs2)
theorem make_map {R : Result → Shared → Prop} {vs : List Value} {kw : List (Str × Value)} (X : K.In s.heap) (hm : PySem.W.makesIn K C = true)
    (hi : PySem.W.findIn K (.ref C) "__init__" = some (some (.ref f))) (hf : PySem.W.typeIn K (.ref f) = some (.type "function"))
    (h : codeAny (model prog w) (A.under (.builtin "type.__call__" ⟨.ref C :: vs, kw⟩)) (.call (.ref f) ⟨.ref (s.heap.objs.size + 1) :: vs, kw⟩) (PySem.W.InitBack (s.heap.objs.size + 1) R)
      { s with heap := (s.heap.push PySem.W.emptyDict).push (PySem.W.instObj C s.heap.objs.size) }) :
    codeAny (model prog w) A (.call (.ref C) ⟨vs, kw⟩) R s := by
  obtain ⟨hh, g, d, t, os⟩ := s
  exact PySem.W.make_core (PySem.W.makes_of X hm) (PySem.W.looks_findIn X hi) (fun self => PySem.W.bind_fn X self hf) (.inl rfl) h
end
def putF (f : Str) (v : V) : List (Str × V) → List (Str × V)
  | [] => [(f, v)]
  | (g, x) :: r => if g = f then (g, v) :: r else (g, x) :: putF f v r
theorem lookup_putF (f g : Str) (v : V) : ∀ fs : List (Str × V), (putF f v fs).lookup g = if g = f then some v else fs.lookup g
  | [] => by
    show List.lookup g [(f, v)] = _
    by_cases h : g = f
    · have hb : (g == f) = true := beq_iff_eq.mpr h
      simp only [List.lookup, hb, if_pos h]
    · have hb : (g == f) = false := beq_eq_false_iff_ne.mpr h
      simp only [List.lookup, hb, if_neg h]
  | (k, x) :: r => by
    have ih := lookup_putF f g v r
    rw [show putF f v ((k, x) :: r) = (if k = f then (k, v) :: r else (k, x) :: putF f v r) from rfl]
    by_cases hk : k = f
    · rw [if_pos hk]
      by_cases h : g = k
      · have hb : (g == k) = true := beq_iff_eq.mpr h
        simp only [List.lookup, hb, if_pos (h.trans hk)]
      · have hb : (g == k) = false := beq_eq_false_iff_ne.mpr h
        simp only [List.lookup, hb, if_neg (fun e : g = f => h (e.trans hk.symm))]
    · rw [if_neg hk]
      by_cases h : g = k
      · have hb : (g == k) = true := beq_iff_eq.mpr h
        simp only [List.lookup, hb, if_neg (fun e : g = f => hk (h.symm.trans e))]
      · have hb : (g == k) = false := beq_eq_false_iff_ne.mpr h
        simp only [List.lookup, hb]
        exact ih
theorem keys_putF (f : Str) (v : V) : ∀ fs : List (Str × V), f ∈ (putF f v fs).map (·.1) ∧ ∀ g, g ∈ fs.map (·.1) → g ∈ (putF f v fs).map (·.1)
  | [] => ⟨by simp [putF], fun g h => by simp at h⟩
  | (k, x) :: r => by
    obtain ⟨i1, i2⟩ := keys_putF f v r
    rw [show putF f v ((k, x) :: r) = (if k = f then (k, v) :: r else (k, x) :: putF f v r) from rfl]
    by_cases hk : k = f
    · rw [if_pos hk]
      subst hk
      exact ⟨by simp, fun g h => by simpa using h⟩
    · rw [if_neg hk]
      refine ⟨?_, fun g h => ?_⟩
      · rw [List.map_cons]
        exact List.mem_cons_of_mem _ i1
      · rw [List.map_cons] at h ⊢
        rcases List.mem_cons.mp h with e | e
        · exact List.mem_cons.mpr (.inl e)
        · exact List.mem_cons_of_mem _ (i2 g e)
theorem length_putF (f : Str) (v : V) : ∀ fs : List (Str × V), (putF f v fs).length ≤ fs.length + 1
  | [] => by simp [putF]
  | (k, x) :: r => by
    have ih := length_putF f v r
    rw [show putF f v ((k, x) :: r) = (if k = f then (k, v) :: r else (k, x) :: putF f v r) from rfl]
    by_cases hk : k = f
    · rw [if_pos hk, List.length_cons, List.length_cons]; omega
    · rw [if_neg hk, List.length_cons, List.length_cons]; omega
theorem RelO.some_of {v : V} {o : Option Value} (r : RelO (some v) o) : ∃ u, o = some u ∧ RelV v u := by
  cases o with
  | none => exact (show False from r).elim
  | some u => exact ⟨u, rfl, r⟩
theorem handed_of {v : V} {u : Value} (r : RelV v u) : PySem.W.handedIn u = true := by
  cases v with
  | non => cases (show u = Value.none from r); rfl
  | bl b => cases (show u = Value.bool b from r); rfl
  | int i => obtain ⟨t, e⟩ := (show ∃ t, u = Value.int i t from r); cases e; rfl
  | str x => obtain ⟨t, e⟩ := (show ∃ t, u = Value.str x t from r); cases e; rfl
  | byt b => obtain ⟨t, e⟩ := (show ∃ t, u = Value.bytes b t from r); cases e; rfl
  | flt b => obtain ⟨t, e⟩ := (show ∃ t, u = Value.float b t from r); cases e; rfl
  | ref a => cases (show u = Value.ref a from r); rfl
  | ty n => cases (show u = Value.type n from r); rfl
section
variable {P : Program} {w : World} {H H' : Hp} {h h' : Heap} {a C dx : Addr} {fs fs' : List (Str × V)}
theorem ins_get (hok : HOk P w H h) (e : H a = some (.ins C dx fs)) : ∃ mA, ObjM h a dx C mA ∧ (∀ f, RelO (fs.lookup f) (mA f)) ∧ PySem.Within mA (fs.map (·.1)) ∧ fs.length ≤ 1000 ∧ H dx = some (.own a) := by
  obtain ⟨d, z, ne, ob, mA, n, r, q⟩ := (show ObjOk P w H h a (.ins C dx fs) from hok a _ e)
  exact ⟨mA, ⟨ob, n, ne⟩, r, q, z, d⟩
end
structure Cls (K : PySem.W.Frag) (C : Addr) : Prop where
  pg : PySem.W.plainGet K C Str.empty = true
  hd : PySem.W.hasDictIn K C = true
  po : PySem.W.plainOver K C = true
  sa : PySem.W.findIn K (.ref C) "__setattr__" = some (some (.builtin "object.__setattr__"))
theorem Cls.get {K : PySem.W.Frag} {C : Addr} (c : Cls K C) (f : Str) : PySem.W.plainGet K C f = true := c.pg
def NoAttr (K : PySem.W.Frag) (C : Addr) (f : Str) : Prop := PySem.W.findIn K (.ref C) f = some none
theorem NoAttr.taker {K : PySem.W.Frag} {C : Addr} {f : Str} (n : NoAttr K C f) : PySem.W.takerIn K C f = some none := by
  unfold PySem.W.takerIn
  rw [show PySem.W.findIn K (.ref C) f = some none from n]
  rfl
section
variable {X : Cx} {pins : List (Addr × Obj)} {σ : St} {H : Hp} {s : Shared} {a C dx : Addr} {fs : List (Str × V)} {f : Str} {v : V} {A : Around} {E : Value → Shared → Prop}
theorem getattr_ok {b : Bool} {Q : Value → Shared → Prop} (I : Inv X pins σ H s) (e : H a = some (.ins C dx fs)) (c : Cls X.K C) (n : NoAttr X.K C f) (l : fs.lookup f = some v)
    (h : ∀ u s', Inv X pins σ H s' → RelV v u → Q u s') : wpAny (model X.prog X.w) A (getAttr (.ref a) f b) Q E s := by
  obtain ⟨mA, O, r, _, _, _⟩ := ins_get I.hok e
  obtain ⟨u, hu, ru⟩ := RelO.some_of (v := v) (o := mA f) (by rw [← l]; exact r f)
  exact get_map I.kIn O (c.get f) c.hd n hu (handed_of ru) (h u _ (I.tok _) ru)
theorem setattr_ok {y : V} {u : Value} {Q : Unit → Shared → Prop} (I : Inv X pins σ H s) (e : H a = some (.ins C dx fs)) (c : Cls X.K C) (n : NoAttr X.K C f) (hl : fs.length < 1000) (ry : RelV y u)
    (h : ∀ s', Inv X pins σ (upd H a (.ins C dx (putF f y fs))) s' → Q () s') : wpAny (model X.prog X.w) A (setAttr (.ref a) f u) Q E s := by
  obtain ⟨mA, O, r, wi, _, ho⟩ := ins_get I.hok e
  have hz : (fs.map (·.1)).length ≤ sizeLine := by rw [List.length_map, sizeLine_eq]; omega
  refine set_map I.kIn O c.sa c.po n.taker c.hd wi hz fun h' O' sb => h _ ?_
  have hd : ∃ o, h'.get? dx = some o := let ⟨o, _, _, e', _⟩ := O'.ns; ⟨o, e'⟩
  refine I.write (x := a) (e := dx) (by rw [e]; exact True.intro) (.inr ho) (fun b q hb z => (sb.2 b hb).trans z) hd ?_
  refine ⟨by rw [upd_ne O.ne]; exact ho, ?_, O.ne, O'.obj, _, O'.ns, fun g => ?_, fun g hg => ?_⟩
  · have := length_putF f y fs; omega
  · show RelO ((putF f y fs).lookup g) (if g = f then some u else mA g)
    rw [lookup_putF]
    by_cases q : g = f
    · rw [if_pos q, if_pos q]; exact ry
    · rw [if_neg q, if_neg q]; exact r g
  · by_cases q : g = f
    · rw [q]; exact (keys_putF f y fs).1
    · refine (keys_putF f y fs).2 g (wi g fun z => hg ?_)
      show (if g = f then some u else mA g) = none
      rw [if_neg q]; exact z
theorem Inv.made (I : Inv X pins σ H s) : Inv X pins σ (upd (upd H s.heap.objs.size (.own (s.heap.objs.size + 1))) (s.heap.objs.size + 1) (.ins C s.heap.objs.size []))
    { s with heap := (s.heap.push PySem.W.emptyDict).push (PySem.W.instObj C s.heap.objs.size) } := by
  have e1 : (s.heap.push PySem.W.emptyDict).get? s.heap.objs.size = some PySem.W.emptyDict := Heap.get?_push_size s.heap rfl
  have e2 : ((s.heap.push PySem.W.emptyDict).push (PySem.W.instObj C s.heap.objs.size)).get? (s.heap.objs.size + 1) = some (PySem.W.instObj C s.heap.objs.size) := by
    have := Heap.get?_push_size (s.heap.push PySem.W.emptyDict) (o := PySem.W.instObj C s.heap.objs.size) rfl
    rwa [Heap.size_push] at this
  have e3 : (s.heap.push PySem.W.emptyDict).Ns s.heap.objs.size (fun _ => none) := ⟨PySem.W.emptyDict, #[], _, e1, rfl, (fun e he => absurd he (by simp)), fun _ => rfl⟩
  have I1 := I.laid (a := s.heap.objs.size) (o := .own (s.heap.objs.size + 1)) (h' := s.heap.push PySem.W.emptyDict) (t' := s.toks) (fun b u q => Heap.get?_push_of_some _ q) (Nat.le_refl _) ⟨_, e1⟩
  refine I1.laid (a := s.heap.objs.size + 1) (o := .ins C s.heap.objs.size []) (t' := s.toks) (fun b u q => Heap.get?_push_of_some _ q) (Nat.le_of_eq (Heap.size_push _ _)) ?_
  have ne : s.heap.objs.size ≠ s.heap.objs.size + 1 := Nat.ne_of_lt (Nat.lt_succ_self _)
  refine ⟨by rw [upd_ne ne, upd_same], Nat.zero_le _, ne, e2, fun _ => none, (Heap.Ns1.of_empty e3).at fun o q => Heap.get?_push_of_some _ q, fun _ => True.intro, fun y hy => absurd rfl hy⟩
theorem attr_of {prog : Program} {w : World} {env : Env} {e : Expr} {f : Str} {pos : Pos} {s : Shared} {Q : Value → Shared → Prop} (hb : attributeBase e f env (eval e env) = eval e env)
    (h : wpAny (model prog w) A (eval e env) (fun o s₁ => wpAny (model prog w) A (getAttr o f true) Q E s₁) E s) : wpAny (model prog w) A (eval (.Attribute e f pos) env) Q E s :=
  Attribute_any_ h (by rw [arm_eval_Attribute, hb])
end
def tFld (K : PySem.W.Frag) (ta : TE) (f : Str) : TE := fun σ H Q => ta σ H fun x H1 => ∃ a C dx fs v, x = .ref a ∧ H1 a = some (.ins C dx fs) ∧ Cls K C ∧ NoAttr K C f ∧ fs.lookup f = some v ∧ Q v H1
def sFld (K : PySem.W.Frag) (ta tv : TE) (f : Str) : TS := fun D σ H => tv σ H fun y H1 => ta σ H1 fun x H2 => ∃ a C dx fs, x = .ref a ∧ H2 a = some (.ins C dx fs) ∧ Cls K C ∧ NoAttr K C f ∧ fs.length < 1000 ∧
  D.nx σ (upd H2 a (.ins C dx (putF f y fs)))
section
variable {X : Cx} {o e value : Expr} {f : Str} {pos pos' tpos : Pos} {ta tv : TE}
theorem pe_fld (he : PE X e ta) (hb : attributeBase e f X.env (eval e X.env) = eval e X.env) : PE X (.Attribute e f pos) (tFld X.K ta f) := by
  intro pins s σ H Q I h
  refine attr_of hb (thn (he pins s σ H _ I h) fun u s1 ⟨x, H1, I1, rx, a, C, dx, fs, v, ex, ea, c, n, l, q⟩ => ?_)
  subst ex
  obtain rfl : u = Value.ref a := rx
  exact getattr_ok I1 ea c n l fun u' s2 I2 ru => ⟨v, H1, I2, ru, q⟩
theorem ps_fld (ha : PE X o ta) (hv : PE X value tv) (hs : swapsWith value (some (.Attribute o f pos')) pos.line X.env = pure false) : PS X (.Assign [.Attribute o f pos'] value pos) (sFld X.K ta tv f) := by
  intro pins s σ H D I h
  refine plainObj_wpAny_Assign_Attribute (thn (hv pins s σ H _ I h) fun u s1 ⟨y, H1, I1, ry, q⟩ => thn (ha pins s1 σ H1 _ I1 q) fun ov s2 ⟨x, H2, I2, rx, a, C, dx, fs, ex, ea, c, n, l, q2⟩ => ?_) hs
  subst ex
  obtain rfl : ov = Value.ref a := rx
  exact setattr_ok I2 ea c n l ry fun s3 I3 => ⟨σ, _, I3, q2⟩
end
section
variable {X : Cx} {pins : List (Addr × Obj)} {σ : St} {H : Hp} {s : Shared} {A : Around} {E : Value → Shared → Prop} {Q : Value → Shared → Prop} {c : Value} {b : Bool}
end
end L2
namespace L2
open PySem PySem.Spec PyProof.Rows
structure Room (k : Nat) (A : Around) : Prop where
  hd : A.handled = none
  dp : A.depth + 3 * k + 5 < recursionLimit
  un : A.units + 16 * k + 200 < cLine
theorem Room.mono {j k : Nat} {A : Around} (r : Room k A) (h : j ≤ k) : Room j A := ⟨r.hd, by have := r.dp; omega, by have := r.un; omega⟩
theorem Room.deeper {k : Nat} {A : Around} (r : Room (k + 1) A) (env : Env) : Room k (A.deeper env) :=
  ⟨r.hd, by have := r.dp; show A.depth + 1 + 3 * k + 5 < _; omega, by have := r.un; show A.units + 3 + 16 * k + 200 < _; omega⟩
theorem Room.in1 {k : Nat} {A : Around} (r : Room (k + 1) A) : Room k A.in1 :=
  ⟨r.hd, by have := r.dp; show A.depth + 3 * k + 5 < _; omega, by have := r.un; show A.units + 1 + 16 * k + 200 < _; omega⟩
theorem make_depth {A : Around} {C : Addr} {us : List Value} {kw : List (Str × Value)} : (A.under (.builtin "type.__call__" ⟨.ref C :: us, kw⟩)).depth = A.depth + 1 := by
  first | rfl | simp [Around.under, Code.weight, Code.isCreation, Code.isGuard, Code.isCaller, Code.frames, Code.isFrame, guardIds]
theorem make_units {A : Around} {C : Addr} {us : List Value} {kw : List (Str × Value)} : (A.under (.builtin "type.__call__" ⟨.ref C :: us, kw⟩)).units = A.units + 1 := by
  first | rfl | simp [Around.under, Code.cUnits, Code.frames, Code.isFrame]
theorem Room.make {k : Nat} {A : Around} (r : Room (k + 1) A) (C : Addr) (us : List Value) (kw : List (Str × Value)) : Room k (A.under (.builtin "type.__call__" ⟨.ref C :: us, kw⟩)) :=
  ⟨r.hd, by have := r.dp; rw [make_depth]; omega, by have := r.un; rw [make_units]; omega⟩
theorem Room.depth {k : Nat} {A : Around} (r : Room k A) : A.depth < recursionLimit := by have := r.dp; omega
theorem Room.units {k : Nat} {A : Around} (r : Room k A) : A.units + 64 < cLine := by have := r.un; omega
theorem Room.units0 {k : Nat} {A : Around} (r : Room k A) : A.units < cLine := by have := r.un; omega
def tNil : TA := fun _ H Q => Q [] H
def tCons (ta : TE) (tr : TA) : TA := fun σ H Q => ta σ H fun x H1 => tr σ H1 fun xs H2 => Q (x :: xs) H2
section
variable {X : Cx} {e : Expr} {es : List Expr} {te : TE} {t : TA} {pos : Pos}
theorem pa_nil : PA X [] tNil := fun _ _ _ _ H Q I h => Calls.spliced_nil ⟨[], H, I, .nil, h⟩
theorem pa_cons (ha : PE X e te) (hr : PA X es t) (hs : starEach (e :: es) X.env = (false, eval e X.env) :: starEach es X.env := by rfl) : PA X (e :: es) (tCons te t) := by
  intro pos pins s σ H Q I h
  rw [hs]
  show wpAny _ _ (spliced ((false, eval e X.env) :: backTo pos (starEach es X.env))) _ _ s
  refine Calls.spliced_cons (thn (ha pins s σ H _ I h) fun u s1 ⟨x, H1, I1, r1, q1⟩ => ?_)
  exact thn (hr pos pins s1 σ H1 _ I1 q1) fun us s2 ⟨xs, H2, I2, r2, q2⟩ => ⟨x :: xs, H2, I2, .cons r1 r2, q2⟩
def tTup (t : TA) : TE := fun σ H Q => t σ H fun xs H1 => xs.length ≤ sizeLine ∧ ∀ p, H1 p = none → Q (.ref p) (upd H1 p (.tup xs))
def tLst (t : TA) : TE := fun σ H Q => t σ H fun xs H1 => xs.length ≤ sizeLine ∧ ∀ p, H1 p = none → Q (.ref p) (upd H1 p (.lst xs))
theorem pe_tup {x1} (h : PA X es t) : PE X (.Tuple es x1 pos) (tTup t) := by
  intro pins s σ H Q I hq
  refine wpAny_Tuple_spliced (thn (h pos pins s σ H _ I hq) fun us s1 ⟨xs, H1, I1, r, z, q⟩ => ⟨by rw [← r.length]; exact z, ?_⟩)
  have hf : H1 s1.heap.objs.size = none := I1.hok.fresh (Nat.le_refl _)
  refine ⟨.ref s1.heap.objs.size, upd H1 s1.heap.objs.size (.tup xs), I1.laid (t' := s1.toks) (fun b u e => Heap.get?_push_of_some _ e) (Nat.le_refl _) ?_, rfl, q _ hf⟩
  exact ⟨z, us, r, ⟨_, Heap.get?_push_size _ rfl, rfl, _, rfl⟩⟩
theorem pe_lst (h : PA X es t) : PE X (.List es pos) (tLst t) := by
  intro pins s σ H Q I hq
  refine wpAny_List_spliced (thn (h pos pins s σ H _ I hq) fun us s1 ⟨xs, H1, I1, r, z, q⟩ => ⟨by rw [← r.length]; exact z, ?_⟩)
  have hf : H1 s1.heap.objs.size = none := I1.hok.fresh (Nat.le_refl _)
  refine ⟨.ref s1.heap.objs.size, upd H1 s1.heap.objs.size (.lst xs), I1.laid (t' := s1.toks) (fun b u e => Heap.get?_push_of_some _ e) (Nat.le_refl _) ?_, rfl, q _ hf⟩
  exact ⟨z, us, 0, r, Heap.get?_push_size _ rfl⟩
end
abbrev Sp := List V → Hp → VK → XK → Prop
abbrev CXT := List Env → Hp → Shared → XK → Value → Shared → Prop
structure Env0 (P : Program) (w : World) (K : PySem.W.Frag) (mg : Str → Option Value) (base : Heap) (A : Around) (outer : List Env) (s : Shared) (H : Hp) : Prop where
  frames : A.frames = some outer
  mod : Mod K mg base
  bs : ∀ b o, base.get? b = some o → s.heap.get? b = some o ∧ H b = none
  bsz : base.objs.size ≤ s.heap.objs.size
  funs : s.heap.FunFrames base outer
  frf : ∀ b ∈ frs outer, H b = none
  hok : HOk P w H s.heap
  bare : AllBare s.gens
def CE (outer : List Env) (P : Program) (w : World) (H : Hp) (s : Shared) (Q : VK) (u : Value) (s' : Shared) : Prop :=
  ∃ v H', s'.os = s.os ∧ AllBare s'.gens ∧ Un (frs outer) [] H H' s.heap s'.heap ∧ HOk P w H' s'.heap ∧ RelV v u ∧ Q v H'
def CR (CX : CXT) (outer : List Env) (P : Program) (w : World) (H : Hp) (s : Shared) (Q : VK) (E : XK) (r : Result) (s' : Shared) : Prop :=
  match r with
  | .ok (.ret u) => CE outer P w H s Q u s'
  | .ok _ => False
  | .error e => CX outer H s E e s'
structure FnOk (P : Program) (w : World) (K : PySem.W.Frag) (mg : Str → Option Value) (base : Heap) (CX : CXT) (k : Nat) (f : Addr) (fd : FuncData) (ps : List Str) (sp : Sp) : Prop where
  len : ∀ vs H Q E, sp vs H Q E → vs.length = ps.length
  run : ∀ (A : Around) (outer : List Env) (s : Shared) (H : Hp) (args : Args) (us : List Value) (vs : List V) (Q : VK) (E : XK), Room k A → Env0 P w K mg base A outer s H → BindsTo s fd args (ps.zip us) → Vals vs us → sp vs H Q E →
    codeAny (model P w) A (.call (.ref f) args) (CR CX outer P w H s Q E) s
theorem FnOk.imp {P : Program} {w : World} {K : PySem.W.Frag} {mg : Str → Option Value} {base : Heap} {CX : CXT} {k : Nat} {f : Addr} {fd : FuncData} {ps : List Str} {sp sp' : Sp} (F : FnOk P w K mg base CX k f fd ps sp)
    (h : ∀ vs H Q E, sp' vs H Q E → sp vs H Q E) : FnOk P w K mg base CX k f fd ps sp' :=
  ⟨fun vs H Q E q => F.len vs H Q E (h _ _ _ _ q), fun A outer s H args us vs Q E hr he hb hv hs => F.run A outer s H args us vs Q E hr he hb hv (h _ _ _ _ hs)⟩
theorem Env0.make {P : Program} {w : World} {K : PySem.W.Frag} {mg : Str → Option Value} {base : Heap} {A : Around} {outer : List Env} {s : Shared} {H : Hp} (e : Env0 P w K mg base A outer s H) (C : Addr) (us : List Value) (kw : List (Str × Value)) :
    Env0 P w K mg base (A.under (.builtin "type.__call__" ⟨.ref C :: us, kw⟩)) outer s H := ⟨by first | exact e.frames | (simpa [Around.under, Code.envs, Code.isFrame, pushEnvs] using e.frames), e.mod, e.bs, e.bsz, e.funs, e.frf, e.hok, e.bare⟩
theorem Env0.in1 {P : Program} {w : World} {K : PySem.W.Frag} {mg : Str → Option Value} {base : Heap} {A : Around} {outer : List Env} {s : Shared} {H : Hp} (e : Env0 P w K mg base A outer s H) :
    Env0 P w K mg base A.in1 outer s H := ⟨e.frames, e.mod, e.bs, e.bsz, e.funs, e.frf, e.hok, e.bare⟩
section
variable {X : Cx} {pins : List (Addr × Obj)} {σ : St} {H : Hp} {s s' : Shared}
theorem Inv.env0 (I : Inv X pins σ H s) : Env0 X.prog X.w X.K X.mg X.base X.A X.stack s H :=
  ⟨I.ok.frames, I.ok.mod, I.bs, Nat.le_trans I.ok.bsz I.sz, I.stack, I.stkFree, I.hok, I.bare⟩
theorem Inv.after {Q : VK} {u : Value} (I : Inv X pins σ H s) (h : CE X.stack X.prog X.w H s Q u s') : EP X pins σ Q u s' := by
  obtain ⟨v, H', os, bare, un, hok, r, q⟩ := h
  obtain ⟨hh, g, d, t, os'⟩ := s'
  obtain rfl : os' = s.os := os
  exact ⟨v, H', I.call (h' := hh) (g' := g) (d' := d) (t' := t) (ch := []) un hok bare (fun b z => absurd z (by simp)), r, q⟩
end
def tCall (sp : Sp) (dvs : List V) (E : XK) (t : TA) : TE := fun σ H Q => t σ H fun vs H1 => sp (vs ++ dvs) H1 Q E
def tMake (C : Addr) (sp : Sp) (dvs : List V) (E : XK) (t : TA) : TE := fun σ H Q => t σ H fun vs H1 => ∀ x dx, H1 x = none → H1 dx = none → dx ≠ x →
  sp (.ref x :: (vs ++ dvs)) (upd (upd H1 dx (.own x)) x (.ins C dx [])) (fun v H2 => v = .non ∧ Q (.ref x) H2) E
def Binds (K : PySem.W.Frag) (fd : FuncData) (ps : List Str) (ds : List Value) : Prop :=
  ∀ (s : Shared) (us : List Value), K.In s.heap → (us ++ ds).length = ps.length → BindsTo s fd ⟨us, []⟩ (ps.zip (us ++ ds))
theorem Binds.all {K : PySem.W.Frag} {fd : FuncData} {ps : List Str} (h : ∀ us : List Value, us.length = ps.length → bindArgs fd ⟨us, []⟩ = pure (ps.zip us)) : Binds K fd ps [] := fun s us _ hl => by
  rw [List.append_nil] at hl ⊢
  exact .of_eq (h us hl)
def Passes (CX : CXT) (X : Cx) (E : XK) : Prop := ∀ (pins : List (Addr × Obj)) (σ : St) (H : Hp) (s : Shared) (e : Value) (s' : Shared), Inv X pins σ H s → CX X.stack H s E e s' → X.xe e s'
section
variable {X : Cx} {CX : CXT} {k : Nat} {f C : Addr} {fd : FuncData} {ps : List Str} {sp : Sp} {dvs : List V} {ds : List Value} {E : XK} {x m : Str} {p pos apos : Pos} {e o : Expr} {es : List Expr} {ta : TE} {t : TA}
theorem run_fn {pins : List (Addr × Obj)} {σ : St} {H : Hp} {s : Shared} {Q : VK} {us : List Value} {vs : List V} (F : FnOk X.prog X.w X.K X.mg X.base CX k f fd ps sp) (hr : Room k X.A) (hb : Binds X.K fd ps ds) (hd : Vals dvs ds) (hx : Passes CX X E)
    (I : Inv X pins σ H s) (r : Vals vs us) (h : sp (vs ++ dvs) H Q E) : wpAny (model X.prog X.w) X.A (call (.ref f) us) (EP X pins σ Q) X.xe s := by
  have r2 : Vals (vs ++ dvs) (us ++ ds) := r.append hd
  have hl : (us ++ ds).length = ps.length := by rw [← r2.length]; exact F.len _ _ _ _ h
  refine wpAny_call (codeAny_mono (F.run X.A X.stack s H ⟨us, []⟩ (us ++ ds) (vs ++ dvs) Q E hr I.env0 (hb s us I.kIn hl) r2 h) fun r s' hq => ?_)
  cases r with
  | error e => exact hx pins σ H s e s' I hq
  | ok fl =>
    cases fl with
    | ret u => exact I.after hq
    | next => exact False.elim hq
    | brk => exact False.elim hq
    | cont => exact False.elim hq
theorem pe_call (F : FnOk X.prog X.w X.K X.mg X.base CX k f fd ps sp) (hr : Room k X.A) (hg : Gl X x) (hm : X.mg x = some (.ref f)) (hk : PySem.W.keepIn X.K (.ref f) = true) (hb : Binds X.K fd ps ds) (hd : Vals dvs ds) (hx : Passes CX X E)
    (ha : PA X (e :: es) t) (hdb : (x == ("__debug__" : Str)) = false := by decide) (he : starEach (e :: es) X.env = (false, eval e X.env) :: starEach es X.env := by rfl) (hpl : (backTo pos (starEach es X.env)).any (·.1) = false := by rfl) :
    PE X (.Call (.Name x p) (e :: es) [] pos) (tCall sp dvs E t) := by
  intro pins s σ H Q I h
  refine wpAny_Call_Name_kw (ld_glob I hg hm ?_ hdb)
  refine PySem.W.callWith_K (h₀ := X.base) I.ok.mod.kin hk (thn (ha pos pins s σ H _ I h) fun us s1 ⟨vs, H1, I1, r, q⟩ => ⟨I1.kIn, ?_⟩) he hpl
  exact run_fn F hr hb hd hx I1 r q
theorem pe_call0 (F : FnOk X.prog X.w X.K X.mg X.base CX k f fd ps sp) (hr : Room k X.A) (hg : Gl X x) (hm : X.mg x = some (.ref f)) (hk : PySem.W.keepIn X.K (.ref f) = true) (hb : Binds X.K fd ps ds) (hd : Vals dvs ds) (hx : Passes CX X E)
    (hdb : (x == ("__debug__" : Str)) = false := by decide) : PE X (.Call (.Name x p) [] [] pos) (tCall sp dvs E tNil) := by
  intro pins s σ H Q I h
  refine wpAny_Call_Name_kw (ld_glob I hg hm ?_ hdb)
  exact PySem.W.callWith_K0 I.kIn hk (run_fn (us := []) F hr hb hd hx I .nil h)
structure Mk (K : PySem.W.Frag) (C f : Addr) : Prop where
  makes : PySem.W.makesIn K C = true
  init : PySem.W.findIn K (.ref C) "__init__" = some (some (.ref f))
  fn : PySem.W.isFn K (.ref f) = true
  kp : PySem.W.keepIn K (.ref C) = true
theorem run_make {pins : List (Addr × Obj)} {σ : St} {H : Hp} {s : Shared} {Q : VK} {us : List Value} {vs : List V} (M : Mk X.K C f) (F : FnOk X.prog X.w X.K X.mg X.base CX k f fd ps sp) (hr : Room (k + 1) X.A) (hb : Binds X.K fd ps ds) (hd : Vals dvs ds)
    (hx : Passes CX X E) (I : Inv X pins σ H s) (r : Vals vs us)
    (h : ∀ x dx, H x = none → H dx = none → dx ≠ x → sp (.ref x :: (vs ++ dvs)) (upd (upd H dx (.own x)) x (.ins C dx [])) (fun v H2 => v = .non ∧ Q (.ref x) H2) E) :
    wpAny (model X.prog X.w) X.A (call (.ref C) us) (EP X pins σ Q) X.xe s := by
  have hq := h (s.heap.objs.size + 1) s.heap.objs.size (I.hok.fresh (Nat.le_succ _)) (I.hok.fresh (Nat.le_refl _)) (Nat.ne_of_lt (Nat.lt_succ_self _))
  have I2 := Inv.made (C := C) I
  have r2 : Vals (V.ref (s.heap.objs.size + 1) :: (vs ++ dvs)) (Value.ref (s.heap.objs.size + 1) :: (us ++ ds)) := .cons rfl (r.append hd)
  have hl : (Value.ref (s.heap.objs.size + 1) :: us ++ ds).length = ps.length := by
    have e := r2.length
    rw [F.len _ _ _ _ hq] at e
    exact e.symm
  refine wpAny_call (make_map (f := f) I.kIn M.makes M.init (beq_iff_eq.mp M.fn) (codeAny_mono (F.run _ X.stack _ _ ⟨Value.ref (s.heap.objs.size + 1) :: us, []⟩ (Value.ref (s.heap.objs.size + 1) :: (us ++ ds)) _ _ E (hr.make C us [])
    (I2.env0.make C us []) (hb _ (Value.ref (s.heap.objs.size + 1) :: us) I2.kIn hl) r2 hq) fun r s' hq' => ?_))
  cases r with
  | error e => exact hx pins σ _ _ e s' I2 hq'
  | ok fl =>
    cases fl with
    | ret u =>
      obtain ⟨v, H', I3, rv, ev, q3⟩ := I2.after hq'
      subst ev
      exact ⟨rv, ⟨V.ref (s.heap.objs.size + 1), H', I3, rfl, q3⟩⟩
    | next => exact False.elim hq'
    | brk => exact False.elim hq'
    | cont => exact False.elim hq'
theorem pe_make (M : Mk X.K C f) (F : FnOk X.prog X.w X.K X.mg X.base CX k f fd ps sp) (hr : Room (k + 1) X.A) (hg : Gl X x) (hm : X.mg x = some (.ref C)) (hb : Binds X.K fd ps ds) (hd : Vals dvs ds) (hx : Passes CX X E)
    (ha : PA X (e :: es) t) (hdb : (x == ("__debug__" : Str)) = false := by decide) (he : starEach (e :: es) X.env = (false, eval e X.env) :: starEach es X.env := by rfl) (hpl : (backTo pos (starEach es X.env)).any (·.1) = false := by rfl) :
    PE X (.Call (.Name x p) (e :: es) [] pos) (tMake C sp dvs E t) := by
  intro pins s σ H Q I h
  refine wpAny_Call_Name_kw (ld_glob I hg hm ?_ hdb)
  refine PySem.W.callWith_K (h₀ := X.base) I.ok.mod.kin M.kp (thn (ha pos pins s σ H _ I h) fun us s1 ⟨vs, H1, I1, r, q⟩ => ⟨I1.kIn, ?_⟩) he hpl
  exact run_make M F hr hb hd hx I1 r q
end
section
variable {X : Cx} {CX : CXT} {k : Nat} {f C : Addr} {fd : FuncData} {ps ks : List Str} {sp : Sp} {E : XK} {x m : Str} {p pos apos kpos : Pos} {e o : Expr} {es : List Expr} {kws : List Keyword} {te ta : TE} {t tk : TA} {nm : Option Str}
variable {g : List Value → List Value → List Value} {gV : List V → List V → List V}
end
structure FnScope (N P : List Str) (sc : Scope) : Prop where
  kind : sc.kind = .function
  co : sc.isCoroutine = false
  gen : sc.isGenerator = false
  nd : N.Nodup
  pre : N.take P.length = P
  par : ∀ x ∈ P, sc.names.lookup x = some .local ∨ sc.names.lookup x = some .cell
  nofree : ∀ y ∈ sc.names, y.2 ≠ .free
theorem bindL_out {kindOf : Str → Option NameKind} {x : Str} : ∀ {binds : List (Str × Value)} {m : Str → Option Value}, (∀ v, (x, v) ∉ binds) → bindL kindOf binds m x = m x
  | [], _, _ => rfl
  | (n, v) :: r, m, h => by
    unfold bindL
    rw [bindL_out fun w hw => h w (List.mem_cons_of_mem _ hw)]
    split
    · have : x ≠ n := by rintro rfl; exact h v List.mem_cons_self
      simp [this]
    · rfl
theorem bindC_out {kindOf : Str → Option NameKind} {x : Str} : ∀ {binds : List (Str × Value)} {m : Str → Option Value}, (∀ v, (x, v) ∉ binds) → bindC kindOf binds m x = m x
  | [], _, _ => rfl
  | (n, v) :: r, m, h => by
    unfold bindC
    rw [bindC_out fun w hw => h w (List.mem_cons_of_mem _ hw)]
    split
    · rfl
    · have : x ≠ n := by rintro rfl; exact h v List.mem_cons_self
      simp [this]
theorem bindL_get {kindOf : Str → Option NameKind} {x : Str} {v : Value} : ∀ {P : List Str} {vs : List Value} {i : Nat} {m : Str → Option Value}, P.Nodup → P[i]? = some x → vs[i]? = some v → kindOf x = some .local →
    bindL kindOf (P.zip vs) m x = some v
  | [], _, _, _, _, h, _, _ => by simp at h
  | _ :: _, [], _, _, _, _, h, _ => by simp at h
  | p :: P, w :: vs, 0, m, nd, h1, h2, hk => by
    simp at h1 h2; subst h1; subst h2
    show bindL kindOf ((p, w) :: P.zip vs) m p = _
    unfold bindL
    rw [bindL_out fun v hv => (List.nodup_cons.mp nd).1 (List.of_mem_zip hv).1, if_pos hk]
    simp
  | p :: P, w :: vs, i + 1, m, nd, h1, h2, hk => by
    show bindL kindOf ((p, w) :: P.zip vs) m x = _
    unfold bindL
    exact bindL_get (i := i) (List.nodup_cons.mp nd).2 (by simpa using h1) (by simpa using h2) hk
theorem bindC_get {kindOf : Str → Option NameKind} {x : Str} {v : Value} : ∀ {P : List Str} {vs : List Value} {i : Nat} {m : Str → Option Value}, P.Nodup → P[i]? = some x → vs[i]? = some v → kindOf x ≠ some .local →
    bindC kindOf (P.zip vs) m x = some v
  | [], _, _, _, _, h, _, _ => by simp at h
  | _ :: _, [], _, _, _, _, h, _ => by simp at h
  | p :: P, w :: vs, 0, m, nd, h1, h2, hk => by
    simp at h1 h2; subst h1; subst h2
    show bindC kindOf ((p, w) :: P.zip vs) m p = _
    unfold bindC
    rw [bindC_out fun v hv => (List.nodup_cons.mp nd).1 (List.of_mem_zip hv).1, if_neg hk]
    simp
  | p :: P, w :: vs, i + 1, m, nd, h1, h2, hk => by
    show bindC kindOf ((p, w) :: P.zip vs) m x = _
    unfold bindC
    exact bindC_get (i := i) (List.nodup_cons.mp nd).2 (by simpa using h1) (by simpa using h2) hk
def start (N : List Str) (vs : List V) : St := vs.map some ++ List.replicate (N.length - vs.length) none
def cxOf (CX : CXT) (P : Program) (w : World) (K : PySem.W.Frag) (mg : Str → Option Value) (base : Heap) (N : List Str) (qual : Str) (scope : Scope) (f : Addr) (cd : Value) (A : Around) (outer : List Env) (s : Shared) (H : Hp) (E : XK) : Cx where
  prog := P
  w := w
  K := K
  mg := mg
  base := base
  A := A.deeper (envOfC qual scope s.heap.objs.size f cd)
  N := N
  s₀ := s
  H₀ := H
  env := envOfC qual scope s.heap.objs.size f cd
  outer := outer
  stack := envOfC qual scope s.heap.objs.size f cd :: outer
  ex := []
  calm := true
  fn := fun _ => true
  pn := []
  xe := fun e s' => wpAny (model P w) (A.deeper (envOfC qual scope s.heap.objs.size f cd)) (leaving (envOfC qual scope s.heap.objs.size f cd) e) (fun _ s'' => CX outer H s E e s'') (fun e' s'' => CX outer H s E e' s'') s'
theorem cell_has {sc : Scope} {n : Nat} {x : Str} (h : sc.names.lookup x = some .cell) : ∃ c, (cellsFrom n sc.names []).lookup x = some c := by
  have q := PySem.W.cellsFrom_some sc.names n [] (.inl h)
  exact Option.isSome_iff_exists.mp q
theorem inv_start {CX : CXT} {P : Program} {w : World} {K : PySem.W.Frag} {mg : Str → Option Value} {base : Heap} {N ps : List Str} {qual : Str} {scope : Scope} {f : Addr} {cd : Value} {A : Around} {outer : List Env} {s s1 : Shared} {H : Hp} {E : XK} {us : List Value} {vs : List V}
    (S : FnScope N ps scope) (hd : A.handled = none) (e0 : Env0 P w K mg base A outer s H) (hl : vs.length = ps.length) (r : Vals vs us)
    (x : InCallC s s.heap.objs.size (bindL (envOfC qual scope s.heap.objs.size f cd).kindOf (ps.zip us) fun _ => none) (cellsFrom (s.heap.objs.size + 1) scope.names []) (bindC (envOfC qual scope s.heap.objs.size f cd).kindOf (ps.zip us) fun _ => none) s1) :
    Inv (cxOf CX P w K mg base N qual scope f cd A outer s H E) [] (start N vs) H s1 := by
  have hpl : ps.length ≤ N.length := by have := congrArg List.length S.pre; rw [List.length_take] at this; omega
  obtain ⟨h1, tk, rfl, hk⟩ := x.done
  have noA : ∀ b : Addr, b ∉ (cxOf CX P w K mg base N qual scope f cd A outer s H E).ex := fun b z => absurd (show b ∈ ([] : List Addr) from z) (by simp)
  refine ⟨⟨e0.mod, S.kind, rfl, rfl, Nat.le_refl _, fun y z c h1 h2 => ?_, fun y hy => ?_, fun y c _ h => ?_, fun _ => hd, Around.frames_deeper e0.frames, .inr ⟨rfl, rfl⟩, fun b z => absurd z (noA b), e0.bs, e0.bsz, fun b _ _ => noA b, fun b z => absurd z (noA b), e0.funs, e0.frf⟩,
    rfl, e0.bare, Un.kept hk, ⟨_, x.toInCall.ns, fun i y v h1 h2 h3 => ?_⟩, fun y c h => ⟨_, x.cell y c h⟩, e0.hok.fresh (Nat.le_refl _), fun y c h => ?_, fun p hp => absurd (show p ∈ ([] : List (Addr × Obj)) from hp) (by simp), e0.hok.kept hk, ?_⟩
  · exact name_of_addr x.apart (PySem.mem_of_lookup h1) (PySem.mem_of_lookup h2)
  · have hy : scope.names.lookup y = some .cell ∨ scope.names.lookup y = some .free := hy
    rcases hy with hy | hy
    · exact cell_has hy
    · exact absurd rfl (S.nofree _ (PySem.mem_of_lookup hy))
  · exact Nat.le_of_lt (x.above y c (PySem.mem_of_lookup h))
  · have hi : i < vs.length := by
      unfold start at h2
      by_cases hi : i < vs.length
      · exact hi
      · rw [List.getElem?_append_right (by simpa using hi)] at h2
        rw [List.getElem?_replicate] at h2
        split at h2 <;> cases h2
    have ha : vs[i]? = some v := by
      unfold start at h2
      rw [List.getElem?_append_left (by simpa using hi), List.getElem?_map] at h2
      cases e : vs[i]? with
      | none => rw [e] at h2; cases h2
      | some a => rw [e] at h2; cases h2; rfl
    obtain ⟨u, hu, rv⟩ := r.get ha
    have hp : ps[i]? = some y := by
      rw [← S.pre, List.getElem?_take_of_lt (by omega)]; exact h1
    have ndP : ps.Nodup := by rw [← S.pre]; exact S.nd.sublist (List.take_sublist _ _)
    refine ⟨u, rv, ?_⟩
    rcases S.par y (List.mem_of_getElem? hp) with k | k
    · exact .inl ⟨k, bindL_get ndP hp hu k⟩
    · obtain ⟨c, e⟩ := cell_has (n := s.heap.objs.size + 1) k
      refine .inr ⟨.inl k, c, e, ?_⟩
      have q := x.cell y c e
      rw [bindC_get ndP hp hu (by show scope.names.lookup y ≠ _; rw [k]; decide)] at q
      exact q
  · exact e0.hok.fresh (Nat.le_of_lt (x.above y c (PySem.mem_of_lookup h)))
  · unfold start
    show _ = N.length
    rw [List.length_append, List.length_map, List.length_replicate]
    omega
theorem fn_of {CX : CXT} {P : Program} {w : World} {K : PySem.W.Frag} {mg : Str → Option Value} {base : Heap} {k : Nat} {f : Addr} {name qual : Str} {params : Arguments} {body : List Stmt} {scope : Scope} {dV kV doc pm cdv ct oc : Value} {an od : Option Addr}
    {osl : Array (Option Value)} {N ps : List Str} {sp : Sp} (lk : K.lookup f = some ⟨oc, od, .func (PySem.W.fnOf name qual params body scope dV kV doc pm an cdv ct), osl⟩) (hcd : PySem.W.codeIn K cdv qual = true) (S : FnScope N ps scope)
    (len : ∀ vs H Q E, sp vs H Q E → vs.length = ps.length)
    (hbody : ∀ (A : Around) (outer : List Env) (s : Shared) (H : Hp) (vs : List V) (Q : VK) (E : XK), Room k (A.deeper (envOfC qual scope s.heap.objs.size f cdv)) → sp vs H Q E →
      ∃ t, PSs (cxOf CX P w K mg base N qual scope f cdv A outer s H E) body t ∧ t { nx := fun _ H' => Q .non H', rt := Q } (start N vs) H) :
    FnOk P w K mg base CX (k + 1) f (PySem.W.fnOf name qual params body scope dV kV doc pm an cdv ct) ps sp := by
  refine ⟨len, fun A outer s H args us vs Q E hr e0 hb r hsp => ?_⟩
  have hl := len _ _ _ _ hsp
  have KX : K.In s.heap := e0.mod.kin.keeps fun b o e => (e0.bs b o e).1
  have lim : s.heap.NoLimit := e0.mod.nolimit.keeps fun b o e => (e0.bs b o e).1
  have hkind : ∀ y ∈ ps.zip us, scope.names.lookup y.1 = some .local ∨ (scope.names.lookup y.1 = some .cell ∧ ((cellsFrom (s.heap.objs.size + 1) scope.names []).lookup y.1).isSome = true) := fun ⟨n, v⟩ hy => by
    rcases S.par n (List.of_mem_zip hy).1 with q | q
    · exact .inl q
    · exact .inr ⟨q, PySem.W.cellsFrom_some _ _ _ (.inl q)⟩
  refine codeAny_call_function hr.depth (KX _ _ lk) rfl S.co S.gen rfl (PySem.W.codeRec_of KX hcd) (hb _ _ _ _ ?_)
  refine wpAny_newFunctionEnv_cells S.kind hkind fun env he s1 x => ?_
  subst he
  refine ⟨lim.keeps x.toInCall.keep, codeAny_func ?_⟩
  obtain ⟨t, ht, hq⟩ := hbody A outer s H vs Q E (hr.deeper _) hsp
  have I : Inv (cxOf CX P w K mg base N qual scope f cdv A outer s H E) [] (start N vs) H s1 := inv_start S hr.hd e0 hl r x
  refine wpAny_mono (ht [] s1 (start N vs) H _ I hq) (fun fl s' hs => ?_) fun e s' hs => hs
  have fin : ∀ {σ' : St} {H' : Hp} {v : V} {u : Value}, Inv (cxOf CX P w K mg base N qual scope f cdv A outer s H E) [] σ' H' s' → RelV v u → Q v H' → CE outer P w H s Q u s' :=
    fun {σ' H' v u} J rv q => ⟨v, H', J.os, J.bare, J.base, J.hok, rv, q⟩
  cases fl with
  | ret u =>
    obtain ⟨v, σ', H', J, rv, q⟩ := hs
    exact fin J rv q
  | next =>
    obtain ⟨σ', H', J, q⟩ := hs
    exact fin (v := V.non) (u := Value.none) J rfl q
  | brk =>
    obtain ⟨_, _, _, q⟩ := hs
    exact False.elim q
  | cont =>
    obtain ⟨_, _, _, q⟩ := hs
    exact False.elim q
end L2
namespace L2
open PySem PySem.Spec PyProof.Rows
section
variable {X : Cx} {x : Str} {p pos : Pos} {e : Expr} {es : List Expr} {t : TA} {id T : String} {r : List V → Hp → VK → Prop}
def tCB (r : List V → Hp → VK → Prop) (t : TA) : TE := fun σ H Q => t σ H fun vs H1 => r vs H1 Q
theorem pe_callB (hc : CallR X (.builtin id) r) (hg : Gl X x) (hm : X.mg x = none) (hv : bootBuiltins x = some (.builtin id)) (ha : PA X (e :: es) t) (hn : x ≠ "__name__" := by decide) (hdb : (x == ("__debug__" : Str)) = false := by decide)
    (he : starEach (e :: es) X.env = (false, eval e X.env) :: starEach es X.env := by rfl) (hpl : (backTo pos (starEach es X.env)).any (·.1) = false := by rfl) : PE X (.Call (.Name x p) (e :: es) [] pos) (tCB r t) := by
  intro pins s σ H Q I h
  refine wpAny_Call_Name_kw (ld_blt I hg hm hv ?_ hn hdb)
  exact PyProof.Rows.callWith_builtin1 (thn (ha pos pins s σ H _ I h) fun us s1 ⟨vs, H1, I1, r1, q1⟩ => hc pins s1 σ H1 vs us Q I1 r1 q1) he hpl
theorem pe_callTy (hc : CallR X (.type T) r) (hg : Gl X x) (hm : X.mg x = none) (hv : bootBuiltins x = some (.type T)) (ha : PA X (e :: es) t) (hn : x ≠ "__name__" := by decide) (hdb : (x == ("__debug__" : Str)) = false := by decide)
    (he : starEach (e :: es) X.env = (false, eval e X.env) :: starEach es X.env := by rfl) (hpl : (backTo pos (starEach es X.env)).any (·.1) = false := by rfl) : PE X (.Call (.Name x p) (e :: es) [] pos) (tCB r t) := by
  intro pins s σ H Q I h
  refine wpAny_Call_Name_kw (ld_blt I hg hm hv ?_ hn hdb)
  exact PyProof.Rows.callWith_type1 (thn (ha pos pins s σ H _ I h) fun us s1 ⟨vs, H1, I1, r1, q1⟩ => hc pins s1 σ H1 vs us Q I1 r1 q1) he hpl
end
end L2
namespace HT
open PySem PyProof.Rows
theorem eqAt_int (A : Around) (s : Shared) (a : Int) (t : Tok) (c : Int) (u : Tok) : ∃ e, SeqAt.EqAt A s (.int a t) (.int c u) e ∧ (e = true ↔ a = c) :=
  ⟨(a == c), SeqAt.EqAt.int_int a t c u, by simp⟩
theorem rcLt_int (A : Around) (s : Shared) (a : Int) (t : Tok) (c : Int) (u : Tok) (prog : Program) (w : World) (E : Value → Shared → Prop) (Q : Value → Shared → Prop) (h : Q (.bool (decide (a < c))) s) :
    wpAny (model prog w) A (richCompare .Lt (.int a t) (.int c u)) Q E s :=
  (PyProof.Rows.lt_int h : wpAny (model prog w) A (compareOp .Lt (.int a t) (.int c u)) Q E s)
section
open PySem.SeqAt
open PySem.AutoSeq1 (wpAny_loadPart')
open PySem.MeetsSeq PySem.MeetsSeq2 PySem.MeetsSeq3
end
section
variable {prog : Program} {w : World} {A : Around} {E : Value → Shared → Prop} {s : Shared}
def sIx (n d : Nat) : Option Int → Nat
  | none => d
  | some v => if v < 0 then (v + (n : Int)).toNat else min v.toNat n
theorem sIx_none (n d : Nat) : sIx n d none = d := rfl
theorem sIx_nat (n d k : Nat) : sIx n d (some (k : Int)) = min k n := by
  show (if (k : Int) < 0 then ((k : Int) + (n : Int)).toNat else min (k : Int).toNat n) = min k n
  rw [if_neg (by omega), Int.toNat_natCast]
theorem sIx_le (n d : Nat) (hd : d ≤ n) (o : Option Int) : sIx n d o ≤ n := by
  cases o with
  | none => exact hd
  | some v =>
    show (if v < 0 then (v + (n : Int)).toNat else min v.toNat n) ≤ n
    by_cases hv : v < 0
    · rw [if_pos hv]; omega
    · rw [if_neg hv]; exact Nat.min_le_right _ _
theorem clip_eq (v : Int) (n d : Nat) : (if v < 0 then max (v + (n : Int)) 0 else min v (n : Int)) = ((sIx n d (some v) : Nat) : Int) := by
  show (if v < 0 then max (v + (n : Int)) 0 else min v (n : Int)) = (((if v < 0 then (v + (n : Int)).toNat else min v.toNat n) : Nat) : Int)
  by_cases hv : v < 0
  · simp only [if_pos hv]; omega
  · simp only [if_neg hv]; omega
theorem adjust_gen (lo hi : Option Int) (n : Nat) : Builtin.Slice.sliceAdjust lo hi 1 (n : Int) = (((sIx n 0 lo : Nat) : Int), ((sIx n n hi : Nat) : Int)) := by
  have h1 : ¬ ((1 : Int) < 0) := by omega
  unfold Builtin.Slice.sliceAdjust
  simp only [h1, if_false]
  refine Prod.ext ?_ ?_
  · cases lo with
    | none => rfl
    | some v => exact clip_eq v n 0
  · cases hi with
    | none => rfl
    | some v => exact clip_eq v n n
theorem places_gen (i j : Nat) : Builtin.Slice.slicePlaces (i : Int) (j : Int) 1 = j - i := by
  unfold Builtin.Slice.slicePlaces
  have h1 : (1 : Int) > 0 := by omega
  simp only [h1, if_true, Int.ediv_one]
  split <;> omega
theorem slicePart_ {v : Value} {o : Option Int} {Q : Option Int → Shared → Prop} (p : IsPart v o) (h : Q o s) : wpAny (model prog w) A (Builtin.Slice.slicePartIndex v) Q E s := by
  cases p with
  | none => exact slicePart_none h
  | int i t => exact slicePart_int h
theorem sliceApplied_gen {sl : Addr} {vl vu : Value} {lo hi : Option Int} {n : Nat} {Q : Int × Int × Nat → Shared → Prop} (hs : s.heap.IsSliceOf sl vl vu .none) (pl : IsPart vl lo) (pu : IsPart vu hi)
    (h : Q (((sIx n 0 lo : Nat) : Int), 1, sIx n n hi - sIx n 0 lo) s) : wpAny (model prog w) A (Builtin.Slice.sliceApplied (.ref sl) (pure (n : Int))) Q E s := by
  obtain ⟨os, hos, hcs, hds⟩ := id hs
  unfold Builtin.Slice.sliceApplied Builtin.Slice.sliceFields
  refine wpAny_bind (wpAny_bind (wpAny_field hos hds (x := vl) rfl (wpAny_bind (wpAny_field hos hds (x := vu) rfl (wpAny_bind (wpAny_field hos hds (x := .none) rfl (wpAny_pure ?_)))))))
  refine wpAny_bind (slicePart_none ?_)
  show wpAny _ _ (if ((1 : Int) == 0) = true then _ else _) _ _ s
  rw [if_neg (by decide)]
  refine wpAny_bind (slicePart_ pl (wpAny_bind (slicePart_ pu (wpAny_bind (wpAny_pure ?_)))))
  show wpAny _ _ (match Builtin.Slice.sliceAdjust lo hi 1 (n : Int) with | (lo, hi) => pure (lo, (1 : Int), Builtin.Slice.slicePlaces lo hi 1)) _ _ s
  rw [adjust_gen lo hi n]
  show wpAny _ _ (pure (((sIx n 0 lo : Nat) : Int), (1 : Int), Builtin.Slice.slicePlaces ((sIx n 0 lo : Nat) : Int) ((sIx n n hi : Nat) : Int) 1)) _ _ s
  rw [places_gen]
  exact wpAny_pure h
theorem pick_gen (xs : Array Value) (i k : Nat) : ((List.range k).filterMap fun (m : Nat) => xs[((i : Int) + (m : Int) * 1).toNat]?).toArray = ((xs.toList.drop i).take k).toArray := by
  have e : (fun (m : Nat) => xs[((i : Int) + (m : Int) * 1).toNat]?) = fun m => xs[i + m]? := by
    funext m
    have : ((i : Int) + (m : Int) * 1).toNat = i + m := by omega
    rw [this]
  rw [e]
  have := pick_run xs i k
  rw [List.filterMap_map] at this
  have e2 : ((fun x => xs[x]?) ∘ fun x => i + x) = fun m => xs[i + m]? := rfl
  rw [e2] at this
  rw [this]
theorem getItem_tuple_cut {t sl : Addr} {items : Array Value} {vl vu : Value} {lo hi : Option Int} {Q : Value → Shared → Prop} (ht : IsTup s.heap t items) (hs : s.heap.IsSliceOf sl vl vu .none) (pl : IsPart vl lo) (pu : IsPart vu hi)
    (hw : ¬ (sIx items.size 0 lo = 0 ∧ sIx items.size items.size hi = items.size))
    (h : Q (.ref s.heap.objs.size) { s with heap := s.heap.push { cls := .type "tuple", data := .seq ((items.toList.drop (sIx items.size 0 lo)).take (sIx items.size items.size hi - sIx items.size 0 lo)).toArray } })
    (hsz : items.size ≤ sizeLine) : wpAny (model prog w) A (getItem (.ref t) (.ref sl)) Q E s := by
  have htake : sizeOk (.seq ((items.toList.drop (sIx items.size 0 lo)).take (sIx items.size items.size hi - sIx items.size 0 lo)).toArray) := by
    show ((items.toList.drop (sIx items.size 0 lo)).take (sIx items.size items.size hi - sIx items.size 0 lo)).toArray.size ≤ sizeLine
    rw [List.size_toArray, List.length_take, List.length_drop, Array.length_toList]
    omega
  have hj : sIx items.size items.size hi ≤ items.size := sIx_le _ _ (Nat.le_refl _) hi
  obtain ⟨os, hos, hcs, hds⟩ := id hs
  have hTs : s.TypeIs (.ref sl) "slice" := ⟨os, hos, hcs⟩
  unfold getItem
  try with_reducible refine wpAny_holding ?_
  first | refine wpAny_bind (wpAny_pure ?_) | skip
  refine wpAny_bind (wpAny_sequenceKey ht.typeIs (by decide) ?_)
  refine wpAny_bind (wpAny_callSpecial?_slot (name := Str.ofString "__getitem__") ht.typeIs PyProof.Rows.slot_tuple_getitem
    (wpAny_call_entry PyProof.Rows.slot_tuple_getitem ht.typeIs entry_tuple_getitem ?_ (args_tuple_getitem _ _)))
  show wpAny _ _ (Builtin.Tuple.tupleItemsOf (.ref t) >>= _) _ _ s
  refine wpAny_bind (tupleItemsOf_ ht ?_)
  refine wpAny_bind (wpAny_typeOf hTs ?_)
  rw [if_pos (by decide)]
  refine wpAny_bind (sliceApplied_gen hs pl pu ?_)
  have hno : ¬ ((((sIx items.size 0 lo : Nat) : Int) == 0 && (1 : Int) == 1 && (sIx items.size items.size hi - sIx items.size 0 lo) == items.size) = true) := by
    intro q
    rw [Bool.and_eq_true, Bool.and_eq_true] at q
    have q1 : ((sIx items.size 0 lo : Nat) : Int) = 0 := eq_of_beq q.1.1
    have q2 : sIx items.size items.size hi - sIx items.size 0 lo = items.size := eq_of_beq q.2
    exact hw ⟨by omega, by omega⟩
  show wpAny _ _ (if (((sIx items.size 0 lo : Nat) : Int) == 0 && (1 : Int) == 1 && (sIx items.size items.size hi - sIx items.size 0 lo) == items.size) = true then _ else _) _ _ s
  rw [if_neg hno, pick_gen]
  first
    | exact wpAny_bind (m := Builtin.Tuple.tupleExact _) (wpAny_newObj_type (wpAny_pure ⟨_, rfl, wpAny_pure h⟩) htake)
    | exact wpAny_bind (m := Builtin.Tuple.tupleExact _) (wpAny_newObj_type (wpAny_bind (wpAny_pure (wpAny_pure ⟨_, rfl, wpAny_pure h⟩))) htake)
    | exact wpAny_bind (wpAny_bind (m := Builtin.Tuple.tupleExact _) (wpAny_newObj_type (wpAny_pure (wpAny_pure ⟨_, rfl, wpAny_pure h⟩)) htake))
    | exact wpAny_bind (wpAny_bind (m := Builtin.Tuple.tupleExact _) (wpAny_newObj_type (wpAny_pure ⟨_, rfl, wpAny_pure h⟩) htake))
end
end HT
namespace L2
open PySem PySem.Spec PyProof.Rows
abbrev TO := St → Hp → (Option Int → Hp → Prop) → Prop
def PO (X : Cx) (e : Option Expr) (t : TO) : Prop :=
  ∀ (pins : List (Addr × Obj)) (s : Shared) (σ : St) (H : Hp) (Q : Option Int → Hp → Prop), Inv X pins σ H s → t σ H Q →
    wpAny (model X.prog X.w) X.A (evalPart e X.env) (fun u s' => ∃ o H', Inv X pins σ H' s' ∧ IsPart u o ∧ Q o H') X.xe s
def tNoPart : TO := fun _ H Q => Q none H
def tPart (t : TE) : TO := fun σ H Q => t σ H fun x H1 => ∃ i, x = .int i ∧ Q (some i) H1
theorem intsAre_of {ns : List Int} : ∀ {us : List Value}, Vals (ns.map V.int) us → IntsAre us ns := by
  induction ns with
  | nil => intro us r; rw [List.map_nil] at r; cases r; exact .nil
  | cons n ns ih =>
    intro us r
    rw [List.map_cons] at r
    cases r with
    | cons r1 r2 =>
      obtain ⟨t, e⟩ := r1
      subst e
      exact .cons n t (ih r2)
section
variable {X : Cx} {e : Expr} {te : TE} {lo hi : Option Expr} {tl th : TO} {pos p2 : Pos}
theorem po_none : PO X none tNoPart := by
  intro pins s σ H Q I h
  rw [evalPart_none]
  exact wpAny_pure ⟨none, H, I, .none, h⟩
theorem po_some (h : PE X e te) : PO X (some e) (tPart te) := by
  intro pins s σ H Q I hw
  rw [evalPart_some]
  refine thn (h pins s σ H _ I hw) fun u s1 ⟨x, H1, I1, r1, q1⟩ => ?_
  obtain ⟨i, rfl, q⟩ := q1
  obtain ⟨t, rfl⟩ := r1
  exact ⟨some i, H1, I1, .int i t, q⟩
def SlR (X : Cx) (r : V → Option Int → Option Int → Hp → VK → Prop) : Prop :=
  ∀ (pins : List (Addr × Obj)) (s : Shared) (σ : St) (H : Hp) (x : V) (v vl vu : Value) (lo hi : Option Int) (sl : Addr) (Q : VK), Inv X pins σ H s → RelV x v → s.heap.IsSliceOf sl vl vu .none → IsPart vl lo → IsPart vu hi → r x lo hi H Q →
    ∃ T id, typeLookup (.type T) "__getitem__" = pure (some (.builtin id)) ∧ s.TypeIs v T ∧ wpAny (model X.prog X.w) X.A (getItem v (.ref sl)) (EP X pins σ Q) X.xe s
def tSl (r : V → Option Int → Option Int → Hp → VK → Prop) (te : TE) (tl th : TO) : TE := fun σ H Q => te σ H fun x H1 => tl σ H1 fun l H2 => th σ H2 fun u H3 => r x l u H3 Q
theorem pe_slice {r : V → Option Int → Option Int → Hp → VK → Prop} (hr : SlR X r) (he : PE X e te) (hl : PO X lo tl) (hu : PO X hi th) : PE X (.Subscript e (.Slice lo hi none p2) pos) (tSl r te tl th) := by
  intro pins s σ H Q I h
  refine Subscript_ (thn (he pins s σ H _ I h) fun v s1 ⟨x, H1, I1, r1, q1⟩ => ?_)
  refine wpAny_Slice (thn (hl pins s1 σ H1 _ I1 q1) fun vl s2 ⟨l, H2, I2, pl, q2⟩ => thn (hu pins s2 σ H2 _ I2 q2) fun vu s3 ⟨u, H3, I3, pu, q3⟩ => ?_)
  rw [evalPart_none]
  refine wpAny_pure ?_
  have I4 : Inv X pins σ H3 { s3 with heap := s3.heap.push { cls := .type "slice", data := .fields #[vl, vu, .none] } } := I3.kept (t' := s3.toks) fun b ob q => Heap.get?_push_of_some _ q
  obtain ⟨T, id, hT, ht, hg⟩ := hr pins { s3 with heap := s3.heap.push { cls := .type "slice", data := .fields #[vl, vu, .none] } } σ H3 x v vl vu l u s3.heap.objs.size Q I4 r1 (Heap.IsSliceOf.new ..) pl pu q3
  show wpAny (model X.prog X.w) X.A (subscriptTail e (.Slice lo hi none p2) v (.ref s3.heap.objs.size)) (EP X pins σ Q) X.xe { s3 with heap := s3.heap.push { cls := .type "slice", data := .fields #[vl, vu, .none] } }
  exact tail_any (ops := [.ref s3.heap.objs.size, v]) ht hT hg (by with_unfolding_all rfl)
def cutV (xs : List V) (lo hi : Option Int) : List V := (xs.drop (HT.sIx xs.length 0 lo)).take (HT.sIx xs.length xs.length hi - HT.sIx xs.length 0 lo)
theorem cutV_length (xs : List V) (lo hi : Option Int) : (cutV xs lo hi).length ≤ xs.length := by
  unfold cutV
  rw [List.length_take, List.length_drop]
  omega
def rSlT (K : PySem.W.Frag) : V → Option Int → Option Int → Hp → VK → Prop := fun x lo hi H Q => ∃ a xs, x = .ref a ∧ SqT K H a xs ∧
  ¬ (HT.sIx xs.length 0 lo = 0 ∧ HT.sIx xs.length xs.length hi = xs.length) ∧ ∀ p, H p = none → Q (.ref p) (upd H p (.tup (cutV xs lo hi)))
theorem sl_tup : SlR X (rSlT X.K) := by
  intro pins s σ H x v vl vu lo hi sl Q I rx hs pl pu h
  obtain ⟨a, xs, rfl, hx, hw, q⟩ := h
  cases rx
  obtain ⟨its, r, ht, hz⟩ := I.tuple hx
  have hlen : its.toArray.size = xs.length := by rw [List.size_toArray]; exact r.length.symm
  refine ⟨"tuple", _, PyProof.Rows.slot_tuple_getitem.lookup, ht.typeIs, ?_⟩
  refine HT.getItem_tuple_cut ht hs pl pu (by rw [hlen]; exact hw) ?_ (by rw [hlen]; exact hz)
  rw [hlen]
  refine ⟨.ref s.heap.objs.size, _, I.laid (t' := s.toks) (o := .tup (cutV xs lo hi)) (fun b ob q => Heap.get?_push_of_some _ q) (Nat.le_refl _) ?_, rfl, q _ (I.hok.fresh (Nat.le_refl _))⟩
  exact ⟨Nat.le_trans (cutV_length xs lo hi) hz, _, (r.drop (HT.sIx xs.length 0 lo)).take (HT.sIx xs.length xs.length hi - HT.sIx xs.length 0 lo), IsTup.new _ _⟩
end
end L2
namespace L2
open PySem PySem.Spec PyProof.Rows
def ixN (n : Nat) (i : Int) : Option Nat := if 0 ≤ i then (if i < n then some i.toNat else none) else if -(n : Int) ≤ i then some (i + n).toNat else none
def atI {α : Type} (xs : List α) (i : Int) : Option α := (ixN xs.length i).bind fun j => xs[j]?
theorem ixN_seq {n : Nat} {i : Int} {j : Nat} (h : ixN n i = some j) : seqIndex? i n = some j ∧ j < n ∧ -(n : Int) ≤ i ∧ i < n := by
  unfold ixN at h
  by_cases h0 : 0 ≤ i
  · rw [if_pos h0] at h
    by_cases h1 : i < n
    · rw [if_pos h1] at h
      have e : i.toNat = j := Option.some.inj h
      exact ⟨by rw [seqIndex_of h0 h1, e], by omega, by omega, h1⟩
    · rw [if_neg h1] at h; cases h
  · rw [if_neg h0] at h
    by_cases h1 : -(n : Int) ≤ i
    · rw [if_pos h1] at h
      have e : (i + n).toNat = j := Option.some.inj h
      exact ⟨by rw [seqIndex_neg (by omega) h1, e], by omega, h1, by omega⟩
    · rw [if_neg h1] at h; cases h
theorem atI_get {α : Type} {xs : List α} {i : Int} {v : α} (h : atI xs i = some v) : ∃ j, seqIndex? i xs.length = some j ∧ xs[j]? = some v ∧ j < xs.length ∧ -(xs.length : Int) ≤ i ∧ i < xs.length := by
  unfold atI at h
  cases e : ixN xs.length i with
  | none => rw [e] at h; cases h
  | some j =>
    rw [e] at h
    obtain ⟨h1, h2, h3, h4⟩ := ixN_seq e
    exact ⟨j, h1, h, h2, h3, h4⟩
theorem atI_nat {α : Type} {xs : List α} {j : Nat} {v : α} (h : xs[j]? = some v) : atI xs (j : Int) = some v := by
  have hj : j < xs.length := (List.getElem?_eq_some_iff.mp h).1
  have e : ixN xs.length (j : Int) = some j := by
    unfold ixN
    rw [if_pos (by omega), if_pos (by omega)]; simp
  unfold atI; rw [e]; exact h
def PlainIx (b : Expr) : Prop := ∀ o i, subscripted b false o i = operate [o, i] (getItem o i)
def IxR (X : Cx) (r : R2) : Prop :=
  ∀ (value slice : Expr) (pins : List (Addr × Obj)) (s : Shared) (σ : St) (H : Hp) (x y : V) (v u : Value) (Q : VK), Inv X pins σ H s → RelV x v → RelV y u → r x y H Q →
    subscripted slice false v u = operate [v, u] (getItem v u) → wpAny (model X.prog X.w) X.A (subscriptTail value slice v u) (EP X pins σ Q) X.xe s
def MtR (X : Cx) (id : String) (r : V → List V → Hp → VK → Prop) : Prop :=
  ∀ (pins : List (Addr × Obj)) (s : Shared) (σ : St) (H : Hp) (x : V) (xs : List V) (v : Value) (us : List Value) (Q : VK), Inv X pins σ H s → RelV x v → Vals xs us → r x xs H Q →
    wpAny (model X.prog X.w) X.A (call (.builtin id) (v :: us)) (EP X pins σ Q) X.xe s
section
variable {X : Cx} {a b : Expr} {ta tb : TE} {pos : Pos}
theorem pe_ix {r : R2} (hr : IxR X r) (ha : PE X a ta) (hb : PE X b tb) (hs : PlainIx b) : PE X (.Subscript a b pos) (tOp r ta tb) := by
  intro pins s σ H Q I h
  exact Subscript_ (binT ha hb I h fun v u s2 x y H2 I2 rx ry q => hr a b pins s2 σ H2 x y v u Q I2 rx ry q (hs _ _))
def rIxL (K : PySem.W.Frag) : R2 := fun x y H Q => ∃ p xs i v, x = .ref p ∧ y = .int i ∧ SqL K H p xs ∧ atI xs i = some v ∧ Q v H
def rIxT (K : PySem.W.Frag) : R2 := fun x y H Q => ∃ p xs i v, x = .ref p ∧ y = .int i ∧ SqT K H p xs ∧ atI xs i = some v ∧ Q v H
def rIxS : R2 := fun x y H Q => ∃ z i c, x = .str z ∧ y = .int i ∧ z.length ≤ sizeLine ∧ atI z.cps.toList i = some c ∧ Q (.str ⟨#[c]⟩) H
theorem ix_list : IxR X (rIxL X.K) := by
  intro value slice pins s σ H x y v u Q I rx ry h hs
  obtain ⟨p, xs, i, z, rfl, rfl, hq, he, q⟩ := h
  cases rx
  obtain ⟨t, rfl⟩ := ry
  obtain ⟨its, r, pl, hz⟩ := I.list hq
  obtain ⟨j, h1, h2, h3, h4, h5⟩ := atI_get he
  obtain ⟨w, ew, rw'⟩ := r.get h2
  have hl := r.length
  have hn := line63
  have fin : EP X pins σ Q w s := ⟨z, H, I, rw', q⟩
  by_cases h0 : 0 ≤ i
  · have hj : i.toNat = j := by
      rw [seqIndex_of h0 h5] at h1
      exact Option.some.inj h1
    exact item_listR pl.isList h0 (by omega) (by rw [hj]; simpa using ew) fin hs
  · have hj : (i + (its.toArray.size : Int)).toNat = j := by
      rw [seqIndex_neg (by omega) h4] at h1
      rw [List.size_toArray, ← hl]
      exact Option.some.inj h1
    exact subscriptTail_builtinR (x := w) pl.isList.typeIs slot_list_getitem.lookup
      (wpAny_getItem_list_neg (Q := fun r s' => r = w ∧ EP X pins σ Q r s') pl.isList (by omega) (by rw [List.size_toArray] <;> omega) (by omega) (by rw [hj]; simpa using ew) ⟨rfl, fin⟩) hs
theorem ix_tup : IxR X (rIxT X.K) := by
  intro value slice pins s σ H x y v u Q I rx ry h hs
  obtain ⟨p, xs, i, z, rfl, rfl, hq, he, q⟩ := h
  cases rx
  obtain ⟨t, rfl⟩ := ry
  obtain ⟨its, r, pl, hz⟩ := I.tuple hq
  obtain ⟨j, h1, h2, h3, h4, h5⟩ := atI_get he
  obtain ⟨w, ew, rw'⟩ := r.get h2
  have hl := r.length
  have hn := line63
  have fin : EP X pins σ Q w s := ⟨z, H, I, rw', q⟩
  exact subscriptTail_builtinR (x := w) pl.typeIs slot_tuple_getitem.lookup
    (getItem_tuple (j := j) (Q := fun r s' => r = w ∧ EP X pins σ Q r s') pl (by omega) (by omega) (by rw [List.size_toArray, ← hl]; exact h1) (by simpa using ew) ⟨rfl, fin⟩) hs
theorem ix_str : IxR X rIxS := by
  intro value slice pins s σ H x y v u Q I rx ry h hs
  obtain ⟨z, i, c, rfl, rfl, hz, he, q⟩ := h
  obtain ⟨t, rfl⟩ := rx
  obtain ⟨t', rfl⟩ := ry
  obtain ⟨j, h1, h2, h3, h4, h5⟩ := atI_get he
  have hl : z.cps.toList.length = z.length := by simp [Str.length]
  rw [hl] at h1 h4 h5
  have hn := line63
  exact tail_any (typeIs_str s z t) slot_str_getitem.lookup (getItem_str (c := c) (by
    have e1 : decide (i < -(2 ^ 63 : Int)) = false := decide_eq_false (by omega)
    have e2 : decide (i ≥ 2 ^ 63) = false := decide_eq_false (by omega)
    rw [e1, e2, Bool.or_false]) (by rw [h1]; simpa using h2) ⟨.str ⟨#[c]⟩, H, I.tok _, ⟨_, rfl⟩, q⟩) hs
theorem slice_bounds (lo hi : Option Int) (n : Nat) : (sliceBounds lo hi none n).1 = ((HT.sIx n 0 lo : Nat) : Int) ∧ (sliceBounds lo hi none n).2.1 = ((HT.sIx n n hi : Nat) : Int) ∧ (sliceBounds lo hi none n).2.2 = 1 := by
  refine ⟨?_, ?_, rfl⟩
  · cases lo with
    | none => simp [sliceBounds, HT.sIx]
    | some i =>
      simp only [sliceBounds, HT.sIx, Option.getD_none, show (1 : Int) > 0 by decide, if_true]
      by_cases h : i < 0
      · simp only [h, if_true] <;> omega
      · simp only [h, if_false] <;> omega
  · cases hi with
    | none => simp [sliceBounds, HT.sIx]
    | some i =>
      simp only [sliceBounds, HT.sIx, Option.getD_none, show (1 : Int) > 0 by decide, if_true]
      by_cases h : i < 0
      · simp only [h, if_true] <;> omega
      · simp only [h, if_false] <;> omega
theorem slicePick_cut (its : List Value) (lo hi : Option Int) : slicePick its.toArray lo hi none = ((its.drop (HT.sIx its.length 0 lo)).take (HT.sIx its.length its.length hi - HT.sIx its.length 0 lo)).toArray := by
  obtain ⟨h1, h2, h3⟩ := slice_bounds lo hi its.toArray.size
  unfold slicePick
  rw [h1, h2, h3]
  simp only [sliceRange_one, pick_run, List.size_toArray] <;> rfl
def rSlL (K : PySem.W.Frag) : V → Option Int → Option Int → Hp → VK → Prop := fun x lo hi H Q => ∃ a xs, x = .ref a ∧ SqL K H a xs ∧ ∀ p, H p = none → Q (.ref p) (upd H p (.lst (cutV xs lo hi)))
theorem sl_list : SlR X (rSlL X.K) := by
  intro pins s σ H x v vl vu lo hi sl Q I rx hs pl pu h
  obtain ⟨a, xs, rfl, hx, q⟩ := h
  cases rx
  obtain ⟨its, r, ht, hz⟩ := I.list hx
  have hlen := r.length
  refine ⟨"list", _, slot_list_getitem.lookup, ht.isList.typeIs, ?_⟩
  refine wpAny_getItem_list_slice ht.isList hs pl pu .none (by simp) ?_ (by rw [List.size_toArray] <;> omega)
  rw [slicePick_cut, ← hlen]
  refine ⟨.ref s.heap.objs.size, _, I.laid (t' := s.toks) (o := .lst (cutV xs lo hi)) (fun b ob q => Heap.get?_push_of_some _ q) (Nat.le_refl _) ?_, rfl, q _ (I.hok.fresh (Nat.le_refl _))⟩
  exact ⟨Nat.le_trans (cutV_length xs lo hi) hz, _, 0, (r.drop (HT.sIx xs.length 0 lo)).take (HT.sIx xs.length xs.length hi - HT.sIx xs.length 0 lo), Heap.get?_push_size _ rfl⟩
theorem call_len_seq : CallR X (.builtin "len") (fun xs H Q => ∃ p ys, xs = [.ref p] ∧ (SqL X.K H p ys ∨ SqT X.K H p ys) ∧ Q (.int ys.length) H) := by
  intro pins s σ H xs us Q I r h
  obtain ⟨p, ys, rfl, hq, q⟩ := h
  obtain ⟨u, rfl, rx⟩ := vals1 r
  cases rx
  have hn := line63
  rcases hq with hq | hq
  · obtain ⟨its, r', pl, hz⟩ := I.list hq
    have hlen := r'.length
    exact Calls.call_len_list pl.isList (by simp only [List.size_toArray] <;> omega) ⟨.int ys.length, H, I.tok _, ⟨s.toks + 1, by rw [List.size_toArray, hlen]⟩, q⟩
  · obtain ⟨its, r', pl, hz⟩ := I.tuple hq
    have hlen := r'.length
    exact len_tuple pl (by simp only [List.size_toArray] <;> omega) ⟨.int ys.length, H, I.tok _, ⟨s.toks + 1, by rw [List.size_toArray, hlen]⟩, q⟩
theorem call_tuple_of : CallR X (.type "tuple") (fun xs H Q => ∃ p ys, xs = [.ref p] ∧ ((SqL X.K H p ys ∧ ∀ l, H l = none → Q (.ref l) (upd H l (.tup ys))) ∨ (SqT X.K H p ys ∧ Q (.ref p) H))) := by
  intro pins s σ H xs us Q I r h
  obtain ⟨p, ys, rfl, h⟩ := h
  obtain ⟨u, rfl, rx⟩ := vals1 r
  cases rx
  rcases h with ⟨hq, q⟩ | ⟨hq, q⟩
  · obtain ⟨its, r', pl, hz⟩ := I.list hq
    have hlen := r'.length
    refine call_tuple_list pl.isList (fun h' kp => ?_) (by simp only [List.size_toArray] <;> omega)
    have I1 : Inv X pins σ H { s with heap := h' } := I.kept (t' := s.toks) kp
    have I2 : Inv X pins σ (upd H h'.objs.size (.tup ys)) { s with heap := h'.push { cls := .type "tuple", data := .seq its.toArray } } :=
      I1.laid (t' := s.toks) (fun b o e => Heap.get?_push_of_some _ e) (Nat.le_refl _) (show ObjOk X.prog X.w _ _ _ (.tup ys) from ⟨hz, its, r', IsTup.new _ _⟩)
    exact ⟨.ref h'.objs.size, _, I2, rfl, q _ (I1.hok.fresh (Nat.le_refl _))⟩
  · obtain ⟨its, r', pl, hz⟩ := I.tuple hq
    exact call_tuple_same pl ⟨.ref p, H, I, rfl, q⟩
def tyV (K : PySem.W.Frag) (T : String) (x : V) (H : Hp) : Prop := match x with
  | .str _ => T = "str"
  | .int _ => T = "int"
  | .ref p => (T = "list" ∧ ∃ xs, SqL K H p xs) ∨ (T = "tuple" ∧ ∃ o, K.lookup p = some o ∧ o.cls = .type "tuple" ∧ o.dict = none) ∨
      (T = "dict" ∧ ((∃ kvs, H p = some (.dK kvs)) ∨ ∃ kvs, H p = some (.dT kvs))) ∨ (T = "set" ∧ ∃ S n, H p = some (.set S n))
  | _ => False
theorem tyV_is {pins : List (Addr × Obj)} {σ : St} {H : Hp} {s : Shared} {T : String} {x : V} {v : Value} (I : Inv X pins σ H s) (r : RelV x v) (ty : tyV X.K T x H) :
    s.TypeIs v T ∧ ∀ a, v = .ref a → ∃ ob, s.heap.get? a = some ob ∧ ob.dict = none := by
  cases x with
  | str z =>
    obtain ⟨t, rfl⟩ := r
    cases (show T = "str" from ty)
    exact ⟨typeIs_str s z t, fun _ e => nomatch e⟩
  | int i =>
    obtain ⟨t, rfl⟩ := r
    cases (show T = "int" from ty)
    exact ⟨typeIs_int s i t, fun _ e => nomatch e⟩
  | ref p =>
    cases r
    rcases ty with ⟨rfl, xs, hq⟩ | ⟨rfl, o, hk, hc, hd⟩ | ⟨rfl, hk⟩ | ⟨rfl, S, n, hk⟩
    · obtain ⟨its, _, pl, _⟩ := I.list hq
      refine ⟨pl.isList.typeIs, fun a e => ?_⟩
      cases e
      obtain ⟨o, n, e, c, hd, _⟩ := pl
      exact ⟨o, e, hd⟩
    · refine ⟨⟨o, I.kIn p o hk, hc⟩, fun a e => ?_⟩
      cases e
      exact ⟨o, I.kIn _ o hk, hd⟩
    · have z : ∃ o, s.heap.get? p = some o ∧ o.ExactDict := by
        rcases hk with ⟨kvs, hk⟩ | ⟨kvs, hk⟩
        · obtain ⟨_, _, _, _, o, _, _, e, ex, _⟩ := I.hok p _ hk
          exact ⟨o, e, ex⟩
        · obtain ⟨_, _, _, _, o, _, _, e, ex, _⟩ := I.hok p _ hk
          exact ⟨o, e, ex⟩
      obtain ⟨o, e, ex⟩ := z
      refine ⟨⟨o, e, ex.1⟩, fun a e2 => ?_⟩
      cases e2
      exact ⟨o, e, ex.2.1⟩
    · obtain ⟨o, _, _, _, e, ex, _⟩ := I.hok p _ hk
      refine ⟨⟨o, e, ex.1⟩, fun a e2 => ?_⟩
      cases e2
      exact ⟨o, e, ex.2.1⟩
  | _ => exact False.elim ty
def tBM (K : PySem.W.Frag) (T : String) (r : V → List V → Hp → VK → Prop) (to : TE) (t : TA) : TE := fun σ H Q => to σ H fun x H1 => tyV K T x H1 ∧ t σ H1 fun xs H2 => r x xs H2 Q
variable {o e : Expr} {es : List Expr} {to : TE} {t : TA} {name : Str} {apos cpos : Pos} {T id : String} {r : V → List V → Hp → VK → Prop}
theorem pe_bm (pa : PlainAttrs T) (slot : Slot T name id) (hty : typeOf (.builtin id) = pure (.type "method_descriptor")) (hm : MtR X id r) (ho : PE X o to) (ha : PA X (e :: es) t)
    (hbase : attributeBase o name X.env (eval o X.env) = eval o X.env := by rfl)
    (hfew : ((backTo cpos (starEach (e :: es) X.env)).all (fun x => !x.1) && (backToKw cpos (keywordEach [] X.env)).all (fun x => x.1.isSome)
      && decide ((e :: es).length + ([] : List Keyword).length + (if ([] : List Keyword).isEmpty then 0 else 1) < 30)) = true := by rfl)
    (hline : (apos.endLine == cpos.line) = true := by rfl) (hs : starEach (e :: es) X.env = (false, eval e X.env) :: starEach es X.env := by rfl) (hplain : (backTo cpos (starEach es X.env)).any (·.1) = false := by rfl) :
    PE X (.Call (.Attribute o name apos) (e :: es) [] cpos) (tBM X.K T r to t) := by
  intro pins s σ H Q I h
  refine wpAny_Call_method_late hbase hfew hline rfl (thn (ho pins s σ H _ I h) fun v s1 ⟨x, H1, I1, r1, ty, q1⟩ => ?_)
  obtain ⟨h1, h2⟩ := tyV_is I1 r1 ty
  refine ⟨T, id, pa, slot, hty, h1, h2, ?_⟩
  have hA := ha cpos pins s1 σ H1 _ I1 q1
  rw [hs] at hA ⊢
  refine Calls.callWith_builtin (by show (false || (backTo cpos (starEach es X.env)).any (·.1)) = false; rw [hplain] <;> rfl) (Calls.evalArgs_plain ?_)
  exact thn hA fun us s2 ⟨vs, H2, I2, r2, q2⟩ => hm pins s2 σ H2 x vs v us Q I2 r1 r2 q2
end
end L2
namespace L2
open PySem PySem.Spec PyProof.Rows
def MtM (X : Cx) (id : String) (r : V → List V → Hp → VK → Prop) : Prop :=
  ∀ (pins : List (Addr × Obj)) (s : Shared) (σ : St) (H : Hp) (x : V) (xs : List V) (v : Value) (us : List Value) (Q : VK), Inv X pins σ H s → RelV x v → Vals xs us → r x xs H Q →
    wpAny (model X.prog X.w) X.A (call (.builtin id) (v :: us)) (EP X pins σ Q) X.xe s
theorem Vals.one : ∀ {x : V} {us : List Value}, Vals [x] us → ∃ u, us = [u] ∧ RelV x u
  | _, _, .cons r .nil => ⟨_, rfl, r⟩
theorem Vals.rep {xs : List V} {us : List Value} (h : Vals xs us) : ∀ k : Nat, Vals (List.replicate k xs).flatten (List.replicate k us).flatten
  | 0 => .nil
  | k + 1 => by
    rw [List.replicate_succ, List.replicate_succ, List.flatten_cons, List.flatten_cons]
    exact Vals.append h (Vals.rep h k)
theorem foldl_rep (its : List Value) : ∀ (k : Nat) (acc : List Value),
    List.foldl (fun x1 x2 => x1 ++ x2) acc.toArray (List.replicate k its.toArray) = (acc ++ (List.replicate k its).flatten).toArray
  | 0, acc => by simp
  | k + 1, acc => by
    have e : acc.toArray ++ its.toArray = (acc ++ its).toArray := by simp
    have e2 : (acc ++ its) ++ (List.replicate k its).flatten = acc ++ (List.replicate (k + 1) its).flatten := by
      rw [List.replicate_succ, List.flatten_cons, List.append_assoc]
    rw [← e2, ← foldl_rep its k (acc ++ its), ← e, List.replicate_succ, List.foldl_cons]
section
variable {X : Cx} {pins : List (Addr × Obj)} {σ : St} {H : Hp} {s : Shared} {l b : Addr} {xs ys zs : List V}
theorem Inv.lset {its its' : List Value} {n : Nat} {f : Array Value → Array Value} {t' : Nat} (I : Inv X pins σ H s) (hH : H l = some (.lst xs))
    (e : s.heap.get? l = some { cls := .type "list", data := .seq its.toArray n }) (hf : f its.toArray = its'.toArray) (hv : Vals ys its') (hz : ys.length ≤ sizeLine) :
    Inv X pins σ (upd H l (.lst ys)) { s with heap := s.heap.update l (Obj.mapSeq f), toks := t' } := by
  have q := PySem.IsL.update e f
  rw [hf] at q
  refine I.write (x := l) (e := l) (by rw [hH]; exact trivial) (.inl rfl) (fun b' u hb hu => (Heap.get?_update_other s.heap (Obj.mapSeq f) (Ne.symm hb)).trans hu) ⟨_, q⟩ ?_
  exact ⟨hz, its', _, hv, q⟩
theorem Inv.lnew {its : List Value} {t' : Nat} (I : Inv X pins σ H s) (hv : Vals ys its) (hz : ys.length ≤ sizeLine) :
    Inv X pins σ (upd H s.heap.objs.size (.lst ys)) { s with heap := s.heap.push { cls := .type "list", data := .seq its.toArray }, toks := t' } :=
  I.laid (fun _ _ q => Heap.get?_push_of_some _ q) (Nat.le_refl _) ⟨hz, its, 0, hv, Heap.get?_push_size _ rfl⟩
theorem Inv.fresh (I : Inv X pins σ H s) : H s.heap.objs.size = none := I.hok.fresh (Nat.le_refl _)
theorem Inv.lstM (I : Inv X pins σ H s) (hH : H l = some (.lst xs)) : xs.length ≤ sizeLine ∧ ∃ (its : List Value) (n : Nat), Vals xs its ∧ xs.length = its.length ∧ s.heap.get? l = some { cls := .type "list", data := .seq its.toArray n } := by
  obtain ⟨z, its, n, r, e⟩ := I.hok l _ hH
  exact ⟨z, its, n, r, r.length, e⟩
theorem notLongL {n : Nat} (h : n ≤ sizeLine) : Builtin.List.listTooLong n = false := by
  unfold Builtin.List.listTooLong
  exact decide_eq_false (by omega)
end
section
variable {X : Cx}
def rAppend : V → List V → Hp → VK → Prop := fun x vs H Q => ∃ l xs y, x = .ref l ∧ vs = [y] ∧ H l = some (.lst xs) ∧ xs.length < sizeLine ∧ Q .non (upd H l (.lst (xs ++ [y])))
theorem mt_append : MtM X "list.append" rAppend := by
  intro pins s σ H x vs v us Q I rx rv h
  obtain ⟨l, xs, y, rfl, rfl, hH, hz, q⟩ := h
  cases rx
  obtain ⟨u, rfl, ru⟩ := rv.one
  obtain ⟨z, its, n, r, hl, e⟩ := I.lstM hH
  refine call_meets F.slot_list_append ⟨_, e, rfl⟩ F.entry_list_append (F.args_list_append_2 _ _) (PySem.list_append l its.toArray n u (by rw [List.size_toArray]; omega)) ⟨e, ?_⟩
  refine ⟨.non, _, I.lset (its' := its ++ [u]) hH e (by simp) (r.append (.cons ru .nil)) ?_, rfl, q⟩
  rw [List.length_append, List.length_singleton]
  omega
def rExtend : V → List V → Hp → VK → Prop := fun x vs H Q => ∃ l b xs zs, x = .ref l ∧ vs = [.ref b] ∧ H l = some (.lst xs) ∧ H b = some (.lst zs) ∧ xs.length + zs.length ≤ sizeLine ∧ Q .non (upd H l (.lst (xs ++ zs)))
theorem mt_extend : MtM X "list.extend" rExtend := by
  intro pins s σ H x vs v us Q I rx rv h
  obtain ⟨l, b, xs, zs, rfl, rfl, hH, hB, hz, q⟩ := h
  cases rx
  obtain ⟨u, rfl, ru⟩ := rv.one
  cases ru
  obtain ⟨z, its, n, r, hl, e⟩ := I.lstM hH
  obtain ⟨z2, its2, n2, r2, hl2, e2⟩ := I.lstM hB
  have hsz : its.toArray.size + its2.toArray.size ≤ sizeLine := by rw [List.size_toArray, List.size_toArray]; omega
  have hlong : ¬ (!its.toArray.isEmpty && Builtin.List.listTooLong (its.toArray.size + its2.toArray.size)) = true := by
    rw [notLongL hsz, Bool.and_false]
    exact Bool.false_ne_true
  refine call_meets F.slot_list_extend ⟨_, e, rfl⟩ F.entry_list_extend (F.args_list_extend_2 _ _)
    (AutoSeq1.list_extend_list_list_0 l its.toArray n b its2.toArray n2 hlong (by rw [List.size_toArray]; omega) (by omega)) ⟨e, e2, ?_⟩
  refine ⟨.non, _, I.lset (its' := its ++ its2) hH e (by simp) (r.append r2) ?_, rfl, q⟩
  rw [List.length_append]
  omega
def rRep : R2 := fun x y H Q => ∃ l k xs, x = .ref l ∧ y = .int k ∧ H l = some (.lst xs) ∧ -(2 ^ 63) ≤ k ∧ k < 2 ^ 63 ∧ xs.length * k.toNat ≤ sizeLine ∧
  ∀ p, H p = none → Q (.ref p) (upd H p (.lst (List.replicate k.toNat xs).flatten))
theorem len_rep {α : Type} (xs : List α) (k : Nat) : (List.replicate k xs).flatten.length = k * xs.length := by
  induction k with
  | zero => simp
  | succ k ih => rw [List.replicate_succ, List.flatten_cons, List.length_append, ih, Nat.succ_mul, Nat.add_comm]
theorem op_rep : OpR X (binaryOp .Mult) rRep := by
  intro pins s σ H x y v u Q I rx ry h
  obtain ⟨l, k, xs, rfl, rfl, hH, h1, h2, hz, q⟩ := h
  cases rx
  obtain ⟨t, rfl⟩ := ry
  obtain ⟨z, its, n, r, hl, e⟩ := I.lstM hH
  have hlen : its.toArray.size * k.toNat ≤ sizeLine := by rw [List.size_toArray, ← hl]; exact hz
  have hcap : ¬ its.toArray.size * k.toNat > (2 ^ 63 - 1) / 8 := by
    have : (sizeLine : Nat) ≤ (2 ^ 63 - 1) / 8 := by decide
    omega
  have hfit : ¬ (!Builtin.List.listFitsIndex k) = true := by
    rw [fitsIndex_both h1 h2]
    exact Bool.false_ne_true
  have hlong : ¬ Builtin.List.listTooLong (its.toArray.size * k.toNat) = true := by
    rw [notLongL hlen]
    exact Bool.false_ne_true
  have hnew : List.foldl (fun x1 x2 => x1 ++ x2) #[] (List.replicate (if its.toArray.isEmpty = true then 0 else k.toNat) its.toArray) = (List.replicate k.toNat its).flatten.toArray := by
    have f0 : ∀ m : Nat, List.foldl (fun x1 x2 => x1 ++ x2) #[] (List.replicate m its.toArray) = (List.replicate m its).flatten.toArray := fun m => by
      have := foldl_rep its m []
      rw [List.nil_append] at this
      exact this
    rw [f0]
    cases its with
    | nil => simp
    | cons a r' => rw [if_neg (by simp)]
  refine wpAny_binaryOp_repeat_ref (T := "list") (U := "int") (by decide) ⟨_, e, rfl⟩ (fun s' => typeIs_int s' k t) noFill_list_mul F.fills_int_mul F.slot_int_rmul repeat_list F.slot_int_index.lookup
    (call_meets F.slot_int_rmul (typeIs_int s k t) F.entry_int_rmul (F.args_int_rmul_2 _ _) (int___rmul___int_list k t l its.toArray n)
      ⟨e, rfl, ⟨_, e, rfl⟩, call_meets F.slot_list_mul ⟨_, e, rfl⟩ F.entry_list_mul (F.args_list_mul_2 _ _) (AutoListH.list___mul___list_int_3 l its.toArray n k t hfit hcap hlong) ⟨e, ?_⟩⟩)
  rw [hnew]
  exact ⟨.ref _, _, I.lnew (t' := s.toks) (r.rep k.toNat) (by rw [len_rep, Nat.mul_comm]; exact hz), rfl, q _ I.fresh⟩
end
section
variable {prog : Program} {w : World} {A : Around} {E : Value → Shared → Prop} {s : Shared}
end
section
variable {X : Cx}
end
end L2
namespace Att
open PySem PySem.W PySem.Calls PyProof.Rows
theorem ints_of_wellAll {P : Params} {h : Heap} : ∀ (ns : List Int) (vs : List Value), WellAll P h vs (ns.map WData.int) → IntsAre vs ns := by
  intro ns
  induction ns with
  | nil =>
    intro vs w
    rw [List.map_nil] at w
    cases w
    exact .nil
  | cons n ns ih =>
    intro vs w
    rw [List.map_cons] at w
    cases w with
    | cons a b =>
      cases a
      exact .cons _ _ (ih _ b)
theorem script_of {l : OpenLaw} {n : Nat} (hn : l.most = some n) {P : Params} {h : Heap} {args : List WData} {vals : List Value}
    (hpre : l.row.toRowW.claim.pre args = true) (hwl : WellAll P h vals args) :
    ∃ a vs ns, vals = [Value.ref a] ∧ args = [WData.list (ns.map WData.int)] ∧ h.get? a = some { cls := .type "list", data := .seq vs.toArray } ∧ IntsAre vs ns ∧ ns.length ≤ n := by
  have hsh : WShape.hasAll [] args [.list .int] = true := (pre_splitW hpre).1
  have hc : l.pre.holds [] { args := args } = true := (pre_splitW hpre).2
  obtain ⟨d, r, rfl, h1, h2⟩ := hasAllW_cons hsh
  obtain rfl := hasAllW_nil h2
  obtain ⟨xs, rfl, h3⟩ := hasW_list h1
  obtain ⟨ns, rfl⟩ := items_int h3
  have hlen : ns.length ≤ n := by
    unfold OpenLaw.pre at hc
    have h4 : (WTm.not (.lt (.lit (.int (n : Int))) (.len (.arg 0)))).holds [] { args := [.list (ns.map .int)] } = true := by
      have h4 := (holds_andW hc).1
      rw [hn] at h4
      exact h4
    have h5 := condW_of h4 (w_not (w_lt w_lit (w_len_list (w_arg rfl))))
    rw [List.length_map] at h5
    refine Nat.le_of_not_lt fun q => ?_
    have q' : (n : Int) < ((ns.length : Nat) : Int) := by omega
    first
      | (rw [decide_eq_true q'] at h5; exact absurd h5 (by decide))
      | (simp at h5; omega)
  cases hwl with
  | cons w1 w2 =>
    cases w2
    cases w1 with
    | list ho hall => exact ⟨_, _, ns, rfl, rfl, ho, ints_of_wellAll ns _ hall, hlen⟩
theorem post_true (l : OpenLaw) (args : List WData) : l.row.toRowW.claim.post args (.bool true) args = true :=
  postW_of (r := l.row.toRowW) (X := (true == true))
    (show WShape.has [] (.bool true) .bool = true by first | rfl | decide | simp [WShape.has, WShape.arms, WShape.armsAll])
    (show (WTm.eq .res (.lit (.bool true))).value [] { args := args, res := some (.bool true), after := args } = some (.bool (true == true)) from w_eq_bool (w_res rfl) w_lit) rfl
section
variable {prog : Program} {w : World} {A : Around} {E : Value → Shared → Prop} {s : Shared} {K : Frag}
end
end Att
namespace L2
open PySem PySem.Spec PyProof.Rows
theorem vals_ints : ∀ {vs : List Value} {ns : List Int}, IntsAre vs ns → Vals (ns.map V.int) vs
  | _, _, .nil => .nil
  | _, _, .cons n t h => .cons ⟨t, rfl⟩ (vals_ints h)
def Only (H : Hp) : Prop := ∀ b, H b = none ∨ ∃ o xs, H b = some (.frz o (.lst xs))
theorem law_call {P : Program} {w : World} {K : PySem.W.Frag} {mg mb : Str → Option Value} {CX : CXT} {k : Nat} {fa a : Addr} {fd : FuncData} {x : Str} {sp : Sp} {s₁ : Shared} {vs : List Value} {ns : List Int}
    (KX : K.In s₁.heap) (hns : s₁.heap.Ns mainGlobals mg) (hb : s₁.heap.Ns builtinsNs mb) (hbb : ∀ x : Str, x ≠ "__name__" → mb x = bootBuiltins x) (hlim : s₁.heap.NoLimit) (hg : s₁.gens = #[])
    (ha : s₁.heap.get? a = some { cls := .type "list", data := .seq vs.toArray }) (hi : IntsAre vs ns) (hl : ns.length ≤ sizeLine) (hr : Room k callerA)
    (F : ∀ base : Heap, K.In base → base.Ns mainGlobals mg → FnOk P w K mg base CX k fa fd [x] sp) (hbind : ∀ (s : Shared) (u : Value), BindsTo s fd ⟨[u], []⟩ [(x, u)])
    (hsp : ∀ H : Hp, Only H → SqL K H a (ns.map V.int) → sp [.ref a] H (fun v _ => v = .bl true) fun _ _ _ => False)
    (hCX : ∀ H e s', CX [] H s₁ (fun _ _ _ => False) e s' → False) :
    codeAny (model P w) callerA (.call (.ref fa) ⟨[.ref a], []⟩) (fun r s' => r = .ok (.ret (.bool true)) ∧ OldK s₁.heap s'.heap ∧ s'.os = s₁.os ∧ AllBare s'.gens) s₁ := by
  have rv := vals_ints hi
  have lenV := hi.length
  -- from an abstract heap in which nothing but the script may be tracked
  have core : ∀ H : Hp, Only H → SqL K H a (ns.map V.int) → HOk P w H s₁.heap → (∀ b, H b ≠ none → b = a) → (H a ≠ none → K.lookup a = none) →
      codeAny (model P w) callerA (.call (.ref fa) ⟨[.ref a], []⟩) (fun r s' => r = .ok (.ret (.bool true)) ∧ OldK s₁.heap s'.heap ∧ s'.os = s₁.os ∧ AllBare s'.gens) s₁ := by
    intro H hO hS hok hA hK
    have base_of : ∀ {b : Addr} {o : Obj}, s₁.heap.get? b = some o → H b = none → (hidT s₁.heap H).get? b = some o := fun e n => hidT_get e n
    have noA : ∀ {b : Addr} {o : Obj} {es : Array DictEntry} {ep : Nat}, s₁.heap.get? b = some o → o.data = .dict es ep → H b = none := fun {b o es ep} e d => by
      cases q : H b with
      | none => rfl
      | some u =>
        have e' : b = a := hA b (by rw [q]; simp)
        subst e'
        rw [ha] at e; cases e
        have d' : Data.seq vs.toArray _ = Data.dict es ep := d
        cases d'
    have nsK : ∀ {b : Addr} {m : Str → Option Value}, s₁.heap.Ns b m → (hidT s₁.heap H).Ns b m := fun {b m} ⟨o, es, ep, e, d, r⟩ => ⟨o, es, ep, base_of e (noA e d), d, r⟩
    have hKb : K.In (hidT s₁.heap H) := fun b o e => base_of (KX b o e) (by
      cases q : H b with
      | none => rfl
      | some u =>
        have e' : b = a := hA b (by rw [q]; simp)
        subst e'
        rw [hK (by rw [q]; simp)] at e; cases e)
    have hM : Mod K mg (hidT s₁.heap H) := ⟨hKb, nsK hns, ⟨mb, nsK hb, hbb⟩, let ⟨mc, h1, h2⟩ := hlim; ⟨mc, nsK h1, h2⟩⟩
    have e0 : Env0 P w K mg (hidT s₁.heap H) callerA [] s₁ H := ⟨rfl, hM, fun b o e => of_hidT e, Nat.le_of_eq (hidT_size _ _), trivial, fun b hb => absurd (show b ∈ ([] : List Addr) from hb) (by simp), hok, .of_eq hg⟩
    refine codeAny_mono ((F _ hKb (nsK hns)).run callerA [] s₁ H ⟨[.ref a], []⟩ [.ref a] [.ref a] _ _ hr e0 (hbind s₁ (.ref a)) (.cons rfl .nil) (hsp H hO hS)) fun r s' h => ?_
    cases r with
    | error e => exact (hCX H e s' h).elim
    | ok fl =>
      cases fl with
      | next => exact False.elim h
      | brk => exact False.elim h
      | cont => exact False.elim h
      | ret u =>
        obtain ⟨v, H', os, bare, un, hok', r', q⟩ := h
        have q' : v = .bl true := q
        subst q'
        obtain rfl : u = Value.bool true := r'
        refine ⟨rfl, OldK.of_keep fun b o e => ?_, os, bare⟩
        cases q : H b with
        | none => exact un.keep b o e q (by intro z; exact absurd (show b ∈ ([] : List Addr) from z) (by simp)) (by simp)
        | some u =>
          rcases hO b with z | ⟨ob, xs, z⟩
          · rw [q] at z; cases z
          · have z2 := un.frzs b ob _ z
            obtain ⟨e1, _⟩ := hok b _ z
            obtain ⟨e2, _⟩ := hok' b _ z2
            rw [e] at e1; cases e1
            exact e2
  cases hk : K.lookup a with
  | some o =>
    -- the script is one of the module's own objects
    have e := KX a o hk
    rw [ha] at e
    cases e
    refine core (fun _ => none) (fun _ => .inl rfl) (.inr ⟨_, vs.toArray, _, hk, rfl, rfl, rfl, by rw [List.size_toArray, lenV]; exact hl, by simpa using rv⟩) (fun b u z => by have z' : (none : Option HO) = some u := z; cases z') (fun b z => absurd rfl z) fun z => absurd rfl z
  | none =>
    refine core (fun b => if b = a then some (.frz { cls := .type "list", data := .seq vs.toArray } (.lst (ns.map V.int))) else none) (fun b => ?_) (.inl (.inr ⟨{ cls := .type "list", data := .seq vs.toArray }, if_pos rfl⟩)) (fun b u z => ?_) (fun b z => ?_) fun _ => hk
    · by_cases hb : b = a
      · exact .inr ⟨_, _, if_pos hb⟩
      · exact .inl (if_neg hb)
    · by_cases hb : b = a
      · have z' := (if_pos hb).symm.trans z
        cases z'
        subst hb
        exact ⟨ha, by rw [List.length_map]; exact hl, vs, _, rv, ha⟩
      · have z' := (if_neg hb).symm.trans z
        cases z'
    · by_cases hb : b = a
      · exact hb
      · exact absurd (if_neg hb) z
end L2
namespace L2
open PySem PySem.Spec PyProof.Rows
abbrev KOf {K : PySem.W.Frag} {h : Heap} (_ : K.In h) : PySem.W.Frag := K
end L2
namespace L2
open PySem PySem.Spec PyProof.Rows
def inClass (s : Stmt) (j : Nat) : Stmt := match s with
  | .ClassDef _ _ _ body _ _ _ _ _ _ _ => body.getD j (.Pass ⟨0, 0, 0, 0⟩)
  | _ => .Pass ⟨0, 0, 0, 0⟩
def defArgs (s : Stmt) : Arguments := match s with
  | .FunctionDef _ a _ _ _ _ _ _ _ _ => a
  | _ => { posonlyargs := [], args := [], vararg := none, kwonlyargs := [], kw_defaults := [], kwarg := none, defaults := [] }
def defBody (s : Stmt) : List Stmt := match s with
  | .FunctionDef _ _ b _ _ _ _ _ _ _ => b
  | _ => []
def defScope (s : Stmt) : Scope := match s with
  | .FunctionDef _ _ _ _ _ _ sc _ _ _ => sc
  | _ => { kind := .function, names := [], isGenerator := false, isCoroutine := false }
abbrev CX0 : CXT := fun _ _ _ _ _ _ => False
abbrev E0 : XK := fun _ _ _ => False
theorem pass0 {X : Cx} : Passes CX0 X E0 := fun _ _ _ _ _ _ _ h => h.elim
structure Fun (K : PySem.W.Frag) (x qual : Str) (st : Stmt) (f : Addr) (fd : FuncData) : Prop where
  ex : ∃ (oc : Value) (od : Option Addr) (kV doc pm : Value) (an : Option Addr) (cdv ct : Value) (osl : Array (Option Value)),
    fd = PySem.W.fnOf x qual (defArgs st) (defBody st) (defScope st) .none kV doc pm an cdv ct ∧ K.lookup f = some ⟨oc, od, .func fd, osl⟩ ∧ PySem.W.codeIn K cdv qual = true
  kp : PySem.W.keepIn K (.ref f) = true
section
variable {P : Program} {w : World} {K : PySem.W.Frag} {mg : Str → Option Value} {base : Heap}
theorem Fun.ok {x qual : Str} {st : Stmt} {f : Addr} {fd : FuncData} {N ps : List Str} {k : Nat} {sp : Sp} (F : Fun K x qual st f fd) (S : FnScope N ps (defScope st)) (len : ∀ vs H Q E, sp vs H Q E → vs.length = ps.length)
    (hbody : ∀ (cdv : Value) (A : Around) (outer : List Env) (s : Shared) (H : Hp) (vs : List V) (Q : VK) (E : XK), Room k (A.deeper (envOfC qual (defScope st) s.heap.objs.size f cdv)) → sp vs H Q E →
      ∃ t, PSs (cxOf CX0 P w K mg base N qual (defScope st) f cdv A outer s H E).nox (defBody st) t ∧ t { nx := fun _ H' => Q .non H', rt := Q } (start N vs) H) : FnOk P w K mg base CX0 (k + 1) f fd ps sp := by
  obtain ⟨oc, od, kV, doc, pm, an, cdv, ct, osl, rfl, lk, hcd⟩ := F.ex
  refine fn_of lk hcd S len fun A outer s H vs Q E hr hsp => ?_
  obtain ⟨t, h, q⟩ := hbody cdv A outer s H vs Q E hr hsp
  exact ⟨t, h.nox, q⟩
theorem Fun.binds {x qual : Str} {st : Stmt} {f : Addr} {fd : FuncData} {ps : List Str} (F : Fun K x qual st f fd)
    (h : ∀ (kV doc pm : Value) (an : Option Addr) (cdv ct : Value) (us : List Value), us.length = ps.length → bindArgs (PySem.W.fnOf x qual (defArgs st) (defBody st) (defScope st) .none kV doc pm an cdv ct) ⟨us, []⟩ = pure (ps.zip us)) : Binds K fd ps [] := by
  obtain ⟨oc, od, kV, doc, pm, an, cdv, ct, osl, rfl, lk, hcd⟩ := F.ex
  exact .all (h kV doc pm an cdv ct)
theorem fun_mk {x qual : Str} {st : Stmt} {f : Addr} {oc : Value} {od an : Option Addr} {osl : Array (Option Value)} {kV doc pm cdv ct : Value} (l : K.lookup f = some ⟨oc, od, .func (PySem.W.fnOf x qual (defArgs st) (defBody st) (defScope st) .none kV doc pm an cdv ct), osl⟩)
    (c : PySem.W.codeIn K cdv qual = true) (k : PySem.W.keepIn K (.ref f) = true) : Fun K x qual st f (PySem.W.fnOf x qual (defArgs st) (defBody st) (defScope st) .none kV doc pm an cdv ct) := ⟨⟨oc, od, kV, doc, pm, an, cdv, ct, osl, rfl, l, c⟩, k⟩
end
section
variable {X : Cx}
theorem pv (i : Nat) {x : Str} {pos : Pos} (hN : X.N[i]? = some x := by rfl) (hv : Vis X.env.scope x := by first | exact Or.inl rfl | exact Or.inr (Or.inl rfl) | exact Or.inr (Or.inr rfl)) (hd : (x == ("__debug__" : Str)) = false := by decide)
    (hcd : (x == ("__classdict__" : Str)) = false := by decide) : PE X (.Name x pos) (tVar i) := pe_var hN hv hd hcd
end
def Same (H H' : Hp) : Prop := ∀ b o, H b = some o → H' b = some o
theorem Same.refl (H : Hp) : Same H H := fun _ _ h => h
theorem Same.trans {H H1 H2 : Hp} (a : Same H H1) (b : Same H1 H2) : Same H H2 := fun c o h => b c o (a c o h)
end L2

namespace L2
open PySem PySem.Spec PyProof.Rows
def closL (env : Env) (names : List (Str × NameKind)) (cs : List (Str × Addr)) : List (Str × Addr) :=
 names.foldl (fun cs p => if (p.2 == NameKind.free) = true then (p.1, (env.cells.lookup p.1).getD 0) :: cs else cs) cs
theorem closFor {scope : Scope} {env : Env} (h : ∀ y ∈ scope.names, y.2 = .free → ∃ c, env.cells.lookup y.1 = some c) : closureFor scope env = pure (closL env scope.names []) := by
 unfold closureFor
 have key : ∀ (l : List (Str × NameKind)) (cs : List (Str × Addr)), (∀ y ∈ l, y.2 = .free → ∃ c, env.cells.lookup y.1 = some c) →
   (forIn l cs fun (x : Str × NameKind) (r : List (Str × Addr)) => (if (x.2 == NameKind.free) = true then do let a ← cellOf env x.1; pure (ForInStep.yield ((x.1, a) :: r)) else pure (ForInStep.yield r) : Sem (ForInStep (List (Str × Addr))))) = pure (closL env l cs) := by
  intro l
  induction l with
  | nil => intro cs _; rfl
  | cons p r ih =>
   intro cs hl
   rw [List.forIn_cons]
   by_cases hk : (p.2 == NameKind.free) = true
   ·obtain ⟨c, hc⟩ := hl p List.mem_cons_self (by simpa using hk)
    rw [if_pos hk]
    have e : cellOf env p.1 = pure c := by unfold cellOf; rw [hc]
    rw [e]
    simp only [pure_bind]
    rw [ih _ fun y hy => hl y (List.mem_cons_of_mem _ hy)]
    unfold closL
    rw [List.foldl_cons, if_pos hk, hc]
    rfl
   ·rw [if_neg hk]
    simp only [pure_bind]
    rw [ih _ fun y hy => hl y (List.mem_cons_of_mem _ hy)]
    unfold closL
    rw [List.foldl_cons, if_neg hk]
 have := key scope.names [] h
 simp only [bind_pure]
 exact this
theorem closL_of {env : Env} : ∀ (l : List (Str × NameKind)) (cs : List (Str × Addr)) {x : Str} {c : Addr}, (∀ y ∈ l, y.2 = .free → ∃ c, env.cells.lookup y.1 = some c) → (∀ y d, cs.lookup y = some d → env.cells.lookup y = some d) →
  (closL env l cs).lookup x = some c → env.cells.lookup x = some c
 | [], cs, x, c, _, hc, h => hc x c h
 | p :: r, cs, x, c, hl, hc, h => by
  unfold closL at h
  rw [List.foldl_cons] at h
  by_cases hk : (p.2 == NameKind.free) = true
  ·rw [if_pos hk] at h
   refine closL_of r _ (fun y hy => hl y (List.mem_cons_of_mem _ hy)) (fun y d e => ?_) h
   obtain ⟨a, ha⟩ := hl p List.mem_cons_self (by simpa using hk)
   rw [List.lookup_cons] at e
   cases hx : y == p.1 with
   | true =>
    rw [hx] at e
    have hy : y = p.1 := by simpa using hx
    rw [ha] at e
    cases e
    rw [hy]; exact ha
   | false => rw [hx] at e; exact hc y d e
  ·rw [if_neg hk] at h
   exact closL_of r cs (fun y hy => hl y (List.mem_cons_of_mem _ hy)) hc h
theorem closL_keep {env : Env} : ∀ (l : List (Str × NameKind)) (cs : List (Str × Addr)) {x : Str}, (∃ c, cs.lookup x = some c) → ∃ c, (closL env l cs).lookup x = some c
 | [], cs, x, h => h
 | p :: r, cs, x, ⟨c, h⟩ => by
  unfold closL
  rw [List.foldl_cons]
  by_cases hk : (p.2 == NameKind.free) = true
  ·rw [if_pos hk]
   refine closL_keep r _ ?_
   rw [List.lookup_cons]
   cases hx : x == p.1 with
   | true => exact ⟨_, rfl⟩
   | false => exact ⟨c, h⟩
  ·rw [if_neg hk]; exact closL_keep r cs ⟨c, h⟩
theorem closL_has {env : Env} : ∀ (l : List (Str × NameKind)) (cs : List (Str × Addr)) {x : Str}, (x, NameKind.free) ∈ l → ∃ c, (closL env l cs).lookup x = some c
 | [], _, _, h => by simp at h
 | p :: r, cs, x, h => by
  unfold closL
  rw [List.foldl_cons]
  rcases List.mem_cons.mp h with e | e
  ·subst e
   rw [if_pos (by rfl)]
   exact closL_keep r _ ⟨(env.cells.lookup x).getD 0, by rw [List.lookup_cons]; simp⟩
  ·exact closL_has r _ e
theorem relabel_lookup {env : Env} {scope : Scope} {x : Str} (h : (relabel scope env).names.lookup x = some .cell ∨ (relabel scope env).names.lookup x = some .free) (hc : ∀ y ∈ scope.names, y.2 ≠ .cell) : (x, NameKind.free) ∈ scope.names := by
 have key : ∀ (l : List (Str × NameKind)), (∀ y ∈ l, y.2 ≠ .cell) →
   ((l.map fun (n, k) => if (k == NameKind.free && env.scope.kind == .function && env.kindOf n == some .cell) then (n, NameKind.cell) else (n, k)).lookup x = some .cell ∨
   (l.map fun (n, k) => if (k == NameKind.free && env.scope.kind == .function && env.kindOf n == some .cell) then (n, NameKind.cell) else (n, k)).lookup x = some .free) → (x, NameKind.free) ∈ l := by
  intro l
  induction l with
  | nil => intro _ h; simp at h
  | cons p r ih =>
   obtain ⟨n, k⟩ := p
   intro hl h
   rw [List.map_cons] at h
   have hk : k ≠ .cell := hl (n, k) List.mem_cons_self
   by_cases hx : x = n
   ·subst hx
    by_cases hq : (k == NameKind.free && env.scope.kind == .function && env.kindOf x == some .cell) = true
    ·have : k = .free := by simp only [Bool.and_eq_true, beq_iff_eq] at hq; exact hq.1.1
     subst this; exact List.mem_cons_self
    ·simp only [if_neg hq, List.lookup_cons, beq_self_eq_true] at h
     rcases h with h | h
     ·exact absurd (Option.some.inj h) hk
     ·have e := Option.some.inj h; subst e; exact List.mem_cons_self
   ·have hb : (x == n) = false := by simpa using hx
    refine List.mem_cons_of_mem _ (ih (fun y hy => hl y (List.mem_cons_of_mem _ hy)) ?_)
    by_cases hq : (k == NameKind.free && env.scope.kind == .function && env.kindOf n == some .cell) = true
    ·simpa only [if_pos hq, List.lookup_cons, hb] using h
    ·simpa only [if_neg hq, List.lookup_cons, hb] using h
 exact key scope.names hc h
theorem relabel_free {env : Env} {scope : Scope} {x : Str} (h : scope.names.lookup x = some .free) : (relabel scope env).names.lookup x = some .cell ∨ (relabel scope env).names.lookup x = some .free := by
 have key : ∀ (l : List (Str × NameKind)), l.lookup x = some .free →
   ((l.map fun (n, k) => if (k == NameKind.free && env.scope.kind == .function && env.kindOf n == some .cell) then (n, NameKind.cell) else (n, k)).lookup x = some .cell ∨
   (l.map fun (n, k) => if (k == NameKind.free && env.scope.kind == .function && env.kindOf n == some .cell) then (n, NameKind.cell) else (n, k)).lookup x = some .free) := by
  intro l
  induction l with
  | nil => intro h; simp at h
  | cons p r ih =>
   obtain ⟨n, k⟩ := p
   intro h
   rw [List.map_cons]
   by_cases hx : x = n
   ·subst hx
    rw [List.lookup_cons, beq_self_eq_true] at h
    have e : k = .free := Option.some.inj h
    by_cases hq : (k == NameKind.free && env.scope.kind == .function && env.kindOf x == some .cell) = true
    ·left; simp only [if_pos hq, List.lookup_cons, beq_self_eq_true]
    ·right; simp only [if_neg hq, List.lookup_cons, beq_self_eq_true]; rw [e]
   ·have hb : (x == n) = false := by simpa using hx
    rw [List.lookup_cons, hb] at h
    by_cases hq : (k == NameKind.free && env.scope.kind == .function && env.kindOf n == some .cell) = true
    ·simpa only [if_pos hq, List.lookup_cons, hb] using ih h
    ·simpa only [if_neg hq, List.lookup_cons, hb] using ih h
 exact key scope.names h
structure CompScope (sc : Scope) (N N' : List Str) (k : Nat) (fr : List Nat) (scope : Scope) : Prop where
 kind : scope.kind = .function
 cell : ∀ y ∈ scope.names, y.2 ≠ .cell
 names : ∀ y ∈ scope.names, y.2 = .local → scope.names.lookup y.1 = some .local
 nd : N'.Nodup
 slot : fr.map (fun j => N[j]?) = (N'.drop k).map some
 frees : ∀ x ∈ N'.drop k, scope.names.lookup x = some .free
 outer : ∀ y ∈ scope.names, y.2 = .free → sc.names.lookup y.1 = some .cell ∨ sc.names.lookup y.1 = some .free
 outer' : ∀ x ∈ N'.drop k, sc.names.lookup x = some .cell ∨ sc.names.lookup x = some .free
 len : N'.length = k + fr.length
def compCx (X : Cx) (scope : Scope) (N' : List Str) (fp : List Addr) (C : Addr) (s : Shared) (H : Hp) : Cx where
 prog := X.prog
 w := X.w
 K := X.K
 mg := X.mg
 base := X.base
 A := X.A
 N := N'
 s₀ := s
 H₀ := H
 env := compEnvC scope (closL X.env scope.names []) C X.env
 outer := X.stack
 stack := X.stack
 ex := fp
 fn := fun _ => false
 calm := X.calm
 pn := []
 xe := fun _ _ => False
def st0 (k : Nat) (fr : List Nat) (σ : St) : St := List.replicate k none ++ fr.map fun j => (σ[j]?).join
def Keep (σ σ' : St) : Prop := σ.length = σ'.length ∧ ∀ (i : Nat) v, σ[i]? = some (some v) → σ'[i]? = some (some v)
section
variable {X : Cx} {pins : List (Addr × Obj)} {σ : St} {H : Hp} {s : Shared} {scope : Scope} {N' : List Str} {k : Nat} {fr : List Nat} {fp : List Addr}
theorem comp_ok (S : CompScope X.env.scope X.N N' k fr scope) (I : Inv X pins σ H s) (hf : ∀ b ∈ fp, FpOk X pins H b) (hlt : ∀ b ∈ fp, b < s.heap.objs.size) :
  (compCx X scope N' fp s.heap.objs.size s H).Ok := by
 have hcell : ∀ y ∈ scope.names, y.2 = .free → ∃ c, X.env.cells.lookup y.1 = some c := fun y hy e => I.ok.has y.1 (S.outer y hy e)
 have hcl : ∀ x c, (closL X.env scope.names []).lookup x = some c → X.env.cells.lookup x = some c := fun x c e => closL_of scope.names [] hcell (fun _ _ z => by simp at z) e
 refine ⟨I.ok.mod, S.kind, I.ok.glob, I.ok.blt, Nat.le_refl _, fun x y c h1 h2 => I.ok.inj x y c (hcl x c h1) (hcl y c h2), fun x hx => closL_has _ _ (relabel_lookup hx S.cell), fun x c h => absurd h (by simp [compCx]), I.ok.hd, I.ok.frames, .inl rfl, fun b hb => ⟨Nat.ne_of_lt (hlt b hb), fun x c e => (hf b hb).2.2.2.2.1 x c (hcl x c e)⟩,
  I.bs, Nat.le_trans I.ok.bsz I.sz, fun b o e hb => ?_, fun b hb hb' => ?_, I.stack, I.stkFree⟩
 ·rcases (hf b hb).2.2.2.1 with z | z
  ·exact I.ok.noex b o e z
  ·exact absurd (Nat.lt_of_lt_of_le (Heap.lt_size e) (Nat.le_trans I.ok.bsz z)) (Nat.lt_irrefl _)
 ·rcases List.mem_cons.mp (I.stkSub b hb') with z | z
  ·exact (hf b hb).2.1 z
  ·exact (hf b hb).2.2.1 z
theorem comp_inv (S : CompScope X.env.scope X.N N' k fr scope) (I : Inv X pins σ H s) (hf : ∀ b ∈ fp, FpOk X pins H b) (hlt : ∀ b ∈ fp, b < s.heap.objs.size) {h' : Heap} {t' : Nat}
  (hn : h'.Ns s.heap.objs.size (fun _ => none)) (hk : ∀ b o, s.heap.get? b = some o → h'.get? b = some o) :
  Inv (compCx X scope N' fp s.heap.objs.size s H) [] (st0 k fr σ) H { s with heap := h', toks := t' } := by
 have hcell : ∀ y ∈ scope.names, y.2 = .free → ∃ c, X.env.cells.lookup y.1 = some c := fun y hy e => I.ok.has y.1 (S.outer y hy e)
 have hcl : ∀ x c, (closL X.env scope.names []).lookup x = some c → X.env.cells.lookup x = some c := fun x c e => closL_of scope.names [] hcell (fun _ _ z => by simp at z) e
 refine ⟨comp_ok S I hf hlt, rfl, I.bare, Un.kept hk, ⟨_, hn, fun i x v h1 h2 h3 => ?_⟩, fun x c e => ?_, I.hok.fresh (Nat.le_refl _), fun x c e => I.freeC x c (hcl x c e), fun p hp => absurd hp (by simp [compCx]), I.hok.kept hk, ?_⟩
 ·have hi : k ≤ i := by
   rcases Nat.lt_or_ge i k with z | z
   ·exfalso
    unfold st0 at h2
    rw [List.getElem?_append_left (by simpa using z), List.getElem?_replicate, if_pos z] at h2
    cases h2
   ·exact z
  have h2' : (fr.map fun j => (σ[j]?).join)[i - k]? = some (some v) := by
   unfold st0 at h2
   rw [List.getElem?_append_right (by simpa using hi)] at h2
   simpa using h2
  have h1' : (N'.drop k)[i - k]? = some x := by
   rw [List.getElem?_drop, Nat.add_sub_cancel' hi]; exact h1
  have hmem : x ∈ N'.drop k := List.mem_of_getElem? h1'
  have e2 : (fr.map fun j => X.N[j]?)[i - k]? = some (some x) := by
   rw [S.slot, List.getElem?_map, h1']; rfl
  obtain ⟨j, hj, ej⟩ : ∃ j, fr[i - k]? = some j ∧ X.N[j]? = some x := by
   rw [List.getElem?_map] at e2
   cases e : fr[i - k]? with
   | none => rw [e] at e2; cases e2
   | some j => rw [e] at e2; exact ⟨j, rfl, Option.some.inj e2⟩
  have hv : σ[j]? = some (some v) := by
   rw [List.getElem?_map, hj] at h2'
   have h3' : (σ[j]?).join = some v := Option.some.inj h2'
   cases e : σ[j]? with
   | none => rw [e] at h3'; cases h3'
   | some o => rw [e] at h3'; rw [show o = some v from h3']
  obtain ⟨m, hn0, hl⟩ := I.loc
  have ho := S.outer' x hmem
  obtain ⟨u, ru, lk⟩ := hl j x v ej hv (.inr ho)
  refine ⟨u, ru, .inr ⟨relabel_free (S.frees x hmem), ?_⟩⟩
  rcases lk with ⟨z, _⟩ | ⟨_, c, hc, hx⟩
  ·exfalso
   rcases ho with ho | ho
   ·exact absurd (z.symm.trans ho) (by simp)
   ·exact absurd (z.symm.trans ho) (by simp)
  ·obtain ⟨c', hc'⟩ := closL_has (env := X.env) scope.names [] (PySem.mem_of_lookup (S.frees x hmem))
   have := hcl x c' hc'
   rw [hc] at this; cases this
   obtain ⟨o, ho, hd⟩ := hx
   exact ⟨c, hc', o, hk c o ho, hd⟩
 ·obtain ⟨v, o, ho, hd⟩ := I.cell x c (hcl x c e)
  exact ⟨v, o, hk c o ho, hd⟩
 ·unfold st0
  show _ = N'.length
  rw [List.length_append, List.length_replicate, List.length_map, S.len]
end
end L2

namespace L2
open PySem PySem.Spec PyProof.Rows
section
variable {prog : Program} {w : World} {A : Around} {E : Value → Shared → Prop} {R : Result → Shared → Prop} {s : Shared}
theorem compLoop_go {elt target iter : Expr} {ifs : List Expr} {scope : Scope} {pos : Pos} {it acc : Value} {env : Env} (I : Nat → Shared → Prop)
  (turn : ∀ n s, I n s → wpAny (model prog w) A (pyNext it) (fun r s₁ => match r with
   | none => R (.ok .next) s₁
   | some v => wpAny (model prog w) A (letOwnedTupleGo target it v) (fun _ s₁' => wpAny (model prog w) A (assign target env v) (fun _ s₂ =>
     wpAny (model prog w) A (forIn ifs true fun c r => if r = true then do let ok ← isTrue c env (eval c env); pure (ForInStep.yield ok) else pure (ForInStep.yield r)) (fun ok s₃ =>
      if ok = true then wpAny (model prog w) A (eval elt env) (fun x s₄ =>
       wpAny (model prog w) A (call (.builtin "list.append") [acc, x]) (fun _ s₅ => ∃ m, m < n ∧ I m s₅) (fun _ _ => False) s₄) (fun _ _ => False) s₃
      else ∃ m, m < n ∧ I m s₃) (fun _ _ => False) s₂) (fun _ _ => False) s₁') (fun _ _ => False) s₁) (fun _ _ => False) s)
  (n : Nat) (h : I n s) :
  codeAny (model prog w) A (.compLoop (.ListComp elt [⟨target, iter, ifs, 0⟩] scope pos) 0 it acc env) R s := by
 refine codeAny_loop rfl I (fun n s hI => ?_) n h
 show wpAny _ A ((compTurn (.ListComp elt [⟨target, iter, ifs, 0⟩] scope pos) 0 it acc env).onRaise (fun x => do noteFrame x env; theTreesLotGoes x)) _ _ s
 refine wpAny_noted ?_
 rw [compTurn_list]
 refine wpAny_bind (wpAny_standAt (wpAny_bind (wpAny_mono (turn n s hI) (fun r s₁ h₁ => ?_) fun _ _ h' => h'.elim)))
 cases r with
 | none => exact wpAny_pure h₁
 | some v =>
  refine wpAny_bind (wpAny_mono h₁ (fun _ s₁' h₁' => ?_) fun _ _ h' => h'.elim)
  refine wpAny_bind (wpAny_mono h₁' (fun _ s₂ h₂ => wpAny_bind (wpAny_mono h₂ (fun ok s₃ h₃ => ?_) fun _ _ h' => h'.elim)) fun _ _ h' => h'.elim)
  cases ok with
  | false => exact wpAny_pure ⟨rfl, h₃⟩
  | true =>
   exact wpAny_bind (wpAny_bind (wpAny_mono h₃ (fun x s₄ h₄ => wpAny_bind (wpAny_mono h₄ (fun _ s₅ h₅ => wpAny_pure (wpAny_pure ⟨rfl, h₅⟩)) fun _ _ h' => h'.elim)) fun _ _ h' => h'.elim))
end
def PIfs (X : Cx) (ifs : List Expr) (t : TT) : Prop :=
 ∀ (pins : List (Addr × Obj)) (s : Shared) (σ : St) (H : Hp) (Q : Bool → Hp → Prop), Inv X pins σ H s → t σ H Q →
  wpAny (model X.prog X.w) X.A (forIn ifs true fun c r => if r = true then do let ok ← isTrue c X.env (eval c X.env); pure (ForInStep.yield ok) else pure (ForInStep.yield r)) (TP X pins σ Q) X.xe s
def tYes : TT := fun _ H Q => Q true H
theorem pf_nil {X : Cx} : PIfs X [] tYes := fun pins s σ H Q I h => wpAny_tests_nil ⟨H, I, h⟩
theorem pf_one {X : Cx} {c : Expr} {t : TT} (h : PT X c t) : PIfs X [c] t := fun pins s σ H Q I hq => wpAny_tests_one (h pins s σ H Q I hq)
theorem HOk.but {P : Program} {w : World} {H : Hp} {h h' : Heap} {C : Addr} (x : HOk P w H h) (hC : H C = none) (k : ∀ b o, b ≠ C → h.get? b = some o → h'.get? b = some o) : HOk P w H h' := fun a o e => by
 refine (x a o e).stay (fun b u hb q => k b u ?_ q) (fun _ q => q) fun _ _ q => q
 intro z
 subst z
 rcases hb with z | z
 ·rw [← z, hC] at e; cases e
 ·rw [hC] at z; cases z
def tComp (wi : TI) (g : TG) (tc : TT) (te : TE) (k : Nat) (fr : List Nat) : TE := fun σ H Q => wi σ H fun J H1 => ∀ D, H1 D = none → ∃ W : Nat → Nat → Hp → Prop, (∃ m, W 0 m (upd H1 D (.lst []))) ∧ ∀ i m H, W i m H →
 (J.stop i H ∧ Q (.ref D) H) ∨ (J.go i H ∧ ∀ x H', J.yld i H x H' → g x (st0 k fr σ) H' fun σ2 H2 => Keep (st0 k fr σ) σ2 ∧ tc σ2 H2 fun ok H3 =>
  if ok = true then te σ2 H3 fun y H4 => ∃ ys, H4 D = some (.lst ys) ∧ ys.length < sizeLine ∧ ∃ m', m' < m ∧ W (i + 1) m' (upd H4 D (.lst (ys ++ [y])))
  else ∃ m', m' < m ∧ W (i + 1) m' H3)
section
variable {X : Cx} {tg iter elt : Expr} {ifs : List Expr} {scope : Scope} {N' : List Str} {k : Nat} {fr : List Nat} {wi : TI} {g : TG} {tc : TT} {te : TE} {pos : Pos}
theorem comp_run {use : Option (Value → Sem Unit)} {Q' : Value → Shared → Prop} {pins : List (Addr × Obj)} {s : Shared} {σ : St} {H : Hp} {Q : VK} (hc : X.calm = true) (S : CompScope X.env.scope X.N N' k fr scope) (hi : PI X tg iter wi)
  (hg : ∀ fp C s H, PG (compCx X scope N' fp C s H) tg g) (hf : ∀ fp C s H, PIfs (compCx X scope N' fp C s H) ifs tc) (he : ∀ fp C s H, PE (compCx X scope N' fp C s H) elt te)
  (I : Inv X pins σ H s) (h : tComp wi g tc te k fr σ H Q)
  (hQ : ∀ D C s' H', C ≠ X.env.locals → Inv X pins σ H' s' → (∀ h', Heap.SameBut C s'.heap h' → Inv X pins σ H' { s' with heap := h' }) → Q (.ref D) H' → (∃ m, s'.heap.Ns C m) → X.env.locals < C → H' C = none ∧ (∀ x c, X.env.cells.lookup x = some c → c ≠ C) ∧ (∀ p ∈ X.pn ++ pins, p.1 ≠ C) → compPost (model X.prog X.w) X.A X.xe use Q' (.ref D) C (.ok .next) s') :
  wpAny (model X.prog X.w) X.A (eval iter X.env) (fun x s₁ => wpAny (model X.prog X.w) X.A (pyIter x) (fun it s₂ => wpAny (model X.prog X.w) X.A (newList []) (fun acc s₃ =>
   wpAny (model X.prog X.w) X.A (newFunctionEnv scope X.env.globals (closL X.env scope.names []) [] X.env.qual none .none (some X.env)) (fun cenv s₄ =>
    codeAny (model X.prog X.w) X.A (.compStart (.ListComp elt [⟨tg, iter, ifs, 0⟩] scope pos) 0 it acc { cenv with scope := relabel scope X.env }) (compPost (model X.prog X.w) X.A X.xe use Q' acc cenv.locals) s₄) X.xe s₃) X.xe s₂) X.xe s₁) X.xe s := by
 refine thn (hi pins s σ H _ I h) fun v s1 h1 => thn h1 fun itv s2 h2 => ?_
 obtain ⟨it, fp, tn, J, H2, e, I2, T, st2, f2, wW⟩ := h2
 subst e
 refine wpAny_newObj_type ?_
 have hD0 : H2 s2.heap.objs.size = none := I2.hok.fresh (Nat.le_refl _)
 obtain ⟨W, ⟨m0, w0⟩, turn⟩ := wW _ hD0
 generalize hD : s2.heap.objs.size = D at *
 have I3 : Inv X pins σ (upd H2 D (.lst [])) { s2 with heap := s2.heap.push { cls := .type "list", dict := none, data := .seq ([] : List Value).toArray } } := by
  have := I2.lnew (ys := []) (its := []) (t' := s2.toks) .nil (Nat.zero_le _)
  rw [hD] at this
  exact this
 generalize hs3 : ({ s2 with heap := s2.heap.push { cls := .type "list", dict := none, data := .seq ([] : List Value).toArray } } : Shared) = s3 at *
 have up23 : ∀ b o, s2.heap.get? b = some o → s3.heap.get? b = some o := fun b o e => by rw [← hs3]; exact Heap.get?_push_of_some _ e
 have fpD : ∀ b ∈ fp, b ≠ D := fun b hb z => by
  obtain ⟨o, ho, _⟩ := T.obj _ _ st2 b hb
  have := Heap.lt_size ho
  rw [hD, z] at this
  exact Nat.lt_irrefl _ this
 have f3 : ∀ b ∈ fp, FpOk X pins (upd H2 D (.lst [])) b := fun b hb => ⟨by rw [upd_ne (fpD b hb)]; exact (f2 b hb).1, (f2 b hb).2⟩
 have st3 : tn 0 s3.heap := T.keep _ _ _ st2 fun b hb o e => up23 b o e
 have lt3 : ∀ b ∈ fp, b < s3.heap.objs.size := fun b hb => by obtain ⟨o, ho, _⟩ := T.obj _ _ st3 b hb; exact Heap.lt_size ho
 refine wpAny_newFunctionEnv S.cell (by intro y hy; simp at hy) (fun h₁ hns₁ hsb₁ => ?_) S.kind
 have up34 : ∀ b o, s3.heap.get? b = some o → h₁.get? b = some o := fun b o e => hsb₁.extBut b o (Nat.ne_of_lt (Heap.lt_size e)) (Heap.get?_push_of_some _ e)
 have I4 := comp_inv (t' := s3.toks + ([] : List (Str × Value)).length) S I3 f3 lt3 hns₁ up34
 have st4 : tn 0 h₁ := T.keep _ _ _ st3 fun b hb o e => up34 b o e
 generalize hX' : compCx X scope N' fp s3.heap.objs.size s3 (upd H2 D (.lst [])) = X' at *
 have hg' : PG X' tg g := by rw [← hX']; exact hg _ _ _ _
 have hf' : PIfs X' ifs tc := by rw [← hX']; exact hf _ _ _ _
 have he' : PE X' elt te := by rw [← hX']; exact he _ _ _ _
 have eP : X'.prog = X.prog := by rw [← hX']; rfl
 have eW : X'.w = X.w := by rw [← hX']; rfl
 have eK : X'.K = X.K := by rw [← hX']; rfl
 have eA : X'.A = X.A := by rw [← hX']; rfl
 have eC : X'.calm = true := by rw [← hX']; exact hc
 have eE : X'.xe = fun _ _ => False := by rw [← hX']; rfl
 have eEnv : X'.env = compEnvC scope (closL X.env scope.names []) s3.heap.objs.size X.env := by rw [← hX']; rfl
 have fpx : ∀ {H' : Hp}, (∀ b ∈ fp, H' b = none) → ∀ b ∈ fp, FpOk X' [] H' b := fun {H'} hn b hb => by
  refine ⟨hn b hb, ?_, ?_, .inl ?_, ?_, ?_⟩
  ·rw [eEnv]; exact Nat.ne_of_lt (lt3 b hb)
  ·have := I4.ok.exfs b (by rw [← hX']; exact hb); exact this
  ·rw [← hX']; exact hb
  ·have := I4.ok.exf b (by rw [← hX']; exact hb); exact this.2
  ·intro p hp; rw [← hX'] at hp; simp [compCx] at hp
 -- behind the block
 have fin : ∀ (s' : Shared) (H' : Hp) (σ' : St), Inv X' [] σ' H' s' → Q (.ref D) H' → compPost (model X.prog X.w) X.A X.xe use Q' (.ref D) s3.heap.objs.size (.ok .next) s' := fun s' H' σ' J q => by
  have un : Un (frs X.stack) fp (upd H2 D (.lst [])) H' s3.heap s'.heap := by have := J.base; rw [← hX'] at this; exact this
  have jos : s'.os = s3.os := by have := J.os; rw [← hX'] at this; exact this
  have hC : H' s3.heap.objs.size = none := by have := J.free; rw [eEnv] at this; exact this
  have hok' : HOk X.prog X.w H' s'.heap := by have := J.hok; rw [eP, eW] at this; exact this
  have back : ∀ h', Heap.SameBut s3.heap.objs.size s'.heap h' → Inv X pins σ H' { s' with heap := h' } := fun h' hs' => by
   have un' : Un (frs X.stack) fp (upd H2 D (.lst [])) H' s3.heap h' :=
    ⟨fun b o e n h1 h2 => hs'.extBut b o (Nat.ne_of_lt (Heap.lt_size e)) (un.keep b o e n h1 h2), fun b o e n h1 h2 => by
     obtain ⟨sl, z⟩ := un.slot b o e n h1 h2
     exact ⟨sl, hs'.extBut b _ (Nat.ne_of_lt (Heap.lt_size e)) z⟩, un.free, fun b o e h2 => by
     obtain ⟨o', z⟩ := un.there b o e h2
     exact ⟨o', hs'.extBut b o' (Nat.ne_of_lt (Heap.lt_size e)) z⟩, un.tups, un.frzs, un.tbls⟩
   exact Inv.call' (s' := { s' with heap := h' }) I3 jos un' (hok'.but hC hs'.extBut) J.bare fun b hb => ⟨(f3 b hb).2.2.2.1, (f3 b hb).2.1, (f3 b hb).2.2.2.2.1, (f3 b hb).2.2.2.2.2⟩
  have nsC : ∃ m, s'.heap.Ns s3.heap.objs.size m := by
   obtain ⟨m, hn, _⟩ := J.loc
   rw [eEnv] at hn
   exact ⟨m, hn⟩
  exact hQ D s3.heap.objs.size s' H' (Nat.ne_of_gt I3.lt) (back s'.heap (.refl ..)) back q nsC I3.lt
   ⟨hC, fun x c e => by obtain ⟨v, o, ho, _⟩ := I3.cell x c e; exact Nat.ne_of_lt (Heap.lt_size ho), fun p hp => Nat.ne_of_lt (Heap.lt_size (I3.pin p hp).1)⟩
 have loop : ∀ s4 : Shared, s4 = ({ s3 with heap := h₁, toks := s3.toks + ([] : List (Str × Value)).length } : Shared) →
   codeAny (model X.prog X.w) X.A (.compLoop (.ListComp elt [⟨tg, iter, ifs, 0⟩] scope pos) 0 (.ref it) (.ref D) X'.env) (compPost (model X.prog X.w) X.A X.xe use Q' (.ref D) s3.heap.objs.size) s4 := by
  rintro s4 rfl
  refine compLoop_go (fun n s' => ∃ i H', Inv X' [] (st0 k fr σ) H' s' ∧ tn i s'.heap ∧ (∀ b ∈ fp, H' b = none) ∧ W i n H') ?_ m0 ⟨0, _, I4, st4, fun b hb => (f3 b hb).1, w0⟩
  rintro n s5 ⟨i, H5, I5, st5, fr5, w5⟩
  rcases turn i n H5 w5 with ⟨stop, qn⟩ | ⟨go, step⟩
  ·have := T.done X' eP eW eK eC i [] s5 _ H5 (fun _ _ => False) I5 (fpx fr5) st5 stop
   rw [eA] at this
   refine thn this fun r s6 ⟨hr, I6⟩ => ?_
   subst hr
   exact fin s6 H5 _ I6 qn
  ·have := T.item X' eP eW eK eC i [] s5 _ H5 (fun _ _ => False) I5 (fpx fr5) st5 go
   rw [eA] at this
   refine thn this fun r s6 ⟨u, hr, h6⟩ => ?_
   subst hr
   refine thn h6 fun _ s7 ⟨x, H7, I7, r7, y7, st7, fr7⟩ => ?_
   have I7' := I7.pinned (fpx fr7) (T.obj _ _ st7)
   have h8 := hg' _ s7 _ H7 x u _ I7' r7 (step x H7 y7)
   rw [eP, eW, eA, eE] at h8
   refine thn h8 fun _ s8 ⟨σ8, H8, I8, kp, q8⟩ => ?_
   have h9 := hf' _ s8 σ8 H8 _ I8 q8
   rw [eP, eW, eA, eE] at h9
   have again : ∀ {s9 : Shared} {H9 : Hp} {n' : Nat}, Inv X' ([] ++ pinsAt fp s7.heap) σ8 H9 s9 → n' < n → W (i + 1) n' H9 → ∃ m, m < n ∧ ∃ i H', Inv X' [] (st0 k fr σ) H' s9 ∧ tn i s9.heap ∧ (∀ b ∈ fp, H' b = none) ∧ W i m H' := fun {s9 H9 n'} I9 hn' w9 => by
    refine ⟨n', hn', i + 1, H9, I9.unpinned.weak kp.1 kp.2, T.keep _ _ _ st7 fun b hb o e => (I9.pin (b, o) (List.mem_append_right _ (List.mem_append_right _ (mem_pinsAt hb e)))).1, fun b hb => ?_, w9⟩
    obtain ⟨o, e, d⟩ := T.obj _ _ st7 b hb
    exact (I9.pin (b, o) (List.mem_append_right _ (List.mem_append_right _ (mem_pinsAt hb e)))).2.1
   refine thn h9 fun ok s9 ⟨H9, I9, q9⟩ => ?_
   cases ok with
   | false =>
    rw [if_neg Bool.false_ne_true] at q9
    obtain ⟨m', hm', w9⟩ := q9
    rw [if_neg Bool.false_ne_true]
    exact again I9 hm' w9
   | true =>
    rw [if_pos rfl] at q9
    rw [if_pos rfl]
    have h10 := he' _ s9 σ8 H9 _ I9 q9
    rw [eP, eW, eA, eE] at h10
    refine thn h10 fun y s10 ⟨yv, H10, I10, r10, ys, hys, hz, m', hm', w10⟩ => ?_
    have h11 := mt_append (X := X') _ s10 σ8 H10 (.ref D) [yv] (.ref D) [y] (fun _ H' => W (i + 1) m' H') I10 rfl (.cons r10 .nil) ⟨D, ys, yv, rfl, rfl, hys, hz, w10⟩
    rw [eP, eW, eA, eE] at h11
    exact thn h11 fun _ s11 ⟨_, H11, I11, _, q11⟩ => again I11 hm' q11
 have hE : ({ newEnv scope s3.heap.objs.size X.env.globals (closL X.env scope.names []) X.env.qual none .none (some X.env) builtinsNs with scope := relabel scope X.env } : Env) = X'.env := by
  rw [eEnv]; rfl
 have goal := codeAny_compStart_list (elt := elt) (target := tg) (iter := iter) (ifs := ifs) (rest := []) (scope := scope) (pos := pos) (loop _ rfl) (T.self X.A 0 _ _ _ st4 (loop _ rfl))
 rw [← hE] at goal
 exact goal
theorem pe_comp (hc : X.calm = true) (S : CompScope X.env.scope X.N N' k fr scope) (hi : PI X tg iter wi)
  (hg : ∀ fp C s H, PG (compCx X scope N' fp C s H) tg g) (hf : ∀ fp C s H, PIfs (compCx X scope N' fp C s H) ifs tc) (he : ∀ fp C s H, PE (compCx X scope N' fp C s H) elt te)
  (hs : ∀ x, foldedSetIterable iter X.env x = pure x := by intro _; rfl) : PE X (.ListComp elt [⟨tg, iter, ifs, 0⟩] scope pos) (tComp wi g tc te k fr) := by
 intro pins s σ H Q I h
 have hcell : ∀ y ∈ scope.names, y.2 = .free → ∃ c, X.env.cells.lookup y.1 = some c := fun y hy e => I.ok.has y.1 (S.outer y hy e)
 rw [eval_ListComp]
 refine wpAny_comprehension_free (use := none) rfl hs (closFor hcell) S.kind S.names (comp_run hc S hi hg hf he I h ?_)
 intro D C s' H' hC J back q ns hlt _
 obtain ⟨m, hn⟩ := ns
 exact ⟨m, hn, fun h' hs' => ⟨.ref D, H', back h' hs', rfl, q⟩⟩
theorem ps_setComp {i : Nat} {x : Str} {pos' spos : Pos} (hN : X.N.Nodup) (hxi : X.N[i]? = some x) (hx : Loc X.env.scope x) (hc : X.calm = true) (S : CompScope X.env.scope X.N N' k fr scope) (hi : PI X tg iter wi)
  (hg : ∀ fp C s H, PG (compCx X scope N' fp C s H) tg g) (hf : ∀ fp C s H, PIfs (compCx X scope N' fp C s H) ifs tc) (he : ∀ fp C s H, PE (compCx X scope N' fp C s H) elt te)
  (hsw : swapsWith (.ListComp elt [⟨tg, iter, ifs, 0⟩] scope pos) (some (.Name x pos')) spos.line X.env = pure true)
  (hs : ∀ x, foldedSetIterable iter X.env x = pure x := by intro _; rfl) (hfn : X.fn x = true ∨ X.env.scope.names.lookup x = some .local := by first | exact .inl rfl | exact .inr rfl | assumption) :
  PS X (.Assign [.Name x pos'] (.ListComp elt [⟨tg, iter, ifs, 0⟩] scope pos) spos) (tAsg (tComp wi g tc te k fr) (gName i)) := by
 intro pins s σ H D I h
 have hcell : ∀ y ∈ scope.names, y.2 = .free → ∃ c, X.env.cells.lookup y.1 = some c := fun y hy e => I.ok.has y.1 (S.outer y hy e)
 rw [exec_Assign_Name_used _ _ _ _ hsw]
 refine wpAny_bind (wpAny_standAt (wpAny_bind ?_))
 show wpAny _ X.A (do let _ ← comprehension (.ListComp elt [⟨tg, iter, ifs, 0⟩] scope pos) scope X.env _ (newList []) false (eval iter X.env) (some (assign (.Name x pos') X.env))) _ _ s
 refine wpAny_bind (wpAny_mono (wpAny_comprehension_free (use := some (assign (.Name x pos') X.env)) (Q := fun _ s' => ∃ σ' H', Inv X pins σ' H' s' ∧ D.nx σ' H') rfl hs (closFor hcell) S.kind S.names (comp_run hc S hi hg hf he I h ?_)) (fun _ s' hq => wpAny_pure (wpAny_pure hq)) fun _ _ e => e)
 intro D' C s' H' hC J back q ns hlt ⟨c1, c2, c3⟩
 obtain ⟨m, hn⟩ := ns
 show wpAny _ X.A (assign (.Name x pos') X.env (.ref D')) _ _ _
 refine wpAny_assign_Name (store_ok2 J hN hxi hx (v := .ref D') rfl (fun s2 J2 sb => ?_) hfn)
 obtain ⟨a, sb, ha⟩ := sb
 have hCa : C ≠ a := by
  rcases ha with z | z
  ·rw [z]; exact hC
  ·exact Ne.symm (c2 _ _ z)
 refine ⟨m, hn.sameBut sb hCa, fun h3 hs3 => ⟨_, H', ?_, q⟩⟩
 exact J2.turned (t' := s2.toks) hs3.extBut c1 hC (.inr (Nat.le_trans J.ok.above (Nat.le_of_lt hlt))) c2 c3
end
end L2

namespace L2
open PySem PySem.Spec PyProof.Rows
section
variable {X : Cx}
theorem call_sum (hc : X.calm = true) : CallR X (.builtin "sum") (fun xs H Q => ∃ (a : Addr) (ns : List Int), xs = [.ref a] ∧ SqL X.K H a (ns.map V.int) ∧ Q (.int ns.sum) H) := by
 intro pins s σ H xs us Q I r h
 obtain ⟨a, ns, rfl, hl, q⟩ := h
 obtain ⟨u, rfl, rx⟩ := vals1 r
 cases rx
 obtain ⟨its, rv, p, hz⟩ := I.list hl
 have hi : IntsAre its ns := intsAre_of rv
 have hall : AllInts its.toArray := hi.allInts
 obtain ⟨ys, hys⟩ := hall.items
 have hn : numsOf its.toArray.toList = ns := by rw [show its.toArray.toList = its from rfl, hi.numsOf]
 rw [hys, nums_intItems] at hn
 have hl' := p.isList
 rw [hys] at hl'
 refine sum_intListG (I.ok.hd hc) hl' fun h' tk t' hk => ?_
 refine ⟨.int ns.sum, H, I.kept hk, ⟨t', ?_⟩, q⟩
 rw [preSum_eq, List.take_of_length_le (by simp), hn]
end
end L2
namespace Att
open PySem PySem.W PySem.Calls PyProof.Rows
theorem bits_le {ns : List Int} (h : WData.layableAll [WData.list (ns.map WData.int)] = true) : ∀ n ∈ ns, Builtin.Int.intBits n ≤ 1048576 := by
 have h1 : (WData.list (ns.map WData.int)).layable = true := by simpa [WData.layableAll] using h
 have h2 : (WData.list (ns.map WData.int)).weight ≤ 1048576 := (PySem.W.layableW_iff.mp h1).2.2
 have key : ∀ l : List Int, ∀ n ∈ l, Builtin.Int.intBits n ≤ WData.weightAll (l.map WData.int) := by
  intro l
  induction l with
  | nil => intro n hn; simp at hn
  | cons x r ih =>
   intro n hn
   have e : WData.weightAll ((x :: r).map WData.int) = Builtin.Int.intBits x + 1 + WData.weightAll (r.map WData.int) := by
    rw [List.map_cons, WData.weightAll, WData.weight]; rfl
   rw [e]
   rcases List.mem_cons.mp hn with z | z
   ·subst z; omega
   ·have := ih n z; omega
 intro n hn
 have e : (WData.list (ns.map WData.int)).weight = WData.weightAll (ns.map WData.int) := by rw [WData.weight]
 rw [e] at h2
 exact Nat.le_trans (key ns n hn) h2
theorem attach_callB {l : OpenLaw} {n : Nat} {q : Program} {loose : List Str} {XP : (Str → Option Value) → Heap → Prop} {YP : World → Heap → Prop} {d : DefRec}
  (hn : l.most = some n) (hdf : d.params.defaults = [])
  (call : ∀ (w : World) (s₀ s₁ : Shared) (mg mb : Str → Option Value) (fa : Addr) (o : Obj) (pm cd doc : Value) (a : Addr) (vs : List Value) (ns : List Int),
   Ground q loose [] XP w s₀ mg mb s₁.heap → YP w s₁.heap →
   s₁.heap.get? fa = some o → o.data = .func (docDef d.name d.params d.body d.scope pm cd doc) → s₁.heap.CodeRec cd d.name → mg d.name = some (.ref fa) →
   s₁.heap.get? a = some { cls := .type "list", data := .seq vs.toArray } → IntsAre vs ns → ns.length ≤ n → (∀ z ∈ ns, Builtin.Int.intBits z ≤ 1048576) → s₁.gens = #[] →
   codeAny (model l.prog w) callerA (.call (.ref fa) ⟨[.ref a], []⟩) (fun r s' => r = .ok (.ret (.bool true)) ∧ OldK s₁.heap s'.heap ∧ s'.os = s₁.os ∧ AllBare s'.gens) s₁) :
  WalkO q loose XP YP l.row.toRowW d [] (fun f vs => PySem.call f vs) := by
 intro w s₀ s₁ mg mb G Y fa o pm cd doc dV kV ho hd hcd hD hmg hg args vals as hpre hlay hrd hwl hlo
 obtain rfl : dV = .none := Dflts.none hD hdf
 obtain rfl : kV = .none := Dflts.noKw hD
 obtain ⟨a, vs, ns, rfl, rfl, hobj, hints, hlen⟩ := script_of hn hpre hwl
 have hb : ∀ z ∈ ns, Builtin.Int.intBits z ≤ 1048576 := bits_le hlay
 refine enter_call (codeAny_mono (call w s₀ s₁ mg mb fa o pm cd doc a vs ns G Y ho (fd_plain hd) hcd hmg hobj hints hlen hb hg) fun r s' hq => ?_)
 obtain ⟨rfl, h2, h3, h4⟩ := hq
 exact ⟨.inl ⟨.bool true, .bool true, [], rfl, fun _ => rfl, .bool true, post_true l _, fun _ => ⟨List.Pairwise.nil, fun _ hm => (nomatch hm)⟩⟩, h2, h3, h4⟩
end Att
namespace L2
open PySem PySem.Spec PyProof.Rows
theorem walk_ofB {l : PySem.W.OpenLaw} {n k : Nat} {q : Program} {loose : List Str} {XP : (Str → Option Value) → Heap → Prop} {YP : World → Heap → Prop} {d : DefRec} {K : Params → PySem.W.Frag} {CX : World → CXT} {sp : World → Sp} {x : Str}
  (hn : l.most = some n) (hn2 : n ≤ sizeLine) (hdf : d.params.defaults = []) (hr : Room k callerA)
  (hY : ∀ (w : World) (h : Heap), YP w h → (K w.params).In h)
  (F : ∀ (w : World) (mg : Str → Option Value) (fa : Addr) (h : Heap), (K w.params).In h → h.Ns mainGlobals mg → mg d.name = some (.ref fa) →
   ∃ fd : FuncData, (∀ (s : Shared) (u : Value), BindsTo s fd ⟨[u], []⟩ [(x, u)]) ∧
    ∀ base : Heap, (K w.params).In base → base.Ns mainGlobals mg → FnOk l.prog w (K w.params) mg base (CX w) k fa fd [x] (sp w))
  (hsp : ∀ (w : World) (H : Hp) (a : Addr) (ns : List Int), ns.length ≤ n → (∀ z ∈ ns, Builtin.Int.intBits z ≤ 1048576) → Only H → SqL (K w.params) H a (ns.map V.int) → sp w [.ref a] H (fun v _ => v = .bl true) fun _ _ _ => False)
  (hCX : ∀ (w : World) (H : Hp) (s : Shared) (e : Value) (s' : Shared), CX w [] H s (fun _ _ _ => False) e s' → False) :
  PySem.W.WalkO q loose XP YP l.row.toRowW d [] (fun f vs => PySem.call f vs) := by
 refine Att.attach_callB hn hdf fun w s₀ s₁ mg mb fa o pm cd doc a vs ns G Y ho hd hcd hmg hobj hints hlen hb hg => ?_
 have KX := hY w _ Y
 obtain ⟨fd, hbi, hF⟩ := F w mg fa _ KX G.T.g hmg
 exact law_call KX G.T.g G.T.b G.T.builtins G.T.nolimit hg hobj hints (Nat.le_trans hlen hn2) hr hF hbi (fun H hO hS => hsp w H a ns hlen hb hO hS) fun H e s' => hCX w H s₁ e s'
theorem walk_ofBK {l : PySem.W.OpenLaw} {n k : Nat} {q : Program} {loose : List Str} {XP : (Str → Option Value) → Heap → Prop} {YP : World → Heap → Prop} {d : DefRec} {K : Params → PySem.W.Frag} {CX : CXT} {sp : PySem.W.Frag → Sp} {x : Str}
  (hn : l.most = some n) (hn2 : n ≤ sizeLine) (hdf : d.params.defaults = []) (hr : Room k callerA)
  (hY : ∀ (w : World) (h : Heap), YP w h → (K w.params).In h)
  (F : ∀ (w : World) (mg : Str → Option Value) (fa : Addr) (h : Heap), (K w.params).In h → h.Ns mainGlobals mg → mg d.name = some (.ref fa) →
   ∃ fd : FuncData, (∀ (s : Shared) (u : Value), BindsTo s fd ⟨[u], []⟩ [(x, u)]) ∧
    ∀ base : Heap, (K w.params).In base → base.Ns mainGlobals mg → FnOk l.prog w (K w.params) mg base CX k fa fd [x] (sp (K w.params)))
  (hsp : ∀ (K : PySem.W.Frag) (H : Hp) (a : Addr) (ns : List Int), ns.length ≤ n → (∀ z ∈ ns, Builtin.Int.intBits z ≤ 1048576) → Only H → SqL K H a (ns.map V.int) → sp K [.ref a] H (fun v _ => v = .bl true) fun _ _ _ => False)
  (hCX : ∀ (H : Hp) (s : Shared) (e : Value) (s' : Shared), CX [] H s (fun _ _ _ => False) e s' → False) :
  PySem.W.WalkO q loose XP YP l.row.toRowW d [] (fun f vs => PySem.call f vs) :=
 walk_ofB (K := K) (CX := fun _ => CX) (sp := fun w => sp (K w.params)) hn hn2 hdf hr hY F (fun w H a ns h1 hb h2 h3 => hsp (K w.params) H a ns h1 hb h2 h3) fun _ H s e s' => hCX H s e s'
def SameE (p : Addr) (H H' : Hp) : Prop := ∀ b o, H b = some o → b ≠ p → H' b = some o
theorem Same.new {H : Hp} {p : Addr} {o : HO} (h : H p = none) : Same H (upd H p o) := fun b u e => by rw [upd_ne (ne_of_none e h)]; exact e
end L2

namespace L2
open PySem PySem.Spec PyProof.Rows
def FR (J : It) (g : TG) (tb : TS) (D : Ends) (σ : St) (H1 : Hp) : Prop := ∃ W : Nat → Nat → St → Hp → Prop, (∃ m, W 0 m σ H1) ∧ ∀ i m σ H, W i m σ H →
 (J.stop i H ∧ D.nx σ H) ∨ (J.go i H ∧ ∃ N : St → Hp → Prop, (∀ σ' H', N σ' H' → ∃ m', m' < m ∧ W (i + 1) m' σ' H') ∧ ∀ x H', J.yld i H x H' → g x σ H' fun σ2 H2 => tb { D with nx := N, ct := N, bk := D.nx } σ2 H2)
theorem tFor_rng1 {ta : TA} {g : TG} {tb : TS} : tFor (iRng1 ta) g tb = fun D σ H => ta σ H fun vs H1 => ∃ j : Int, vs = [.int j] ∧ -(2 ^ 62) ≤ j ∧ j < 2 ^ 62 ∧ FR (Itr 0 j.toNat) g tb D σ H1 := rfl
theorem tFor_rng2 {ta : TA} {g : TG} {tb : TS} : tFor (iRng2 ta) g tb = fun D σ H => ta σ H fun vs H1 => ∃ i j : Int, vs = [.int i, .int j] ∧ (-(2 ^ 62) ≤ i ∧ i < 2 ^ 62 ∧ -(2 ^ 62) ≤ j ∧ j < 2 ^ 62) ∧ FR (Itr i (j - i).toNat) g tb D σ H1 := rfl
theorem tFor_list {K : PySem.W.Frag} {tl : TE} {g : TG} {tb : TS} : tFor (iList K tl) g tb = fun D σ H => tl σ H fun x H1 => ∃ a, x = .ref a ∧ (∃ xs, SqL K H1 a xs) ∧ FR (Itl K a) g tb D σ H1 := rfl
theorem tFor_tup {K : PySem.W.Frag} {tl : TE} {g : TG} {tb : TS} : tFor (iTup K tl) g tb = fun D σ H => tl σ H fun x H1 => ∃ a, x = .ref a ∧ (∃ xs, SqT K H1 a xs) ∧ FR (Itt K a) g tb D σ H1 := rfl
def CmR (J : It) (g : TG) (tc : TT) (te : TE) (k : Nat) (fr : List Nat) (σ : St) (H1 : Hp) (Q : VK) : Prop := ∀ D, H1 D = none → ∃ W : Nat → Nat → Hp → Prop, (∃ m, W 0 m (upd H1 D (.lst []))) ∧ ∀ i m H, W i m H →
 (J.stop i H ∧ Q (.ref D) H) ∨ (J.go i H ∧ ∀ x H', J.yld i H x H' → g x (st0 k fr σ) H' fun σ2 H2 => Keep (st0 k fr σ) σ2 ∧ tc σ2 H2 fun ok H3 =>
  if ok = true then te σ2 H3 fun y H4 => ∃ ys, H4 D = some (.lst ys) ∧ ys.length < sizeLine ∧ ∃ m', m' < m ∧ W (i + 1) m' (upd H4 D (.lst (ys ++ [y])))
  else ∃ m', m' < m ∧ W (i + 1) m' H3)
theorem tComp_rng1 {ta : TA} {g : TG} {tc : TT} {te : TE} {k : Nat} {fr : List Nat} : tComp (iRng1 ta) g tc te k fr = fun σ H Q => ta σ H fun vs H1 => ∃ j : Int, vs = [.int j] ∧ -(2 ^ 62) ≤ j ∧ j < 2 ^ 62 ∧ CmR (Itr 0 j.toNat) g tc te k fr σ H1 Q := rfl
theorem tComp_rng2 {ta : TA} {g : TG} {tc : TT} {te : TE} {k : Nat} {fr : List Nat} : tComp (iRng2 ta) g tc te k fr = fun σ H Q => ta σ H fun vs H1 => ∃ i j : Int, vs = [.int i, .int j] ∧ (-(2 ^ 62) ≤ i ∧ i < 2 ^ 62 ∧ -(2 ^ 62) ≤ j ∧ j < 2 ^ 62) ∧ CmR (Itr i (j - i).toNat) g tc te k fr σ H1 Q := rfl
theorem tComp_list {K : PySem.W.Frag} {tl : TE} {g : TG} {tc : TT} {te : TE} {k : Nat} {fr : List Nat} : tComp (iList K tl) g tc te k fr = fun σ H Q => tl σ H fun x H1 => ∃ a, x = .ref a ∧ (∃ xs, SqL K H1 a xs) ∧ CmR (Itl K a) g tc te k fr σ H1 Q := rfl
theorem tComp_tup {K : PySem.W.Frag} {tl : TE} {g : TG} {tc : TT} {te : TE} {k : Nat} {fr : List Nat} : tComp (iTup K tl) g tc te k fr = fun σ H Q => tl σ H fun x H1 => ∃ a, x = .ref a ∧ (∃ xs, SqT K H1 a xs) ∧ CmR (Itt K a) g tc te k fr σ H1 Q := rfl
theorem keep_set {fr : List Nat} {σ : St} {v : Option V} : Keep (st0 1 fr σ) ((st0 1 fr σ).set 0 v) := by
 refine ⟨by simp, fun i w h => ?_⟩
 cases i with
 | zero => simp [st0, List.replicate] at h
 | succ i => simpa [st0, List.replicate] using h
theorem comp_range {lo : Int} {n : Nat} {te : TE} {fr : List Nat} {σ : St} {H : Hp} {Q : VK} (f : Nat → V) (hn : n ≤ 1000000)
  (ht : ∀ (i : Nat) (H' : Hp) (R : VK), i < n → Same H H' → (∀ H'', Same H' H'' → R (f i) H'') → te ((st0 1 fr σ).set 0 (some (.int (lo + i)))) H' R)
  (hq : ∀ D H', H D = none → Same H H' → H' D = some (.lst ((List.range n).map f)) → Q (.ref D) H') : CmR (Itr lo n) (gName 0) tYes te 1 fr σ H Q := by
 intro D hD
 refine ⟨fun i m H' => m = n - i ∧ i ≤ n ∧ Same H H' ∧ H' D = some (.lst ((List.range i).map f)), ⟨n, by simp, Nat.zero_le _, Same.new hD, by rw [upd_same]; rfl⟩, ?_⟩
 rintro i m H1 ⟨rfl, hi, s1, e1⟩
 by_cases hlt : i < n
 ·refine .inr ⟨hlt, fun x H' y => ?_⟩
  obtain ⟨e, y⟩ := y
  subst e y
  refine ⟨keep_set, ?_⟩
  show te _ _ _
  refine ht i H' _ hlt s1 fun H2 s2 => ?_
  refine ⟨_, s2 D _ e1, ?_, n - (i + 1), by omega, rfl, hlt, ?_, ?_⟩
  ·rw [List.length_map, List.length_range, sizeLine_eq]; omega
  ·exact fun b o h => by rw [upd_ne (ne_of_none h hD)]; exact s2 b o (s1 b o h)
  ·rw [upd_same, List.range_succ, List.map_append]; rfl
 ·have e : i = n := by omega
  subst e
  exact .inl ⟨Nat.le_refl _, hq D H1 hD s1 e1⟩
theorem cxK {CX : CXT} {P : Program} {w : World} {K : PySem.W.Frag} {mg : Str → Option Value} {base : Heap} {N : List Str} {qual : Str} {scope : Scope} {f : Addr} {cd : Value} {A : Around} {outer : List Env} {s : Shared} {H : Hp} {E : XK} : (cxOf CX P w K mg base N qual scope f cd A outer s H E).K = K := rfl
theorem cmK {X : Cx} {scope : Scope} {N' : List Str} {fp : List Addr} {C : Addr} {s : Shared} {H : Hp} : (compCx X scope N' fp C s H).K = X.K := rfl
theorem ixT {K : PySem.W.Frag} {p : Addr} {xs : List V} {i : Int} {v : V} {H : Hp} {Q : VK} (h : SqT K H p xs) (hv : atI xs i = some v) (q : Q v H) : rIxT K (.ref p) (.int i) H Q := ⟨p, xs, i, v, rfl, rfl, h, hv, q⟩
theorem atI_mem {α : Type} {xs : List α} {i : Int} (h0 : 0 ≤ i) (h1 : i < xs.length) : ∃ v, atI xs i = some v ∧ v ∈ xs := by
 obtain ⟨j, rfl⟩ := Int.eq_ofNat_of_zero_le h0
 have hj : j < xs.length := by omega
 exact ⟨xs[j], atI_nat (by simp [hj]), List.getElem_mem hj⟩
theorem min_if {a b : Int} : (if b < a then b else a) = min a b := by
 by_cases h : b < a
 ·rw [if_pos h]; omega
 ·rw [if_neg h]; omega
theorem bt_divmod : bootBuiltins "divmod" = some (.builtin "divmod") := by decide +kernel
theorem bt_isinstance : bootBuiltins "isinstance" = some (.builtin "isinstance") := by decide +kernel
theorem bt_int : bootBuiltins "int" = some (.type "int") := by decide +kernel
theorem bt_bool : bootBuiltins "bool" = some (.type "bool") := by decide +kernel
theorem bt_str : bootBuiltins "str" = some (.type "str") := by decide +kernel
theorem bt_tuple : bootBuiltins "tuple" = some (.type "tuple") := by decide +kernel
end L2

namespace L2
open PySem PySem.Spec PyProof.Rows PySem.W
section
variable {P : Program} {w : World} {K : PySem.W.Frag} {mg : Str → Option Value} {base : Heap} {N : List Str} {qual : Str} {scope : Scope} {f : Addr} {cd : Value} {A : Around} {outer : List Env} {s : Shared} {H : Hp} {E : XK}
end
section
variable {X : Cx}
end
section
variable {P : Program} {w : World} {K : PySem.W.Frag} {mg : Str → Option Value} {base : Heap}
end
end L2

namespace L2
open PySem PySem.Spec PyProof.Rows PySem.W
section
variable {M : Model} {A : Around} {E : Value → Shared → Prop}
variable {nm q : Str} {C N : Addr} {bs bm : List Value} {hdct : Bool} {sn : List Str} {sub : List Value} {ab : Bool} {col : Option Bool} {dd : Option Addr} {k0 k1 k2 k3 k5 : Option Value} {newId : String}
variable {nm' q' : Str} {C' N' : Addr} {bs' bm' : List Value} {hdct' : Bool} {sn' : List Str} {sub' : List Value} {ab' : Bool} {col' : Option Bool} {dd' : Option Addr} {k0' k1' k2' k3' k5' : Option Value} {newId' : String}
end
section
variable {X : Cx} {pins : List (Addr × Obj)} {σ : St} {H : Hp} {s : Shared}
end
end L2

namespace L2
open PySem PySem.Spec PyProof.Rows PySem.W
section
variable {X : Cx} {pins : List (Addr × Obj)} {σ : St} {H : Hp} {s : Shared}
end
section
variable {X : Cx} {CX : CXT} {k : Nat} {f C C' : Addr} {fd : FuncData} {ps : List Str} {sp : Sp} {x c n : Str} {p cp ep np hp tp : Pos} {a : Expr} {as : List Expr} {b₀ : Stmt} {suite : List Stmt} {t : TA} {i : Nat} {ts : TS}
end
end L2

namespace L2
open PySem PySem.Spec PyProof.Rows
section
variable {X : Cx}
theorem bools_of {bs : List Bool} {its : List Value} (r : Vals (bs.map V.bl) its) : its = bs.map Value.bool := by
 induction bs generalizing its with
 | nil => cases r; rfl
 | cons b bs ih =>
  rw [List.map_cons] at r
  cases r with
  | cons r1 r2 =>
   rw [List.map_cons, ← ih r2]
   exact congrArg (· :: _) r1
theorem range_all (bs : List Bool) (f : Nat → Bool) (h : ∀ i, i < bs.length → f i = bs.getD i true) : (List.range bs.length).all f = bs.all id := by
 rw [Bool.eq_iff_iff, List.all_eq_true, List.all_eq_true]
 constructor
 ·intro z b hb
  obtain ⟨i, hi, e⟩ := List.getElem_of_mem hb
  have := z i (List.mem_range.mpr hi)
  rw [h i hi, List.getD_eq_getElem?_getD, List.getElem?_eq_getElem hi] at this
  rw [← e]; exact this
 ·intro z i hi
  have hi := List.mem_range.mp hi
  rw [h i hi, List.getD_eq_getElem?_getD, List.getElem?_eq_getElem hi]
  exact z _ (List.getElem_mem hi)
theorem range_any (bs : List Bool) (f : Nat → Bool) (h : ∀ i, i < bs.length → f i = bs.getD i true) : (List.range bs.length).any f = bs.any id := by
 rw [Bool.eq_iff_iff, List.any_eq_true, List.any_eq_true]
 constructor
 ·rintro ⟨i, hi, z⟩
  have hi := List.mem_range.mp hi
  rw [h i hi, List.getD_eq_getElem?_getD, List.getElem?_eq_getElem hi] at z
  exact ⟨_, List.getElem_mem hi, z⟩
 ·rintro ⟨b, hb, z⟩
  obtain ⟨i, hi, e⟩ := List.getElem_of_mem hb
  refine ⟨i, List.mem_range.mpr hi, ?_⟩
  rw [h i hi, List.getD_eq_getElem?_getD, List.getElem?_eq_getElem hi]
  show bs[i] = true
  rw [e]; exact z
theorem bool_at {bs : List Bool} {i : Nat} {v : Value} (h : (bs.map Value.bool).toArray[i]? = some v) : v = .bool (bs.getD i true) := by
 have h' : (bs.map Value.bool)[i]? = some v := by simpa using h
 rw [List.getElem?_map] at h'
 cases e : bs[i]? with
 | none => rw [e] at h'; cases h'
 | some b =>
  rw [e] at h'
  rw [List.getD_eq_getElem?_getD, e]
  exact (Option.some.inj h').symm
theorem iter_boolList {prog : Program} {w : World} {A : Around} {E : Value → Shared → Prop} {s : Shared} {l : Addr} {items : Array Value} {Q : Value → Shared → Prop} (hl : s.heap.IsList l items)
  (h : ∀ s₂ : Shared, s₂ = { s with heap := s.heap.push { cls := .type "list_iterator", data := .fields #[.ref l, .int 0 0] } } →
   (s₂.heap.IsListIter s.heap.objs.size l 0 ∧ s₂.heap.IsList l items) → l ≠ s.heap.objs.size → Q (.ref s.heap.objs.size) s₂) : wpAny (model prog w) A (pyIter (.ref l)) Q E s := by
 have hlt : l < s.heap.objs.size := by obtain ⟨_, e, _⟩ := hl; exact Heap.lt_size e
 exact wpAny_pyIter_list hl (h _ rfl ⟨⟨_, Heap.get?_push_size _ rfl, rfl, rfl⟩, hl.push _⟩ (Nat.ne_of_lt hlt))
theorem call_all (hc : X.calm = true) : CallR X (.builtin "all") (fun xs H Q => ∃ (a : Addr) (bs : List Bool), xs = [.ref a] ∧ SqL X.K H a (bs.map V.bl) ∧ Q (.bl (bs.all id)) H) := by
 intro pins s σ H xs us Q I r h
 obtain ⟨a, bs, rfl, hl, q⟩ := h
 obtain ⟨u, rfl, rx⟩ := vals1 r
 cases rx
 obtain ⟨its, rv, p, hz⟩ := I.list hl
 have hi := bools_of rv
 subst hi
 refine call_all_walk (iter_boolList p.isList fun s₂ e st hlI => ?_)
 subst e
 refine ⟨_, _, _, _, _, _, fun i => bs.getD i true, rfl, Walks.list (A := X.A.in1) (I.ok.hd hc) _ a hlI _, st, fun i v s' Q' E' hP hq => by rw [bool_at hP]; exact wpAny_truthy_bool hq, fun h' tk hk => ?_⟩
 have e := range_all bs (fun i => bs.getD i true) fun _ _ => rfl
 have e2 : (List.map Value.bool bs).toArray.size = bs.length := by simp
 rw [e2, e]
 exact ⟨.bl (bs.all id), H, I.kept (old_kept hk), rfl, q⟩
theorem call_any (hc : X.calm = true) : CallR X (.builtin "any") (fun xs H Q => ∃ (a : Addr) (bs : List Bool), xs = [.ref a] ∧ SqL X.K H a (bs.map V.bl) ∧ Q (.bl (bs.any id)) H) := by
 intro pins s σ H xs us Q I r h
 obtain ⟨a, bs, rfl, hl, q⟩ := h
 obtain ⟨u, rfl, rx⟩ := vals1 r
 cases rx
 obtain ⟨its, rv, p, hz⟩ := I.list hl
 have hi := bools_of rv
 subst hi
 refine call_any_walk (iter_boolList p.isList fun s₂ e st hlI => ?_)
 subst e
 refine ⟨_, _, _, _, _, _, fun i => bs.getD i true, rfl, Walks.list (A := X.A.in1) (I.ok.hd hc) _ a hlI _, st, fun i v s' Q' E' hP hq => by rw [bool_at hP]; exact wpAny_truthy_bool hq, fun h' tk hk => ?_⟩
 have e := range_any bs (fun i => bs.getD i true) fun _ _ => rfl
 have e2 : (List.map Value.bool bs).toArray.size = bs.length := by simp
 rw [e2, e]
 exact ⟨.bl (bs.any id), H, I.kept (old_kept hk), rfl, q⟩
end
end L2

namespace L2
open PySem PySem.Spec PyProof.Rows PySem.W PySem.Calls PySem.Builtin.ObjectAttr PySem.Builtin PySem.Builtin.Getset_descriptor
section
variable {prog : Program} {w : World} {A : Around} {E : Value → Shared → Prop} {s : Shared} {K : PySem.W.Frag} {x C : Addr}
end
section
variable {X : Cx}
end
end L2

namespace L2
open PySem PySem.Spec PyProof.Rows PySem.W
section
variable {X : Cx} {pins : List (Addr × Obj)} {σ : St} {H : Hp} {s : Shared}
end
section
variable {X : Cx}
abbrev Shp (d : PyData) : Prop := SeqAt.shaped d = true
end
theorem bt_all : bootBuiltins "all" = some (.builtin "all") := by decide +kernel
theorem bt_any : bootBuiltins "any" = some (.builtin "any") := by decide +kernel
end L2

namespace L2
open PySem PySem.Spec PyProof.Rows PySem.W
def IsPack (p : Addr) (h : Heap) : Prop := ∃ (n : Int) (t : Tok) (k : Nat), h.get? p = some { cls := .type "list", data := .seq #[.int n t] k }
abbrev packO (p : Addr) : HO := .ext (IsPack p)
abbrev packD : PyData := .dict [(.none, .none)]
abbrev scrD (ds : List PyData) : PyData := .dict [(.none, .list ds)]
abbrev objP (C : Addr) (kp ds : List PyData) : PyData := .dict [(.none, .tuple [.int (C : Int), .list kp, .list ds])]
abbrev dicP (kp ds : List PyData) : PyData := .dict [(.bool true, .tuple [.list kp, .list ds])]
abbrev Ex := Addr → Prop
abbrev H00 : Hp := fun _ => none
mutual
inductive Dt (K : PySem.W.Frag) (H : Hp) (O : Ex) : V → PyData → Prop
 | non : Dt K H O .non .none
 | bl (b : Bool) : Dt K H O (.bl b) (.bool b)
 | int (i : Int) : Dt K H O (.int i) (.int i)
 | str (x : Str) : Dt K H O (.str x) (.str x)
 | tup {a : Addr} {xs : List V} {ds : List PyData} : Rd H a (.tup xs) → ¬ O a → Dts K H O xs ds → Dt K H O (.ref a) (.tuple ds)
 | tupK {a : Addr} {xs : List V} {ds : List PyData} : SqT K H00 a xs → Dts K H O xs ds → Dt K H O (.ref a) (.tuple ds)
 | lst {a : Addr} {xs : List V} {ds : List PyData} : Rd H a (.lst xs) → ¬ O a → Dts K H O xs ds → Dt K H O (.ref a) (.list ds)
 | pack {p : Addr} : H p = some (packO p) → ¬ O p → Dt K H O (.ref p) packD
 | dct0 {a : Addr} : H a = some (.dK []) → ¬ O a → Dt K H O (.ref a) (.dict [])
 | obj {a C dx : Addr} {fs : List (Str × V)} {kp ds : List PyData} : H a = some (.ins C dx fs) → kp = fs.map (fun p => PyData.str p.1) → ¬ O a → Dts K H O (fs.map (·.2)) ds → Dt K H O (.ref a) (objP C kp ds)
 | dic {a : Addr} {kv : List (Key × V)} {ks : List Str} {kp ds : List PyData} : H a = some (.dK kv) → kv.map (·.1) = ks.map Sum.inr → kp = ks.map PyData.str → ¬ O a → Dts K H O (kv.map (·.2)) ds → Dt K H O (.ref a) (dicP kp ds)
 | scr {a : Addr} {xs : List V} {ds : List PyData} : (Rd H a (.lst xs) ∧ ¬ O a) ∨ SqL K H00 a xs → Dts K H O xs ds → Dt K H O (.ref a) (scrD ds)
inductive Dts (K : PySem.W.Frag) (H : Hp) (O : Ex) : List V → List PyData → Prop
 | nil : Dts K H O [] []
 | cons {v : V} {d : PyData} {vs : List V} {ds : List PyData} : Dt K H O v d → Dts K H O vs ds → Dts K H O (v :: vs) (d :: ds)
end
theorem Rd.same {H H' : Hp} {a : Addr} {u : HO} (s : ∀ o, H a = some o → H' a = some o) (h : Rd H a u) : Rd H' a u := by
 rcases h with h | ⟨o, h⟩
 ·exact .inl (s _ h)
 ·exact .inr ⟨o, s _ h⟩
theorem Rd.trk {H : Hp} {a : Addr} {u : HO} (h : Rd H a u) : H a ≠ none := by
 rcases h with h | ⟨o, h⟩ <;> rw [h] <;> exact fun z => nomatch z
section
variable {K : PySem.W.Frag}
structure Step (H H' : Hp) (O O' : Ex) : Prop where
 keep : ∀ b o, H b = some o → ¬ O b → H' b = some o
 out : ∀ b, H b ≠ none → ¬ O b → ¬ O' b
mutual
theorem Dt.step {H H' : Hp} {O O' : Ex} (S : Step H H' O O') : ∀ {v : V} {d : PyData}, Dt K H O v d → Dt K H' O' v d
 | _, _, .non => .non
 | _, _, .bl b => .bl b
 | _, _, .int i => .int i
 | _, _, .str x => .str x
 | _, _, .tup h n r => .tup (h.same fun o e => S.keep _ o e n) (S.out _ h.trk n) (Dts.step S r)
 | _, _, .tupK h r => .tupK h (Dts.step S r)
 | _, _, .lst h n r => .lst (h.same fun o e => S.keep _ o e n) (S.out _ h.trk n) (Dts.step S r)
 | _, _, .pack h n => .pack (S.keep _ _ h n) (S.out _ (by rw [h]; exact fun z => nomatch z) n)
 | _, _, .dct0 h n => .dct0 (S.keep _ _ h n) (S.out _ (by rw [h]; exact fun z => nomatch z) n)
 | _, _, .obj h e n r => .obj (S.keep _ _ h n) e (S.out _ (by rw [h]; exact fun z => nomatch z) n) (Dts.step S r)
 | _, _, .dic h e1 e2 n r => .dic (S.keep _ _ h n) e1 e2 (S.out _ (by rw [h]; exact fun z => nomatch z) n) (Dts.step S r)
 | _, _, .scr h r => .scr (h.imp (fun h => ⟨h.1.same fun o e => S.keep _ o e h.2, S.out _ h.1.trk h.2⟩) id) (Dts.step S r)
theorem Dts.step {H H' : Hp} {O O' : Ex} (S : Step H H' O O') : ∀ {vs : List V} {ds : List PyData}, Dts K H O vs ds → Dts K H' O' vs ds
 | _, _, .nil => .nil
 | _, _, .cons h r => .cons (Dt.step S h) (Dts.step S r)
end
theorem Step.same {H H' : Hp} {O : Ex} (s : Same H H') : Step H H' O O := ⟨fun b o e _ => s b o e, fun _ _ n => n⟩
theorem Dt.mono {H H' : Hp} {O : Ex} {v : V} {d : PyData} (s : Same H H') (h : Dt K H O v d) : Dt K H' O v d := h.step (.same s)
theorem Dts.mono {H H' : Hp} {O : Ex} {v : List V} {d : List PyData} (s : Same H H') (h : Dts K H O v d) : Dts K H' O v d := h.step (.same s)
theorem Dts.length {H : Hp} {O : Ex} : ∀ {vs : List V} {ds : List PyData}, Dts K H O vs ds → vs.length = ds.length
 | _, _, .nil => rfl
 | _, _, .cons _ r => by rw [List.length_cons, List.length_cons, Dts.length r]
theorem Dts.get {H : Hp} {O : Ex} : ∀ {vs : List V} {ds : List PyData} {i : Nat} {v : V}, Dts K H O vs ds → vs[i]? = some v → ∃ d, ds[i]? = some d ∧ Dt K H O v d
 | _, _, _, _, .nil, e => by simp at e
 | _, _, 0, _, .cons h _, e => by simp at e; subst e; exact ⟨_, rfl, h⟩
 | _, _, i + 1, _, .cons _ r, e => by simpa using Dts.get (i := i) r (by simpa using e)
theorem Dts.getD {H : Hp} {O : Ex} : ∀ {vs : List V} {ds : List PyData} {i : Nat} {d : PyData}, Dts K H O vs ds → ds[i]? = some d → ∃ v, vs[i]? = some v ∧ Dt K H O v d
 | _, _, _, _, .nil, e => by simp at e
 | _, _, 0, _, .cons h _, e => by simp at e; subst e; exact ⟨_, rfl, h⟩
 | _, _, i + 1, _, .cons _ r, e => by simpa using Dts.getD (i := i) r (by simpa using e)
theorem Dts.append {H : Hp} {O : Ex} : ∀ {vs ws : List V} {ds es : List PyData}, Dts K H O vs ds → Dts K H O ws es → Dts K H O (vs ++ ws) (ds ++ es)
 | _, _, _, _, .nil, s => s
 | _, _, _, _, .cons h r, s => .cons h (Dts.append r s)
theorem Dts.take {H : Hp} {O : Ex} : ∀ {vs : List V} {ds : List PyData} (n : Nat), Dts K H O vs ds → Dts K H O (vs.take n) (ds.take n)
 | _, _, 0, _ => .nil
 | _, _, _ + 1, .nil => .nil
 | _, _, n + 1, .cons h r => .cons h (Dts.take n r)
theorem Dts.drop {H : Hp} {O : Ex} : ∀ {vs : List V} {ds : List PyData} (n : Nat), Dts K H O vs ds → Dts K H O (vs.drop n) (ds.drop n)
 | _, _, 0, r => r
 | _, _, _ + 1, .nil => .nil
 | _, _, n + 1, .cons _ r => Dts.drop n r
theorem Dts.reverse {H : Hp} {O : Ex} : ∀ {vs : List V} {ds : List PyData}, Dts K H O vs ds → Dts K H O vs.reverse ds.reverse
 | _, _, .nil => .nil
 | _, _, .cons h r => by rw [List.reverse_cons, List.reverse_cons]; exact (Dts.reverse r).append (.cons h .nil)
theorem Dts.ints {H : Hp} {O : Ex} : ∀ (ns : List Int), Dts K H O (ns.map V.int) (ns.map PyData.int)
 | [] => .nil
 | n :: r => .cons (.int n) (Dts.ints r)
inductive Sh (K : PySem.W.Frag) (H : Hp) (O : Ex) : V → PyData → Prop
 | dt {v : V} {d : PyData} : Dt K H O v d → Sh K H O v d
 | own {l : Addr} {vs : List V} {ds : List PyData} : H l = some (.lst vs) → Dts K H O vs ds → Sh K H O (.ref l) (.list ds)
theorem Sh.mono {H H' : Hp} {O : Ex} {v : V} {d : PyData} (s : Same H H') : Sh K H O v d → Sh K H' O v d
 | .dt h => .dt (h.mono s)
 | .own h r => .own (s _ _ h) (r.mono s)
theorem Dt.all {H : Hp} {O : Ex} {v : V} {d : PyData} (h : Dt K H O v d) : Dt K H (fun _ => False) v d := h.step ⟨fun _ _ e _ => e, fun _ _ _ z => z⟩
theorem Dts.all {H : Hp} {O : Ex} {v : List V} {d : List PyData} (h : Dts K H O v d) : Dts K H (fun _ => False) v d := h.step ⟨fun _ _ e _ => e, fun _ _ _ z => z⟩
theorem Sh.all {H : Hp} {O : Ex} {v : V} {d : PyData} : Sh K H O v d → Dt K H (fun _ => False) v d
 | .dt h => h.all
 | .own h r => .lst (.inl h) (fun z => z) r.all
theorem SqT.of0 {H : Hp} {a : Addr} {xs : List V} (h : SqT K H00 a xs) : SqT K H a xs := by
 rcases h with (h | ⟨o, h⟩) | h
 ·cases h
 ·cases h
 ·exact .inr h
theorem SqL.of0 {H : Hp} {a : Addr} {xs : List V} (h : SqL K H00 a xs) : SqL K H a xs := by
 rcases h with (h | ⟨o, h⟩) | h
 ·cases h
 ·cases h
 ·exact .inr h
theorem Sh.tup {H : Hp} {O : Ex} {v : V} {ds : List PyData} (h : Sh K H O v (.tuple ds)) : ∃ a xs, v = .ref a ∧ SqT K H a xs ∧ Dts K H O xs ds := by
 cases h with
 | dt h =>
  cases h with
  | tup h _ r => exact ⟨_, _, rfl, .inl h, r⟩
  | tupK h r => exact ⟨_, _, rfl, h.of0, r⟩
theorem Sh.lstR {H : Hp} {O : Ex} {v : V} {ds : List PyData} (h : Sh K H O v (.list ds)) : ∃ a xs, v = .ref a ∧ Rd H a (.lst xs) ∧ Dts K H O xs ds := by
 cases h with
 | dt h =>
  cases h with
  | lst h _ r => exact ⟨_, _, rfl, h, r⟩
 | own h r => exact ⟨_, _, rfl, .inl h, r⟩
theorem Sh.lst {H : Hp} {O : Ex} {v : V} {ds : List PyData} (h : Sh K H O v (.list ds)) : ∃ a xs, v = .ref a ∧ SqL K H a xs ∧ Dts K H O xs ds := by
 obtain ⟨a, xs, e, h, r⟩ := h.lstR
 exact ⟨a, xs, e, .inl h, r⟩
theorem Sh.scr {H : Hp} {O : Ex} {v : V} {ds : List PyData} (h : Sh K H O v (scrD ds)) : ∃ a xs, v = .ref a ∧ SqL K H a xs ∧ Dts K H O xs ds := by
 cases h with
 | dt h =>
  cases h with
  | scr h r =>
   rcases h with h | h
   ·exact ⟨_, _, rfl, .inl h.1, r⟩
   ·exact ⟨_, _, rfl, h.of0, r⟩
theorem Sh.int {H : Hp} {O : Ex} {v : V} {i : Int} (h : Sh K H O v (.int i)) : v = .int i := by cases h with | dt h => cases h; rfl
theorem Sh.bl {H : Hp} {O : Ex} {v : V} {i : Bool} (h : Sh K H O v (.bool i)) : v = .bl i := by cases h with | dt h => cases h; rfl
theorem Sh.str {H : Hp} {O : Ex} {v : V} {i : Str} (h : Sh K H O v (.str i)) : v = .str i := by cases h with | dt h => cases h; rfl
theorem Sh.non {H : Hp} {O : Ex} {v : V} (h : Sh K H O v .none) : v = .non := by cases h with | dt h => cases h; rfl
end
section
variable {X : Cx} {pins : List (Addr × Obj)} {σ : St} {H : Hp} {s : Shared}
mutual
theorem dt_reads (I : Inv X pins σ H s) {O : Ex} : ∀ {v : V} {d : PyData} {u : Value}, Dt X.K H O v d → d.canLay0 = true → RelV v u → ∃ as, Reads s.heap u d as
 | _, _, _, .non, _, r => by cases r; exact ⟨_, Reads.none⟩
 | _, _, _, .bl b, _, r => by cases r; exact ⟨_, Reads.bool b⟩
 | _, _, _, .int i, _, r => by obtain ⟨t, rfl⟩ := r; exact ⟨_, Reads.int i t⟩
 | _, _, _, .str x, _, r => by obtain ⟨t, rfl⟩ := r; exact ⟨_, Reads.str x t⟩
 | _, _, _, .tup h _ hs, c, r => by
  cases r
  obtain ⟨its, rv, ⟨o, e, c', n, dd⟩, _⟩ := I.tuple (.inl h)
  obtain ⟨as, q⟩ := dts_reads I hs (by simpa [PyData.canLay0] using c) rv
  exact ⟨as, reads_tuple_at e c' dd (by simpa using q)⟩
 | _, _, _, .tupK h hs, c, r => by
  cases r
  obtain ⟨its, rv, ⟨o, e, c', n, dd⟩, _⟩ := I.tuple h.of0
  obtain ⟨as, q⟩ := dts_reads I hs (by simpa [PyData.canLay0] using c) rv
  exact ⟨as, reads_tuple_at e c' dd (by simpa using q)⟩
 | _, _, _, .lst h _ hs, c, r => by
  cases r
  obtain ⟨its, rv, ⟨o, n, e, c', _, dd⟩, _⟩ := I.list (.inl h)
  obtain ⟨as, q⟩ := dts_reads I hs (by simpa [PyData.canLay0] using c) rv
  exact ⟨_, reads_list_at e c' dd (by simpa using q)⟩
 | _, _, _, .pack _ _, c, _ => by simp [PyData.canLay0] at c
 | _, _, _, .dct0 _ _, c, _ => by simp [PyData.canLay0] at c
 | _, _, _, .obj _ _ _ _, c, _ => by simp [PyData.canLay0] at c
 | _, _, _, .dic _ _ _ _ _, c, _ => by simp [PyData.canLay0] at c
 | _, _, _, .scr _ _, c, _ => by simp [PyData.canLay0] at c
theorem dts_reads (I : Inv X pins σ H s) {O : Ex} : ∀ {vs : List V} {ds : List PyData} {us : List Value}, Dts X.K H O vs ds → PyData.canLayAll0 ds = true → Vals vs us → ∃ as, ReadsAll s.heap us ds as
 | _, _, _, .nil, _, r => by cases r; exact ⟨_, ReadsAll.nil⟩
 | _, _, _, .cons h hs, c, r => by
  rw [PyData.canLayAll0, Bool.and_eq_true] at c
  cases r with
  | cons r1 r2 =>
   obtain ⟨as, q⟩ := dt_reads I h c.1 r1
   obtain ⟨bs, p⟩ := dts_reads I hs c.2 r2
   exact ⟨_, ReadsAll.cons q p⟩
end
end
end L2

namespace L2
open PySem PySem.Spec PyProof.Rows PySem.W
inductive Sl where
 | v (d : PyData)
 | o (ds : List PyData)
 | k (kd : List (Key × PyData))
 | i (l C : Addr) (fd : List (Str × PyData))
abbrev Dl := List (Option Sl)
inductive KDt (K : PySem.W.Frag) (H : Hp) (O : Ex) : List (Key × V) → List (Key × PyData) → Prop
 | nil : KDt K H O [] []
 | cons {k : Key} {v : V} {d : PyData} {r : List (Key × V)} {s : List (Key × PyData)} : Dt K H O v d → KDt K H O r s → KDt K H O ((k, v) :: r) ((k, d) :: s)
theorem KDt.step {K : PySem.W.Frag} {H H' : Hp} {O O' : Ex} (S : Step H H' O O') {r : List (Key × V)} {s : List (Key × PyData)} (h : KDt K H O r s) : KDt K H' O' r s := by
 induction h with
 | nil => exact .nil
 | cons a _ ih => exact .cons (a.step S) ih
theorem KDt.mono {K : PySem.W.Frag} {H H' : Hp} {O : Ex} (S : Same H H') {r : List (Key × V)} {s : List (Key × PyData)} (h : KDt K H O r s) : KDt K H' O r s := h.step (.same S)
def FDt (K : PySem.W.Frag) (H : Hp) (O : Ex) (fs : List (Str × V)) (fd : List (Str × PyData)) : Prop := fs.map (·.1) = fd.map (·.1) ∧ Dts K H O (fs.map (·.2)) (fd.map (·.2))
def Sl.own : Sl → Prop
 | .v _ => False
 | _ => True
def SlotOk (K : PySem.W.Frag) (H : Hp) (O0 O : Ex) (x : Option V) : Option Sl → Prop
 | none => True
 | some (.v d) => ∃ v, x = some v ∧ Dt K H O v d
 | some (.o ds) => ∃ l vs, x = some (.ref l) ∧ O l ∧ ¬ O0 l ∧ H l = some (.lst vs) ∧ Dts K H O vs ds
 | some (.k kd) => ∃ l kv, x = some (.ref l) ∧ O l ∧ ¬ O0 l ∧ H l = some (.dK kv) ∧ KDt K H O kv kd
 | some (.i l C fd) => ∃ dx fs, x = some (.ref l) ∧ O l ∧ ¬ O0 l ∧ H l = some (.ins C dx fs) ∧ FDt K H O fs fd
structure Wd (K : PySem.W.Frag) (H0 : Hp) (O0 : Ex) (H : Hp) (O : Ex) (σ : St) (δ : Dl) : Prop where
 same : Same H0 H
 sub : ∀ l, O0 l → O l
 new : ∀ l, O l → O0 l ∨ H0 l = none
 trk : ∀ l, O l → H l ≠ none
 len : σ.length = δ.length
 sl : ∀ (i : Nat) y, δ[i]? = some y → SlotOk K H O0 O ((σ[i]?).join) y
 dis : ∀ (i j : Nat) y z l, δ[i]? = some (some y) → y.own → δ[j]? = some (some z) → z.own → σ[i]? = some (some (.ref l)) → σ[j]? = some (some (.ref l)) → i = j
section
variable {K : PySem.W.Frag} {H0 H H' : Hp} {O0 O : Ex} {σ : St} {δ : Dl}
theorem SlotOk.mono {x : Option V} {y : Option Sl} (s : Same H H') (h : SlotOk K H O0 O x y) : SlotOk K H' O0 O x y := by
 match y, h with
 | none, _ => exact True.intro
 | some (.v d), ⟨v, e, r⟩ => exact ⟨v, e, r.mono s⟩
 | some (.o ds), ⟨l, vs, e, a, b, c, r⟩ => exact ⟨l, vs, e, a, b, s _ _ c, r.mono s⟩
 | some (.k ds), ⟨l, vs, e, a, b, c, r⟩ => exact ⟨l, vs, e, a, b, s _ _ c, r.mono s⟩
 | some (.i l C ds), ⟨dx, vs, e, a, b, c, r1, r2⟩ => exact ⟨dx, vs, e, a, b, s _ _ c, r1, r2.mono s⟩
theorem SlotOk.go {O' : Ex} {x : Option V} {y : Option Sl} (h : SlotOk K H O0 O x y) (S : Step H H' O O') (kp : ∀ l o, y.any (fun z => match z with | .v _ => false | _ => true) = true → x = some (.ref l) → O l → ¬ O0 l → H l = some o → O' l ∧ H' l = some o) : SlotOk K H' O0 O' x y := by
 match y, h with
 | none, _ => exact True.intro
 | some (.v d), ⟨v, e, r⟩ => exact ⟨v, e, r.step S⟩
 | some (.o ds), ⟨l, vs, e, a, b, c, r⟩ => exact ⟨l, vs, e, (kp l _ rfl e a b c).1, b, (kp l _ rfl e a b c).2, r.step S⟩
 | some (.k ds), ⟨l, vs, e, a, b, c, r⟩ => exact ⟨l, vs, e, (kp l _ rfl e a b c).1, b, (kp l _ rfl e a b c).2, r.step S⟩
 | some (.i l C ds), ⟨dx, vs, e, a, b, c, r1, r2⟩ => exact ⟨dx, vs, e, (kp l _ rfl e a b c).1, b, (kp l _ rfl e a b c).2, r1, r2.step S⟩
theorem Wd.mono (s : Same H H') (w : Wd K H0 O0 H O σ δ) : Wd K H0 O0 H' O σ δ :=
 ⟨w.same.trans s, w.sub, w.new, fun l h z => (by
  cases e : H l with
  | none => exact w.trk l h e
  | some o => rw [s _ _ e] at z; cases z), w.len, fun i y e => (w.sl i y e).mono s, w.dis⟩
theorem at_join {i : Nat} {v : V} (h : (σ[i]?).join = some v) : σ[i]? = some (some v) := by
 cases q : σ[i]? with
 | none => rw [q] at h; cases h
 | some o => rw [q] at h; rw [show o = some v from h]
theorem Wd.val (w : Wd K H0 O0 H O σ δ) {i : Nat} {d : PyData} (e : δ[i]? = some (some (.v d))) : ∃ v, σ[i]? = some (some v) ∧ Dt K H O v d := by
 obtain ⟨v, h, r⟩ := w.sl i _ e
 exact ⟨v, at_join h, r⟩
theorem Wd.own (w : Wd K H0 O0 H O σ δ) {i : Nat} {ds : List PyData} (e : δ[i]? = some (some (.o ds))) : ∃ l vs, σ[i]? = some (some (.ref l)) ∧ O l ∧ ¬ O0 l ∧ H l = some (.lst vs) ∧ Dts K H O vs ds := by
 obtain ⟨l, vs, h, r⟩ := w.sl i _ e
 exact ⟨l, vs, at_join h, r⟩
theorem Wd.ownK (w : Wd K H0 O0 H O σ δ) {i : Nat} {kd : List (Key × PyData)} (e : δ[i]? = some (some (.k kd))) : ∃ l kv, σ[i]? = some (some (.ref l)) ∧ O l ∧ ¬ O0 l ∧ H l = some (.dK kv) ∧ KDt K H O kv kd := by
 obtain ⟨l, vs, h, r⟩ := w.sl i _ e
 exact ⟨l, vs, at_join h, r⟩
theorem Wd.ownI (w : Wd K H0 O0 H O σ δ) {i : Nat} {l C : Addr} {fd : List (Str × PyData)} (e : δ[i]? = some (some (.i l C fd))) : ∃ dx fs, σ[i]? = some (some (.ref l)) ∧ O l ∧ ¬ O0 l ∧ H l = some (.ins C dx fs) ∧ FDt K H O fs fd := by
 obtain ⟨dx, vs, h, r⟩ := w.sl i _ e
 exact ⟨dx, vs, at_join h, r⟩
theorem Wd.adr (w : Wd K H0 O0 H O σ δ) {i : Nat} {y : Sl} (e : δ[i]? = some (some y)) (h : y.own) : ∃ l, σ[i]? = some (some (.ref l)) ∧ O l ∧ ¬ O0 l := by
 match y, h, e with
 | .o ds, _, e => obtain ⟨l, vs, a, b, c, _⟩ := w.own e; exact ⟨l, a, b, c⟩
 | .k ds, _, e => obtain ⟨l, vs, a, b, c, _⟩ := w.ownK e; exact ⟨l, a, b, c⟩
 | .i l C ds, _, e => obtain ⟨dx, vs, a, b, c, _⟩ := w.ownI e; exact ⟨l, a, b, c⟩
theorem Wd.set (w : Wd K H0 O0 H O σ δ) {i : Nat} {v : V} {d : PyData} (h : Dt K H O v d) : Wd K H0 O0 H O (σ.set i (some v)) (δ.set i (some (.v d))) := by
 refine ⟨w.same, w.sub, w.new, w.trk, by simp [w.len], fun j y e => ?_, fun j k y z l e1 y1 e2 z2 e3 e4 => ?_⟩
 ·by_cases hj : j = i
  ·subst hj
   have hl : j < δ.length := by
    have := (List.getElem?_eq_some_iff.mp e).1; simpa using this
   rw [List.getElem?_set_self hl] at e
   cases e
   rw [List.getElem?_set_self (by rw [w.len]; exact hl)]
   exact ⟨v, rfl, h⟩
  ·rw [List.getElem?_set_ne (Ne.symm hj)] at e ⊢
   exact w.sl j y e
 ·have ne : ∀ {j : Nat} {y : Sl}, (δ.set i (some (.v d)))[j]? = some (some y) → y.own → j ≠ i := fun {j y} e ho z => by
   subst z
   by_cases hl : j < δ.length
   ·rw [List.getElem?_set_self hl] at e; cases e; exact ho
   ·rw [List.getElem?_eq_none (by simpa using hl)] at e; cases e
  have n1 := ne e1 y1; have n2 := ne e2 z2
  rw [List.getElem?_set_ne (Ne.symm n1)] at e1 e3
  rw [List.getElem?_set_ne (Ne.symm n2)] at e2 e4
  exact w.dis j k y z l e1 y1 e2 z2 e3 e4
theorem Wd.setY (w : Wd K H0 O0 H O σ δ) {i : Nat} {p : Addr} {ho : HO} {y0 : Sl} (hy : y0.own) (hp : H p = none) (h : ∀ O', Step H (upd H p ho) O O' → O' p → ¬ O0 p → SlotOk K (upd H p ho) O0 O' (some (.ref p)) (some y0)) :
  Wd K H0 O0 (upd H p ho) (fun l => O l ∨ l = p) (σ.set i (some (.ref p))) (δ.set i (some y0)) := by
 have sm : Same H (upd H p ho) := Same.new hp
 have np : ∀ l, O l → l ≠ p := fun l hl z => w.trk l hl (by rw [z]; exact hp)
 have p0 : H0 p = none := by
  cases e : H0 p with
  | none => rfl
  | some o => rw [w.same _ _ e] at hp; cases hp
 have S : Step H (upd H p ho) O (fun l => O l ∨ l = p) := ⟨fun b o e _ => sm b o e, fun b hb hn z => z.elim hn fun q => hb (by rw [q]; exact hp)⟩
 have n0 : ¬ O0 p := fun z => np p (w.sub p z) rfl
 refine ⟨w.same.trans sm, fun l z => .inl (w.sub l z), fun l z => z.elim (w.new l) fun q => .inr (by rw [q]; exact p0), fun l z => ?_, by simp [w.len], fun j y e => ?_, fun j k y z l e1 y1 e2 z2 e3 e4 => ?_⟩
 ·by_cases q : l = p
  ·rw [q, upd_same]; exact fun z => nomatch z
  ·rw [upd_ne q]; exact w.trk l (z.resolve_right q)
 ·by_cases hj : j = i
  ·subst hj
   have hl : j < δ.length := by
    have := (List.getElem?_eq_some_iff.mp e).1; simpa using this
   rw [List.getElem?_set_self hl] at e
   cases e
   rw [List.getElem?_set_self (by rw [w.len]; exact hl)]
   exact h _ S (.inr rfl) n0
  ·rw [List.getElem?_set_ne (Ne.symm hj)] at e ⊢
   exact (w.sl j y e).go S fun l o _ _ a _ c => ⟨.inl a, sm _ _ c⟩
 ·by_cases hj : j = i
  ·by_cases hk : k = i
   ·rw [hj, hk]
   ·exfalso
    rw [hj] at e1 e3
    have hl : i < σ.length := by
     have := (List.getElem?_eq_some_iff.mp e3).1; simpa using this
    rw [List.getElem?_set_self hl] at e3
    cases e3
    rw [List.getElem?_set_ne (Ne.symm hk)] at e2 e4
    obtain ⟨l', x1, x2, _⟩ := w.adr e2 z2
    rw [e4] at x1; cases x1
    exact np _ x2 rfl
  ·by_cases hk : k = i
   ·exfalso
    rw [hk] at e2 e4
    have hl : i < σ.length := by
     have := (List.getElem?_eq_some_iff.mp e4).1; simpa using this
    rw [List.getElem?_set_self hl] at e4
    cases e4
    rw [List.getElem?_set_ne (Ne.symm hj)] at e1 e3
    obtain ⟨l', x1, x2, _⟩ := w.adr e1 y1
    rw [e3] at x1; cases x1
    exact np _ x2 rfl
   ·rw [List.getElem?_set_ne (Ne.symm hj)] at e1 e3
    rw [List.getElem?_set_ne (Ne.symm hk)] at e2 e4
    exact w.dis j k _ _ l e1 y1 e2 z2 e3 e4
theorem Wd.setO (w : Wd K H0 O0 H O σ δ) {i : Nat} {p : Addr} {vs : List V} {ds : List PyData} (hp : H p = none) (h : Dts K H O vs ds) :
  Wd K H0 O0 (upd H p (.lst vs)) (fun l => O l ∨ l = p) (σ.set i (some (.ref p))) (δ.set i (some (.o ds))) :=
 w.setY trivial hp fun O' S a b => ⟨p, vs, rfl, a, b, upd_same, h.step S⟩
theorem Wd.putY (w : Wd K H0 O0 H O σ δ) {i : Nat} {l : Addr} {ho : HO} {y0 y1 : Sl} (h0 : y0.own) (h1 : y1.own) (e : δ[i]? = some (some y0)) (hl : σ[i]? = some (some (.ref l))) (h : Step H (upd H l ho) O O → O l → ¬ O0 l → SlotOk K (upd H l ho) O0 O (some (.ref l)) (some y1)) :
  Wd K H0 O0 (upd H l ho) O σ (δ.set i (some y1)) := by
 obtain ⟨l', x1, x2, x3⟩ := w.adr e h0
 rw [hl] at x1; cases x1
 have l0 : H0 l = none := (w.new l x2).resolve_left x3
 have S : Step H (upd H l ho) O O := ⟨fun b o q n => by rw [upd_ne (fun z => n (by rw [z]; exact x2))]; exact q, fun _ _ n => n⟩
 have li : i < δ.length := (List.getElem?_eq_some_iff.mp e).1
 refine ⟨fun b o q => by rw [upd_ne (fun z => by rw [z, l0] at q; cases q)]; exact w.same b o q, w.sub, w.new, fun b z => ?_, by simp [w.len], fun j y q => ?_, fun j k y z b e1 y1' e2 z2 e3 e4 => ?_⟩
 ·by_cases q : b = l
  ·rw [q, upd_same]; exact fun z => nomatch z
  ·rw [upd_ne q]; exact w.trk b z
 ·by_cases hj : j = i
  ·subst hj
   rw [List.getElem?_set_self li] at q
   cases q
   rw [hl]
   exact h S x2 x3
  ·rw [List.getElem?_set_ne (Ne.symm hj)] at q
   refine (w.sl j y q).go S fun b o ho' e' a1 a2 a3 => ⟨a1, ?_⟩
   have nb : b ≠ l := fun z => by
    subst z
    match y, ho', q with
    | some z, ho', q => exact hj (w.dis j i z y0 b q (by cases z <;> first | trivial | cases ho') e h0 (at_join e') hl)
   rw [upd_ne nb]; exact a3
 ·have back : ∀ {j : Nat} {y : Sl}, (δ.set i (some y1))[j]? = some (some y) → y.own → ∃ y', δ[j]? = some (some y') ∧ y'.own := fun {j y} q hq => by
   by_cases hj : j = i
   ·subst hj; exact ⟨_, e, h0⟩
   ·rw [List.getElem?_set_ne (Ne.symm hj)] at q; exact ⟨_, q, hq⟩
  obtain ⟨_, q1, r1⟩ := back e1 y1'
  obtain ⟨_, q2, r2⟩ := back e2 z2
  exact w.dis j k _ _ b q1 r1 q2 r2 e3 e4
theorem Wd.putO (w : Wd K H0 O0 H O σ δ) {i : Nat} {l : Addr} {vs us : List V} {ds es : List PyData} (e : δ[i]? = some (some (.o ds))) (hl : σ[i]? = some (some (.ref l))) (h : Dts K H O us es) :
  Wd K H0 O0 (upd H l (.lst us)) O σ (δ.set i (some (.o es))) :=
 w.putY (y0 := .o ds) (y1 := .o es) trivial trivial e hl fun S a b => ⟨l, us, rfl, a, b, upd_same, h.step S⟩
end
abbrev DT := Dl → (PyData → Prop) → Prop
abbrev DA := Dl → (List PyData → Prop) → Prop
abbrev DB := Dl → (Bool → Prop) → Prop
structure DEnds where
 nx : Dl → Prop
 rt : PyData → Prop
 bk : Dl → Prop := fun _ => False
 ct : Dl → Prop := fun _ => False
abbrev DS := DEnds → Dl → Prop
section
variable (K : PySem.W.Frag) (H0 : Hp) (O0 : Ex)
def up (t : DT) : TE := fun σ H R => ∃ O δ Qd, Wd K H0 O0 H O σ δ ∧ t δ Qd ∧ ∀ d v H', Qd d → Same H H' → Dt K H' O v d → R v H'
def upS (t : DT) : TE := fun σ H R => ∃ O δ Qd, Wd K H0 O0 H O σ δ ∧ t δ Qd ∧ ∀ d v H', Qd d → Same H H' → Sh K H' O v d → R v H'
def upA (t : DA) : TA := fun σ H R => ∃ O δ Qd, Wd K H0 O0 H O σ δ ∧ t δ Qd ∧ ∀ ds vs H', Qd ds → Same H H' → Dts K H' O vs ds → R vs H'
def upT (t : DB) : TT := fun σ H R => ∃ O δ Qd, Wd K H0 O0 H O σ δ ∧ t δ Qd ∧ ∀ b H', Qd b → Same H H' → R b H'
def upD (t : DS) : TS := fun D σ H => ∃ O δ E, Wd K H0 O0 H O σ δ ∧ t E δ ∧ (∀ O' δ' σ' H', E.nx δ' → Wd K H0 O0 H' O' σ' δ' → Step H H' O O' → D.nx σ' H') ∧ (∀ d v H', E.rt d → Same H0 H' → Dt K H' O0 v d → D.rt v H') ∧
 (∀ O' δ' σ' H', E.bk δ' → Wd K H0 O0 H' O' σ' δ' → Step H H' O O' → D.bk σ' H') ∧ (∀ O' δ' σ' H', E.ct δ' → Wd K H0 O0 H' O' σ' δ' → Step H H' O O' → D.ct σ' H')
end
theorem PE.imp {X : Cx} {e : Expr} {t u : TE} (h : PE X e t) (i : ∀ σ H Q, u σ H Q → t σ H Q) : PE X e u := fun pins s σ H Q I z => h pins s σ H Q I (i σ H Q z)
theorem PT.imp {X : Cx} {e : Expr} {t u : TT} (h : PT X e t) (i : ∀ σ H Q, u σ H Q → t σ H Q) : PT X e u := fun pins s σ H Q I z => h pins s σ H Q I (i σ H Q z)
theorem PW.imp {X : Cx} {e : Expr} {t u : TT} (h : PW X e t) (i : ∀ σ H Q, u σ H Q → t σ H Q) : PW X e u := fun wh pins s σ H Q I z => h wh pins s σ H Q I (i σ H Q z)
theorem PA.imp {X : Cx} {e : List Expr} {t u : TA} (h : PA X e t) (i : ∀ σ H Q, u σ H Q → t σ H Q) : PA X e u := fun pos pins s σ H Q I z => h pos pins s σ H Q I (i σ H Q z)
theorem PS.imp {X : Cx} {e : Stmt} {t u : TS} (h : PS X e t) (i : ∀ D σ H, u D σ H → t D σ H) : PS X e u := fun pins s σ H D I z => h pins s σ H D I (i D σ H z)
theorem PSs.imp {X : Cx} {e : List Stmt} {t u : TS} (h : PSs X e t) (i : ∀ D σ H, u D σ H → t D σ H) : PSs X e u := fun pins s σ H D I z => h pins s σ H D I (i D σ H z)
section
variable {X : Cx} {H0 : Hp} {O0 : Ex}
abbrev DE (X : Cx) (H0 : Hp) (O0 : Ex) (e : Expr) (t : DT) : Prop := PE X e (up X.K H0 O0 t)
abbrev DF (X : Cx) (H0 : Hp) (O0 : Ex) (e : Expr) (t : DT) : Prop := PE X e (upS X.K H0 O0 t)
theorem df {e : Expr} {t : DT} (h : DE X H0 O0 e t) : DF X H0 O0 e t := h.imp fun σ H Q ⟨O, δ, Qd, w, q, k⟩ => ⟨O, δ, Qd, w, q, fun d v H' a b c => k d v H' a b (.dt c)⟩
def dVar (i : Nat) : DT := fun δ Q => ∃ d, δ[i]? = some (some (.v d)) ∧ Q d
def dOwn (i : Nat) : DT := fun δ Q => ∃ ds, δ[i]? = some (some (.o ds)) ∧ Q (.list ds)
def dC (d : PyData) : DT := fun _ Q => Q d
theorem dv (i : Nat) {x : Str} {pos : Pos} (hN : X.N[i]? = some x := by rfl) (hv : Vis X.env.scope x := by first | exact Or.inl rfl | exact Or.inr (Or.inl rfl) | exact Or.inr (Or.inr rfl))
  (hd : (x == ("__debug__" : Str)) = false := by decide) (hcd : (x == ("__classdict__" : Str)) = false := by decide) : DE X H0 O0 (.Name x pos) (dVar i) :=
 (pe_var hN hv hd hcd).imp fun σ H Q ⟨O, δ, Qd, w, ⟨d, e, q⟩, k⟩ => by
  obtain ⟨v, h, r⟩ := w.val e
  exact ⟨v, h, k d v H q (Same.refl _) r⟩
theorem dw (i : Nat) {x : Str} {pos : Pos} (hN : X.N[i]? = some x := by rfl) (hv : Vis X.env.scope x := by first | exact Or.inl rfl | exact Or.inr (Or.inl rfl) | exact Or.inr (Or.inr rfl))
  (hd : (x == ("__debug__" : Str)) = false := by decide) (hcd : (x == ("__classdict__" : Str)) = false := by decide) : DF X H0 O0 (.Name x pos) (dOwn i) :=
 (pe_var hN hv hd hcd).imp fun σ H Q ⟨O, δ, Qd, w, ⟨ds, e, q⟩, k⟩ => by
  obtain ⟨l, vs, h, _, _, r, rs⟩ := w.own e
  exact ⟨_, h, k _ _ H q (Same.refl _) (.own r rs)⟩
theorem dc {e : Expr} {v : V} {d : PyData} (h : PE X e (tC v)) (r : ∀ H O, Dt X.K H O v d) : DE X H0 O0 e (dC d) := h.imp fun σ H Q ⟨O, δ, Qd, w, q, k⟩ => k d v H q (Same.refl _) (r H O)
theorem de_int {i j pos} : DE X H0 O0 (.Constant (.int i) j pos) (dC (.int i)) := dc pe_int fun _ _ => .int i
theorem de_bl {b j pos} : DE X H0 O0 (.Constant (.bool b) j pos) (dC (.bool b)) := dc pe_bl fun _ _ => .bl b
theorem de_non {j pos} : DE X H0 O0 (.Constant .none j pos) (dC .none) := dc pe_non fun _ _ => .non
theorem de_str {x j pos} : DE X H0 O0 (.Constant (.str x) j pos) (dC (.str x)) := dc pe_str fun _ _ => .str x
def dNil : DA := fun _ Q => Q []
def dCons (t : DT) (u : DA) : DA := fun δ Q => t δ fun d => u δ fun ds => Q (d :: ds)
theorem da_nil : PA X [] (upA X.K H0 O0 dNil) := pa_nil.imp fun σ H Q ⟨O, δ, Qd, w, q, k⟩ => k [] [] H q (Same.refl _) .nil
theorem da_cons {e : Expr} {es : List Expr} {t : DT} {u : DA} (h : DE X H0 O0 e t) (hs : PA X es (upA X.K H0 O0 u)) (he : starEach (e :: es) X.env = (false, eval e X.env) :: starEach es X.env := by rfl) : PA X (e :: es) (upA X.K H0 O0 (dCons t u)) :=
 (pa_cons h hs he).imp fun σ H Q ⟨O, δ, Qd, w, q, k⟩ => ⟨O, δ, _, w, q, fun d v H1 q1 s1 r1 => ⟨O, δ, _, w.mono s1, q1, fun ds vs H2 q2 s2 r2 => k (d :: ds) (v :: vs) H2 q2 (s1.trans s2) (.cons (r1.mono s2) r2)⟩⟩
def dTup (t : DA) : DT := fun δ Q => t δ fun ds => ds.length ≤ sizeLine ∧ Q (.tuple ds)
theorem nex {H : Hp} {O : Ex} {σ : St} {δ : Dl} {H1 : Hp} {p : Addr} {K : PySem.W.Frag} (w : Wd K H0 O0 H O σ δ) (s : Same H H1) (hp : H1 p = none) : ¬ O p := fun z => (w.mono s).trk p z hp
theorem de_tup {es : List Expr} {t : DA} {x1} {pos : Pos} (h : PA X es (upA X.K H0 O0 t)) : DE X H0 O0 (.Tuple es x1 pos) (dTup t) :=
 (pe_tup h).imp fun σ H Q ⟨O, δ, Qd, w, q, k⟩ => ⟨O, δ, _, w, q, fun ds vs H1 q1 s1 r1 => ⟨by rw [r1.length]; exact q1.1, fun p hp => k _ _ _ q1.2 (s1.trans (Same.new hp)) (.tup (.inl upd_same) (nex w s1 hp) (r1.mono (Same.new hp)))⟩⟩
end
end L2

namespace L2
open PySem PySem.Spec PyProof.Rows PySem.W
theorem Step.refl (H : Hp) (O : Ex) : Step H H O O := ⟨fun _ _ e _ => e, fun _ _ n => n⟩
theorem Step.trans {H H1 H2 : Hp} {O O1 O2 : Ex} (a : Step H H1 O O1) (b : Step H1 H2 O1 O2) : Step H H2 O O2 := by
 refine ⟨fun c o e n => ?_, fun c e n => ?_⟩
 ·have h1 := a.keep c o e n
  exact b.keep c o h1 (a.out c (by rw [e]; exact fun z => nomatch z) n)
 ·cases q : H c with
  | none => exact absurd q e
  | some o => exact b.out c (by rw [a.keep c o q n]; exact fun z => nomatch z) (a.out c e n)
section
variable {X : Cx} {H0 : Hp} {O0 : Ex}
def OpD (K : PySem.W.Frag) (r : R2) (rd : PyData → PyData → (PyData → Prop) → Prop) : Prop :=
 ∀ (H : Hp) (O : Ex) (x y : V) (dx dy : PyData) (Qd : PyData → Prop) (R : VK), (∀ l, O l → H l ≠ none) → Sh K H O x dx → Sh K H O y dy → rd dx dy Qd → (∀ d v H', Qd d → Same H H' → Dt K H' O v d → R v H') → r x y H R
def dOp (rd : PyData → PyData → (PyData → Prop) → Prop) (ta tb : DT) : DT := fun δ Q => ta δ fun x => tb δ fun y => rd x y Q
theorem opd {K : PySem.W.Frag} {r : R2} {rd : PyData → PyData → (PyData → Prop) → Prop} {ta tb : DT} (hd : OpD K r rd) : ∀ σ H Q, up K H0 O0 (dOp rd ta tb) σ H Q → tOp r (upS K H0 O0 ta) (upS K H0 O0 tb) σ H Q :=
 fun σ H Q ⟨O, δ, Qd, w, q, k⟩ => ⟨O, δ, _, w, q, fun x v H1 q1 s1 r1 => ⟨O, δ, _, w.mono s1, q1, fun y u H2 q2 s2 r2 => hd H2 O v u x y Qd _ (w.mono (s1.trans s2)).trk (r1.mono s2) r2 q2 fun d z H3 qd s3 r3 => k d z H3 qd (s1.trans (s2.trans s3)) r3⟩⟩
theorem de_op {a b : Expr} {ta tb : DT} {op : Operator} {r : R2} {rd : PyData → PyData → (PyData → Prop) → Prop} {pos : Pos} (ho : OpR X (binaryOp op) r) (hd : OpD X.K r rd) (ha : DF X H0 O0 a ta) (hb : DF X H0 O0 b tb) : DE X H0 O0 (.BinOp a op b pos) (dOp rd ta tb) := (pe_op ho ha hb).imp (opd hd)
theorem de_cmp {a b : Expr} {ta tb : DT} {op : CmpOp} {r : R2} {rd : PyData → PyData → (PyData → Prop) → Prop} {pos : Pos} (ho : OpR X (compareOp op) r) (hd : OpD X.K r rd) (ha : DF X H0 O0 a ta) (hb : DF X H0 O0 b tb) (hm : behindInMarks op b = false) : DE X H0 O0 (.Compare a [op] [b] pos) (dOp rd ta tb) := (pe_cmpR ho ha hb hm).imp (opd hd)
def dTest (t : DT) : DB := fun δ Q => t δ fun d => ∃ b, d = .bool b ∧ Q b
theorem dt_cmp {a b : Expr} {ta tb : DT} {op : CmpOp} {r : R2} {rd : PyData → PyData → (PyData → Prop) → Prop} {pos : Pos} (ho : OpR X (compareOp op) r) (hd : OpD X.K r rd) (ha : DF X H0 O0 a ta) (hb : DF X H0 O0 b tb) (hm : behindInMarks op b = false) : PT X (.Compare a [op] [b] pos) (upT X.K H0 O0 (dTest (dOp rd ta tb))) :=
 (pt_cmpR ho ha hb hm).imp fun σ H Q ⟨O, δ, Qd, w, q, k⟩ => opd hd σ H _ ⟨O, δ, _, w, q, fun d v H' ⟨b, e, qb⟩ s r => by subst e; cases r; exact ⟨b, rfl, k b H' qb s⟩⟩
theorem dt_val {e : Expr} {t : DT} (h : DE X H0 O0 e t) (he : ∀ whole, isTrue e X.env whole = (do let v ← whole; standAt e.pos; holding [v] (truthy v)) := by intro _; rfl) : PT X e (upT X.K H0 O0 (dTest t)) :=
 (pt_val h he).imp fun σ H Q ⟨O, δ, Qd, w, q, k⟩ => ⟨O, δ, _, w, q, fun d v H' ⟨b, e, qb⟩ s r => by subst e; cases r; exact ⟨b, rfl, k b H' qb s⟩⟩
def dAnd (t u : DB) : DB := fun δ Q => t δ fun c => if c = true then u δ Q else Q false
def dOr (t u : DB) : DB := fun δ Q => t δ fun c => if c = true then Q true else u δ Q
def dNot (t : DB) : DB := fun δ Q => t δ fun c => Q (!c)
theorem dw_and1 {a : Expr} {t : DB} {pos : Pos} (h : PT X a (upT X.K H0 O0 t)) : PW X (.BoolOp .And [a] pos) (upT X.K H0 O0 t) := pw_and1 h
theorem dw_or1 {a : Expr} {t : DB} {pos : Pos} (h : PT X a (upT X.K H0 O0 t)) : PW X (.BoolOp .Or [a] pos) (upT X.K H0 O0 t) := pw_or1 h
theorem dw_and {a b : Expr} {rest : List Expr} {t u : DB} {pos : Pos} (h : PT X a (upT X.K H0 O0 t)) (hb : PW X (.BoolOp .And (b :: rest) pos) (upT X.K H0 O0 u)) : PW X (.BoolOp .And (a :: b :: rest) pos) (upT X.K H0 O0 (dAnd t u)) :=
 (pw_and h hb).imp fun σ H Q ⟨O, δ, Qd, w, q, k⟩ => ⟨O, δ, _, w, q, fun c H1 q1 s1 => by
  cases c with
  | true => exact ⟨O, δ, _, w.mono s1, q1, fun b H2 q2 s2 => k b H2 q2 (s1.trans s2)⟩
  | false => exact k false H1 q1 s1⟩
theorem dw_or {a b : Expr} {rest : List Expr} {t u : DB} {pos : Pos} (h : PT X a (upT X.K H0 O0 t)) (hb : PW X (.BoolOp .Or (b :: rest) pos) (upT X.K H0 O0 u)) : PW X (.BoolOp .Or (a :: b :: rest) pos) (upT X.K H0 O0 (dOr t u)) :=
 (pw_or h hb).imp fun σ H Q ⟨O, δ, Qd, w, q, k⟩ => ⟨O, δ, _, w, q, fun c H1 q1 s1 => by
  cases c with
  | false => exact ⟨O, δ, _, w.mono s1, q1, fun b H2 q2 s2 => k b H2 q2 (s1.trans s2)⟩
  | true => exact k true H1 q1 s1⟩
theorem dt_not {a : Expr} {t : DB} {pos : Pos} (h : PT X a (upT X.K H0 O0 t)) : PT X (.UnaryOp .Not a pos) (upT X.K H0 O0 (dNot t)) :=
 (pt_not h).imp fun σ H Q ⟨O, δ, Qd, w, q, k⟩ => ⟨O, δ, _, w, q, fun c H1 q1 s1 => k (!c) H1 q1 s1⟩
def dAndV (t u : DT) : DT := fun δ Q => t δ fun d => ∃ c, d = .bool c ∧ if c = true then u δ Q else Q (.bool false)
def dOrV (t u : DT) : DT := fun δ Q => t δ fun d => ∃ c, d = .bool c ∧ if c = true then Q (.bool true) else u δ Q
def dNotV (t : DT) : DT := fun δ Q => t δ fun d => ∃ c, d = .bool c ∧ Q (.bool (!c))
theorem de_one {op} {a : Expr} {t : DT} {pos : Pos} (h : DE X H0 O0 a t) : DE X H0 O0 (.BoolOp op [a] pos) t := pe_one h
theorem de_and {a b : Expr} {rest : List Expr} {t u : DT} {pos : Pos} (h : DE X H0 O0 a t) (hb : DE X H0 O0 (.BoolOp .And (b :: rest) pos) u) : DE X H0 O0 (.BoolOp .And (a :: b :: rest) pos) (dAndV t u) :=
 (pe_and h hb).imp fun σ H Q ⟨O, δ, Qd, w, q, k⟩ => ⟨O, δ, _, w, q, fun d v H1 ⟨c, e, q1⟩ s1 r => by
  subst e; cases r
  refine ⟨c, rfl, ?_⟩
  cases c with
  | true => exact ⟨O, δ, _, w.mono s1, q1, fun d v H2 q2 s2 r2 => k d v H2 q2 (s1.trans s2) r2⟩
  | false => exact k _ _ H1 q1 s1 (.bl false)⟩
theorem de_or {a b : Expr} {rest : List Expr} {t u : DT} {pos : Pos} (h : DE X H0 O0 a t) (hb : DE X H0 O0 (.BoolOp .Or (b :: rest) pos) u) : DE X H0 O0 (.BoolOp .Or (a :: b :: rest) pos) (dOrV t u) :=
 (pe_or h hb).imp fun σ H Q ⟨O, δ, Qd, w, q, k⟩ => ⟨O, δ, _, w, q, fun d v H1 ⟨c, e, q1⟩ s1 r => by
  subst e; cases r
  refine ⟨c, rfl, ?_⟩
  cases c with
  | false => exact ⟨O, δ, _, w.mono s1, q1, fun d v H2 q2 s2 r2 => k d v H2 q2 (s1.trans s2) r2⟩
  | true => exact k _ _ H1 q1 s1 (.bl true)⟩
theorem de_not {a : Expr} {t : DT} {pos : Pos} (h : DE X H0 O0 a t) : DE X H0 O0 (.UnaryOp .Not a pos) (dNotV t) :=
 (pe_not h).imp fun σ H Q ⟨O, δ, Qd, w, q, k⟩ => ⟨O, δ, _, w, q, fun d v H1 ⟨c, e, q1⟩ s1 r => by
  subst e; cases r
  exact ⟨c, rfl, k _ _ H1 q1 s1 (.bl _)⟩⟩
def dIf (c : DB) (t u : DT) : DT := fun δ Q => c δ fun b => if b = true then t δ Q else u δ Q
theorem de_ifExp {c a b : Expr} {tc : DB} {t u : DT} {pos : Pos} (hc : PT X c (upT X.K H0 O0 tc)) (ha : DE X H0 O0 a t) (hb : DE X H0 O0 b u) : DE X H0 O0 (.IfExp c a b pos) (dIf tc t u) :=
 (pe_ifExp hc ha hb).imp fun σ H Q ⟨O, δ, Qd, w, q, k⟩ => ⟨O, δ, _, w, q, fun c H1 q1 s1 => by
  cases c with
  | true => exact ⟨O, δ, _, w.mono s1, q1, fun d v H2 q2 s2 r2 => k d v H2 q2 (s1.trans s2) r2⟩
  | false => exact ⟨O, δ, _, w.mono s1, q1, fun d v H2 q2 s2 r2 => k d v H2 q2 (s1.trans s2) r2⟩⟩
def spD (K : PySem.W.Frag) (F : List PyData → (PyData → Prop) → Prop) : Sp := fun vs H Q _ => ∃ O ds Qd, (∀ l, O l → H l ≠ none) ∧ Dts K H O vs ds ∧ F ds Qd ∧ ∀ d v H', Qd d → Same H H' → Dt K H' O v d → Q v H'
def dCall (F : List PyData → (PyData → Prop) → Prop) (t : DA) : DT := fun δ Q => t δ fun ds => F ds Q
theorem dcall {K : PySem.W.Frag} {F : List PyData → (PyData → Prop) → Prop} {t : DA} {E : XK} : ∀ σ H Q, up K H0 O0 (dCall F t) σ H Q → tCall (spD K F) [] E (upA K H0 O0 t) σ H Q :=
 fun σ H Q ⟨O, δ, Qd, w, q, k⟩ => ⟨O, δ, _, w, q, fun ds vs H1 q1 s1 r1 => ⟨O, ds, Qd, (w.mono s1).trk, by rw [List.append_nil]; exact r1, q1, fun d v H2 q2 s2 r2 => k d v H2 q2 (s1.trans s2) r2⟩⟩
inductive Shs (K : PySem.W.Frag) (H : Hp) (O : Ex) : List V → List PyData → Prop
 | nil : Shs K H O [] []
 | cons {v : V} {d : PyData} {vs : List V} {ds : List PyData} : Sh K H O v d → Shs K H O vs ds → Shs K H O (v :: vs) (d :: ds)
def upB (K : PySem.W.Frag) (H0 : Hp) (O0 : Ex) (t : DA) : TA := fun σ H R => ∃ O δ Qd, Wd K H0 O0 H O σ δ ∧ t δ Qd ∧ ∀ ds vs H', Qd ds → Same H H' → Shs K H' O vs ds → R vs H'
theorem db_nil : PA X [] (upB X.K H0 O0 dNil) := pa_nil.imp fun σ H Q ⟨O, δ, Qd, w, q, k⟩ => k [] [] H q (Same.refl _) .nil
theorem db_cons {e : Expr} {es : List Expr} {t : DT} {u : DA} (h : DF X H0 O0 e t) (hs : PA X es (upB X.K H0 O0 u)) (he : starEach (e :: es) X.env = (false, eval e X.env) :: starEach es X.env := by rfl) : PA X (e :: es) (upB X.K H0 O0 (dCons t u)) :=
 (pa_cons h hs he).imp fun σ H Q ⟨O, δ, Qd, w, q, k⟩ => ⟨O, δ, _, w, q, fun d v H1 q1 s1 r1 => ⟨O, δ, _, w.mono s1, q1, fun ds vs H2 q2 s2 r2 => k (d :: ds) (v :: vs) H2 q2 (s1.trans s2) (.cons (r1.mono s2) r2)⟩⟩
def CallD (K : PySem.W.Frag) (r : List V → Hp → VK → Prop) (rd : List PyData → (PyData → Prop) → Prop) : Prop :=
 ∀ (H : Hp) (O : Ex) (xs : List V) (ds : List PyData) (Qd : PyData → Prop) (R : VK), (∀ l, O l → H l ≠ none) → Shs K H O xs ds → rd ds Qd → (∀ d v H', Qd d → Same H H' → Dt K H' O v d → R v H') → r xs H R
theorem dcb {K : PySem.W.Frag} {r : List V → Hp → VK → Prop} {rd : List PyData → (PyData → Prop) → Prop} {t : DA} (hd : CallD K r rd) : ∀ σ H Q, up K H0 O0 (dCall rd t) σ H Q → tCB r (upB K H0 O0 t) σ H Q :=
 fun σ H Q ⟨O, δ, Qd, w, q, k⟩ => ⟨O, δ, _, w, q, fun ds vs H1 q1 s1 r1 => hd H1 O vs ds Qd _ (w.mono s1).trk r1 q1 fun d v H2 q2 s2 r2 => k d v H2 q2 (s1.trans s2) r2⟩
def dSeq (t u : DS) : DS := fun E δ => t { E with nx := u E } δ
theorem dss_cons {st : Stmt} {rest : List Stmt} {t u : DS} (h : PS X st (upD X.K H0 O0 t)) (h2 : PSs X rest (upD X.K H0 O0 u)) : PSs X (st :: rest) (upD X.K H0 O0 (dSeq t u)) :=
 (pss_cons h h2).imp fun D σ H ⟨O, δ, E, w, q, k1, k2, k3, k4⟩ => ⟨O, δ, _, w, q, fun O' δ' σ' H' z w' S => ⟨O', δ', E, w', z, fun O2 δ2 σ2 H2 z2 w2 S2 => k1 O2 δ2 σ2 H2 z2 w2 (S.trans S2), k2, fun O2 δ2 σ2 H2 z2 w2 S2 => k3 O2 δ2 σ2 H2 z2 w2 (S.trans S2), fun O2 δ2 σ2 H2 z2 w2 S2 => k4 O2 δ2 σ2 H2 z2 w2 (S.trans S2)⟩, k2, k3, k4⟩
def dNext : DS := fun E δ => E.nx δ
theorem dss_nil : PSs X [] (upD X.K H0 O0 dNext) := pss_nil.imp fun D σ H ⟨O, δ, E, w, q, k1, k2, k3, k4⟩ => k1 O δ σ H q w (Step.refl _ _)
theorem dss_one {st : Stmt} {t : DS} (h : PS X st (upD X.K H0 O0 t)) : PSs X [st] (upD X.K H0 O0 t) := pss_one h
def dSet (i : Nat) (t : DT) : DS := fun E δ => t δ fun d => E.nx (δ.set i (some (.v d)))
theorem ds_set {i : Nat} {x : Str} {e : Expr} {t : DT} {pos pos' : Pos} (hN : X.N.Nodup) (hi : X.N[i]? = some x) (hx : Loc X.env.scope x) (he : DE X H0 O0 e t) (hs : swapsWith e (some (.Name x pos')) pos.line X.env = pure false := by rfl) (hf : X.fn x = true ∨ X.env.scope.names.lookup x = some .local := by first | exact .inl rfl | exact .inr rfl | assumption) :
  PS X (.Assign [.Name x pos'] e pos) (upD X.K H0 O0 (dSet i t)) :=
 (ps_set hN hi hx he hs hf).imp fun D σ H ⟨O, δ, E, w, q, k1, k2, k3, k4⟩ => ⟨O, δ, _, w, q, fun d v H1 q1 s1 r1 => k1 O _ _ H1 q1 ((w.mono s1).set r1) (.same s1)⟩
def dRet (t : DT) : DS := fun E δ => t δ E.rt
theorem back {K : PySem.W.Frag} {H : Hp} {O : Ex} {σ : St} {δ : Dl} (w : Wd K H0 O0 H O σ δ) : Step H H O O0 := ⟨fun _ _ e _ => e, fun b _ n z => n (w.sub b z)⟩
theorem ds_ret {e : Expr} {t : DT} {pos : Pos} (he : DE X H0 O0 e t) : PS X (.Return (some e) pos) (upD X.K H0 O0 (dRet t)) :=
 (ps_ret he).imp fun D σ H ⟨O, δ, E, w, q, k1, k2, k3, k4⟩ => ⟨O, δ, _, w, q, fun d v H1 q1 s1 r1 => k2 d v H1 q1 (w.same.trans s1) (r1.step (back (w.mono s1)))⟩
def dRetO (i : Nat) : DS := fun E δ => ∃ ds, δ[i]? = some (some (.o ds)) ∧ E.rt (.list ds)
theorem ds_retO {e : Expr} {i : Nat} {pos : Pos} (he : PE X e (tVar i)) : PS X (.Return (some e) pos) (upD X.K H0 O0 (dRetO i)) :=
 (ps_ret he).imp fun D σ H ⟨O, δ, E, w, ⟨ds, e, q⟩, k1, k2, k3, k4⟩ => by
  obtain ⟨l, vs, h, a, b, c, r⟩ := w.own e
  exact ⟨_, h, k2 _ _ H q w.same (.lst (.inl c) b (r.step (back w)))⟩
def dIfS (c : DB) (t u : DS) : DS := fun E δ => c δ fun b => if b = true then t E δ else u E δ
theorem ds_if {c : Expr} {a b : List Stmt} {tc : DB} {t u : DS} {pos : Pos} (hc : PT X c (upT X.K H0 O0 tc)) (ha : PSs X a (upD X.K H0 O0 t)) (hb : PSs X b (upD X.K H0 O0 u)) : PS X (.If c a b pos) (upD X.K H0 O0 (dIfS tc t u)) :=
 (ps_if hc ha hb).imp fun D σ H ⟨O, δ, E, w, q, k1, k2, k3, k4⟩ => ⟨O, δ, _, w, q, fun c H1 q1 s1 => by
  have g : ∀ {t' : DS}, t' E δ → upD X.K H0 O0 t' D σ H1 := fun z => ⟨O, δ, E, w.mono s1, z, fun O2 δ2 σ2 H2 z2 w2 S2 => k1 O2 δ2 σ2 H2 z2 w2 (Step.trans (.same s1) S2), k2, fun O2 δ2 σ2 H2 z2 w2 S2 => k3 O2 δ2 σ2 H2 z2 w2 (Step.trans (.same s1) S2), fun O2 δ2 σ2 H2 z2 w2 S2 => k4 O2 δ2 σ2 H2 z2 w2 (Step.trans (.same s1) S2)⟩
  cases c with
  | true => exact g q1
  | false => exact g q1⟩
def upF (K : PySem.W.Frag) (H0 : Hp) (O0 : Ex) (t : DA) : TE := fun σ H R => ∃ O δ Qd, Wd K H0 O0 H O σ δ ∧ t δ Qd ∧ ∀ ds vs p H', Qd ds → Same H H' → H' p = none → Dts K H' O vs ds → R (.ref p) (upd H' p (.lst vs))
abbrev FE (X : Cx) (H0 : Hp) (O0 : Ex) (e : Expr) (t : DA) : Prop := PE X e (upF X.K H0 O0 t)
def dL (t : DA) : DT := fun δ Q => t δ fun ds => Q (.list ds)
theorem fe {e : Expr} {t : DA} (h : FE X H0 O0 e t) : DE X H0 O0 e (dL t) :=
 h.imp fun σ H Q ⟨O, δ, Qd, w, q, k⟩ => ⟨O, δ, _, w, q, fun ds vs p H1 q1 s1 hp r1 => k _ _ _ q1 (s1.trans (Same.new hp)) (.lst (.inl upd_same) (nex w s1 hp) (r1.mono (Same.new hp)))⟩
def dFin (t : DA) : DA := fun δ Q => t δ fun ds => ds.length ≤ sizeLine ∧ Q ds
theorem fe_lst {es : List Expr} {t : DA} {pos : Pos} (h : PA X es (upA X.K H0 O0 t)) : FE X H0 O0 (.List es pos) (dFin t) :=
 (pe_lst h).imp fun σ H Q ⟨O, δ, Qd, w, q, k⟩ => ⟨O, δ, _, w, q, fun ds vs H1 q1 s1 r1 => ⟨by rw [r1.length]; exact q1.1, fun p hp => k _ _ _ _ q1.2 s1 hp r1⟩⟩
def dNew (i : Nat) (t : DA) : DS := fun E δ => t δ fun ds => E.nx (δ.set i (some (.o ds)))
theorem ds_new {i : Nat} {x : Str} {e : Expr} {t : DA} {pos pos' : Pos} (hN : X.N.Nodup) (hi : X.N[i]? = some x) (hx : Loc X.env.scope x) (he : FE X H0 O0 e t) (hs : swapsWith e (some (.Name x pos')) pos.line X.env = pure false := by rfl) (hf : X.fn x = true ∨ X.env.scope.names.lookup x = some .local := by first | exact .inl rfl | exact .inr rfl | assumption) :
  PS X (.Assign [.Name x pos'] e pos) (upD X.K H0 O0 (dNew i t)) :=
 (ps_set hN hi hx he hs hf).imp fun D σ H ⟨O, δ, E, w, q, k1, k2, k3, k4⟩ => ⟨O, δ, _, w, q, fun ds vs p H1 q1 s1 hp r1 => k1 _ _ _ _ q1 ((w.mono s1).setO hp r1)
  ⟨fun b o e _ => (s1.trans (Same.new hp)) b o e, fun b e n z => z.elim n fun y => by
   cases q : H b with
   | none => exact e q
   | some o => have := s1 _ _ q; rw [y, hp] at this; cases this⟩⟩
def dApp (i : Nat) (t : DT) : DS := fun E δ => ∃ ds, δ[i]? = some (some (.o ds)) ∧ t δ fun d => ds.length < sizeLine ∧ E.nx (δ.set i (some (.o (ds ++ [d]))))
theorem ds_app {i : Nat} {o e : Expr} {t : DT} {apos cpos pos : Pos} (ho : PE X o (tVar i)) (he : DE X H0 O0 e t) (hbase : attributeBase o "append" X.env (eval o X.env) = eval o X.env := by rfl)
  (hfew : ((backTo cpos (starEach [e] X.env)).all (fun x => !x.1) && (backToKw cpos (keywordEach [] X.env)).all (fun x => x.1.isSome) && decide ([e].length + ([] : List Keyword).length + (if ([] : List Keyword).isEmpty then 0 else 1) < 30)) = true := by rfl)
  (hline : (apos.endLine == cpos.line) = true := by rfl) (hst : starEach [e] X.env = (false, eval e X.env) :: starEach [] X.env := by rfl) (hplain : (backTo cpos (starEach [] X.env)).any (·.1) = false := by rfl)
  (hs : swapsWith (.Call (.Attribute o "append" apos) [e] [] cpos) none pos.line X.env = pure false := by rfl) : PS X (.Expr (.Call (.Attribute o "append" apos) [e] [] cpos) pos) (upD X.K H0 O0 (dApp i t)) :=
 (ps_expr (pe_bm PySem.F.plainAttrs_list PySem.F.slot_list_append PySem.F.type_list_append mt_append ho (pa_cons he pa_nil hst) hbase hfew hline hst hplain) hs).imp fun D σ H ⟨O, δ, E, w, ⟨ds, e, q⟩, k1, k2, k3, k4⟩ => by
  obtain ⟨l, vs, h, a, b, c, r⟩ := w.own e
  refine ⟨_, h, .inl ⟨rfl, _, SqL.of c⟩, O, δ, _, w, q, fun d v H1 q1 s1 r1 => ?_⟩
  refine ⟨l, vs, v, rfl, rfl, s1 _ _ c, by rw [r.length]; exact q1.1, ?_⟩
  exact k1 _ _ _ _ q1.2 ((w.mono s1).putO (vs := vs) e h ((r.mono s1).append (.cons r1 .nil))) ⟨fun b' o' z n => by rw [upd_ne (fun y => n (by rw [y]; exact a))]; exact s1 _ _ z, fun _ _ n => n⟩
end
end L2

namespace L2
open PySem PySem.Spec PyProof.Rows PySem.W
structure SrcP (J : It) (P : Hp → Prop) (vs : List V) : Prop where
 go : ∀ i H', P H' → i < vs.length → J.go i H'
 yl : ∀ i H' x H'', P H' → i < vs.length → J.yld i H' x H'' → H'' = H' ∧ vs[i]? = some x
 st : ∀ i H', P H' → vs.length ≤ i → J.stop i H'
def KeepA (H1 : Hp) (a : Addr) (H' : Hp) : Prop := ∀ o, H1 a = some o → H' a = some o
theorem SqL.keep {K : PySem.W.Frag} {H H' : Hp} {a : Addr} {xs : List V} (s : KeepA H a H') (h : SqL K H a xs) : SqL K H' a xs := by
 rcases h with (h | ⟨o, h⟩) | h
 ·exact .inl (.inl (s _ h))
 ·exact .inl (.inr ⟨o, s _ h⟩)
 ·exact .inr h
theorem SqT.keep {K : PySem.W.Frag} {H H' : Hp} {a : Addr} {xs : List V} (s : KeepA H a H') (h : SqT K H a xs) : SqT K H' a xs := by
 rcases h with (h | ⟨o, h⟩) | h
 ·exact .inl (.inl (s _ h))
 ·exact .inl (.inr ⟨o, s _ h⟩)
 ·exact .inr h
theorem SrcP.list {K : PySem.W.Frag} {H : Hp} {a : Addr} {vs : List V} (h : SqL K H a vs) : SrcP (Itl K a) (KeepA H a) vs :=
 ⟨fun i H' s hi => ⟨vs, vs[i], h.keep s, by simp [hi]⟩, fun i H' x H'' s _ y => ⟨y.1, y.2 vs (h.keep s)⟩, fun i H' s hi => ⟨vs, h.keep s, hi⟩⟩
theorem SrcP.tup {K : PySem.W.Frag} {H : Hp} {a : Addr} {vs : List V} (h : SqT K H a vs) : SrcP (Itt K a) (KeepA H a) vs :=
 ⟨fun i H' s hi => ⟨vs, vs[i], h.keep s, by simp [hi]⟩, fun i H' x H'' s _ y => ⟨y.1, y.2 vs (h.keep s)⟩, fun i H' s hi => ⟨vs, h.keep s, hi⟩⟩
def rangeD (lo : Int) (n : Nat) : List PyData := (List.range n).map fun (k : Nat) => .int (lo + k)
theorem SrcP.rng {lo : Int} {n : Nat} : SrcP (Itr lo n) (fun _ => True) ((List.range n).map fun (k : Nat) => V.int (lo + k)) := by
 refine ⟨fun i H' s hi => (by simpa using hi : i < n), fun i H' x H'' s hi y => ⟨y.1, ?_⟩, fun i H' s hi => (by simpa using hi : n ≤ i)⟩
 obtain ⟨_, rfl⟩ := y
 have hn : i < n := by simpa using hi
 simp [hn]
theorem Dts.rng {K : PySem.W.Frag} {H : Hp} {O : Ex} {lo : Int} : ∀ (l : List Nat), Dts K H O (l.map fun (k : Nat) => V.int (lo + k)) (l.map fun (k : Nat) => PyData.int (lo + k))
 | [] => .nil
 | n :: r => .cons (.int _) (Dts.rng r)
abbrev DG := PyData → Dl → (Dl → Prop) → Prop
def GD (K : PySem.W.Frag) (g : TG) (dg : DG) : Prop := ∀ (H0 : Hp) (O0 : Ex) (H : Hp) (O : Ex) (σ : St) (δ : Dl) (v : V) (x : PyData) (R : St → Hp → Prop) (Qd : Dl → Prop), Wd K H0 O0 H O σ δ → Dt K H O v x → dg x δ Qd → (∀ δ' σ', Qd δ' → Wd K H0 O0 H O σ' δ' → R σ' H) → g v σ H R
def dgName (i : Nat) : DG := fun x δ Q => Q (δ.set i (some (.v x)))
theorem gd_name {K : PySem.W.Frag} {i : Nat} : GD K (gName i) (dgName i) := fun H0 O0 H O σ δ v x R Qd w r q k => k _ _ q (w.set r)
abbrev DGs := List PyData → Dl → (Dl → Prop) → Prop
def GDs (K : PySem.W.Frag) (g : TGs) (dg : DGs) : Prop := ∀ (H0 : Hp) (O0 : Ex) (H : Hp) (O : Ex) (σ : St) (δ : Dl) (vs : List V) (xs : List PyData) (R : St → Hp → Prop) (Qd : Dl → Prop), Wd K H0 O0 H O σ δ → Dts K H O vs xs → dg xs δ Qd → (∀ δ' σ', Qd δ' → Wd K H0 O0 H O σ' δ' → R σ' H) → g vs σ H R
def dgNil : DGs := fun xs δ Q => xs = [] ∧ Q δ
def dgCons (t : DG) (u : DGs) : DGs := fun xs δ Q => ∃ x r, xs = x :: r ∧ t x δ fun δ' => u r δ' Q
theorem gds_nil {K : PySem.W.Frag} : GDs K gNil dgNil := fun H0 O0 H O σ δ vs xs R Qd w r ⟨e, q⟩ k => by subst e; cases r; exact ⟨rfl, k _ _ q w⟩
theorem gds_cons {K : PySem.W.Frag} {t : TG} {u : TGs} {dt : DG} {du : DGs} (h : GD K t dt) (h2 : GDs K u du) : GDs K (gCons t u) (dgCons dt du) := fun H0 O0 H O σ δ vs xs R Qd w r ⟨x, rr, e, q⟩ k => by
 subst e
 cases r with
 | cons r1 r2 => exact ⟨_, _, rfl, h H0 O0 H O σ δ _ _ _ _ w r1 q fun δ' σ' q' w' => h2 H0 O0 H O σ' δ' _ _ R Qd w' r2 q' k⟩
def dgTup (n : Nat) (t : DGs) : DG := fun x δ Q => ∃ xs, x = .tuple xs ∧ xs.length = n ∧ t xs δ Q
theorem gd_tup {K : PySem.W.Frag} {n : Nat} {t : TGs} {dt : DGs} (h : GDs K t dt) : GD K (gTup K n t) (dgTup n dt) := fun H0 O0 H O σ δ v x R Qd w r ⟨xs, e, hl, q⟩ k => by
 subst e
 obtain ⟨a, vs, rfl, hs, rr⟩ := (Sh.dt r).tup
 exact ⟨a, vs, rfl, hs, by rw [rr.length]; exact hl, h H0 O0 H O σ δ _ _ R Qd w rr q k⟩
section
variable {X : Cx} {H0 : Hp} {O0 : Ex}
def dAsg (t : DT) (g : DG) : DS := fun E δ => t δ fun d => g d δ E.nx
theorem ds_asg {tg e : Expr} {t : DT} {g : TG} {dg : DG} {pos : Pos} (he : DE X H0 O0 e t) (hg : PG X tg g) (gd : GD X.K g dg) (hs : swapsWithSole [tg] e pos.line X.env = pure false := by rfl) (hw : swappedStores [tg] e X.env = pure none := by rfl)
  (h1 : (assignEach [tg] X.env).map (·.2) = [assign tg X.env] := by rfl) : PS X (.Assign [tg] e pos) (upD X.K H0 O0 (dAsg t dg)) :=
 (ps_asg he hg hs hw h1).imp fun D σ H ⟨O, δ, E, w, q, k1, k2, k3, k4⟩ => ⟨O, δ, _, w, q, fun d v H1 q1 s1 r1 => gd H0 O0 H1 O σ δ v d _ _ (w.mono s1) r1 q1 fun δ' σ' q' w' => k1 O δ' σ' H1 q' w' (.same s1)⟩
def forW (g : DG) (tb : DS) (E : DEnds) : List PyData → Dl → Prop
 | [], δ => E.nx δ
 | x :: xs, δ => g x δ fun δ2 => tb { E with nx := forW g tb E xs, ct := forW g tb E xs, bk := E.nx } δ2
theorem for_step {K : PySem.W.Frag} {J : It} {P : Hp → Prop} {vs : List V} {xs : List PyData} {g : TG} {dg : DG} {tb : DS} {D : Ends} {E : DEnds} {σ : St} {H : Hp} {O : Ex} {δ : Dl} (S : SrcP J P vs) (gd : GD K g dg)
  (hP : ∀ H' O', Step H H' O O' → P H') (r : Dts K H O vs xs) (w : Wd K H0 O0 H O σ δ) (q : forW dg tb E xs δ)
  (k1 : ∀ O' δ' σ' H', E.nx δ' → Wd K H0 O0 H' O' σ' δ' → Step H H' O O' → D.nx σ' H') (k2 : ∀ d v H', E.rt d → Same H0 H' → Dt K H' O0 v d → D.rt v H') : FR J g (upD K H0 O0 tb) D σ H := by
 refine ⟨fun i m σ' H' => ∃ O' δ', m = vs.length - i ∧ i ≤ vs.length ∧ Wd K H0 O0 H' O' σ' δ' ∧ Step H H' O O' ∧ forW dg tb E (xs.drop i) δ', ⟨vs.length, O, δ, by simp, Nat.zero_le _, w, Step.refl _ _, by simpa using q⟩, ?_⟩
 rintro i m σ1 H1 ⟨O1, δ1, rfl, hi, w1, S1, q1⟩
 by_cases hlt : i < vs.length
 ·refine .inr ⟨S.go i H1 (hP _ _ S1) hlt, fun σ' H' => ∃ O' δ', Wd K H0 O0 H' O' σ' δ' ∧ Step H H' O O' ∧ forW dg tb E (xs.drop (i + 1)) δ', fun σ' H' ⟨O', δ', w', S', q'⟩ => ⟨vs.length - (i + 1), by omega, O', δ', rfl, hlt, w', S', q'⟩, fun x H' y => ?_⟩
  have yy := S.yl i H1 x H' (hP _ _ S1) hlt y
  clear y
  obtain ⟨e, y⟩ := yy
  subst e
  obtain ⟨d, ed, rd⟩ := r.get y
  have hd : xs.drop i = d :: xs.drop (i + 1) := by
   rw [List.drop_eq_getElem_cons (h := (List.getElem?_eq_some_iff.mp ed).1), (List.getElem?_eq_some_iff.mp ed).2]
  rw [hd] at q1
  refine gd H0 O0 _ O1 σ1 δ1 x d _ _ w1 (rd.step S1) q1 fun δ2 σ2 q2 w2 => ?_
  refine ⟨O1, δ2, _, w2, q2, fun O' δ' σ' H' z w' S' => ⟨O', δ', w', S1.trans S', z⟩, k2, fun O' δ' σ' H' z w' S' => k1 O' δ' σ' H' z w' (S1.trans S'), fun O' δ' σ' H' z w' S' => ⟨O', δ', w', S1.trans S', z⟩⟩
 ·have e : i = vs.length := by omega
  subst e
  refine .inl ⟨S.st _ H1 (hP _ _ S1) (Nat.le_refl _), ?_⟩
  rw [r.length, List.drop_of_length_le (Nat.le_refl _)] at q1
  exact k1 O1 δ1 σ1 H1 q1 w1 S1
def forI (g : DG) (tb : DS) (E : DEnds) (xs : List PyData) (δ : Dl) : Prop := ∃ I : Nat → Dl → Prop, I 0 δ ∧ (∀ i x δ, xs[i]? = some x → I i δ → g x δ fun δ2 => tb { E with nx := I (i + 1), ct := I (i + 1), bk := E.nx } δ2) ∧ ∀ δ, I xs.length δ → E.nx δ
theorem for_stepI {K : PySem.W.Frag} {J : It} {P : Hp → Prop} {vs : List V} {xs : List PyData} {g : TG} {dg : DG} {tb : DS} {D : Ends} {E : DEnds} {σ : St} {H : Hp} {O : Ex} {δ : Dl} (S : SrcP J P vs) (gd : GD K g dg)
  (hP : ∀ H' O', Step H H' O O' → P H') (r : Dts K H O vs xs) (w : Wd K H0 O0 H O σ δ) (q : forI dg tb E xs δ)
  (k1 : ∀ O' δ' σ' H', E.nx δ' → Wd K H0 O0 H' O' σ' δ' → Step H H' O O' → D.nx σ' H') (k2 : ∀ d v H', E.rt d → Same H0 H' → Dt K H' O0 v d → D.rt v H') : FR J g (upD K H0 O0 tb) D σ H := by
 obtain ⟨Iv, q0, qs, qe⟩ := q
 refine ⟨fun i m σ' H' => ∃ O' δ', m = vs.length - i ∧ i ≤ vs.length ∧ Wd K H0 O0 H' O' σ' δ' ∧ Step H H' O O' ∧ Iv i δ', ⟨vs.length, O, δ, by simp, Nat.zero_le _, w, Step.refl _ _, q0⟩, ?_⟩
 rintro i m σ1 H1 ⟨O1, δ1, rfl, hi, w1, S1, q1⟩
 by_cases hlt : i < vs.length
 ·refine .inr ⟨S.go i H1 (hP _ _ S1) hlt, fun σ' H' => ∃ O' δ', Wd K H0 O0 H' O' σ' δ' ∧ Step H H' O O' ∧ Iv (i + 1) δ', fun σ' H' ⟨O', δ', w', S', q'⟩ => ⟨vs.length - (i + 1), by omega, O', δ', rfl, hlt, w', S', q'⟩, fun x H' y => ?_⟩
  have yy := S.yl i H1 x H' (hP _ _ S1) hlt y
  clear y
  obtain ⟨e, y⟩ := yy
  subst e
  obtain ⟨d, ed, rd⟩ := r.get y
  refine gd H0 O0 _ O1 σ1 δ1 x d _ _ w1 (rd.step S1) (qs i d δ1 ed q1) fun δ2 σ2 q2 w2 => ?_
  refine ⟨O1, δ2, _, w2, q2, fun O' δ' σ' H' z w' S' => ⟨O', δ', w', S1.trans S', z⟩, k2, fun O' δ' σ' H' z w' S' => k1 O' δ' σ' H' z w' (S1.trans S'), fun O' δ' σ' H' z w' S' => ⟨O', δ', w', S1.trans S', z⟩⟩
 ·have e : i = vs.length := by omega
  subst e
  refine .inl ⟨S.st _ H1 (hP _ _ S1) (Nat.le_refl _), ?_⟩
  rw [r.length] at q1
  exact k1 O1 δ1 σ1 H1 (qe δ1 q1) w1 S1
section
variable {tg iter : Expr} {body : List Stmt} {t : DT} {ta : DA} {g : TG} {dg : DG} {tb : DS} {pos p ps : Pos}
end
def dForI (t : DT) (g : DG) (tb : DS) : DS := fun E δ => t δ fun d => ∃ xs, d = .list xs ∧ forI g tb E xs δ
def dForTI (t : DT) (g : DG) (tb : DS) : DS := fun E δ => t δ fun d => ∃ xs, d = .tuple xs ∧ forI g tb E xs δ
def dForRI (t : DA) (g : DG) (tb : DS) : DS := fun E δ => t δ fun ds => ∃ j : Int, ds = [.int j] ∧ -(2 ^ 62) ≤ j ∧ j < 2 ^ 62 ∧ forI g tb E (rangeD 0 j.toNat) δ
section
variable {tg iter : Expr} {body : List Stmt} {t : DT} {ta : DA} {g : TG} {dg : DG} {tb : DS} {pos p ps : Pos}
theorem ds_forI (hp : PassesOwn (model X.prog X.w) X.A X.env X.xe) (hc : X.calm = true) (hi : DE X H0 O0 iter t) (hg : PG X tg g) (gd : GD X.K g dg) (hb : PSs X body (upD X.K H0 O0 tb)) (hs : ∀ x, foldedSetIterable iter X.env x = pure x := by intro _; rfl) :
  PS X (.For tg iter body [] pos) (upD X.K H0 O0 (dForI t dg tb)) :=
 (ps_for hp hc (pi_list hi) hg hb hs).imp fun D σ H ⟨O, δ, E, w, q, k1, k2, k3, k4⟩ => ⟨O, δ, _, w, q, fun d v H1 ⟨xs, e, q1⟩ s1 r1 => by
  subst e
  cases r1 with
  | lst h n r =>
   refine ⟨_, rfl, ⟨_, .inl h⟩, for_stepI (SrcP.list (.inl h)) gd (fun H' O' S o e => S.keep _ _ e n) r (w.mono s1) q1 (fun O' δ' σ' H' z w' S => k1 O' δ' σ' H' z w' (Step.trans (.same s1) S)) k2⟩⟩
theorem ds_forTI (hp : PassesOwn (model X.prog X.w) X.A X.env X.xe) (hc : X.calm = true) (hi : DE X H0 O0 iter t) (hg : PG X tg g) (gd : GD X.K g dg) (hb : PSs X body (upD X.K H0 O0 tb)) (hs : ∀ x, foldedSetIterable iter X.env x = pure x := by intro _; rfl) :
  PS X (.For tg iter body [] pos) (upD X.K H0 O0 (dForTI t dg tb)) :=
 (ps_for hp hc (pi_tup hi) hg hb hs).imp fun D σ H ⟨O, δ, E, w, q, k1, k2, k3, k4⟩ => ⟨O, δ, _, w, q, fun d v H1 ⟨xs, e, q1⟩ s1 r1 => by
  subst e
  cases r1 with
  | tup h n r =>
   refine ⟨_, rfl, ⟨_, .inl h⟩, for_stepI (SrcP.tup (.inl h)) gd (fun H' O' S o e => S.keep _ _ e n) r (w.mono s1) q1 (fun O' δ' σ' H' z w' S => k1 O' δ' σ' H' z w' (Step.trans (.same s1) S)) k2⟩
  | tupK h r =>
   refine ⟨_, rfl, ⟨_, h.of0⟩, for_stepI (P := fun _ => True) ⟨fun i H' _ hi => ⟨_, _, h.of0, by simp [hi]; rfl⟩, fun i H' x H'' _ _ y => ⟨y.1, y.2 _ h.of0⟩, fun i H' _ hi => ⟨_, h.of0, hi⟩⟩ gd (fun _ _ _ => trivial) r (w.mono s1) q1 (fun O' δ' σ' H' z w' S => k1 O' δ' σ' H' z w' (Step.trans (.same s1) S)) k2⟩⟩
theorem ds_forRI (hp : PassesOwn (model X.prog X.w) X.A X.env X.xe) (hc : X.calm = true) {a : Expr} (hgl : Gl X "range") (hm : X.mg "range" = none) (ha : PA X [a] (upA X.K H0 O0 ta)) (hg : PG X tg g) (gd : GD X.K g dg) (hb : PSs X body (upD X.K H0 O0 tb))
  (hst : starEach [a] X.env = [(false, eval a X.env)] := by rfl) (hs : ∀ x, foldedSetIterable (.Call (.Name "range" p) [a] [] ps) X.env x = pure x := by intro _; rfl) :
  PS X (.For tg (.Call (.Name "range" p) [a] [] ps) body [] pos) (upD X.K H0 O0 (dForRI ta dg tb)) :=
 (ps_for hp hc (pi_range1 hgl hm ha hst) hg hb hs).imp fun D σ H ⟨O, δ, E, w, q, k1, k2, k3, k4⟩ => ⟨O, δ, _, w, q, fun ds vs H1 ⟨j, e, b1, b2, q1⟩ s1 r1 => by
  subst e
  cases r1 with
  | cons r1 r2 =>
   cases r2; cases r1
   exact ⟨j, rfl, b1, b2, for_stepI SrcP.rng gd (fun _ _ _ => trivial) (Dts.rng _) (w.mono s1) q1 (fun O' δ' σ' H' z w' S => k1 O' δ' σ' H' z w' (Step.trans (.same s1) S)) k2⟩⟩
end
def dst0 (k : Nat) (fr : List Nat) (δ : Dl) : Dl := List.replicate k none ++ fr.map fun j => (δ[j]?).join
def compW (g : DG) (tc : DB) (te : DT) (δ0 : Dl) : List PyData → List PyData → (List PyData → Prop) → Prop
 | [], acc, Q => Q acc
 | x :: xs, acc, Q => g x δ0 fun δ2 => tc δ2 fun ok => if ok = true then te δ2 fun y => compW g tc te δ0 xs (acc ++ [y]) Q else compW g tc te δ0 xs acc Q
theorem Wd.comp {K : PySem.W.Frag} {H : Hp} {O : Ex} {σ : St} {δ : Dl} (w : Wd K H0 O0 H O σ δ) {k : Nat} {fr : List Nat} (hf : fr.Nodup) : Wd K H0 O0 H O (st0 k fr σ) (dst0 k fr δ) := by
 have at1 : ∀ {α : Type} (l : List (Option α)) (i : Nat), (List.replicate k none ++ fr.map fun j => (l[j]?).join)[i]? = if i < k then some none else (fr[i - k]?).map fun j => (l[j]?).join := by
  intro α l i
  by_cases h : i < k
  ·rw [if_pos h, List.getElem?_append_left (by simpa using h), List.getElem?_replicate, if_pos h]
  ·rw [if_neg h, List.getElem?_append_right (by simpa using Nat.le_of_not_lt h), List.getElem?_map]; simp
 have un : ∀ {α : Type} (l : List (Option α)) (i : Nat) (x : α), (List.replicate k none ++ fr.map fun j => (l[j]?).join)[i]? = some (some x) → ∃ j, fr[i - k]? = some j ∧ k ≤ i ∧ l[j]? = some (some x) := by
  intro α l i x h
  rw [at1] at h
  split at h
  ·cases h
  ·cases e : fr[i - k]? with
   | none => rw [e] at h; cases h
   | some j =>
    rw [e] at h
    refine ⟨j, rfl, by omega, ?_⟩
    have h' : (l[j]?).join = some x := Option.some.inj h
    cases q : l[j]? with
    | none => rw [q] at h'; cases h'
    | some o => rw [q] at h'; rw [show o = some x from h']
 refine ⟨w.same, w.sub, w.new, w.trk, by simp [st0, dst0], fun i y e => ?_, fun i j y z l e1 y1 e2 z2 e3 e4 => ?_⟩
 ·match y, e with
  | none, _ => exact True.intro
  | some x, e =>
   obtain ⟨j, hj, hk, ej⟩ := un δ i x e
   have q := w.sl j _ ej
   have e2 : ((st0 k fr σ)[i]?).join = (σ[j]?).join := by
    unfold st0; rw [at1, if_neg (by omega), hj]; rfl
   rw [e2]; exact q
 ·obtain ⟨a, ha, ka, ea⟩ := un δ i _ e1
  obtain ⟨b, hb, kb, eb⟩ := un δ j _ e2
  obtain ⟨a', ha', _, ea'⟩ := un σ i _ e3
  obtain ⟨b', hb', _, eb'⟩ := un σ j _ e4
  rw [ha] at ha'; cases ha'
  rw [hb] at hb'; cases hb'
  have := w.dis a b y z l ea y1 eb z2 ea' eb'
  subst this
  have e5 := (List.getElem?_inj (l := fr) (i := i - k) (j := j - k) (List.getElem?_eq_some_iff.mp ha).1 hf).mp (by rw [ha, hb])
  omega
theorem comp_step {K : PySem.W.Frag} {J : It} {P : Hp → Prop} {vs : List V} {xs : List PyData} {g : TG} {dg : DG} {tc : TT} {dc : DB} {te : TE} {de : DT} {k : Nat} {fr : List Nat} {σ : St} {H : Hp} {O : Ex} {δ : Dl} {Qd : List PyData → Prop} {Q : VK} (S : SrcP J P vs) (gd : GD K g dg) (hf : fr.Nodup)
  (hk : ∀ v : V, ∀ σ' : St, ∀ H' : Hp, ∀ R : St → Hp → Prop, g v (st0 k fr σ) H' R → g v (st0 k fr σ) H' fun σ2 H2 => Keep (st0 k fr σ) σ2 ∧ R σ2 H2)
  (hc : ∀ σ H Q, upT K H0 O0 dc σ H Q → tc σ H Q) (he : ∀ σ H Q, up K H0 O0 de σ H Q → te σ H Q)
  (hP : ∀ D H', H D = none → SameE D H H' → P H') (r : Dts K H O vs xs) (w : Wd K H0 O0 H O σ δ) (hz : vs.length ≤ sizeLine) (q : compW dg dc de (dst0 k fr δ) xs [] Qd)
  (k1 : ∀ ds us p H', Qd ds → Same H H' → H' p = none → Dts K H' O us ds → Q (.ref p) (upd H' p (.lst us))) : CmR J g tc te k fr σ H Q := by
 intro D hD
 have w0 : Wd K H0 O0 H O (st0 k fr σ) (dst0 k fr δ) := w.comp hf
 have nD : ¬ O D := fun z => w.trk D z hD
 have D0 : H0 D = none := by
  cases e : H0 D with
  | none => rfl
  | some o => rw [w.same _ _ e] at hD; cases hD
 -- with D excluded
 have ex : ∀ H', SameE D H H' → H' D ≠ none → Wd K H0 O0 H' (fun a => O a ∨ a = D) (st0 k fr σ) (dst0 k fr δ) := fun H' s' hd => by
  have S' : Step H H' O (fun a => O a ∨ a = D) := ⟨fun b o e _ => s' b o e (ne_of_none e hD), fun b hb hn z => z.elim hn fun q => hb (by rw [q]; exact hD)⟩
  refine ⟨fun b o e => s' b o (w.same b o e) (fun z => by rw [z, D0] at e; cases e), fun l z => .inl (w.sub l z), fun l z => z.elim (w.new l) fun q => .inr (by rw [q]; exact D0), fun l z => ?_, w0.len, fun j y e => ?_, w0.dis⟩
  ·by_cases ql : l = D
   ·rw [ql]; exact hd
   ·have hl := w.trk l (z.resolve_right ql)
    cases e : H l with
    | none => exact absurd e hl
    | some o => rw [s' l o e ql]; exact fun z => nomatch z
  ·exact (w0.sl j y e).go S' fun l o _ _ a1 _ a3 => ⟨.inl a1, s' _ _ a3 (fun z => nD (by rw [← z]; exact a1))⟩
 refine ⟨fun i m H' => ∃ acc ys, m = vs.length - i ∧ i ≤ vs.length ∧ SameE D H H' ∧ H' D = some (.lst ys) ∧ ys.length ≤ i ∧ Dts K H' (fun a => O a ∨ a = D) ys acc ∧ compW dg dc de (dst0 k fr δ) (xs.drop i) acc Qd, ⟨vs.length, [], [], by simp, Nat.zero_le _, fun b o e n => by rw [upd_ne n]; exact e, upd_same, Nat.zero_le _, .nil, by simpa using q⟩, ?_⟩
 rintro i m H1 ⟨acc, ys, rfl, hi, s1, e1, hy, ra, q1⟩
 by_cases hlt : i < vs.length
 ·refine .inr ⟨S.go i H1 (hP D H1 hD s1) hlt, fun x H' y => ?_⟩
  have yy := S.yl i H1 x H' (hP D H1 hD s1) hlt y
  clear y
  obtain ⟨e, y⟩ := yy
  subst e
  obtain ⟨d, ed, rd⟩ := r.get y
  have hd : xs.drop i = d :: xs.drop (i + 1) := by
   rw [List.drop_eq_getElem_cons (h := (List.getElem?_eq_some_iff.mp ed).1), (List.getElem?_eq_some_iff.mp ed).2]
  rw [hd] at q1
  have w1 := ex _ s1 (by rw [e1]; exact fun z => nomatch z)
  have S' : Step H H' O (fun a => O a ∨ a = D) := ⟨fun b o e _ => s1 b o e (ne_of_none e hD), fun b hb hn z => z.elim hn fun q => hb (by rw [q]; exact hD)⟩
  refine hk x σ _ _ (gd H0 O0 _ _ _ _ x d _ _ w1 (rd.step S') q1 fun δ2 σ2 q2 w2 => ?_)
  refine hc σ2 _ _ ⟨_, δ2, _, w2, q2, fun ok H3 q3 s3 => ?_⟩
  cases ok with
  | true =>
   rw [if_pos rfl]
   refine he σ2 H3 _ ⟨_, δ2, _, w2.mono s3, q3, fun d' v H4 q4 s4 r4 => ?_⟩
   have e4 := s4 _ _ (s3 _ _ e1)
   have sD : Step H4 (upd H4 D (.lst (ys ++ [v]))) (fun a => O a ∨ a = D) (fun a => O a ∨ a = D) := ⟨fun b o e n => by rw [upd_ne (fun z => n (.inr z))]; exact e, fun _ _ n => n⟩
   refine ⟨ys, e4, by omega, vs.length - (i + 1), by omega, acc ++ [d'], ys ++ [v], rfl, hlt, fun b o e n => by rw [upd_ne n]; exact s4 _ _ (s3 _ _ (s1 b o e n)), upd_same, by simpa using hy, ?_, q4⟩
   exact ((ra.mono (s3.trans s4)).append (.cons r4 .nil)).step sD
  | false =>
   rw [if_neg (by decide)]
   exact ⟨vs.length - (i + 1), by omega, acc, ys, rfl, hlt, fun b o e n => s3 _ _ (s1 b o e n), s3 _ _ e1, by omega, ra.mono s3, q3⟩
 ·have e : i = vs.length := by omega
  subst e
  refine .inl ⟨S.st _ H1 (hP D H1 hD s1) (Nat.le_refl _), ?_⟩
  rw [r.length, List.drop_of_length_le (Nat.le_refl _)] at q1
  -- the list D, new over the rest
  have hrest : ∃ H2 : Hp, H2 D = none ∧ Same H H2 ∧ H1 = upd H2 D (.lst ys) := by
   refine ⟨fun b => if b = D then none else H1 b, by simp, fun b o e => ?_, ?_⟩
   ·have n := ne_of_none e hD
    show (if b = D then none else H1 b) = some o
    rw [if_neg n]; exact s1 b o e n
   ·funext b
    by_cases z : b = D
    ·rw [z, upd_same]; exact e1
    ·rw [upd_ne z]; show H1 b = if b = D then none else H1 b; rw [if_neg z]
  obtain ⟨H2, h2, s2, rfl⟩ := hrest
  refine k1 acc ys D H2 q1 s2 h2 (ra.step ⟨fun b o e n => ?_, fun b _ n z => n (.inl z)⟩)
  rw [upd_ne (fun z => n (.inr z))] at e; exact e
def compI (g : DG) (tc : DB) (te : DT) (δ0 : Dl) (xs : List PyData) (Q : List PyData → Prop) : Prop := ∃ I : Nat → List PyData → Prop, I 0 [] ∧ (∀ i x acc, xs[i]? = some x → I i acc → g x δ0 fun δ2 => tc δ2 fun ok => if ok = true then te δ2 fun y => I (i + 1) (acc ++ [y]) else I (i + 1) acc) ∧ ∀ acc, I xs.length acc → Q acc
theorem comp_stepI {K : PySem.W.Frag} {J : It} {P : Hp → Prop} {vs : List V} {xs : List PyData} {g : TG} {dg : DG} {tc : TT} {dc : DB} {te : TE} {de : DT} {k : Nat} {fr : List Nat} {σ : St} {H : Hp} {O : Ex} {δ : Dl} {Qd : List PyData → Prop} {Q : VK} (S : SrcP J P vs) (gd : GD K g dg) (hf : fr.Nodup)
  (hk : ∀ v : V, ∀ σ' : St, ∀ H' : Hp, ∀ R : St → Hp → Prop, g v (st0 k fr σ) H' R → g v (st0 k fr σ) H' fun σ2 H2 => Keep (st0 k fr σ) σ2 ∧ R σ2 H2)
  (hc : ∀ σ H Q, upT K H0 O0 dc σ H Q → tc σ H Q) (he : ∀ σ H Q, up K H0 O0 de σ H Q → te σ H Q)
  (hP : ∀ D H', H D = none → SameE D H H' → P H') (r : Dts K H O vs xs) (w : Wd K H0 O0 H O σ δ) (hz : vs.length ≤ sizeLine) (q : compI dg dc de (dst0 k fr δ) xs Qd)
  (k1 : ∀ ds us p H', Qd ds → Same H H' → H' p = none → Dts K H' O us ds → Q (.ref p) (upd H' p (.lst us))) : CmR J g tc te k fr σ H Q := by
 obtain ⟨Iv, q0, qs, qe⟩ := q
 intro D hD
 have w0 : Wd K H0 O0 H O (st0 k fr σ) (dst0 k fr δ) := w.comp hf
 have nD : ¬ O D := fun z => w.trk D z hD
 have D0 : H0 D = none := by
  cases e : H0 D with
  | none => rfl
  | some o => rw [w.same _ _ e] at hD; cases hD
 -- with D excluded
 have ex : ∀ H', SameE D H H' → H' D ≠ none → Wd K H0 O0 H' (fun a => O a ∨ a = D) (st0 k fr σ) (dst0 k fr δ) := fun H' s' hd => by
  have S' : Step H H' O (fun a => O a ∨ a = D) := ⟨fun b o e _ => s' b o e (ne_of_none e hD), fun b hb hn z => z.elim hn fun q => hb (by rw [q]; exact hD)⟩
  refine ⟨fun b o e => s' b o (w.same b o e) (fun z => by rw [z, D0] at e; cases e), fun l z => .inl (w.sub l z), fun l z => z.elim (w.new l) fun q => .inr (by rw [q]; exact D0), fun l z => ?_, w0.len, fun j y e => ?_, w0.dis⟩
  ·by_cases ql : l = D
   ·rw [ql]; exact hd
   ·have hl := w.trk l (z.resolve_right ql)
    cases e : H l with
    | none => exact absurd e hl
    | some o => rw [s' l o e ql]; exact fun z => nomatch z
  ·exact (w0.sl j y e).go S' fun l o _ _ a1 _ a3 => ⟨.inl a1, s' _ _ a3 (fun z => nD (by rw [← z]; exact a1))⟩
 refine ⟨fun i m H' => ∃ acc ys, m = vs.length - i ∧ i ≤ vs.length ∧ SameE D H H' ∧ H' D = some (.lst ys) ∧ ys.length ≤ i ∧ Dts K H' (fun a => O a ∨ a = D) ys acc ∧ Iv i acc, ⟨vs.length, [], [], by simp, Nat.zero_le _, fun b o e n => by rw [upd_ne n]; exact e, upd_same, Nat.zero_le _, .nil, q0⟩, ?_⟩
 rintro i m H1 ⟨acc, ys, rfl, hi, s1, e1, hy, ra, q1⟩
 by_cases hlt : i < vs.length
 ·refine .inr ⟨S.go i H1 (hP D H1 hD s1) hlt, fun x H' y => ?_⟩
  have yy := S.yl i H1 x H' (hP D H1 hD s1) hlt y
  clear y
  obtain ⟨e, y⟩ := yy
  subst e
  obtain ⟨d, ed, rd⟩ := r.get y
  have w1 := ex _ s1 (by rw [e1]; exact fun z => nomatch z)
  have S' : Step H H' O (fun a => O a ∨ a = D) := ⟨fun b o e _ => s1 b o e (ne_of_none e hD), fun b hb hn z => z.elim hn fun q => hb (by rw [q]; exact hD)⟩
  refine hk x σ _ _ (gd H0 O0 _ _ _ _ x d _ _ w1 (rd.step S') (qs i d acc ed q1) fun δ2 σ2 q2 w2 => ?_)
  refine hc σ2 _ _ ⟨_, δ2, _, w2, q2, fun ok H3 q3 s3 => ?_⟩
  cases ok with
  | true =>
   rw [if_pos rfl]
   refine he σ2 H3 _ ⟨_, δ2, _, w2.mono s3, q3, fun d' v H4 q4 s4 r4 => ?_⟩
   have e4 := s4 _ _ (s3 _ _ e1)
   have sD : Step H4 (upd H4 D (.lst (ys ++ [v]))) (fun a => O a ∨ a = D) (fun a => O a ∨ a = D) := ⟨fun b o e n => by rw [upd_ne (fun z => n (.inr z))]; exact e, fun _ _ n => n⟩
   refine ⟨ys, e4, by omega, vs.length - (i + 1), by omega, acc ++ [d'], ys ++ [v], rfl, hlt, fun b o e n => by rw [upd_ne n]; exact s4 _ _ (s3 _ _ (s1 b o e n)), upd_same, by simpa using hy, ?_, q4⟩
   exact ((ra.mono (s3.trans s4)).append (.cons r4 .nil)).step sD
  | false =>
   rw [if_neg (by decide)]
   exact ⟨vs.length - (i + 1), by omega, acc, ys, rfl, hlt, fun b o e n => s3 _ _ (s1 b o e n), s3 _ _ e1, by omega, ra.mono s3, q3⟩
 ·have e : i = vs.length := by omega
  subst e
  refine .inl ⟨S.st _ H1 (hP D H1 hD s1) (Nat.le_refl _), ?_⟩
  rw [r.length] at q1
  -- the list D, new over the rest
  have hrest : ∃ H2 : Hp, H2 D = none ∧ Same H H2 ∧ H1 = upd H2 D (.lst ys) := by
   refine ⟨fun b => if b = D then none else H1 b, by simp, fun b o e => ?_, ?_⟩
   ·have n := ne_of_none e hD
    show (if b = D then none else H1 b) = some o
    rw [if_neg n]; exact s1 b o e n
   ·funext b
    by_cases z : b = D
    ·rw [z, upd_same]; exact e1
    ·rw [upd_ne z]; show H1 b = if b = D then none else H1 b; rw [if_neg z]
  obtain ⟨H2, h2, s2, rfl⟩ := hrest
  refine k1 acc ys D H2 (qe acc q1) s2 h2 (ra.step ⟨fun b o e n => ?_, fun b _ n z => n (.inl z)⟩)
  rw [upd_ne (fun z => n (.inr z))] at e; exact e
def dYes : DB := fun _ Q => Q true
def KeepG (g : TG) (k : Nat) : Prop := ∀ (fr : List Nat) (σ : St) (v : V) (H' : Hp) (R : St → Hp → Prop), g v (st0 k fr σ) H' R → g v (st0 k fr σ) H' fun σ2 H2 => Keep (st0 k fr σ) σ2 ∧ R σ2 H2
theorem keepName : KeepG (gName 0) 1 := fun fr σ v H' R h => ⟨keep_set, h⟩
section
variable {tg iter elt : Expr} {ifs : List Expr} {scope : Scope} {N' : List Str} {k : Nat} {fr : List Nat} {g : TG} {dg : DG} {t : DT} {ta : DA} {tc : DB} {te : DT} {pos p ps : Pos}
end
def dCompI (t : DT) (g : DG) (tc : DB) (te : DT) (k : Nat) (fr : List Nat) : DA := fun δ Q => t δ fun d => ∃ xs, d = .list xs ∧ xs.length ≤ sizeLine ∧ compI g tc te (dst0 k fr δ) xs Q
def dCompTI (t : DT) (g : DG) (tc : DB) (te : DT) (k : Nat) (fr : List Nat) : DA := fun δ Q => t δ fun d => ∃ xs, d = .tuple xs ∧ xs.length ≤ sizeLine ∧ compI g tc te (dst0 k fr δ) xs Q
def dCompRI (ta : DA) (g : DG) (tc : DB) (te : DT) (k : Nat) (fr : List Nat) : DA := fun δ Q => ta δ fun ds => ∃ j : Int, ds = [.int j] ∧ -(2 ^ 62) ≤ j ∧ j < sizeLine ∧ compI g tc te (dst0 k fr δ) (rangeD 0 j.toNat) Q
section
variable {tg iter elt : Expr} {ifs : List Expr} {scope : Scope} {N' : List Str} {k : Nat} {fr : List Nat} {g : TG} {dg : DG} {t : DT} {ta : DA} {tc : DB} {te : DT} {pos p ps : Pos}
theorem fe_compI (hc : X.calm = true) (S : CompScope X.env.scope X.N N' k fr scope) (hi : DF X H0 O0 iter t) (gd : GD X.K g dg) (hk : KeepG g k) (hfr : fr.Nodup)
  (hg : ∀ fp C s H, PG (compCx X scope N' fp C s H) tg g) (hf : ∀ fp C s H, PIfs (compCx X scope N' fp C s H) ifs (upT X.K H0 O0 tc)) (he : ∀ fp C s H, PE (compCx X scope N' fp C s H) elt (up X.K H0 O0 te))
  (hs : ∀ x, foldedSetIterable iter X.env x = pure x := by intro _; rfl) : FE X H0 O0 (.ListComp elt [⟨tg, iter, ifs, 0⟩] scope pos) (dCompI t dg tc te k fr) :=
 (pe_comp hc S (pi_list hi) hg hf he hs).imp fun σ H Q ⟨O, δ, Qd, w, q, kk⟩ => ⟨O, δ, _, w, q, fun d v H1 ⟨xs, e, hz, q1⟩ s1 r1 => by
  subst e
  obtain ⟨a, vs, rfl, hq, rr⟩ := r1.lst
  refine ⟨a, rfl, ⟨_, hq⟩, fun D hD => comp_stepI (SrcP.list hq) gd hfr (fun v _ H' R h => hk fr σ v H' R h) (fun _ _ _ z => z) (fun _ _ _ z => z) (fun D H' hD s' o e => s' _ _ e (ne_of_none e hD)) rr (w.mono s1) (by rw [rr.length]; exact hz) q1 (fun ds us p H' z s' hp r' => kk ds us p H' z (s1.trans s') hp r') D hD⟩⟩
theorem fe_compTI (hc : X.calm = true) (S : CompScope X.env.scope X.N N' k fr scope) (hi : DF X H0 O0 iter t) (gd : GD X.K g dg) (hk : KeepG g k) (hfr : fr.Nodup)
  (hg : ∀ fp C s H, PG (compCx X scope N' fp C s H) tg g) (hf : ∀ fp C s H, PIfs (compCx X scope N' fp C s H) ifs (upT X.K H0 O0 tc)) (he : ∀ fp C s H, PE (compCx X scope N' fp C s H) elt (up X.K H0 O0 te))
  (hs : ∀ x, foldedSetIterable iter X.env x = pure x := by intro _; rfl) : FE X H0 O0 (.ListComp elt [⟨tg, iter, ifs, 0⟩] scope pos) (dCompTI t dg tc te k fr) :=
 (pe_comp hc S (pi_tup hi) hg hf he hs).imp fun σ H Q ⟨O, δ, Qd, w, q, kk⟩ => ⟨O, δ, _, w, q, fun d v H1 ⟨xs, e, hz, q1⟩ s1 r1 => by
  subst e
  obtain ⟨a, vs, rfl, hq, rr⟩ := r1.tup
  refine ⟨a, rfl, ⟨_, hq⟩, fun D hD => comp_stepI (SrcP.tup hq) gd hfr (fun v _ H' R h => hk fr σ v H' R h) (fun _ _ _ z => z) (fun _ _ _ z => z) (fun D H' hD s' o e => s' _ _ e (ne_of_none e hD)) rr (w.mono s1) (by rw [rr.length]; exact hz) q1 (fun ds us p H' z s' hp r' => kk ds us p H' z (s1.trans s') hp r') D hD⟩⟩
theorem fe_compRI (hc : X.calm = true) {a : Expr} (S : CompScope X.env.scope X.N N' k fr scope) (hgl : Gl X "range") (hm : X.mg "range" = none) (ha : PA X [a] (upB X.K H0 O0 ta)) (gd : GD X.K g dg) (hk : KeepG g k) (hfr : fr.Nodup)
  (hg : ∀ fp C s H, PG (compCx X scope N' fp C s H) tg g) (hf : ∀ fp C s H, PIfs (compCx X scope N' fp C s H) ifs (upT X.K H0 O0 tc)) (he : ∀ fp C s H, PE (compCx X scope N' fp C s H) elt (up X.K H0 O0 te))
  (hst : starEach [a] X.env = [(false, eval a X.env)] := by rfl) (hs : ∀ x, foldedSetIterable (.Call (.Name "range" p) [a] [] ps) X.env x = pure x := by intro _; rfl) :
  FE X H0 O0 (.ListComp elt [⟨tg, (.Call (.Name "range" p) [a] [] ps), ifs, 0⟩] scope pos) (dCompRI ta dg tc te k fr) :=
 (pe_comp hc S (pi_range1 hgl hm ha hst) hg hf he hs).imp fun σ H Q ⟨O, δ, Qd, w, q, kk⟩ => ⟨O, δ, _, w, q, fun ds vs H1 ⟨j, e, b1, b2, q1⟩ s1 r1 => by
  subst e
  cases r1 with
  | cons r1 r2 =>
   cases r2
   cases r1.int
   have hb : (sizeLine : Int) < 2 ^ 62 := by decide
   exact ⟨j, rfl, b1, by omega, fun D hD => comp_stepI (P := fun _ => True) SrcP.rng gd hfr (fun v _ H' R h => hk fr σ v H' R h) (fun _ _ _ z => z) (fun _ _ _ z => z) (fun _ _ _ _ => trivial) (Dts.rng _) (w.mono s1) (by rw [List.length_map, List.length_range]; omega) q1 (fun ds us p H' z s' hp r' => kk ds us p H' z (s1.trans s') hp r') D hD⟩⟩
end
end
end L2

namespace L2
open PySem PySem.Spec PyProof.Rows PySem.W
section
variable {K : PySem.W.Frag}
def dI (g : Int → Int → PyData) : PyData → PyData → (PyData → Prop) → Prop := fun x y Q => ∃ i j, x = .int i ∧ y = .int j ∧ Q (g i j)
def dIC (C : Int → Int → Prop) (g : Int → Int → PyData) : PyData → PyData → (PyData → Prop) → Prop := fun x y Q => ∃ i j, x = .int i ∧ y = .int j ∧ C i j ∧ Q (g i j)
theorem od_int {g : Int → Int → Int} : OpD K (rI0 fun i j => .int (g i j)) (dI fun i j => .int (g i j)) := fun H O x y dx dy Qd R _ hx hy ⟨i, j, e1, e2, q⟩ k => by
 subst e1 e2; cases hx.int; cases hy.int; exact ⟨i, j, rfl, rfl, k _ _ H q (Same.refl _) (.int _)⟩
theorem od_bl {g : Int → Int → Bool} : OpD K (rI0 fun i j => .bl (g i j)) (dI fun i j => .bool (g i j)) := fun H O x y dx dy Qd R _ hx hy ⟨i, j, e1, e2, q⟩ k => by
 subst e1 e2; cases hx.int; cases hy.int; exact ⟨i, j, rfl, rfl, k _ _ H q (Same.refl _) (.bl _)⟩
theorem od_intC {C : Int → Int → Prop} {g : Int → Int → Int} : OpD K (rI C fun i j => .int (g i j)) (dIC C fun i j => .int (g i j)) := fun H O x y dx dy Qd R _ hx hy ⟨i, j, e1, e2, c, q⟩ k => by
 subst e1 e2; cases hx.int; cases hy.int; exact ⟨i, j, rfl, rfl, c, k _ _ H q (Same.refl _) (.int _)⟩
def rEqX (K : PySem.W.Frag) : R2 := fun x y H Q => ∃ O dx dy, Sh K H O x dx ∧ Sh K H O y dy ∧ Shp dx ∧ Shp dy ∧ Q (.bl (PyData.eqv dx dy)) H
def rNeX (K : PySem.W.Frag) : R2 := fun x y H Q => ∃ O dx dy, Sh K H O x dx ∧ Sh K H O y dy ∧ Shp dx ∧ Shp dy ∧ Q (.bl (!PyData.eqv dx dy)) H
theorem op_eqX {X : Cx} (hu : X.A.units + 64 < cLine) : OpR X (compareOp .Eq) (rEqX X.K) := by
 intro pins s σ H x y v u Q I rx ry h
 obtain ⟨O, dx, dy, hx, hy, sx, sy, q⟩ := h
 obtain ⟨as, ra⟩ := dt_reads I hx.all (SeqAt.canLay_of_shaped sx) rx
 obtain ⟨bs, rb⟩ := dt_reads I hy.all (SeqAt.canLay_of_shaped sy) ry
 exact SeqAt.compareEq_shaped ra rb sx sy hu (fin_bl I q rfl)
theorem op_neX {X : Cx} (hu : X.A.units + 64 < cLine) : OpR X (compareOp .NotEq) (rNeX X.K) := by
 intro pins s σ H x y v u Q I rx ry h
 obtain ⟨O, dx, dy, hx, hy, sx, sy, q⟩ := h
 obtain ⟨as, ra⟩ := dt_reads I hx.all (SeqAt.canLay_of_shaped sx) rx
 obtain ⟨bs, rb⟩ := dt_reads I hy.all (SeqAt.canLay_of_shaped sy) ry
 exact SeqAt.compareNe_shaped ra rb sx sy hu (fin_bl I q rfl)
def dEq : PyData → PyData → (PyData → Prop) → Prop := fun x y Q => Shp x ∧ Shp y ∧ Q (.bool (PyData.eqv x y))
def dNe : PyData → PyData → (PyData → Prop) → Prop := fun x y Q => Shp x ∧ Shp y ∧ Q (.bool (!PyData.eqv x y))
theorem od_eq : OpD K (rEqX K) dEq := fun H O x y dx dy Qd R _ hx hy ⟨a, b, q⟩ k => ⟨O, dx, dy, hx, hy, a, b, k _ _ H q (Same.refl _) (.bl _)⟩
theorem od_ne : OpD K (rNeX K) dNe := fun H O x y dx dy Qd R _ hx hy ⟨a, b, q⟩ k => ⟨O, dx, dy, hx, hy, a, b, k _ _ H q (Same.refl _) (.bl _)⟩
def dIxL : PyData → PyData → (PyData → Prop) → Prop := fun x y Q => ∃ ds i d, x = .list ds ∧ y = .int i ∧ atI ds i = some d ∧ Q d
def dIxT : PyData → PyData → (PyData → Prop) → Prop := fun x y Q => ∃ ds i d, x = .tuple ds ∧ y = .int i ∧ atI ds i = some d ∧ Q d
theorem Dts.atI {H : Hp} {O : Ex} {vs : List V} {ds : List PyData} {i : Int} {d : PyData} (r : Dts K H O vs ds) (e : L2.atI ds i = some d) : ∃ v, L2.atI vs i = some v ∧ Dt K H O v d := by
 unfold L2.atI at e ⊢
 rw [r.length]
 cases q : ixN ds.length i with
 | none => rw [q] at e; cases e
 | some j => rw [q] at e; exact r.getD e
theorem od_ixL : OpD K (rIxL K) dIxL := fun H O x y dx dy Qd R _ hx hy ⟨ds, i, d, e1, e2, e3, q⟩ k => by
 subst e1 e2
 obtain ⟨a, vs, rfl, hs, r⟩ := hx.lst
 cases hy.int
 obtain ⟨v, hv, rv⟩ := r.atI e3
 exact ⟨a, vs, i, v, rfl, rfl, hs, hv, k d v H q (Same.refl _) rv⟩
theorem od_ixT : OpD K (rIxT K) dIxT := fun H O x y dx dy Qd R _ hx hy ⟨ds, i, d, e1, e2, e3, q⟩ k => by
 subst e1 e2
 obtain ⟨a, vs, rfl, hs, r⟩ := hx.tup
 cases hy.int
 obtain ⟨v, hv, rv⟩ := r.atI e3
 exact ⟨a, vs, i, v, rfl, rfl, hs, hv, k d v H q (Same.refl _) rv⟩
end
section
variable {X : Cx} {H0 : Hp} {O0 : Ex}
def rCatG : R2 := fun x y H Q => ∃ l b xs zs, x = .ref l ∧ y = .ref b ∧ Rd H l (.lst xs) ∧ Rd H b (.lst zs) ∧ xs.length + zs.length ≤ sizeLine ∧ ∀ p, H p = none → Q (.ref p) (upd H p (.lst (xs ++ zs)))
theorem op_catG : OpR X (binaryOp .Add) rCatG := by
 intro pins s σ H x y v u Q I rx ry h
 obtain ⟨l, b, xs, zs, rfl, rfl, hH, hB, hz, q⟩ := h
 cases rx
 cases ry
 obtain ⟨z, its, n, r, e⟩ := hH.ok I.hok
 obtain ⟨z2, its2, n2, r2, e2⟩ := hB.ok I.hok
 have l1 := r.length
 have l2 := r2.length
 refine PySem.P.add_list e e2 ?_ (by rw [List.size_toArray, List.size_toArray]; omega)
 have ea : its.toArray ++ its2.toArray = (its ++ its2).toArray := by simp
 rw [ea]
 exact ⟨.ref _, _, I.lnew (t' := s.toks) (r.append r2) (by rw [List.length_append]; omega), rfl, q _ I.fresh⟩
def dCat (ta tb : DT) : DA := fun δ Q => ta δ fun x => tb δ fun y => ∃ xs ys, x = .list xs ∧ y = .list ys ∧ xs.length + ys.length ≤ sizeLine ∧ Q (xs ++ ys)
theorem fe_cat {a b : Expr} {ta tb : DT} {pos : Pos} (ha : DF X H0 O0 a ta) (hb : DF X H0 O0 b tb) : FE X H0 O0 (.BinOp a .Add b pos) (dCat ta tb) :=
 (pe_op op_catG ha hb).imp fun σ H Q ⟨O, δ, Qd, w, q, k⟩ => ⟨O, δ, _, w, q, fun x v H1 q1 s1 r1 => ⟨O, δ, _, w.mono s1, q1, fun y u H2 ⟨xs, ys, e1, e2, hz, q2⟩ s2 r2 => by
  subst e1 e2
  obtain ⟨a, vs, rfl, h1, d1⟩ := (r1.mono s2).lstR
  obtain ⟨b, us, rfl, h2, d2⟩ := r2.lstR
  exact ⟨a, b, vs, us, rfl, rfl, h1, h2, by rw [d1.length, d2.length]; exact hz, fun p hp => k _ _ _ _ q2 (s1.trans s2) hp (d1.append d2)⟩⟩⟩
def cutD (xs : List PyData) (lo hi : Option Int) : List PyData := (xs.drop (HT.sIx xs.length 0 lo)).take (HT.sIx xs.length xs.length hi - HT.sIx xs.length 0 lo)
theorem Dts.cut {K : PySem.W.Frag} {H : Hp} {O : Ex} {vs : List V} {ds : List PyData} (r : Dts K H O vs ds) (lo hi : Option Int) : Dts K H O (cutV vs lo hi) (cutD ds lo hi) := by
 unfold cutV cutD; rw [r.length]; exact (r.drop _).take _
abbrev DO := Dl → (Option Int → Prop) → Prop
def upO (K : PySem.W.Frag) (H0 : Hp) (O0 : Ex) (t : DO) : TO := fun σ H R => ∃ O δ Qd, Wd K H0 O0 H O σ δ ∧ t δ Qd ∧ ∀ d H', Qd d → Same H H' → R d H'
def dNoPart : DO := fun _ Q => Q none
def dPart (t : DT) : DO := fun δ Q => t δ fun d => ∃ i, d = .int i ∧ Q (some i)
theorem PO.imp {X : Cx} {e : Option Expr} {t u : TO} (h : PO X e t) (i : ∀ σ H Q, u σ H Q → t σ H Q) : PO X e u := fun pins s σ H Q I z => h pins s σ H Q I (i σ H Q z)
theorem do_none : PO X none (upO X.K H0 O0 dNoPart) := po_none.imp fun σ H Q ⟨O, δ, Qd, w, q, k⟩ => k none H q (Same.refl _)
theorem do_some {e : Expr} {t : DT} (h : DE X H0 O0 e t) : PO X (some e) (upO X.K H0 O0 (dPart t)) := (po_some h).imp fun σ H Q ⟨O, δ, Qd, w, q, k⟩ => ⟨O, δ, _, w, q, fun d v H1 ⟨i, e, q1⟩ s1 r1 => by subst e; cases r1; exact ⟨i, rfl, k _ H1 q1 s1⟩⟩
def dSlL (t : DT) (tl th : DO) : DA := fun δ Q => t δ fun d => tl δ fun l => th δ fun u => ∃ xs, d = .list xs ∧ Q (cutD xs l u)
theorem fe_slice {e : Expr} {lo hi : Option Expr} {t : DT} {tl th : DO} {pos p2 : Pos} (h : DF X H0 O0 e t) (hl : PO X lo (upO X.K H0 O0 tl)) (hu : PO X hi (upO X.K H0 O0 th)) : FE X H0 O0 (.Subscript e (.Slice lo hi none p2) pos) (dSlL t tl th) :=
 (pe_slice sl_list h hl hu).imp fun σ H Q ⟨O, δ, Qd, w, q, k⟩ => ⟨O, δ, _, w, q, fun d v H1 q1 s1 r1 => ⟨O, δ, _, w.mono s1, q1, fun l H2 q2 s2 => ⟨O, δ, _, w.mono (s1.trans s2), q2, fun u H3 ⟨xs, e, q3⟩ s3 => by
  subst e
  obtain ⟨a, vs, rfl, h1, d1⟩ := (r1.mono (s2.trans s3)).lst
  exact ⟨a, vs, rfl, h1, fun p hp => k _ _ _ _ q3 (s1.trans (s2.trans s3)) hp (d1.cut l u)⟩⟩⟩⟩
theorem de_ix {a b : Expr} {ta tb : DT} {r : R2} {rd : PyData → PyData → (PyData → Prop) → Prop} {pos : Pos} (ho : IxR X r) (hd : OpD X.K r rd) (ha : DF X H0 O0 a ta) (hb : DF X H0 O0 b tb) (hs : ∀ v u, subscripted b false v u = operate [v, u] (getItem v u) := by intro _ _; rfl) : DE X H0 O0 (.Subscript a b pos) (dOp rd ta tb) := (pe_ix ho ha hb hs).imp (opd hd)
def dLen : List PyData → (PyData → Prop) → Prop := fun ds Q => ∃ xs, (ds = [.list xs] ∨ ds = [.tuple xs]) ∧ Q (.int xs.length)
def dLenS : List PyData → (PyData → Prop) → Prop := fun ds Q => ∃ xs, ds = [scrD xs] ∧ Q (.int xs.length)
theorem cd_len {K : PySem.W.Frag} : CallD K (fun xs H Q => ∃ p ys, xs = [.ref p] ∧ (SqL K H p ys ∨ SqT K H p ys) ∧ Q (.int ys.length) H) dLen := fun H O xs ds Qd R _ hs ⟨ys, e, q⟩ k => by
 rcases e with e | e <;> subst e
 ·cases hs with
  | cons h r =>
   cases r
   obtain ⟨a, vs, rfl, h1, d1⟩ := h.lst
   exact ⟨a, vs, rfl, .inl h1, by rw [d1.length]; exact k _ _ H q (Same.refl _) (.int _)⟩
 ·cases hs with
  | cons h r =>
   cases r
   obtain ⟨a, vs, rfl, h1, d1⟩ := h.tup
   exact ⟨a, vs, rfl, .inr h1, by rw [d1.length]; exact k _ _ H q (Same.refl _) (.int _)⟩
theorem cd_lenS {K : PySem.W.Frag} : CallD K (fun xs H Q => ∃ p ys, xs = [.ref p] ∧ (SqL K H p ys ∨ SqT K H p ys) ∧ Q (.int ys.length) H) dLenS := fun H O xs ds Qd R _ hs ⟨ys, e, q⟩ k => by
 subst e
 cases hs with
 | cons h r =>
  cases r
  obtain ⟨a, vs, rfl, h1, d1⟩ := h.scr
  exact ⟨a, vs, rfl, .inl h1, by rw [d1.length]; exact k _ _ H q (Same.refl _) (.int _)⟩
def dTupOf : List PyData → (PyData → Prop) → Prop := fun ds Q => ∃ xs, ds = [.list xs] ∧ Q (.tuple xs)
theorem cd_tupOf {K : PySem.W.Frag} : CallD K (fun xs H Q => ∃ p ys, xs = [.ref p] ∧ ((SqL K H p ys ∧ ∀ l, H l = none → Q (.ref l) (upd H l (.tup ys))) ∨ (SqT K H p ys ∧ Q (.ref p) H))) dTupOf := fun H O xs ds Qd R tr hs ⟨ys, e, q⟩ k => by
 subst e
 cases hs with
 | cons h r =>
  cases r
  obtain ⟨a, vs, rfl, h1, d1⟩ := h.lst
  exact ⟨a, vs, rfl, .inl ⟨h1, fun l hl => k _ _ _ q (Same.new hl) (.tup (.inl upd_same) (fun z => tr l z hl) (d1.mono (Same.new hl)))⟩⟩
theorem Dts.bools {K : PySem.W.Frag} {H : Hp} {O : Ex} : ∀ {bs : List Bool} {vs : List V}, Dts K H O vs (bs.map PyData.bool) → vs = bs.map V.bl
 | [], _, r => by rw [List.map_nil] at r; cases r; rfl
 | b :: bs, _, r => by
  rw [List.map_cons] at r
  cases r with
  | cons h r => cases h; rw [List.map_cons, Dts.bools r]
def dAny (g : List Bool → Bool) : List PyData → (PyData → Prop) → Prop := fun ds Q => ∃ bs : List Bool, ds = [.list (bs.map .bool)] ∧ Q (.bool (g bs))
theorem cd_any {K : PySem.W.Frag} {g : List Bool → Bool} : CallD K (fun xs H Q => ∃ (a : Addr) (bs : List Bool), xs = [.ref a] ∧ SqL K H a (bs.map V.bl) ∧ Q (.bl (g bs)) H) (dAny g) := fun H O xs ds Qd R tr hs ⟨bs, e, q⟩ k => by
 subst e
 cases hs with
 | cons h r =>
  cases r
  obtain ⟨a, vs, rfl, h1, d1⟩ := h.lst
  cases d1.bools
  exact ⟨a, bs, rfl, h1, k _ _ H q (Same.refl _) (.bl _)⟩
def dTwo (g : Int → Int → Int) : List PyData → (PyData → Prop) → Prop := fun ds Q => ∃ i j, ds = [.int i, .int j] ∧ Q (.int (g i j))
theorem cd_two {K : PySem.W.Frag} {g : Int → Int → Int} : CallD K (fun xs H Q => ∃ i j, xs = [.int i, .int j] ∧ Q (.int (g i j)) H) (dTwo g) := fun H O xs ds Qd R tr hs ⟨i, j, e, q⟩ k => by
 subst e
 cases hs with
 | cons h r =>
  cases r with
  | cons h2 r =>
   cases r; cases h.int; cases h2.int
   exact ⟨i, j, rfl, k _ _ H q (Same.refl _) (.int _)⟩
def tyD : PyData → String
 | .none => "NoneType" | .bool _ => "bool" | .int _ => "int" | .str _ => "str" | .list _ => "list" | .tuple _ => "tuple" | .dict _ => "dict"
end
section
variable {P : Program} {w : World} {K : PySem.W.Frag} {mg : Str → Option Value} {base : Heap}
def startD (N : List Str) (ds : List PyData) : Dl := ds.map (fun d => some (.v d)) ++ List.replicate (N.length - ds.length) none
theorem wd_start {H : Hp} {O : Ex} {N : List Str} {vs : List V} {ds : List PyData} (tr : ∀ l, O l → H l ≠ none) (r : Dts K H O vs ds) : Wd K H O H O (start N vs) (startD N ds) := by
 have hl := r.length
 have at1 : ∀ (i : Nat) y, (startD N ds)[i]? = some y → (∃ d, ds[i]? = some d ∧ y = some (.v d)) ∨ y = none := fun i y e => by
  unfold startD at e
  by_cases h : i < ds.length
  ·rw [List.getElem?_append_left (by simpa using h), List.getElem?_map] at e
   cases q : ds[i]? with
   | none => rw [q] at e; cases e
   | some d => rw [q] at e; exact .inl ⟨d, rfl, (Option.some.inj e).symm⟩
  ·rw [List.getElem?_append_right (by simpa using Nat.le_of_not_lt h), List.getElem?_replicate] at e
   split at e
   ·exact .inr (Option.some.inj e).symm
   ·cases e
 refine ⟨Same.refl _, fun _ z => z, fun _ z => .inl z, tr, by simp [start, startD, hl], fun i y e => ?_, fun i j ds' es l e1 => ?_⟩
 ·rcases at1 i y e with ⟨d, hd, rfl⟩ | rfl
  ·obtain ⟨v, hv, rv⟩ := r.getD hd
   refine ⟨v, ?_, rv⟩
   unfold start
   rw [List.getElem?_append_left (by simpa using (List.getElem?_eq_some_iff.mp hv).1), List.getElem?_map, hv]; rfl
  ·exact True.intro
 ·rcases at1 i _ e1 with ⟨d, _, z⟩ | z
  ·cases z; intro h; exact h.elim
  ·cases z
theorem Fun.okD {x qual : Str} {st : Stmt} {f : Addr} {fd : FuncData} {N ps : List Str} {k : Nat} {F : List PyData → (PyData → Prop) → Prop} (Fu : Fun K x qual st f fd) (S : FnScope N ps (defScope st)) (len : ∀ ds Q, F ds Q → ds.length = ps.length)
  (hbody : ∀ (cdv : Value) (A : Around) (outer : List Env) (s : Shared) (H : Hp) (O : Ex) (ds : List PyData) (Q : PyData → Prop) (E : XK), Room k (A.deeper (envOfC qual (defScope st) s.heap.objs.size f cdv)) → F ds Q →
   ∃ t, PSs (cxOf CX0 P w K mg base N qual (defScope st) f cdv A outer s H E).nox (defBody st) (upD K H O t) ∧ t { nx := fun _ => Q .none, rt := Q } (startD N ds)) : FnOk P w K mg base CX0 (k + 1) f fd ps (spD K F) := by
 refine Fu.ok S (fun vs H Q E h => ?_) (fun cdv A outer s H vs Q E hr h => ?_)
 ·obtain ⟨O, ds, Qd, _, r, q, _⟩ := h
  rw [r.length]; exact len _ _ q
 ·obtain ⟨O, ds, Qd, tr, r, q, k⟩ := h
  obtain ⟨t, ht, q'⟩ := hbody cdv A outer s H O ds Qd E hr q
  refine ⟨_, ht, O, _, _, wd_start tr r, q', fun O' δ' σ' H' z w' S' => ?_, fun d v H' z s' r' => k d v H' z s' r', fun _ _ _ _ z => z.elim, fun _ _ _ _ z => z.elim⟩
  exact k _ _ _ z w'.same .non
end
end L2

namespace L2
open PySem PySem.Spec PyProof.Rows PySem.W
section
variable {X : Cx} {H0 : Hp} {O0 : Ex}
theorem pf_nilD : PIfs X [] (upT X.K H0 O0 dYes) := fun pins s σ H Q I h => by
 obtain ⟨O, δ, Qd, w, q, k⟩ := h
 exact pf_nil pins s σ H Q I (k true H q (Same.refl _))
theorem call_isinX : CallR X (.builtin "isinstance") (fun xs H Q => ∃ O d T b x, xs = [x, .ty T] ∧ Dt X.K H O x d ∧ (∀ x, d ≠ .dict [(.none, x)]) ∧ kitOne X.K (.type (tyD d)) (.type T) = some b ∧ Q (.bl b) H) := by
 intro pins s σ H xs us Q I r h
 obtain ⟨O, d, T, b, x, rfl, hd, hp, hk, q⟩ := h
 obtain ⟨u, w', rfl, rx, rt⟩ := vals2 r
 cases (show w' = Value.type T from rt)
 have fin : ∀ tk, EP X pins σ Q (.bool b) { s with toks := tk } := fun tk => ⟨.bl b, H, I.tok tk, rfl, q⟩
 cases hd with
 | non => cases (show u = Value.none from rx); exact kia_one kitx_none I.kIn True.intro hk (fun z => nomatch z) fin
 | bl y => cases (show u = Value.bool y from rx); exact kia_one kitx_bool I.kIn True.intro hk (fun z => nomatch z) fin
 | int i => obtain ⟨t, e⟩ := (show ∃ t, u = Value.int i t from rx); cases e; exact kia_one kitx_int I.kIn True.intro hk (fun z => nomatch z) fin
 | str y => obtain ⟨t, e⟩ := (show ∃ t, u = Value.str y t from rx); cases e; exact kia_one kitx_str I.kIn True.intro hk (fun z => nomatch z) fin
 | @tup a xs ds h n rr =>
  cases (show u = Value.ref a from rx)
  obtain ⟨its, rv, ⟨o, e, c, _⟩, _⟩ := I.tuple (.inl h)
  exact kia_one kitx_tuple I.kIn ⟨o, e, c⟩ hk (fun z => nomatch z) fin
 | @tupK a xs ds h rr =>
  cases (show u = Value.ref a from rx)
  obtain ⟨its, rv, ⟨o, e, c, _⟩, _⟩ := I.tuple h.of0
  exact kia_one kitx_tuple I.kIn ⟨o, e, c⟩ hk (fun z => nomatch z) fin
 | @lst a xs ds h n rr =>
  cases (show u = Value.ref a from rx)
  obtain ⟨its, rv, ⟨o, _, e, c, _⟩, _⟩ := I.list (.inl h)
  exact kia_one kitx_list I.kIn ⟨o, e, c⟩ hk (fun z => nomatch z) fin
 | pack h n => exact absurd rfl (hp _)
 | scr h r => exact absurd rfl (hp _)
 | obj h e n r => exact absurd rfl (hp _)
 | @dct0 a h n =>
  cases (show u = Value.ref a from rx)
  obtain ⟨_, _, _, _, o, _, _, e, c, _⟩ := (show ObjOk X.prog X.w H s.heap a (.dK []) from I.hok a _ h)
  exact kia_one kitx_dict I.kIn ⟨o, e, c.1⟩ hk (fun z => nomatch z) fin
 | @dic a kv ks kp ds h e1 e2 n rr =>
  cases (show u = Value.ref a from rx)
  obtain ⟨_, _, _, _, o, _, _, e, c, _⟩ := (show ObjOk X.prog X.w H s.heap a (.dK kv) from I.hok a _ h)
  exact kia_one kitx_dict I.kIn ⟨o, e, c.1⟩ hk (fun z => nomatch z) fin
def dIsin (K : PySem.W.Frag) (T : String) (t : DT) : DT := fun δ Q => t δ fun d => ∃ b, kitOne K (.type (tyD d)) (.type T) = some b ∧ (∀ x, d ≠ .dict [(.none, x)]) ∧ Q (.bool b)
theorem de_isin {T : String} {a c : Expr} {t : DT} {np p : Pos} (hg : Gl X "isinstance") (hm : X.mg "isinstance" = none) (hv : bootBuiltins "isinstance" = some (.builtin "isinstance")) (ha : DF X H0 O0 a t) (hc : PE X c (tC (.ty T)))
  (hs : starEach [a, c] X.env = (false, eval a X.env) :: starEach [c] X.env := by rfl) (hs2 : starEach [c] X.env = [(false, eval c X.env)] := by rfl) (hb : (backTo p (starEach [c] X.env)).any (·.1) = false := by rfl) : DE X H0 O0 (.Call (.Name "isinstance" np) [a, c] [] p) (dIsin X.K T t) :=
 (pe_callB call_isinX hg hm hv (pa_cons ha (pa_cons hc pa_nil hs2) hs) (he := hs) (hpl := hb)).imp fun σ H Q ⟨O, δ, Qd, w, q, k⟩ => ⟨O, δ, _, w, q, fun d v H1 ⟨b, e, hp, q1⟩ s1 r1 => ⟨fun _ => False, d, T, b, v, rfl, r1.all, hp, e, k _ _ H1 q1 s1 (.bl b)⟩⟩
def dAddS : PyData → PyData → (PyData → Prop) → Prop := fun x y Q => ∃ i j, x = .str i ∧ y = .str j ∧ i.length + j.length ≤ sizeLine ∧ Q (.str (i ++ j))
theorem od_addS {K : PySem.W.Frag} : OpD K (fun x y H Q => ∃ i j, x = .str i ∧ y = .str j ∧ i.length + j.length ≤ sizeLine ∧ Q (.str (i ++ j)) H) dAddS := fun H O x y dx dy Qd R tr hx hy ⟨i, j, e1, e2, hz, q⟩ k => by
 subst e1 e2; cases hx.str; cases hy.str; exact ⟨i, j, rfl, rfl, hz, k _ _ H q (Same.refl _) (.str _)⟩
def dIxS : PyData → PyData → (PyData → Prop) → Prop := fun x y Q => ∃ z i c, x = .str z ∧ y = .int i ∧ z.length ≤ sizeLine ∧ atI z.cps.toList i = some c ∧ Q (.str ⟨#[c]⟩)
theorem od_ixS {K : PySem.W.Frag} : OpD K rIxS dIxS := fun H O x y dx dy Qd R tr hx hy ⟨z, i, c, e1, e2, hz, e3, q⟩ k => by
 subst e1 e2; cases hx.str; cases hy.int; exact ⟨z, i, c, rfl, rfl, hz, e3, k _ _ H q (Same.refl _) (.str _)⟩
theorem dcall0 {K : PySem.W.Frag} {F : List PyData → (PyData → Prop) → Prop} {E : XK} : ∀ σ H Q, up K H0 O0 (dCall F dNil) σ H Q → tCall (spD K F) [] E tNil σ H Q :=
 fun σ H Q ⟨O, δ, Qd, w, q, k⟩ => ⟨O, [], Qd, w.trk, .nil, q, fun d v H2 q2 s2 r2 => k d v H2 q2 s2 r2⟩
def dInt : List PyData → (PyData → Prop) → Prop := fun ds Q => (∃ i, ds = [.int i] ∧ Q (.int i)) ∨ ∃ b, ds = [.bool b] ∧ Q (.int (if b then 1 else 0))
theorem cd_int {K : PySem.W.Frag} : CallD K (fun xs H Q => (∃ i, xs = [.int i] ∧ Q (.int i) H) ∨ ∃ k, xs = [.bl k] ∧ Q (.int (if k then 1 else 0)) H) dInt := fun H O xs ds Qd R tr hs h k => by
 rcases h with ⟨i, e, q⟩ | ⟨b, e, q⟩ <;> subst e
 ·cases hs with
  | cons h r => cases r; cases h.int; exact .inl ⟨i, rfl, k _ _ H q (Same.refl _) (.int _)⟩
 ·cases hs with
  | cons h r => cases r; cases h.bl; exact .inr ⟨b, rfl, k _ _ H q (Same.refl _) (.int _)⟩
theorem vals_rev {xs : List V} {us : List Value} (r : Vals xs us) : Vals xs.reverse us.reverse := by
 induction r with
 | nil => exact .nil
 | cons h r ih => rw [List.reverse_cons, List.reverse_cons]; exact ih.append (.cons h .nil)
end
end L2

namespace L2
open PySem PySem.Spec PyProof.Rows PySem.W
section
variable {X : Cx} {pins : List (Addr × Obj)} {σ : St} {H : Hp} {s : Shared}
end
def F_take : List PyData → (PyData → Prop) → Prop := fun ds Q => ∃ z : Int, ds = [packD, .int z] ∧ 0 < z ∧ z ≤ 1000000 ∧ ∀ i : Int, 0 ≤ i → i < z → Q (.int i)
theorem atI_c0 {α : Type} {a : α} {l : List α} : atI (a :: l) 0 = some a := atI_nat (j := 0) rfl
theorem atI_c1 {α : Type} {a b : α} {l : List α} : atI (a :: b :: l) 1 = some b := atI_nat (j := 1) rfl
theorem atI_c2 {α : Type} {a b c : α} {l : List α} : atI (a :: b :: c :: l) 2 = some c := atI_nat (j := 2) rfl
theorem atI_c3 {α : Type} {a b c d : α} {l : List α} : atI (a :: b :: c :: d :: l) 3 = some d := atI_nat (j := 3) rfl
theorem atI_c4 {α : Type} {a b c d e : α} {l : List α} : atI (a :: b :: c :: d :: e :: l) 4 = some e := atI_nat (j := 4) rfl
theorem shp_int {i : Int} : Shp (.int i) := rfl
theorem shp_bl {i : Bool} : Shp (.bool i) := rfl
theorem shp_non : Shp .none := rfl
theorem eqv_str {x y : Str} : PyData.eqv (.str x) (.str y) = (x == y) := by simp [PyData.eqv]
theorem eqv_int {x y : Int} : PyData.eqv (.int x) (.int y) = (x == y) := by simp [PyData.eqv]
theorem eqv_bool {x y : Bool} : PyData.eqv (.bool x) (.bool y) = (x == y) := by simp [PyData.eqv]
theorem shp_str {x : Str} : Shp (.str x) ↔ PyData.strOk x = true := by
 unfold Shp SeqAt.shaped
 simp [PyData.canLay0, PyData.depth]
theorem sIx_none {n d : Nat} : HT.sIx n d none = d := rfl
theorem sIx_in {n d : Nat} {i : Int} (h0 : 0 ≤ i) (h1 : i ≤ n) : HT.sIx n d (some i) = i.toNat := by
 obtain ⟨j, rfl⟩ := Int.eq_ofNat_of_zero_le h0
 rw [HT.sIx_nat, Int.toNat_natCast]
 omega
theorem cutD_take {xs : List PyData} {i : Int} (h0 : 0 ≤ i) (h1 : i ≤ xs.length) : cutD xs none (some i) = xs.take i.toNat := by
 unfold cutD; rw [sIx_none, sIx_in h0 h1]; simp
theorem cutD_drop {xs : List PyData} {i : Int} (h0 : 0 ≤ i) (h1 : i ≤ xs.length) : cutD xs (some i) none = xs.drop i.toNat := by
 unfold cutD; rw [sIx_none, sIx_in h0 h1, List.take_of_length_le (by rw [List.length_drop]; exact Nat.le_refl _)]
theorem rangeD_at {lo : Int} {n i : Nat} {x : PyData} (h : (rangeD lo n)[i]? = some x) : i < n ∧ x = .int (lo + i) := by
 unfold rangeD at h
 rw [List.getElem?_map] at h
 by_cases hi : i < n
 ·rw [List.getElem?_range hi] at h; exact ⟨hi, (Option.some.inj h).symm⟩
 ·rw [List.getElem?_eq_none (by simpa using hi)] at h; cases h
theorem rangeD_len {lo : Int} {n : Nat} : (rangeD lo n).length = n := by unfold rangeD; simp
end L2

namespace L2
open PySem PySem.Spec PyProof.Rows
section
variable {κ : Type} [DecidableEq κ]
end
section
variable {P : Program} {w : World} {H : Hp} {h : Heap} {a : Addr}
end
section
variable {X : Cx} {pins : List (Addr × Obj)} {σ : St} {H : Hp} {s : Shared} {a : Addr} {y v : V} {u r : Value} {o : Option V} {A : Around} {E : Value → Shared → Prop}
end
section
variable {X : Cx} {pins : List (Addr × Obj)} {σ : St} {H : Hp} {s : Shared} {a : Addr} {kvs : List (Key × V)} {k : Key} {u : Value} {A : Around} {E : Value → Shared → Prop}
end
section
variable {X : Cx} {o i e value : Expr} {pos pos' tpos : Pos} {td ty tv : TE}
end
section
variable {X : Cx} {pos : Pos}
end
structure M1 (X : Cx) (o : Expr) (m : Str) (apos : Pos) (e : Expr) (cpos : Pos) : Prop where
  base : attributeBase o m X.env (eval o X.env) = eval o X.env
  few : ((backTo cpos (starEach [e] X.env)).all (fun x => !x.1) && (backToKw cpos (keywordEach [] X.env)).all (fun x => x.1.isSome)
    && decide (([e] : List Expr).length + ([] : List Keyword).length + (if ([] : List Keyword).isEmpty then 0 else 1) < 30)) = true
  line : (apos.endLine == cpos.line) = true
  trees : backTo cpos (starEach [e] X.env) = [(false, eval e X.env)]
structure M2 (X : Cx) (o : Expr) (m : Str) (apos : Pos) (e f : Expr) (cpos : Pos) : Prop where
  base : attributeBase o m X.env (eval o X.env) = eval o X.env
  few : ((backTo cpos (starEach [e, f] X.env)).all (fun x => !x.1) && (backToKw cpos (keywordEach [] X.env)).all (fun x => x.1.isSome)
    && decide (([e, f] : List Expr).length + ([] : List Keyword).length + (if ([] : List Keyword).isEmpty then 0 else 1) < 30)) = true
  line : (apos.endLine == cpos.line) = true
  trees : backTo cpos (starEach [e, f] X.env) = [(false, eval e X.env), (false, eval f X.env)]
section
variable {X : Cx} {pins : List (Addr × Obj)} {σ : St} {H : Hp} {s : Shared} {a : Addr} {y d : V} {u r : Value} {o : Option V} {A : Around} {E : Value → Shared → Prop}
end
section
variable {X : Cx} {o e f : Expr} {apos cpos : Pos} {td ty tx : TE}
end
section
variable {X : Cx} {pins : List (Addr × Obj)} {σ : St} {H : Hp} {s : Shared} {a : Addr} {kvs : List (Key × V)} {A : Around} {E : Value → Shared → Prop}
end
section
variable {X : Cx} {pins : List (Addr × Obj)} {σ : St} {H : Hp} {s : Shared} {a : Addr} {y : V} {u : Value} {A : Around} {E : Value → Shared → Prop}
end
end L2

namespace L2
open PySem PySem.Spec PyProof.Rows PySem.W
section
variable {X : Cx} {H0 : Hp} {O0 : Ex}
def litsOf : List Expr → Option (List PyData)
 | [] => some []
 | .Constant (.int i) _ _ :: r => (litsOf r).map (.int i :: ·)
 | .Constant (.str x) _ _ :: r => (litsOf r).map (.str x :: ·)
 | _ :: _ => none
def dLits (ds : List PyData) : DA := fun _ Q => Q ds
theorem da_lits : ∀ {es : List Expr} {ds : List PyData}, litsOf es = some ds → PA X es (upA X.K H0 O0 (dLits ds))
 | [], ds, h => by cases h; exact da_nil
 | e :: r, ds, h => by
  cases e with
  | Constant c j p =>
   cases c with
   | int i =>
    have h' : (litsOf r).map (.int i :: ·) = some ds := h
    cases q : litsOf r with
    | none => rw [q] at h'; cases h'
    | some ms => rw [q] at h'; cases h'; exact da_cons de_int (da_lits q)
   | str x =>
    have h' : (litsOf r).map (.str x :: ·) = some ds := h
    cases q : litsOf r with
    | none => rw [q] at h'; cases h'
    | some ms => rw [q] at h'; cases h'; exact da_cons de_str (da_lits q)
   | _ => cases h
  | _ => cases h
def litsE : Expr → Option (List PyData)
 | .List es _ => litsOf es
 | _ => none
theorem fe_lits {e : Expr} {ds : List PyData} (h : litsE e = some ds) : FE X H0 O0 e (dFin (dLits ds)) := by
 cases e with
 | List es p => exact fe_lst (da_lits h)
 | _ => cases h
theorem swaps_lits {e : Expr} {ds : List PyData} {x : Option Expr} {n : Nat} {env : Env} (h : litsE e = some ds) : swapsWith e x n env = pure false := by
 cases e with
 | List es p => rfl
 | _ => cases h
end
end L2

namespace L2
open PySem PySem.Spec PyProof.Rows PySem.W
structure GoodS (n : Nat) (x : Str) : Prop where
 ok : PyData.strOk x = true
 le : x.length ≤ n
theorem strOk_iff {x : Str} : PyData.strOk x = true ↔ ∀ c ∈ x.cps.toList, c < 0x110000 := by
 unfold PyData.strOk
 rw [← Array.all_toList, List.all_eq_true]
 simp
theorem cps_append (x y : Str) : (x ++ y).cps = x.cps ++ y.cps := rfl
theorem len_append (x y : Str) : (x ++ y).length = x.length + y.length := by
 show (x.cps ++ y.cps).size = _
 rw [Array.size_append]; rfl
theorem GoodS.append {a b : Nat} {x y : Str} (h : GoodS a x) (h' : GoodS b y) : GoodS (a + b) (x ++ y) := by
 refine ⟨strOk_iff.mpr fun c hc => ?_, by rw [len_append]; have := h.le; have := h'.le; omega⟩
 rw [cps_append, Array.toList_append] at hc
 rcases List.mem_append.mp hc with z | z
 ·exact strOk_iff.mp h.ok c z
 ·exact strOk_iff.mp h'.ok c z
theorem GoodS.chr {c : Nat} (h : c < 0x110000) : GoodS 1 ⟨#[c]⟩ := ⟨strOk_iff.mpr fun d hd => by
 have : d = c := by simpa using hd
 rw [this]; exact h, Nat.le_refl _⟩
def abc : Str := "abcdefghijklmnopqrstuvwxyz"
theorem abc_len : abc.cps.toList.length = 26 := by decide +kernel
theorem abc_ok : ∀ c ∈ abc.cps.toList, c < 0x110000 := by decide +kernel
theorem abc_at {j : Int} (h0 : 0 ≤ j) (h1 : j < 26) : ∃ c, atI abc.cps.toList j = some c ∧ abc.cps.toList[j.toNat]? = some c ∧ c < 0x110000 := by
 obtain ⟨k, rfl⟩ := Int.eq_ofNat_of_zero_le h0
 have hk : k < abc.cps.toList.length := by rw [abc_len]; omega
 refine ⟨abc.cps.toList[k], atI_nat (by simp [hk]), by simp [hk], abc_ok _ (List.getElem_mem hk)⟩
structure Lay (n : Nat) (d : PyData) : Prop where
 can : d.canLay0 = true
 dep : d.depth ≤ n
theorem Lay.shp {n : Nat} {d : PyData} (h : Lay n d) (hn : n ≤ 64) : SeqAt.shaped d = true := by
 unfold SeqAt.shaped; rw [h.can, decide_eq_true (Nat.le_trans h.dep hn)]; rfl
theorem Lay.mono {n m : Nat} {d : PyData} (h : Lay n d) (hn : n ≤ m) : Lay m d := ⟨h.can, Nat.le_trans h.dep hn⟩
theorem lay_str {x : Str} (h : PyData.strOk x = true) : Lay 1 (.str x) := ⟨by simpa [PyData.canLay0] using h, by simp [PyData.depth]⟩
theorem lay_int {i : Int} : Lay 1 (.int i) := ⟨by simp [PyData.canLay0], by simp [PyData.depth]⟩
theorem lay_bool {i : Bool} : Lay 1 (.bool i) := ⟨by simp [PyData.canLay0], by simp [PyData.depth]⟩
theorem lay_all {n : Nat} : ∀ {ds : List PyData}, (∀ d ∈ ds, Lay n d) → PyData.canLayAll0 ds = true ∧ PyData.depthAll ds ≤ n
 | [], _ => ⟨by simp [PyData.canLayAll0], by simp [PyData.depthAll]⟩
 | d :: r, h => by
  obtain ⟨a, b⟩ := lay_all (ds := r) fun e he => h e (by simp [he])
  have c := h d (by simp)
  refine ⟨by rw [PyData.canLayAll0, c.can, a]; rfl, ?_⟩
  rw [PyData.depthAll]
  exact Nat.max_le.mpr ⟨c.dep, b⟩
theorem lay_tup {n : Nat} {ds : List PyData} (h : ∀ d ∈ ds, Lay n d) : Lay (n + 1) (.tuple ds) := by
 obtain ⟨a, b⟩ := lay_all h
 refine ⟨by simpa [PyData.canLay0] using a, ?_⟩
 rw [PyData.depth]; omega
end L2

namespace L2
open PySem PySem.Spec PyProof.Rows
section
variable {X : Cx} {pos : Pos}
end
def PU (X : Cx) (e : Expr) (te : TE) : Prop := ∀ (i : Nat) (x : Str) (pos' spos : Pos) (hN : X.N.Nodup) (hxi : X.N[i]? = some x) (hx : Loc X.env.scope x) (hsw : swapsWith e (some (.Name x pos')) spos.line X.env = pure true)
 (hfn : X.fn x = true ∨ X.env.scope.names.lookup x = some .local), PS X (.Assign [.Name x pos'] e spos) (tAsg te (gName i))
theorem PU.imp {X : Cx} {e : Expr} {t u : TE} (h : PU X e t) (i : ∀ σ H Q, u σ H Q → t σ H Q) : PU X e u := fun i' x p1 p2 hN hxi hx hsw hfn => (h i' x p1 p2 hN hxi hx hsw hfn).imp fun D σ H z => i σ H _ z
section
variable {X : Cx} {H0 : Hp} {O0 : Ex}
section
variable {tg iter elt : Expr} {ifs : List Expr} {scope : Scope} {N' : List Str} {k : Nat} {fr : List Nat} {g : TG} {dg : DG} {t : DT} {ta : DA} {tc : DB} {te : DT} {pos p ps : Pos}
theorem pu_comp {wi : TI} {tc : TT} {te : TE} (hc : X.calm = true) (S : CompScope X.env.scope X.N N' k fr scope) (hi : PI X tg iter wi)
  (hg : ∀ fp C s H, PG (compCx X scope N' fp C s H) tg g) (hf : ∀ fp C s H, PIfs (compCx X scope N' fp C s H) ifs tc) (he : ∀ fp C s H, PE (compCx X scope N' fp C s H) elt te)
  (hs : ∀ x, foldedSetIterable iter X.env x = pure x := by intro _; rfl) : PU X (.ListComp elt [⟨tg, iter, ifs, 0⟩] scope pos) (tComp wi g tc te k fr) :=
 fun _ _ _ _ hN hxi hx hsw hfn => ps_setComp hN hxi hx hc S hi hg hf he hsw hs hfn
theorem fu_compI (hc : X.calm = true) (S : CompScope X.env.scope X.N N' k fr scope) (hi : DF X H0 O0 iter t) (gd : GD X.K g dg) (hk : KeepG g k) (hfr : fr.Nodup)
  (hg : ∀ fp C s H, PG (compCx X scope N' fp C s H) tg g) (hf : ∀ fp C s H, PIfs (compCx X scope N' fp C s H) ifs (upT X.K H0 O0 tc)) (he : ∀ fp C s H, PE (compCx X scope N' fp C s H) elt (up X.K H0 O0 te))
  (hs : ∀ x, foldedSetIterable iter X.env x = pure x := by intro _; rfl) : PU X (.ListComp elt [⟨tg, iter, ifs, 0⟩] scope pos) (upF X.K H0 O0 (dCompI t dg tc te k fr)) :=
 (pu_comp hc S (pi_list hi) hg hf he hs).imp fun σ H Q ⟨O, δ, Qd, w, q, kk⟩ => ⟨O, δ, _, w, q, fun d v H1 ⟨xs, e, hz, q1⟩ s1 r1 => by
  subst e
  obtain ⟨a, vs, rfl, hq, rr⟩ := r1.lst
  refine ⟨a, rfl, ⟨_, hq⟩, fun D hD => comp_stepI (SrcP.list hq) gd hfr (fun v _ H' R h => hk fr σ v H' R h) (fun _ _ _ z => z) (fun _ _ _ z => z) (fun D H' hD s' o e => s' _ _ e (ne_of_none e hD)) rr (w.mono s1) (by rw [rr.length]; exact hz) q1 (fun ds us p H' z s' hp r' => kk ds us p H' z (s1.trans s') hp r') D hD⟩⟩
theorem fu_compRI (hc : X.calm = true) {a : Expr} (S : CompScope X.env.scope X.N N' k fr scope) (hgl : Gl X "range") (hm : X.mg "range" = none) (ha : PA X [a] (upB X.K H0 O0 ta)) (gd : GD X.K g dg) (hk : KeepG g k) (hfr : fr.Nodup)
  (hg : ∀ fp C s H, PG (compCx X scope N' fp C s H) tg g) (hf : ∀ fp C s H, PIfs (compCx X scope N' fp C s H) ifs (upT X.K H0 O0 tc)) (he : ∀ fp C s H, PE (compCx X scope N' fp C s H) elt (up X.K H0 O0 te))
  (hst : starEach [a] X.env = [(false, eval a X.env)] := by rfl) (hs : ∀ x, foldedSetIterable (.Call (.Name "range" p) [a] [] ps) X.env x = pure x := by intro _; rfl) :
  PU X (.ListComp elt [⟨tg, (.Call (.Name "range" p) [a] [] ps), ifs, 0⟩] scope pos) (upF X.K H0 O0 (dCompRI ta dg tc te k fr)) :=
 (pu_comp hc S (pi_range1 hgl hm ha hst) hg hf he hs).imp fun σ H Q ⟨O, δ, Qd, w, q, kk⟩ => ⟨O, δ, _, w, q, fun ds vs H1 ⟨j, e, b1, b2, q1⟩ s1 r1 => by
  subst e
  cases r1 with
  | cons r1 r2 =>
   cases r2
   cases r1.int
   have hb : (sizeLine : Int) < 2 ^ 62 := by decide
   exact ⟨j, rfl, b1, by omega, fun D hD => comp_stepI (P := fun _ => True) SrcP.rng gd hfr (fun v _ H' R h => hk fr σ v H' R h) (fun _ _ _ z => z) (fun _ _ _ z => z) (fun _ _ _ _ => trivial) (Dts.rng _) (w.mono s1) (by rw [List.length_map, List.length_range]; omega) q1 (fun ds us p H' z s' hp r' => kk ds us p H' z (s1.trans s') hp r') D hD⟩⟩
end
theorem ds_setC {i : Nat} {x : Str} {e : Expr} {t : DA} {pos pos' : Pos} (hN : X.N.Nodup) (hi : X.N[i]? = some x) (hx : Loc X.env.scope x) (he : PU X e (upF X.K H0 O0 t)) (hs : swapsWith e (some (.Name x pos')) pos.line X.env = pure true := by rfl) (hf : X.fn x = true ∨ X.env.scope.names.lookup x = some .local := by first | exact .inl rfl | exact .inr rfl | assumption) :
  PS X (.Assign [.Name x pos'] e pos) (upD X.K H0 O0 (dSet i (dL t))) :=
 (he _ _ _ _ hN hi hx hs hf).imp fun D σ H ⟨O, δ, E, w, q, k1, k2, k3, k4⟩ => ⟨O, δ, _, w, q, fun ds vs p H1 q1 s1 hp r1 =>
  k1 O _ _ _ q1 ((w.mono (s1.trans (Same.new hp))).set (.lst (.inl upd_same) (nex w s1 hp) (r1.mono (Same.new hp)))) (.same (s1.trans (Same.new hp)))⟩
end
end L2

namespace L2
open PySem PySem.Spec PyProof.Rows PySem.W
section
variable {X : Cx} {H0 : Hp} {O0 : Ex}
section
variable {tg iter elt : Expr} {ifs : List Expr} {scope : Scope} {N' : List Str} {k : Nat} {fr : List Nat} {g : TG} {dg : DG} {t : DT} {ta : DA} {tc : DB} {te : DT} {pos p ps : Pos}
end
def rInX (K : PySem.W.Frag) (neg : Bool) : R2 := fun x y H Q => ∃ O dx ds dy, Sh K H O x dx ∧ Sh K H O y dy ∧ (dy = .list ds ∨ dy = .tuple ds) ∧ Shp dx ∧ PyData.canLayAll0 ds = true ∧ Q (.bl (if neg then !(ds.any fun d => PyData.eqv d dx) else ds.any fun d => PyData.eqv d dx)) H
theorem room_in {A : Around} {k : Nat} {xs : List PyData} {d : PyData} (hd : Shp d) (hr : Room k A) : A.units + 1 + min (PyData.depthAll xs) d.depth < cLine := by
 have := SeqAt.depth_of_shaped hd
 have h1 : min (PyData.depthAll xs) d.depth ≤ d.depth := Nat.min_le_right _ _
 have := hr.un
 omega
theorem op_inX {k : Nat} (hr : Room k X.A) : OpR X (compareOp .In) (rInX X.K false) := by
 intro pins s σ H x y v u Q I rx ry h
 obtain ⟨O, dx, ds, dy, hx, hy, e, sx, sy, q⟩ := h
 obtain ⟨as, ra⟩ := dt_reads I hx.all (SeqAt.canLay_of_shaped sx) rx
 rcases e with e | e <;> subst e
 ·obtain ⟨bs, rb⟩ := dt_reads I hy.all (by simpa [PyData.canLay0] using sy) ry
  exact SeqAt.in_list_reads rb ra sy (SeqAt.canLay_of_shaped sx) (room_in sx hr) (fin_bl I q rfl)
 ·obtain ⟨bs, rb⟩ := dt_reads I hy.all (by simpa [PyData.canLay0] using sy) ry
  exact SeqAt.in_tuple_reads rb ra sy (SeqAt.canLay_of_shaped sx) (room_in sx hr) (fin_bl I q rfl)
def dInX (neg : Bool) : PyData → PyData → (PyData → Prop) → Prop := fun x y Q => ∃ ds, (y = .list ds ∨ y = .tuple ds) ∧ Shp x ∧ PyData.canLayAll0 ds = true ∧ Q (.bool (if neg then !(ds.any fun d => PyData.eqv d x) else ds.any fun d => PyData.eqv d x))
theorem od_inX {K : PySem.W.Frag} {neg : Bool} : OpD K (rInX K neg) (dInX neg) := fun H O x y dx dy Qd R _ hx hy ⟨ds, e, a, b, q⟩ k => ⟨O, dx, ds, dy, hx, hy, e, a, b, k _ _ H q (Same.refl _) (.bl _)⟩
theorem getItem_tuple_whole {prog : Program} {w : World} {A : Around} {E : Value → Shared → Prop} {s : Shared} {t sl : Addr} {items : Array Value} {vl vu : Value} {lo hi : Option Int} {Q : Value → Shared → Prop} (ht : IsTup s.heap t items) (hs : s.heap.IsSliceOf sl vl vu .none) (pl : IsPart vl lo) (pu : IsPart vu hi)
  (hw : HT.sIx items.size 0 lo = 0 ∧ HT.sIx items.size items.size hi = items.size) (h : Q (.ref t) s) : wpAny (model prog w) A (getItem (.ref t) (.ref sl)) Q E s := by
 obtain ⟨os, hos, hcs, hds⟩ := id hs
 have hTs : s.TypeIs (.ref sl) "slice" := ⟨os, hos, hcs⟩
 unfold getItem
 try with_reducible refine wpAny_holding ?_
 first | refine wpAny_bind (wpAny_pure ?_) | skip
 refine wpAny_bind (wpAny_sequenceKey ht.typeIs (by decide) ?_)
 refine wpAny_bind (wpAny_callSpecial?_slot (name := Str.ofString "__getitem__") ht.typeIs PyProof.Rows.slot_tuple_getitem
  (wpAny_call_entry PyProof.Rows.slot_tuple_getitem ht.typeIs PyProof.Rows.entry_tuple_getitem ?_ (PyProof.Rows.args_tuple_getitem _ _)))
 show wpAny _ _ (Builtin.Tuple.tupleItemsOf (.ref t) >>= _) _ _ s
 refine wpAny_bind (tupleItemsOf_ ht ?_)
 refine wpAny_bind (wpAny_typeOf hTs ?_)
 rw [if_pos (by decide)]
 refine wpAny_bind (HT.sliceApplied_gen hs pl pu ?_)
 show wpAny _ _ (if (((HT.sIx items.size 0 lo : Nat) : Int) == 0 && (1 : Int) == 1 && (HT.sIx items.size items.size hi - HT.sIx items.size 0 lo) == items.size) = true then _ else _) _ _ s
 rw [if_pos (by rw [hw.1, hw.2]; simp)]
 unfold Builtin.Tuple.tupleIsExact
 refine wpAny_bind (wpAny_bind (wpAny_typeOf ht.typeIs (wpAny_pure ?_)))
 rw [if_pos (by decide)]
 exact wpAny_bind (wpAny_rule (wpAny_pure ⟨_, rfl, wpAny_pure h⟩))
def rSlX (K : PySem.W.Frag) : V → Option Int → Option Int → Hp → VK → Prop := fun x lo hi H Q => ∃ a xs, x = .ref a ∧ SqT K H a xs ∧
 ((HT.sIx xs.length 0 lo = 0 ∧ HT.sIx xs.length xs.length hi = xs.length) → Q x H) ∧ (¬ (HT.sIx xs.length 0 lo = 0 ∧ HT.sIx xs.length xs.length hi = xs.length) → ∀ p, H p = none → Q (.ref p) (upd H p (.tup (cutV xs lo hi))))
theorem sl_tupX : SlR X (rSlX X.K) := by
 intro pins s σ H x v vl vu lo hi sl Q I rx hs pl pu h
 obtain ⟨a, xs, rfl, hx, q1, q2⟩ := h
 by_cases hw : HT.sIx xs.length 0 lo = 0 ∧ HT.sIx xs.length xs.length hi = xs.length
 ·cases rx
  obtain ⟨its, r, ht, hz⟩ := I.tuple hx
  have hlen : its.toArray.size = xs.length := by rw [List.size_toArray]; exact r.length.symm
  refine ⟨"tuple", _, PyProof.Rows.slot_tuple_getitem.lookup, ht.typeIs, ?_⟩
  exact getItem_tuple_whole ht hs pl pu (by rw [hlen]; exact hw) ⟨.ref a, H, I, rfl, q1 hw⟩
 ·exact sl_tup pins s σ H _ v vl vu lo hi sl Q I rx hs pl pu ⟨a, xs, rfl, hx, hw, q2 hw⟩
theorem cutD_whole {xs : List PyData} {l u : Option Int} (h : HT.sIx xs.length 0 l = 0 ∧ HT.sIx xs.length xs.length u = xs.length) : cutD xs l u = xs := by
 unfold cutD; rw [h.1, h.2]; simp
def dSlX (t : DT) (tl th : DO) : DT := fun δ Q => t δ fun d => tl δ fun l => th δ fun u => ∃ xs, d = .tuple xs ∧ Q (.tuple (cutD xs l u))
theorem de_sliceX {e : Expr} {lo hi : Option Expr} {t : DT} {tl th : DO} {pos p2 : Pos} (h : DF X H0 O0 e t) (hl : PO X lo (upO X.K H0 O0 tl)) (hu : PO X hi (upO X.K H0 O0 th)) : DE X H0 O0 (.Subscript e (.Slice lo hi none p2) pos) (dSlX t tl th) :=
 (pe_slice sl_tupX h hl hu).imp fun σ H Q ⟨O, δ, Qd, w, q, k⟩ => ⟨O, δ, _, w, q, fun d v H1 q1 s1 r1 => ⟨O, δ, _, w.mono s1, q1, fun l H2 q2 s2 => ⟨O, δ, _, w.mono (s1.trans s2), q2, fun u H3 ⟨xs, e, q3⟩ s3 => by
  subst e
  have r3 := r1.mono (s2.trans s3)
  have r4 := r3
  obtain ⟨a, vs, rfl, h1, d1⟩ := r4.tup
  refine ⟨a, vs, rfl, h1, fun hw => ?_, fun _ p hp => k _ _ _ q3 (s1.trans (s2.trans (s3.trans (Same.new hp)))) (.tup (.inl upd_same) (nex w (s1.trans (s2.trans s3)) hp) ((d1.cut l u).mono (Same.new hp)))⟩
  rw [d1.length] at hw
  rw [cutD_whole hw] at q3
  cases r3 with
  | dt r3 => exact k _ _ _ q3 (s1.trans (s2.trans s3)) r3⟩⟩⟩
def leS (a b : Str) : Bool := decide (a.cps.toList ≤ b.cps.toList)
def sortS (l : List Str) : List Str := l.mergeSort leS
theorem leS_trans (a b c : Str) (h : leS a b = true) (h' : leS b c = true) : leS a c = true :=
 decide_eq_true (List.le_trans (of_decide_eq_true h) (of_decide_eq_true h'))
theorem leS_total (a b : Str) : (leS a b || leS b a) = true := by
 rcases List.le_total a.cps.toList b.cps.toList with h | h
 ·unfold leS; rw [decide_eq_true h]; rfl
 ·unfold leS; rw [decide_eq_true h, Bool.or_true]
theorem str_ext {a b : Str} (h : a.cps.toList = b.cps.toList) : a = b := by
 cases a; cases b; congr 1; exact Array.ext' h
theorem leS_anti {a b : Str} (h : leS a b = true) (h' : leS b a = true) : a = b := str_ext (List.le_antisymm (of_decide_eq_true h) (of_decide_eq_true h'))
theorem sortS_perm (l : List Str) : (sortS l).Perm l := List.mergeSort_perm l leS
theorem sortS_pw (l : List Str) : (sortS l).Pairwise fun a b => leS a b = true := List.pairwise_mergeSort leS_trans leS_total l
theorem sortS_uniq {l m : List Str} (h : m.Perm l) (p : m.Pairwise fun a b => leS a b = true) : m = sortS l :=
 List.Perm.eq_of_pairwise (fun a b _ _ x y => leS_anti x y) p (sortS_pw l) (h.trans (sortS_perm l).symm)
theorem pw_of_risingS : ∀ (p : Str) (l : List Str), risingS p l = true → (p :: l).Pairwise fun a b => leS a b = true
 | p, [], _ => by simp
 | p, x :: r, h => by
  rw [risingS, Bool.and_eq_true, Bool.not_eq_true', ltCps_eq, decide_eq_false_iff_not] at h
  have h1 : leS p x = true := decide_eq_true (List.not_lt.mp h.1)
  have h2 := pw_of_risingS x r h.2
  rw [List.pairwise_cons]
  refine ⟨fun y hy => ?_, h2⟩
  rcases List.mem_cons.mp hy with z | z
  ·rw [z]; exact h1
  ·exact leS_trans p x y h1 ((List.pairwise_cons.mp h2).1 y z)
theorem pw_of_sortedS : ∀ (l : List Str), sortedS l = true → l.Pairwise fun a b => leS a b = true
 | [], _ => .nil
 | x :: r, h => pw_of_risingS x r h
theorem vals_strs : ∀ {ys : List Str} {us : List Value}, Vals (ys.map V.str) us → StrsAre us ys := by
 intro ys
 induction ys with
 | nil => intro us rv; cases rv; exact .nil
 | cons y ys ih =>
  intro us rv
  rw [List.map_cons] at rv
  cases rv with
  | cons r1 r2 => obtain ⟨t, rfl⟩ := r1; exact .cons y t (ih r2)
theorem strs_vals : ∀ {ys : List Str} {us : List Value}, StrsAre us ys → Vals (ys.map V.str) us
 | _, _, .nil => .nil
 | _, _, .cons y t r => .cons ⟨t, rfl⟩ (strs_vals r)
theorem call_sortedS : CallR X (.builtin "sorted") (fun xs H Q => ∃ p ss, xs = [.ref p] ∧ SqL X.K H p (ss.map V.str) ∧ ss.length < 64 ∧ ∀ l, H l = none → Q (.ref l) (upd H l (.lst ((sortS ss).map V.str)))) := by
 intro pins s σ H xs us Q I r h
 obtain ⟨p, ss, rfl, hq, h64, q⟩ := h
 obtain ⟨u, rfl, rx⟩ := vals1 r
 cases rx
 obtain ⟨its, rv, pl, hz⟩ := I.list hq
 have hlen := rv.length
 rw [List.length_map] at hlen
 refine sorted_strs pl.isList (vals_strs rv) (by omega) fun out ss' a1 a2 a3 => ?_
 obtain ⟨e, he⟩ := sortedAll_at s.heap its out
 have es : ss' = sortS ss := sortS_uniq a2 (pw_of_sortedS _ a3)
 subst es
 have hl2 : (sortS ss).length = ss.length := a2.length_eq
 refine ⟨.ref _, _, I.laid (t' := s.toks) (o := .lst ((sortS ss).map V.str)) (fun b ob q => sortedAll_old q) (Nat.le_succ _) ?_, rfl, q _ (I.hok.fresh (Nat.le_succ _))⟩
 refine ⟨by rw [List.length_map, hl2]; exact Nat.le_trans (Nat.le_of_lt h64) (by decide), out.toList, e, strs_vals a1, ?_⟩
 rw [he]
theorem Dts.strs {K : PySem.W.Frag} {H : Hp} {O : Ex} : ∀ {ss : List Str} {vs : List V}, Dts K H O vs (ss.map PyData.str) → vs = ss.map V.str
 | [], _, r => by rw [List.map_nil] at r; cases r; rfl
 | b :: bs, _, r => by
  rw [List.map_cons] at r
  cases r with
  | cons h r => cases h; rw [List.map_cons, Dts.strs r]
theorem Dts.ofStrs {K : PySem.W.Frag} {H : Hp} {O : Ex} : ∀ (ss : List Str), Dts K H O (ss.map V.str) (ss.map PyData.str)
 | [] => .nil
 | s :: r => .cons (.str s) (Dts.ofStrs r)
def dSortS (t : DA) : DA := fun δ Q => t δ fun ds => ∃ ss : List Str, ds = [.list (ss.map .str)] ∧ ss.length < 64 ∧ Q ((sortS ss).map .str)
theorem fe_sortS {a : Expr} {t : DA} {np p : Pos} (hg : Gl X "sorted") (hm : X.mg "sorted" = none) (hv : bootBuiltins "sorted" = some (.builtin "sorted")) (ha : PA X [a] (upB X.K H0 O0 t)) (he : starEach [a] X.env = (false, eval a X.env) :: starEach [] X.env := by rfl) (hpl : (backTo p (starEach [] X.env)).any (·.1) = false := by rfl) : FE X H0 O0 (.Call (.Name "sorted" np) [a] [] p) (dSortS t) :=
 (pe_callB call_sortedS hg hm hv ha (he := he) (hpl := hpl)).imp fun σ H Q ⟨O, δ, Qd, w, q, k⟩ => ⟨O, δ, _, w, q, fun ds vs H1 ⟨ss, e, h64, q1⟩ s1 r1 => by
  subst e
  cases r1 with
  | cons h r =>
   cases r
   obtain ⟨a, us, rfl, h1, d1⟩ := h.lst
   cases d1.strs
   exact ⟨a, ss, rfl, h1, h64, fun l hl => k _ _ _ _ q1 s1 hl (Dts.ofStrs _)⟩⟩
end
end L2

namespace PySem.SeqAt
open AutoSeq1 (wpAny_loadPart')
open MeetsSeq
theorem dict_eq_declines_str (l : Addr) (es : Array DictEntry) (n : Nat) (dd : Option Addr) (sl : Array (Option Value)) (b : Str) (u : Tok) :
  Meets (Builtin.«dict.__eq__» ⟨[.ref l, .str b u], []⟩) (fun _ R s => s.heap.get? l = some { cls := .type "dict", dict := dd, data := .dict es n, slots := sl } ∧ R (.ok (.ret .notImplemented)) s) :=
 .of_wp fun prog w A R s h => by obtain ⟨hp, g, d, tk, os⟩ := s; obtain ⟨hl, h⟩ := h; have f1 := F.sub_str_dict; wp_walk using wpAny_loadPart' hl; exact ⟨_, rfl, h⟩
theorem str_eq_declines_dict (b : Str) (u : Tok) (l : Addr) (c : Value) (es : Array DictEntry) (n : Nat) (dd : Option Addr) (sl : Array (Option Value)) :
  Meets (Builtin.«str.__eq__» ⟨[.str b u, .ref l], []⟩) (fun _ R s => s.heap.get? l = some { cls := c, dict := dd, data := .dict es n, slots := sl } ∧ R (.ok (.ret .notImplemented)) s) :=
 .of_wp fun prog w A R s h => by obtain ⟨hp, g, d, tk, os⟩ := s; obtain ⟨hl, h⟩ := h; wp_walk using wpAny_loadPart' hl, wpAny_load hl; exact ⟨_, rfl, h⟩
section
variable {A : Around} {s : Shared}
theorem RcAt.dict_str {l : Addr} {es : Array DictEntry} {n : Nat} {o : Obj} (b : Str) (u : Tok) (ho : s.heap.get? l = some o) (hc : o.cls = .type "dict") (hd : o.data = .dict es n) (hu : A.units < cLine) : RcAt A s (.ref l) (.str b u) false := fun prog w E Q h => by
 obtain ⟨cls, dd, data, sl⟩ := o
 simp only at hc hd
 subst hc hd
 exact rc_eq_decline_or (k := false) ⟨_, ho, rfl⟩ (typeIs_str s b u) (by decide) F.sub_str_dict F.slot_dict_eq F.slot_str_eq_refl
  (fun _ hq => call_meets F.slot_dict_eq ⟨_, ho, rfl⟩ F.entry_dict_eq (F.args_dict_eq_2 _ _) (dict_eq_declines_str l es n dd sl b u) ⟨ho, hq⟩)
  (fun _ hq => call_meets F.slot_str_eq_refl (typeIs_str s b u) F.entry_str_eq (F.args_str_eq_2 _ _) (str_eq_declines_dict b u l (.type "dict") es n dd sl) ⟨ho, hq⟩)
  (fun _ hq => wpAny_of_eq (rfl : isSame (.ref l) (.str b u) = pure false) hq) (.inr hu) h
theorem RcAt.str_dict {l : Addr} {es : Array DictEntry} {n : Nat} {o : Obj} (b : Str) (u : Tok) (ho : s.heap.get? l = some o) (hc : o.cls = .type "dict") (hd : o.data = .dict es n) (hu : A.units < cLine) : RcAt A s (.str b u) (.ref l) false := fun prog w E Q h => by
 obtain ⟨cls, dd, data, sl⟩ := o
 simp only at hc hd
 subst hc hd
 exact rc_eq_decline_or (k := false) (typeIs_str s b u) ⟨_, ho, rfl⟩ (by decide) F.sub_dict_str F.slot_str_eq F.slot_dict_eq_refl
  (fun _ hq => call_meets F.slot_str_eq (typeIs_str s b u) F.entry_str_eq (F.args_str_eq_2 _ _) (str_eq_declines_dict b u l (.type "dict") es n dd sl) ⟨ho, hq⟩)
  (fun _ hq => call_meets F.slot_dict_eq_refl ⟨_, ho, rfl⟩ F.entry_dict_eq (F.args_dict_eq_2 _ _) (dict_eq_declines_str l es n dd sl b u) ⟨ho, hq⟩)
  (fun _ hq => wpAny_of_eq (rfl : isSame (.str b u) (.ref l) = pure false) hq) (.inr hu) h
theorem EqAt.str_dict {l : Addr} {es : Array DictEntry} {n : Nat} {o : Obj} (b : Str) (u : Tok) (ho : s.heap.get? l = some o) (hc : o.cls = .type "dict") (hd : o.data = .dict es n) (hu : A.units < cLine) : EqAt A s (.str b u) (.ref l) false := fun prog w E Q h => by
 unfold eqBool
 refine wpAny_holding ?_
 refine wpAny_ite_split (fun hab => absurd (eq_of_beq hab) nofun) (fun _ => ?_)
 exact wpAny_bind (RcAt.str_dict b u ho hc hd hu prog w E _ (wpAny_truthy_bool h))
end
end PySem.SeqAt
namespace L2
open PySem PySem.Spec PyProof.Rows PySem.W
section
variable {X : Cx} {pins : List (Addr × Obj)} {σ : St} {H : Hp} {s : Shared}
def isThing : PyData → Bool
 | .dict [(.none, _)] => false
 | _ => true
theorem thing_rc (I : Inv X pins σ H s) {O : Ex} {v : V} {d : PyData} {u : Value} (h : Dt X.K H O v d) (ht : isThing d = true) (r : RelV v u) (y : Str) (t : Tok) (hu : X.A.units < cLine) : SeqAt.RcAt X.A s u (.str y t) (PyData.eqv d (.str y)) := by
 cases h with
 | non => cases (show u = Value.none from r); simpa [PyData.eqv] using SeqAt.RcAt.none_str y t
 | bl b => cases (show u = Value.bool b from r); simpa [PyData.eqv] using SeqAt.RcAt.bool_str b y t
 | int i => obtain ⟨k, e⟩ := (show ∃ t, u = Value.int i t from r); cases e; simpa [PyData.eqv] using SeqAt.RcAt.int_str i k y t
 | str x => obtain ⟨k, e⟩ := (show ∃ t, u = Value.str x t from r); cases e; simpa [PyData.eqv] using SeqAt.RcAt.str_str x k y t
 | @tup a xs ds h n rr =>
  cases (show u = Value.ref a from r)
  obtain ⟨its, rv, p, _⟩ := I.tuple (.inl h)
  simpa [PyData.eqv] using SeqAt.RcAt.tuple_str y t (show s.heap.IsTuple a its.toArray from p) hu
 | @tupK a xs ds h rr =>
  cases (show u = Value.ref a from r)
  obtain ⟨its, rv, p, _⟩ := I.tuple h.of0
  simpa [PyData.eqv] using SeqAt.RcAt.tuple_str y t (show s.heap.IsTuple a its.toArray from p) hu
 | @lst a xs ds h n rr =>
  cases (show u = Value.ref a from r)
  obtain ⟨its, rv, p, _⟩ := I.list (.inl h)
  simpa [PyData.eqv] using SeqAt.RcAt.list_str y t p.isList hu
 | pack h n => exact absurd ht (by simp [isThing])
 | scr h r => exact absurd ht (by simp [isThing])
 | obj h e n r => exact absurd ht (by simp [isThing])
 | @dct0 a h n =>
  cases (show u = Value.ref a from r)
  obtain ⟨_, _, _, _, o, es, ep, e, c, dd, _⟩ := (show ObjOk X.prog X.w H s.heap a (.dK []) from I.hok a _ h)
  simpa [PyData.eqv] using SeqAt.RcAt.dict_str y t e c.1 dd hu
 | @dic a kv ks kp ds h e1 e2 n rr =>
  cases (show u = Value.ref a from r)
  obtain ⟨_, _, _, _, o, es, ep, e, c, dd, _⟩ := (show ObjOk X.prog X.w H s.heap a (.dK kv) from I.hok a _ h)
  simpa [PyData.eqv] using SeqAt.RcAt.dict_str y t e c.1 dd hu
theorem thing_eq (I : Inv X pins σ H s) {A : Around} {O : Ex} {v : V} {d : PyData} {u : Value} (h : Dt X.K H O v d) (ht : isThing d = true) (r : RelV v u) (y : Str) (t : Tok) (hu : A.units < cLine) : SeqAt.EqAt A s (.str y t) u (PyData.eqv (.str y) d) := by
 cases h with
 | non => cases (show u = Value.none from r); simpa [PyData.eqv] using SeqAt.EqAt.str_none y t
 | bl b => cases (show u = Value.bool b from r); simpa [PyData.eqv] using SeqAt.EqAt.str_bool y t b
 | int i => obtain ⟨k, e⟩ := (show ∃ t, u = Value.int i t from r); cases e; simpa [PyData.eqv] using SeqAt.EqAt.str_int y t i k
 | str x => obtain ⟨k, e⟩ := (show ∃ t, u = Value.str x t from r); cases e; simpa [PyData.eqv] using SeqAt.EqAt.str_str y t x k
 | @tup a xs ds h n rr =>
  cases (show u = Value.ref a from r)
  obtain ⟨its, rv, p, _⟩ := I.tuple (.inl h)
  simpa [PyData.eqv] using SeqAt.EqAt.str_tuple y t (show s.heap.IsTuple a its.toArray from p) hu
 | @tupK a xs ds h rr =>
  cases (show u = Value.ref a from r)
  obtain ⟨its, rv, p, _⟩ := I.tuple h.of0
  simpa [PyData.eqv] using SeqAt.EqAt.str_tuple y t (show s.heap.IsTuple a its.toArray from p) hu
 | @lst a xs ds h n rr =>
  cases (show u = Value.ref a from r)
  obtain ⟨its, rv, p, _⟩ := I.list (.inl h)
  simpa [PyData.eqv] using SeqAt.EqAt.str_list y t p.isList hu
 | pack h n => exact absurd ht (by simp [isThing])
 | scr h r => exact absurd ht (by simp [isThing])
 | obj h e n r => exact absurd ht (by simp [isThing])
 | @dct0 a h n =>
  cases (show u = Value.ref a from r)
  obtain ⟨_, _, _, _, o, es, ep, e, c, dd, _⟩ := (show ObjOk X.prog X.w H s.heap a (.dK []) from I.hok a _ h)
  simpa [PyData.eqv] using SeqAt.EqAt.str_dict y t e c.1 dd hu
 | @dic a kv ks kp ds h e1 e2 n rr =>
  cases (show u = Value.ref a from r)
  obtain ⟨_, _, _, _, o, es, ep, e, c, dd, _⟩ := (show ObjOk X.prog X.w H s.heap a (.dK kv) from I.hok a _ h)
  simpa [PyData.eqv] using SeqAt.EqAt.str_dict y t e c.1 dd hu
end
section
variable {X : Cx} {H0 : Hp} {O0 : Ex}
def rEqZ (K : PySem.W.Frag) : R2 := fun x y H Q => ∃ O dx z, Dt K H O x dx ∧ isThing dx = true ∧ y = .str z ∧ Q (.bl (PyData.eqv dx (.str z))) H
theorem op_eqZ {k : Nat} (hr : Room k X.A) : OpR X (compareOp .Eq) (rEqZ X.K) := by
 intro pins s σ H x y v u Q I rx ry h
 obtain ⟨O, dx, z, hx, ht, rfl, q⟩ := h
 obtain ⟨t, rfl⟩ := ry
 have hc : compareOp .Eq v (.str z t) = richCompare .Eq v (.str z t) := rfl
 rw [hc]
 exact thing_rc I hx ht rx z t hr.units0 X.prog X.w X.xe _ (fin_bl I q rfl)
def dEqZ : PyData → PyData → (PyData → Prop) → Prop := fun x y Q => ∃ z, y = .str z ∧ isThing x = true ∧ Q (.bool (PyData.eqv x (.str z)))
theorem od_eqZ {K : PySem.W.Frag} : OpD K (rEqZ K) dEqZ := fun H O x y dx dy Qd R _ hx hy ⟨z, e, ht, q⟩ k => by
 subst e; cases hy.str; exact ⟨_, dx, z, hx.all, ht, rfl, k _ _ H q (Same.refl _) (.bl _)⟩
theorem any_strs (dx : PyData) {its : List Value} {zs : List Str} (hS : StrsAre its zs) : its.any (fun y => PyData.eqv (.str (strOf y)) dx) = zs.any fun z => PyData.eqv (.str z) dx := by
 induction hS with
 | nil => rfl
 | cons y t r ih => rw [List.any_cons, List.any_cons, ih]; rfl
def rInZ (K : PySem.W.Frag) : R2 := fun x y H Q => ∃ (O : Ex) (dx : PyData) (zs : List Str) (a : Addr), Dt K H O x dx ∧ isThing dx = true ∧ y = .ref a ∧ SqT K H a (zs.map V.str) ∧ Q (.bl (zs.any fun z => PyData.eqv (.str z) dx)) H
theorem op_inZ {k : Nat} (hr : Room k X.A) : OpR X (compareOp .In) (rInZ X.K) := by
 intro pins s σ H x y v u Q I rx ry h
 obtain ⟨O, dx, zs, a, hx, ht, rfl, ha, q⟩ := h
 cases ry
 obtain ⟨its, rv, p, _⟩ := I.tuple ha
 have hS := vals_strs rv
 have hl := any_strs dx hS
 refine SeqAt.in_tupleAt (fun y => PyData.eqv (.str (strOf y)) dx) (show s.heap.IsTuple a its.toArray from p) (fun y hy => ?_) (by rw [List.any_toArray, hl]; exact fin_bl I q rfl)
 obtain ⟨z, t, rfl⟩ := hS.all y (by simpa using hy)
 exact thing_eq I hx ht rx z t (by show X.A.units + 1 < cLine; have := hr.un; omega)
def dInZ : PyData → PyData → (PyData → Prop) → Prop := fun x y Q => ∃ zs : List Str, y = .tuple (zs.map .str) ∧ isThing x = true ∧ Q (.bool (zs.any fun z => PyData.eqv (.str z) x))
theorem od_inZ {K : PySem.W.Frag} : OpD K (rInZ K) dInZ := fun H O x y dx dy Qd R _ hx hy ⟨zs, e, ht, q⟩ k => by
 subst e
 obtain ⟨a, vs, rfl, hs, r⟩ := hy.tup
 cases r.strs
 exact ⟨_, dx, zs, a, hx.all, ht, rfl, hs, k _ _ H q (Same.refl _) (.bl _)⟩
end
end L2
namespace L2
open PySem
theorem take_iff {z : Int} {Q : PyData → Prop} : F_take [packD, .int z] Q ↔ (0 < z ∧ z ≤ 1000000 ∧ ∀ i : Int, 0 ≤ i → i < z → Q (.int i)) := by
 constructor
 ·rintro ⟨z', e, a, b, c⟩
  simp only [List.cons.injEq, PyData.int.injEq, and_true, true_and] at e
  subst e; exact ⟨a, b, c⟩
 ·rintro ⟨a, b, c⟩; exact ⟨z, rfl, a, b, c⟩
end L2

namespace L2
open PySem PySem.Spec PyProof.Rows PySem.W
def isStrB : PyData → Bool | .str _ => true | _ => false
def isIntB : PyData → Bool | .int _ => true | .bool _ => true | _ => false
def isBoolB : PyData → Bool | .bool _ => true | _ => false
def isTupB : PyData → Bool | .tuple _ => true | _ => false
theorem kit_str {K : PySem.W.Frag} (d : PyData) : kitOne K (.type (tyD d)) (.type "str") = some (isStrB d) := by cases d <;> rfl
theorem kit_int {K : PySem.W.Frag} (d : PyData) : kitOne K (.type (tyD d)) (.type "int") = some (isIntB d) := by cases d <;> rfl
theorem kit_bool {K : PySem.W.Frag} (d : PyData) : kitOne K (.type (tyD d)) (.type "bool") = some (isBoolB d) := by cases d <;> rfl
theorem kit_tuple {K : PySem.W.Frag} (d : PyData) : kitOne K (.type (tyD d)) (.type "tuple") = some (isTupB d) := by cases d <;> rfl
theorem compI_map {g : DG} {te : DT} {δ0 : Dl} {xs : List PyData} {Q : List PyData → Prop} (f : PyData → PyData)
  (h : ∀ x ∈ xs, ∀ R : PyData → Prop, R (f x) → g x δ0 fun δ2 => te δ2 R) (q : Q (xs.map f)) : compI g dYes te δ0 xs Q := by
 refine ⟨fun i acc => acc = (xs.take i).map f, rfl, ?_, ?_⟩
 ·rintro i x acc hx rfl
  have := h x (List.mem_of_getElem? hx) (fun y => (xs.take i).map f ++ [y] = (xs.take (i + 1)).map f) (by rw [List.take_succ, hx]; simp)
  simpa [dYes] using this
 ·rintro acc rfl
  rw [List.take_of_length_le (Nat.le_refl _)]; exact q
theorem compI_bools {g : DG} {te : DT} {δ0 : Dl} {xs : List PyData} {p : Bool → Prop} {gg : List Bool → Bool} (f : PyData → Bool)
  (h : ∀ x ∈ xs, ∀ R : PyData → Prop, R (.bool (f x)) → g x δ0 fun δ2 => te δ2 R) (q : p (gg (xs.map f))) : compI g dYes te δ0 xs fun ds => ∃ bs : List Bool, ds = bs.map PyData.bool ∧ p (gg bs) :=
 compI_map (fun x => .bool (f x)) h ⟨xs.map f, by rw [List.map_map]; rfl, q⟩
theorem strsE1 {a : Str} {P : List Str → Prop} : (∃ zs, [PyData.str a] = List.map PyData.str zs ∧ P zs) ↔ P [a] := by
 refine ⟨fun ⟨zs, e, h⟩ => ?_, fun h => ⟨_, rfl, h⟩⟩
 match zs, e with
 | [x], e => simp at e; rw [e]; exact h
theorem strsE2 {a b : Str} {P : List Str → Prop} : (∃ zs, [PyData.str a, PyData.str b] = List.map PyData.str zs ∧ P zs) ↔ P [a, b] := by
 refine ⟨fun ⟨zs, e, h⟩ => ?_, fun h => ⟨_, rfl, h⟩⟩
 match zs, e with
 | [x, y], e => simp at e; rw [e.1, e.2]; exact h
theorem strsE3 {a b c : Str} {P : List Str → Prop} : (∃ zs, [PyData.str a, PyData.str b, PyData.str c] = List.map PyData.str zs ∧ P zs) ↔ P [a, b, c] := by
 refine ⟨fun ⟨zs, e, h⟩ => ?_, fun h => ⟨_, rfl, h⟩⟩
 match zs, e with
 | [x, y, z], e => simp at e; rw [e.1, e.2.1, e.2.2]; exact h
theorem thing_str {x : Str} : isThing (.str x) = true := rfl
theorem thing_int {x : Int} : isThing (.int x) = true := rfl
theorem thing_bool {x : Bool} : isThing (.bool x) = true := rfl
theorem thing_tup {x : List PyData} : isThing (.tuple x) = true := rfl
theorem thing_list {x : List PyData} : isThing (.list x) = true := rfl
end L2

namespace L2
open PySem PySem.Spec PyProof.Rows PySem.W
def units : List Str := ["days", "months", "years"]
theorem lay_nil {n : Nat} : ∀ d ∈ ([] : List PyData), Lay n d := fun d hd => by simp at hd
theorem lay_cons {n : Nat} {d : PyData} {r : List PyData} (h : Lay n d) (hr : ∀ e ∈ r, Lay n e) : ∀ e ∈ d :: r, Lay n e := fun e he => by
 rcases List.mem_cons.mp he with z | z
 ·rw [z]; exact h
 ·exact hr e z
theorem lay_strs {n : Nat} {ms : List Str} (h : ∀ m ∈ ms, PyData.strOk m = true) (hn : 1 ≤ n := by decide) : ∀ d ∈ ms.map PyData.str, Lay n d := fun d hd => by
 obtain ⟨m, hm, rfl⟩ := List.mem_map.mp hd
 exact (lay_str (h m hm)).mono hn
theorem cD_1n {a : PyData} {l : List PyData} : cutD (a :: l) (some 1) none = l := by
 rw [cutD_drop (by decide) (by simp only [List.length_cons]; omega)]; rfl
theorem cD_2n {a b : PyData} {l : List PyData} : cutD (a :: b :: l) (some 2) none = l := by
 rw [cutD_drop (by decide) (by simp only [List.length_cons]; omega)]; rfl
theorem cD_3n {a b c : PyData} {l : List PyData} : cutD (a :: b :: c :: l) (some 3) none = l := by
 rw [cutD_drop (by decide) (by simp only [List.length_cons]; omega)]; rfl
theorem cD_4n {a b c d : PyData} {l : List PyData} : cutD (a :: b :: c :: d :: l) (some 4) none = l := by
 rw [cutD_drop (by decide) (by simp only [List.length_cons]; omega)]; rfl
theorem cD_n1 {a : PyData} {l : List PyData} : cutD (a :: l) none (some 1) = [a] := by
 rw [cutD_take (by decide) (by simp only [List.length_cons]; omega)]; rfl
theorem cD_n2 {a b : PyData} {l : List PyData} : cutD (a :: b :: l) none (some 2) = [a, b] := by
 rw [cutD_take (by decide) (by simp only [List.length_cons]; omega)]; rfl
theorem cD_n3 {a b c : PyData} {l : List PyData} : cutD (a :: b :: c :: l) none (some 3) = [a, b, c] := by
 rw [cutD_take (by decide) (by simp only [List.length_cons]; omega)]; rfl
theorem cD_n4 {a b c d : PyData} {l : List PyData} : cutD (a :: b :: c :: d :: l) none (some 4) = [a, b, c, d] := by
 rw [cutD_take (by decide) (by simp only [List.length_cons]; omega)]; rfl
theorem cD_13 {a b c : PyData} {l : List PyData} : cutD (a :: b :: c :: l) (some 1) (some 3) = [b, c] := by
 unfold cutD
 rw [sIx_in (by decide) (by simp only [List.length_cons]; omega), sIx_in (by decide) (by simp only [List.length_cons]; omega)]
 rfl
end L2

namespace PySem
open Builtin
open AutoSeq1 (wpAny_loadPart')
end PySem
namespace L2
open PySem PySem.Spec PyProof.Rows PySem.W
section
variable {X : Cx} {H0 : Hp} {O0 : Ex}
def dNeg (t : DT) : DT := fun δ Q => t δ fun d => ∃ i, d = .int i ∧ Q (.int (-i))
theorem de_neg {e : Expr} {t : DT} {pos : Pos} (h : DE X H0 O0 e t) : DE X H0 O0 (.UnaryOp .USub e pos) (dNeg t) :=
 (pe_un un_neg h).imp fun σ H Q ⟨O, δ, Qd, w, q, k⟩ => ⟨O, δ, _, w, q, fun d v H1 ⟨i, e, q1⟩ s1 r1 => by subst e; cases r1; exact ⟨i, rfl, k _ _ H1 q1 s1 (.int _)⟩⟩
end
theorem adjust_rev (n : Nat) : Builtin.Slice.sliceAdjust none none (-1) (n : Int) = ((n : Int) - 1, -1) := by
 unfold Builtin.Slice.sliceAdjust; rfl
theorem places_rev (n : Nat) : Builtin.Slice.slicePlaces ((n : Int) - 1) (-1) (-1) = n := by
 unfold Builtin.Slice.slicePlaces
 rw [if_neg (by decide)]
 split
 ·rw [show (- -1 : Int) = 1 by decide, Int.ediv_one]; omega
 ·omega
theorem pick_rev (xs : Array Value) : ((List.range xs.size).filterMap fun (m : Nat) => xs[((xs.size : Int) - 1 + (m : Int) * (-1)).toNat]?).toArray = xs.toList.reverse.toArray := by
 have e : (List.range xs.size).filterMap (fun (m : Nat) => xs[((xs.size : Int) - 1 + (m : Int) * (-1)).toNat]?) = ((List.range xs.size).map fun k => xs.size - 1 - k).filterMap (xs[·]?) := by
  have e2 : ((List.range xs.size).map fun k => xs.size - 1 - k) = (List.range xs.size).map fun (m : Nat) => ((xs.size : Int) - 1 + (m : Int) * (-1)).toNat :=
   List.map_congr_left fun m hm => by have := List.mem_range.mp hm; omega
  rw [e2, List.filterMap_map]; rfl
 have k := krv_pick xs
 unfold slicePick at k
 rw [krv_bounds] at k
 have k2 : ((sliceRange ((xs.size : Int) - 1) (-1) (-1)).filterMap (xs[·]?)).toArray = xs.toList.reverse.toArray := k
 rw [krv_sliceRange] at k2
 rw [e]; exact k2
theorem sliceApplied_rev {prog : Program} {w : World} {A : Around} {E : Value → Shared → Prop} {s : Shared} {sl : Addr} {tk : Tok} {n : Nat} {Q : Int × Int × Nat → Shared → Prop} (hs : s.heap.IsSliceOf sl .none .none (.int (-1) tk))
  (h : Q ((n : Int) - 1, -1, n) s) : wpAny (model prog w) A (Builtin.Slice.sliceApplied (.ref sl) (pure (n : Int))) Q E s := by
 obtain ⟨os, hos, hcs, hds⟩ := id hs
 unfold Builtin.Slice.sliceApplied Builtin.Slice.sliceFields
 refine wpAny_bind (wpAny_bind (wpAny_field hos hds (x := .none) rfl (wpAny_bind (wpAny_field hos hds (x := .none) rfl (wpAny_bind (wpAny_field hos hds (x := .int (-1) tk) rfl (wpAny_pure ?_)))))))
 refine wpAny_bind (slicePart_int ?_)
 show wpAny _ _ (if ((-1 : Int) == 0) = true then _ else _) _ _ s
 rw [if_neg (by decide)]
 refine wpAny_bind (slicePart_none (wpAny_bind (slicePart_none (wpAny_bind (wpAny_pure ?_)))))
 show wpAny _ _ (match Builtin.Slice.sliceAdjust none none (-1) (n : Int) with | (lo, hi) => pure (lo, (-1 : Int), Builtin.Slice.slicePlaces lo hi (-1))) _ _ s
 rw [adjust_rev]
 show wpAny _ _ (pure ((n : Int) - 1, (-1 : Int), Builtin.Slice.slicePlaces ((n : Int) - 1) (-1) (-1))) _ _ s
 rw [places_rev]
 exact wpAny_pure h
theorem getItem_tuple_rev {prog : Program} {w : World} {A : Around} {E : Value → Shared → Prop} {s : Shared} {t sl : Addr} {items : Array Value} {tk : Tok} {Q : Value → Shared → Prop} (ht : IsTup s.heap t items) (hs : s.heap.IsSliceOf sl .none .none (.int (-1) tk)) (hz : items.size ≤ sizeLine)
  (h : Q (.ref s.heap.objs.size) { s with heap := s.heap.push { cls := .type "tuple", data := .seq items.toList.reverse.toArray } }) : wpAny (model prog w) A (getItem (.ref t) (.ref sl)) Q E s := by
 have htake : sizeOk (.seq items.toList.reverse.toArray) := by
  show items.toList.reverse.toArray.size ≤ sizeLine
  rw [List.size_toArray, List.length_reverse, Array.length_toList]; exact hz
 obtain ⟨os, hos, hcs, hds⟩ := id hs
 have hTs : s.TypeIs (.ref sl) "slice" := ⟨os, hos, hcs⟩
 unfold getItem
 try with_reducible refine wpAny_holding ?_
 first | refine wpAny_bind (wpAny_pure ?_) | skip
 refine wpAny_bind (wpAny_sequenceKey ht.typeIs (by decide) ?_)
 refine wpAny_bind (wpAny_callSpecial?_slot (name := Str.ofString "__getitem__") ht.typeIs PyProof.Rows.slot_tuple_getitem
  (wpAny_call_entry PyProof.Rows.slot_tuple_getitem ht.typeIs PyProof.Rows.entry_tuple_getitem ?_ (PyProof.Rows.args_tuple_getitem _ _)))
 show wpAny _ _ (Builtin.Tuple.tupleItemsOf (.ref t) >>= _) _ _ s
 refine wpAny_bind (tupleItemsOf_ ht ?_)
 refine wpAny_bind (wpAny_typeOf hTs ?_)
 rw [if_pos (by decide)]
 refine wpAny_bind (sliceApplied_rev hs ?_)
 show wpAny _ _ (if (((items.size : Int) - 1) == 0 && (-1 : Int) == 1 && items.size == items.size) = true then _ else _) _ _ s
 rw [if_neg (by simp), pick_rev]
 first
  | exact wpAny_bind (m := Builtin.Tuple.tupleExact _) (wpAny_newObj_type (wpAny_pure ⟨_, rfl, wpAny_pure h⟩) htake)
  | exact wpAny_bind (m := Builtin.Tuple.tupleExact _) (wpAny_newObj_type (wpAny_bind (wpAny_pure (wpAny_pure ⟨_, rfl, wpAny_pure h⟩))) htake)
  | exact wpAny_bind (wpAny_bind (m := Builtin.Tuple.tupleExact _) (wpAny_newObj_type (wpAny_pure (wpAny_pure ⟨_, rfl, wpAny_pure h⟩)) htake))
  | exact wpAny_bind (wpAny_bind (m := Builtin.Tuple.tupleExact _) (wpAny_newObj_type (wpAny_pure ⟨_, rfl, wpAny_pure h⟩) htake))
section
variable {X : Cx} {H0 : Hp} {O0 : Ex}
theorem pe_revT {e : Expr} {te : TE} {pos p2 up cp : Pos} {j} (he : PE X e te) : PE X (.Subscript e (.Slice none none (some (.UnaryOp .USub (.Constant (.int 1) j cp) up)) p2) pos) (fun σ H Q => te σ H fun x H1 => ∃ a xs, x = .ref a ∧ SqT X.K H1 a xs ∧ ∀ p, H1 p = none → Q (.ref p) (upd H1 p (.tup xs.reverse))) := by
 intro pins s σ H Q I h
 refine Subscript_ (thn (he pins s σ H _ I h) fun v s1 ⟨x, H1, I1, r1, q1⟩ => ?_)
 obtain ⟨a, xs, rfl, hq, q⟩ := q1
 cases r1
 refine wpAny_Slice ?_
 rw [evalPart_none]
 refine wpAny_pure (wpAny_pure ?_)
 rw [evalPart_some]
 refine thn (pe_un un_neg pe_int pins s1 σ H1 (fun x H2 => x = .int (-1) ∧ H2 = H1) I1 ⟨1, rfl, rfl, rfl⟩) fun vk s3 ⟨x3, H3, I3, r3, e3, e4⟩ => ?_
 subst e3 e4
 obtain ⟨tk, rfl⟩ := r3
 have I4 : Inv X pins σ H3 { s3 with heap := s3.heap.push { cls := .type "slice", data := .fields #[.none, .none, .int (-1) tk] } } := I3.kept (t' := s3.toks) fun b ob q => Heap.get?_push_of_some _ q
 show wpAny (model X.prog X.w) X.A (subscriptTail e (.Slice none none (some (.UnaryOp .USub (.Constant (.int 1) j cp) up)) p2) (.ref a) (.ref s3.heap.objs.size)) (EP X pins σ Q) X.xe { s3 with heap := s3.heap.push { cls := .type "slice", data := .fields #[.none, .none, .int (-1) tk] } }
 obtain ⟨its, r, ht, hz⟩ := I4.tuple hq
 have hlen := r.length
 refine tail_any (ops := [.ref a, .ref s3.heap.objs.size]) ht.typeIs PyProof.Rows.slot_tuple_getitem.lookup ?_ (by with_unfolding_all rfl)
 refine getItem_tuple_rev ht (Heap.IsSliceOf.new ..) (by rw [List.size_toArray]; omega) ?_
 refine ⟨.ref _, _, I4.laid (t' := s3.toks) (o := .tup xs.reverse) (fun b ob q => Heap.get?_push_of_some _ q) (Nat.le_refl _) ?_, rfl, q _ (I4.hok.fresh (Nat.le_refl _))⟩
 exact ⟨by rw [List.length_reverse]; exact hz, _, (show Vals xs.reverse its.reverse from vals_rev r), IsTup.new _ _⟩
def dRevT (t : DT) : DT := fun δ Q => t δ fun d => ∃ xs, d = .tuple xs ∧ Q (.tuple xs.reverse)
theorem de_revT {e : Expr} {t : DT} {pos p2 up cp : Pos} {j} (h : DF X H0 O0 e t) : DE X H0 O0 (.Subscript e (.Slice none none (some (.UnaryOp .USub (.Constant (.int 1) j cp) up)) p2) pos) (dRevT t) :=
 (pe_revT h).imp fun σ H Q ⟨O, δ, Qd, w, q, k⟩ => ⟨O, δ, _, w, q, fun d v H1 ⟨xs, e, q1⟩ s1 r1 => by
  subst e
  obtain ⟨a, us, rfl, h1, d1⟩ := r1.tup
  exact ⟨a, us, rfl, h1, fun p hp => k _ _ _ q1 (s1.trans (Same.new hp)) (.tup (.inl upd_same) (nex w s1 hp) (d1.reverse.mono (Same.new hp)))⟩⟩
end
theorem cD_nm1 {xs : List PyData} : cutD xs none (some (-1)) = xs.dropLast := by
 unfold cutD
 rw [sIx_none]
 have e : HT.sIx xs.length xs.length (some (-1)) = xs.length - 1 := by
  simp only [HT.sIx]
  rw [if_pos (by decide)]; omega
 rw [e, List.drop_zero, Nat.sub_zero, List.dropLast_eq_take]
section
variable {x : Option Expr} {n : Nat} {env : Env}
theorem swaps_List {a b} : swapsWith (.List a b) x n env = pure false := rfl
theorem swaps_BinOp {a b c d} : swapsWith (.BinOp a b c d) x n env = pure false := rfl
theorem swaps_Call {a b c d} : swapsWith (.Call a b c d) x n env = pure false := rfl
theorem swaps_Subscript {a b c} : swapsWith (.Subscript a b c) x n env = pure false := rfl
theorem swaps_BoolOp {a b c} : swapsWith (.BoolOp a b c) x n env = pure false := rfl
end
end L2

namespace L2
open PySem PySem.Spec PyProof.Rows PySem.W
section
variable {X : Cx} {H0 : Hp} {O0 : Ex}
end
section
variable {P : Program} {w : World} {K : PySem.W.Frag} {mg : Str → Option Value} {base : Heap}
end
section
variable {X : Cx} {H0 : Hp} {O0 : Ex}
end
theorem wq_paper_happens : (Str.ofString "paper" == Str.ofString "happens") = false := by decide +kernel
theorem wq_paper_rule : (Str.ofString "paper" == Str.ofString "rule") = false := by decide +kernel
theorem wq_paper_end : (Str.ofString "paper" == Str.ofString "end") = false := by decide +kernel
theorem wq_paper_hold : (Str.ofString "paper" == Str.ofString "hold") = false := by decide +kernel
theorem wq_paper_lift : (Str.ofString "paper" == Str.ofString "lift") = false := by decide +kernel
theorem wq_paper_leave : (Str.ofString "paper" == Str.ofString "leave") = false := by decide +kernel
theorem wq_happens_paper : (Str.ofString "happens" == Str.ofString "paper") = false := by decide +kernel
theorem wq_happens_rule : (Str.ofString "happens" == Str.ofString "rule") = false := by decide +kernel
theorem wq_happens_end : (Str.ofString "happens" == Str.ofString "end") = false := by decide +kernel
theorem wq_happens_hold : (Str.ofString "happens" == Str.ofString "hold") = false := by decide +kernel
theorem wq_happens_lift : (Str.ofString "happens" == Str.ofString "lift") = false := by decide +kernel
theorem wq_happens_leave : (Str.ofString "happens" == Str.ofString "leave") = false := by decide +kernel
theorem wq_rule_paper : (Str.ofString "rule" == Str.ofString "paper") = false := by decide +kernel
theorem wq_rule_happens : (Str.ofString "rule" == Str.ofString "happens") = false := by decide +kernel
theorem wq_rule_end : (Str.ofString "rule" == Str.ofString "end") = false := by decide +kernel
theorem wq_rule_hold : (Str.ofString "rule" == Str.ofString "hold") = false := by decide +kernel
theorem wq_rule_lift : (Str.ofString "rule" == Str.ofString "lift") = false := by decide +kernel
theorem wq_rule_leave : (Str.ofString "rule" == Str.ofString "leave") = false := by decide +kernel
theorem wq_end_paper : (Str.ofString "end" == Str.ofString "paper") = false := by decide +kernel
theorem wq_end_happens : (Str.ofString "end" == Str.ofString "happens") = false := by decide +kernel
theorem wq_end_rule : (Str.ofString "end" == Str.ofString "rule") = false := by decide +kernel
theorem wq_end_hold : (Str.ofString "end" == Str.ofString "hold") = false := by decide +kernel
theorem wq_end_lift : (Str.ofString "end" == Str.ofString "lift") = false := by decide +kernel
theorem wq_end_leave : (Str.ofString "end" == Str.ofString "leave") = false := by decide +kernel
theorem wq_hold_paper : (Str.ofString "hold" == Str.ofString "paper") = false := by decide +kernel
theorem wq_hold_happens : (Str.ofString "hold" == Str.ofString "happens") = false := by decide +kernel
theorem wq_hold_rule : (Str.ofString "hold" == Str.ofString "rule") = false := by decide +kernel
theorem wq_hold_end : (Str.ofString "hold" == Str.ofString "end") = false := by decide +kernel
theorem wq_hold_lift : (Str.ofString "hold" == Str.ofString "lift") = false := by decide +kernel
theorem wq_hold_leave : (Str.ofString "hold" == Str.ofString "leave") = false := by decide +kernel
theorem wq_lift_paper : (Str.ofString "lift" == Str.ofString "paper") = false := by decide +kernel
theorem wq_lift_happens : (Str.ofString "lift" == Str.ofString "happens") = false := by decide +kernel
theorem wq_lift_rule : (Str.ofString "lift" == Str.ofString "rule") = false := by decide +kernel
theorem wq_lift_end : (Str.ofString "lift" == Str.ofString "end") = false := by decide +kernel
theorem wq_lift_hold : (Str.ofString "lift" == Str.ofString "hold") = false := by decide +kernel
theorem wq_lift_leave : (Str.ofString "lift" == Str.ofString "leave") = false := by decide +kernel
theorem wq_leave_paper : (Str.ofString "leave" == Str.ofString "paper") = false := by decide +kernel
theorem wq_leave_happens : (Str.ofString "leave" == Str.ofString "happens") = false := by decide +kernel
theorem wq_leave_rule : (Str.ofString "leave" == Str.ofString "rule") = false := by decide +kernel
theorem wq_leave_end : (Str.ofString "leave" == Str.ofString "end") = false := by decide +kernel
theorem wq_leave_hold : (Str.ofString "leave" == Str.ofString "hold") = false := by decide +kernel
theorem wq_leave_lift : (Str.ofString "leave" == Str.ofString "lift") = false := by decide +kernel
end L2

namespace L2
open PySem PySem.Spec PyProof.Rows PySem.W
section
variable {X : Cx} {H0 : Hp} {O0 : Ex}
end
section
variable {X : Cx} {H0 : Hp} {O0 : Ex}
end
end L2

namespace L2
open PySem PySem.Spec PyProof.Rows PySem.W
section
variable {X : Cx} {H0 : Hp} {O0 : Ex}
def dNever : DS := fun _ _ => False
theorem ds_never {st : Stmt} : PS X st (upD X.K H0 O0 dNever) := ps_never.imp fun D σ H ⟨O, δ, E, w, q, _⟩ => q.elim
end
end L2

namespace L2
open PySem PySem.Spec PyProof.Rows PySem.W
section
variable {α : Type} {P : α → Prop}
theorem lz_v0 {a : PyData} {r : Dl} {P : PyData → Prop} : (∃ d, (some (Sl.v a) :: r)[0]? = some (some (Sl.v d)) ∧ P d) = P a := by simp
theorem lz_vS {x : Option Sl} {r : Dl} {i : Nat} {P : PyData → Prop} : (∃ d, (x :: r)[i + 1]? = some (some (Sl.v d)) ∧ P d) = (∃ d, r[i]? = some (some (Sl.v d)) ∧ P d) := by simp
theorem lz_vE {a : PyData} {l : Dl} {i : Nat} {P : PyData → Prop} : (∃ d, (l.set i (some (Sl.v a)))[i]? = some (some (Sl.v d)) ∧ P d) = (i < l.length ∧ P a) := by
 apply propext
 rw [List.getElem?_set_self']
 constructor
 ·rintro ⟨d, e, p⟩
  by_cases h : i < l.length
  ·rw [List.getElem?_eq_getElem h] at e; cases e; exact ⟨h, p⟩
  ·rw [List.getElem?_eq_none (by omega)] at e; cases e
 ·rintro ⟨h, p⟩
  exact ⟨a, by rw [List.getElem?_eq_getElem h]; rfl, p⟩
theorem lz_vN {x : Option Sl} {l : Dl} {i j : Nat} {P : PyData → Prop} (h : i ≠ j) : (∃ d, (l.set i x)[j]? = some (some (Sl.v d)) ∧ P d) = (∃ d, l[j]? = some (some (Sl.v d)) ∧ P d) := by rw [List.getElem?_set_ne h]
theorem lz_o0 {a : List PyData} {r : Dl} {P : List PyData → Prop} : (∃ d, (some (Sl.o a) :: r)[0]? = some (some (Sl.o d)) ∧ P d) = P a := by simp
theorem lz_oS {x : Option Sl} {r : Dl} {i : Nat} {P : List PyData → Prop} : (∃ d, (x :: r)[i + 1]? = some (some (Sl.o d)) ∧ P d) = (∃ d, r[i]? = some (some (Sl.o d)) ∧ P d) := by simp
theorem lz_oE {a : List PyData} {l : Dl} {i : Nat} {P : List PyData → Prop} : (∃ d, (l.set i (some (Sl.o a)))[i]? = some (some (Sl.o d)) ∧ P d) = (i < l.length ∧ P a) := by
 apply propext
 rw [List.getElem?_set_self']
 constructor
 ·rintro ⟨d, e, p⟩
  by_cases h : i < l.length
  ·rw [List.getElem?_eq_getElem h] at e; cases e; exact ⟨h, p⟩
  ·rw [List.getElem?_eq_none (by omega)] at e; cases e
 ·rintro ⟨h, p⟩
  exact ⟨a, by rw [List.getElem?_eq_getElem h]; rfl, p⟩
theorem lz_oN {x : Option Sl} {l : Dl} {i j : Nat} {P : List PyData → Prop} (h : i ≠ j) : (∃ d, (l.set i x)[j]? = some (some (Sl.o d)) ∧ P d) = (∃ d, l[j]? = some (some (Sl.o d)) ∧ P d) := by rw [List.getElem?_set_ne h]
theorem lz_b {a : Bool} {P : Bool → Prop} : (∃ b, PyData.bool a = .bool b ∧ P b) = P a := by simp
theorem lz_i {a : Int} {P : Int → Prop} : (∃ b, PyData.int a = .int b ∧ P b) = P a := by simp
theorem lz_s {a : Str} {P : Str → Prop} : (∃ b, PyData.str a = .str b ∧ P b) = P a := by simp
theorem lz_t {a : List PyData} {P : List PyData → Prop} : (∃ b, PyData.tuple a = .tuple b ∧ P b) = P a := by simp
theorem lz_l {a : List PyData} {P : List PyData → Prop} : (∃ b, PyData.list a = .list b ∧ P b) = P a := by simp
theorem lz_ii {a b : Int} {P : Int → Int → Prop} : (∃ i j, PyData.int a = .int i ∧ PyData.int b = .int j ∧ P i j) = P a b := by simp
theorem lz_ss {a b : Str} {P : Str → Str → Prop} : (∃ i j, PyData.str a = .str i ∧ PyData.str b = .str j ∧ P i j) = P a b := by simp
theorem lz_tt {a b : List PyData} {P : List PyData → List PyData → Prop} : (∃ i j, PyData.tuple a = .tuple i ∧ PyData.tuple b = .tuple j ∧ P i j) = P a b := by simp
theorem lz_ll {a b : List PyData} {P : List PyData → List PyData → Prop} : (∃ i j, PyData.list a = .list i ∧ PyData.list b = .list j ∧ P i j) = P a b := by simp
theorem lz_cons {a : PyData} {r : List PyData} {P : PyData → List PyData → Prop} : (∃ x y, a :: r = x :: y ∧ P x y) = P a r := propext ⟨fun ⟨_, _, e, p⟩ => by cases e; exact p, fun p => ⟨_, _, rfl, p⟩⟩
theorem lz_two {a b : PyData} {P : PyData → PyData → Prop} : (∃ x y, [a, b] = [x, y] ∧ P x y) = P a b := propext ⟨fun ⟨_, _, e, p⟩ => by cases e; exact p, fun p => ⟨_, _, rfl, p⟩⟩
theorem lz_tt0 {a : PyData} {r : List PyData} {P : PyData → Prop} : (∃ ds i d, PyData.tuple (a :: r) = .tuple ds ∧ PyData.int 0 = .int i ∧ atI ds i = some d ∧ P d) = P a := by simp [atI_c0]
theorem lz_tt1 {a b : PyData} {r : List PyData} {P : PyData → Prop} : (∃ ds i d, PyData.tuple (a :: b :: r) = .tuple ds ∧ PyData.int 1 = .int i ∧ atI ds i = some d ∧ P d) = P b := by simp [atI_c1]
theorem lz_tt2 {a b c : PyData} {r : List PyData} {P : PyData → Prop} : (∃ ds i d, PyData.tuple (a :: b :: c :: r) = .tuple ds ∧ PyData.int 2 = .int i ∧ atI ds i = some d ∧ P d) = P c := by simp [atI_c2]
theorem lz_tt3 {a b c e : PyData} {r : List PyData} {P : PyData → Prop} : (∃ ds i d, PyData.tuple (a :: b :: c :: e :: r) = .tuple ds ∧ PyData.int 3 = .int i ∧ atI ds i = some d ∧ P d) = P e := by simp [atI_c3]
theorem lz_ll0 {a : PyData} {r : List PyData} {P : PyData → Prop} : (∃ ds i d, PyData.list (a :: r) = .list ds ∧ PyData.int 0 = .int i ∧ atI ds i = some d ∧ P d) = P a := by simp [atI_c0]
theorem lz_ll1 {a b : PyData} {r : List PyData} {P : PyData → Prop} : (∃ ds i d, PyData.list (a :: b :: r) = .list ds ∧ PyData.int 1 = .int i ∧ atI ds i = some d ∧ P d) = P b := by simp [atI_c1]
theorem lz_ll2 {a b c : PyData} {r : List PyData} {P : PyData → Prop} : (∃ ds i d, PyData.list (a :: b :: c :: r) = .list ds ∧ PyData.int 2 = .int i ∧ atI ds i = some d ∧ P d) = P c := by simp [atI_c2]
theorem lz_tix {xs : List PyData} {k : Int} {P : PyData → Prop} : (∃ ds i d, PyData.tuple xs = .tuple ds ∧ PyData.int k = .int i ∧ atI ds i = some d ∧ P d) = (∃ d, atI xs k = some d ∧ P d) := by simp
theorem lz_lix {xs : List PyData} {k : Int} {P : PyData → Prop} : (∃ ds i d, PyData.list xs = .list ds ∧ PyData.int k = .int i ∧ atI ds i = some d ∧ P d) = (∃ d, atI xs k = some d ∧ P d) := by simp
end
end L2
namespace L2
open PySem PySem.Spec PyProof.Rows PySem.W
theorem lz_w {w v : Str} {r : List PyData} {l : Dl} {Q : Bool → Prop} : dTest (dOp dEqZ (dOp dIxT (dVar 0) (dC (.int 0))) (dC (.str v))) (some (.v (.tuple (.str w :: r))) :: l) Q = Q (w == v) := by
 simp [dTest, dOp, dEqZ, dIxT, dVar, dC, atI_c0, isThing, eqv_str]
theorem lz_wN {v : Str} {x : Option Sl} {l : Dl} {k : Nat} {Q : Bool → Prop} : dTest (dOp dEqZ (dOp dIxT (dVar 0) (dC (.int 0))) (dC (.str v))) (l.set (k + 1) x) Q = dTest (dOp dEqZ (dOp dIxT (dVar 0) (dC (.int 0))) (dC (.str v))) l Q := by
 simp only [dTest, dOp, dVar, dC, List.getElem?_set_ne (show k + 1 ≠ 0 by omega)]
end L2

namespace L2
open PySem PySem.Spec PyProof.Rows PySem.W
def keyD : Key → PyData
 | .inl i => .int i
 | .inr x => .str x
section
variable {K : PySem.W.Frag} {H : Hp} {O : Ex}
end
section
variable {X : Cx} {H0 : Hp} {O0 : Ex}
abbrev DKy := Dl → (List (Key × PyData) → Prop) → Prop
def upK (K : PySem.W.Frag) (H0 : Hp) (O0 : Ex) (t : DKy) : TE := fun σ H R => ∃ O δ Qd, Wd K H0 O0 H O σ δ ∧ t δ Qd ∧ ∀ kd kv p H', Qd kd → Same H H' → H' p = none → KDt K H' O kv kd → R (.ref p) (upd H' p (.dK kv))
abbrev KE (X : Cx) (H0 : Hp) (O0 : Ex) (e : Expr) (t : DKy) : Prop := PE X e (upK X.K H0 O0 t)
end
end L2

namespace L2
open PySem PySem.Spec PyProof.Rows PySem.W PySem.Calls
section
variable {X : Cx} {H0 : Hp} {O0 : Ex}
end
section
theorem lz_k0 {a : List (Key × PyData)} {r : Dl} {P : List (Key × PyData) → Prop} : (∃ d, (some (Sl.k a) :: r)[0]? = some (some (Sl.k d)) ∧ P d) = P a := by simp
theorem lz_kS {x : Option Sl} {r : Dl} {i : Nat} {P : List (Key × PyData) → Prop} : (∃ d, (x :: r)[i + 1]? = some (some (Sl.k d)) ∧ P d) = (∃ d, r[i]? = some (some (Sl.k d)) ∧ P d) := by simp
theorem lz_kE {a : List (Key × PyData)} {l : Dl} {i : Nat} {P : List (Key × PyData) → Prop} : (∃ d, (l.set i (some (Sl.k a)))[i]? = some (some (Sl.k d)) ∧ P d) = (i < l.length ∧ P a) := by
 apply propext
 rw [List.getElem?_set_self']
 constructor
 ·rintro ⟨d, e, p⟩
  by_cases h : i < l.length
  ·rw [List.getElem?_eq_getElem h] at e; cases e; exact ⟨h, p⟩
  ·rw [List.getElem?_eq_none (by omega)] at e; cases e
 ·rintro ⟨h, p⟩
  exact ⟨a, by rw [List.getElem?_eq_getElem h]; rfl, p⟩
theorem lz_kN {x : Option Sl} {l : Dl} {i j : Nat} {P : List (Key × PyData) → Prop} (h : i ≠ j) : (∃ d, (l.set i x)[j]? = some (some (Sl.k d)) ∧ P d) = (∃ d, l[j]? = some (some (Sl.k d)) ∧ P d) := by rw [List.getElem?_set_ne h]
theorem lz_ks {x : Str} {P : Key → Prop} : (∃ k, PyData.str x = keyD k ∧ P k) = P (.inr x) := propext ⟨fun ⟨k, e, p⟩ => by cases k with | inl i => cases e | inr y => cases e; exact p, fun p => ⟨_, rfl, p⟩⟩
theorem lz_ki {x : Int} {P : Key → Prop} : (∃ k, PyData.int x = keyD k ∧ P k) = P (.inl x) := propext ⟨fun ⟨k, e, p⟩ => by cases k with | inr i => cases e | inl y => cases e; exact p, fun p => ⟨_, rfl, p⟩⟩
end
def isNone : PyData → Bool
 | .none => true
 | _ => false
def dIsN : PyData → PyData → (PyData → Prop) → Prop := fun x y Q => y = .none ∧ Q (.bool (isNone x))
def dNotN : PyData → PyData → (PyData → Prop) → Prop := fun x y Q => y = .none ∧ Q (.bool (!isNone x))
theorem Sh.isN {K : PySem.W.Frag} {H : Hp} {O : Ex} {x : V} {d : PyData} (h : Sh K H O x d) : decide (x = .non) = isNone d := by
 cases h with
 | dt h => cases h <;> simp [isNone]
 | _ => simp [isNone]
theorem od_isN {K : PySem.W.Frag} : OpD K (fun x y H Q => y = .non ∧ Q (.bl (decide (x = .non))) H) dIsN := fun H O x y dx dy Qd R _ hx hy ⟨e, q⟩ k => by
 subst e
 refine ⟨hy.non, ?_⟩
 rw [hx.isN]; exact k _ _ H q (Same.refl _) (.bl _)
theorem od_notN {K : PySem.W.Frag} : OpD K (fun x y H Q => y = .non ∧ Q (.bl (!decide (x = .non))) H) dNotN := fun H O x y dx dy Qd R _ hx hy ⟨e, q⟩ k => by
 subst e
 refine ⟨hy.non, ?_⟩
 rw [hx.isN]; exact k _ _ H q (Same.refl _) (.bl _)
def dAbs : List PyData → (PyData → Prop) → Prop := fun ds Q => ∃ i : Int, ds = [.int i] ∧ Q (.int (if i < 0 then -i else i))
theorem cd_abs {K : PySem.W.Frag} : CallD K (fun xs H Q => ∃ i, xs = [.int i] ∧ Q (.int (if i < 0 then -i else i)) H) dAbs := fun H O xs ds Qd R _ hs ⟨i, e, q⟩ k => by
 subst e
 cases hs with
 | cons h r => cases r; cases h.int; exact ⟨i, rfl, k _ _ H q (Same.refl _) (.int _)⟩
def dIxSc : PyData → PyData → (PyData → Prop) → Prop := fun x y Q => ∃ ds i d, x = scrD ds ∧ y = .int i ∧ atI ds i = some d ∧ Q d
theorem od_ixSc {K : PySem.W.Frag} : OpD K (rIxL K) dIxSc := fun H O x y dx dy Qd R _ hx hy ⟨ds, i, d, e1, e2, e3, q⟩ k => by
 subst e1 e2
 obtain ⟨a, vs, rfl, hs, r⟩ := hx.scr
 cases hy.int
 obtain ⟨v, hv, rv⟩ := r.atI e3
 exact ⟨a, vs, i, v, rfl, rfl, hs, hv, k d v H q (Same.refl _) rv⟩
section
variable {X : Cx} {H0 : Hp} {O0 : Ex}
def dSlSc (t : DT) (tl th : DO) : DA := fun δ Q => t δ fun d => tl δ fun l => th δ fun u => ∃ xs, d = scrD xs ∧ Q (cutD xs l u)
theorem fe_sliceSc {e : Expr} {lo hi : Option Expr} {t : DT} {tl th : DO} {pos p2 : Pos} (h : DF X H0 O0 e t) (hl : PO X lo (upO X.K H0 O0 tl)) (hu : PO X hi (upO X.K H0 O0 th)) : FE X H0 O0 (.Subscript e (.Slice lo hi none p2) pos) (dSlSc t tl th) :=
 (pe_slice sl_list h hl hu).imp fun σ H Q ⟨O, δ, Qd, w, q, k⟩ => ⟨O, δ, _, w, q, fun d v H1 q1 s1 r1 => ⟨O, δ, _, w.mono s1, q1, fun l H2 q2 s2 => ⟨O, δ, _, w.mono (s1.trans s2), q2, fun u H3 ⟨xs, e, q3⟩ s3 => by
  subst e
  obtain ⟨a, vs, rfl, h1, d1⟩ := (r1.mono (s2.trans s3)).scr
  exact ⟨a, vs, rfl, h1, fun p hp => k _ _ _ _ q3 (s1.trans (s2.trans s3)) hp (d1.cut l u)⟩⟩⟩⟩
end
theorem op_mulS {X : Cx} : OpR X (binaryOp .Mult) (fun x y H Q => ∃ (z : Str) (n : Int), x = .str z ∧ y = .int n ∧ MulOk z n ∧ Q (.str (Txt.mul z n)) H) := by
 intro pins s σ H x y v u Q I rx ry h
 obtain ⟨z, n, rfl, rfl, hok, q⟩ := h
 obtain ⟨t, rfl⟩ := rx
 obtain ⟨t', rfl⟩ := ry
 exact SB.mul hok fun t' k => ⟨.str _, H, I.tok _, ⟨_, rfl⟩, q⟩
def dMulS : PyData → PyData → (PyData → Prop) → Prop := fun x y Q => ∃ (z : Str) (n : Int), x = .str z ∧ y = .int n ∧ MulOk z n ∧ Q (.str (Txt.mul z n))
theorem od_mulS {K : PySem.W.Frag} : OpD K (fun x y H Q => ∃ (z : Str) (n : Int), x = .str z ∧ y = .int n ∧ MulOk z n ∧ Q (.str (Txt.mul z n)) H) dMulS := fun H O x y dx dy Qd R _ hx hy ⟨z, n, e1, e2, c, q⟩ k => by
 subst e1 e2; cases hx.str; cases hy.int; exact ⟨z, n, rfl, rfl, c, k _ _ H q (Same.refl _) (.str _)⟩
end L2

namespace L2
open PySem PySem.Spec PyProof.Rows PySem.W
structure Rw where
 w : Str
 n : Int
 nm : Str
 r : List PyData
abbrev Ls := List (Str × Rw)
section
variable {ws : List Str} {day : Int} {xs : List Rw} {L : Ls} {x : Rw}
end
end L2

namespace L2
open PySem PySem.Spec PyProof.Rows PySem.W PySem.Calls
theorem or_led (t : SetTable) (n : Nat) : (t.orStandIn n).led = t.led := by unfold SetTable.orStandIn; split <;> rfl
theorem lay_led (t : SetTable) (es : Array (Int × Value)) (h : Int) (x : Value) : (layNew t es h x).2.1.led = t.led := by
 unfold layNew
 split
 ·exact or_led _ _
 ·rfl
theorem relay_led (t : SetTable) (es : Array (Int × Value)) (n : Nat) : (relayAll t es n).2.1.led = t.led := by
 unfold relayAll SetTable.relaid SetTable.laid
 cases SetTable.layClean (SetTable.sizeAbove n - 1) (es.map (·.1)) with
 | none => rfl
 | some ow => simp only [bind, Option.bind, pure]; split <;> rfl
abbrev btx (w : World) : Bool := w.params.followText "set-order"
section
variable {P : Program} {w : World} {A : Around} {E : Value → Shared → Prop} {s : Shared}
end
end L2

namespace L2
open PySem PySem.Spec PyProof.Rows PySem.W PySem.Calls
section
variable {P : Program} {w : World} {A : Around} {R : Result → Shared → Prop} {I : Addr} {fp wr : List Addr} {G : Array GenState → Array GenState → Prop} {n : Nat} {Pv : Nat → Value → Prop} {St : Nat → Shared → Prop}
end
section
variable {P : Program} {w : World} {A : Around} {E : Value → Shared → Prop} {s : Shared}
theorem new_setT (a : Value) {Q₁ : Value → Shared → Prop}
  (h : Q₁ (.ref s.heap.objs.size) { s with heap := s.heap.push { cls := .type "set", dict := none, data := .set #[] 0 (.fresh 0 0 (!btx w)) } }) :
  codeAny (model P w) A (.call (.builtin "set.__new__") ⟨[.type "set", a], []⟩) (wants Q₁ E) s := by
 refine codeAny_of_tree ?_
 show wpAny _ A.in1 (checkBuiltinCall "set.__new__" ⟨[.type "set", a], []⟩ >>= fun _ => again (.builtin "set.__new__" ⟨[.type "set", a], []⟩)) _ _ s
 refine wpAny_bind (wpAny_of_eq (PySem.F.newCall_set_1 a) (wpAny_pure ⟨plainId_quiet PySem.F.plain_set_new _, codeAny_builtin PySem.F.entry_set_new ?_⟩))
 rw [Around.under_plainId PySem.F.plain_set_new _]
 unfold Builtin.«set.__new__» Builtin.Frozenset.newClass
 have hsb := sub_set_self
 obtain ⟨hp, g, d, tk, os⟩ := s
 dsimp only
 wp_walk
 refine wpAny_askSetting (wpAny_pure ?_)
 dsimp only
 simp only [newObj]
 exact wpAny_bind (wpAny_alloc (wpAny_pure (wpAny_pure h)))
end
end L2

namespace L2
open PySem PySem.Spec PyProof.Rows PySem.W PySem.Calls
theorem slot_sit : Slot "set_iterator" "__next__" "set_iterator.__next__" :=
 .of (owner := "set_iterator") (n := "__next__") (by rw [typeLookup_type, builtinLookup_eq_fast]; kernel_rfl) (by decide +kernel) (by decide +kernel) (by decide +kernel)
  (by first | exact .inl (by decide +kernel) | exact .inr (by decide +kernel)) (by rw [isSubtype_type]; kernel_rfl)
theorem entry_sit : entryFor table "set_iterator.__next__" = some Builtin.«set_iterator.__next__» := entryFor_of_tree (by kernel_rfl)
theorem owner_sit : Manifest.owners.lookup (String.ofList ['r', 'o', 't', 'a', 'r', 'e', 't', 'i', '_', 't', 'e', 's'].reverse) = some Manifest.sig_set_iterator := by kernel_rfl
theorem args_sit (a : Value) : argsOk "set_iterator.__next__" ⟨[a], []⟩ := by
 unfold argsOk
 rw [signature?_of (id := "set_iterator.__next__") (n := ['_', '_', 't', 'x', 'e', 'n', '_', '_']) (o := ['r', 'o', 't', 'a', 'r', 'e', 't', 'i', '_', 't', 'e', 's']) (by kernel_rfl) owner_sit]; kernel_rfl
theorem entry_setit : entryFor table "set.__iter__" = some Builtin.«frozenset.__iter__» := entryFor_alias (id' := "frozenset.__iter__") (by kernel_rfl) rfl (by decide +kernel) (by kernel_rfl)
theorem erase_perm {α : Type} : ∀ {l : List α} {i : Nat} (h : i < l.length), (l[i] :: l.eraseIdx i).Perm l
 | a :: l, 0, h => .refl _
 | a :: l, i + 1, h => by
  have := erase_perm (l := l) (i := i) (by simpa using h)
  simp only [List.getElem_cons_succ, List.eraseIdx_cons_succ]
  exact (List.Perm.swap _ _ _).trans (this.cons a)
theorem pick_perm {α : Type} (next : Nat → Nat) : ∀ (f k : Nat) (left : List α) (out : Array α), f = left.length → (pickOrder.go next f k left out).toList.Perm (out.toList ++ left)
 | 0, k, left, out, e => by
  rw [List.eq_nil_of_length_eq_zero e.symm]; unfold pickOrder.go; simp
 | f + 1, k, left, out, e => by
  unfold pickOrder.go
  have hlt : next k % left.length < left.length := Nat.mod_lt _ (by omega)
  rw [List.getElem?_eq_getElem hlt]
  refine (pick_perm next f (k + 1) _ _ (by rw [List.length_eraseIdx_of_lt hlt]; omega)).trans ?_
  rw [Array.toList_push, List.append_assoc]
  exact List.Perm.append_left _ (erase_perm hlt)
theorem pickP {α : Type} (next : Nat → Nat) (xs : Array α) : (pickOrder next xs).toList.Perm xs.toList := by
 have := pick_perm next xs.size 0 xs.toList #[] (by simp)
 simpa [pickOrder] using this
section
variable {P : Program} {w : World} {A : Around} {E : Value → Shared → Prop}
theorem wp_draw {α : Type} : ∀ (n : Nat) (xs : List α) (s : Shared) (Q : List α → Shared → Prop), n = xs.length → (∀ ys d, ys.Perm xs → Q ys { s with drawn := d }) → wpAny (model P w) A (drawOrder n xs) Q E s
 | 0, xs, s, Q, e, q => by
  rw [List.eq_nil_of_length_eq_zero e.symm] at q ⊢
  unfold drawOrder
  exact wpAny_pure (q [] s.drawn (.refl _))
 | n + 1, [], s, Q, e, q => by cases e
 | n + 1, x :: xs, s, Q, e, q => by
  unfold drawOrder
  refine wpAny_bind ?_
  intro Γ p hΓ
  refine ⟨by simp, ?_⟩
  generalize hi : (model P w).w.draws .order (s.drawn.get .order) % (x :: xs).length = i
  have hlt : i < (x :: xs).length := by rw [← hi]; exact Nat.mod_lt _ (by simp)
  have key : wpAny (model P w) A (match (x :: xs)[i]? with | some y => (do return y :: (← drawOrder n ((x :: xs).eraseIdx i))) | none => unsupported "internal:drawOrder") Q E { s with drawn := s.drawn.bump .order } := by
   rw [List.getElem?_eq_getElem hlt]
   refine wpAny_bind (wp_draw n _ _ _ (by rw [List.length_eraseIdx_of_lt hlt]; simp at e ⊢; omega) fun ys d hp => wpAny_pure (q _ d ?_))
   exact (hp.cons _).trans (erase_perm hlt)
  exact key
end
def IsSit (h : Heap) (it : Addr) (f : Value) (i : Nat) (a : Addr) (n ep : Nat) : Prop := ∃ o, h.get? it = some o ∧ o.cls = .type "set_iterator" ∧ o.data = .fields #[f, .int i 0, .ref a, .int n 0, .int ep 0]
theorem IsSit.typeIs {s : Shared} {it f i a n ep} (x : IsSit s.heap it f i a n ep) : s.TypeIs (.ref it) "set_iterator" := let ⟨o, h, c, _⟩ := x; ⟨o, h, c⟩
section
variable {P : Program} {w : World} {A : Around} {E : Value → Shared → Prop} {s : Shared} {a : Addr} {o : Obj} {es : Array (Int × Value)} {ep : Nat} {t : SetTable}
theorem wp_nextA {slot i : Nat} {Q : Option (Value × Nat) → Shared → Prop} (hb : btx w = true) (o1 : s.heap.get? a = some o) (d1 : o.data = .set es ep t) (f1 : t.fits es.size = true)
  (h : Q (((pickOrder (w.params.setOrder a ep) es)[i]?).map fun e => (e.2, slot)) s) : wpAny (model P w) A (setNext a slot i ep) Q E s := by
 unfold setNext setWalk setsByText
 refine wpAny_bind (wpAny_setState_of o1 d1 f1 (wpAny_bind (wpAny_bind (wpAny_askSetting (wpAny_pure ?_)))))
 rw [if_pos (show (model P w).w.params.followText "set-order" = true from hb)]
 rw [if_neg (by simp)]
 refine wpAny_bind (wpAny_bind (wpAny_setState_of o1 d1 f1 (wpAny_bind (wpAny_bind (wpAny_askSetting (wpAny_pure ?_))))))
 rw [if_pos (show (model P w).w.params.followText "set-order" = true from hb)]
 exact wpAny_bind (wpAny_askSetting (wpAny_pure (wpAny_pure h)))
theorem sit_item {it : Addr} {slot slot' i : Nat} {x : Value} {Q : Option Value → Shared → Prop} (hit : IsSit s.heap it (.int slot 0) i a es.size ep) (o1 : s.heap.get? a = some o) (d1 : o.data = .set es ep t) (f1 : t.fits es.size = true)
  (nx : ∀ E' Q', Q' (some (x, slot')) s → wpAny (model P w) A.in1 (setNext a slot i ep) Q' E' s)
  (hQ : ∀ h', IsSit h' it (.int slot' 0) (i + 1) a es.size ep → Heap.SameBut it s.heap h' → Q (some x) { s with heap := h' }) : wpAny (model P w) A (pyNext (.ref it)) Q E s := by
 obtain ⟨u, u1, c1, e1⟩ := id hit
 unfold pyNext
 refine wpAny_bind (wpAny_attempt (wpAny_callSpecial?_slot (name := Str.ofString "__next__") hit.typeIs slot_sit (wpAny_call_entry slot_sit hit.typeIs entry_sit ?_ (args_sit _))))
 unfold Builtin.«set_iterator.__next__»
 refine wpAny_bind (m := slotArgs _ _ _) (wpAny_pure (wpAny_bind (wpAny_fieldsOf u1 e1 ?_)))
 show wpAny _ _ (setEntries a >>= _) _ _ s
 refine wpAny_bind (wpAny_setEntries_of o1 d1 f1 ?_)
 rw [if_neg (by simp)]
 show wpAny _ _ (setNext a ((slot : Int)).toNat ((i : Int)).toNat ((ep : Int)).toNat >>= _) _ _ s
 simp only [Int.toNat_natCast]
 refine wpAny_bind (nx _ _ ?_)
 show wpAny _ _ (setField (.ref it) 0 (rawInt (slot' : Int)) >>= _) _ _ s
 refine wpAny_bind (wpAny_setField u1 e1 (by simp) ?_)
 have g1 := Heap.get?_update_self (Obj.mapFields (·.setIfInBounds 0 (rawInt (slot' : Int)))) u1 (Obj.isFreed_of_fields (Obj.data_mapFields e1 _))
 have k1 := Obj.data_mapFields e1 (·.setIfInBounds 0 (rawInt (slot' : Int)))
 refine wpAny_bind (wpAny_setField g1 k1 (by simp) (wpAny_pure ⟨x, rfl, wpAny_pure (hQ _ ?_ ((Heap.SameBut.update ..).trans (Heap.SameBut.update ..)))⟩))
 refine ⟨_, Heap.get?_update_self _ g1 (Obj.isFreed_of_fields (Obj.data_mapFields k1 _)), (Obj.cls_mapFields ..).trans ((Obj.cls_mapFields ..).trans c1), ?_⟩
 rw [Obj.data_mapFields k1]; simp [rawInt]
theorem sit_itemT {it pl : Addr} {i k : Nat} {hk : Int} {x : Value} {ol : Obj} {ps : Array Value} {nl : Nat} {Q : Option Value → Shared → Prop} (hit : IsSit s.heap it (.ref pl) i a es.size ep) (o1 : s.heap.get? a = some o) (d1 : o.data = .set es ep t) (f1 : t.fits es.size = true)
  (l1 : s.heap.get? pl = some ol) (l2 : ol.data = .seq ps nl) (p1 : ps[i]? = some (.int (k : Int) 0)) (x1 : es[k]? = some (hk, x))
  (hQ : ∀ h', IsSit h' it (.ref pl) (i + 1) a es.size ep → Heap.SameBut it s.heap h' → Q (some x) { s with heap := h' }) : wpAny (model P w) A (pyNext (.ref it)) Q E s := by
 obtain ⟨u, u1, c1, e1⟩ := id hit
 unfold pyNext
 refine wpAny_bind (wpAny_attempt (wpAny_callSpecial?_slot (name := Str.ofString "__next__") hit.typeIs slot_sit (wpAny_call_entry slot_sit hit.typeIs entry_sit ?_ (args_sit _))))
 unfold Builtin.«set_iterator.__next__»
 refine wpAny_bind (m := slotArgs _ _ _) (wpAny_pure (wpAny_bind (wpAny_fieldsOf u1 e1 ?_)))
 show wpAny _ _ (setEntries a >>= _) _ _ s
 refine wpAny_bind (wpAny_setEntries_of o1 d1 f1 ?_)
 rw [if_neg (by simp)]
 show wpAny _ _ (seqItems? (.ref pl) >>= _) _ _ s
 refine wpAny_bind (wpAny_seqItems l1 l2 ?_)
 simp only [Int.toNat_natCast, p1]
 refine wpAny_bind ?_
 unfold setNextDrawn
 refine wpAny_bind (wpAny_setState_of o1 d1 f1 ?_)
 simp only [Int.toNat_natCast]
 rw [if_neg (by simp), x1]
 refine wpAny_pure (wpAny_bind (wpAny_setField u1 e1 (by simp) (wpAny_pure ⟨x, rfl, wpAny_pure (hQ _ ?_ (Heap.SameBut.update ..))⟩)))
 refine ⟨_, Heap.get?_update_self _ u1 (Obj.isFreed_of_fields (Obj.data_mapFields e1 _)), (Obj.cls_mapFields ..).trans c1, ?_⟩
 rw [Obj.data_mapFields e1]; simp [rawInt]
theorem sit_end {it : Addr} {slot i : Nat} {Q : Option Value → Shared → Prop} (hh : A.handled = none) (hit : IsSit s.heap it (.int slot 0) i a es.size ep) (o1 : s.heap.get? a = some o) (d1 : o.data = .set es ep t) (f1 : t.fits es.size = true)
  (nx : ∀ E' Q', Q' none s → wpAny (model P w) A.in1 (setNext a slot i ep) Q' E' s)
  (hQ : ∀ h', Heap.ExtBut it s.heap h' → Q none { s with heap := h' }) : wpAny (model P w) A (pyNext (.ref it)) Q E s := by
 obtain ⟨u, u1, c1, e1⟩ := id hit
 unfold pyNext
 refine wpAny_bind (wpAny_attempt (wpAny_callSpecial?_slot (name := Str.ofString "__next__") hit.typeIs slot_sit (wpAny_call_entry slot_sit hit.typeIs entry_sit ?_ (args_sit _))))
 unfold Builtin.«set_iterator.__next__»
 refine wpAny_bind (m := slotArgs _ _ _) (wpAny_pure (wpAny_bind (wpAny_fieldsOf u1 e1 ?_)))
 show wpAny _ _ (setEntries a >>= _) _ _ s
 refine wpAny_bind (wpAny_setEntries_of o1 d1 f1 ?_)
 rw [if_neg (by simp)]
 show wpAny _ _ (setNext a ((slot : Int)).toNat ((i : Int)).toNat ((ep : Int)).toNat >>= _) _ _ s
 simp only [Int.toNat_natCast]
 refine wpAny_bind (nx _ _ ?_)
 show wpAny _ _ (setField (.ref it) 2 .none >>= _) _ _ s
 refine wpAny_bind (wpAny_setField u1 e1 (by simp) ?_)
 refine wpAny_bind (m := newExc (.type "StopIteration") []) ?_
 simp only [newExc, newTuple]
 refine wpAny_bind (wpAny_newObj_type ?_ (by size_fits)); refine wpAny_bind (m := firstArgMember _ _) (wpAny_of_eq (a := Value.none) (by first | rfl | (simp only [firstArgMember]; rfl)) ?_)
 refine wpAny_newObj_type ?_ (by size_fits)
 simp only [raiseNew]
 refine wpAny_bind (wpAny_handled ?_); rw [show A.in1.handled = none from hh]
 refine wpAny_bind (wpAny_pure (wpAny_throw ?_)); refine wpAny_bind (wpAny_isInstance (T := "StopIteration") (b := true) ⟨_, Heap.get?_push_size _ rfl, rfl⟩ isSubtype_stop ?_)
 exact wpAny_pure (hQ _ (((Heap.SameBut.update ..).extBut.push _).push _))
theorem sit_endT {it pl : Addr} {i : Nat} {ol : Obj} {ps : Array Value} {nl : Nat} {Q : Option Value → Shared → Prop} (hh : A.handled = none) (hit : IsSit s.heap it (.ref pl) i a es.size ep) (o1 : s.heap.get? a = some o) (d1 : o.data = .set es ep t) (f1 : t.fits es.size = true)
  (l1 : s.heap.get? pl = some ol) (l2 : ol.data = .seq ps nl) (p1 : ps[i]? = none)
  (hQ : ∀ h', Heap.ExtBut it s.heap h' → Q none { s with heap := h' }) : wpAny (model P w) A (pyNext (.ref it)) Q E s := by
 obtain ⟨u, u1, c1, e1⟩ := id hit
 unfold pyNext
 refine wpAny_bind (wpAny_attempt (wpAny_callSpecial?_slot (name := Str.ofString "__next__") hit.typeIs slot_sit (wpAny_call_entry slot_sit hit.typeIs entry_sit ?_ (args_sit _))))
 unfold Builtin.«set_iterator.__next__»
 refine wpAny_bind (m := slotArgs _ _ _) (wpAny_pure (wpAny_bind (wpAny_fieldsOf u1 e1 ?_)))
 show wpAny _ _ (setEntries a >>= _) _ _ s
 refine wpAny_bind (wpAny_setEntries_of o1 d1 f1 ?_)
 rw [if_neg (by simp)]
 show wpAny _ _ (seqItems? (.ref pl) >>= _) _ _ s
 refine wpAny_bind (wpAny_seqItems l1 l2 ?_)
 simp only [Int.toNat_natCast, p1]
 show wpAny _ _ (setField (.ref it) 0 (rawInt 0) >>= _) _ _ s
 refine wpAny_bind (wpAny_setField u1 e1 (by simp) ?_)
 have g1 := Heap.get?_update_self (Obj.mapFields (·.setIfInBounds 0 (rawInt 0))) u1 (Obj.isFreed_of_fields (Obj.data_mapFields e1 _))
 have k1 := Obj.data_mapFields e1 (·.setIfInBounds 0 (rawInt 0))
 refine wpAny_bind (wpAny_setField g1 k1 (by simp) ?_)
 refine wpAny_bind (m := newExc (.type "StopIteration") []) ?_
 simp only [newExc, newTuple]
 refine wpAny_bind (wpAny_newObj_type ?_ (by size_fits)); refine wpAny_bind (m := firstArgMember _ _) (wpAny_of_eq (a := Value.none) (by first | rfl | (simp only [firstArgMember]; rfl)) ?_)
 refine wpAny_newObj_type ?_ (by size_fits)
 simp only [raiseNew]
 refine wpAny_bind (wpAny_handled ?_); rw [show A.in1.handled = none from hh]
 refine wpAny_bind (wpAny_pure (wpAny_throw ?_)); refine wpAny_bind (wpAny_isInstance (T := "StopIteration") (b := true) ⟨_, Heap.get?_push_size _ rfl, rfl⟩ isSubtype_stop ?_)
 exact wpAny_pure (hQ _ ((((Heap.SameBut.update ..).trans (Heap.SameBut.update ..)).extBut.push _).push _))
end
end L2

namespace L2
open PySem PySem.Spec PyProof.Rows PySem.W PySem.Calls
theorem slot_siti : Slot "set_iterator" "__iter__" "set_iterator.__iter__" :=
 .of (owner := "set_iterator") (n := "__iter__") (by rw [typeLookup_type, builtinLookup_eq_fast]; kernel_rfl) (by decide +kernel) (by decide +kernel) (by decide +kernel)
  (by first | exact .inl (by decide +kernel) | exact .inr (by decide +kernel)) (by rw [isSubtype_type]; kernel_rfl)
theorem entry_siti : entryFor table "set_iterator.__iter__" = some Builtin.«dict_keyiterator.__iter__» := entryFor_alias (id' := "dict_keyiterator.__iter__") (by kernel_rfl) rfl (by decide +kernel) (by kernel_rfl)
theorem args_siti (a : Value) : argsOk "set_iterator.__iter__" ⟨[a], []⟩ := by
 unfold argsOk
 rw [signature?_of (id := "set_iterator.__iter__") (n := ['_', '_', 'r', 'e', 't', 'i', '_', '_']) (o := ['r', 'o', 't', 'a', 'r', 'e', 't', 'i', '_', 't', 'e', 's']) (by kernel_rfl) owner_sit]; kernel_rfl
theorem IsSit.at {h h' : Heap} {it f i a n ep} (x : IsSit h it f i a n ep) (e : ∀ o, h.get? it = some o → h'.get? it = some o) : IsSit h' it f i a n ep := let ⟨o, ho, r⟩ := x; ⟨o, e _ ho, r⟩
section
variable {P : Program} {w : World} {A : Around} {E : Value → Shared → Prop} {s : Shared} {a : Addr} {o : Obj} {es : Array (Int × Value)} {ep : Nat} {t : SetTable}
theorem iter_sit {it : Addr} {f : Value} {i n : Nat} {Q : Value → Shared → Prop} (hit : IsSit s.heap it f i a n ep) (h : Q (.ref it) s) : wpAny (model P w) A (pyIter (.ref it)) Q E s := by
 refine wpAny_pyIter_slot hit.typeIs slot_siti (wpAny_call_entry slot_siti hit.typeIs entry_siti ?_ (args_siti _))
 exact wpAny_bind (m := slotArgs _ _ _) (wpAny_pure (wpAny_pure ⟨_, rfl, "set_iterator", _, hit.typeIs, slot_sit.lookup, h⟩))
theorem walk_int (hh : A.handled = none) (it : Addr) (hne : a ≠ it) (d1 : o.data = .set es ep t) (f1 : t.fits es.size = true) (vs : List Value) (hl : vs.length = es.size) (sl : Nat → Nat)
  (nx : ∀ (s : Shared) (i : Nat) (h : i < vs.length) E' Q', s.heap.get? a = some o → Q' (some (vs[i], sl (i + 1))) s → wpAny (model P w) A.in1 (setNext a (sl i) i ep) Q' E' s)
  (nd : ∀ (s : Shared) E' Q', s.heap.get? a = some o → Q' none s → wpAny (model P w) A.in1 (setNext a (sl es.size) es.size ep) Q' E' s) :
  Walks P w A it [it, a] [it] es.size (fun i v => vs[i]? = some v) (fun i h => IsSit h it (.int (sl i : Nat) 0) i a es.size ep ∧ h.get? a = some o) where
 sub := fun b hb => by rw [List.mem_singleton] at hb; simp [hb]
 frame := fun _ _ _ st hk => ⟨st.1.at fun o e => hk it (by simp) o e, hk a (by simp) o st.2⟩
 item := fun i s Q E hi st hQ => by
  have hi' : i < vs.length := by omega
  refine sit_item st.1 st.2 d1 f1 (fun E' Q' q => nx s i hi' E' Q' st.2 q) fun h' it' sb => ?_
  exact hQ _ h' s.toks (by simp [hi']) ⟨it', by rw [sb.2 a hne]; exact st.2⟩ fun b u hb e => sb.extBut b u (fun z => hb (by simp [z])) e
 done := fun s Q E st hQ => sit_end hh st.1 st.2 d1 f1 (fun E' Q' q => nd s E' Q' st.2 q) fun h' he => hQ h' s.toks fun b u hb e => he b u (fun z => hb (by simp [z])) e
 self := fun _ _ _ _ st hQ => iter_sit st.1 hQ
theorem walk_tup (hh : A.handled = none) (it pl : Addr) (hne : a ≠ it) (hnp : pl ≠ it) (d1 : o.data = .set es ep t) (f1 : t.fits es.size = true) (vs : List Value) (ks : List Nat) {ol : Obj} {nl : Nat} (l2 : ol.data = .seq (ks.map fun (k : Nat) => Value.int (k : Int) 0).toArray nl)
  (hl : ks.length = es.size) (hv : ∀ i k : Nat, ks[i]? = some k → ∃ h x, es[k]? = some (h, x) ∧ vs[i]? = some x) :
  Walks P w A it [it, a, pl] [it] es.size (fun i v => vs[i]? = some v) (fun i h => IsSit h it (.ref pl) i a es.size ep ∧ h.get? a = some o ∧ h.get? pl = some ol) where
 sub := fun b hb => by rw [List.mem_singleton] at hb; simp [hb]
 frame := fun _ _ _ st hk => ⟨st.1.at fun o e => hk it (by simp) o e, hk a (by simp) o st.2.1, hk pl (by simp) ol st.2.2⟩
 item := fun i s Q E hi st hQ => by
  have hi' : i < ks.length := by omega
  obtain ⟨h, x, e1, e2⟩ := hv i ks[i] (by simp [hi'])
  refine sit_itemT st.1 st.2.1 d1 f1 st.2.2 l2 (k := ks[i]) (by simp [hi']) e1 fun h' it' sb => ?_
  exact hQ _ h' s.toks e2 ⟨it', by rw [sb.2 a hne]; exact st.2.1, by rw [sb.2 pl hnp]; exact st.2.2⟩ fun b u hb e => sb.extBut b u (fun z => hb (by simp [z])) e
 done := fun s Q E st hQ => sit_endT hh st.1 st.2.1 d1 f1 st.2.2 l2 (by simp [hl]) fun h' he => hQ h' s.toks fun b u hb e => he b u (fun z => hb (by simp [z])) e
 self := fun _ _ _ _ st hQ => iter_sit st.1 hQ
end
end L2

namespace L2
open PySem PySem.Spec PyProof.Rows PySem.W PySem.Calls
section
variable {P : Program} {w : World} {A : Around} {E : Value → Shared → Prop} {s : Shared} {a : Addr}
theorem hint_set {Q : Bool → Shared → Prop} (hT : s.TypeIs (.ref a) "set") (h : Q false s) : wpAny (model P w) A (Builtin.List.listLengthHint (.ref a)) Q E s := by
 unfold Builtin.List.listLengthHint
 refine wpAny_bind (wpAny_specialOf hT PySem.F.slot_set_len.lookup ?_)
 generalize hid : ("set.__len__" : String) = id0
 wp_delta
 rw [show splitId id0 = some ("set", "__len__") from by subst hid; decide +kernel]
 subst hid
 refine wpAny_bind (wpAny_isInstance (T := "set") (b := true) hT (by rw [isSubtype_type]; kernel_rfl) ?_)
 refine wpAny_ite_split (fun z => absurd z (by decide)) (fun _ => ?_)
 refine wpAny_ite_split (fun _ => ?_) (fun z => absurd (by decide +kernel) z)
 exact wpAny_bind (wpAny_typeOf hT (wpAny_pure h))
end
end L2

namespace L2
open PySem PySem.Spec PyProof.Rows PySem.W PySem.Calls
theorem Inv.drw {X : Cx} {pins : List (Addr × Obj)} {σ : List (Option V)} {H : Hp} {s : Shared} {d : Drawn} (I : Inv X pins σ H s) : Inv X pins σ H { s with drawn := d } := ⟨I.ok, I.os, I.bare, I.base, I.loc, I.cell, I.free, I.freeC, I.pin, I.hok, I.len⟩
theorem bt_set : bootBuiltins "set" = some (.type "set") := by decide +kernel
section
variable {X : Cx} {H0 : Hp} {O0 : Ex}
end
end L2

namespace L2
open PySem PySem.Spec PyProof.Rows PySem.W PySem.Calls
section
variable {X : Cx} {H0 : Hp} {O0 : Ex}
def dExt (i : Nat) (t : DA) : DS := fun E δ => ∃ ds, δ[i]? = some (some (.o ds)) ∧ t δ fun es => ds.length + es.length ≤ sizeLine ∧ E.nx (δ.set i (some (.o (ds ++ es))))
theorem ds_ext {i : Nat} {o e : Expr} {t : DA} {apos cpos pos : Pos} (ho : PE X o (tVar i)) (he : FE X H0 O0 e t) (hbase : attributeBase o "extend" X.env (eval o X.env) = eval o X.env := by rfl)
  (hfew : ((backTo cpos (starEach [e] X.env)).all (fun x => !x.1) && (backToKw cpos (keywordEach [] X.env)).all (fun x => x.1.isSome) && decide ([e].length + ([] : List Keyword).length + (if ([] : List Keyword).isEmpty then 0 else 1) < 30)) = true := by rfl)
  (hline : (apos.endLine == cpos.line) = true := by rfl) (hst : starEach [e] X.env = (false, eval e X.env) :: starEach [] X.env := by rfl) (hplain : (backTo cpos (starEach [] X.env)).any (·.1) = false := by rfl)
  (hs : swapsWith (.Call (.Attribute o "extend" apos) [e] [] cpos) none pos.line X.env = pure false := by rfl) : PS X (.Expr (.Call (.Attribute o "extend" apos) [e] [] cpos) pos) (upD X.K H0 O0 (dExt i t)) :=
 (ps_expr (pe_bm PySem.F.plainAttrs_list PySem.F.slot_list_extend PySem.F.type_list_extend mt_extend ho (pa_cons he pa_nil hst) hbase hfew hline hst hplain) hs).imp fun D σ H ⟨O, δ, E, w, ⟨ds, e, q⟩, k1, k2, k3, k4⟩ => by
  obtain ⟨l, vs, h, a, b, c, r⟩ := w.own e
  refine ⟨_, h, .inl ⟨rfl, _, SqL.of c⟩, O, δ, _, w, q, fun es ws p H1 q1 s1 hp r1 => ?_⟩
  have hl : H1 l = some (.lst vs) := s1 _ _ c
  have np : l ≠ p := fun z => by rw [z, hp] at hl; cases hl
  have S2 : Same H1 (upd H1 p (.lst ws)) := Same.new hp
  refine ⟨l, p, vs, ws, rfl, rfl, by rw [upd_ne np]; exact hl, upd_same, by rw [r.length, r1.length]; exact q1.1, ?_⟩
  exact k1 _ _ _ _ q1.2 (((w.mono s1).mono S2).putO (vs := vs) e h (((r.mono s1).mono S2).append (r1.mono S2))) ⟨fun b' o' z n => by rw [upd_ne (fun y => n (by rw [y]; exact a))]; exact S2 _ _ (s1 _ _ z), fun _ _ n => n⟩
end
theorem valsI : ∀ {ns : List Int} {us : List Value}, Vals (ns.map V.int) us → IntsAre us ns
 | [], _, r => by rw [List.map_nil] at r; cases r; exact .nil
 | n :: ns, _, r => by
  rw [List.map_cons] at r
  cases r with
  | cons r1 r2 => obtain ⟨t, rfl⟩ := r1; exact .cons n t (valsI r2)
theorem call_maxL {X : Cx} (hc : X.calm = true) : CallR X (.builtin "max") (fun xs H Q => ∃ (p : Addr) (ns : List Int), xs = [.ref p] ∧ SqL X.K H p (ns.map V.int) ∧ ns ≠ [] ∧ ∀ M, M ∈ ns → (∀ a ∈ ns, a ≤ M) → Q (.int M) H) := by
 intro pins s σ H xs us Q I r h
 obtain ⟨p, ns, rfl, hq, hne, q⟩ := h
 obtain ⟨u, rfl, rx⟩ := vals1 r
 cases rx
 obtain ⟨its, rv, pl, hz⟩ := I.list hq
 have hi := valsI rv
 obtain ⟨zs, e⟩ := hi.allInts.items
 have hns : ns = zs.toList.map (·.1) := by rw [← hi.numsOf, ← nums_intItems, ← e]
 have h0 : 0 < zs.size := by
  rcases Nat.eq_zero_or_pos zs.size with z | z
  ·exact absurd (by rw [hns]; simp [Array.size_eq_zero_iff.mp z]) hne
  ·exact z
 have hl := pl.isList
 rw [e] at hl
 refine max_intList (I.ok.hd hc) hl h0 fun v h' tk hv hk => ?_
 obtain ⟨t, rfl⟩ := intItems_at hv
 obtain ⟨h1, h2⟩ := argBest_gt (numAt zs) (zs.size - 1)
 refine ⟨.int _, H, I.kept (t' := tk) hk, ⟨t, rfl⟩, q _ ?_ fun a ha => ?_⟩
 ·rw [hns, numAt_eq]; exact getD_mem (by rw [List.length_map, Array.length_toList]; omega)
 ·rw [hns] at ha
  obtain ⟨j, hj, rfl⟩ := mem_getD ha
  rw [List.length_map, Array.length_toList] at hj
  rw [← numAt_eq]; exact h2 j (by omega)
theorem Dts.intsL {K : PySem.W.Frag} {H : Hp} {O : Ex} : ∀ {ns : List Int} {vs : List V}, Dts K H O vs (ns.map PyData.int) → vs = ns.map V.int
 | [], _, r => by rw [List.map_nil] at r; cases r; rfl
 | b :: bs, _, r => by
  rw [List.map_cons] at r
  cases r with
  | cons h r => cases h; rw [List.map_cons, Dts.intsL r]
def dMaxL : List PyData → (PyData → Prop) → Prop := fun ds Q => ∃ ns : List Int, ds = [.list (ns.map .int)] ∧ ns ≠ [] ∧ ∀ M, M ∈ ns → (∀ a ∈ ns, a ≤ M) → Q (.int M)
theorem cd_maxL {K : PySem.W.Frag} : CallD K (fun xs H Q => ∃ (p : Addr) (ns : List Int), xs = [.ref p] ∧ SqL K H p (ns.map V.int) ∧ ns ≠ [] ∧ ∀ M, M ∈ ns → (∀ a ∈ ns, a ≤ M) → Q (.int M) H) dMaxL := fun H O xs ds Qd R tr hs ⟨ns, e, hne, q⟩ k => by
 subst e
 cases hs with
 | cons h r =>
  cases r
  obtain ⟨a, vs, rfl, h1, d1⟩ := h.lst
  cases d1.intsL
  exact ⟨a, ns, rfl, h1, hne, fun M m1 m2 => k _ _ H (q M m1 m2) (Same.refl _) (.int _)⟩
section
variable {X : Cx} {H0 : Hp} {O0 : Ex}
end
section
variable {X : Cx} {H0 : Hp} {O0 : Ex}
end
end L2

namespace L2
open PySem PySem.Spec PyProof.Rows PySem.W PySem.Calls
section
variable {X : Cx} {H0 : Hp} {O0 : Ex}
theorem fu_compTI {N' : List Str} {k : Nat} {fr : List Nat} {scope : Scope} {iter elt tg : Expr} {ifs : List Expr} {t te : DT} {tc : DB} {g : TG} {dg : DG} {pos : Pos} (hc : X.calm = true) (S : CompScope X.env.scope X.N N' k fr scope) (hi : DF X H0 O0 iter t) (gd : GD X.K g dg) (hk : KeepG g k) (hfr : fr.Nodup)
  (hg : ∀ fp C s H, PG (compCx X scope N' fp C s H) tg g) (hf : ∀ fp C s H, PIfs (compCx X scope N' fp C s H) ifs (upT X.K H0 O0 tc)) (he : ∀ fp C s H, PE (compCx X scope N' fp C s H) elt (up X.K H0 O0 te))
  (hs : ∀ x, foldedSetIterable iter X.env x = pure x := by intro _; rfl) : PU X (.ListComp elt [⟨tg, iter, ifs, 0⟩] scope pos) (upF X.K H0 O0 (dCompTI t dg tc te k fr)) :=
 (pu_comp hc S (pi_tup hi) hg hf he hs).imp fun σ H Q ⟨O, δ, Qd, w, q, kk⟩ => ⟨O, δ, _, w, q, fun d v H1 ⟨xs, e, hz, q1⟩ s1 r1 => by
  subst e
  obtain ⟨a, vs, rfl, hq, rr⟩ := r1.tup
  refine ⟨a, rfl, ⟨_, hq⟩, fun D hD => comp_stepI (SrcP.tup hq) gd hfr (fun v _ H' R h => hk fr σ v H' R h) (fun _ _ _ z => z) (fun _ _ _ z => z) (fun D H' hD s' o e => s' _ _ e (ne_of_none e hD)) rr (w.mono s1) (by rw [rr.length]; exact hz) q1 (fun ds us p H' z s' hp r' => kk ds us p H' z (s1.trans s') hp r') D hD⟩⟩
end
end L2

namespace L2
open PySem PySem.Spec PyProof.Rows PySem.W PySem.Calls
structure Ans (n : Nat) (lt : Nat → Nat → Bool) (I : Shared → Prop) (cmp : Nat → Nat → (Bool → Shared → Prop) → Shared → Prop) : Prop where
 as : ∀ i j C s, i < n → j < n → i ≠ j → I s → (∀ s', I s' → C (lt i j) s') → cmp i j C s
structure StrictT (n : Nat) (lt : Nat → Nat → Bool) : Prop where
 tot : ∀ i j, i < n → j < n → i ≠ j → lt i j = !lt j i
 tr : ∀ i j k, i < n → j < n → k < n → lt i j = true → lt j k = true → lt i k = true
structure Places (n : Nat) (p : Array Nat) : Prop where
 perm : p.toList.Perm (List.range n)
theorem Places.size {n : Nat} {p : Array Nat} (h : Places n p) : p.size = n := by rw [← Array.length_toList, h.perm.length_eq, List.length_range]
theorem Places.lt {n : Nat} {p : Array Nat} (h : Places n p) {k : Nat} (hk : k < n) : p.getD k 0 < n := by
 have hs := h.size
 have e : p.getD k 0 = p[k]'(by omega) := by simp [Array.getD, show k < p.size by omega]
 rw [e]
 have := h.perm.mem_iff.mp (Array.mem_toList_iff.mpr (Array.getElem_mem (show k < p.size by omega)))
 simpa using this
theorem Places.ne {n : Nat} {p : Array Nat} (h : Places n p) {i j : Nat} (hi : i < n) (hj : j < n) (hij : i ≠ j) : p.getD i 0 ≠ p.getD j 0 := by
 have hs := h.size
 have nd : p.toList.Nodup := h.perm.nodup_iff.mpr List.nodup_range
 have ei : p.getD i 0 = p.toList[i]'(by simp; omega) := by simp [Array.getD, show i < p.size by omega]
 have ej : p.getD j 0 = p.toList[j]'(by simp; omega) := by simp [Array.getD, show j < p.size by omega]
 rw [ei, ej]
 intro e
 exact hij ((List.getElem_inj nd).mp e)
theorem Places.bubble {n : Nat} {p : Array Nat} (h : Places n p) (a d : Nat) : Places n (PyProof.Rows.bubble p a d) := ⟨(Array.perm_iff_toList_perm.mp (bubble_perm p a d)).trans h.perm⟩
theorem Places.rev {n : Nat} {p : Array Nat} (h : Places n p) (i j : Nat) : Places n (kas_rev p i j) := ⟨(Array.perm_iff_toList_perm.mp (mirror_perm p i j _)).trans h.perm⟩
theorem places0 (n : Nat) : Places n (List.toArray (List.range n)) := ⟨by simp⟩
def Up (lt : Nat → Nat → Bool) (p : Array Nat) (k : Nat) : Prop := ∀ i j, i < j → j < k → lt (p.getD i 0) (p.getD j 0) = true
section
variable {n : Nat} {lt : Nat → Nat → Bool} {I : Shared → Prop} {cmp : Nat → Nat → (Bool → Shared → Prop) → Shared → Prop}
theorem Up.snoc (T : StrictT n lt) {p : Array Nat} (hp : Places n p) {k : Nat} (hk : k < n) (h : Up lt p k) (h0 : 0 < k) (hl : lt (p.getD (k - 1) 0) (p.getD k 0) = true) : Up lt p (k + 1) := by
 intro i j hij hj
 rcases Nat.lt_or_ge j k with z | z
 ·exact h i j hij z
 ·have : j = k := by omega
  subst this
  rcases Nat.lt_or_ge i (j - 1) with w | w
  ·exact T.tr _ _ _ (hp.lt (by omega)) (hp.lt (by omega)) (hp.lt hk) (h i (j - 1) w (by omega)) hl
  ·have : i = j - 1 := by omega
   subst this; exact hl
theorem asc_ok (A : Ans n lt I cmp) (T : StrictT n lt) {p : Array Nat} (hp : Places n p) {Q : Nat → Shared → Prop} : ∀ (f m : Nat) (s : Shared), 1 ≤ m → m + f = n → Up lt p m → I s →
  (∀ k s', I s' → m ≤ k → k ≤ n → Up lt p k → (k < n → lt (p.getD k 0) (p.getD (k - 1) 0) = true) → Q k s') → (kas_asc p f m).kasWp cmp Q s
 | 0, m, s, h1, hf, hu, hI, q => q m s hI (Nat.le_refl _) (by omega) hu (fun z => by omega)
 | f + 1, m, s, h1, hf, hu, hI, q => by
  have hm : m < n := by omega
  refine A.as _ _ _ s (hp.lt hm) (hp.lt (by omega)) (hp.ne hm (by omega) (by omega)) hI fun s' hI' => ?_
  cases hc : lt (p.getD m 0) (p.getD (m - 1) 0) with
  | true =>
   dsimp only; rw [if_pos rfl]
   exact q m s' hI' (Nat.le_refl _) (by omega) hu (fun _ => hc)
  | false =>
   dsimp only; rw [if_neg (by simp)]
   have hl : lt (p.getD (m - 1) 0) (p.getD m 0) = true := by rw [T.tot _ _ (hp.lt (by omega)) (hp.lt hm) (hp.ne (by omega) hm (by omega)), hc]; rfl
   exact asc_ok A T hp f (m + 1) s' (by omega) (by omega) (hu.snoc T hp hm (by omega) hl) hI' fun k s2 a b c d e => q k s2 a (by omega) c d e
def Dn (lt : Nat → Nat → Bool) (p : Array Nat) (k : Nat) : Prop := ∀ i j, i < j → j < k → lt (p.getD j 0) (p.getD i 0) = true
theorem Dn.snoc (T : StrictT n lt) {p : Array Nat} (hp : Places n p) {k : Nat} (hk : k < n) (h : Dn lt p k) (h0 : 0 < k) (hl : lt (p.getD k 0) (p.getD (k - 1) 0) = true) : Dn lt p (k + 1) := by
 intro i j hij hj
 rcases Nat.lt_or_ge j k with z | z
 ·exact h i j hij z
 ·have : j = k := by omega
  subst this
  rcases Nat.lt_or_ge i (j - 1) with w | w
  ·exact T.tr _ _ _ (hp.lt hk) (hp.lt (by omega)) (hp.lt (by omega)) hl (h i (j - 1) w (by omega))
  ·have : i = j - 1 := by omega
   subst this; exact hl
theorem desc_ok (A : Ans n lt I cmp) (T : StrictT n lt) {p : Array Nat} (hp : Places n p) {Q : Array Nat × Nat × Nat → Shared → Prop} : ∀ (f m : Nat) (s : Shared), 1 ≤ m → m + f = n → Dn lt p m → I s →
  (∀ k s', I s' → m ≤ k → k ≤ n → Dn lt p k → Q (p, k, 0) s') → (kas_desc f p m 0).kasWp cmp Q s
 | 0, m, s, h1, hf, hu, hI, q => q m s hI (Nat.le_refl _) (by omega) hu
 | f + 1, m, s, h1, hf, hu, hI, q => by
  have hm : m < n := by omega
  refine A.as _ _ _ s (hp.lt hm) (hp.lt (by omega)) (hp.ne hm (by omega) (by omega)) hI fun s' hI' => ?_
  cases hc : lt (p.getD m 0) (p.getD (m - 1) 0) with
  | true =>
   dsimp only; rw [if_pos rfl, if_neg (by simp)]
   exact desc_ok A T hp f (m + 1) s' (by omega) (by omega) (hu.snoc T hp hm (by omega) hc) hI' fun k s2 a b c d => q k s2 a (by omega) c d
  | false =>
   dsimp only; rw [if_neg (by simp)]
   refine A.as _ _ _ s' (hp.lt (by omega)) (hp.lt hm) (hp.ne (by omega) hm (by omega)) hI' fun s2 hI2 => ?_
   have hl : lt (p.getD (m - 1) 0) (p.getD m 0) = true := by rw [T.tot _ _ (hp.lt (by omega)) (hp.lt hm) (hp.ne (by omega) hm (by omega)), hc]; rfl
   rw [hl]; dsimp only; rw [if_pos rfl]
   exact q m s2 hI2 (Nat.le_refl _) (by omega) hu
theorem getD_rev {p : Array Nat} {j k : Nat} (hj : j ≤ p.size) : (kas_rev p 0 j).getD k 0 = if k < j then p.getD (j - 1 - k) 0 else p.getD k 0 := by
 have := getElem?_mirror_all (xs := p) (i := 0) (j := j) hj k
 unfold kas_rev
 rw [Array.getD_eq_getD_getElem?, this]
 by_cases h : k < j
 ·simp [h, Array.getD_eq_getD_getElem?]
 ·simp [h, Array.getD_eq_getD_getElem?]
theorem Dn.rev {p : Array Nat} (hp : Places n p) {k : Nat} (hk : k ≤ n) (h : Dn lt p k) : Up lt (kas_rev p 0 k) k := by
 intro i j hij hj
 have hs := hp.size
 rw [getD_rev (by omega), getD_rev (by omega), if_pos (by omega), if_pos hj]
 exact h _ _ (by omega) (by omega)
theorem count_ok (A : Ans n lt I cmp) (T : StrictT n lt) (h2 : 2 ≤ n) {p : Array Nat} (hp : Places n p) {Q : Nat × Array Nat → Shared → Prop} {s : Shared} (hI : I s)
  (q : ∀ k p' s', I s' → 1 ≤ k → k ≤ n → Places n p' → Up lt p' k → Q (k, p') s') : (kas_count n p).kasWp cmp Q s := by
 unfold kas_count
 rw [KasT.kasWp_bind]
 refine asc_ok A T hp (n - 1) 1 s (Nat.le_refl _) (by omega) (fun i j a b => by omega) hI fun m s1 hI1 m1 m2 hu hs => ?_
 by_cases hm : m = n
 ·subst hm
  rw [if_pos (by simp)]
  exact q m p s1 hI1 m1 (Nat.le_refl _) hp hu
 ·rw [if_neg (by simpa using hm)]
  by_cases hm1 : m > 1
  ·rw [if_pos hm1]
   refine A.as _ _ _ s1 (hp.lt (by omega)) (hp.lt (by omega)) (hp.ne (by omega) (by omega) (by omega)) hI1 fun s2 hI2 => ?_
   rw [hu 0 (m - 1) (by omega) (by omega)]; dsimp only; rw [if_pos rfl]
   exact q m p s2 hI2 m1 (by omega) hp hu
  ·rw [if_neg hm1]
   have : m = 1 := by omega
   subst this
   have h10 := hs (by omega)
   unfold kas_descPart
   rw [KasT.kasWp_bind]
   refine desc_ok A T hp (n - (1 + 1)) (1 + 1) s1 (by omega) (by omega) (fun i j a b => ?_) hI1 fun k s2 hI2 k1 k2 hd => ?_
   ·have : i = 0 := by omega
    have : j = 1 := by omega
    subst_vars
    exact h10
   ·rw [if_neg (by simp)]
    unfold kas_tail3
    rw [KasT.kasWp_bind]
    have hp' := hp.rev 0 k
    refine asc_ok A T hp' (n - k) k s2 (by omega) (by omega) (hd.rev hp k2) hI2 fun m s3 hI3 a b c d => ?_
    exact q m _ s3 hI3 (by omega) b hp' c
theorem place_ok (A : Ans n lt I cmp) (T : StrictT n lt) {p : Array Nat} (hp : Places n p) {k : Nat} (hk : k < n) (hu : Up lt p k) {Q : Nat → Shared → Prop} : ∀ (f l r : Nat) (s : Shared), r - l ≤ f → l ≤ r → r ≤ k → I s →
  (∀ i, i < l → lt (p.getD i 0) (p.getD k 0) = true) → (∀ i, r ≤ i → i < k → lt (p.getD k 0) (p.getD i 0) = true) →
  (∀ l s', I s' → l ≤ k → (∀ i, i < l → lt (p.getD i 0) (p.getD k 0) = true) → (∀ i, l ≤ i → i < k → lt (p.getD k 0) (p.getD i 0) = true) → Q l s') → (kas_place p k f l r).kasWp cmp Q s
 | 0, l, r, s, hf, hlr, hrk, hI, h1, h2, q => q l s hI (by omega) h1 (fun i a b => h2 i (by omega) b)
 | f + 1, l, r, s, hf, hlr, hrk, hI, h1, h2, q => by
  unfold kas_place
  by_cases hge : l ≥ r
  ·rw [if_pos hge]
   exact q l s hI (by omega) h1 (fun i a b => h2 i (by omega) b)
  ·rw [if_neg hge]
   have hm : (l + r) / 2 < k := by omega
   refine A.as _ _ _ s (hp.lt hk) (hp.lt (by omega)) (hp.ne hk (by omega) (by omega)) hI fun s' hI' => ?_
   cases hc : lt (p.getD k 0) (p.getD ((l + r) / 2) 0) with
   | true =>
    dsimp only; rw [if_pos rfl]
    refine place_ok A T hp hk hu f l ((l + r) / 2) s' (by omega) (by omega) (by omega) hI' h1 (fun i a b => ?_) q
    rcases Nat.lt_or_ge ((l + r) / 2) i with z | z
    ·exact T.tr _ _ _ (hp.lt hk) (hp.lt (by omega)) (hp.lt (by omega)) hc (hu _ _ z b)
    ·have : i = (l + r) / 2 := by omega
     rw [this]; exact hc
   | false =>
    dsimp only; rw [if_neg (by simp)]
    have hl : lt (p.getD ((l + r) / 2) 0) (p.getD k 0) = true := by rw [T.tot _ _ (hp.lt (by omega)) (hp.lt hk) (hp.ne (by omega) hk (by omega)), hc]; rfl
    refine place_ok A T hp hk hu f ((l + r) / 2 + 1) r s' (by omega) (by omega) hrk hI' (fun i a => ?_) h2 q
    rcases Nat.lt_or_ge i ((l + r) / 2) with z | z
    ·exact T.tr _ _ _ (hp.lt (by omega)) (hp.lt (by omega)) (hp.lt hk) (hu _ _ z hm) hl
    ·have : i = (l + r) / 2 := by omega
     rw [this]; exact hl
theorem getD_bubble {p : Array Nat} {k d i : Nat} (hk : k < p.size) (hd : d ≤ k) : (PyProof.Rows.bubble p k d).getD i 0 = if i = k - d then p.getD k 0 else if k - d < i ∧ i ≤ k then p.getD (i - 1) 0 else p.getD i 0 := by
 rw [Array.getD_eq_getD_getElem?, getElem?_bubble hk d hd i]
 by_cases h1 : i = k - d
 ·rw [if_pos h1, if_pos h1, Array.getD_eq_getD_getElem?]
 ·rw [if_neg h1, if_neg h1]
  by_cases h2 : k - d < i ∧ i ≤ k
  ·rw [if_pos h2, if_pos h2, Array.getD_eq_getD_getElem?]
  ·rw [if_neg h2, if_neg h2, Array.getD_eq_getD_getElem?]
theorem Up.ins (T : StrictT n lt) {p : Array Nat} (hp : Places n p) {k l : Nat} (hk : k < n) (hu : Up lt p k) (hl : l ≤ k) (h1 : ∀ i, i < l → lt (p.getD i 0) (p.getD k 0) = true) (h2 : ∀ i, l ≤ i → i < k → lt (p.getD k 0) (p.getD i 0) = true) : Up lt (PyProof.Rows.bubble p k (k - l)) (k + 1) := by
 have hs := hp.size
 intro i j hij hj
 rw [getD_bubble (by omega) (by omega), getD_bubble (by omega) (by omega)]
 have e : k - (k - l) = l := by omega
 rw [e]
 by_cases hi : i = l
 ·rw [if_pos hi, if_neg (by omega), if_pos (by omega)]
  exact h2 _ (by omega) (by omega)
 ·rw [if_neg hi]
  by_cases hi2 : l < i ∧ i ≤ k
  ·rw [if_pos hi2, if_neg (by omega), if_pos (by omega)]
   exact hu _ _ (by omega) (by omega)
  ·rw [if_neg hi2]
   by_cases hj1 : j = l
   ·rw [if_pos hj1]; exact h1 _ (by omega)
   ·rw [if_neg hj1]
    by_cases hj2 : l < j ∧ j ≤ k
    ·rw [if_pos hj2]; exact hu _ _ (by omega) (by omega)
    ·rw [if_neg hj2]; exact hu _ _ hij (by omega)
theorem bin_ok (A : Ans n lt I cmp) (T : StrictT n lt) {Q : Array Nat → Shared → Prop} : ∀ (f : Nat) (p : Array Nat) (k : Nat) (s : Shared), k + f = n → Places n p → Up lt p k → I s → (∀ p' s', I s' → Places n p' → Up lt p' n → Q p' s') → (kas_bin f p k).kasWp cmp Q s
 | 0, p, k, s, hf, hp, hu, hI, q => q p s hI hp (by rw [show n = k by omega]; exact hu)
 | f + 1, p, k, s, hf, hp, hu, hI, q => by
  unfold kas_bin
  rw [KasT.kasWp_bind]
  have hk : k < n := by omega
  refine place_ok A T hp hk hu k 0 k s (by omega) (by omega) (Nat.le_refl _) hI (fun i z => by omega) (fun i a b => by omega) fun l s' hI' hl h1 h2 => ?_
  exact bin_ok A T f _ (k + 1) s' (by omega) (hp.bubble _ _) (hu.ins T hp hk hl h1 h2) hI' q
theorem sort_ok (A : Ans n lt I cmp) (T : StrictT n lt) (h2 : 2 ≤ n) {Q : Array Nat → Shared → Prop} {s : Shared} (hI : I s) (q : ∀ p s', I s' → Places n p → Up lt p n → Q p s') : (kas_sort n).kasWp cmp Q s := by
 unfold kas_sort
 rw [KasT.kasWp_bind]
 refine count_ok A T h2 (places0 n) hI fun k p s1 hI1 k1 k2 hp hu => ?_
 dsimp only
 by_cases hk : k < n
 ·rw [if_pos hk, show max k 1 = k by omega]
  exact bin_ok A T (n - k) p k s1 (by omega) hp hu hI1 q
 ·rw [if_neg hk]
  exact q p s1 hI1 hp (by rw [show n = k by omega]; exact hu)
end
end L2

namespace L2
open PySem PySem.Spec PyProof.Rows PySem.W PySem.Calls
def ltP (p q : Int × Str) : Bool := decide (p.1 < q.1) || (decide (p.1 = q.1) && decide (p.2.cps.toList < q.2.cps.toList))
def IsPr (h : Heap) (v : Value) (p : Int × Str) : Prop := ∃ a o n t u, v = .ref a ∧ h.get? a = some o ∧ o.cls = .type "tuple" ∧ o.data = .seq #[.int p.1 t, .str p.2 u] n
section
variable {P : Program} {w : World} {A : Around} {E : Value → Shared → Prop} {s : Shared}
theorem lt_pair {v u : Value} {p q : Int × Str} {Q : Bool → Shared → Prop} (hv : IsPr s.heap v p) (hu : IsPr s.heap u q) (h : Q (ltP p q) s) : wpAny (model P w) A (keyLt' (tuples' true) v u) Q E s := by
 obtain ⟨a, oa, na, t1, t2, rfl, ha, _, da⟩ := hv
 obtain ⟨b, ob, nb, t3, t4, rfl, hb, _, db⟩ := hu
 refine kat_lt ha da hb db (kat_cons ((intKind P w).eqBool (intKind_is _ _ _ _) (intKind_is _ _ _ _) (kat_go (fun e1 => ?_) fun e1 => ?_)))
 ·have e1 : p.1 = q.1 := by simpa using e1
  refine kat_yes (kat_cons ((PySem.strKind P w).eqBool (strKind_is _ _ _ _) (strKind_is _ _ _ _) (kat_go (fun e2 => ?_) fun e2 => ?_)))
  ·have e2 : p.2 = q.2 := by simpa using e2
   refine kat_yes (kat_nil ?_)
   have : ltP p q = false := by unfold ltP; rw [e1, e2]; simp
   rw [this] at h
   simpa using h
  ·have e2 : p.2 ≠ q.2 := by simpa using e2
   refine kat_no (kat_one _ _ ?_)
   have : ltP p q = decide (p.2.cps.toList < q.2.cps.toList) := by unfold ltP; simp [e1]
   rw [this] at h
   exact lt_str h
 ·have e1 : p.1 ≠ q.1 := by simpa using e1
  refine kat_no ?_
  show wpAny _ _ (oneLt' true _ _) _ _ _
  refine oneLt_int ?_
  have : ltP p q = decide (p.1 < q.1) := by unfold ltP; simp [e1]
  rw [this] at h
  exact h
theorem ltP_strict {n : Nat} {kp : Nat → Int × Str} (hd : ∀ i j, i < n → j < n → kp i = kp j → i = j) : StrictT n fun i j => ltP (kp i) (kp j) := by
 have tl : ∀ a b : Str, a ≠ b → (decide (a.cps.toList < b.cps.toList)) = !decide (b.cps.toList < a.cps.toList) := fun a b h => by
  by_cases z : a.cps.toList < b.cps.toList
  ·rw [decide_eq_true z, decide_eq_false (List.lt_asymm z)]; rfl
  ·have z2 : b.cps.toList ≤ a.cps.toList := List.not_lt.mp z
   have : b.cps.toList < a.cps.toList := by
    rcases Classical.em (b.cps.toList < a.cps.toList) with y | y
    ·exact y
    ·exact absurd (str_ext (List.le_antisymm (List.not_lt.mp y) z2)) h
   rw [decide_eq_false z, decide_eq_true this]; rfl
 refine ⟨fun i j hi hj hij => ?_, fun i j k hi hj hk h1 h2 => ?_⟩
 ·have hne : kp i ≠ kp j := fun e => hij (hd i j hi hj e)
  unfold ltP
  by_cases e : (kp i).1 = (kp j).1
  ·have e2 : (kp i).2 ≠ (kp j).2 := fun z => hne (Prod.ext e z)
   simp only [e, Int.lt_irrefl, decide_false, Bool.false_or, decide_true, Bool.true_and]
   exact tl _ _ e2
  ·have e' : (kp j).1 ≠ (kp i).1 := fun z => e z.symm
   simp only [e, e', decide_false, Bool.false_and, Bool.or_false]
   by_cases z : (kp i).1 < (kp j).1
   ·rw [decide_eq_true z, decide_eq_false (by omega)]; rfl
   ·rw [decide_eq_false z, decide_eq_true (by omega)]; rfl
 ·unfold ltP at h1 h2 ⊢
  simp only [Bool.or_eq_true, Bool.and_eq_true, decide_eq_true_eq] at h1 h2 ⊢
  rcases h1 with h1 | ⟨h1, h1'⟩ <;> rcases h2 with h2 | ⟨h2, h2'⟩
  ·left; omega
  ·left; omega
  ·left; omega
  ·right; exact ⟨h1.trans h2, List.lt_trans h1' h2'⟩
theorem pairs_kind {ks : List Value} {kp : Nat → Int × Str} (hk : ∀ i v, ks[i]? = some v → IsPr s.heap v (kp i)) (h2 : 2 ≤ ks.length) {Q : SortKind → Shared → Prop} (h : Q (tuples' true) s) : wpAny (model P w) A (keyKind' ks.toArray) Q E s := by
 have key : ∀ (ks : List Value) (kp : Nat → Int × Str), (∀ i v, ks[i]? = some v → IsPr s.heap v (kp i)) → ∃ fs : List Value, KatTups s.heap ks fs ∧ fs.length = ks.length ∧ ∀ v ∈ fs, ∃ n t, v = Value.int n t := by
  intro ks
  induction ks with
  | nil => intro kp _; exact ⟨[], KatTups.nil, rfl, by simp⟩
  | cons v ks ih =>
   intro kp hk
   obtain ⟨fs, a, b, c⟩ := ih (fun i => kp (i + 1)) fun i v e => hk (i + 1) v (by simpa using e)
   obtain ⟨ad, o, n, t, u, rfl, h1, h2, h3⟩ := hk 0 v rfl
   refine ⟨.int (kp 0).1 t :: fs, KatTups.cons h1 h2 h3 rfl a, by simp [b], fun x hx => ?_⟩
   rcases List.mem_cons.mp hx with rfl | hx
   ·exact ⟨_, _, rfl⟩
   ·exact c x hx
 obtain ⟨fs, a, b, c⟩ := key ks kp hk
 refine kat_kind (T := .type "int") a (by omega) (fun v hv => ?_) (by decide) h
 obtain ⟨n, t, rfl⟩ := c v hv
 exact .now
theorem pairs_sort {n : Nat} {ks : List Value} {kp : Nat → Int × Str} (hn : ks.length = n) (h2 : 2 ≤ n) (hk : ∀ i v, ks[i]? = some v → IsPr s.heap v (kp i)) (hd : ∀ i j, i < n → j < n → kp i = kp j → i = j) {G : Array Nat → Shared → Prop}
  (q : ∀ p, Places n p → Up (fun i j => ltP (kp i) (kp j)) p n → G p s) : (kas_sort n).kasWp (kas_ask P w A (tuples' true) ks) G s := by
 refine sort_ok (lt := fun i j => ltP (kp i) (kp j)) (I := fun s' => s' = s) ⟨fun i j C s' hi hj hij e c => ?_⟩ (ltP_strict hd) h2 rfl fun p s' e hp hu => by subst e; exact q p hp hu
 subst e
 have ei : ks[i]? = some (ks.getD i .none) := by simp [show i < ks.length by omega]
 have ej : ks[j]? = some (ks.getD j .none) := by simp [show j < ks.length by omega]
 exact lt_pair (hk i _ ei) (hk j _ ej) (c _ rfl)
def SortEnd (kS D : Addr) (s : Shared) (out : List Value) (C : Shared → Prop) : Prop := ∀ h' c, h'.get? D = some (seqObj "list" out.toArray c) → (∀ b u, b ≠ kS → b ≠ D → s.heap.get? b = some u → h'.get? b = some u) → C { s with heap := h' }
theorem tail_ok {st : SortSt} {kS D : Addr} {ks out : List Value} {e e1 : Nat} {C : PySem.Fin → Shared → Prop} (hk : s.heap.get? kS = some (seqObj "list" ks.toArray e)) (hD : s.heap.get? D = some (seqObj "list" #[] e1)) (hne : kS ≠ D) (hf : failedOf st = none)
  (ho : (arrOf st).map (·.2) = out.toArray) (h64 : out.length < 64) (hk64 : ks.length < 64) (q : SortEnd kS D s out (C (.done (.ret .none)))) : wpAny (model P w) A (ksk_tail D false e1 (.ref kS) st) C E s := by
 have hsl : sizeLine = 16777216 := sizeLine_eq
 unfold ksk_tail
 rw [ho]
 refine wpAny_bind (listUpdate_at hk rfl (wpAny_bind (wpAny_letGo ?_)) (by rw [List.size_toArray]; omega) (Nat.zero_le _))
 have u1 := Heap.SameBut.update s.heap kS (Obj.mapSeq fun _ => (#[] : Array Value))
 have hD1 : (s.heap.update kS (Obj.mapSeq fun _ => (#[] : Array Value))).get? D = some (seqObj "list" #[] e1) := (u1.2 D (Ne.symm hne)).trans hD
 refine wpAny_bind (seqEpoch_at (s := { s with heap := s.heap.update kS (Obj.mapSeq fun _ => (#[] : Array Value)) }) hD1 rfl ?_)
 rw [if_neg (by simp)]
 refine wpAny_bind (listUpdate_at (s := { s with heap := s.heap.update kS (Obj.mapSeq fun _ => (#[] : Array Value)) }) hD1 rfl ?_ (Nat.zero_le _) (by show out.toArray.size ≤ _; rw [List.size_toArray]; omega))
 have u2 := Heap.SameBut.update (s.heap.update kS (Obj.mapSeq fun _ => (#[] : Array Value))) D (Obj.mapSeq fun _ => out.toArray)
 rw [hf]
 simp only [bne_self_eq_false, Bool.false_eq_true, if_false]
 exact wpAny_pure (q _ _ (get?_update_seq hD1 fun _ => out.toArray) fun b u n1 n2 z => (u2.2 b n2).trans ((u1.2 b n1).trans z))
theorem end_ok {kS D : Addr} {vs ks : List Value} {n e e1 : Nat} {kp : Nat → Int × Str} {C : PySem.Fin → Shared → Prop} (hv : vs.length = n) (hn : ks.length = n) (h64 : n < 64) (hks : s.heap.get? kS = some (seqObj "list" ks.toArray e)) (hD : s.heap.get? D = some (seqObj "list" #[] e1)) (hne : kS ≠ D)
  (hk : ∀ i v, ks[i]? = some v → IsPr s.heap v (kp i)) (hd : ∀ i j, i < n → j < n → kp i = kp j → i = j)
  (q : ∀ p, Places n p → Up (fun i j => ltP (kp i) (kp j)) p n → SortEnd kS D s (p.toList.map fun i => vs.getD i .none) (C (.done (.ret .none)))) : wpAny (model P w) A (ksk_end D false vs.toArray e1 (.ref kS) ks.toArray) C E s := by
 unfold ksk_end
 have hz : vs.toArray.size = n := by rw [List.size_toArray]; exact hv
 by_cases h2 : n < 2
 ·simp only [Bool.false_eq_true, if_false, hz, h2, if_true]
  refine wpAny_bind (wpAny_pure (wpAny_bind (wpAny_pure ?_)))
  refine tail_ok hks hD hne rfl (out := vs) ?_ (by omega) (by omega) ?_
  ·show (ks.toArray.zip vs.toArray).map (·.2) = vs.toArray
   apply Array.toList_inj.mp
   simp only [Array.toList_map, Array.toList_zip]
   rw [List.map_snd_zip (by omega)]
  ·have := q _ (places0 n) (fun i j a b => by omega)
   have e : ((List.toArray (List.range n)).toList.map fun i => vs.getD i Value.none) = vs := by
    apply List.ext_getElem (by simp [hv])
    intro i a b
    simp at a b ⊢
    rw [List.getElem?_eq_getElem b]; rfl
   rw [e] at this
   exact this
 ·simp only [Bool.false_eq_true, if_false, hz, h2]
  refine wpAny_bind (pairs_kind hk (by omega) ?_)
  have hl : ks.length = vs.length := by omega
  refine wpAny_bind (wpAny_mono (kat_run (κ := tuples' true) (E := fun _ _ => False) (Q := fun st' s' => s' = s ∧ ∃ p, Places n p ∧ Up (fun i j => ltP (kp i) (kp j)) p n ∧ arrOf st' = p.map (kas_item (ks.toArray.zip vs.toArray)) ∧ failedOf st' = none) (G := fun p s' => s' = s ∧ Places n p ∧ Up (fun i j => ltP (kp i) (kp j)) p n) hl (by omega) (by omega)
   (fun p st' s' a b c d => ⟨d.1, p, d.2.1, d.2.2, b, c⟩) ?_) (fun r s' hr => ?_) fun _ _ x => x.elim)
  ·rw [hv]
   exact pairs_sort hn (by omega) hk hd fun p a b => ⟨rfl, a, b⟩
  ·obtain ⟨rfl, p, p1, p2, p3, p4⟩ := hr
   refine tail_ok hks hD hne p4 (kat_snds hl p3) ?_ (by omega) (q p p1 p2)
   rw [List.length_map, Array.length_toList, p1.size]; exact h64
end
end L2

namespace L2
open PySem PySem.Spec PyProof.Rows PySem.W PySem.Calls
section
variable {X : Cx} {pins : List (Addr × Obj)} {σ : St} {H : Hp} {s : Shared}
theorem Inv.track {o : HO} {D : Addr} {ch : List Addr} {t' : Nat} {h' : Heap} (I : Inv X pins σ H s) (hD : D ∈ ch) (f : ∀ b ∈ ch, FpOk X pins H b) (k : ∀ b u, b ∉ ch → s.heap.get? b = some u → h'.get? b = some u) (new : ObjOk X.prog X.w (upd H D o) h' D o) : Inv X pins σ (upd H D o) { s with heap := h', toks := t' } := by
 have nC : ∀ b u, H b = some u → b ∉ ch := fun b u e z => by rw [(f b z).1] at e; cases e
 have nD : ∀ b u, H b = some u → b ≠ D := fun b u e z => nC b u e (by rw [z]; exact hD)
 refine I.step (g' := s.gens) (d' := s.drawn) (ch := ch) (fun b hb => ?_) (fun b o _ _ hc e _ => k b o hc e) (fun b o _ _ hc e _ => ⟨o.slots, k b o hc e⟩) (fun b o hc _ n => by rw [upd_ne (fun z => hc (by rw [z]; exact hD))]; exact n)
  (fun b o hc e => ⟨o, k b o hc e⟩) (fun b xs e => by rw [upd_ne (nD _ _ e)]; exact e) (fun b u xs e => by rw [upd_ne (nD _ _ e)]; exact e) (fun b ps e => ⟨#[], by rw [upd_ne (nD _ _ e), e]; simp⟩) (fun m hm => hm.at' fun o e => k _ o (fun z => (f _ z).2.1 rfl) e) (fun b u e => ?_) I.bare
 ·obtain ⟨f0, f1, f2, f3, f4, f5⟩ := f b hb; exact ⟨f3, f1, f4, f5⟩
 ·by_cases hb : b = D
  ·subst hb
   rw [upd_same] at e; cases e
   exact new
  ·rw [upd_ne hb] at e
   refine (I.hok b u e).stay (fun c v hc q => k c v (fun z => ?_) q) (fun c q => by rw [upd_ne (nD _ _ q)]; exact q) (fun c xs q => by rw [upd_ne (nD _ _ q)]; exact q)
   rcases hc with r | r
   ·subst r; exact nC _ _ e z
   ·exact nC _ _ r z
theorem run_in {k : Nat} {f : Addr} {fd : FuncData} {ps : List Str} {sp : Sp} {v : V} {u : Value} {Q : VK} (Fk : FnOk X.prog X.w X.K X.mg X.base CX0 k f fd ps sp) (hr : Room k X.A.in1.in1) (hb : Binds X.K fd ps []) (I : Inv X pins σ H s) (r : RelV v u) (h : sp [v] H Q E0) :
  wpAny (model X.prog X.w) X.A.in1.in1 (call (.ref f) [u]) (EP X pins σ Q) (fun _ _ => False) s := by
 have r2 : Vals [v] [u] := .cons r .nil
 have hl : ([u] ++ []).length = ps.length := by
  have := Fk.len _ _ _ _ h
  simpa using this
 have hb2 := hb s [u] I.kIn hl
 rw [List.append_nil] at hb2
 refine wpAny_call (codeAny_mono (Fk.run X.A.in1.in1 X.stack s H ⟨[u], []⟩ [u] [v] Q E0 hr I.env0.in1.in1 hb2 r2 h) fun r s' hq => ?_)
 cases r with
 | error e => exact hq.elim
 | ok fl =>
  cases fl with
  | ret u => exact I.after hq
  | next => exact False.elim hq
  | brk => exact False.elim hq
  | cont => exact False.elim hq
def Out (X : Cx) (pins : List (Addr × Obj)) (b : Addr) : Prop := b ≠ X.env.locals ∧ b ∉ X.fs ∧ (b ∈ X.ex ∨ X.s₀.heap.objs.size ≤ b) ∧ (∀ x c, X.env.cells.lookup x = some c → c ≠ b) ∧ ∀ p ∈ X.pn ++ pins, p.1 ≠ b
theorem Inv.out (I : Inv X pins σ H s) {b : Addr} (hb : s.heap.objs.size ≤ b) : Out X pins b := (I.fpOk (H' := H) hb (I.hok.fresh hb)).2
structure Mid (X : Cx) (pins : List (Addr × Obj)) (σ : St) (H : Hp) (O : Ex) (kS D : Addr) (e1 : Nat) (kds : List PyData) (ks : List Value) (s : Shared) : Prop where
 ex : ∃ H' kvs e, Inv X (pins ++ [(kS, seqObj "list" ks.toArray e), (D, seqObj "list" #[] e1)]) σ H' s ∧ Same H H' ∧ Dts X.K H' O kvs kds ∧ Vals kvs ks
theorem Mid.push {O : Ex} {kS D : Addr} {e1 : Nat} {kds : List PyData} {ks : List Value} {H' : Hp} {kvs : List V} {e : Nat} {h' : Heap} {kv : V} {kd : PyData} {k : Value} (oS : Out X pins kS) (oD : Out X pins D) (hne : kS ≠ D)
  (I : Inv X (pins ++ [(kS, seqObj "list" ks.toArray e), (D, seqObj "list" #[] e1)]) σ H' s) (hs : Same H H') (hk : Dts X.K H' O kvs kds) (hv : Vals kvs ks) (k1 : Dt X.K H' O kv kd) (k2 : RelV kv k)
  (hu : ∃ e', h'.get? kS = some (seqObj "list" (ks ++ [k]).toArray e')) (kept : ∀ b u, b ≠ kS → s.heap.get? b = some u → h'.get? b = some u) : Mid X pins σ H O kS D e1 (kds ++ [kd]) (ks ++ [k]) { s with heap := h' } := by
 obtain ⟨e', hu⟩ := hu
 have pS := I.pin (kS, seqObj "list" ks.toArray e) (by simp)
 have pD := I.pin (D, seqObj "list" #[] e1) (by simp)
 have I1 : Inv X pins σ H' s := I.pins_of fun p hp => I.pin p (by simp only [List.mem_append] at hp ⊢; exact .inr (.inl hp))
 have I2 : Inv X pins σ H' { s with heap := h' } := I1.turned (t' := s.toks) (it := kS) kept pS.2.1 oS.1 oS.2.2.1 oS.2.2.2.1 oS.2.2.2.2
 refine ⟨H', kvs ++ [kv], e', I2.pins_of fun p hp => ?_, hs, hk.append (.cons k1 .nil), hv.append (.cons k2 .nil)⟩
 rcases List.mem_append.mp hp with z | z
 ·exact I2.pin p (List.mem_append_right _ z)
 ·simp only [List.mem_cons, List.not_mem_nil, or_false] at z
  rcases z with rfl | rfl
  ·exact ⟨hu, pS.2.1, oS.1, oS.2.1, fun v z => by cases z⟩
  ·exact ⟨kept _ _ (Ne.symm hne) pD.1, pD.2.1, oD.1, oD.2.1, fun v z => by cases z⟩
theorem keys_ok {k : Nat} {f : Addr} {fd : FuncData} {ps : List Str} {F : List PyData → (PyData → Prop) → Prop} {O : Ex} {kS D : Addr} {e1 : Nat} {kd : PyData → PyData} (Fk : FnOk X.prog X.w X.K X.mg X.base CX0 k f fd ps (spD X.K F)) (hr : Room k X.A.in1.in1) (hb : Binds X.K fd ps []) (trk : ∀ l, O l → H l ≠ none)
  (oS : Out X pins kS) (oD : Out X pins D) (hne : kS ≠ D) {body : Value → PUnit → Sem (ForInStep PUnit)} {E : Value → Shared → Prop}
  (hbo : ∀ (x : Value) (s : Shared) (Q' : Shared → Prop), wpAny (model X.prog X.w) X.A.in1.in1 (call (.ref f) [x]) (fun k s' => wpAny (model X.prog X.w) X.A.in1.in1 (Builtin.List.listUpdate (.ref kS) (·.push k)) (fun _ s'' => Q' s'') (fun _ _ => False) s') (fun _ _ => False) s → wpAny (model X.prog X.w) X.A.in1.in1 (body x ⟨⟩) (fun r s' => r = .yield ⟨⟩ ∧ Q' s') E s) :
  ∀ (r : List Value) (xr : List V) (dr : List PyData) (kds : List PyData) (ks : List Value) (s : Shared) (Q : Shared → Prop), Vals xr r → Dts X.K H O xr dr → (∀ d ∈ dr, ∀ R : PyData → Prop, R (kd d) → F [d] R) → Mid X pins σ H O kS D e1 kds ks s → ks.length + r.length < 64 →
   (∀ ks' s', Mid X pins σ H O kS D e1 (kds ++ dr.map kd) ks' s' → ks'.length = ks.length + r.length → Q s') → wpAny (model X.prog X.w) X.A.in1.in1 (forIn r PUnit.unit body) (fun _ s' => Q s') E s
 | [], xr, dr, kds, ks, s, Q, hv, hd, hF, M, hl, q => by
  cases hv
  cases hd
  rw [List.forIn_nil]
  exact wpAny_pure (q ks s (by rw [List.map_nil, List.append_nil]; exact M) (by simp))
 | x :: r, xr, dr, kds, ks, s, Q, hv, hd, hF, M, hl, q => by
  cases hv with
  | @cons v _ xr _ h1 h2 =>
   cases hd with
   | @cons _ d _ dr g1 g2 =>
    rw [List.forIn_cons]
    rw [List.length_cons] at hl
    obtain ⟨H', kvs, e, I, hs, hk, hvk⟩ := M.ex
    refine wpAny_bind (wpAny_mono (hbo x s (fun s' => ∃ k, Mid X pins σ H O kS D e1 (kds ++ [kd d]) (ks ++ [k]) s') (wpAny_mono (run_in (Q := fun v2 H2 => Same H' H2 ∧ Dt X.K H2 O v2 (kd d)) Fk hr hb I h1 ⟨O, [d], fun y => y = kd d, fun l z e => trk l z (by
     cases q : H l with
     | none => rfl
     | some u => rw [hs _ _ q] at e; cases e), .cons (g1.mono hs) .nil, hF d (by simp) _ rfl, fun y v2 H2 e s2 r2 => by subst e; exact ⟨s2, r2⟩⟩) (fun kk s' hq => ?_) fun _ _ z => z)) (fun r' s' hq => ?_) fun _ _ z => z)
    ·obtain ⟨kv, H2, I2, rk, s2, dk⟩ := hq
     have pS := I2.pin (kS, seqObj "list" ks.toArray e) (by simp)
     refine listUpdate_at pS.1 rfl ⟨kk, ?_⟩ (by rw [List.size_toArray]; have : sizeLine = 16777216 := sizeLine_eq; omega) (by rw [Array.size_push, List.size_toArray]; have : sizeLine = 16777216 := sizeLine_eq; omega)
     have u1 := Heap.SameBut.update s'.heap kS (Obj.mapSeq (·.push kk))
     have gk := get?_update_seq pS.1 (·.push kk)
     rw [show ks.toArray.push kk = (ks ++ [kk]).toArray by simp] at gk
     exact Mid.push oS oD hne I2 (hs.trans s2) (hk.mono s2) hvk dk rk ⟨_, gk⟩ fun b u n z => (u1.2 b n).trans z
    ·obtain ⟨rfl, kk, M'⟩ := hq
     refine keys_ok Fk hr hb trk oS oD hne hbo r xr dr (kds ++ [kd d]) (ks ++ [kk]) s' Q h2 g2 (fun y hy => hF y (by simp [hy])) M' (by simp; omega) fun ks' s2 M2 l2 => q ks' s2 ?_ (by rw [l2]; simp; omega)
     rw [List.map_cons, ← List.singleton_append, ← List.append_assoc]
     exact M2
def prD (p : Int × Str) : PyData := .tuple [.int p.1, .str p.2]
theorem isPr_of {h : V} {u : Value} {O : Ex} {p : Int × Str} (I : Inv X pins σ H s) (d : Dt X.K H O h (prD p)) (r : RelV h u) : IsPr s.heap u p := by
 obtain ⟨a, xs, rfl, hq, hd⟩ := (Sh.dt d).tup
 cases r
 obtain ⟨its, rv, ⟨o, e, c, n, dd⟩, _⟩ := I.tuple hq
 cases hd with
 | cons g1 g2 =>
  cases g2 with
  | cons g2 g3 =>
   cases g3; cases g1; cases g2
   cases rv with
   | cons r1 r2 =>
    cases r2 with
    | cons r2 r3 =>
     cases r3
     obtain ⟨t, rfl⟩ := r1
     obtain ⟨u, rfl⟩ := r2
     exact ⟨a, o, n, t, u, rfl, e, c, dd⟩
theorem dts_get {K : PySem.W.Frag} {H : Hp} {O : Ex} : ∀ {xs : List V} {ds : List PyData} {i : Nat} {d : PyData}, Dts K H O xs ds → ds[i]? = some d → ∃ x, xs[i]? = some x ∧ Dt K H O x d
 | _, _, 0, d, .cons h r, e => by simp at e; subst e; exact ⟨_, rfl, h⟩
 | _, _, i + 1, d, .cons h r, e => by simp only [List.getElem?_cons_succ] at e ⊢; exact dts_get r e
theorem vals_get {xs : List V} {us : List Value} : ∀ {i : Nat} {u : Value}, Vals xs us → us[i]? = some u → ∃ x, xs[i]? = some x ∧ RelV x u := by
 intro i u h e
 have hl := h.length
 have hi : i < us.length := (List.getElem?_eq_some_iff.mp e).1
 obtain ⟨u', e', r⟩ := h.get (show xs[i]? = some (xs[i]'(by omega)) by simp)
 rw [e] at e'; cases e'
 exact ⟨_, by simp, r⟩
theorem mid_keys {O : Ex} {kS D : Addr} {e1 : Nat} {kps : List (Int × Str)} {ks : List Value} (M : Mid X pins σ H O kS D e1 (kps.map prD) ks s) : (∀ i v, ks[i]? = some v → IsPr s.heap v (kps.getD i (0, Str.ofString ""))) ∧ ks.length = kps.length := by
 obtain ⟨H', kvs, e, I, hs, hk, hv⟩ := M.ex
 have hl : ks.length = kps.length := by rw [← hv.length, hk.length, List.length_map]
 refine ⟨fun i v ei => ?_, hl⟩
 have hi : i < kps.length := by rw [← hl]; exact (List.getElem?_eq_some_iff.mp ei).1
 obtain ⟨x, ex, rx⟩ := vals_get hv ei
 obtain ⟨y, ey, dy⟩ := dts_get (i := i) (d := prD kps[i]) hk (by rw [List.getElem?_map, List.getElem?_eq_getElem hi]; rfl)
 rw [ex] at ey; cases ey
 have : kps.getD i (0, Str.ofString "") = kps[i] := by simp [hi]
 rw [this]
 exact isPr_of I dy rx
theorem tree_ok {k : Nat} {f : Addr} {fd : FuncData} {ps : List Str} {F : List PyData → (PyData → Prop) → Prop} {O : Ex} {D : Addr} {n0 : Nat} {kf : PyData → Int × Str} {vs : List Value} {xs : List V} {ds : List PyData} {Q : V → Hp → Prop} {C : PySem.Fin → Shared → Prop} {E : Value → Shared → Prop}
  (Fk : FnOk X.prog X.w X.K X.mg X.base CX0 k f fd ps (spD X.K F)) (hr : Room k X.A.in1.in1) (hb : Binds X.K fd ps []) (trk : ∀ l, O l → H l ≠ none) (I : Inv X pins σ H s) (oD : Out X pins D) (hHD : H D = none) (hD : s.heap.get? D = some (seqObj "list" vs.toArray n0))
  (hv : Vals xs vs) (hd : Dts X.K H O xs ds) (hF : ∀ d ∈ ds, ∀ R : PyData → Prop, R (prD (kf d)) → F [d] R) (h64 : ds.length < 64) (nd : (ds.map kf).Nodup)
  (q : ∀ (H' : Hp) (xs' : List V) (ds' : List PyData), Same H H' → H' D = none → Dts X.K H' O xs' ds' → ds'.Perm ds → ds'.Pairwise (fun a b => ltP (kf a) (kf b) = true) → Q (.ref D) (upd H' D (.lst xs')))
  (fin : ∀ s', EP X pins σ Q (.ref D) s' → C (.done (.ret .none)) s') : wpAny (model X.prog X.w) X.A.in1.in1 (ksk_tree D (.ref f) false) C E s := by
 have hsl : sizeLine = 16777216 := sizeLine_eq
 have lv : vs.length = ds.length := by rw [← hv.length, hd.length]
 have lD : D < s.heap.objs.size := Heap.lt_size hD
 unfold ksk_tree
 refine wpAny_bind (listItems_at hD rfl (wpAny_bind (listUpdate_at hD rfl ?_ (by rw [List.size_toArray]; omega) (Nat.zero_le _))))
 have u1 := Heap.SameBut.update s.heap D (Obj.mapSeq fun _ => (#[] : Array Value))
 have g1 := get?_update_seq hD fun _ => (#[] : Array Value)
 have I1 : Inv X pins σ H { s with heap := s.heap.update D (Obj.mapSeq fun _ => (#[] : Array Value)) } := I.turned (t' := s.toks) (it := D) (fun b u n z => (u1.2 b n).trans z) hHD oD.1 oD.2.2.1 oD.2.2.2.1 oD.2.2.2.2
 generalize s.heap.update D (Obj.mapSeq fun _ => (#[] : Array Value)) = h1 at *
 generalize (if (#[] : Array Value).size == vs.toArray.size then n0 else n0 + 1) = e1 at *
 refine wpAny_bind (seqEpoch_at (s := { s with heap := h1 }) g1 rfl ?_)
 refine wpAny_bind (wpAny_newTuple ?_ (by show vs.length ≤ _; omega))
 have I2 : Inv X pins σ H { s with heap := h1.push { cls := .type "tuple", data := .seq vs.toArray } } := I1.kept (t' := s.toks) fun b u z => Heap.get?_push_of_some _ z
 have g2 : (h1.push { cls := .type "tuple", data := .seq vs.toArray }).get? D = some (seqObj "list" #[] e1) := Heap.get?_push_of_some _ g1
 show wpAny _ _ _ _ _ { s with heap := h1.push { cls := .type "tuple", data := .seq vs.toArray } }
 generalize h1.push { cls := .type "tuple", data := .seq vs.toArray } = h2 at *
 refine wpAny_bind (wpAny_newList (s := { s with heap := h2 }) ?_ (Nat.zero_le _))
 have oS : Out X pins h2.objs.size := I2.out (Nat.le_refl _)
 have hne : h2.objs.size ≠ D := Nat.ne_of_gt (Heap.lt_size g2)
 have I3 : Inv X pins σ H { s with heap := h2.push (seqObj "list" #[] 0) } := I2.kept (t' := s.toks) fun b u z => Heap.get?_push_of_some _ z
 have hS0 : H h2.objs.size = none := I2.hok.fresh (Nat.le_refl _)
 have M0 : Mid X pins σ H O h2.objs.size D e1 [] [] { s with heap := h2.push (seqObj "list" #[] 0) } := by
  refine ⟨H, [], 0, I3.pins_of fun p hp => ?_, Same.refl _, .nil, .nil⟩
  rcases List.mem_append.mp hp with z | z
  ·exact I3.pin p (List.mem_append_right _ z)
  ·simp only [List.mem_cons, List.not_mem_nil, or_false] at z
   rcases z with rfl | rfl
   ·exact ⟨Heap.get?_push_size _ rfl, hS0, oS.1, oS.2.1, fun v z => by cases z⟩
   ·exact ⟨Heap.get?_push_of_some _ g2, hHD, oD.1, oD.2.1, fun v z => by cases z⟩
 refine wpAny_holding ?_
 unfold ksk_rest
 refine wpAny_bind (wpAny_rule ?_)
 rw [List.forIn_toArray]
 refine wpAny_bind (keys_ok (kd := fun d => prD (kf d)) (E := E) Fk hr hb trk oS oD hne (fun x s' Q' hx => ?_) vs xs ds [] [] _ _ hv hd hF M0 (by simp; omega) fun ks s' M hkl => ?_)
 ·refine wpAny_bind (wpAny_attempt (wpAny_mono hx (fun kk s2 hk => ?_) fun _ _ z => z.elim))
  exact wpAny_bind (wpAny_mono hk (fun _ s3 z => wpAny_pure ⟨rfl, z⟩) fun _ _ z => z.elim)
 ·rw [List.nil_append, ← Function.comp_def, ← List.map_map] at M
  obtain ⟨hk, hkn⟩ := mid_keys M
  rw [List.length_map] at hkn
  obtain ⟨H', kvs, e, I4, hs, _, _⟩ := M.ex
  have pS := I4.pin (h2.objs.size, seqObj "list" ks.toArray e) (by simp)
  have pD := I4.pin (D, seqObj "list" #[] e1) (by simp)
  have I5 : Inv X pins σ H' s' := I4.pins_of fun p hp => I4.pin p (by simp only [List.mem_append] at hp ⊢; exact .inr (.inl hp))
  refine wpAny_bind (listItems_at pS.1 rfl ?_)
  refine end_ok (n := ds.length) (kp := fun i => (ds.map kf).getD i (0, Str.ofString "")) lv hkn h64 pS.1 pD.1 hne hk (fun i j hi hj ee => ?_) fun p pp pu h' c gD kept => ?_
  ·have e1' : (ds.map kf).getD i (0, Str.ofString "") = (ds.map kf)[i]'(by simpa using hi) := by simp [hi]
   have e2' : (ds.map kf).getD j (0, Str.ofString "") = (ds.map kf)[j]'(by simpa using hj) := by simp [hj]
   rw [e1', e2'] at ee
   exact (List.getElem_inj nd).mp ee
  ·refine fin _ ⟨.ref D, upd H' D (.lst (p.toList.map fun i => xs.getD i .non)), ?_, rfl, q H' _ (p.toList.map fun i => ds.getD i .none) hs pD.2.1 ?_ ?_ ?_⟩
   ·refine I5.track (t' := s'.toks) (ch := [h2.objs.size, D]) (by simp) (fun b hb => ?_) (fun b u hb z => kept b u (fun y => hb (by simp [y])) (fun y => hb (by simp [y])) z) ⟨?_, _, c, ?_, gD⟩
    ·simp only [List.mem_cons, List.not_mem_nil, or_false] at hb
     rcases hb with rfl | rfl
     ·exact ⟨pS.2.1, oS⟩
     ·exact ⟨pD.2.1, oD⟩
    ·rw [List.length_map, Array.length_toList, pp.size]; omega
    ·have : ∀ l : List Nat, (∀ i ∈ l, i < ds.length) → Vals (l.map fun i => xs.getD i .non) (l.map fun i => vs.getD i .none) := by
      intro l
      induction l with
      | nil => intro _; exact .nil
      | cons a l ih =>
       intro hl
       have ha := hl a (by simp)
       refine .cons ?_ (ih fun i hi => hl i (by simp [hi]))
       obtain ⟨x, ex, rx⟩ := vals_get hv (show vs[a]? = some (vs[a]'(by omega)) by simp)
       have e1' : xs.getD a .non = x := by simp [ex]
       have e2' : vs.getD a .none = vs[a]'(by omega) := by simp [show a < vs.length by omega]
       show RelV (xs.getD a .non) (vs.getD a .none)
       rw [e1', e2']; exact rx
     exact this _ fun i hi => by simpa using pp.perm.mem_iff.mp hi
   ·have : ∀ l : List Nat, (∀ i ∈ l, i < ds.length) → Dts X.K H' O (l.map fun i => xs.getD i .non) (l.map fun i => ds.getD i .none) := by
     intro l
     induction l with
     | nil => intro _; exact .nil
     | cons a l ih =>
      intro hl
      have ha := hl a (by simp)
      refine .cons ?_ (ih fun i hi => hl i (by simp [hi]))
      obtain ⟨x, ex, dx⟩ := dts_get (i := a) (d := ds[a]) hd (by simp [ha])
      have e1' : xs.getD a .non = x := by simp [ex]
      have e2' : ds.getD a .none = ds[a] := by simp [ha]
      show Dt X.K H' O (xs.getD a .non) (ds.getD a .none)
      rw [e1', e2']; exact dx.mono hs
    exact this _ fun i hi => by simpa using pp.perm.mem_iff.mp hi
   ·have h1 := pp.perm.map fun i => ds.getD i .none
    have e : (List.range ds.length).map (fun i => ds.getD i PyData.none) = ds := by
     apply List.ext_getElem (by simp)
     intro i a b
     simp at a b ⊢
     rw [List.getElem?_eq_getElem b]; rfl
    rw [e] at h1
    exact h1
   ·rw [List.pairwise_map, List.pairwise_iff_getElem]
    intro i j hi hj hij
    have := pu i j hij (by rw [Array.length_toList, pp.size] at hj; exact hj)
    have ei : p.getD i 0 = p.toList[i] := by simp [Array.getD, show i < p.size by simpa using hi]
    have ej : p.getD j 0 = p.toList[j] := by simp [Array.getD, show j < p.size by simpa using hj]
    rw [ei, ej] at this
    have li : p.toList[i] < ds.length := by simpa using pp.perm.mem_iff.mp (List.getElem_mem hi)
    have lj : p.toList[j] < ds.length := by simpa using pp.perm.mem_iff.mp (List.getElem_mem hj)
    have ff : ∀ a, a < ds.length → (ds.map kf).getD a (0, Str.ofString "") = kf (ds.getD a .none) := fun a ha => by simp [ha]
    dsimp only at this
    rw [ff _ li, ff _ lj] at this
    exact this
theorem sorted_key {k : Nat} {f l : Addr} {fd : FuncData} {ps : List Str} {F : List PyData → (PyData → Prop) → Prop} {O : Ex} {kf : PyData → Int × Str} {xs : List V} {ds : List PyData} {Q : VK}
  (hc : X.calm = true) (Fk : FnOk X.prog X.w X.K X.mg X.base CX0 k f fd ps (spD X.K F)) (hr : Room k X.A.in1.in1) (hb : Binds X.K fd ps []) (trk : ∀ l, O l → H l ≠ none) (I : Inv X pins σ H s) (hq : SqL X.K H l xs)
  (hd : Dts X.K H O xs ds) (hF : ∀ d ∈ ds, ∀ R : PyData → Prop, R (prD (kf d)) → F [d] R) (h64 : ds.length < 64) (nd : (ds.map kf).Nodup)
  (q : ∀ (H' : Hp) (p : Addr) (xs' : List V) (ds' : List PyData), Same H H' → H' p = none → Dts X.K H' O xs' ds' → ds'.Perm ds → ds'.Pairwise (fun a b => ltP (kf a) (kf b) = true) → Q (.ref p) (upd H' p (.lst xs'))) :
  wpAny (model X.prog X.w) X.A (call (.builtin "sorted") [.ref l] [(Str.ofString "key", .ref f)]) (EP X pins σ Q) X.xe s := by
 have hsl : sizeLine = 16777216 := sizeLine_eq
 obtain ⟨vs, hv, pl, hz⟩ := I.list hq
 have lv : vs.length = ds.length := by rw [← hv.length, hd.length]
 refine call_function_entry_kw kind_sorted plain_sorted entry_sorted (ksk_s1 _ _) ?_
 unfold Builtin.«sorted»
 refine wpAny_bind (m := checkCount "sorted" 1 1 _) (wpAny_pure ?_)
 refine wpAny_bind (collect_list pl.isList ?_ (by omega))
 have I1 : Inv X pins σ H { s with heap := (s.heap.push (seqObj "list" #[] 0)).update s.heap.objs.size (Obj.mapSeq (· ++ vs.toArray)) } := by
  refine I.kept (t' := s.toks) fun b u z => ?_
  have hlt : b < s.heap.objs.size := Heap.lt_size z
  exact (Heap.get?_update_ne _ _ _ _ (Nat.ne_of_lt hlt)).trans (Heap.get?_push_of_some _ z)
 generalize (s.heap.push (seqObj "list" #[] 0)).update s.heap.objs.size (Obj.mapSeq (· ++ vs.toArray)) = h1 at *
 refine wpAny_bind (wpAny_newList (s := { s with heap := h1 }) ?_ (by omega))
 have I2 : Inv X pins σ H { s with heap := h1.push (seqObj "list" vs.toArray 0) } := I1.kept (t' := s.toks) fun b u z => Heap.get?_push_of_some _ z
 have gD : (h1.push (seqObj "list" vs.toArray 0)).get? h1.objs.size = some (seqObj "list" vs.toArray 0) := Heap.get?_push_size _ rfl
 refine wpAny_bind (wpAny_holding (wpAny_call_entry_kw slot_list_sort ⟨_, gD, rfl⟩ entry_list_sort ?_ (ksk_l1 _ _)))
 rw [ksk_t1]
 refine tree_ok (kf := kf) Fk hr hb trk I2 (I1.out (Nat.le_refl _)) (I1.hok.fresh (Nat.le_refl _)) gD hv hd hF h64 nd (Q := Q) (fun H' xs' ds' a b c d e => q H' _ xs' ds' a b c d e) fun s' hs' => ?_
 exact ⟨_, rfl, wpAny_pure ⟨_, rfl, hs'⟩⟩
end
end L2

namespace L2
open PySem PySem.Spec PyProof.Rows PySem.W PySem.Calls
section
variable {P : Program} {w : World} {A : Around} {E : Value → Shared → Prop} {s : Shared}
theorem plain_ok {D : Addr} {vs : List Value} {n n0 : Nat} {kp : Nat → Int × Str} {C : PySem.Fin → Shared → Prop} (hv : vs.length = n) (h64 : n < 64) (hD : s.heap.get? D = some (seqObj "list" vs.toArray n0)) (hk : ∀ i v, vs[i]? = some v → IsPr s.heap v (kp i) ∧ v ≠ .ref D) (hd : ∀ i j, i < n → j < n → kp i = kp j → i = j)
  (q : ∀ p, Places n p → Up (fun i j => ltP (kp i) (kp j)) p n → ∀ h' c, h'.get? D = some (seqObj "list" (p.toList.map fun i => vs.getD i .none).toArray c) → (∀ b u, b ≠ D → s.heap.get? b = some u → h'.get? b = some u) → C (.done (.ret .none)) { s with heap := h' }) :
  wpAny (model P w) A (Builtin.«list.sort» ⟨[.ref D], []⟩) C E s := by
 have hsl : sizeLine = 16777216 := sizeLine_eq
 rw [list_sort_plain]
 refine wpAny_bind (listItems_at hD rfl (wpAny_bind (listUpdate_at hD rfl ?_ (by rw [List.size_toArray]; omega) (Nat.zero_le _))))
 have u1 := Heap.SameBut.update s.heap D (Obj.mapSeq fun _ => (#[] : Array Value))
 have g1 := get?_update_seq hD fun _ => (#[] : Array Value)
 have k1 : ∀ b u, b ≠ D → s.heap.get? b = some u → (s.heap.update D (Obj.mapSeq fun _ => (#[] : Array Value))).get? b = some u := fun b u n z => (u1.2 b n).trans z
 generalize s.heap.update D (Obj.mapSeq fun _ => (#[] : Array Value)) = h1 at *
 generalize (if (#[] : Array Value).size == vs.toArray.size then n0 else n0 + 1) = e1 at *
 refine wpAny_bind (seqEpoch_at (s := { s with heap := h1 }) g1 rfl ?_)
 refine wpAny_bind (wpAny_newTuple ?_ (by show vs.length ≤ _; omega))
 refine wpAny_bind (wpAny_newList ?_ (Nat.zero_le _))
 have g2 : ((h1.push { cls := .type "tuple", data := .seq vs.toArray }).push { cls := .type "list", data := .seq ([] : List Value).toArray }).get? D = some (seqObj "list" #[] e1) := Heap.get?_push_of_some _ (Heap.get?_push_of_some _ g1)
 have k2 : ∀ b u, b ≠ D → s.heap.get? b = some u → ((h1.push { cls := .type "tuple", data := .seq vs.toArray }).push { cls := .type "list", data := .seq ([] : List Value).toArray }).get? b = some u := fun b u n z => Heap.get?_push_of_some _ (Heap.get?_push_of_some _ (k1 b u n z))
 show wpAny _ _ _ _ _ { s with heap := (h1.push { cls := .type "tuple", data := .seq vs.toArray }).push { cls := .type "list", data := .seq ([] : List Value).toArray } }
 generalize (h1.push { cls := .type "tuple", data := .seq vs.toArray }).push { cls := .type "list", data := .seq ([] : List Value).toArray } = h2 at *
 refine wpAny_holding ?_
 have hz : vs.toArray.size = n := by rw [List.size_toArray]; exact hv
 have last : ∀ (st : SortSt) (p : Array Nat), Places n p → Up (fun i j => ltP (kp i) (kp j)) p n → failedOf st = none → (arrOf st).map (·.2) = (p.toList.map fun i => vs.getD i .none).toArray →
   wpAny (model P w) A (do
    let touched := (← seqEpoch D) != e1
    Builtin.List.listUpdate (.ref D) fun _ => (arrOf st).map (·.2)
    if let some e := failedOf st then rule "list.sort.comparison-raised"; throw e
    if touched then rule "list.sort.modified"; raiseError "ValueError" "list modified during sort"
    ret .none) C E { s with heap := h2 } := by
  intro st p p1 p2 hf ho
  rw [ho, hf]
  refine wpAny_bind (seqEpoch_at (s := { s with heap := h2 }) g2 rfl ?_)
  refine wpAny_bind (listUpdate_at (s := { s with heap := h2 }) g2 rfl ?_ (Nat.zero_le _) (by rw [List.size_toArray, List.length_map, Array.length_toList, p1.size]; omega))
  simp only [bne_self_eq_false, Bool.false_eq_true, if_false]
  have u3 := Heap.SameBut.update h2 D (Obj.mapSeq fun _ => (p.toList.map fun i => vs.getD i Value.none).toArray)
  exact wpAny_pure (q p p1 p2 _ _ (get?_update_seq g2 fun _ => (p.toList.map fun i => vs.getD i Value.none).toArray) fun b u n z => (u3.2 b n).trans (k2 b u n z))
 by_cases h2' : n < 2
 ·simp only [hz, h2', if_true]
  refine wpAny_bind (wpAny_pure (wpAny_bind (wpAny_pure ?_)))
  refine last _ (List.toArray (List.range n)) (places0 n) (fun i j a b => by omega) rfl ?_
  show (vs.toArray.zip vs.toArray).map (·.2) = _
  apply Array.toList_inj.mp
  simp only [Array.toList_map, Array.toList_zip]
  rw [List.map_snd_zip (by omega)]
  apply List.ext_getElem (by simp [hv])
  intro i a b
  simp at a b ⊢
  rw [List.getElem?_eq_getElem a]; rfl
 ·simp only [hz, h2', if_false]
  have hk2 : ∀ i v, vs[i]? = some v → IsPr h2 v (kp i) := fun i v e => by
   obtain ⟨⟨a, o, m, t, u, rfl, x1, x2, x3⟩, ne⟩ := hk i v e
   exact ⟨a, o, m, t, u, rfl, k2 a o (fun z => ne (by rw [z])) x1, x2, x3⟩
  refine wpAny_bind (pairs_kind (s := { s with heap := h2 }) hk2 (by omega) ?_)
  refine wpAny_bind (wpAny_mono (kat_run (κ := tuples' true) (ks := vs) (s := { s with heap := h2 }) (E := fun _ _ => False) (Q := fun st' s' => s' = { s with heap := h2 } ∧ ∃ p, Places n p ∧ Up (fun i j => ltP (kp i) (kp j)) p n ∧ arrOf st' = p.map (kas_item (vs.toArray.zip vs.toArray)) ∧ failedOf st' = none) (G := fun p s' => s' = { s with heap := h2 } ∧ Places n p ∧ Up (fun i j => ltP (kp i) (kp j)) p n) rfl (by omega) (by omega)
   (fun p st' s' a b c d => ⟨d.1, p, d.2.1, d.2.2, b, c⟩) ?_) (fun r s' hr => ?_) fun _ _ x => x.elim)
  ·rw [hv]
   exact pairs_sort (s := { s with heap := h2 }) hv (by omega) hk2 hd fun p a b => ⟨rfl, a, b⟩
  ·obtain ⟨rfl, p, p1, p2, p3, p4⟩ := hr
   exact last _ p p1 p2 p4 (kat_snds rfl p3)
end
theorem call_sortedPr {X : Cx} : CallR X (.builtin "sorted") (fun xs H Q => ∃ (p : Addr) (us : List V) (O : Ex) (ps : List (Int × Str)), xs = [.ref p] ∧ SqL X.K H p us ∧ Dts X.K H O us (ps.map prD) ∧ ps.length < 64 ∧ ps.Nodup ∧ ∀ (l : Addr) (us' : List V) (ps' : List (Int × Str)), H l = none → Dts X.K H O us' (ps'.map prD) → ps'.Perm ps → ps'.Pairwise (fun a b => ltP a b = true) → Q (.ref l) (upd H l (.lst us'))) := by
 intro pins s σ H xs ws Q I r h
 obtain ⟨l, us, O, ps, rfl, hq, hd, h64, nd, q⟩ := h
 obtain ⟨u, rfl, rx⟩ := vals1 r
 cases rx
 have hsl : sizeLine = 16777216 := sizeLine_eq
 obtain ⟨vs, hv, pl, hz⟩ := I.list hq
 have lv : vs.length = ps.length := by rw [← hv.length, hd.length, List.length_map]
 refine Calls.call_function_entry kind_sorted plain_sorted entry_sorted (args_sorted1 _) ?_
 unfold Builtin.«sorted»
 refine wpAny_bind (m := checkCount "sorted" 1 1 _) (wpAny_pure ?_)
 refine wpAny_bind (collect_list pl.isList ?_ (by omega))
 have I1 : Inv X pins σ H { s with heap := (s.heap.push (seqObj "list" #[] 0)).update s.heap.objs.size (Obj.mapSeq (· ++ vs.toArray)) } := by
  refine I.kept (t' := s.toks) fun b u z => ?_
  have hlt : b < s.heap.objs.size := Heap.lt_size z
  exact (Heap.get?_update_ne _ _ _ _ (Nat.ne_of_lt hlt)).trans (Heap.get?_push_of_some _ z)
 generalize (s.heap.push (seqObj "list" #[] 0)).update s.heap.objs.size (Obj.mapSeq (· ++ vs.toArray)) = h1 at *
 refine wpAny_bind (wpAny_newList (s := { s with heap := h1 }) ?_ (by omega))
 have I2 : Inv X pins σ H { s with heap := h1.push (seqObj "list" vs.toArray 0) } := I1.kept (t' := s.toks) fun b u z => Heap.get?_push_of_some _ z
 have gD : (h1.push (seqObj "list" vs.toArray 0)).get? h1.objs.size = some (seqObj "list" vs.toArray 0) := Heap.get?_push_size _ rfl
 have hH : H h1.objs.size = none := I1.hok.fresh (Nat.le_refl _)
 have oD : Out X pins h1.objs.size := I1.out (Nat.le_refl _)
 have isp : ∀ i v, vs[i]? = some v → IsPr (h1.push (seqObj "list" vs.toArray 0)) v (ps.getD i (0, Str.ofString "")) ∧ v ≠ .ref h1.objs.size := fun i v ei => by
  have hi : i < ps.length := by rw [← lv]; exact (List.getElem?_eq_some_iff.mp ei).1
  obtain ⟨x, ex, rx⟩ := vals_get hv ei
  obtain ⟨y, ey, dy⟩ := dts_get (i := i) (d := prD ps[i]) hd (by rw [List.getElem?_map, List.getElem?_eq_getElem hi]; rfl)
  rw [ex] at ey; cases ey
  have e : ps.getD i (0, Str.ofString "") = ps[i] := by simp [hi]
  rw [e]
  have a := isPr_of I1 dy rx
  refine ⟨isPr_of I2 dy rx, fun z => ?_⟩
  obtain ⟨ad, o, m, t, u, e1, e2, _⟩ := a
  rw [e1] at z
  cases z
  exact absurd (Heap.lt_size e2) (Nat.lt_irrefl _)
 refine wpAny_bind (wpAny_holding (wpAny_call_entry slot_list_sort ⟨_, gD, rfl⟩ entry_list_sort ?_ (args_list_sort _)))
 refine plain_ok (s := { s with heap := h1.push (seqObj "list" vs.toArray 0) }) (n := ps.length) (kp := fun i => ps.getD i (0, Str.ofString "")) lv h64 gD isp (fun i j hi hj ee => ?_) fun p pp pu h' c g kept => ?_
 ·have e1' : ps.getD i (0, Str.ofString "") = ps[i] := by simp [hi]
  have e2' : ps.getD j (0, Str.ofString "") = ps[j] := by simp [hj]
  rw [e1', e2'] at ee
  exact (List.getElem_inj nd).mp ee
 ·have lt : ∀ i ∈ p.toList, i < ps.length := fun i hi => by simpa using pp.perm.mem_iff.mp hi
  have dm : Dts X.K H O (p.toList.map fun i => us.getD i .non) ((p.toList.map fun i => ps.getD i (0, Str.ofString "")).map prD) := by
   have : ∀ l : List Nat, (∀ i ∈ l, i < ps.length) → Dts X.K H O (l.map fun i => us.getD i .non) ((l.map fun i => ps.getD i (0, Str.ofString "")).map prD) := by
    intro l
    induction l with
    | nil => intro _; exact .nil
    | cons a l ih =>
     intro hl
     have ha := hl a (by simp)
     refine .cons ?_ (ih fun i hi => hl i (by simp [hi]))
     obtain ⟨x, ex, dx⟩ := dts_get (i := a) (d := prD ps[a]) hd (by rw [List.getElem?_map, List.getElem?_eq_getElem ha]; rfl)
     have e1' : us.getD a .non = x := by simp [ex]
     have e2' : ps.getD a (0, Str.ofString "") = ps[a] := by simp [ha]
     show Dt X.K H O (us.getD a .non) (prD (ps.getD a (0, Str.ofString "")))
     rw [e1', e2']; exact dx
   exact this _ lt
  have vm : Vals (p.toList.map fun i => us.getD i .non) (p.toList.map fun i => vs.getD i .none) := by
   have : ∀ l : List Nat, (∀ i ∈ l, i < ps.length) → Vals (l.map fun i => us.getD i .non) (l.map fun i => vs.getD i .none) := by
    intro l
    induction l with
    | nil => intro _; exact .nil
    | cons a l ih =>
     intro hl
     have ha := hl a (by simp)
     refine .cons ?_ (ih fun i hi => hl i (by simp [hi]))
     obtain ⟨x, ex, rx⟩ := vals_get hv (show vs[a]? = some (vs[a]'(by omega)) by simp)
     have e1' : us.getD a .non = x := by simp [ex]
     have e2' : vs.getD a .none = vs[a]'(by omega) := by simp [show a < vs.length by omega]
     show RelV (us.getD a .non) (vs.getD a .none)
     rw [e1', e2']; exact rx
   exact this _ lt
  refine ⟨_, rfl, wpAny_pure ⟨_, rfl, .ref h1.objs.size, upd H h1.objs.size (.lst (p.toList.map fun i => us.getD i .non)), ?_, rfl, q _ _ (p.toList.map fun i => ps.getD i (0, Str.ofString "")) hH dm ?_ ?_⟩⟩
  ·refine I2.track (t' := s.toks) (ch := [h1.objs.size]) (by simp) (fun b hb => ?_) (fun b u hb z => kept b u (fun y => hb (by simp [y])) z) ⟨?_, _, c, vm, g⟩
   ·rw [List.mem_singleton] at hb; subst hb; exact ⟨hH, oD⟩
   ·rw [List.length_map, Array.length_toList, pp.size]; omega
  ·have h1 := pp.perm.map fun i => ps.getD i (0, Str.ofString "")
   have e : (List.range ps.length).map (fun i => ps.getD i (0, Str.ofString "")) = ps := by
    apply List.ext_getElem (by simp)
    intro i a b
    simp at a b ⊢
    rw [List.getElem?_eq_getElem b]; rfl
   rw [e] at h1
   exact h1
  ·rw [List.pairwise_map, List.pairwise_iff_getElem]
   intro i j hi hj hij
   have := pu i j hij (by rw [Array.length_toList, pp.size] at hj; exact hj)
   have ei : p.getD i 0 = p.toList[i] := by simp [Array.getD, show i < p.size by simpa using hi]
   have ej : p.getD j 0 = p.toList[j] := by simp [Array.getD, show j < p.size by simpa using hj]
   rw [ei, ej] at this
   exact this
section
variable {X : Cx} {H0 : Hp} {O0 : Ex}
def dSortPr (t : DA) : DA := fun δ Q => t δ fun ds => ∃ ps : List (Int × Str), ds = [.list (ps.map prD)] ∧ ps.length < 64 ∧ ps.Nodup ∧ ∀ ps' : List (Int × Str), ps'.Perm ps → ps'.Pairwise (fun a b => ltP a b = true) → Q (ps'.map prD)
theorem fe_sortPr {a : Expr} {t : DA} {np p : Pos} (hg : Gl X "sorted") (hm : X.mg "sorted" = none) (hv : bootBuiltins "sorted" = some (.builtin "sorted")) (ha : PA X [a] (upB X.K H0 O0 t)) (he : starEach [a] X.env = (false, eval a X.env) :: starEach [] X.env := by rfl) (hpl : (backTo p (starEach [] X.env)).any (·.1) = false := by rfl) :
  FE X H0 O0 (.Call (.Name "sorted" np) [a] [] p) (dSortPr t) :=
 (pe_callB call_sortedPr hg hm hv ha (he := he) (hpl := hpl)).imp fun σ H Q ⟨O, δ, Qd, w, q, k⟩ => ⟨O, δ, _, w, q, fun ds vs H1 ⟨ps, e, h64, nd, q1⟩ s1 r1 => by
  subst e
  cases r1 with
  | cons h r =>
   cases r
   obtain ⟨a, us, rfl, h1, d1⟩ := h.lst
   exact ⟨a, us, O, ps, rfl, h1, d1, h64, nd, fun l us' ps' hl hd hp hs => k _ _ _ _ (q1 ps' hp hs) s1 hl hd⟩⟩
def dSortKey (F : List PyData → (PyData → Prop) → Prop) (kf : PyData → Int × Str) (t : DA) : DA := fun δ Q => t δ fun ds0 => ∃ ds, ds0 = [.list ds] ∧ (∀ d ∈ ds, ∀ R : PyData → Prop, R (prD (kf d)) → F [d] R) ∧ ds.length < 64 ∧ (ds.map kf).Nodup ∧ ∀ ds', ds'.Perm ds → ds'.Pairwise (fun a b => ltP (kf a) (kf b) = true) → Q ds'
theorem fe_sortKey {a : Expr} {t : DA} {np p gp kp : Pos} {g : Str} {k : Nat} {f : Addr} {fd : FuncData} {ps : List Str} {F : List PyData → (PyData → Prop) → Prop} (kf : PyData → Int × Str) (hc : X.calm = true) (Fk : FnOk X.prog X.w X.K X.mg X.base CX0 k f fd ps (spD X.K F)) (hr : Room k X.A.in1.in1) (hb : Binds X.K fd ps [])
  (hgg : Gl X g) (hgm : X.mg g = some (.ref f)) (hg : Gl X "sorted") (hm : X.mg "sorted" = none) (hv : bootBuiltins "sorted" = some (.builtin "sorted")) (ha : PA X [a] (upB X.K H0 O0 t)) (hdb : (g == ("__debug__" : Str)) = false := by decide)
  (he : backTo p (starEach [a] X.env) = (false, eval a X.env) :: backTo p (starEach [] X.env) := by rfl) (hplain : (backTo p (starEach [a] X.env)).any (·.1) = false := by rfl) :
  FE X H0 O0 (.Call (.Name "sorted" np) [a] [⟨some "key", .Name g gp, kp⟩] p) (dSortKey F kf t) := by
 intro pins s σ H Q I h
 obtain ⟨O, δ, Qd, w, q, kk⟩ := h
 refine wpAny_Call_Name_kw (ld_blt I hg hm hv ?_)
 refine callWith_kw (thn (ha p pins s σ H (fun vs H1 => ∃ ds0, Same H H1 ∧ Shs X.K H1 O vs ds0 ∧ ∃ ds, ds0 = [.list ds] ∧ (∀ d ∈ ds, ∀ R : PyData → Prop, R (prD (kf d)) → F [d] R) ∧ ds.length < 64 ∧ (ds.map kf).Nodup ∧ ∀ ds', ds'.Perm ds → ds'.Pairwise (fun a b => ltP (kf a) (kf b) = true) → Qd ds') I ⟨O, δ, _, w, q, fun ds0 vs H1 q1 s1 r1 => ⟨ds0, s1, r1, q1⟩⟩) fun us s1 hus => ?_) he hplain rfl rfl
 obtain ⟨vs, H1, I1, rv, ds0, s1', r1, ds, e, hF, h64, nd, q1⟩ := hus
 subst e
 refine kws_cons (ld_glob I1 hgg hgm (kws_nil ?_) hdb)
 cases r1 with
 | cons h r =>
  cases r
  obtain ⟨ad, xs, rfl, hq, hd⟩ := h.lst
  obtain ⟨u, rfl, rx⟩ := vals1 rv
  cases rx
  exact sorted_key (kf := kf) hc Fk hr hb (w.mono s1').trk I1 hq hd hF h64 nd fun H' l xs' ds' a b c d e => kk _ _ _ _ (q1 ds' d e) (s1'.trans a) b c
end
end L2

namespace L2
open PySem PySem.Spec PyProof.Rows PySem.W PySem.Calls
section
open PySem.SeqAt
open PySem.AutoSeq1 (wpAny_loadPart')
open PySem.MeetsSeq PySem.MeetsSeq2 PySem.MeetsSeq3
theorem tuple_lt_pr (l b : Addr) (n n2 : Nat) (dd dd2 : Option Addr) (sl sl2 : Array (Option Value)) (p q : Int × Str) (t1 t2 t3 t4 : Tok) :
    Meets (Builtin.«tuple.__lt__» ⟨[.ref l, .ref b], []⟩)
      (fun _ R s => s.heap.get? l = some { cls := .type "tuple", dict := dd, data := .seq #[.int p.1 t1, .str p.2 t2] n, slots := sl } ∧ s.heap.get? b = some { cls := .type "tuple", dict := dd2, data := .seq #[.int q.1 t3, .str q.2 t4] n2, slots := sl2 } ∧
        R (.ok (.ret (.bool (ltP p q)))) s) :=
  .of_wp fun prog w A R s h => by
    obtain ⟨hp, g, d, tk, os⟩ := s; obtain ⟨hl, hb, h⟩ := h
    have f2 := AutoSeq1.sub_tuple_tuple
    wp_walk using wpAny_loadPart' hl, wpAny_loadPart' hb, wpAny_forIn_list _ (fun rest b s' => b.1 = none ∧ s' = ⟨hp, g, d, tk, os⟩ ∧ (rest = [(Value.int p.1 t1, Value.int q.1 t3), (Value.str p.2 t2, Value.str q.2 t4)] ∨ (rest = [(Value.str p.2 t2, Value.str q.2 t4)] ∧ p.1 = q.1) ∨ (rest = [] ∧ p.1 = q.1 ∧ p.2 = q.2))) _
    case turn =>
      rintro ⟨y, x⟩ rest b s' ⟨hb', rfl, h3⟩
      rcases h3 with h3 | ⟨h3, e1⟩ | ⟨h3, _⟩
      · injection h3 with hyx hrest
        injection hyx with hy hx
        subst hy hx
        obtain ⟨e, he, hiff⟩ := HT.eqAt_int A.in1 ⟨hp, g, d, tk, os⟩ p.1 t1 q.1 t3
        refine wpAny_bind (he prog w _ _ ?_)
        cases e with
        | true =>
          wp_walk
          exact ⟨rfl, rfl, .inr (.inl ⟨hrest, hiff.mp rfl⟩)⟩
        | false =>
          have ne : p.1 ≠ q.1 := fun z => absurd (hiff.mpr z) Bool.false_ne_true
          have hri := HT.rcLt_int A.in1 ⟨hp, g, d, tk, os⟩ p.1 t1 q.1 t3 prog w
          have hv : ltP p q = decide (p.1 < q.1) := by unfold ltP; simp [ne]
          rw [hv] at h
          wp_walk using hri
          exact ⟨_, rfl, by simpa using h⟩
      · injection h3 with hyx hrest
        injection hyx with hy hx
        subst hy hx
        have he := EqAt.str_str (A := A.in1) (s := ⟨hp, g, d, tk, os⟩) p.2 t2 q.2 t4
        refine wpAny_bind (he prog w _ _ ?_)
        cases e : (p.2 == q.2) with
        | true =>
          wp_walk
          exact ⟨rfl, rfl, .inr (.inr ⟨hrest, e1, eq_of_beq e⟩)⟩
        | false =>
          have hri : ∀ (E : Value → Shared → Prop) (Q : Value → Shared → Prop), Q (.bool (decide (p.2.cps.toList < q.2.cps.toList))) ⟨hp, g, d, tk, os⟩ → wpAny (model prog w) A.in1 (richCompare .Lt (.str p.2 t2) (.str q.2 t4)) Q E ⟨hp, g, d, tk, os⟩ := fun E Q z => (lt_str z : wpAny (model prog w) A.in1 (compareOp .Lt (.str p.2 t2) (.str q.2 t4)) Q E _)
          have hv : ltP p q = decide (p.2.cps.toList < q.2.cps.toList) := by unfold ltP; simp [e1]
          rw [hv] at h
          wp_walk using hri
          exact ⟨_, rfl, by simpa using h⟩
      · cases h3
    case fin =>
      rintro ⟨b1, b2⟩ s' ⟨hb', rfl, h3⟩
      simp only at hb'
      subst hb'
      rcases h3 with h3 | ⟨h3, e1⟩ | ⟨h3, e1, e2⟩
      · cases h3
      · cases h3
      · have hv : ltP p q = false := by unfold ltP; rw [e1, e2]; simp
        rw [hv] at h
        wp_walk
        exact ⟨_, rfl, by simpa [Builtin.Tuple.tupleCompareSizes] using h⟩
    case h =>
      exact ⟨rfl, rfl, .inl rfl⟩
end
def rLtP (K : PySem.W.Frag) : R2 := fun x y H Q => ∃ a b p q, x = .ref a ∧ y = .ref b ∧ SqT K H a [.int p.1, .str p.2] ∧ SqT K H b [.int q.1, .str q.2] ∧ Q (.bl (ltP p q)) H
theorem op_ltP {X : Cx} (hu : X.A.units < cLine) : OpR X (compareOp .Lt) (rLtP X.K) := by
  intro pins s σ H x y v u Q I rx ry h
  obtain ⟨a, b, p, q, rfl, rfl, ha, hb, z⟩ := h
  cases rx
  cases ry
  obtain ⟨its, r1, ⟨⟨c1, d1, da1, s1⟩, o1, k1, n1, e1⟩, _⟩ := I.tuple ha
  obtain ⟨its2, r2, ⟨⟨c2, d2, da2, s2⟩, o2, k2, n2, e2⟩, _⟩ := I.tuple hb
  simp only at k1 e1 k2 e2
  subst k1 e1 k2 e2
  cases r1 with
  | cons x1 r1 => cases r1 with | cons x2 r1 => cases r1; obtain ⟨t1, rfl⟩ := x1; obtain ⟨t2, rfl⟩ := x2
                                                cases r2 with
                                                | cons y1 r2 => cases r2 with | cons y2 r2 => cases r2; obtain ⟨t3, rfl⟩ := y1; obtain ⟨t4, rfl⟩ := y2
                                                                                              exact richCompare_meets_room (op := .Lt) ⟨_, o1, rfl⟩ ⟨_, o2, rfl⟩ PySem.F.slot_tuple_lt PySem.F.entry_tuple_lt (PySem.F.args_tuple_lt_2 _ _) (tuple_lt_pr a b n1 n2 d1 d2 s1 s2 p q t1 t2 t3 t4) ⟨o1, o2, (fun x => nomatch x), .bl (ltP p q), H, I, rfl, z⟩ hu
def dLtP : PyData → PyData → (PyData → Prop) → Prop := fun x y Q => ∃ p q : Int × Str, x = prD p ∧ y = prD q ∧ Q (.bool (ltP p q))
theorem od_ltP {K : PySem.W.Frag} : OpD K (rLtP K) dLtP := fun H O x y dx dy Qd R _ hx hy ⟨p, q, e1, e2, z⟩ k => by
  subst e1 e2
  obtain ⟨a, xs, rfl, h1, g1⟩ := hx.tup
  obtain ⟨b, ys, rfl, h2, g2⟩ := hy.tup
  cases g1 with
  | cons x1 g1 => cases g1 with | cons x2 g1 => cases g1; cases x1; cases x2
                                                cases g2 with
                                                | cons y1 g2 => cases g2 with | cons y2 g2 => cases g2; cases y1; cases y2; exact ⟨a, b, p, q, rfl, rfl, h1, h2, k _ _ H z (Same.refl _) (.bl _)⟩
end L2

namespace L2
open PySem PySem.Spec PyProof.Rows PySem.W PySem.Calls
section
variable {X : Cx} {H0 : Hp} {O0 : Ex}
def dWhile (tc : DB) (tb : DS) : DS := fun E δ => ∃ W : Nat → Dl → Prop, (∃ m, W m δ) ∧ ∀ m δ, W m δ → tc δ fun b => if b = true then tb { E with nx := fun δ' => ∃ m', m' < m ∧ W m' δ', ct := fun δ' => ∃ m', m' < m ∧ W m' δ', bk := E.nx } δ else E.nx δ
theorem ds_while {c : Expr} {body : List Stmt} {tc : DB} {tb : DS} {pos : Pos} (hp : PassesOwn (model X.prog X.w) X.A X.env X.xe) (hc : PT X c (upT X.K H0 O0 tc)) (hb : PSs X body (upD X.K H0 O0 tb)) : PS X (.While c body [] pos) (upD X.K H0 O0 (dWhile tc tb)) :=
 (ps_while hp hc hb).imp fun D σ H ⟨O, δ, E, w, ⟨W, ⟨m0, w0⟩, st⟩, k1, k2, k3, k4⟩ => by
  refine ⟨fun m σ' H' => ∃ O' δ', Wd X.K H0 O0 H' O' σ' δ' ∧ Step H H' O O' ∧ W m δ', ⟨m0, O, δ, w, Step.refl _ _, w0⟩, fun m σ1 H1 ⟨O1, δ1, w1, S1, q1⟩ => ⟨O1, δ1, _, w1, st m δ1 q1, fun b H2 q2 s2 => ?_⟩⟩
  cases b with
  | false =>
   rw [if_neg (by simp)] at q2 ⊢
   exact k1 O1 δ1 σ1 H2 q2 (w1.mono s2) (S1.trans (.same s2))
  | true =>
   rw [if_pos rfl] at q2 ⊢
   refine ⟨fun σ' H' => ∃ O' δ' m', m' < m ∧ Wd X.K H0 O0 H' O' σ' δ' ∧ Step H H' O O' ∧ W m' δ', fun σ' H' ⟨O', δ', m', lt, w', S', q'⟩ => ⟨m', lt, O', δ', w', S', q'⟩, O1, δ1, _, w1.mono s2, q2, ?_, k2, ?_, ?_⟩
   ·rintro O' δ' σ' H' ⟨m', lt, q'⟩ w' S'
    exact ⟨O', δ', m', lt, w', S1.trans ((Step.same s2).trans S'), q'⟩
   ·intro O' δ' σ' H' q' w' S'
    exact k1 O' δ' σ' H' q' w' (S1.trans ((Step.same s2).trans S'))
   ·rintro O' δ' σ' H' ⟨m', lt, q'⟩ w' S'
    exact ⟨O', δ', m', lt, w', S1.trans ((Step.same s2).trans S'), q'⟩
def atS : List Str → List PyData → Str → Option PyData
 | k :: ks, d :: ds, z => if k = z then some d else atS ks ds z
 | _, _, _ => none
end
end L2

namespace L2
open PySem PySem.Spec PyProof.Rows PySem.W PySem.Calls
section
variable {X : Cx} {H0 : Hp} {O0 : Ex}
end
section
variable {X : Cx} {H0 : Hp} {O0 : Ex}
theorem Dts.ofInts {K : PySem.W.Frag} {H : Hp} {O : Ex} : ∀ (ns : List Int), Dts K H O (ns.map V.int) (ns.map PyData.int)
 | [] => .nil
 | n :: ns => .cons (.int n) (Dts.ofInts ns)
def dCompV (t : DT) (g : DG) (tc : DB) (te : DT) (k : Nat) (fr : List Nat) : DA := fun δ Q => dCompI t g tc te k fr δ Q ∨ dCompTI t g tc te k fr δ Q
theorem fe_compV {N' : List Str} {k : Nat} {fr : List Nat} {scope : Scope} {iter elt tg : Expr} {ifs : List Expr} {t te : DT} {tc : DB} {g : TG} {dg : DG} {pos : Pos} (hc : X.calm = true) (S : CompScope X.env.scope X.N N' k fr scope) (hi : DF X H0 O0 iter t) (gd : GD X.K g dg) (hk : KeepG g k) (hfr : fr.Nodup)
  (hg : ∀ fp C s H, PG (compCx X scope N' fp C s H) tg g) (hf : ∀ fp C s H, PIfs (compCx X scope N' fp C s H) ifs (upT X.K H0 O0 tc)) (he : ∀ fp C s H, PE (compCx X scope N' fp C s H) elt (up X.K H0 O0 te))
  (hs : ∀ x, foldedSetIterable iter X.env x = pure x := by intro _; rfl) : FE X H0 O0 (.ListComp elt [⟨tg, iter, ifs, 0⟩] scope pos) (dCompV t dg tc te k fr) := by
 intro pins s σ H Q I h
 obtain ⟨O, δ, Qd, w, q, kk⟩ := h
 rcases q with q | q
 ·exact fe_compI hc S hi gd hk hfr hg hf he hs pins s σ H Q I ⟨O, δ, Qd, w, q, kk⟩
 ·exact fe_compTI hc S hi gd hk hfr hg hf he hs pins s σ H Q I ⟨O, δ, Qd, w, q, kk⟩
end
theorem keep_set2 {fr : List Nat} {σ : St} {v u : Option V} : Keep (st0 2 fr σ) (((st0 2 fr σ).set 0 v).set 1 u) := by
 refine ⟨by simp, fun i w h => ?_⟩
 match i with
 | 0 => simp [st0, List.replicate] at h
 | 1 => simp [st0, List.replicate] at h
 | i + 2 => simpa [st0, List.replicate] using h
theorem keepTup {K : PySem.W.Frag} {n : Nat} : KeepG (gTup K n (gCons (gName 0) (gCons (gName 1) gNil))) 2 := fun fr σ v H' R ⟨a, xs, e, h1, h2, x, r, e1, y, r2, e2, e3, h⟩ => ⟨a, xs, e, h1, h2, x, r, e1, y, r2, e2, e3, keep_set2, h⟩
section
variable {X : Cx} {H0 : Hp} {O0 : Ex}
theorem de_isinC {T : String} {a c : Expr} {t : DT} {np p : Pos} {K' : PySem.W.Frag} (hK : X.K = K') (hg : Gl X "isinstance") (hm : X.mg "isinstance" = none) (hv : bootBuiltins "isinstance" = some (.builtin "isinstance")) (ha : DF X H0 O0 a t) (hc : PE X c (tC (.ty T)))
  (hs : starEach [a, c] X.env = (false, eval a X.env) :: starEach [c] X.env := by rfl) (hs2 : starEach [c] X.env = [(false, eval c X.env)] := by rfl) (hb : (backTo p (starEach [c] X.env)).any (·.1) = false := by rfl) : DE X H0 O0 (.Call (.Name "isinstance" np) [a, c] [] p) (dIsin K' T t) := by
 subst hK
 exact de_isin hg hm hv ha hc hs hs2 hb
end
end L2

namespace L2
open PySem PySem.Spec PyProof.Rows PySem.W PySem.Calls
def putFd (f : Str) (d : PyData) : List (Str × PyData) → List (Str × PyData)
 | [] => [(f, d)]
 | (g, x) :: r => if g = f then (g, d) :: r else (g, x) :: putFd f d r
theorem FDt.put {K : PySem.W.Frag} {H : Hp} {O : Ex} {f : Str} {v : V} {d : PyData} (hv : Dt K H O v d) : ∀ {fs : List (Str × V)} {fd : List (Str × PyData)}, FDt K H O fs fd → FDt K H O (putF f v fs) (putFd f d fd)
 | [], [], _ => ⟨rfl, .cons hv .nil⟩
 | [], _ :: _, h => by cases h.1
 | _ :: _, [], h => by cases h.1
 | (g, x) :: fs, (g', y) :: fd, ⟨h1, h2⟩ => by
  simp only [List.map_cons, List.cons.injEq] at h1
  obtain ⟨rfl, h1⟩ := h1
  simp only [List.map_cons] at h2
  cases h2 with
  | cons a r =>
   unfold putF putFd
   by_cases e : g = f
   ·rw [if_pos e, if_pos e]
    exact ⟨by simp only [List.map_cons, h1], .cons hv r⟩
   ·rw [if_neg e, if_neg e]
    obtain ⟨q1, q2⟩ := FDt.put hv (fs := fs) (fd := fd) ⟨h1, r⟩
    exact ⟨by simp only [List.map_cons, q1], .cons a q2⟩
section
variable {X : Cx} {H0 : Hp} {O0 : Ex}
def dFld (C : Addr) (i : Nat) (f : Str) (t : DT) : DS := fun E δ => t δ fun d => ∃ l fd, δ[i]? = some (some (.i l C fd)) ∧ fd.length < 1000 ∧ E.nx (δ.set i (some (.i l C (putFd f d fd))))
theorem ds_fld {C : Addr} {i : Nat} {f : Str} {o e : Expr} {t : DT} {pos pos' : Pos} (hc : Cls X.K C) (hn : NoAttr X.K C f) (ho : PE X o (tVar i)) (he : DE X H0 O0 e t) (hs : swapsWith e (some (.Attribute o f pos')) pos.line X.env = pure false := by rfl) :
  PS X (.Assign [.Attribute o f pos'] e pos) (upD X.K H0 O0 (dFld C i f t)) :=
 (ps_fld ho he hs).imp fun D σ H ⟨O, δ, E, w, q, k1, k2, k3, k4⟩ => ⟨O, δ, _, w, q, fun d u H1 ⟨l, fd, e, hl, q1⟩ s1 r1 => by
  have w1 := w.mono s1
  obtain ⟨dx, fs, h, a, b, c, r⟩ := w1.ownI e
  have lf : fs.length = fd.length := by have := congrArg List.length r.1; simpa using this
  refine ⟨.ref l, h, l, C, dx, fs, rfl, c, hc, hn, by rw [lf]; exact hl, k1 _ _ _ _ q1 (w1.putY (y0 := .i l C fd) (y1 := .i l C (putFd f d fd)) trivial trivial e h fun S a b => ⟨dx, _, rfl, a, b, upd_same, ?_⟩) ⟨fun b' o' z n => ?_, fun _ _ n => n⟩⟩
  ·obtain ⟨z1, z2⟩ := r.put (f := f) r1
   exact ⟨z1, z2.step S⟩
  ·rw [upd_ne (fun y => n (by rw [y]; exact a))]; exact s1 _ _ z⟩
abbrev objD (C : Addr) (fd : List (Str × PyData)) : PyData := objP C (fd.map fun p => .str p.1) (fd.map (·.2))
def spI (K : PySem.W.Frag) (C : Addr) (F : List PyData → (PyData → Prop) → Prop) : Sp := fun vs H Q _ => ∃ x dx vs' H1 O ds Qd, vs = .ref x :: vs' ∧ H = upd (upd H1 dx (.own x)) x (.ins C dx []) ∧ H1 x = none ∧ H1 dx = none ∧ dx ≠ x ∧ (∀ l, O l → H1 l ≠ none) ∧ Dts K H1 O vs' ds ∧ F ds Qd ∧
 ∀ d H', Qd d → Same H1 H' → Dt K H' O (.ref x) d → Q .non H'
theorem dmake {K : PySem.W.Frag} {C : Addr} {F : List PyData → (PyData → Prop) → Prop} {t : DA} {E : XK} : ∀ σ H Q, up K H0 O0 (dCall F t) σ H Q → tMake C (spI K C F) [] E (upA K H0 O0 t) σ H Q :=
 fun σ H Q ⟨O, δ, Qd, w, q, k⟩ => ⟨O, δ, _, w, q, fun ds vs H1 q1 s1 r1 x dx hx hdx ne => ⟨x, dx, vs, H1, O, ds, Qd, by rw [List.append_nil], rfl, hx, hdx, ne, (w.mono s1).trk, r1, q1, fun d H2 q2 s2 r2 => ⟨rfl, k d _ H2 q2 (s1.trans s2) r2⟩⟩⟩
def startI (N : List Str) (l C : Addr) (ds : List PyData) : Dl := some (.i l C []) :: (startD N (.none :: ds)).tail
theorem wd_startI {K : PySem.W.Frag} {H1 : Hp} {O : Ex} {N : List Str} {vs : List V} {ds : List PyData} {x dx C : Addr} (tr : ∀ l, O l → H1 l ≠ none) (r : Dts K H1 O vs ds) (hx : H1 x = none) (hdx : H1 dx = none) (ne : dx ≠ x) :
  Wd K H1 O (upd (upd H1 dx (.own x)) x (.ins C dx [])) (fun l => O l ∨ l = x) (start N (.ref x :: vs)) (startI N x C ds) := by
 have w0 := wd_start (N := N) tr (.cons .non r)
 have w1 := w0.mono (Same.new (o := HO.own x) hdx)
 have hx1 : (upd H1 dx (.own x)) x = none := by rw [upd_ne (Ne.symm ne)]; exact hx
 have := w1.setY (i := 0) (p := x) (ho := .ins C dx []) (y0 := .i x C []) trivial hx1 fun O' S a b => ⟨dx, [], rfl, a, b, upd_same, rfl, .nil⟩
 exact this
end
section
variable {P : Program} {w : World} {K : PySem.W.Frag} {mg : Str → Option Value} {base : Heap}
theorem Fun.okI {x qual : Str} {st : Stmt} {f C : Addr} {fd : FuncData} {N ps : List Str} {k : Nat} {F : List PyData → (PyData → Prop) → Prop} (Fu : Fun K x qual st f fd) (S : FnScope N ps (defScope st)) (len : ∀ ds Q, F ds Q → ds.length + 1 = ps.length)
  (hbody : ∀ (cdv : Value) (A : Around) (outer : List Env) (s : Shared) (H H1 : Hp) (O : Ex) (ds : List PyData) (Q : PyData → Prop) (E : XK) (l : Addr), Room k (A.deeper (envOfC qual (defScope st) s.heap.objs.size f cdv)) → F ds Q →
   ∃ t, PSs (cxOf CX0 P w K mg base N qual (defScope st) f cdv A outer s H E).nox (defBody st) (upD K H1 O t) ∧ t { nx := fun δ => ∃ fd, δ[0]? = some (some (.i l C fd)) ∧ Q (objD C fd), rt := fun _ => False } (startI N l C ds)) : FnOk P w K mg base CX0 (k + 1) f fd ps (spI K C F) := by
 refine Fu.ok S (fun vs H Q E h => ?_) (fun cdv A outer s H vs Q E hr h => ?_)
 ·obtain ⟨x, dx, vs', H1, O, ds, Qd, rfl, _, _, _, _, _, r, q, _⟩ := h
  rw [List.length_cons, r.length]; exact len _ _ q
 ·obtain ⟨x, dx, vs', H1, O, ds, Qd, rfl, rfl, hx, hdx, ne, tr, r, q, k⟩ := h
  obtain ⟨t, ht, q'⟩ := hbody cdv A outer s _ H1 O ds Qd E x hr q
  refine ⟨_, ht, _, _, _, wd_startI tr r hx hdx ne, q', fun O' δ' σ' H' z w' S' => ?_, fun d v H' z s' r' => z.elim, fun _ _ _ _ z => z.elim, fun _ _ _ _ z => z.elim⟩
  obtain ⟨fd, e, z⟩ := z
  obtain ⟨dx', fs, h, a, b, c, r1, r2⟩ := w'.ownI e
  refine k _ _ z w'.same (.obj c ?_ b (r2.step ⟨fun _ _ y _ => y, fun b' _ n z => n (w'.sub b' z)⟩))
  rw [show (fd.map fun p : Str × PyData => PyData.str p.1) = (fd.map (·.1)).map PyData.str by rw [List.map_map]; rfl, ← r1, List.map_map]; rfl
end
theorem Dt.objI {K : PySem.W.Frag} {H : Hp} {O : Ex} {v : V} {C : Addr} {kp ds : List PyData} (h : Dt K H O v (objP C kp ds)) : ∃ a dx fs, v = .ref a ∧ H a = some (.ins C dx fs) ∧ kp = fs.map (fun p => PyData.str p.1) ∧ Dts K H O (fs.map (·.2)) ds := by
 generalize e : objP C kp ds = x at h
 cases h with
 | @obj a C' dx fs kp' ds' h1 h2 n r =>
  simp only [objP, PyData.dict.injEq, List.cons.injEq, Prod.mk.injEq, PyData.tuple.injEq, PyData.int.injEq, PyData.list.injEq, and_true, true_and] at e
  obtain ⟨e1, e2, e3⟩ := e
  have e1 : C = C' := by exact_mod_cast e1
  subst e1 e2 e3
  exact ⟨a, dx, fs, rfl, h1, h2, r⟩
 | _ => first | cases e | simp [objP] at e
section
variable {X : Cx} {H0 : Hp} {O0 : Ex}
theorem atS_fs {K : PySem.W.Frag} {H : Hp} {O : Ex} {f : Str} {d : PyData} : ∀ {fs : List (Str × V)} {ks : List Str} {ds : List PyData}, fs.map (fun p => PyData.str p.1) = ks.map PyData.str → Dts K H O (fs.map (·.2)) ds → atS ks ds f = some d → ∃ v, fs.lookup f = some v ∧ Dt K H O v d
 | [], [], ds, _, _, e => by unfold atS at e; cases e
 | [], _ :: _, ds, h, _, _ => by cases h
 | _ :: _, [], ds, h, _, _ => by cases h
 | (g, x) :: fs, k :: ks, ds, h, hd, e => by
  rw [List.map_cons] at hd
  cases hd with
  | cons h1 h2 =>
   simp only [List.map_cons, List.cons.injEq, PyData.str.injEq] at h
   obtain ⟨rfl, h⟩ := h
   unfold atS at e
   rw [List.lookup_cons]
   by_cases hk : g = f
   ·rw [if_pos hk] at e; cases e
    subst hk
    exact ⟨x, by simp, h1⟩
   ·rw [if_neg hk] at e
    have : (f == g) = false := by simpa using Ne.symm hk
    rw [this]
    exact atS_fs h h2 e
def dFldD (C : Addr) (f : Str) (t : DT) : DT := fun δ Q => t δ fun x => ∃ ks ds d, x = objP C (ks.map .str) ds ∧ atS ks ds f = some d ∧ Q d
theorem de_fld {C : Addr} {f : Str} {e : Expr} {t : DT} {pos : Pos} (hc : Cls X.K C) (hn : NoAttr X.K C f) (he : DE X H0 O0 e t) (hb : attributeBase e f X.env (eval e X.env) = eval e X.env := by rfl) : DE X H0 O0 (.Attribute e f pos) (dFldD C f t) :=
 (pe_fld he hb).imp fun σ H Q ⟨O, δ, Qd, w, q, k⟩ => ⟨O, δ, _, w, q, fun x v H1 ⟨ks, ds, d, ex, ed, q1⟩ s1 r1 => by
  subst ex
  obtain ⟨a, dx, fs, rfl, h1, h2, r⟩ := r1.objI
  obtain ⟨v, hv, dv⟩ := atS_fs h2.symm r ed
  exact ⟨a, C, dx, fs, v, rfl, h1, hc, hn, hv, k _ _ _ q1 s1 dv⟩⟩
end
end L2

namespace L2
open PySem PySem.Spec PyProof.Rows PySem.W PySem.Calls
def Ris (xs : Array Nat) : Prop := xs.toList.Pairwise (· < ·)
theorem Ris.lt {xs : Array Nat} (h : Ris xs) {i k : Nat} (hik : i < k) (hk : k < xs.size) : xs[i]'(by omega) < xs[k] := by
 have := List.pairwise_iff_getElem.mp h i k (by simpa using (by omega : i < xs.size)) (by simpa using hk) hik
 simpa using this
theorem below_go {xs : Array Nat} (h : Ris xs) {j : Nat} : ∀ (f lo hi : Nat), hi - lo ≤ f → lo ≤ hi → hi ≤ xs.size → (∀ k (hk : k < xs.size), k < lo → xs[k] < j) → (∀ k (hk : k < xs.size), hi ≤ k → j ≤ xs[k]) →
  lo ≤ SetTable.below.go xs j f lo hi ∧ SetTable.below.go xs j f lo hi ≤ hi ∧ (∀ k (hk : k < xs.size), k < SetTable.below.go xs j f lo hi → xs[k] < j) ∧ (∀ k (hk : k < xs.size), SetTable.below.go xs j f lo hi ≤ k → j ≤ xs[k]) := by
 intro f
 induction f with
 | zero =>
  intro lo hi a b c d e
  obtain rfl : lo = hi := by omega
  exact ⟨Nat.le_refl _, Nat.le_refl _, d, e⟩
 | succ f ih =>
  intro lo hi a b c d e
  unfold SetTable.below.go
  by_cases hl : lo < hi
  ·rw [if_pos hl]
   simp only
   have hm : (lo + hi) / 2 < xs.size := by omega
   have eg : xs.getD ((lo + hi) / 2) j = xs[(lo + hi) / 2] := by simp [Array.getD, hm]
   rw [eg]
   split
   ·rename_i hx
    have d' : ∀ k (hk : k < xs.size), k < (lo + hi) / 2 + 1 → xs[k] < j := fun k hk hlt => by
     rcases Nat.lt_or_ge k ((lo + hi) / 2) with z | z
     ·exact Nat.lt_trans (h.lt z hm) hx
     ·obtain rfl : k = (lo + hi) / 2 := by omega
      exact hx
    obtain ⟨p, q, r, s⟩ := ih ((lo + hi) / 2 + 1) hi (by omega) (by omega) c d' e
    exact ⟨by omega, q, r, s⟩
   ·rename_i hx
    have e' : ∀ k (hk : k < xs.size), (lo + hi) / 2 ≤ k → j ≤ xs[k] := fun k hk hge => by
     rcases Nat.lt_or_ge ((lo + hi) / 2) k with z | z
     ·exact Nat.le_trans (Nat.le_of_not_lt hx) (Nat.le_of_lt (h.lt z hk))
     ·obtain rfl : k = (lo + hi) / 2 := by omega
      exact Nat.le_of_not_lt hx
    obtain ⟨p, q, r, s⟩ := ih lo ((lo + hi) / 2) (by omega) (by omega) (by omega) d e'
    exact ⟨p, by omega, r, s⟩
  ·rw [if_neg hl]
   obtain rfl : lo = hi := by omega
   exact ⟨Nat.le_refl _, Nat.le_refl _, d, e⟩
theorem below_spec {xs : Array Nat} (h : Ris xs) (j : Nat) : SetTable.below xs j ≤ xs.size ∧ (∀ k (hk : k < xs.size), k < SetTable.below xs j → xs[k] < j) ∧ (∀ k (hk : k < xs.size), SetTable.below xs j ≤ k → j ≤ xs[k]) := by
 unfold SetTable.below
 obtain ⟨_, b, c, d⟩ := below_go h (j := j) xs.size 0 xs.size (by omega) (Nat.zero_le _) (Nat.le_refl _) (fun k hk z => absurd z (by omega)) (fun k hk z => absurd hk (by omega))
 exact ⟨b, c, d⟩
theorem below_next {xs : Array Nat} (h : Ris xs) {i : Nat} (hi : i < xs.size) : SetTable.below xs (xs[i] + 1) = i + 1 := by
 obtain ⟨a, b, c⟩ := below_spec h (xs[i] + 1)
 apply Nat.le_antisymm
 ·refine Nat.le_of_not_lt fun z => ?_
  have := b (i + 1) (by omega) z
  have := h.lt (show i < i + 1 by omega) (show i + 1 < xs.size by omega)
  omega
 ·refine Nat.le_of_not_lt fun z => ?_
  have := c i hi (by omega)
  omega
theorem below_zero {xs : Array Nat} (h : Ris xs) : SetTable.below xs 0 = 0 := by
 obtain ⟨a, b, c⟩ := below_spec h 0
 refine Nat.eq_zero_of_not_pos fun z => ?_
 exact absurd (b 0 (by omega) z) (by omega)
theorem Ris.ins {xs : Array Nat} (h : Ris xs) {j : Nat} (hj : xs[SetTable.below xs j]? ≠ some j) : Ris (SetTable.insertAt xs (SetTable.below xs j) j) := by
 obtain ⟨a, b, c⟩ := below_spec h j
 have h0 : xs.toList.Pairwise (· < ·) := h
 unfold Ris
 rw [SetTable.toList_insertAt]
 generalize SetTable.below xs j = p at *
 rw [← List.take_append_drop p xs.toList, List.pairwise_append] at h0
 rw [List.pairwise_append]
 have lt1 : ∀ x ∈ xs.toList.take p, x < j := fun x hx => by
  obtain ⟨k, hk, rfl⟩ := List.getElem_of_mem hx
  rw [List.length_take] at hk
  rw [List.getElem_take]
  have := b k (by simp at hk; omega) (by omega)
  simpa using this
 have lt2 : ∀ x ∈ xs.toList.drop p, j < x := fun x hx => by
  obtain ⟨k, hk, rfl⟩ := List.getElem_of_mem hx
  rw [List.length_drop] at hk
  rw [List.getElem_drop]
  have hs : p + k < xs.size := by simp at hk; omega
  have h1 := c (p + k) hs (by omega)
  have h2 : xs[p + k] ≠ j := fun e => by
   rcases Nat.eq_zero_or_pos k with z | z
   ·subst z
    exact hj (by rw [Array.getElem?_eq_getElem (show p < xs.size from hs)]; exact congrArg some e)
   ·have := c p (by omega) (Nat.le_refl _)
    have := h.lt (show p < p + k by omega) hs
    omega
  have : j < xs[p + k] := by omega
  simpa using this
 refine ⟨h0.1, List.pairwise_cons.mpr ⟨lt2, h0.2.1⟩, fun x hx y hy => ?_⟩
 rcases List.mem_cons.mp hy with e | hy
 ·rw [e]; exact lt1 x hx
 ·exact h0.2.2 x hx y hy
theorem probe_free {t : SetTable} {ha : Nat → Int} {h : Int} (hd : t.dummies = #[]) : ∀ (f : Nat) (p : SetTable.Probe) {j : Nat} {d : Option Nat}, p.dummy = none → SetTable.probe.go t ha h f p = some (.empty j d) → d = none ∧ t.place[SetTable.below t.place j]? ≠ some j := by
 intro f
 induction f with
 | zero => intro p j d _ e; cases e
 | succ f ih =>
  intro p j d hp e
  unfold SetTable.probe.go at e
  have nd : ∀ k, SetTable.has t.dummies k = false := fun k => by rw [hd]; rfl
  have adv : (t.advance p).dummy = none := by unfold SetTable.advance; split <;> exact hp
  cases hs : t.slot p.j with
  | empty =>
   rw [hs] at e
   simp only [Option.some.injEq, SetTable.Met.empty.injEq] at e
   obtain ⟨rfl, rfl⟩ := e
   refine ⟨hp, fun z => ?_⟩
   unfold SetTable.slot at hs
   simp only [z, beq_self_eq_true, if_true] at hs
   cases hs
  | dummy =>
   unfold SetTable.slot at hs
   simp only [nd] at hs
   split at hs
   ·cases hs
   ·simp at hs
  | live i =>
   rw [hs] at e
   simp only at e
   split at e
   ·cases e
   ·exact ih _ adv e
structure TabOk (t : SetTable) : Prop where
 ris : Ris t.place
 dum : t.dummies = #[]
theorem TabOk.fresh {f m : Nat} {l : Bool} : TabOk (.fresh f m l) := ⟨.nil, rfl⟩
theorem range_ris (n : Nat) : Ris (Array.range n) := by
 unfold Ris
 rw [Array.toList_range]
 exact List.pairwise_lt_range
theorem TabOk.standIn {t : SetTable} {n : Nat} : TabOk (t.standIn n) := ⟨range_ris n, rfl⟩
theorem TabOk.orStandIn {t : SetTable} {n : Nat} (h : TabOk t) : TabOk (t.orStandIn n) := by
 unfold SetTable.orStandIn
 split
 ·exact h
 ·exact .standIn
theorem TabOk.layNew {t : SetTable} (h : TabOk t) (es : Array (Int × Value)) (hs : Int) (x : Value) : TabOk (layNew t es hs x).2.1 := by
 unfold PySem.layNew
 cases hf : t.freeSlot hs with
 | none => exact .standIn
 | some q =>
  obtain ⟨slot, wd⟩ := q
  simp only
  refine TabOk.orStandIn ?_
  unfold SetTable.freeSlot at hf
  split at hf
  ·rename_i j d hp
   simp only [Option.some.injEq, Prod.mk.injEq] at hf
   obtain ⟨e1, e2⟩ := hf
   obtain ⟨rfl, nj⟩ := probe_free h.dum _ _ (by rfl) hp
   simp at e1
   subst e1
   unfold SetTable.put
   refine ⟨h.ris.ins nj, ?_⟩
   simp only [h.dum]
   rfl
  ·cases hf
theorem TabOk.relay {t : SetTable} (h : TabOk t) (es : Array (Int × Value)) (n : Nat) : TabOk (relayAll t es n).2.1 := by
 unfold relayAll
 split
 ·rename_i t' order hr
  dsimp only
  split
  ·unfold SetTable.relaid SetTable.laid at hr
   cases hc : SetTable.layClean (SetTable.sizeAbove n - 1) (es.map (·.1)) with
   | none => rw [hc] at hr; cases hr
   | some ow =>
    rw [hc] at hr
    simp only [bind, Option.bind, pure, Option.some.injEq, Prod.mk.injEq] at hr
    obtain ⟨e1, _⟩ := hr
    subst e1
    refine ⟨?_, rfl⟩
    unfold Ris
    simp only [List.toList_toArray]
    rw [List.pairwise_map]
    refine List.Pairwise.filterMap _ (fun a a' hl b hb b' hb' => ?_) List.pairwise_lt_range
    cases h1 : ow.getD a none with
    | none => rw [h1] at hb; cases hb
    | some u =>
     cases h2 : ow.getD a' none with
     | none => rw [h2] at hb'; cases hb'
     | some u' =>
      rw [h1] at hb; rw [h2] at hb'
      cases hb; cases hb'
      exact hl
  ·exact .standIn
 ·exact .standIn
end L2

namespace L2
open PySem PySem.Spec PyProof.Rows PySem.W PySem.Calls
structure NuSO (P : Program) (w : World) (o : Obj) (ss : List Int) : Prop where
 ex : o.ExactSet
 da : ∃ es ep t, o.data = .set es ep t ∧ ElemsOf (intKind P w) es.toList ∧ (∃ ss', IntsAre (es.toList.map (·.2)) ss' ∧ ss'.Perm ss) ∧ es.size < scanBound ∧ t.fits es.size = true ∧ (btx w = true ∨ t.led = true) ∧ TabOk t
def NuS (P : Program) (w : World) (h : Heap) (a : Addr) (ss : List Int) : Prop := ∃ o, h.get? a = some o ∧ NuSO P w o ss
theorem nus_mem {k : Int} : ∀ {vs : List Value} {ss : List Int}, IntsAre vs ss → ((∃ v ∈ vs, v.isInt k = true) ↔ k ∈ ss)
 | _, _, .nil => by simp
 | _, _, .cons x t r => by
  have ih := nus_mem (k := k) r
  constructor
  ·rintro ⟨v, hv, e⟩
   rcases List.mem_cons.mp hv with z | z
   ·subst z
    obtain ⟨u, e'⟩ := Value.isInt_shape e
    cases e'
    exact List.mem_cons_self
   ·exact List.mem_cons_of_mem _ (ih.mp ⟨v, z, e⟩)
  ·intro hk
   rcases List.mem_cons.mp hk with z | z
   ·subst z; exact ⟨_, List.mem_cons_self, by simp [Value.isInt]⟩
   ·obtain ⟨v, hv, e⟩ := ih.mpr z
    exact ⟨v, List.mem_cons_of_mem _ hv, e⟩
theorem nus_perm {vs vs' : List Value} (p : vs'.Perm vs) : ∀ {ss : List Int}, IntsAre vs ss → ∃ ss', IntsAre vs' ss' ∧ ss'.Perm ss := by
 induction p with
 | nil => intro ss h; exact ⟨ss, h, .refl _⟩
 | cons x p ih =>
  intro ss h
  cases h with
  | cons y t r => obtain ⟨s1, a, b⟩ := ih r; exact ⟨y :: s1, .cons y t a, b.cons y⟩
 | swap x y l =>
  intro ss h
  cases h with
  | cons a t r => cases r with | cons b u r => exact ⟨b :: a :: _, .cons b u (.cons a t r), .swap _ _ _⟩
 | trans p q ih1 ih2 =>
  intro ss h
  obtain ⟨s1, a, b⟩ := ih2 h
  obtain ⟨s2, c, d⟩ := ih1 a
  exact ⟨s2, c, d.trans b⟩
theorem nus_snoc {x : Int} {t : Tok} : ∀ {vs : List Value} {ss : List Int}, IntsAre vs ss → IntsAre (vs ++ [.int x t]) (ss ++ [x])
 | _, _, .nil => .cons x t .nil
 | _, _, .cons y u r => .cons y u (nus_snoc r)
theorem nus_len : ∀ {vs : List Value} {ss : List Int}, IntsAre vs ss → vs.length = ss.length
 | _, _, .nil => rfl
 | _, _, .cons y u r => by simp [nus_len r]
def addSN (ss : List Int) (x : Int) : List Int := if x ∈ ss then ss else ss ++ [x]
section
variable {P : Program} {w : World} {A : Around} {E : Value → Shared → Prop} {s : Shared}
theorem NuS.mk {h : Heap} {a : Addr} {o : Obj} {es es' : Array (Int × Value)} {ep : Nat} {t t' : SetTable} {ss : List Int} (o1 : h.get? a = some o) (x1 : o.ExactSet) (d1 : o.data = .set es ep t)
  (el : ElemsOf (intKind P w) es'.toList) (sp : ∃ ss', IntsAre (es'.toList.map (·.2)) ss' ∧ ss'.Perm ss) (b1 : es'.size < scanBound) (f1 : t'.fits es'.size = true) (l1 : btx w = true ∨ t'.led = true) (p1 : TabOk t') :
  (h.update a (Obj.putSet es' t')).get? a = some { o with data := .set es' (ep + 1) t' } ∧ NuS P w (h.update a (Obj.putSet es' t')) a ss := by
 have g : (h.update a (Obj.putSet es' t')).get? a = some { o with data := .set es' (ep + 1) t' } := by
  have z := Heap.get?_update_self (Obj.putSet es' t') o1 (by rw [putSet_of es' t' d1]; rfl)
  rw [putSet_of es' t' d1] at z; exact z
 exact ⟨g, _, g, x1, es', ep + 1, t', rfl, el, sp, b1, f1, l1, p1⟩
theorem wp_addTailN {g : Bool → Sem Unit} (hg : ∀ (b : Bool) (s₁ : Shared) (Q' : Unit → Shared → Prop), Q' () s₁ → wpAny (model P w) A (g b) Q' E s₁)
  {a : Addr} {o : Obj} {es : Array (Int × Value)} {ep : Nat} {t : SetTable} (o1 : s.heap.get? a = some o) (x1 : o.ExactSet) (d1 : o.data = .set es ep t)
  {es1 : Array (Int × Value)} {t2 : SetTable} {ss : List Int} (el : ElemsOf (intKind P w) es1.toList) (sp : ∃ ss', IntsAre (es1.toList.map (·.2)) ss' ∧ ss'.Perm ss)
  (b1 : es1.size < scanBound) (f2 : t2.fits es1.size = true) (l2 : btx w = true ∨ t2.led = true) (p2 : TabOk t2) {wd : Bool} {R : Option Bool → Shared → Prop}
  (h : ∀ h', Heap.SameBut a s.heap h' → NuS P w h' a ss → R (some true) { s with heap := h' }) :
  wpAny (model P w) A (do
    storeSet a es1 t2
    if (!wd && t2.tooFull) = true then do
      g (relayAll t2 es1 (SetTable.grown es1.size)).2.2
      storeSet a (relayAll t2 es1 (SetTable.grown es1.size)).1 (relayAll t2 es1 (SetTable.grown es1.size)).2.1
      pure (some true)
     else pure (some true)) R E s := by
 refine wpAny_bind (wpAny_storeSet_of o1 d1 ?_ (fits_of_scanBound b1))
 obtain ⟨o2, S2⟩ := NuS.mk (P := P) o1 x1 d1 el sp b1 f2 l2 p2
 have sb := Heap.SameBut.update s.heap a (Obj.putSet es1 t2)
 split
 ·have rp := relayAll_perm t2 es1 (SetTable.grown es1.size)
  have rf := relayAll_fits t2 es1 (SetTable.grown es1.size)
  have rl := relay_led t2 es1 (SetTable.grown es1.size)
  have rq := p2.relay es1 (SetTable.grown es1.size)
  generalize relayAll t2 es1 (SetTable.grown es1.size) = Z at rp rf rl rq ⊢
  obtain ⟨es2, t3, gv⟩ := Z
  dsimp only at rp rf rl rq ⊢
  have sz : es2.size = es1.size := by rw [← Array.length_toList, rp.length_eq, Array.length_toList]
  obtain ⟨ss', q1, q2⟩ := sp
  obtain ⟨ss2, q3, q4⟩ := nus_perm (rp.map (·.2)) q1
  refine wpAny_bind (hg _ _ _ (wpAny_bind (wpAny_storeSet_of o2 rfl ?_ (fits_of_scanBound (by rw [sz]; exact b1)))))
  obtain ⟨_, S3⟩ := NuS.mk (P := P) (w := w) (t' := t3) o2 x1 rfl (el.perm rp) ⟨ss2, q3, q4.trans q2⟩ (by rw [sz]; exact b1) rf (by rw [rl]; exact l2) rq
  exact wpAny_pure (h _ (sb.trans (Heap.SameBut.update _ a _)) S3)
 ·exact wpAny_pure (h _ sb S2)
theorem wp_addTN {a : Addr} {ss : List Int} {x : Int} {tk : Tok} {Q : Bool → Shared → Prop} (hS : NuS P w s.heap a ss) (hroom : ss.length + 1 < scanBound)
  (h : ∀ h' b, Heap.SameBut a s.heap h' → NuS P w h' a (addSN ss x) → Q b { s with heap := h' }) :
  wpAny (model P w) A (setAddHashed a (.int x tk) (hashInt x)) Q E s := by
 obtain ⟨o, o1, x1, es, ep, t, d1, el, ⟨ss', s1, s2⟩, b1, f1, l1, p1⟩ := hS
 have hk : (intKind P w).is x (.int x tk) = true := intKind_is _ _ _ _
 have hsc : (Value.int x tk).scannable = true := rfl
 have ln : es.size = ss.length := by rw [← s2.length_eq, ← nus_len s1, List.length_map, Array.length_toList]
 unfold setAddHashed setAddHashedIn
 refine wpAny_holding (wpAny_bind (wpAny_setState_of o1 d1 f1 ?_))
 dsimp only
 rw [byScan_of hsc b1 el, if_pos rfl]
 unfold setAddByScan
 refine wpAny_bind (wpAny_bind (wpAny_rule (wpAny_bind (wpAny_setScan_of hk o1 d1 f1 el ?_))))
 have mem : (∃ e ∈ es.toList, (intKind P w).is x e.2 = true) ↔ x ∈ ss := by
  rw [← s2.mem_iff, ← nus_mem s1]
  constructor
  ·rintro ⟨e, he, q⟩; exact ⟨e.2, List.mem_map.mpr ⟨e, he, rfl⟩, q⟩
  ·rintro ⟨v, hv, q⟩; obtain ⟨e, he, rfl⟩ := List.mem_map.mp hv; exact ⟨e, he, q⟩
 cases hr : List.findIdx? (fun e => (intKind P w).is x e.2) es.toList with
 | some j =>
  obtain ⟨hj, hp, _⟩ := List.findIdx?_eq_some_iff_getElem.mp hr
  have hx : x ∈ ss := mem.mp ⟨_, List.getElem_mem hj, hp⟩
  refine wpAny_pure (wpAny_pure ?_)
  have z := h s.heap false (Heap.SameBut.refl a s.heap) (by unfold addSN; rw [if_pos hx]; exact ⟨o, o1, x1, es, ep, t, d1, el, ⟨ss', s1, s2⟩, b1, f1, l1, p1⟩)
  have e : s = { s with heap := s.heap } := by cases s; rfl
  rw [e]; exact z
 | none =>
  dsimp only
  have hx : x ∉ ss := fun z => by
   obtain ⟨e, he, q⟩ := mem.mpr z
   have := List.findIdx?_eq_none_iff.mp hr e he
   rw [q] at this; cases this
  have eS : addSN ss x = ss ++ [x] := if_neg hx
  rw [eS] at h
  have lp := layNew_perm t es (hashInt x) (.int x tk)
  have lf := layNew_fits t es (hashInt x) (.int x tk)
  have ll := lay_led t es (hashInt x) (.int x tk)
  have lt := p1.layNew es (hashInt x) (.int x tk)
  generalize layNew t es (hashInt x) (.int x tk) = L at lp lf ll lt ⊢
  obtain ⟨es1, t1, wd, gv⟩ := L
  dsimp only at lp lf ll lt ⊢
  rw [Array.toList_push] at lp
  have el1 : ElemsOf (intKind P w) es1.toList := (el.push hk hsc).perm lp
  have sp1 : ∃ ss', IntsAre (es1.toList.map (·.2)) ss' ∧ ss'.Perm (ss ++ [x]) := by
   have s3 : IntsAre ((es.toList ++ [(hashInt x, Value.int x tk)]).map (·.2)) (ss' ++ [x]) := by
    rw [List.map_append]; exact nus_snoc s1
   obtain ⟨s4, q1, q2⟩ := nus_perm (lp.map (·.2)) s3
   exact ⟨s4, q1, q2.trans (s2.append_right _)⟩
  have n1 : es1.size = es.size + 1 := by rw [← Array.length_toList, lp.length_eq]; simp
  have b2 : es1.size < scanBound := by omega
  have l2 : btx w = true ∨ t1.led = true := by rw [ll]; exact l1
  have gw : ∀ (b : Bool) (s₁ : Shared) (Q' : Unit → Shared → Prop), Q' () s₁ → wpAny (model P w) A (match b with | true => rule "set.scan.the-table-gave-way" | false => pure ()) Q' E s₁ :=
   fun b s₁ Q' z => by cases b <;> first | exact wpAny_pure z | exact wpAny_rule z
  refine wpAny_bind (gw _ _ _ ?_)
  split
  ·refine wpAny_bind ?_
   rw [hashByValue_scannable 8 hsc]
   refine wpAny_pure ?_
   rw [if_pos (show plainKind (Value.int x tk) = true from rfl)]
   exact wp_addTailN gw o1 x1 d1 el1 sp1 b2 lf l2 lt fun h' sb S' => wpAny_pure (h h' true sb S')
  ·refine wpAny_bind (wpAny_pure ?_)
   rw [if_pos rfl]
   exact wp_addTailN gw o1 x1 d1 el1 sp1 b2 lf l2 lt fun h' sb S' => wpAny_pure (h h' true sb S')
end
end L2

namespace L2
open PySem PySem.Spec PyProof.Rows PySem.W PySem.Calls
def metSN (val : Nat → Int) (i : Nat) : List Int := ((List.range i).map val).foldl addSN []
theorem metSN_succ (val : Nat → Int) (i : Nat) : metSN val (i + 1) = addSN (metSN val i) (val i) := by
 unfold metSN; rw [List.range_succ, List.map_append, List.foldl_append]; rfl
theorem metSN_le (val : Nat → Int) : ∀ i, (metSN val i).length ≤ i
 | 0 => Nat.le_refl _
 | i + 1 => by
  have ih := metSN_le val i
  rw [metSN_succ]; unfold addSN
  split
  ·omega
  ·simp; omega
theorem addSN_nd {ss : List Int} {x : Int} (h : ss.Nodup) : (addSN ss x).Nodup := by
 unfold addSN
 split
 ·exact h
 ·rename_i hx
  refine List.nodup_append.mpr ⟨h, by simp, fun a ha b hb => ?_⟩
  rw [List.mem_singleton] at hb; subst hb
  intro e; subst e; exact hx ha
theorem addSN_mem {ss : List Int} {x y : Int} : y ∈ addSN ss x ↔ y ∈ ss ∨ y = x := by
 unfold addSN
 split
 ·rename_i hx
  exact ⟨.inl, fun z => z.elim id fun e => by subst e; exact hx⟩
 ·simp
theorem foldSN_mem {y : Int} : ∀ {l ss : List Int}, y ∈ l.foldl addSN ss ↔ y ∈ ss ∨ y ∈ l
 | [], ss => by simp
 | a :: l, ss => by rw [List.foldl_cons, foldSN_mem, addSN_mem, List.mem_cons]; exact or_assoc
theorem foldSN_nd : ∀ {l ss : List Int}, ss.Nodup → (l.foldl addSN ss).Nodup
 | [], _, h => h
 | a :: l, _, h => by rw [List.foldl_cons]; exact foldSN_nd (addSN_nd h)
theorem NuS.stay {P : Program} {w : World} {h h' : Heap} {a : Addr} {ss : List Int} (x : NuS P w h a ss) (k : ∀ o, h.get? a = some o → h'.get? a = some o) : NuS P w h' a ss :=
 let ⟨o, e, r⟩ := x; ⟨o, k o e, r⟩
section
variable {P : Program} {w : World} {A : Around} {R : Result → Shared → Prop} {I : Addr} {fp wr : List Addr} {G : Array GenState → Array GenState → Prop} {n : Nat} {Pv : Nat → Value → Prop} {St : Nat → Shared → Prop}
theorem loop_addTN (W : WalksS P w A.in1 I fp wr G n Pv St) (S : Addr) (hSf : S ∉ fp) (val : Nat → Int) (hval : ∀ i v, Pv i v → ∃ t, v = .int (val i) t) (hb : n + 1 < scanBound) :
  ∀ (k i : Nat) (s : Shared), n - i = k → i ≤ n → St i s → NuS P w s.heap S (metSN val i) →
   (∀ s', Moved (S :: wr) G s s' → NuS P w s'.heap S (metSN val n) → R (.ok (.ret .none)) s') → codeAny (model P w) A (.builtin "set.update.loop" ⟨[.ref S, .ref I], []⟩) R s := by
 have sw : S ∉ wr := fun z => hSf (W.sub _ z)
 have sub : ∀ b ∈ wr, b ∈ S :: wr := fun b z => List.mem_cons_of_mem _ z
 intro k
 induction k with
 | zero =>
  intro i s e1 e2 st hS q
  obtain rfl : i = n := by omega
  refine codeAny_builtin PyProof.Rows.F.entry_set_update_loop ?_
  rw [Around.under_plainId PyProof.Rows.F.plain_set_update_loop _]
  show wpAny _ A.in1 (pyNext (.ref I) >>= _) _ _ s
  exact wpAny_bind (W.done s _ _ st fun s' m => wpAny_pure (q s' (m.mono sub) (hS.stay fun o e => m.heap S o sw e)))
 | succ k ih =>
  intro i s e1 e2 st hS q
  have lt : i < n := by omega
  refine codeAny_builtin PyProof.Rows.F.entry_set_update_loop ?_
  rw [Around.under_plainId PyProof.Rows.F.plain_set_update_loop _]
  show wpAny _ A.in1 (pyNext (.ref I) >>= _) _ _ s
  refine wpAny_bind (W.item i s _ _ lt st fun v s' hP st' m => ?_)
  obtain ⟨t, rfl⟩ := hval i v hP
  have hS' := hS.stay (h' := s'.heap) fun o e => m.heap S o sw e
  show wpAny _ A.in1 (holding [Value.int (val i) t] (setAdd S (.int (val i) t)) >>= _) _ _ s'
  refine wpAny_bind (wpAny_holding ?_)
  unfold setAdd
  refine wpAny_holding (wpAny_bind ((intKind P w).pyHash (k := val i) (intKind_is _ _ _ _) ?_))
  have rm : (metSN val i).length + 1 < scanBound := by have := metSN_le val i; omega
  refine wp_addTN (s := { s' with toks := s'.toks + 1 }) hS' rm fun h' b sb S2 => ?_
  rw [← metSN_succ] at S2
  refine wpAny_pure ⟨plainId_quiet PyProof.Rows.F.plain_set_update_loop _, ih (i + 1) _ (by omega) lt (W.frame _ s' _ _ st' (Nat.le_succ _) fun b hb o e => ?_) S2 fun s2 m2 S3 => ?_⟩
  ·rw [sb.2 b (fun z : b = S => hSf (by rw [← z]; exact hb))]; exact e
  ·refine q s2 (Moved.trans W.gtrans ((m.mono sub).then_heap (Nat.le_succ _) fun b o hb e => ?_) m2) S3
   rw [sb.2 b (fun z : b = S => hb (by rw [z]; exact List.mem_cons_self))]; exact e
end
section
variable {P : Program} {w : World} {A : Around} {E : Value → Shared → Prop} {s : Shared}
theorem NuS.fresh {h : Heap} {a : Addr} (e : h.get? a = some { cls := .type "set", dict := none, data := .set #[] 0 (.fresh 0 0 (!btx w)) }) : NuS P w h a [] := by
 refine ⟨_, e, ⟨rfl, rfl, rfl⟩, #[], 0, _, rfl, fun e he => by simp at he, ⟨[], .nil, .refl _⟩, by decide, rfl, ?_, TabOk.fresh⟩
 cases hb : btx w with
 | true => exact .inl rfl
 | false => exact .inr rfl
set_option maxHeartbeats 3200000 in
theorem call_setTN {l : Addr} {items : Array Value} {ss : List Int} {Q : Value → Shared → Prop}
  (hh : A.handled = none) (hl : s.heap.IsList l items) (hi : IntsAre items.toList ss) (hb : items.size + 1 < scanBound)
  (h : ∀ (h' : Heap) (tk : Nat), NuS P w h' s.heap.objs.size (ss.foldl addSN []) → (∀ b o, s.heap.get? b = some o → h'.get? b = some o) → Q (.ref s.heap.objs.size) { s with heap := h', toks := tk }) :
  wpAny (model P w) A (call (.type "set") [.ref l]) Q E s := by
 obtain ⟨c, tl, hmro⟩ := PySem.F.called_set.mro
 have hmade := PySem.F.called_set.made
 have hsub := PySem.F.called_set.sub
 refine wpAny_call (codeAny_of_tree ?_)
 show wpAny _ _ (callAny (.type "set") _) _ _ _
 refine wpAny_pure ⟨Code.quiet_builtin _ (by decide +kernel), codeAny_builtin PySem.F.entry_type_call ?_⟩
 rw [Around.under_plain (weight_type_call_type "set" [.ref l] []) rfl]
 have h1 := PySem.F.called_set.notType
 have h2 := PySem.F.called_set.canCreate
 have hct := PySem.F.typeCall_set_1 (.ref l)
 repeat (any_goals (first | assumption | wp_step))
 generalize hob : ({ cls := .type "set", dict := none, data := .set #[] 0 (.fresh 0 0 (!btx w)) } : Obj) = ob
 refine codeAny_mono (new_setT (P := P) (w := w) (.ref l) (E := E) (Q₁ := fun u s₁ => u = .ref s.heap.objs.size ∧ s₁ = { s with heap := s.heap.push ob }) (by subst hob; exact ⟨rfl, rfl⟩)) fun r s₁ hr => ?_
 cases r with
 | error e => exact hr
 | ok fl =>
  cases fl with
  | ret u =>
   obtain ⟨rfl, rfl⟩ := hr
   have hS : (s.heap.push ob).get? s.heap.objs.size = some ob := Heap.get?_push_size _ (by subst hob; rfl)
   have hT : Shared.TypeIs { s with heap := s.heap.push ob } (.ref s.heap.objs.size) "set" := ⟨_, hS, by subst hob; rfl⟩
   have hli := PySem.F.called_set.init.lookup
   have hbi := PySem.F.called_set.init.bind (.ref s.heap.objs.size)
   repeat (any_goals (first | assumption | wp_step))
   refine codeAny_mono (codeAny_call_builtin (R := wants (fun r s₂ => r = .none ∧ ∃ h' tk, s₂ = { s with heap := h', toks := tk } ∧ NuS P w h' s.heap.objs.size (ss.foldl addSN []) ∧ ∀ b o, s.heap.get? b = some o → h'.get? b = some o) E)
    PySem.F.called_set.init.plain PySem.F.entry_set_init (check_set_init_1 hT ?_)) fun r₂ s₂ hr₂ => ?_
   ·obtain ⟨ol, o1, c1, nl, d1⟩ := hl
    obtain ⟨oc, od, oda, osl⟩ := ol
    simp only at c1 d1
    subst c1; subst d1
    have o2 : (s.heap.push ob).get? l = some { cls := .type "list", dict := od, data := .seq items nl, slots := osl } := Heap.get?_push_of_some _ o1
    have q1 := PySem.F.sub_list_set
    have q2 := PySem.F.sub_list_frozenset
    have q3 : (Value.type "list" == Value.type "dict") = false := by decide
    have l1 : (s.heap.push ob).IsList l items := ⟨_, o2, rfl, nl, rfl⟩
    subst hob
    unfold Builtin.«set.__init__» noKeywords Builtin.Frozenset.updateFrom
    generalize hPI : pyIter = PI
    wp_walk
    subst hPI
    refine wpAny_pyIter_list l1 ?_; refine wpAny_bind (wpAny_runValue ?_)
    have ll : l < s.heap.objs.size := Heap.lt_size o1
    have sz : ∀ ob : Obj, (s.heap.push ob).objs.size = s.heap.objs.size + 1 := fun _ => Heap.size_push _ _
    have n1 : ∀ ob : Obj, l ≠ (s.heap.push ob).objs.size := fun _ => by rw [sz]; exact Nat.ne_of_lt (Nat.lt_succ_of_lt ll)
    have n2 : ∀ ob : Obj, s.heap.objs.size ∉ [(s.heap.push ob).objs.size, l] := fun _ => by
     rw [sz]; simp only [List.mem_cons, List.not_mem_nil, or_false, not_or]; exact ⟨Nat.ne_of_lt (Nat.lt_succ_self _), Nat.ne_of_gt ll⟩
    have hv : ∀ (i : Nat) (v : Value), items[i]? = some v → ∃ t, v = .int ((fun i : Nat => (ss[i]?).getD 0) i) t := fun i v e => by
     rw [← Array.getElem?_toList] at e
     have : ∀ {vs : List Value} {ss : List Int}, IntsAre vs ss → ∀ (i : Nat) (v : Value), vs[i]? = some v → ∃ t, v = .int ((ss[i]?).getD 0) t := by
      intro vs ss x
      induction x with
      | nil => intro i v e; simp at e
      | cons y t r ih =>
       intro i v e
       cases i with
       | zero => simp at e; exact ⟨t, by rw [← e]; rfl⟩
       | succ i => simp only [List.getElem?_cons_succ] at e ⊢; exact ih i v e
     exact this hi i v e
    have hm : metSN (fun i => (ss[i]?).getD 0) items.size = ss.foldl addSN [] := by
     have e : items.size = ss.length := by rw [← nus_len hi, Array.length_toList]
     unfold metSN
     rw [e]
     congr 1
     apply List.ext_getElem (by simp)
     intro i a b
     simp at a b ⊢
     rw [List.getElem?_eq_getElem (by omega)]; rfl
    refine loop_addTN (Walks.list (show A.in1.in1.in1.handled = none by simp [hh]) _ l (n1 _) items).toS s.heap.objs.size (n2 _) _ hv hb (items.size - 0) 0 _ (by omega) (Nat.zero_le _)
     ⟨⟨_, Heap.get?_push_size _ rfl, rfl, rfl⟩, l1.push _⟩ ?hS0 ?hR
    case hS0 =>
     exact NuS.fresh (Heap.get?_push_of_some _ hS)
    case hR =>
     intro s' m S'
     rw [hm] at S'
     obtain ⟨h', g', d', tk', os'⟩ := s'
     obtain rfl : g' = s.gens := m.gens
     obtain rfl : d' = s.drawn := m.drawn
     obtain rfl : os' = s.os := m.os
     show wpAny _ _ _ _ _ _
     refine wpAny_pure (wpAny_pure ⟨rfl, h', tk', rfl, S', fun b o e => ?_⟩)
     have hb1 : b < s.heap.objs.size := Heap.lt_size e
     refine m.heap b o ?_ (Heap.get?_push_of_some _ (Heap.get?_push_of_some _ e))
     rw [sz]; simp only [List.mem_cons, List.not_mem_nil, or_false, not_or]; exact ⟨Nat.ne_of_lt hb1, Nat.ne_of_lt (Nat.lt_succ_of_lt hb1)⟩
   ·cases r₂ with
    | error e => exact hr₂
    | ok fl₂ =>
     cases fl₂ with
     | ret r =>
      obtain ⟨rfl, h', tk, rfl, S', k'⟩ := hr₂
      repeat (any_goals (first | assumption | wp_step))
      exact h _ _ S' k'
     | _ => exact hr₂.elim
  | _ => exact hr.elim
end
end L2

namespace L2
open PySem PySem.Spec PyProof.Rows PySem.W PySem.Calls
section
variable {P : Program} {w : World} {A : Around} {E : Value → Shared → Prop} {s : Shared} {a : Addr} {o : Obj} {es : Array (Int × Value)} {ep : Nat} {t : SetTable}
theorem wp_nextN {slot i : Nat} {Q : Option (Value × Nat) → Shared → Prop} (hb : btx w = false) (o1 : s.heap.get? a = some o) (d1 : o.data = .set es ep t) (f1 : t.fits es.size = true) (hd : (!t.plain && decide (es.size > 1)) = false) (hl : t.led = true)
  (h : Q (match es[SetTable.below t.place slot]?, t.place[SetTable.below t.place slot]? with | some (_, x), some j => some (x, j + 1) | _, _ => none) s) : wpAny (model P w) A (setNext a slot i ep) Q E s := by
 unfold setNext setsByText
 refine wpAny_bind (wpAny_setState_of o1 d1 f1 (wpAny_bind (wpAny_bind (wpAny_askSetting (wpAny_pure ?_)))))
 rw [if_neg (show ¬ (model P w).w.params.followText "set-order" = true from by show ¬ btx w = true; rw [hb]; decide)]
 show wpAny _ _ (if (!t.plain && decide (es.size > 1)) = true then _ else _) _ _ _
 rw [if_neg (by rw [hd]; decide)]
 refine wpAny_bind (m := if (!t.led && !es.isEmpty) = true then unsupported "set:maker-not-led" else pure ()) ?_
 rw [if_neg (by simp [hl])]
 exact wpAny_pure (wpAny_pure h)
theorem iter_setN {ss : List Int} {Q : Value → Shared → Prop} (hh : A.handled = none) (hS : NuS P w s.heap a ss)
  (q : ∀ (I : Addr) (h1 : Heap) (d1 : Drawn) (vs : List Value) (fp wr : List Addr) (n : Nat) (St : Nat → Heap → Prop), (∀ b u, s.heap.get? b = some u → h1.get? b = some u) → (∃ ss', IntsAre vs ss' ∧ ss'.Perm ss) → n = ss.length →
   Walks P w A I fp wr n (fun i v => vs[i]? = some v) St → St 0 h1 → (∀ b ∈ fp, b = a ∨ s.heap.objs.size ≤ b) → (∀ b ∈ wr, s.heap.objs.size ≤ b) → vs.length = n → (∀ b ∈ fp, b < h1.objs.size) → Q (.ref I) { s with heap := h1, drawn := d1 }) :
  wpAny (model P w) A (pyIter (.ref a)) Q E s := by
 obtain ⟨o, o1, x1, es, ep, t, d1, el, ⟨ss', s1, s2⟩, b1, f1, l1, p1⟩ := hS
 have hT : s.TypeIs (.ref a) "set" := ⟨o, o1, x1.1⟩
 have la : a < s.heap.objs.size := Heap.lt_size o1
 have ln : es.size = ss.length := by rw [← s2.length_eq, ← nus_len s1, List.length_map, Array.length_toList]
 refine wpAny_pyIter_slot hT PySem.F.slot_set_iter (wpAny_call_entry PySem.F.slot_set_iter hT entry_setit ?_ (PySem.F.args_set_iter_1 _))
 unfold Builtin.«frozenset.__iter__»
 refine wpAny_bind (m := Builtin.Frozenset.slot0 _ _) (wpAny_pure ?_)
 refine wpAny_bind (m := Builtin.Frozenset.sizeOf a) (wpAny_bind (wpAny_setEntries_of o1 d1 f1 (wpAny_pure ?_)))
 refine wpAny_bind (m := setDrawn a) ?_
 unfold setDrawn setsByText
 refine wpAny_bind (wpAny_setState_of o1 d1 f1 (wpAny_bind (wpAny_bind (wpAny_askSetting (wpAny_pure (wpAny_pure ?_))))))
 show wpAny _ _ (if (!(btx w) && (!t.plain && decide (es.size > 1))) = true then _ else _) _ _ _
 have lastly : ∀ (f : Value) (h1 : Heap) (d : Drawn), h1.get? a = some o → (∀ I h2, h2 = h1.push { cls := .type "set_iterator", data := .fields #[f, .int (0 : Nat) 0, .ref a, .int es.size 0, .int ep 0] } → I = h1.objs.size → Q (.ref I) { s with heap := h2, drawn := d }) →
   wpAny (model P w) A.in1 (setEpoch a >>= fun e => newFields "set_iterator" [f, rawInt 0, .ref a, rawInt es.size, rawInt e] >>= fun v => ret v)
    (fun fin s' => ∃ v, fin = .done (.ret v) ∧ ∃ T' r, s'.TypeIs v T' ∧ typeLookup (.type T') "__next__" = pure (some r) ∧ Q v s') E { s with heap := h1, drawn := d } := by
  intro f h1 d e1 k
  refine wpAny_bind (wpAny_setEpoch_of (s := { s with heap := h1, drawn := d }) e1 d1 f1 ?_)
  refine wpAny_bind (wpAny_newObj_type (wpAny_pure ?_))
  exact ⟨_, rfl, "set_iterator", _, ⟨_, Heap.get?_push_size _ rfl, rfl⟩, slot_sit.lookup, k _ _ rfl rfl⟩
 have szp : ∀ (h : Heap) (ob : Obj), (h.push ob).objs.size = h.objs.size + 1 := fun _ _ => Heap.size_push _ _
 have n0 : a ≠ s.heap.objs.size := Nat.ne_of_lt la
 by_cases hdr : (!(btx w) && (!t.plain && decide (es.size > 1))) = true
 ·rw [if_pos hdr]
  refine wpAny_bind (wp_draw es.size (List.range es.size) s _ (by simp) fun ks d hp => wpAny_bind (m := newTuple _) (wpAny_newObj_type ?_ ?_))
  ·have lk : ks.length = es.size := by rw [hp.length_eq, List.length_range]
   refine lastly _ (s.heap.push _) d (Heap.get?_push_of_some _ o1) fun I h2 e2 eI => ?_
   subst e2 eI
   have k1 : a ≠ (s.heap.push { cls := .type "tuple", data := .seq (ks.map fun (i : Nat) => rawInt i).toArray }).objs.size := by rw [szp]; exact Nat.ne_of_lt (Nat.lt_succ_of_lt la)
   have k2 : s.heap.objs.size ≠ (s.heap.push { cls := .type "tuple", data := .seq (ks.map fun (i : Nat) => rawInt i).toArray }).objs.size := by rw [szp]; exact Nat.ne_of_lt (Nat.lt_succ_self _)
   have pm : (ks.map fun k => ((es[k]?).map (·.2)).getD .none).Perm (es.toList.map (·.2)) := by
    refine (hp.map _).trans (.of_eq ?_)
    apply List.ext_getElem (by simp)
    intro i a b
    simp at a b ⊢
    rw [Array.getElem?_eq_getElem a]; rfl
   obtain ⟨ss2, q3, q4⟩ := nus_perm pm s1
   refine q _ _ d _ _ _ es.size _ (fun b u e => Heap.get?_push_of_some _ (Heap.get?_push_of_some _ e)) ⟨ss2, q3, q4.trans s2⟩ ln
    (walk_tup hh _ _ k1 k2 d1 f1 _ ks rfl lk (fun i k e => ?_)) ⟨⟨_, Heap.get?_push_size _ rfl, rfl, rfl⟩, Heap.get?_push_of_some _ (Heap.get?_push_of_some _ o1), Heap.get?_push_of_some _ (Heap.get?_push_size _ rfl)⟩ (fun b hb => ?_) (fun b hb => ?_) (by simp [lk]) (fun b hb => ?_)
   ·have hk : k < es.size := by
     have := hp.mem_iff.mp (List.mem_of_getElem? e)
     simpa using this
    refine ⟨es[k].1, es[k].2, by simp [hk], ?_⟩
    rw [List.getElem?_map, e]; simp [hk]
   ·simp only [List.mem_cons, List.not_mem_nil, or_false] at hb
    rcases hb with rfl | rfl | rfl
    ·right; rw [szp]; exact Nat.le_succ _
    ·left; rfl
    ·right; exact Nat.le_refl _
   ·rw [List.mem_singleton] at hb; rw [hb, szp]; exact Nat.le_succ _
   ·simp only [List.mem_cons, List.not_mem_nil, or_false] at hb
    rw [szp, szp]
    rcases hb with rfl | rfl | rfl
    ·rw [szp]; exact Nat.lt_succ_self _
    ·exact Nat.lt_succ_of_lt (Nat.lt_succ_of_lt la)
    ·exact Nat.lt_succ_of_lt (Nat.lt_succ_self _)
  ·unfold sizeOk; simp [hp.length_eq]
   have : scanBound = 4096 := rfl
   have : sizeLine = 16777216 := by first | rfl | exact sizeLine_eq
   omega
 ·rw [if_neg hdr]
  refine wpAny_bind (wpAny_pure ?_)
  have e0 : s = { s with heap := s.heap, drawn := s.drawn } := by cases s; rfl
  show wpAny _ _ _ _ _ { s with heap := s.heap, drawn := s.drawn }
  refine lastly _ s.heap s.drawn o1 fun I h2 e2 eI => ?_
  subst e2 eI
  have fpa : ∀ b ∈ [s.heap.objs.size, a], b = a ∨ s.heap.objs.size ≤ b := fun b hb => by
   simp only [List.mem_cons, List.not_mem_nil, or_false] at hb
   rcases hb with rfl | rfl
   ·right; exact Nat.le_refl _
   ·left; rfl
  have wra : ∀ b ∈ [s.heap.objs.size], s.heap.objs.size ≤ b := fun b hb => by rw [List.mem_singleton] at hb; rw [hb]; exact Nat.le_refl _
  have fpl : ∀ (ob : Obj), ∀ b ∈ [s.heap.objs.size, a], b < (s.heap.push ob).objs.size := fun ob b hb => by
   rw [szp]
   simp only [List.mem_cons, List.not_mem_nil, or_false] at hb
   rcases hb with rfl | rfl
   ·exact Nat.lt_succ_self _
   ·exact Nat.lt_succ_of_lt la
  cases hb : btx w with
  | true =>
   have pm := pickP (w.params.setOrder a ep) es
   obtain ⟨ss2, q3, q4⟩ := nus_perm (pm.map (·.2)) s1
   have lp : ((pickOrder (w.params.setOrder a ep) es).toList.map (·.2)).length = es.size := by rw [List.length_map, pm.length_eq, Array.length_toList]
   refine q _ _ s.drawn _ _ _ es.size _ (fun b u e => Heap.get?_push_of_some _ e) ⟨ss2, q3, q4.trans s2⟩ ln
    (walk_int hh _ n0 d1 f1 _ lp (fun _ => 0) (fun s i hi E' Q' g z => wp_nextA hb g d1 f1 ?_) (fun s E' Q' g z => wp_nextA hb g d1 f1 ?_)) ⟨⟨_, Heap.get?_push_size _ rfl, rfl, rfl⟩, Heap.get?_push_of_some _ o1⟩ fpa wra lp (fpl _)
   ·have hi' : i < (pickOrder (w.params.setOrder a ep) es).size := by rw [← Array.length_toList, ← List.length_map (f := (·.2))]; exact hi
    rw [Array.getElem?_eq_getElem hi']
    simpa using z
   ·have : (pickOrder (w.params.setOrder a ep) es).size = es.size := by rw [← Array.length_toList, pm.length_eq, Array.length_toList]
    rw [Array.getElem?_eq_none (by omega)]; exact z
  | false =>
   have hled : t.led = true := by
    rcases l1 with l1 | l1
    ·rw [hb] at l1; cases l1
    ·exact l1
   have hcd : (!t.plain && decide (es.size > 1)) = false := by
    cases hx : (!t.plain && decide (es.size > 1)) with
    | false => rfl
    | true => exfalso; apply hdr; rw [hb, hx]; rfl
   have hpl : t.place.size = es.size := by
    simp only [SetTable.fits, Bool.and_eq_true, beq_iff_eq] at f1; exact f1.1
   have lp : (es.toList.map (·.2)).length = es.size := by rw [List.length_map, Array.length_toList]
   have bel : ∀ i, i ≤ es.size → SetTable.below t.place (if i = 0 then 0 else t.place.getD (i - 1) 0 + 1) = i := fun i hi => by
    by_cases h0 : i = 0
    ·rw [if_pos h0, below_zero p1.ris, h0]
    ·rw [if_neg h0]
     have hlt : i - 1 < t.place.size := by omega
     have eg : t.place.getD (i - 1) 0 = t.place[i - 1] := by simp [Array.getD, hlt]
     rw [eg, below_next p1.ris hlt]; omega
   refine q _ _ s.drawn _ _ _ es.size _ (fun b u e => Heap.get?_push_of_some _ e) ⟨ss', s1, s2⟩ ln
    (walk_int hh _ n0 d1 f1 _ lp (fun i => if i = 0 then 0 else t.place.getD (i - 1) 0 + 1) (fun s i hi E' Q' g z => wp_nextN hb g d1 f1 hcd hled ?_) (fun s E' Q' g z => wp_nextN hb g d1 f1 hcd hled ?_)) ⟨⟨_, Heap.get?_push_size _ rfl, rfl, rfl⟩, Heap.get?_push_of_some _ o1⟩ fpa wra lp (fpl _)
   ·have hi' : i < es.size := by rw [← lp]; exact hi
    rw [bel i (by omega)]
    have h1 : es[i]? = some es[i] := by simp [hi']
    have h2 : t.place[i]? = some (t.place[i]'(by omega)) := by simp [show i < t.place.size by omega]
    rw [h1, h2]
    have eg : t.place.getD (i + 1 - 1) 0 = t.place[i]'(by omega) := by simp [Array.getD, show i < t.place.size by omega]
    rw [if_neg (by omega), eg] at z
    simpa using z
   ·rw [bel es.size (Nat.le_refl _)]
    rw [Array.getElem?_eq_none (by omega)]; exact z
end
end L2

namespace L2
open PySem PySem.Spec PyProof.Rows PySem.W PySem.Calls
section
variable {P : Program} {w : World} {A : Around} {E : Value → Shared → Prop} {s : Shared} {a : Addr}
theorem extend_setN {ss : List Int} {R : Result → Shared → Prop} (hh : A.handled = none) (hS : NuS P w s.heap a ss) (S : Addr) (hSa : S ≠ a) (res : Value) (c₀ : Nat) (l1 : s.heap.get? S = some { cls := .type "list", data := .seq #[] c₀ }) (hn : ss.length ≤ 4096)
  (hR : ∀ h' tk d acc c', (∀ b u, b ≠ S → s.heap.get? b = some u → h'.get? b = some u) → h'.get? S = some { cls := .type "list", dict := none, data := .seq acc c', slots := #[] } → (∃ ss', IntsAre acc.toList ss' ∧ ss'.Perm ss) → R (.ok (.ret res)) { s with heap := h', toks := tk, drawn := d }) :
  wpAny (model P w) A.in1 (Builtin.List.listExtendWith (.ref S) (.ref a) res)
   (fun fin s' => match fin with | .done f => R (.ok f) s' | .again c' => c'.quiet = true ∧ codeAny (model P w) A c' R s') (fun e s' => R (.error e) s') s := by
 obtain ⟨o, o1, x1, rest⟩ := id hS
 have hT : s.TypeIs (.ref a) "set" := ⟨o, o1, x1.1⟩
 have lS : S < s.heap.objs.size := Heap.lt_size l1
 unfold Builtin.List.listExtendWith
 refine wpAny_bind (wpAny_typeOf hT ?_)
 have e1 : Builtin.List.listSameRef (.ref S) (.ref a) = false := by simp [Builtin.List.listSameRef, hSa]
 have e2 : (Value.type "set" == Value.type "list") = false := by decide
 have e3 : (Value.type "set" == Value.type "tuple") = false := by decide
 simp only [e1, e2, e3, Bool.or_false, Bool.false_eq_true, if_false]
 refine wpAny_bind (iter_setN (A := A.in1) hh hS fun I h1 d1 vs fp wr n St k1 sv en W st hf hw hlv hfl => ?_)
 have nf : S ∉ fp := fun z => by
  rcases hf S z with e | e
  ·exact hSa e
  ·exact absurd lS (Nat.not_lt.mpr e)
 have key : ∀ (h : Heap) (c₁ tk : Nat), St 0 h → (∀ b u, b ≠ S → s.heap.get? b = some u → h.get? b = some u) →
   h.get? S = some { cls := .type "list", data := .seq #[] c₁ } → codeAny (model P w) A (.builtin "list.extend.loop" ⟨[.ref S, .ref I, res], []⟩) R { s with heap := h, toks := tk, drawn := d1 } := by
  intro h c₁ tk hst hk g
  refine codeAny_extend_loopS W.toS (Nat.le_trans (by omega : n ≤ 4096) (by decide)) S nf res n 0 _ #[] c₁ rfl (Nat.zero_le _) hst g (ItemsOf.nil _) fun s' acc c' m gq hacc => ?_
  obtain ⟨h', g', d', tk', os'⟩ := s'
  obtain rfl : g' = s.gens := m.gens
  obtain rfl : d' = d1 := m.drawn
  obtain rfl : os' = s.os := m.os
  refine hR h' tk' d' acc c' (fun b u hb e => m.heap b u (fun z => ?_) (hk b u hb e)) gq ?_
  ·rcases List.mem_cons.mp z with e' | z
   ·exact hb e'
   ·exact absurd (Heap.lt_size e) (Nat.not_lt.mpr (hw b z))
  ·have ea : acc.toList = vs := by
    apply List.ext_getElem?
    intro i
    rcases Nat.lt_or_ge i n with z | z
    ·have hz : i < acc.size := by rw [hacc.1]; exact z
     have : acc[i]? = some acc[i] := Array.getElem?_eq_getElem hz
     rw [Array.getElem?_toList, this, hacc.2 i _ this]
    ·rw [List.getElem?_eq_none (by rw [Array.length_toList, hacc.1]; exact z), List.getElem?_eq_none (by omega)]
   rw [ea]; exact sv
 have g1 := k1 S _ l1
 refine wpAny_bind (wpAny_holding (hint_set (s := { s with heap := h1, drawn := d1 }) ⟨o, k1 a o o1, x1.1⟩ ?_))
 refine wpAny_ite_split (fun _ => ?_) (fun _ => wpAny_pure ⟨plainId_quiet PySem.F.plain_extend_loop _, key _ c₀ _ st (fun b u _ e => k1 b u e) g1⟩)
 refine wpAny_bind (wpAny_rule (wpAny_bind ?_))
 show wpAny _ _ (updateSeq S (·.push .none) >>= fun _ => updateSeq S (·.pop)) _ _ { s with heap := h1, drawn := d1 }
 refine wpAny_bind (wpAny_updateSeq g1 rfl ?_)
 have g2 := Heap.get?_update_self (Obj.mapSeq (·.push Value.none)) g1 rfl
 refine wpAny_updateSeq (hz := by seq_fits) g2 rfl ?_
 have g3 := Heap.get?_update_self (Obj.mapSeq (·.pop)) g2 rfl
 refine wpAny_pure ⟨plainId_quiet PySem.F.plain_extend_loop _, key _ _ _ (W.frame 0 _ _ st fun b hb u e => ?_) (fun b u hb e => ?_) g3⟩
 ·have hbS : b ≠ S := fun z => nf (z ▸ hb)
  exact (Heap.get?_update_other _ _ (Ne.symm hbS)).trans ((Heap.get?_update_other _ _ (Ne.symm hbS)).trans e)
 ·exact (Heap.get?_update_other _ _ (Ne.symm hb)).trans ((Heap.get?_update_other _ _ (Ne.symm hb)).trans (k1 b u e))
theorem collect_setN {ss : List Int} {R : List Value → Shared → Prop} (hh : A.handled = none) (hS : NuS P w s.heap a ss) (hn : ss.length ≤ 4096)
  (h : ∀ (h' : Heap) (tk : Nat) (d : Drawn) (vs : List Value), (∀ b u, s.heap.get? b = some u → h'.get? b = some u) → (∃ ss', IntsAre vs ss' ∧ ss'.Perm ss) → R vs { s with heap := h', toks := tk, drawn := d }) :
  wpAny (model P w) A (collect (.ref a)) R E s := by
 have la : a < s.heap.objs.size := by obtain ⟨o, o1, _⟩ := id hS; exact Heap.lt_size o1
 unfold collect
 refine wpAny_bind (wpAny_runValue (codeAny_builtin entry_proto_collect' ?_))
 rw [Around.under_plainId PySem.F.plain_proto_collect _]
 refine wpAny_bind (m := newList []) (wpAny_newObj_type ?_)
 refine wpAny_pure ⟨plainId_quiet PySem.F.plain_list_iadd _, codeAny_builtin entry_list_iadd' ?_⟩
 rw [Around.under_plainId PySem.F.plain_list_iadd _]
 have g1 : (s.heap.push { cls := .type "list", data := .seq ([] : List Value).toArray }).get? s.heap.objs.size = some { cls := .type "list", data := .seq #[] } := Heap.get?_push_size _ rfl
 have key := extend_setN (A := A) (s := { s with heap := s.heap.push { cls := .type "list", data := .seq ([] : List Value).toArray } })
  (R := fun (q : Result) (s' : Shared) => ∃ (h' : Heap) (tk : Nat) (d : Drawn) (acc : Array Value) (c' : Nat), q = .ok (.ret (.ref s.heap.objs.size)) ∧ s' = { s with heap := h', toks := tk, drawn := d } ∧
   (∀ b u, s.heap.get? b = some u → h'.get? b = some u) ∧ h'.get? s.heap.objs.size = some { cls := .type "list", dict := none, data := .seq acc c', slots := #[] } ∧ (∃ ss', IntsAre acc.toList ss' ∧ ss'.Perm ss))
  hh (hS.stay fun u e => Heap.get?_push_of_some _ e) s.heap.objs.size (Nat.ne_of_gt la) (.ref s.heap.objs.size) 0 g1 hn
  (fun h' tk d acc c' hk g' hacc => ⟨h', tk, d, acc, c', rfl, rfl, fun b u e => hk b u (Nat.ne_of_lt (Heap.lt_size e)) (Heap.get?_push_of_some _ e), g', hacc⟩)
 refine wpAny_mono key (fun fin s' x => ?_) fun e s' x => ?_
 ·cases fin with
  | done f =>
   obtain ⟨h', tk, d, acc, c', e, rfl, hk, g', hacc⟩ := x
   cases e
   exact wpAny_bind (m := load s.heap.objs.size) (wpAny_load g' (wpAny_pure (h h' tk d acc.toList hk hacc)))
  | again c₁ =>
   refine ⟨x.1, codeAny_mono x.2 fun q s₂ y => ?_⟩
   obtain ⟨h', tk, d, acc, c', rfl, rfl, hk, g', hacc⟩ := y
   exact wpAny_bind (m := load s.heap.objs.size) (wpAny_load g' (wpAny_pure (h h' tk d acc.toList hk hacc)))
 ·obtain ⟨_, _, _, _, _, e', _⟩ := x
  cases e'
theorem sorted_setN {ss : List Int} {Q : Value → Shared → Prop} (hh : A.handled = none) (hS : NuS P w s.heap a ss) (hn : ss.length < 64)
  (h : ∀ (h' h2 : Heap) (tk : Nat) (d : Drawn) (out : Array Value) (e : Nat) (ss' : List Int), (∀ b o, s.heap.get? b = some o → h'.get? b = some o) → (∀ b o, h'.get? b = some o → h2.get? b = some o) → h2.get? h'.objs.size = some (seqObj "list" out e) → IntsAre out.toList ss' → ss'.Perm ss → ss'.Pairwise (· ≤ ·) → Q (.ref h'.objs.size) { s with heap := h2, toks := tk, drawn := d }) :
  wpAny (model P w) A (call (.builtin "sorted") [.ref a]) Q E s := by
 refine Calls.call_function_entry kind_sorted plain_sorted entry_sorted (args_sorted1 _) ?_
 unfold Builtin.«sorted»
 refine wpAny_bind (m := checkCount "sorted" 1 1 _) (wpAny_pure ?_)
 refine wpAny_bind (collect_setN (A := A.in1) hh hS (by omega) fun h' tk d vs hk ⟨s1, sv, sp⟩ => ?_)
 have hl : vs.length = ss.length := by rw [nus_len sv, sp.length_eq]
 refine wpAny_bind (wpAny_newList ?_)
 have hoL : (h'.push (seqObj "list" vs.toArray 0)).get? h'.objs.size = some (seqObj "list" vs.toArray 0) := Heap.get?_push_size _ rfl
 refine wpAny_bind (wpAny_holding (wpAny_call_entry slot_list_sort ⟨_, hoL, rfl⟩ entry_list_sort (list_sort_tree (s := { s with heap := h'.push (seqObj "list" vs.toArray 0), toks := tk, drawn := d }) hoL sv (by omega) fun out ss' h1 h2 h3 => ?_) (args_list_sort _)))
 obtain ⟨e, he⟩ := sortedHeap_at (n := 0) (vs := vs) (out := out) hoL
 refine ⟨_, rfl, wpAny_pure ⟨_, rfl, h h' _ tk d _ e ss' hk (fun b o q => ?_) he h1 (h2.trans sp) h3⟩⟩
 have hlt : b < h'.objs.size := Heap.lt_size q
 rw [sortedHeap_old (Nat.ne_of_lt hlt) (by rw [size_push']; exact Nat.lt_succ_of_lt hlt), Heap.get?_push_ne _ _ _ (Nat.ne_of_lt hlt)]
 exact q
end
end L2

namespace L2
open PySem PySem.Spec PyProof.Rows PySem.W PySem.Calls
def HOnu (P : Program) (w : World) (a : Addr) (ss : List Int) : HO := .ext fun h => NuS P w h a ss
theorem nus_vals : ∀ {vs : List Value} {ss : List Int}, IntsAre vs ss → Vals (ss.map V.int) vs
 | _, _, .nil => .nil
 | _, _, .cons y t r => .cons ⟨t, rfl⟩ (nus_vals r)
theorem call_setTxN {X : Cx} : CallR X (.type "set") (fun xs H Q => X.calm = true ∧ ∃ (p : Addr) (ss : List Int), xs = [.ref p] ∧ SqL X.K H p (ss.map V.int) ∧ ss.length < 4000 ∧ ∀ l, H l = none → Q (.ref l) (upd H l (HOnu X.prog X.w l (ss.foldl addSN [])))) := by
 intro pins s σ H xs us Q I r h
 obtain ⟨hc, p, ss, rfl, hq, h64, q⟩ := h
 obtain ⟨u, rfl, rx⟩ := vals1 r
 cases rx
 obtain ⟨its, rv, pl, hz⟩ := I.list hq
 have hlen := rv.length
 rw [List.length_map] at hlen
 refine call_setTN (I.ok.hd hc) pl.isList (by simpa using valsI rv) (by have : scanBound = 4096 := rfl; simp; omega) fun h' tk S' k' => ?_
 refine ⟨.ref _, _, I.laid (t' := tk) (o := HOnu X.prog X.w _ (ss.foldl addSN [])) k' (Nat.le_refl _) ?_, rfl, q _ (I.hok.fresh (Nat.le_refl _))⟩
 obtain ⟨o, e, _⟩ := id S'
 exact ⟨S', ⟨o, e⟩, fun h1 h2 x k => x.stay k⟩
theorem call_sortedTxN {X : Cx} : CallR X (.builtin "sorted") (fun xs H Q => X.calm = true ∧ ∃ (a : Addr) (ss : List Int), xs = [.ref a] ∧ H a = some (HOnu X.prog X.w a ss) ∧ ss.length < 64 ∧ ∀ (ns : List Int) (l : Addr), ns.Perm ss → ns.Pairwise (· ≤ ·) → H l = none → Q (.ref l) (upd H l (.lst (ns.map V.int)))) := by
 intro pins s σ H xs us Q I r h
 obtain ⟨hc, a, ss, rfl, ha, h64, q⟩ := h
 obtain ⟨u, rfl, rx⟩ := vals1 r
 cases rx
 obtain ⟨hS, _⟩ := I.hok a _ ha
 refine sorted_setN (I.ok.hd hc) hS h64 fun h' h2 tk d out e ss' k1 k2 at2 s1 s2 s3 => ?_
 have hl2 : ss'.length = ss.length := s2.length_eq
 have I1 : Inv X pins σ H { s with heap := h', toks := tk, drawn := d } := (I.kept (t' := tk) k1).drw
 refine ⟨.ref _, _, I1.laid (t' := tk) (o := .lst (ss'.map V.int)) k2 (Nat.le_refl _) ?_, rfl, q ss' _ s2 s3 (I1.hok.fresh (Nat.le_refl _))⟩
 refine ⟨by rw [List.length_map, hl2]; exact Nat.le_trans (Nat.le_of_lt h64) (by decide), out.toList, e, nus_vals s1, ?_⟩
 rw [at2]
section
variable {X : Cx} {H0 : Hp} {O0 : Ex}
def dSortSetN (t : DA) : DA := fun δ Q => t δ fun ds => ∃ ss : List Int, ds = [.list (ss.map .int)] ∧ ss.length < 4000 ∧ (ss.foldl addSN []).length < 64 ∧ ∀ ns : List Int, (∀ z, z ∈ ns ↔ z ∈ ss) → ns.Pairwise (· < ·) → Q (ns.map .int)
theorem fe_sortSetN {a : Expr} {t : DA} {np p np' p' : Pos} (hc : X.calm = true) (hg : Gl X "sorted") (hm : X.mg "sorted" = none) (hv : bootBuiltins "sorted" = some (.builtin "sorted")) (hg' : Gl X "set") (hm' : X.mg "set" = none) (ha : PA X [a] (upB X.K H0 O0 t))
  (he : starEach [a] X.env = (false, eval a X.env) :: starEach [] X.env := by rfl) (hpl : (backTo p' (starEach [] X.env)).any (·.1) = false := by rfl)
  (he' : starEach [.Call (.Name "set" np') [a] [] p'] X.env = (false, eval (.Call (.Name "set" np') [a] [] p') X.env) :: starEach [] X.env := by rfl) (hpl' : (backTo p (starEach [] X.env)).any (·.1) = false := by rfl) :
  FE X H0 O0 (.Call (.Name "sorted" np) [.Call (.Name "set" np') [a] [] p'] [] p) (dSortSetN t) :=
 (pe_callB call_sortedTxN hg hm hv (pa_cons (pe_callTy call_setTxN hg' hm' bt_set ha (he := he) (hpl := hpl)) pa_nil he') (he := he') (hpl := hpl')).imp fun σ H Q ⟨O, δ, Qd, w, q, k⟩ => ⟨O, δ, _, w, q, fun ds vs H1 ⟨ss, e, h64, hl, q1⟩ s1 r1 => by
  subst e
  cases r1 with
  | cons h r =>
   cases r
   obtain ⟨a, us, rfl, h1, d1⟩ := h.lst
   cases d1.intsL
   refine ⟨hc, a, ss, rfl, h1, h64, fun l hl' => ⟨hc, l, _, rfl, upd_same, hl, fun ns l2 hp hs hl2 => ?_⟩⟩
   refine k _ _ _ _ (q1 ns (fun z => ?_) ?_) (s1.trans (Same.new hl')) hl2 (Dts.ofInts _)
   ·rw [hp.mem_iff, foldSN_mem]; simp
   ·have nd : ns.Nodup := hp.nodup_iff.mpr (foldSN_nd .nil)
    exact (List.Pairwise.and hs nd).imp fun {a b} z => by
     obtain ⟨z1, z2⟩ := z
     omega⟩
end
end L2

namespace L2
open PySem PySem.Spec PyProof.Rows PySem.W PySem.Calls
def Ite (K : PySem.W.Frag) (a : Addr) : It :=
 ⟨fun i H => ∃ xs x, SqL K H a xs ∧ xs[i]? = some x, fun i H x H' => ∃ p v, H p = none ∧ x = .ref p ∧ H' = upd H p (.tup [.int (i : Int), v]) ∧ ∀ xs, SqL K H a xs → xs[i]? = some v, fun i H => ∃ xs, SqL K H a xs ∧ xs.length ≤ i⟩
theorem turn_enum {P : Program} {w : World} {K : PySem.W.Frag} {elts : List Expr} {k0} {pos : Pos} (a it e : Addr) (hei : e ≠ it) : Turn P w K (.Tuple elts k0 pos) (Ite K a) [e, it] e (fun i h => (∃ old, IsEnum h e it (i : Int) old) ∧ h.IsListIter it a i) where
 mem := by simp
 obj := fun i h st b hb => by
  simp only [List.mem_cons, List.not_mem_nil, or_false] at hb
  obtain ⟨⟨old, he⟩, o, eo, c, d⟩ := st
  rcases hb with rfl | rfl
  ·exact ⟨_, he, fun v z => by cases z⟩
  ·exact ⟨o, eo, fun v z => by rw [d] at z; cases z⟩
 keep := fun i h h' st k => ⟨let ⟨old, he⟩ := st.1; ⟨old, k e (by simp) _ he⟩, st.2.at fun o q => k it (by simp) o q⟩
 item := by
  intro X hP hw hK hc i pins s σ H E I hf st hg
  subst hP hw hK
  obtain ⟨xs, x, hq, hx⟩ := hg
  obtain ⟨its, rv, p, hz⟩ := I.list hq
  obtain ⟨u, hu, ru⟩ := rv.get hx
  obtain ⟨⟨old, he⟩, hit⟩ := st
  refine wpAny_pyNext_enum_item he hit p.isList (x := u) (by simpa using hu) hei fun h' ho hit' hT hsz hk => ?_
  have hT0 : H s.heap.objs.size = none := I.hok.fresh (Nat.le_refl _)
  have lte : e < s.heap.objs.size := Heap.lt_size he
  have lti : it < s.heap.objs.size := by obtain ⟨_, q, _⟩ := hit; exact Heap.lt_size q
  have I1 : Inv X pins σ (upd H s.heap.objs.size (.tup [.int (i : Int), x])) { s with heap := h', toks := s.toks + 1 } := by
   refine I.track (t' := s.toks + 1) (ch := [s.heap.objs.size, e, it]) (by simp) (fun b hb => ?_) (fun b v hb q => hk b v (fun z => hb (by simp [z])) (fun z => hb (by simp [z])) q) ?_
   ·rcases List.mem_cons.mp hb with z | z
    ·rw [z]; exact I.fpOk (Nat.le_refl _) hT0
    ·exact hf b z
   ·exact ⟨by rw [sizeLine_eq, List.length_cons, List.length_cons, List.length_nil]; decide, [.int (i : Int) s.toks, u], .cons ⟨_, rfl⟩ (.cons ru .nil), _, hT, rfl, 0, rfl⟩
  refine ⟨_, rfl, wpAny_letOwnedTupleGo_enum ho fun h2 he2 sb => ?_⟩
  obtain ⟨f0, f1, f2, f3, f4, f5⟩ := hf e (by simp)
  have ne : s.heap.objs.size ≠ e := Nat.ne_of_gt lte
  have I2 : Inv X pins σ (upd H s.heap.objs.size (.tup [.int (i : Int), x])) { s with heap := h2, toks := s.toks + 1 } := I1.turned (t' := s.toks + 1) (fun b o hb q => (sb.2 b hb).trans q) (by rw [upd_ne (Ne.symm ne)]; exact f0) f1 f3 f4 f5
  refine ⟨.ref s.heap.objs.size, _, I2, rfl, ⟨_, x, hT0, rfl, rfl, fun ys hy => by rw [I.list_inj hy hq]; exact hx⟩, ⟨⟨_, by simpa using he2⟩, hit'.at fun o q => (sb.2 it (Ne.symm hei)).trans q⟩, fun b hb => ?_⟩
  rw [upd_ne fun z => ?_]
  ·exact (hf b hb).1
  ·simp only [List.mem_cons, List.not_mem_nil, or_false] at hb
   rcases hb with y | y
   ·rw [← z, y] at lte; exact Nat.lt_irrefl _ lte
   ·rw [← z, y] at lti; exact Nat.lt_irrefl _ lti
 done := by
  intro X hP hw hK hc i pins s σ H E I hf st hg
  subst hP hw hK
  obtain ⟨xs, hq, hx⟩ := hg
  obtain ⟨its, rv, p, hz⟩ := I.list hq
  obtain ⟨⟨old, he⟩, hit⟩ := st
  obtain ⟨f0, f1, f2, f3, f4, f5⟩ := hf it (by simp)
  have hl := rv.length
  exact wpAny_pyNext_enum_end (I.ok.hd hc) he hit p.isList (by simp; omega) fun h' eb => ⟨rfl, I.turned (t' := s.toks) (fun b o hb e => eb b o hb e) f0 f1 f3 f4 f5⟩
 self := fun A i s Q E st h => by
  obtain ⟨⟨old, he⟩, _⟩ := st
  exact wpAny_pyIter_enum he h
def iEnum (K : PySem.W.Frag) (ta : TA) : TI := fun σ H R => ta σ H fun vs H1 => ∃ a xs, vs = [.ref a] ∧ Rd H1 a (.lst xs) ∧ R (Ite K a) H1
theorem pi_enum {X : Cx} {elts : List Expr} {k0} {tp : Pos} {a : Expr} {ta : TA} {p pos : Pos} (hg : Gl X "enumerate") (hm : X.mg "enumerate" = none) (ha : PA X [a] ta) (hs : starEach [a] X.env = [(false, eval a X.env)] := by rfl) : PI X (.Tuple elts k0 tp) (.Call (.Name "enumerate" p) [a] [] pos) (iEnum X.K ta) := by
 intro pins s σ H R I h
 refine Call_ (ld_blt I hg hm boot_enumerate (PyProof.Rows.callWith_type1 (thn (ha pos pins s σ H _ I h) fun us s1 ⟨vs, H1, I1, r1, q1⟩ => ?_) hs rfl))
 obtain ⟨b, xs, e, hr, q⟩ := q1
 subst e
 cases r1 with
 | cons r rr =>
  cases rr
  cases r
  have ho : ∃ (its : List Value) (n : Nat), s1.heap.get? b = some { cls := .type "list", dict := none, data := .seq its.toArray n, slots := #[] } := by
   rcases hr with hr | ⟨o, hr⟩
   ·obtain ⟨_, its, n, _, z⟩ := I1.hok b _ hr; exact ⟨its, n, z⟩
   ·obtain ⟨_, _, its, n, _, z⟩ := I1.hok b _ hr; exact ⟨its, n, z⟩
  obtain ⟨its, n, ho⟩ := ho
  refine call_enumerate_1 ho fun h' he hit hsz hk => wpAny_pyIter_enum he ?_
  have I2 : Inv X pins σ H1 { s1 with heap := h' } := I1.kept (t' := s1.toks) hk
  refine ⟨s1.heap.objs.size + 1, [s1.heap.objs.size + 1, s1.heap.objs.size], _, _, H1, rfl, I2, turn_enum b s1.heap.objs.size (s1.heap.objs.size + 1) (Nat.ne_of_gt (Nat.lt_succ_self _)), ⟨⟨_, he⟩, hit⟩, fun c hc => ?_, q⟩
  simp only [List.mem_cons, List.not_mem_nil, or_false] at hc
  rcases hc with rfl | rfl
  ·exact I1.fpOk (Nat.le_succ _) (I1.hok.fresh (Nat.le_succ _))
  ·exact I1.fpOk (Nat.le_refl _) (I1.hok.fresh (Nat.le_refl _))
def enumD : Nat → List PyData → List PyData
 | _, [] => []
 | k, x :: r => .tuple [.int (k : Int), x] :: enumD (k + 1) r
theorem enumD_len : ∀ (k : Nat) (xs : List PyData), (enumD k xs).length = xs.length
 | _, [] => rfl
 | k, x :: r => by rw [enumD, List.length_cons, enumD_len, List.length_cons]
theorem enumD_at : ∀ (k : Nat) (xs : List PyData) (i : Nat), (enumD k xs)[i]? = (xs[i]?).map fun x => .tuple [.int ((k + i : Nat) : Int), x]
 | _, [], i => by simp [enumD]
 | k, x :: r, 0 => by simp [enumD]
 | k, x :: r, i + 1 => by
  rw [enumD, List.getElem?_cons_succ, List.getElem?_cons_succ, enumD_at (k + 1) r i, show k + 1 + i = k + (i + 1) by omega]
theorem for_stepE {K : PySem.W.Frag} {H0 : Hp} {O0 : Ex} {a : Addr} {vs : List V} {xs : List PyData} {g : TG} {dg : DG} {tb : DS} {D : Ends} {E : DEnds} {σ : St} {H : Hp} {O : Ex} {δ : Dl} (hr : Rd H a (.lst vs)) (ho : ¬ O a) (gd : GD K g dg)
  (r : Dts K H O vs xs) (w : Wd K H0 O0 H O σ δ) (q : forI dg tb E (enumD 0 xs) δ)
  (k1 : ∀ O' δ' σ' H', E.nx δ' → Wd K H0 O0 H' O' σ' δ' → Step H H' O O' → D.nx σ' H') (k2 : ∀ d v H', E.rt d → Same H0 H' → Dt K H' O0 v d → D.rt v H') : FR (Ite K a) g (upD K H0 O0 tb) D σ H := by
 obtain ⟨Iv, q0, qs, qe⟩ := q
 have hl := r.length
 have sq : ∀ H' O', Step H H' O O' → SqL K H' a vs := fun H' O' S => .inl (hr.same fun o e => S.keep _ o e ho)
 refine ⟨fun i m σ' H' => ∃ O' δ', m = vs.length - i ∧ i ≤ vs.length ∧ Wd K H0 O0 H' O' σ' δ' ∧ Step H H' O O' ∧ Iv i δ', ⟨vs.length, O, δ, by simp, Nat.zero_le _, w, Step.refl _ _, q0⟩, ?_⟩
 rintro i m σ1 H1 ⟨O1, δ1, rfl, hi, w1, S1, q1⟩
 by_cases hlt : i < vs.length
 ·refine .inr ⟨⟨vs, vs[i], sq _ _ S1, by simp [hlt]⟩, fun σ' H' => ∃ O' δ', Wd K H0 O0 H' O' σ' δ' ∧ Step H H' O O' ∧ Iv (i + 1) δ', fun σ' H' ⟨O', δ', w', S', q'⟩ => ⟨vs.length - (i + 1), by omega, O', δ', rfl, hlt, w', S', q'⟩, fun x H' y => ?_⟩
  obtain ⟨p, v, hp, rfl, rfl, hv⟩ := y
  obtain ⟨d, ed, rd⟩ := r.get (hv vs (sq _ _ S1))
  have sm : Same H1 (upd H1 p (.tup [.int (i : Int), v])) := Same.new hp
  have w2 := w1.mono sm
  have np : ¬ O1 p := fun z => w1.trk p z hp
  have dt : Dt K (upd H1 p (.tup [.int (i : Int), v])) O1 (.ref p) (.tuple [.int (i : Int), d]) := .tup (.inl upd_same) np (.cons (.int _) (.cons ((rd.step S1).mono sm) .nil))
  have S2 : Step H (upd H1 p (.tup [.int (i : Int), v])) O O1 := S1.trans (.same sm)
  have e2 : (enumD 0 xs)[i]? = some (.tuple [.int (i : Int), d]) := by rw [enumD_at, ed]; simp
  refine gd H0 O0 _ O1 σ1 δ1 _ _ _ _ w2 dt (qs i _ δ1 e2 q1) fun δ2 σ2 q2 w2 => ?_
  exact ⟨O1, δ2, _, w2, q2, fun O' δ' σ' H' z w' S' => ⟨O', δ', w', S2.trans S', z⟩, k2, fun O' δ' σ' H' z w' S' => k1 O' δ' σ' H' z w' (S2.trans S'), fun O' δ' σ' H' z w' S' => ⟨O', δ', w', S2.trans S', z⟩⟩
 ·have e : i = vs.length := by omega
  subst e
  refine .inl ⟨⟨vs, sq _ _ S1, Nat.le_refl _⟩, ?_⟩
  rw [hl, ← enumD_len 0 xs] at q1
  exact k1 O1 δ1 σ1 H1 (qe δ1 q1) w1 S1
section
variable {X : Cx} {H0 : Hp} {O0 : Ex}
def dForE (t : DA) (g : DG) (tb : DS) : DS := fun E δ => t δ fun ds => ∃ xs, ds = [.list xs] ∧ forI g tb E (enumD 0 xs) δ
theorem ds_forE {elts : List Expr} {k0} {tp : Pos} {a : Expr} {body : List Stmt} {p pos pos' : Pos} {ta : DA} {g : TG} {dg : DG} {tb : DS} (hp : PassesOwn (model X.prog X.w) X.A X.env X.xe) (hc : X.calm = true) (hgl : Gl X "enumerate") (hm : X.mg "enumerate" = none) (ha : PA X [a] (upA X.K H0 O0 ta)) (hg : PG X (.Tuple elts k0 tp) g) (gd : GD X.K g dg) (hb : PSs X body (upD X.K H0 O0 tb))
  (hst : starEach [a] X.env = [(false, eval a X.env)] := by rfl) (hs : ∀ x, foldedSetIterable (.Call (.Name "enumerate" p) [a] [] pos') X.env x = pure x := by intro _; rfl) :
  PS X (.For (.Tuple elts k0 tp) (.Call (.Name "enumerate" p) [a] [] pos') body [] pos) (upD X.K H0 O0 (dForE ta dg tb)) :=
 (ps_for hp hc (pi_enum hgl hm ha hst) hg hb hs).imp fun D σ H ⟨O, δ, E, w, q, k1, k2, k3, k4⟩ => ⟨O, δ, _, w, q, fun ds vs H1 ⟨xs, e, q1⟩ s1 r1 => by
  subst e
  cases r1 with
  | cons h r =>
   cases r
   cases h with
   | lst h n r =>
    exact ⟨_, _, rfl, h, for_stepE h n gd r (w.mono s1) q1 (fun O' δ' σ' H' z w' S => k1 O' δ' σ' H' z w' (Step.trans (.same s1) S)) k2⟩⟩
end
end L2

namespace L2
open PySem PySem.Spec PyProof.Rows PySem.W PySem.Calls
def dDivmod : List PyData → (PyData → Prop) → Prop := fun ds Q => ∃ i j : Int, ds = [.int i, .int j] ∧ CDiv i j ∧ Q (.tuple [.int (i / j), .int (i % j)])
theorem cd_divmod {K : PySem.W.Frag} : CallD K (fun xs H Q => ∃ i j, xs = [.int i, .int j] ∧ CDiv i j ∧ ∀ p, H p = none → Q (.ref p) (upd H p (.tup [.int (i / j), .int (i % j)]))) dDivmod := fun H O xs ds Qd R tr hs ⟨i, j, e, c, q⟩ k => by
 subst e
 cases hs with
 | cons h r => cases r with
  | cons h2 r =>
   cases r
   cases h.int
   cases h2.int
   exact ⟨i, j, rfl, c, fun p hp => k _ _ _ q (Same.new hp) (.tup (.inl upd_same) (fun z => tr p z hp) (.cons (.int _) (.cons (.int _) .nil)))⟩
def dSum : List PyData → (PyData → Prop) → Prop := fun ds Q => ∃ ns : List Int, ds = [.list (ns.map .int)] ∧ Q (.int ns.sum)
theorem cd_sum {K : PySem.W.Frag} : CallD K (fun xs H Q => ∃ (a : Addr) (ns : List Int), xs = [.ref a] ∧ SqL K H a (ns.map V.int) ∧ Q (.int ns.sum) H) dSum := fun H O xs ds Qd R tr hs ⟨ns, e, q⟩ k => by
 subst e
 cases hs with
 | cons h r =>
  cases r
  obtain ⟨a, vs, rfl, h1, d1⟩ := h.lst
  cases d1.intsL
  exact ⟨a, ns, rfl, h1, k _ _ H q (Same.refl _) (.int _)⟩
theorem call_minL {X : Cx} (hc : X.calm = true) : CallR X (.builtin "min") (fun xs H Q => ∃ (p : Addr) (ns : List Int), xs = [.ref p] ∧ SqL X.K H p (ns.map V.int) ∧ ns ≠ [] ∧ ∀ M, M ∈ ns → (∀ a ∈ ns, M ≤ a) → Q (.int M) H) := by
 intro pins s σ H xs us Q I r h
 obtain ⟨p, ns, rfl, hq, hne, q⟩ := h
 obtain ⟨u, rfl, rx⟩ := vals1 r
 cases rx
 obtain ⟨its, rv, pl, hz⟩ := I.list hq
 have hi := valsI rv
 obtain ⟨zs, e⟩ := hi.allInts.items
 have hns : ns = zs.toList.map (·.1) := by rw [← hi.numsOf, ← nums_intItems, ← e]
 have h0 : 0 < zs.size := by
  rcases Nat.eq_zero_or_pos zs.size with z | z
  ·exact absurd (by rw [hns]; simp [Array.size_eq_zero_iff.mp z]) hne
  ·exact z
 have hl := pl.isList
 rw [e] at hl
 refine min_intList (I.ok.hd hc) hl h0 fun v h' tk hv hk => ?_
 obtain ⟨t, rfl⟩ := intItems_at hv
 obtain ⟨h1, h2⟩ := argBest_lt (numAt zs) (zs.size - 1)
 refine ⟨.int _, H, I.kept (t' := tk) hk, ⟨t, rfl⟩, q _ ?_ fun a ha => ?_⟩
 ·rw [hns, numAt_eq]; exact getD_mem (by rw [List.length_map, Array.length_toList]; omega)
 ·rw [hns] at ha
  obtain ⟨j, hj, rfl⟩ := mem_getD ha
  rw [List.length_map, Array.length_toList] at hj
  rw [← numAt_eq]; exact h2 j (by omega)
def dMinL : List PyData → (PyData → Prop) → Prop := fun ds Q => ∃ ns : List Int, ds = [.list (ns.map .int)] ∧ ns ≠ [] ∧ ∀ M, M ∈ ns → (∀ a ∈ ns, M ≤ a) → Q (.int M)
theorem cd_minL {K : PySem.W.Frag} : CallD K (fun xs H Q => ∃ (p : Addr) (ns : List Int), xs = [.ref p] ∧ SqL K H p (ns.map V.int) ∧ ns ≠ [] ∧ ∀ M, M ∈ ns → (∀ a ∈ ns, M ≤ a) → Q (.int M) H) dMinL := fun H O xs ds Qd R tr hs ⟨ns, e, hne, q⟩ k => by
 subst e
 cases hs with
 | cons h r =>
  cases r
  obtain ⟨a, vs, rfl, h1, d1⟩ := h.lst
  cases d1.intsL
  exact ⟨a, ns, rfl, h1, hne, fun M m1 m2 => k _ _ H (q M m1 m2) (Same.refl _) (.int _)⟩
def rAny (c : Int → Int → Prop) : R2 := fun x y H Q => ∃ i j, x = .int i ∧ y = .int j ∧ c i j ∧ ∀ r : Int, Q (.int r) H
theorem op_shrA {X : Cx} : OpR X (binaryOp .RShift) (rAny fun _ j => 0 ≤ j) := by
 intro pins s σ H x y v u Q I rx ry h
 obtain ⟨i, j, rfl, rfl, c, q⟩ := h
 obtain ⟨t, rfl⟩ := rx
 obtain ⟨t', rfl⟩ := ry
 by_cases hb : j ≥ ((Builtin.Int.intBits i : Nat) : Int)
 ·exact PySem.AutoIntOps.rshift_1 (by omega) hb ⟨.int _, H, I.tok _, ⟨_, rfl⟩, q _⟩
 ·exact PySem.AutoIntOps.rshift_2 (by omega) hb ⟨.int _, H, I.tok _, ⟨_, rfl⟩, q _⟩
theorem op_bandA {X : Cx} : OpR X (binaryOp .BitAnd) (rAny fun _ _ => True) := by
 intro pins s σ H x y v u Q I rx ry h
 obtain ⟨i, j, rfl, rfl, c, q⟩ := h
 obtain ⟨t, rfl⟩ := rx
 obtain ⟨t', rfl⟩ := ry
 exact and_int ⟨.int _, H, I.tok _, ⟨_, rfl⟩, q _⟩
def dAnyI (c : Int → Int → Prop) : PyData → PyData → (PyData → Prop) → Prop := fun x y Q => ∃ i j : Int, x = .int i ∧ y = .int j ∧ c i j ∧ ∀ r : Int, Q (.int r)
theorem od_anyI {K : PySem.W.Frag} {c : Int → Int → Prop} : OpD K (rAny c) (dAnyI c) := fun H O x y dx dy Qd R tr hx hy ⟨i, j, e1, e2, h, q⟩ k => by
 subst e1 e2; cases hx.int; cases hy.int; exact ⟨i, j, rfl, rfl, h, fun r => k _ _ H (q r) (Same.refl _) (.int _)⟩
section
variable {X : Cx} {H0 : Hp} {O0 : Ex}
def dRepC (n : Nat) (t : DA) : DA := fun δ Q => t δ fun ds => ds.length ≤ 1000 ∧ Q (List.replicate n ds).flatten
theorem Dts.rep {K : PySem.W.Frag} {H : Hp} {O : Ex} {vs : List V} {ds : List PyData} (h : Dts K H O vs ds) : ∀ n : Nat, Dts K H O (List.replicate n vs).flatten (List.replicate n ds).flatten
 | 0 => .nil
 | n + 1 => by rw [List.replicate_succ, List.replicate_succ, List.flatten_cons, List.flatten_cons]; exact h.append (Dts.rep h n)
theorem fe_repC {n : Nat} (hn : n ≤ 1000) {e : Expr} {t : DA} {j} {pos cp : Pos} (h : FE X H0 O0 e t) : FE X H0 O0 (.BinOp e .Mult (.Constant (.int (n : Int)) j cp) pos) (dRepC n t) :=
 (pe_op op_rep h pe_int).imp fun σ H Q ⟨O, δ, Qd, w, q, k⟩ => ⟨O, δ, _, w, q, fun ds vs p H1 q1 s1 hp r1 => by
  refine ⟨p, n, vs, rfl, rfl, upd_same, by omega, by omega, ?_, fun p' hp' => ?_⟩
  ·have h1 := r1.length
   have h2 : (sizeLine : Nat) = 16777216 := by decide
   have h3 := q1.1
   rw [Int.toNat_natCast]
   have h4 : vs.length * n ≤ 1000 * 1000 := Nat.mul_le_mul (by omega) hn
   omega
  ·rw [Int.toNat_natCast]
   exact k _ _ p' _ q1.2 (s1.trans (Same.new hp)) hp' ((r1.rep n).mono (Same.new hp))⟩
end
def rExtendR : V → List V → Hp → VK → Prop := fun x vs H Q => ∃ l b xs zs, x = .ref l ∧ vs = [.ref b] ∧ H l = some (.lst xs) ∧ Rd H b (.lst zs) ∧ xs.length + zs.length ≤ sizeLine ∧ Q .non (upd H l (.lst (xs ++ zs)))
theorem mt_extendR {X : Cx} : MtM X "list.extend" rExtendR := by
 intro pins s σ H x vs v us Q I rx rv h
 obtain ⟨l, b, xs, zs, rfl, rfl, hH, hB, hz, q⟩ := h
 cases rx
 obtain ⟨u, rfl, ru⟩ := rv.one
 cases ru
 obtain ⟨z, its, n, r, hl, e⟩ := I.lstM hH
 obtain ⟨z2, its2, n2, r2, e2⟩ := hB.ok I.hok
 have hl2 := r2.length
 have hsz : its.toArray.size + its2.toArray.size ≤ sizeLine := by rw [List.size_toArray, List.size_toArray]; omega
 have hlong : ¬ (!its.toArray.isEmpty && Builtin.List.listTooLong (its.toArray.size + its2.toArray.size)) = true := by
  rw [notLongL hsz, Bool.and_false]
  exact Bool.false_ne_true
 refine call_meets PySem.F.slot_list_extend ⟨_, e, rfl⟩ PySem.F.entry_list_extend (PySem.F.args_list_extend_2 _ _)
  (AutoSeq1.list_extend_list_list_0 l its.toArray n b its2.toArray n2 hlong (by rw [List.size_toArray]; omega) (by omega)) ⟨e, e2, ?_⟩
 refine ⟨.non, _, I.lset (its' := its ++ its2) hH e (by simp) (r.append r2) ?_, rfl, q⟩
 rw [List.length_append]
 omega
section
variable {X : Cx} {H0 : Hp} {O0 : Ex}
def dExtD (i : Nat) (t : DT) : DS := fun E δ => ∃ ds, δ[i]? = some (some (.o ds)) ∧ t δ fun d => ∃ es, d = .list es ∧ ds.length + es.length ≤ sizeLine ∧ E.nx (δ.set i (some (.o (ds ++ es))))
theorem ds_extD {i : Nat} {o e : Expr} {t : DT} {apos cpos pos : Pos} (ho : PE X o (tVar i)) (he : DE X H0 O0 e t) (hbase : attributeBase o "extend" X.env (eval o X.env) = eval o X.env := by rfl)
  (hfew : ((backTo cpos (starEach [e] X.env)).all (fun x => !x.1) && (backToKw cpos (keywordEach [] X.env)).all (fun x => x.1.isSome) && decide ([e].length + ([] : List Keyword).length + (if ([] : List Keyword).isEmpty then 0 else 1) < 30)) = true := by rfl)
  (hline : (apos.endLine == cpos.line) = true := by rfl) (hst : starEach [e] X.env = (false, eval e X.env) :: starEach [] X.env := by rfl) (hplain : (backTo cpos (starEach [] X.env)).any (·.1) = false := by rfl)
  (hs : swapsWith (.Call (.Attribute o "extend" apos) [e] [] cpos) none pos.line X.env = pure false := by rfl) : PS X (.Expr (.Call (.Attribute o "extend" apos) [e] [] cpos) pos) (upD X.K H0 O0 (dExtD i t)) :=
 (ps_expr (pe_bm PySem.F.plainAttrs_list PySem.F.slot_list_extend PySem.F.type_list_extend mt_extendR ho (pa_cons he pa_nil hst) hbase hfew hline hst hplain) hs).imp fun D σ H ⟨O, δ, E, w, ⟨ds, e, q⟩, k1, k2, k3, k4⟩ => by
  obtain ⟨l, vs, h, a, b, c, r⟩ := w.own e
  refine ⟨_, h, .inl ⟨rfl, _, SqL.of c⟩, O, δ, _, w, q, fun d v H1 ⟨es, ed, q1, q2⟩ s1 r1 => ?_⟩
  subst ed
  have hl : H1 l = some (.lst vs) := s1 _ _ c
  cases r1 with
  | lst h1 n r1 =>
   refine ⟨l, _, vs, _, rfl, rfl, hl, h1, by rw [r.length, r1.length]; exact q1, ?_⟩
   exact k1 _ _ _ _ q2 ((w.mono s1).putO (vs := vs) e h ((r.mono s1).append r1)) ⟨fun b' o' z n => by rw [upd_ne (fun y => n (by rw [y]; exact a))]; exact s1 _ _ z, fun _ _ n => n⟩
end
section
variable {X : Cx} {H0 : Hp} {O0 : Ex}
theorem ds_newC {i : Nat} {x : Str} {e : Expr} {t : DA} {pos pos' : Pos} (hN : X.N.Nodup) (hi : X.N[i]? = some x) (hx : Loc X.env.scope x) (he : PU X e (upF X.K H0 O0 t)) (hs : swapsWith e (some (.Name x pos')) pos.line X.env = pure true := by rfl) (hf : X.fn x = true ∨ X.env.scope.names.lookup x = some .local := by first | exact .inl rfl | exact .inr rfl | assumption) :
  PS X (.Assign [.Name x pos'] e pos) (upD X.K H0 O0 (dNew i t)) :=
 (he _ _ _ _ hN hi hx hs hf).imp fun D σ H ⟨O, δ, E, w, q, k1, k2, k3, k4⟩ => ⟨O, δ, _, w, q, fun ds vs p H1 q1 s1 hp r1 => k1 _ _ _ _ q1 ((w.mono s1).setO hp r1)
  ⟨fun b o e _ => (s1.trans (Same.new hp)) b o e, fun b e n z => z.elim n fun y => by
   cases q : H b with
   | none => exact e q
   | some o => have := s1 _ _ q; rw [y, hp] at this; cases this⟩⟩
end
end L2

namespace Day
def leap (y : Int) : Bool := decide (y % 400 = 0) || (decide (y % 4 = 0) && !decide (y % 100 = 0))
def ld (y : Int) : Int := if leap y = true then 1 else 0
def mdays : List Int := [31, 28, 31, 30, 31, 30, 31, 31, 30, 31, 30, 31]
def mlen (y m : Int) : Int := if m = 2 ∧ leap y = true then 29 else mdays.getD (m - 1).toNat 0
def lb (y : Int) : Int := (y - 1) / 4 - (y - 1) / 100 + (y - 1) / 400
def ystart (y : Int) : Int := 365 * (y - 2000) + lb y - lb 2000
def bef (y m : Int) : Int := ((List.range (m - 1).toNat).map fun (i : Nat) => mlen y (1 + (i : Int))).sum
def num (y m n : Int) : Int := ystart y + bef y m + n - 1
structure DateOf (d y m n : Int) : Prop where
 m1 : 1 ≤ m
 m12 : m ≤ 12
 n1 : 1 ≤ n
 nl : n ≤ mlen y m
 eq : num y m n = d
theorem ld01 (y : Int) : 0 ≤ ld y ∧ ld y ≤ 1 := by unfold ld; split <;> omega
theorem leap_iff (y : Int) : leap y = true ↔ (y % 400 = 0 ∨ (y % 4 = 0 ∧ y % 100 ≠ 0)) := by
 unfold leap; simp
theorem ystart_succ (y : Int) : ystart (y + 1) = ystart y + 365 + ld y := by
 unfold ystart lb ld
 by_cases h : leap y = true
 ·rw [if_pos h]; have := (leap_iff y).mp h; omega
 ·rw [if_neg h]; have := mt (leap_iff y).mpr h; omega
theorem ystart_mono {a b : Int} (h : a + 1 ≤ b) : ystart (a + 1) ≤ ystart b := by
 unfold ystart lb; omega
theorem mlen_2 (y : Int) : mlen y 2 = 28 + ld y := by
 unfold mlen ld
 by_cases h : leap y = true
 ·rw [if_pos ⟨rfl, h⟩, if_pos h]; rfl
 ·rw [if_neg (fun z => h z.2), if_neg h]; rfl
theorem mlen_ne {y m : Int} (h : m ≠ 2) : mlen y m = mdays.getD (m - 1).toNat 0 := by
 unfold mlen; rw [if_neg (fun z => h z.1)]
theorem mlen_all (y : Int) : mlen y 1 = 31 ∧ mlen y 3 = 31 ∧ mlen y 4 = 30 ∧ mlen y 5 = 31 ∧ mlen y 6 = 30 ∧ mlen y 7 = 31 ∧ mlen y 8 = 31 ∧ mlen y 9 = 30 ∧ mlen y 10 = 31 ∧ mlen y 11 = 30 ∧ mlen y 12 = 31 := by
 refine ⟨?_, ?_, ?_, ?_, ?_, ?_, ?_, ?_, ?_, ?_, ?_⟩ <;> (rw [mlen_ne (by decide)]; rfl)
theorem twelve {m : Int} (h1 : 1 ≤ m) (h2 : m ≤ 12) : m = 1 ∨ m = 2 ∨ m = 3 ∨ m = 4 ∨ m = 5 ∨ m = 6 ∨ m = 7 ∨ m = 8 ∨ m = 9 ∨ m = 10 ∨ m = 11 ∨ m = 12 := by omega
theorem mlen_bd {y m : Int} (h1 : 1 ≤ m) (h2 : m ≤ 12) : 28 ≤ mlen y m ∧ mlen y m ≤ 31 := by
 have := mlen_all y; have := mlen_2 y; have := ld01 y
 rcases twelve h1 h2 with h | h | h | h | h | h | h | h | h | h | h | h <;> subst h <;> omega
theorem bef_1 (y : Int) : bef y 1 = 0 := rfl
theorem bef_succ {y m : Int} (h : 1 ≤ m) : bef y (m + 1) = bef y m + mlen y m := by
 unfold bef
 have e : (m + 1 - 1).toNat = (m - 1).toNat + 1 := by omega
 rw [e, List.range_succ, List.map_append, List.sum_append]
 have e2 : (1 : Int) + (((m - 1).toNat : Nat) : Int) = m := by omega
 simp only [List.map_cons, List.map_nil, List.sum_cons, List.sum_nil, e2]
 omega
theorem bef_all (y : Int) : bef y 1 = 0 ∧ bef y 2 = 31 ∧ bef y 3 = 59 + ld y ∧ bef y 4 = 90 + ld y ∧ bef y 5 = 120 + ld y ∧ bef y 6 = 151 + ld y ∧ bef y 7 = 181 + ld y ∧ bef y 8 = 212 + ld y ∧ bef y 9 = 243 + ld y ∧ bef y 10 = 273 + ld y ∧ bef y 11 = 304 + ld y ∧ bef y 12 = 334 + ld y ∧ bef y 13 = 365 + ld y := by
 have h1 := bef_1 y
 have h2 : bef y 2 = bef y 1 + mlen y 1 := bef_succ (m := 1) (by decide)
 have h3 : bef y 3 = bef y 2 + mlen y 2 := bef_succ (m := 2) (by decide)
 have h4 : bef y 4 = bef y 3 + mlen y 3 := bef_succ (m := 3) (by decide)
 have h5 : bef y 5 = bef y 4 + mlen y 4 := bef_succ (m := 4) (by decide)
 have h6 : bef y 6 = bef y 5 + mlen y 5 := bef_succ (m := 5) (by decide)
 have h7 : bef y 7 = bef y 6 + mlen y 6 := bef_succ (m := 6) (by decide)
 have h8 : bef y 8 = bef y 7 + mlen y 7 := bef_succ (m := 7) (by decide)
 have h9 : bef y 9 = bef y 8 + mlen y 8 := bef_succ (m := 8) (by decide)
 have h10 : bef y 10 = bef y 9 + mlen y 9 := bef_succ (m := 9) (by decide)
 have h11 : bef y 11 = bef y 10 + mlen y 10 := bef_succ (m := 10) (by decide)
 have h12 : bef y 12 = bef y 11 + mlen y 11 := bef_succ (m := 11) (by decide)
 have h13 : bef y 13 = bef y 12 + mlen y 12 := bef_succ (m := 12) (by decide)
 have := mlen_all y; have := mlen_2 y
 omega
theorem bef_mono {y m : Int} (h1 : 1 ≤ m) : ∀ k : Nat, m + k ≤ 13 → bef y m ≤ bef y (m + k)
 | 0, _ => by simp
 | k + 1, h => by
  have ih := bef_mono (y := y) h1 k (by omega)
  have e : m + ((k + 1 : Nat) : Int) = (m + k) + 1 := by omega
  rw [e, bef_succ (by omega)]
  have := mlen_bd (y := y) (m := m + k) (by omega) (by omega)
  omega
theorem bef_le {y m m' : Int} (h1 : 1 ≤ m) (h2 : m ≤ m') (h3 : m' ≤ 13) : bef y m ≤ bef y m' := by
 have := bef_mono (y := y) h1 (m' - m).toNat (by omega)
 rw [show m + (((m' - m).toNat : Nat) : Int) = m' by omega] at this
 exact this
theorem bef_bd {y m : Int} (h1 : 1 ≤ m) (h2 : m ≤ 12) : 0 ≤ bef y m ∧ bef y m + mlen y m ≤ 365 + ld y := by
 have a := bef_le (y := y) (m := 1) (m' := m) (by decide) h1 (by omega)
 have b := bef_le (y := y) (m := m + 1) (m' := 13) (by omega) (by omega) (by decide)
 rw [bef_succ h1] at b
 have c := (bef_all y).1
 have e := (bef_all y).2.2.2.2.2.2.2.2.2.2.2.2
 omega
theorem bef_lt {y m m' : Int} (h1 : 1 ≤ m) (h2 : m < m') (h3 : m' ≤ 12) : bef y m + mlen y m ≤ bef y m' := by
 have b := bef_le (y := y) (m := m + 1) (m' := m') (by omega) (by omega) (by omega)
 rw [bef_succ h1] at b
 exact b
theorem DateOf.in {d y m n : Int} (h : DateOf d y m n) : ystart y ≤ d ∧ d < ystart (y + 1) := by
 have := bef_bd (y := y) h.m1 h.m12; have := h.n1; have := h.nl; have e := h.eq; have := ystart_succ y
 unfold num at e; omega
theorem DateOf.uniq {d y m n y' m' n' : Int} (h : DateOf d y m n) (h' : DateOf d y' m' n') : y = y' ∧ m = m' ∧ n = n' := by
 have a := h.in; have b := h'.in
 have ey : y = y' := by
  rcases Int.lt_trichotomy y y' with z | z | z
  ·have := ystart_mono (a := y) (b := y') (by omega); omega
  ·exact z
  ·have := ystart_mono (a := y') (b := y) (by omega); omega
 subst ey
 have e := h.eq; have e' := h'.eq; unfold num at e e'
 have em : m = m' := by
  rcases Int.lt_trichotomy m m' with z | z | z
  ·have := bef_lt (y := y) h.m1 z h'.m12; have := h.nl; have := h'.n1; omega
  ·exact z
  ·have := bef_lt (y := y) h'.m1 z h.m12; have := h'.nl; have := h.n1; omega
 subst em
 exact ⟨rfl, rfl, by omega⟩
def yearOf (d : Int) : Int :=
 if d < ystart (2000 + d * 400 / 146097) then 2000 + d * 400 / 146097 - 1
 else if ystart (2000 + d * 400 / 146097 + 1) ≤ d then 2000 + d * 400 / 146097 + 1
 else 2000 + d * 400 / 146097
theorem yearOf_ok (d : Int) : ystart (yearOf d) ≤ d ∧ d < ystart (yearOf d + 1) := by
 unfold yearOf
 have e : 2000 + d * 400 / 146097 - 1 + 1 = 2000 + d * 400 / 146097 := by omega
 by_cases h : d < ystart (2000 + d * 400 / 146097)
 ·rw [if_pos h, e]
  refine ⟨?_, h⟩
  unfold ystart lb at *; omega
 ·rw [if_neg h]
  by_cases h2 : ystart (2000 + d * 400 / 146097 + 1) ≤ d
  ·rw [if_pos h2]
   refine ⟨h2, ?_⟩
   unfold ystart lb at *; omega
  ·rw [if_neg h2]; omega
def mon (y m n k : Int) : Int := num ((y * 12 + m - 1 + k) / 12) ((y * 12 + m - 1 + k) % 12 + 1) (min n (mlen ((y * 12 + m - 1 + k) / 12) ((y * 12 + m - 1 + k) % 12 + 1)))
theorem ahead_eq (y : Int) : 365 * (y - 2000) + (y - 2000 + 3) / 4 - (y - 2000 + 99) / 100 + (y - 2000 + 399) / 400 = ystart y := by
 unfold ystart lb; omega
theorem ahead_le {d : Int} (h : 0 ≤ d) : ystart (2000 + d / 366) ≤ d := by
 unfold ystart lb; omega
theorem length_eq (y m : Int) (h1 : 1 ≤ m) (h2 : m ≤ 12) : (if m = 2 ∧ (y % 4 ≠ 0 ∨ (y % 100 = 0 ∧ y % 400 ≠ 0)) then (28 : Int) else [31, 29, 31, 30, 31, 30, 31, 31, 30, 31, 30, 31].getD (m - 1).toNat 0) = mlen y m := by
 by_cases h : m = 2
 ·subst h
  rw [mlen_2]; unfold ld
  by_cases l : leap y = true
  ·rw [if_pos l, if_neg (by have := (leap_iff y).mp l; omega)]; rfl
  ·rw [if_neg l, if_pos (by have := mt (leap_iff y).mpr l; omega)]; rfl
 ·rw [mlen_ne h, if_neg (fun z => h z.1)]
  rcases twelve h1 h2 with z | z | z | z | z | z | z | z | z | z | z | z <;> subst z <;> first | rfl | exact absurd rfl h
end Day

namespace Day
def fst (M : Int) : Int := num (M / 12) (M % 12 + 1) 1
def Dn (M n : Int) : Int := fst M + n - 1
end Day

namespace K19
open PySem L2
def top (i : Nat) : Stmt := PySem.Challenge.pw_goneday_k19_turning_days.main.body.getD i (.Pass ⟨0, 0, 0, 0⟩)
abbrev s_x0 : Stmt := top 8
abbrev s_x1 : Stmt := top 9
abbrev s_x2 : Stmt := top 10
abbrev s_x3 : Stmt := top 11
abbrev s_x4 : Stmt := top 12
abbrev s_x5 : Stmt := top 13
abbrev s_x6 : Stmt := top 14
abbrev s_x7 : Stmt := top 15
abbrev s_x8 : Stmt := L2.inClass (top 17) 0
abbrev s_x9 : Stmt := top 18
abbrev s_x10 : Stmt := top 19
abbrev s_x11 : Stmt := top 20
abbrev s_x12 : Stmt := top 21
abbrev s_x13 : Stmt := top 22
abbrev s_x14 : Stmt := top 23
abbrev s_x15 : Stmt := top 25
abbrev s_x16 : Stmt := top 27
abbrev s_x17 : Stmt := top 28
abbrev s_x18 : Stmt := top 29
abbrev s_x19 : Stmt := top 31
abbrev s_x20 : Stmt := top 32
abbrev s_x21 : Stmt := top 33
abbrev s_x22 : Stmt := top 34
abbrev s_x23 : Stmt := top 35
abbrev s_x24 : Stmt := top 36
abbrev s_x25 : Stmt := top 37
abbrev s_x26 : Stmt := top 38
abbrev s_x27 : Stmt := top 39
abbrev s_x28 : Stmt := top 40
abbrev s_x29 : Stmt := top 41
abbrev s_x30 : Stmt := top 42
abbrev s_x31 : Stmt := top 43
abbrev s_x32 : Stmt := top 44
abbrev s_x33 : Stmt := top 45
abbrev s_x34 : Stmt := top 46
abbrev s_x35 : Stmt := top 47
abbrev s_x36 : Stmt := top 48
abbrev s_x37 : Stmt := top 49
abbrev s_x38 : Stmt := top 50
abbrev s_x39 : Stmt := top 51
structure Adr where
 a_x0 : Addr
 d_x0 : FuncData
 a_x1 : Addr
 d_x1 : FuncData
 a_x2 : Addr
 d_x2 : FuncData
 a_x3 : Addr
 d_x3 : FuncData
 a_x4 : Addr
 d_x4 : FuncData
 a_x5 : Addr
 d_x5 : FuncData
 a_x6 : Addr
 d_x6 : FuncData
 a_x7 : Addr
 d_x7 : FuncData
 a_x8 : Addr
 d_x8 : FuncData
 a_x9 : Addr
 d_x9 : FuncData
 a_x10 : Addr
 d_x10 : FuncData
 a_x11 : Addr
 d_x11 : FuncData
 a_x12 : Addr
 d_x12 : FuncData
 a_x13 : Addr
 d_x13 : FuncData
 a_x14 : Addr
 d_x14 : FuncData
 a_x15 : Addr
 d_x15 : FuncData
 a_x16 : Addr
 d_x16 : FuncData
 a_x17 : Addr
 d_x17 : FuncData
 a_x18 : Addr
 d_x18 : FuncData
 a_x19 : Addr
 d_x19 : FuncData
 a_x20 : Addr
 d_x20 : FuncData
 a_x21 : Addr
 d_x21 : FuncData
 a_x22 : Addr
 d_x22 : FuncData
 a_x23 : Addr
 d_x23 : FuncData
 a_x24 : Addr
 d_x24 : FuncData
 a_x25 : Addr
 d_x25 : FuncData
 a_x26 : Addr
 d_x26 : FuncData
 a_x27 : Addr
 d_x27 : FuncData
 a_x28 : Addr
 d_x28 : FuncData
 a_x29 : Addr
 d_x29 : FuncData
 a_x30 : Addr
 d_x30 : FuncData
 a_x31 : Addr
 d_x31 : FuncData
 a_x32 : Addr
 d_x32 : FuncData
 a_x33 : Addr
 d_x33 : FuncData
 a_x34 : Addr
 d_x34 : FuncData
 a_x35 : Addr
 d_x35 : FuncData
 a_x36 : Addr
 d_x36 : FuncData
 a_x37 : Addr
 d_x37 : FuncData
 a_x38 : Addr
 d_x38 : FuncData
 a_x39 : Addr
 d_x39 : FuncData
 u_MONTH_DAYS : Value
 u_FIRST_YEAR : Value
 u_ROUND_DAYS : Value
 u_ROUND_YEARS : Value
 u_NoPaper : Addr
 u_Paper : Addr
structure Txt (K : PySem.W.Frag) (mg : Str → Option Value) (t : Adr) : Prop where
 F_x0 : Fun K "is_leap" "is_leap" s_x0 t.a_x0 t.d_x0
 m_x0 : mg "is_leap" = some (.ref t.a_x0)
 b_x0 : Binds K t.d_x0 ["year"] []
 F_x1 : Fun K "month_length" "month_length" s_x1 t.a_x1 t.d_x1
 m_x1 : mg "month_length" = some (.ref t.a_x1)
 b_x1 : Binds K t.d_x1 ["year", "month"] []
 F_x2 : Fun K "leaps_before" "leaps_before" s_x2 t.a_x2 t.d_x2
 m_x2 : mg "leaps_before" = some (.ref t.a_x2)
 b_x2 : Binds K t.d_x2 ["year"] []
 F_x3 : Fun K "year_start" "year_start" s_x3 t.a_x3 t.d_x3
 m_x3 : mg "year_start" = some (.ref t.a_x3)
 b_x3 : Binds K t.d_x3 ["year"] []
 F_x4 : Fun K "year_of" "year_of" s_x4 t.a_x4 t.d_x4
 m_x4 : mg "year_of" = some (.ref t.a_x4)
 b_x4 : Binds K t.d_x4 ["day"] []
 F_x5 : Fun K "parts_of" "parts_of" s_x5 t.a_x5 t.d_x5
 m_x5 : mg "parts_of" = some (.ref t.a_x5)
 b_x5 : Binds K t.d_x5 ["day"] []
 F_x6 : Fun K "number_of" "number_of" s_x6 t.a_x6 t.d_x6
 m_x6 : mg "number_of" = some (.ref t.a_x6)
 b_x6 : Binds K t.d_x6 ["year", "month", "day"] []
 F_x7 : Fun K "later" "later" s_x7 t.a_x7 t.d_x7
 m_x7 : mg "later" = some (.ref t.a_x7)
 b_x7 : Binds K t.d_x7 ["day", "many", "unit"] []
 F_x8 : Fun K "__init__" "Paper.__init__" s_x8 t.a_x8 t.d_x8
 b_x8 : Binds K t.d_x8 ["self", "deeds", "name"] []
 F_x9 : Fun K "place_of" "place_of" s_x9 t.a_x9 t.d_x9
 m_x9 : mg "place_of" = some (.ref t.a_x9)
 b_x9 : Binds K t.d_x9 ["deed"] []
 F_x10 : Fun K "comings" "comings" s_x10 t.a_x10 t.d_x10
 m_x10 : mg "comings" = some (.ref t.a_x10)
 b_x10 : Binds K t.d_x10 ["deeds"] []
 F_x11 : Fun K "coming_of" "coming_of" s_x11 t.a_x11 t.d_x11
 m_x11 : mg "coming_of" = some (.ref t.a_x11)
 b_x11 : Binds K t.d_x11 ["deeds", "paper"] []
 F_x12 : Fun K "papers" "papers" s_x12 t.a_x12 t.d_x12
 m_x12 : mg "papers" = some (.ref t.a_x12)
 b_x12 : Binds K t.d_x12 ["deeds"] []
 F_x13 : Fun K "maker_comings" "maker_comings" s_x13 t.a_x13 t.d_x13
 m_x13 : mg "maker_comings" = some (.ref t.a_x13)
 b_x13 : Binds K t.d_x13 ["deeds", "coming"] []
 F_x14 : Fun K "makers" "makers" s_x14 t.a_x14 t.d_x14
 m_x14 : mg "makers" = some (.ref t.a_x14)
 b_x14 : Binds K t.d_x14 ["deeds", "paper"] []
 F_x15 : Fun K "happened" "happened" s_x15 t.a_x15 t.d_x15
 m_x15 : mg "happened" = some (.ref t.a_x15)
 b_x15 : Binds K t.d_x15 ["paper", "happening"] []
 F_x16 : Fun K "bases" "bases" s_x16 t.a_x16 t.d_x16
 m_x16 : mg "bases" = some (.ref t.a_x16)
 b_x16 : Binds K t.d_x16 ["since", "paper"] []
 F_x17 : Fun K "reckonings" "reckonings" s_x17 t.a_x17 t.d_x17
 m_x17 : mg "reckonings" = some (.ref t.a_x17)
 b_x17 : Binds K t.d_x17 ["ready", "parts"] []
 F_x18 : Fun K "turning_days" "turning_days" s_x18 t.a_x18 t.d_x18
 m_x18 : mg "turning_days" = some (.ref t.a_x18)
 b_x18 : Binds K t.d_x18 ["deeds"] []
 F_x19 : Fun K "_law_cell" "_law_cell" s_x19 t.a_x19 t.d_x19
 m_x19 : mg "_law_cell" = some (.ref t.a_x19)
 b_x19 : Binds K t.d_x19 ["_law_script", "_law_k"] []
 F_x20 : Fun K "_law_numbers" "_law_numbers" s_x20 t.a_x20 t.d_x20
 m_x20 : mg "_law_numbers" = some (.ref t.a_x20)
 b_x20 : Binds K t.d_x20 ["_law_cell_here", "_law_many"] []
 F_x21 : Fun K "_law_pool" "_law_pool" s_x21 t.a_x21 t.d_x21
 m_x21 : mg "_law_pool" = some (.ref t.a_x21)
 b_x21 : Binds K t.d_x21 ["_law_x", "_law_many"] []
 F_x22 : Fun K "_law_first" "_law_first" s_x22 t.a_x22 t.d_x22
 m_x22 : mg "_law_first" = some (.ref t.a_x22)
 b_x22 : Binds K t.d_x22 ["_law_year"] []
 F_x23 : Fun K "_law_lengths" "_law_lengths" s_x23 t.a_x23 t.d_x23
 m_x23 : mg "_law_lengths" = some (.ref t.a_x23)
 b_x23 : Binds K t.d_x23 ["_law_year"] []
 F_x24 : Fun K "_law_later" "_law_later" s_x24 t.a_x24 t.d_x24
 m_x24 : mg "_law_later" = some (.ref t.a_x24)
 b_x24 : Binds K t.d_x24 ["_law_day_here", "_law_many", "_law_unit"] []
 F_x25 : Fun K "_law_day" "_law_day" s_x25 t.a_x25 t.d_x25
 m_x25 : mg "_law_day" = some (.ref t.a_x25)
 b_x25 : Binds K t.d_x25 ["_law_x", "_law_far_here"] []
 F_x26 : Fun K "_law_since" "_law_since" s_x26 t.a_x26 t.d_x26
 m_x26 : mg "_law_since" = some (.ref t.a_x26)
 b_x26 : Binds K t.d_x26 ["_law_x", "_law_words"] []
 F_x27 : Fun K "_law_parts" "_law_parts" s_x27 t.a_x27 t.d_x27
 m_x27 : mg "_law_parts" = some (.ref t.a_x27)
 b_x27 : Binds K t.d_x27 ["_law_xs", "_law_kinds", "_law_words", "_law_far_here"] []
 F_x28 : Fun K "_law_quarrel" "_law_quarrel" s_x28 t.a_x28 t.d_x28
 m_x28 : mg "_law_quarrel" = some (.ref t.a_x28)
 b_x28 : Binds K t.d_x28 ["_law_one", "_law_other"] []
 F_x29 : Fun K "_law_deed" "_law_deed" s_x29 t.a_x29 t.d_x29
 m_x29 : mg "_law_deed" = some (.ref t.a_x29)
 b_x29 : Binds K t.d_x29 ["_law_sort", "_law_xs", "_law_pools_here", "_law_far_here"] []
 F_x30 : Fun K "_law_pools" "_law_pools" s_x30 t.a_x30 t.d_x30
 m_x30 : mg "_law_pools" = some (.ref t.a_x30)
 b_x30 : Binds K t.d_x30 ["_law_x"] []
 F_x31 : Fun K "_law_sorts" "_law_sorts" s_x31 t.a_x31 t.d_x31
 m_x31 : mg "_law_sorts" = some (.ref t.a_x31)
 b_x31 : Binds K t.d_x31 [] []
 F_x32 : Fun K "_law_deeds" "_law_deeds" s_x32 t.a_x32 t.d_x32
 m_x32 : mg "_law_deeds" = some (.ref t.a_x32)
 b_x32 : Binds K t.d_x32 ["_law_script", "_law_at", "_law_far_here"] []
 F_x33 : Fun K "_law_row" "_law_row" s_x33 t.a_x33 t.d_x33
 m_x33 : mg "_law_row" = some (.ref t.a_x33)
 b_x33 : Binds K t.d_x33 ["_law_deeds_here", "_law_name"] []
 F_x34 : Fun K "_law_order" "_law_order" s_x34 t.a_x34 t.d_x34
 m_x34 : mg "_law_order" = some (.ref t.a_x34)
 b_x34 : Binds K t.d_x34 ["_law_deeds_here"] []
 F_x35 : Fun K "_law_reckoning" "_law_reckoning" s_x35 t.a_x35 t.d_x35
 m_x35 : mg "_law_reckoning" = some (.ref t.a_x35)
 b_x35 : Binds K t.d_x35 ["_law_deeds_here", "_law_parts_here", "_law_name", "_law_day_here"] []
 F_x36 : Fun K "_law_turns" "_law_turns" s_x36 t.a_x36 t.d_x36
 m_x36 : mg "_law_turns" = some (.ref t.a_x36)
 b_x36 : Binds K t.d_x36 ["_law_deeds_here"] []
 F_x37 : Fun K "_law_is" "_law_is" s_x37 t.a_x37 t.d_x37
 m_x37 : mg "_law_is" = some (.ref t.a_x37)
 b_x37 : Binds K t.d_x37 ["_law_found", "_law_due"] []
 F_x38 : Fun K "_law_far" "_law_far" s_x38 t.a_x38 t.d_x38
 m_x38 : mg "_law_far" = some (.ref t.a_x38)
 b_x38 : Binds K t.d_x38 ["_law_script", "_law_at"] []
 F_x39 : Fun K "law" "law" s_x39 t.a_x39 t.d_x39
 m_x39 : mg "law" = some (.ref t.a_x39)
 b_x39 : Binds K t.d_x39 ["_law_script"] []
 bt_x39 : ∀ (s : Shared) (u : Value), BindsTo s t.d_x39 ⟨[u], []⟩ [("_law_script", u)]
 c_MONTH_DAYS : mg "MONTH_DAYS" = some t.u_MONTH_DAYS
 e_MONTH_DAYS : ∃ a, t.u_MONTH_DAYS = .ref a ∧ ∀ H, SqT K H a [V.int 31, V.int 28, V.int 31, V.int 30, V.int 31, V.int 30, V.int 31, V.int 31, V.int 30, V.int 31, V.int 30, V.int 31]
 c_FIRST_YEAR : mg "FIRST_YEAR" = some t.u_FIRST_YEAR
 r_FIRST_YEAR : RelV (.int 2000) t.u_FIRST_YEAR
 c_ROUND_DAYS : mg "ROUND_DAYS" = some t.u_ROUND_DAYS
 r_ROUND_DAYS : RelV (.int 146097) t.u_ROUND_DAYS
 c_ROUND_YEARS : mg "ROUND_YEARS" = some t.u_ROUND_YEARS
 r_ROUND_YEARS : RelV (.int 400) t.u_ROUND_YEARS
 c_NoPaper : mg "NoPaper" = some (.ref t.u_NoPaper)
 c_Paper : mg "Paper" = some (.ref t.u_Paper)
 cl_Paper : Cls K t.u_Paper
 mk_Paper : Mk K t.u_Paper t.a_x8
 na_Paper_name : NoAttr K t.u_Paper "name"
 na_Paper_coming : NoAttr K t.u_Paper "coming"
 na_Paper_kind : NoAttr K t.u_Paper "kind"
 na_Paper_makers : NoAttr K t.u_Paper "makers"
 na_Paper_happenings : NoAttr K t.u_Paper "happenings"
 n_abs : mg "abs" = none
 n_all : mg "all" = none
 n_any : mg "any" = none
 n_bool : mg "bool" = none
 n_divmod : mg "divmod" = none
 n_enumerate : mg "enumerate" = none
 n_int : mg "int" = none
 n_isinstance : mg "isinstance" = none
 n_len : mg "len" = none
 n_max : mg "max" = none
 n_min : mg "min" = none
 n_range : mg "range" = none
 n_set : mg "set" = none
 n_sorted : mg "sorted" = none
 n_str : mg "str" = none
 n_sum : mg "sum" = none
 n_tuple : mg "tuple" = none
theorem sc_x0 : FnScope ["year"] ["year"] (defScope s_x0) := ⟨rfl, rfl, rfl, by decide +kernel, rfl, by decide +kernel, by decide +kernel⟩
theorem sc_x1 : FnScope ["year", "month"] ["year", "month"] (defScope s_x1) := ⟨rfl, rfl, rfl, by decide +kernel, rfl, by decide +kernel, by decide +kernel⟩
theorem sc_x2 : FnScope ["year", "past"] ["year"] (defScope s_x2) := ⟨rfl, rfl, rfl, by decide +kernel, rfl, by decide +kernel, by decide +kernel⟩
theorem sc_x3 : FnScope ["year"] ["year"] (defScope s_x3) := ⟨rfl, rfl, rfl, by decide +kernel, rfl, by decide +kernel, by decide +kernel⟩
theorem sc_x4 : FnScope ["day", "year"] ["day"] (defScope s_x4) := ⟨rfl, rfl, rfl, by decide +kernel, rfl, by decide +kernel, by decide +kernel⟩
theorem sc_x5 : FnScope ["day", "year", "left", "month"] ["day"] (defScope s_x5) := ⟨rfl, rfl, rfl, by decide +kernel, rfl, by decide +kernel, by decide +kernel⟩
theorem sc_x6 : FnScope ["year", "month", "day", "before"] ["year", "month", "day"] (defScope s_x6) := ⟨rfl, rfl, rfl, by decide +kernel, rfl, by decide +kernel, by decide +kernel⟩
theorem sc_x7 : FnScope ["day", "many", "unit", "months", "parts", "place", "year", "month"] ["day", "many", "unit"] (defScope s_x7) := ⟨rfl, rfl, rfl, by decide +kernel, rfl, by decide +kernel, by decide +kernel⟩
theorem sc_x8 : FnScope ["self", "deeds", "name", "coming"] ["self", "deeds", "name"] (defScope s_x8) := ⟨rfl, rfl, rfl, by decide +kernel, rfl, by decide +kernel, by decide +kernel⟩
theorem sc_x9 : FnScope ["deed"] ["deed"] (defScope s_x9) := ⟨rfl, rfl, rfl, by decide +kernel, rfl, by decide +kernel, by decide +kernel⟩
theorem sc_x10 : FnScope ["deeds"] ["deeds"] (defScope s_x10) := ⟨rfl, rfl, rfl, by decide +kernel, rfl, by decide +kernel, by decide +kernel⟩
theorem sc_x11 : FnScope ["deeds", "paper", "deed"] ["deeds", "paper"] (defScope s_x11) := ⟨rfl, rfl, rfl, by decide +kernel, rfl, by decide +kernel, by decide +kernel⟩
theorem sc_x12 : FnScope ["deeds"] ["deeds"] (defScope s_x12) := ⟨rfl, rfl, rfl, by decide +kernel, rfl, by decide +kernel, by decide +kernel⟩
theorem sc_x13 : FnScope ["deeds", "coming", "named"] ["deeds", "coming"] (defScope s_x13) := ⟨rfl, rfl, rfl, by decide +kernel, rfl, by decide +kernel, by decide +kernel⟩
theorem sc_x14 : FnScope ["deeds", "paper"] ["deeds", "paper"] (defScope s_x14) := ⟨rfl, rfl, rfl, by decide +kernel, rfl, by decide +kernel, by decide +kernel⟩
theorem sc_x15 : FnScope ["paper", "happening"] ["paper", "happening"] (defScope s_x15) := ⟨rfl, rfl, rfl, by decide +kernel, rfl, by decide +kernel, by decide +kernel⟩
theorem sc_x16 : FnScope ["since", "paper", "days"] ["since", "paper"] (defScope s_x16) := ⟨rfl, rfl, rfl, by decide +kernel, rfl, by decide +kernel, by decide +kernel⟩
theorem sc_x17 : FnScope ["ready", "parts", "days", "paper"] ["ready", "parts"] (defScope s_x17) := ⟨rfl, rfl, rfl, by decide +kernel, rfl, by decide +kernel, by decide +kernel⟩
theorem sc_x18 : FnScope ["deeds", "ready", "days", "deed"] ["deeds"] (defScope s_x18) := ⟨rfl, rfl, rfl, by decide +kernel, rfl, by decide +kernel, by decide +kernel⟩
theorem sc_x19 : FnScope ["_law_script", "_law_k", "_law_state", "_law_cell_here"] ["_law_script", "_law_k"] (defScope s_x19) := ⟨rfl, rfl, rfl, by decide +kernel, rfl, by decide +kernel, by decide +kernel⟩
theorem sc_x20 : FnScope ["_law_cell_here", "_law_many", "_law_found", "_law_state", "_law_digits", "_law_k"] ["_law_cell_here", "_law_many"] (defScope s_x20) := ⟨rfl, rfl, rfl, by decide +kernel, rfl, by decide +kernel, by decide +kernel⟩
theorem sc_x21 : FnScope ["_law_x", "_law_many", "_law_letters", "_law_words", "_law_size", "_law_at", "_law_stem", "_law_ends"] ["_law_x", "_law_many"] (defScope s_x21) := ⟨rfl, rfl, rfl, by decide +kernel, rfl, by decide +kernel, by decide +kernel⟩
theorem sc_x22 : FnScope ["_law_year", "_law_past"] ["_law_year"] (defScope s_x22) := ⟨rfl, rfl, rfl, by decide +kernel, rfl, by decide +kernel, by decide +kernel⟩
theorem sc_x23 : FnScope ["_law_year", "_law_leap"] ["_law_year"] (defScope s_x23) := ⟨rfl, rfl, rfl, by decide +kernel, rfl, by decide +kernel, by decide +kernel⟩
theorem sc_x24 : FnScope ["_law_day_here", "_law_many", "_law_unit", "_law_year", "_law_rest", "_law_month", "_law_lengths_here"] ["_law_day_here", "_law_many", "_law_unit"] (defScope s_x24) := ⟨rfl, rfl, rfl, by decide +kernel, rfl, by decide +kernel, by decide +kernel⟩
theorem sc_x25 : FnScope ["_law_x", "_law_far_here", "_law_month", "_law_ahead"] ["_law_x", "_law_far_here"] (defScope s_x25) := ⟨rfl, rfl, rfl, by decide +kernel, rfl, by decide +kernel, by decide +kernel⟩
theorem sc_x26 : FnScope ["_law_x", "_law_words"] ["_law_x", "_law_words"] (defScope s_x26) := ⟨rfl, rfl, rfl, by decide +kernel, rfl, by decide +kernel, by decide +kernel⟩
theorem sc_x27 : FnScope ["_law_xs", "_law_kinds", "_law_words", "_law_far_here", "_law_kind", "_law_sort", "_law_unit", "_law_many"] ["_law_xs", "_law_kinds", "_law_words", "_law_far_here"] (defScope s_x27) := ⟨rfl, rfl, rfl, by decide +kernel, rfl, by decide +kernel, by decide +kernel⟩
theorem sc_x28 : FnScope ["_law_one", "_law_other"] ["_law_one", "_law_other"] (defScope s_x28) := ⟨rfl, rfl, rfl, by decide +kernel, rfl, by decide +kernel, by decide +kernel⟩
theorem sc_x29 : FnScope ["_law_sort", "_law_xs", "_law_pools_here", "_law_far_here", "_law_names", "_law_kinds", "_law_words", "_law_rules", "_law_day_here", "_law_some", "_law_target"] ["_law_sort", "_law_xs", "_law_pools_here", "_law_far_here"] (defScope s_x29) := ⟨rfl, rfl, rfl, by decide +kernel, rfl, by decide +kernel, by decide +kernel⟩
theorem sc_x30 : FnScope ["_law_x", "_law_names"] ["_law_x"] (defScope s_x30) := ⟨rfl, rfl, rfl, by decide +kernel, rfl, by decide +kernel, by decide +kernel⟩
theorem sc_x31 : FnScope ["_law_found"] [] (defScope s_x31) := ⟨rfl, rfl, rfl, by decide +kernel, rfl, by decide +kernel, by decide +kernel⟩
theorem sc_x32 : FnScope ["_law_script", "_law_at", "_law_far_here", "_law_head", "_law_pools_here", "_law_found", "_law_k", "_law_sort", "_law_xs", "_law_deed_here", "_law_turn"] ["_law_script", "_law_at", "_law_far_here"] (defScope s_x32) := ⟨rfl, rfl, rfl, by decide +kernel, rfl, by decide +kernel, by decide +kernel⟩
theorem sc_x33 : FnScope ["_law_deeds_here", "_law_name", "_law_deed_here"] ["_law_deeds_here", "_law_name"] (defScope s_x33) := ⟨rfl, rfl, rfl, by decide +kernel, rfl, by decide +kernel, by decide +kernel⟩
theorem sc_x34 : FnScope ["_law_deeds_here"] ["_law_deeds_here"] (defScope s_x34) := ⟨rfl, rfl, rfl, by decide +kernel, rfl, by decide +kernel, by decide +kernel⟩
theorem sc_x35 : FnScope ["_law_deeds_here", "_law_parts_here", "_law_name", "_law_day_here", "_law_told_of", "_law_some"] ["_law_deeds_here", "_law_parts_here", "_law_name", "_law_day_here"] (defScope s_x35) := ⟨rfl, rfl, rfl, by decide +kernel, rfl, by decide +kernel, by decide +kernel⟩
theorem sc_x36 : FnScope ["_law_deeds_here", "_law_found", "_law_deed_here", "_law_name", "_law_days", "_law_some"] ["_law_deeds_here"] (defScope s_x36) := ⟨rfl, rfl, rfl, by decide +kernel, rfl, by decide +kernel, by decide +kernel⟩
theorem sc_x37 : FnScope ["_law_found", "_law_due"] ["_law_found", "_law_due"] (defScope s_x37) := ⟨rfl, rfl, rfl, by decide +kernel, rfl, by decide +kernel, by decide +kernel⟩
theorem sc_x38 : FnScope ["_law_script", "_law_at"] ["_law_script", "_law_at"] (defScope s_x38) := ⟨rfl, rfl, rfl, by decide +kernel, rfl, by decide +kernel, by decide +kernel⟩
theorem sc_x39 : FnScope ["_law_script", "_law_at", "_law_deeds_here", "_law_due"] ["_law_script"] (defScope s_x39) := ⟨rfl, rfl, rfl, by decide +kernel, rfl, by decide +kernel, by decide +kernel⟩
set_option maxHeartbeats 0 in
theorem txt_mk {K : PySem.W.Frag} {h : Heap} {mg : Str → Option Value} (X : K.In h) (G : h.Ns mainGlobals mg)
  {f0 f1 f2 f3 f4 f5 f6 f7 f8 f9 f10 f11 f12 f13 f14 f15 f16 f17 f18 f19 f20 f21 f22 f23 f24 f25 f26 f27 f28 f29 f30 f31 f32 f33 f34 f35 f36 f37 f38 f39 : Addr} {od0 an0 od1 an1 od2 an2 od3 an3 od4 an4 od5 an5 od6 an6 od7 an7 od8 an8 od9 an9 od10 an10 od11 an11 od12 an12 od13 an13 od14 an14 od15 an15 od16 an16 od17 an17 od18 an18 od19 an19 od20 an20 od21 an21 od22 an22 od23 an23 od24 an24 od25 an25 od26 an26 od27 an27 od28 an28 od29 an29 od30 an30 od31 an31 od32 an32 od33 an33 od34 an34 od35 an35 od36 an36 od37 an37 od38 an38 od39 an39 : Option Addr} {sl0 sl1 sl2 sl3 sl4 sl5 sl6 sl7 sl8 sl9 sl10 sl11 sl12 sl13 sl14 sl15 sl16 sl17 sl18 sl19 sl20 sl21 sl22 sl23 sl24 sl25 sl26 sl27 sl28 sl29 sl30 sl31 sl32 sl33 sl34 sl35 sl36 sl37 sl38 sl39 : Array (Option Value)} {oc0 kV0 dc0 pm0 cd0 ct0 oc1 kV1 dc1 pm1 cd1 ct1 oc2 kV2 dc2 pm2 cd2 ct2 oc3 kV3 dc3 pm3 cd3 ct3 oc4 kV4 dc4 pm4 cd4 ct4 oc5 kV5 dc5 pm5 cd5 ct5 oc6 kV6 dc6 pm6 cd6 ct6 oc7 kV7 dc7 pm7 cd7 ct7 oc8 kV8 dc8 pm8 cd8 ct8 oc9 kV9 dc9 pm9 cd9 ct9 oc10 kV10 dc10 pm10 cd10 ct10 oc11 kV11 dc11 pm11 cd11 ct11 oc12 kV12 dc12 pm12 cd12 ct12 oc13 kV13 dc13 pm13 cd13 ct13 oc14 kV14 dc14 pm14 cd14 ct14 oc15 kV15 dc15 pm15 cd15 ct15 oc16 kV16 dc16 pm16 cd16 ct16 oc17 kV17 dc17 pm17 cd17 ct17 oc18 kV18 dc18 pm18 cd18 ct18 oc19 kV19 dc19 pm19 cd19 ct19 oc20 kV20 dc20 pm20 cd20 ct20 oc21 kV21 dc21 pm21 cd21 ct21 oc22 kV22 dc22 pm22 cd22 ct22 oc23 kV23 dc23 pm23 cd23 ct23 oc24 kV24 dc24 pm24 cd24 ct24 oc25 kV25 dc25 pm25 cd25 ct25 oc26 kV26 dc26 pm26 cd26 ct26 oc27 kV27 dc27 pm27 cd27 ct27 oc28 kV28 dc28 pm28 cd28 ct28 oc29 kV29 dc29 pm29 cd29 ct29 oc30 kV30 dc30 pm30 cd30 ct30 oc31 kV31 dc31 pm31 cd31 ct31 oc32 kV32 dc32 pm32 cd32 ct32 oc33 kV33 dc33 pm33 cd33 ct33 oc34 kV34 dc34 pm34 cd34 ct34 oc35 kV35 dc35 pm35 cd35 ct35 oc36 kV36 dc36 pm36 cd36 ct36 oc37 kV37 dc37 pm37 cd37 ct37 oc38 kV38 dc38 pm38 cd38 ct38 oc39 kV39 dc39 pm39 cd39 ct39 : Value}
  {u_NoPaper u_Paper : Addr}
  {u_FIRST_YEAR u_ROUND_DAYS u_ROUND_YEARS : Value}
  {A_MONTH_DAYS : Addr} {dd_MONTH_DAYS : Option Addr} {its_MONTH_DAYS : Array Value} {n_MONTH_DAYS : Nat} {sl_MONTH_DAYS : Array (Option Value)}
  (a0 : PySem.W.nsIn K mainGlobals "is_leap" = some (some (.ref f0))) (l0 : K.lookup f0 = some ⟨oc0, od0, .func (PySem.W.fnOf "is_leap" "is_leap" (defArgs s_x0) (defBody s_x0) (defScope s_x0) .none kV0 dc0 pm0 an0 cd0 ct0), sl0⟩) (c0 : PySem.W.codeIn K cd0 "is_leap" = true) (k0 : PySem.W.keepIn K (.ref f0) = true)
  (a1 : PySem.W.nsIn K mainGlobals "month_length" = some (some (.ref f1))) (l1 : K.lookup f1 = some ⟨oc1, od1, .func (PySem.W.fnOf "month_length" "month_length" (defArgs s_x1) (defBody s_x1) (defScope s_x1) .none kV1 dc1 pm1 an1 cd1 ct1), sl1⟩) (c1 : PySem.W.codeIn K cd1 "month_length" = true) (k1 : PySem.W.keepIn K (.ref f1) = true)
  (a2 : PySem.W.nsIn K mainGlobals "leaps_before" = some (some (.ref f2))) (l2 : K.lookup f2 = some ⟨oc2, od2, .func (PySem.W.fnOf "leaps_before" "leaps_before" (defArgs s_x2) (defBody s_x2) (defScope s_x2) .none kV2 dc2 pm2 an2 cd2 ct2), sl2⟩) (c2 : PySem.W.codeIn K cd2 "leaps_before" = true) (k2 : PySem.W.keepIn K (.ref f2) = true)
  (a3 : PySem.W.nsIn K mainGlobals "year_start" = some (some (.ref f3))) (l3 : K.lookup f3 = some ⟨oc3, od3, .func (PySem.W.fnOf "year_start" "year_start" (defArgs s_x3) (defBody s_x3) (defScope s_x3) .none kV3 dc3 pm3 an3 cd3 ct3), sl3⟩) (c3 : PySem.W.codeIn K cd3 "year_start" = true) (k3 : PySem.W.keepIn K (.ref f3) = true)
  (a4 : PySem.W.nsIn K mainGlobals "year_of" = some (some (.ref f4))) (l4 : K.lookup f4 = some ⟨oc4, od4, .func (PySem.W.fnOf "year_of" "year_of" (defArgs s_x4) (defBody s_x4) (defScope s_x4) .none kV4 dc4 pm4 an4 cd4 ct4), sl4⟩) (c4 : PySem.W.codeIn K cd4 "year_of" = true) (k4 : PySem.W.keepIn K (.ref f4) = true)
  (a5 : PySem.W.nsIn K mainGlobals "parts_of" = some (some (.ref f5))) (l5 : K.lookup f5 = some ⟨oc5, od5, .func (PySem.W.fnOf "parts_of" "parts_of" (defArgs s_x5) (defBody s_x5) (defScope s_x5) .none kV5 dc5 pm5 an5 cd5 ct5), sl5⟩) (c5 : PySem.W.codeIn K cd5 "parts_of" = true) (k5 : PySem.W.keepIn K (.ref f5) = true)
  (a6 : PySem.W.nsIn K mainGlobals "number_of" = some (some (.ref f6))) (l6 : K.lookup f6 = some ⟨oc6, od6, .func (PySem.W.fnOf "number_of" "number_of" (defArgs s_x6) (defBody s_x6) (defScope s_x6) .none kV6 dc6 pm6 an6 cd6 ct6), sl6⟩) (c6 : PySem.W.codeIn K cd6 "number_of" = true) (k6 : PySem.W.keepIn K (.ref f6) = true)
  (a7 : PySem.W.nsIn K mainGlobals "later" = some (some (.ref f7))) (l7 : K.lookup f7 = some ⟨oc7, od7, .func (PySem.W.fnOf "later" "later" (defArgs s_x7) (defBody s_x7) (defScope s_x7) .none kV7 dc7 pm7 an7 cd7 ct7), sl7⟩) (c7 : PySem.W.codeIn K cd7 "later" = true) (k7 : PySem.W.keepIn K (.ref f7) = true)
  (a8 : PySem.W.findIn K (.ref u_Paper) "__init__" = some (some (.ref f8))) (i8 : PySem.W.isFn K (.ref f8) = true) (l8 : K.lookup f8 = some ⟨oc8, od8, .func (PySem.W.fnOf "__init__" "Paper.__init__" (defArgs s_x8) (defBody s_x8) (defScope s_x8) .none kV8 dc8 pm8 an8 cd8 ct8), sl8⟩) (c8 : PySem.W.codeIn K cd8 "Paper.__init__" = true) (k8 : PySem.W.keepIn K (.ref f8) = true)
  (a9 : PySem.W.nsIn K mainGlobals "place_of" = some (some (.ref f9))) (l9 : K.lookup f9 = some ⟨oc9, od9, .func (PySem.W.fnOf "place_of" "place_of" (defArgs s_x9) (defBody s_x9) (defScope s_x9) .none kV9 dc9 pm9 an9 cd9 ct9), sl9⟩) (c9 : PySem.W.codeIn K cd9 "place_of" = true) (k9 : PySem.W.keepIn K (.ref f9) = true)
  (a10 : PySem.W.nsIn K mainGlobals "comings" = some (some (.ref f10))) (l10 : K.lookup f10 = some ⟨oc10, od10, .func (PySem.W.fnOf "comings" "comings" (defArgs s_x10) (defBody s_x10) (defScope s_x10) .none kV10 dc10 pm10 an10 cd10 ct10), sl10⟩) (c10 : PySem.W.codeIn K cd10 "comings" = true) (k10 : PySem.W.keepIn K (.ref f10) = true)
  (a11 : PySem.W.nsIn K mainGlobals "coming_of" = some (some (.ref f11))) (l11 : K.lookup f11 = some ⟨oc11, od11, .func (PySem.W.fnOf "coming_of" "coming_of" (defArgs s_x11) (defBody s_x11) (defScope s_x11) .none kV11 dc11 pm11 an11 cd11 ct11), sl11⟩) (c11 : PySem.W.codeIn K cd11 "coming_of" = true) (k11 : PySem.W.keepIn K (.ref f11) = true)
  (a12 : PySem.W.nsIn K mainGlobals "papers" = some (some (.ref f12))) (l12 : K.lookup f12 = some ⟨oc12, od12, .func (PySem.W.fnOf "papers" "papers" (defArgs s_x12) (defBody s_x12) (defScope s_x12) .none kV12 dc12 pm12 an12 cd12 ct12), sl12⟩) (c12 : PySem.W.codeIn K cd12 "papers" = true) (k12 : PySem.W.keepIn K (.ref f12) = true)
  (a13 : PySem.W.nsIn K mainGlobals "maker_comings" = some (some (.ref f13))) (l13 : K.lookup f13 = some ⟨oc13, od13, .func (PySem.W.fnOf "maker_comings" "maker_comings" (defArgs s_x13) (defBody s_x13) (defScope s_x13) .none kV13 dc13 pm13 an13 cd13 ct13), sl13⟩) (c13 : PySem.W.codeIn K cd13 "maker_comings" = true) (k13 : PySem.W.keepIn K (.ref f13) = true)
  (a14 : PySem.W.nsIn K mainGlobals "makers" = some (some (.ref f14))) (l14 : K.lookup f14 = some ⟨oc14, od14, .func (PySem.W.fnOf "makers" "makers" (defArgs s_x14) (defBody s_x14) (defScope s_x14) .none kV14 dc14 pm14 an14 cd14 ct14), sl14⟩) (c14 : PySem.W.codeIn K cd14 "makers" = true) (k14 : PySem.W.keepIn K (.ref f14) = true)
  (a15 : PySem.W.nsIn K mainGlobals "happened" = some (some (.ref f15))) (l15 : K.lookup f15 = some ⟨oc15, od15, .func (PySem.W.fnOf "happened" "happened" (defArgs s_x15) (defBody s_x15) (defScope s_x15) .none kV15 dc15 pm15 an15 cd15 ct15), sl15⟩) (c15 : PySem.W.codeIn K cd15 "happened" = true) (k15 : PySem.W.keepIn K (.ref f15) = true)
  (a16 : PySem.W.nsIn K mainGlobals "bases" = some (some (.ref f16))) (l16 : K.lookup f16 = some ⟨oc16, od16, .func (PySem.W.fnOf "bases" "bases" (defArgs s_x16) (defBody s_x16) (defScope s_x16) .none kV16 dc16 pm16 an16 cd16 ct16), sl16⟩) (c16 : PySem.W.codeIn K cd16 "bases" = true) (k16 : PySem.W.keepIn K (.ref f16) = true)
  (a17 : PySem.W.nsIn K mainGlobals "reckonings" = some (some (.ref f17))) (l17 : K.lookup f17 = some ⟨oc17, od17, .func (PySem.W.fnOf "reckonings" "reckonings" (defArgs s_x17) (defBody s_x17) (defScope s_x17) .none kV17 dc17 pm17 an17 cd17 ct17), sl17⟩) (c17 : PySem.W.codeIn K cd17 "reckonings" = true) (k17 : PySem.W.keepIn K (.ref f17) = true)
  (a18 : PySem.W.nsIn K mainGlobals "turning_days" = some (some (.ref f18))) (l18 : K.lookup f18 = some ⟨oc18, od18, .func (PySem.W.fnOf "turning_days" "turning_days" (defArgs s_x18) (defBody s_x18) (defScope s_x18) .none kV18 dc18 pm18 an18 cd18 ct18), sl18⟩) (c18 : PySem.W.codeIn K cd18 "turning_days" = true) (k18 : PySem.W.keepIn K (.ref f18) = true)
  (a19 : PySem.W.nsIn K mainGlobals "_law_cell" = some (some (.ref f19))) (l19 : K.lookup f19 = some ⟨oc19, od19, .func (PySem.W.fnOf "_law_cell" "_law_cell" (defArgs s_x19) (defBody s_x19) (defScope s_x19) .none kV19 dc19 pm19 an19 cd19 ct19), sl19⟩) (c19 : PySem.W.codeIn K cd19 "_law_cell" = true) (k19 : PySem.W.keepIn K (.ref f19) = true)
  (a20 : PySem.W.nsIn K mainGlobals "_law_numbers" = some (some (.ref f20))) (l20 : K.lookup f20 = some ⟨oc20, od20, .func (PySem.W.fnOf "_law_numbers" "_law_numbers" (defArgs s_x20) (defBody s_x20) (defScope s_x20) .none kV20 dc20 pm20 an20 cd20 ct20), sl20⟩) (c20 : PySem.W.codeIn K cd20 "_law_numbers" = true) (k20 : PySem.W.keepIn K (.ref f20) = true)
  (a21 : PySem.W.nsIn K mainGlobals "_law_pool" = some (some (.ref f21))) (l21 : K.lookup f21 = some ⟨oc21, od21, .func (PySem.W.fnOf "_law_pool" "_law_pool" (defArgs s_x21) (defBody s_x21) (defScope s_x21) .none kV21 dc21 pm21 an21 cd21 ct21), sl21⟩) (c21 : PySem.W.codeIn K cd21 "_law_pool" = true) (k21 : PySem.W.keepIn K (.ref f21) = true)
  (a22 : PySem.W.nsIn K mainGlobals "_law_first" = some (some (.ref f22))) (l22 : K.lookup f22 = some ⟨oc22, od22, .func (PySem.W.fnOf "_law_first" "_law_first" (defArgs s_x22) (defBody s_x22) (defScope s_x22) .none kV22 dc22 pm22 an22 cd22 ct22), sl22⟩) (c22 : PySem.W.codeIn K cd22 "_law_first" = true) (k22 : PySem.W.keepIn K (.ref f22) = true)
  (a23 : PySem.W.nsIn K mainGlobals "_law_lengths" = some (some (.ref f23))) (l23 : K.lookup f23 = some ⟨oc23, od23, .func (PySem.W.fnOf "_law_lengths" "_law_lengths" (defArgs s_x23) (defBody s_x23) (defScope s_x23) .none kV23 dc23 pm23 an23 cd23 ct23), sl23⟩) (c23 : PySem.W.codeIn K cd23 "_law_lengths" = true) (k23 : PySem.W.keepIn K (.ref f23) = true)
  (a24 : PySem.W.nsIn K mainGlobals "_law_later" = some (some (.ref f24))) (l24 : K.lookup f24 = some ⟨oc24, od24, .func (PySem.W.fnOf "_law_later" "_law_later" (defArgs s_x24) (defBody s_x24) (defScope s_x24) .none kV24 dc24 pm24 an24 cd24 ct24), sl24⟩) (c24 : PySem.W.codeIn K cd24 "_law_later" = true) (k24 : PySem.W.keepIn K (.ref f24) = true)
  (a25 : PySem.W.nsIn K mainGlobals "_law_day" = some (some (.ref f25))) (l25 : K.lookup f25 = some ⟨oc25, od25, .func (PySem.W.fnOf "_law_day" "_law_day" (defArgs s_x25) (defBody s_x25) (defScope s_x25) .none kV25 dc25 pm25 an25 cd25 ct25), sl25⟩) (c25 : PySem.W.codeIn K cd25 "_law_day" = true) (k25 : PySem.W.keepIn K (.ref f25) = true)
  (a26 : PySem.W.nsIn K mainGlobals "_law_since" = some (some (.ref f26))) (l26 : K.lookup f26 = some ⟨oc26, od26, .func (PySem.W.fnOf "_law_since" "_law_since" (defArgs s_x26) (defBody s_x26) (defScope s_x26) .none kV26 dc26 pm26 an26 cd26 ct26), sl26⟩) (c26 : PySem.W.codeIn K cd26 "_law_since" = true) (k26 : PySem.W.keepIn K (.ref f26) = true)
  (a27 : PySem.W.nsIn K mainGlobals "_law_parts" = some (some (.ref f27))) (l27 : K.lookup f27 = some ⟨oc27, od27, .func (PySem.W.fnOf "_law_parts" "_law_parts" (defArgs s_x27) (defBody s_x27) (defScope s_x27) .none kV27 dc27 pm27 an27 cd27 ct27), sl27⟩) (c27 : PySem.W.codeIn K cd27 "_law_parts" = true) (k27 : PySem.W.keepIn K (.ref f27) = true)
  (a28 : PySem.W.nsIn K mainGlobals "_law_quarrel" = some (some (.ref f28))) (l28 : K.lookup f28 = some ⟨oc28, od28, .func (PySem.W.fnOf "_law_quarrel" "_law_quarrel" (defArgs s_x28) (defBody s_x28) (defScope s_x28) .none kV28 dc28 pm28 an28 cd28 ct28), sl28⟩) (c28 : PySem.W.codeIn K cd28 "_law_quarrel" = true) (k28 : PySem.W.keepIn K (.ref f28) = true)
  (a29 : PySem.W.nsIn K mainGlobals "_law_deed" = some (some (.ref f29))) (l29 : K.lookup f29 = some ⟨oc29, od29, .func (PySem.W.fnOf "_law_deed" "_law_deed" (defArgs s_x29) (defBody s_x29) (defScope s_x29) .none kV29 dc29 pm29 an29 cd29 ct29), sl29⟩) (c29 : PySem.W.codeIn K cd29 "_law_deed" = true) (k29 : PySem.W.keepIn K (.ref f29) = true)
  (a30 : PySem.W.nsIn K mainGlobals "_law_pools" = some (some (.ref f30))) (l30 : K.lookup f30 = some ⟨oc30, od30, .func (PySem.W.fnOf "_law_pools" "_law_pools" (defArgs s_x30) (defBody s_x30) (defScope s_x30) .none kV30 dc30 pm30 an30 cd30 ct30), sl30⟩) (c30 : PySem.W.codeIn K cd30 "_law_pools" = true) (k30 : PySem.W.keepIn K (.ref f30) = true)
  (a31 : PySem.W.nsIn K mainGlobals "_law_sorts" = some (some (.ref f31))) (l31 : K.lookup f31 = some ⟨oc31, od31, .func (PySem.W.fnOf "_law_sorts" "_law_sorts" (defArgs s_x31) (defBody s_x31) (defScope s_x31) .none kV31 dc31 pm31 an31 cd31 ct31), sl31⟩) (c31 : PySem.W.codeIn K cd31 "_law_sorts" = true) (k31 : PySem.W.keepIn K (.ref f31) = true)
  (a32 : PySem.W.nsIn K mainGlobals "_law_deeds" = some (some (.ref f32))) (l32 : K.lookup f32 = some ⟨oc32, od32, .func (PySem.W.fnOf "_law_deeds" "_law_deeds" (defArgs s_x32) (defBody s_x32) (defScope s_x32) .none kV32 dc32 pm32 an32 cd32 ct32), sl32⟩) (c32 : PySem.W.codeIn K cd32 "_law_deeds" = true) (k32 : PySem.W.keepIn K (.ref f32) = true)
  (a33 : PySem.W.nsIn K mainGlobals "_law_row" = some (some (.ref f33))) (l33 : K.lookup f33 = some ⟨oc33, od33, .func (PySem.W.fnOf "_law_row" "_law_row" (defArgs s_x33) (defBody s_x33) (defScope s_x33) .none kV33 dc33 pm33 an33 cd33 ct33), sl33⟩) (c33 : PySem.W.codeIn K cd33 "_law_row" = true) (k33 : PySem.W.keepIn K (.ref f33) = true)
  (a34 : PySem.W.nsIn K mainGlobals "_law_order" = some (some (.ref f34))) (l34 : K.lookup f34 = some ⟨oc34, od34, .func (PySem.W.fnOf "_law_order" "_law_order" (defArgs s_x34) (defBody s_x34) (defScope s_x34) .none kV34 dc34 pm34 an34 cd34 ct34), sl34⟩) (c34 : PySem.W.codeIn K cd34 "_law_order" = true) (k34 : PySem.W.keepIn K (.ref f34) = true)
  (a35 : PySem.W.nsIn K mainGlobals "_law_reckoning" = some (some (.ref f35))) (l35 : K.lookup f35 = some ⟨oc35, od35, .func (PySem.W.fnOf "_law_reckoning" "_law_reckoning" (defArgs s_x35) (defBody s_x35) (defScope s_x35) .none kV35 dc35 pm35 an35 cd35 ct35), sl35⟩) (c35 : PySem.W.codeIn K cd35 "_law_reckoning" = true) (k35 : PySem.W.keepIn K (.ref f35) = true)
  (a36 : PySem.W.nsIn K mainGlobals "_law_turns" = some (some (.ref f36))) (l36 : K.lookup f36 = some ⟨oc36, od36, .func (PySem.W.fnOf "_law_turns" "_law_turns" (defArgs s_x36) (defBody s_x36) (defScope s_x36) .none kV36 dc36 pm36 an36 cd36 ct36), sl36⟩) (c36 : PySem.W.codeIn K cd36 "_law_turns" = true) (k36 : PySem.W.keepIn K (.ref f36) = true)
  (a37 : PySem.W.nsIn K mainGlobals "_law_is" = some (some (.ref f37))) (l37 : K.lookup f37 = some ⟨oc37, od37, .func (PySem.W.fnOf "_law_is" "_law_is" (defArgs s_x37) (defBody s_x37) (defScope s_x37) .none kV37 dc37 pm37 an37 cd37 ct37), sl37⟩) (c37 : PySem.W.codeIn K cd37 "_law_is" = true) (k37 : PySem.W.keepIn K (.ref f37) = true)
  (a38 : PySem.W.nsIn K mainGlobals "_law_far" = some (some (.ref f38))) (l38 : K.lookup f38 = some ⟨oc38, od38, .func (PySem.W.fnOf "_law_far" "_law_far" (defArgs s_x38) (defBody s_x38) (defScope s_x38) .none kV38 dc38 pm38 an38 cd38 ct38), sl38⟩) (c38 : PySem.W.codeIn K cd38 "_law_far" = true) (k38 : PySem.W.keepIn K (.ref f38) = true)
  (a39 : PySem.W.nsIn K mainGlobals "law" = some (some (.ref f39))) (l39 : K.lookup f39 = some ⟨oc39, od39, .func (PySem.W.fnOf "law" "law" (defArgs s_x39) (defBody s_x39) (defScope s_x39) .none kV39 dc39 pm39 an39 cd39 ct39), sl39⟩) (c39 : PySem.W.codeIn K cd39 "law" = true) (k39 : PySem.W.keepIn K (.ref f39) = true)
  (x_MONTH_DAYS : PySem.W.nsIn K mainGlobals "MONTH_DAYS" = some (some (.ref A_MONTH_DAYS))) (y_MONTH_DAYS : K.lookup A_MONTH_DAYS = some ⟨.type "tuple", dd_MONTH_DAYS, .seq its_MONTH_DAYS n_MONTH_DAYS, sl_MONTH_DAYS⟩) (z_MONTH_DAYS : Vals [V.int 31, V.int 28, V.int 31, V.int 30, V.int 31, V.int 30, V.int 31, V.int 31, V.int 30, V.int 31, V.int 30, V.int 31] its_MONTH_DAYS.toList) (w_MONTH_DAYS : its_MONTH_DAYS.size ≤ sizeLine)
  (x_FIRST_YEAR : PySem.W.nsIn K mainGlobals "FIRST_YEAR" = some (some u_FIRST_YEAR)) (r_FIRST_YEAR : RelV (.int 2000) u_FIRST_YEAR)
  (x_ROUND_DAYS : PySem.W.nsIn K mainGlobals "ROUND_DAYS" = some (some u_ROUND_DAYS)) (r_ROUND_DAYS : RelV (.int 146097) u_ROUND_DAYS)
  (x_ROUND_YEARS : PySem.W.nsIn K mainGlobals "ROUND_YEARS" = some (some u_ROUND_YEARS)) (r_ROUND_YEARS : RelV (.int 400) u_ROUND_YEARS)
  (x_NoPaper : PySem.W.nsIn K mainGlobals "NoPaper" = some (some (.ref u_NoPaper)))
  (x_Paper : PySem.W.nsIn K mainGlobals "Paper" = some (some (.ref u_Paper)))
  (pg_Paper : PySem.W.plainGet K u_Paper Str.empty = true)
  (hd_Paper : PySem.W.hasDictIn K u_Paper = true)
  (po_Paper : PySem.W.plainOver K u_Paper = true)
  (sa_Paper : PySem.W.findIn K (.ref u_Paper) "__setattr__" = some (some (.builtin "object.__setattr__")))
  (mk_Paper : PySem.W.makesIn K u_Paper = true)
  (kc_Paper : PySem.W.keepIn K (.ref u_Paper) = true)
  (na_Paper_name : PySem.W.findIn K (.ref u_Paper) "name" = some none)
  (na_Paper_coming : PySem.W.findIn K (.ref u_Paper) "coming" = some none)
  (na_Paper_kind : PySem.W.findIn K (.ref u_Paper) "kind" = some none)
  (na_Paper_makers : PySem.W.findIn K (.ref u_Paper) "makers" = some none)
  (na_Paper_happenings : PySem.W.findIn K (.ref u_Paper) "happenings" = some none)
  (n_abs : PySem.W.nsIn K mainGlobals "abs" = some none)
  (n_all : PySem.W.nsIn K mainGlobals "all" = some none)
  (n_any : PySem.W.nsIn K mainGlobals "any" = some none)
  (n_bool : PySem.W.nsIn K mainGlobals "bool" = some none)
  (n_divmod : PySem.W.nsIn K mainGlobals "divmod" = some none)
  (n_enumerate : PySem.W.nsIn K mainGlobals "enumerate" = some none)
  (n_int : PySem.W.nsIn K mainGlobals "int" = some none)
  (n_isinstance : PySem.W.nsIn K mainGlobals "isinstance" = some none)
  (n_len : PySem.W.nsIn K mainGlobals "len" = some none)
  (n_max : PySem.W.nsIn K mainGlobals "max" = some none)
  (n_min : PySem.W.nsIn K mainGlobals "min" = some none)
  (n_range : PySem.W.nsIn K mainGlobals "range" = some none)
  (n_set : PySem.W.nsIn K mainGlobals "set" = some none)
  (n_sorted : PySem.W.nsIn K mainGlobals "sorted" = some none)
  (n_str : PySem.W.nsIn K mainGlobals "str" = some none)
  (n_sum : PySem.W.nsIn K mainGlobals "sum" = some none)
  (n_tuple : PySem.W.nsIn K mainGlobals "tuple" = some none) : ∃ t : Adr, Txt K mg t := by
 have F0 := fun_mk (st := s_x0) l0 c0 k0
 have F1 := fun_mk (st := s_x1) l1 c1 k1
 have F2 := fun_mk (st := s_x2) l2 c2 k2
 have F3 := fun_mk (st := s_x3) l3 c3 k3
 have F4 := fun_mk (st := s_x4) l4 c4 k4
 have F5 := fun_mk (st := s_x5) l5 c5 k5
 have F6 := fun_mk (st := s_x6) l6 c6 k6
 have F7 := fun_mk (st := s_x7) l7 c7 k7
 have F8 := fun_mk (st := s_x8) l8 c8 k8
 have F9 := fun_mk (st := s_x9) l9 c9 k9
 have F10 := fun_mk (st := s_x10) l10 c10 k10
 have F11 := fun_mk (st := s_x11) l11 c11 k11
 have F12 := fun_mk (st := s_x12) l12 c12 k12
 have F13 := fun_mk (st := s_x13) l13 c13 k13
 have F14 := fun_mk (st := s_x14) l14 c14 k14
 have F15 := fun_mk (st := s_x15) l15 c15 k15
 have F16 := fun_mk (st := s_x16) l16 c16 k16
 have F17 := fun_mk (st := s_x17) l17 c17 k17
 have F18 := fun_mk (st := s_x18) l18 c18 k18
 have F19 := fun_mk (st := s_x19) l19 c19 k19
 have F20 := fun_mk (st := s_x20) l20 c20 k20
 have F21 := fun_mk (st := s_x21) l21 c21 k21
 have F22 := fun_mk (st := s_x22) l22 c22 k22
 have F23 := fun_mk (st := s_x23) l23 c23 k23
 have F24 := fun_mk (st := s_x24) l24 c24 k24
 have F25 := fun_mk (st := s_x25) l25 c25 k25
 have F26 := fun_mk (st := s_x26) l26 c26 k26
 have F27 := fun_mk (st := s_x27) l27 c27 k27
 have F28 := fun_mk (st := s_x28) l28 c28 k28
 have F29 := fun_mk (st := s_x29) l29 c29 k29
 have F30 := fun_mk (st := s_x30) l30 c30 k30
 have F31 := fun_mk (st := s_x31) l31 c31 k31
 have F32 := fun_mk (st := s_x32) l32 c32 k32
 have F33 := fun_mk (st := s_x33) l33 c33 k33
 have F34 := fun_mk (st := s_x34) l34 c34 k34
 have F35 := fun_mk (st := s_x35) l35 c35 k35
 have F36 := fun_mk (st := s_x36) l36 c36 k36
 have F37 := fun_mk (st := s_x37) l37 c37 k37
 have F38 := fun_mk (st := s_x38) l38 c38 k38
 have F39 := fun_mk (st := s_x39) l39 c39 k39
 refine ⟨⟨f0, PySem.W.fnOf "is_leap" "is_leap" (defArgs s_x0) (defBody s_x0) (defScope s_x0) .none kV0 dc0 pm0 an0 cd0 ct0, f1, PySem.W.fnOf "month_length" "month_length" (defArgs s_x1) (defBody s_x1) (defScope s_x1) .none kV1 dc1 pm1 an1 cd1 ct1, f2, PySem.W.fnOf "leaps_before" "leaps_before" (defArgs s_x2) (defBody s_x2) (defScope s_x2) .none kV2 dc2 pm2 an2 cd2 ct2, f3, PySem.W.fnOf "year_start" "year_start" (defArgs s_x3) (defBody s_x3) (defScope s_x3) .none kV3 dc3 pm3 an3 cd3 ct3, f4, PySem.W.fnOf "year_of" "year_of" (defArgs s_x4) (defBody s_x4) (defScope s_x4) .none kV4 dc4 pm4 an4 cd4 ct4, f5, PySem.W.fnOf "parts_of" "parts_of" (defArgs s_x5) (defBody s_x5) (defScope s_x5) .none kV5 dc5 pm5 an5 cd5 ct5, f6, PySem.W.fnOf "number_of" "number_of" (defArgs s_x6) (defBody s_x6) (defScope s_x6) .none kV6 dc6 pm6 an6 cd6 ct6, f7, PySem.W.fnOf "later" "later" (defArgs s_x7) (defBody s_x7) (defScope s_x7) .none kV7 dc7 pm7 an7 cd7 ct7, f8, PySem.W.fnOf "__init__" "Paper.__init__" (defArgs s_x8) (defBody s_x8) (defScope s_x8) .none kV8 dc8 pm8 an8 cd8 ct8, f9, PySem.W.fnOf "place_of" "place_of" (defArgs s_x9) (defBody s_x9) (defScope s_x9) .none kV9 dc9 pm9 an9 cd9 ct9, f10, PySem.W.fnOf "comings" "comings" (defArgs s_x10) (defBody s_x10) (defScope s_x10) .none kV10 dc10 pm10 an10 cd10 ct10, f11, PySem.W.fnOf "coming_of" "coming_of" (defArgs s_x11) (defBody s_x11) (defScope s_x11) .none kV11 dc11 pm11 an11 cd11 ct11, f12, PySem.W.fnOf "papers" "papers" (defArgs s_x12) (defBody s_x12) (defScope s_x12) .none kV12 dc12 pm12 an12 cd12 ct12, f13, PySem.W.fnOf "maker_comings" "maker_comings" (defArgs s_x13) (defBody s_x13) (defScope s_x13) .none kV13 dc13 pm13 an13 cd13 ct13, f14, PySem.W.fnOf "makers" "makers" (defArgs s_x14) (defBody s_x14) (defScope s_x14) .none kV14 dc14 pm14 an14 cd14 ct14, f15, PySem.W.fnOf "happened" "happened" (defArgs s_x15) (defBody s_x15) (defScope s_x15) .none kV15 dc15 pm15 an15 cd15 ct15, f16, PySem.W.fnOf "bases" "bases" (defArgs s_x16) (defBody s_x16) (defScope s_x16) .none kV16 dc16 pm16 an16 cd16 ct16, f17, PySem.W.fnOf "reckonings" "reckonings" (defArgs s_x17) (defBody s_x17) (defScope s_x17) .none kV17 dc17 pm17 an17 cd17 ct17, f18, PySem.W.fnOf "turning_days" "turning_days" (defArgs s_x18) (defBody s_x18) (defScope s_x18) .none kV18 dc18 pm18 an18 cd18 ct18, f19, PySem.W.fnOf "_law_cell" "_law_cell" (defArgs s_x19) (defBody s_x19) (defScope s_x19) .none kV19 dc19 pm19 an19 cd19 ct19, f20, PySem.W.fnOf "_law_numbers" "_law_numbers" (defArgs s_x20) (defBody s_x20) (defScope s_x20) .none kV20 dc20 pm20 an20 cd20 ct20, f21, PySem.W.fnOf "_law_pool" "_law_pool" (defArgs s_x21) (defBody s_x21) (defScope s_x21) .none kV21 dc21 pm21 an21 cd21 ct21, f22, PySem.W.fnOf "_law_first" "_law_first" (defArgs s_x22) (defBody s_x22) (defScope s_x22) .none kV22 dc22 pm22 an22 cd22 ct22, f23, PySem.W.fnOf "_law_lengths" "_law_lengths" (defArgs s_x23) (defBody s_x23) (defScope s_x23) .none kV23 dc23 pm23 an23 cd23 ct23, f24, PySem.W.fnOf "_law_later" "_law_later" (defArgs s_x24) (defBody s_x24) (defScope s_x24) .none kV24 dc24 pm24 an24 cd24 ct24, f25, PySem.W.fnOf "_law_day" "_law_day" (defArgs s_x25) (defBody s_x25) (defScope s_x25) .none kV25 dc25 pm25 an25 cd25 ct25, f26, PySem.W.fnOf "_law_since" "_law_since" (defArgs s_x26) (defBody s_x26) (defScope s_x26) .none kV26 dc26 pm26 an26 cd26 ct26, f27, PySem.W.fnOf "_law_parts" "_law_parts" (defArgs s_x27) (defBody s_x27) (defScope s_x27) .none kV27 dc27 pm27 an27 cd27 ct27, f28, PySem.W.fnOf "_law_quarrel" "_law_quarrel" (defArgs s_x28) (defBody s_x28) (defScope s_x28) .none kV28 dc28 pm28 an28 cd28 ct28, f29, PySem.W.fnOf "_law_deed" "_law_deed" (defArgs s_x29) (defBody s_x29) (defScope s_x29) .none kV29 dc29 pm29 an29 cd29 ct29, f30, PySem.W.fnOf "_law_pools" "_law_pools" (defArgs s_x30) (defBody s_x30) (defScope s_x30) .none kV30 dc30 pm30 an30 cd30 ct30, f31, PySem.W.fnOf "_law_sorts" "_law_sorts" (defArgs s_x31) (defBody s_x31) (defScope s_x31) .none kV31 dc31 pm31 an31 cd31 ct31, f32, PySem.W.fnOf "_law_deeds" "_law_deeds" (defArgs s_x32) (defBody s_x32) (defScope s_x32) .none kV32 dc32 pm32 an32 cd32 ct32, f33, PySem.W.fnOf "_law_row" "_law_row" (defArgs s_x33) (defBody s_x33) (defScope s_x33) .none kV33 dc33 pm33 an33 cd33 ct33, f34, PySem.W.fnOf "_law_order" "_law_order" (defArgs s_x34) (defBody s_x34) (defScope s_x34) .none kV34 dc34 pm34 an34 cd34 ct34, f35, PySem.W.fnOf "_law_reckoning" "_law_reckoning" (defArgs s_x35) (defBody s_x35) (defScope s_x35) .none kV35 dc35 pm35 an35 cd35 ct35, f36, PySem.W.fnOf "_law_turns" "_law_turns" (defArgs s_x36) (defBody s_x36) (defScope s_x36) .none kV36 dc36 pm36 an36 cd36 ct36, f37, PySem.W.fnOf "_law_is" "_law_is" (defArgs s_x37) (defBody s_x37) (defScope s_x37) .none kV37 dc37 pm37 an37 cd37 ct37, f38, PySem.W.fnOf "_law_far" "_law_far" (defArgs s_x38) (defBody s_x38) (defScope s_x38) .none kV38 dc38 pm38 an38 cd38 ct38, f39, PySem.W.fnOf "law" "law" (defArgs s_x39) (defBody s_x39) (defScope s_x39) .none kV39 dc39 pm39 an39 cd39 ct39, .ref A_MONTH_DAYS, u_FIRST_YEAR, u_ROUND_DAYS, u_ROUND_YEARS, u_NoPaper, u_Paper⟩, ?_⟩
 exact ⟨(F0),
  (PySem.W.mg_of X G a0),
  (F0.binds (ps := ["year"]) fun _ _ _ _ _ _ us hl => match us, hl with | [_], _ => rfl),
  (F1),
  (PySem.W.mg_of X G a1),
  (F1.binds (ps := ["year", "month"]) fun _ _ _ _ _ _ us hl => match us, hl with | [_, _], _ => rfl),
  (F2),
  (PySem.W.mg_of X G a2),
  (F2.binds (ps := ["year"]) fun _ _ _ _ _ _ us hl => match us, hl with | [_], _ => rfl),
  (F3),
  (PySem.W.mg_of X G a3),
  (F3.binds (ps := ["year"]) fun _ _ _ _ _ _ us hl => match us, hl with | [_], _ => rfl),
  (F4),
  (PySem.W.mg_of X G a4),
  (F4.binds (ps := ["day"]) fun _ _ _ _ _ _ us hl => match us, hl with | [_], _ => rfl),
  (F5),
  (PySem.W.mg_of X G a5),
  (F5.binds (ps := ["day"]) fun _ _ _ _ _ _ us hl => match us, hl with | [_], _ => rfl),
  (F6),
  (PySem.W.mg_of X G a6),
  (F6.binds (ps := ["year", "month", "day"]) fun _ _ _ _ _ _ us hl => match us, hl with | [_, _, _], _ => rfl),
  (F7),
  (PySem.W.mg_of X G a7),
  (F7.binds (ps := ["day", "many", "unit"]) fun _ _ _ _ _ _ us hl => match us, hl with | [_, _, _], _ => rfl),
  (F8),
  (F8.binds (ps := ["self", "deeds", "name"]) fun _ _ _ _ _ _ us hl => match us, hl with | [_, _, _], _ => rfl),
  (F9),
  (PySem.W.mg_of X G a9),
  (F9.binds (ps := ["deed"]) fun _ _ _ _ _ _ us hl => match us, hl with | [_], _ => rfl),
  (F10),
  (PySem.W.mg_of X G a10),
  (F10.binds (ps := ["deeds"]) fun _ _ _ _ _ _ us hl => match us, hl with | [_], _ => rfl),
  (F11),
  (PySem.W.mg_of X G a11),
  (F11.binds (ps := ["deeds", "paper"]) fun _ _ _ _ _ _ us hl => match us, hl with | [_, _], _ => rfl),
  (F12),
  (PySem.W.mg_of X G a12),
  (F12.binds (ps := ["deeds"]) fun _ _ _ _ _ _ us hl => match us, hl with | [_], _ => rfl),
  (F13),
  (PySem.W.mg_of X G a13),
  (F13.binds (ps := ["deeds", "coming"]) fun _ _ _ _ _ _ us hl => match us, hl with | [_, _], _ => rfl),
  (F14),
  (PySem.W.mg_of X G a14),
  (F14.binds (ps := ["deeds", "paper"]) fun _ _ _ _ _ _ us hl => match us, hl with | [_, _], _ => rfl),
  (F15),
  (PySem.W.mg_of X G a15),
  (F15.binds (ps := ["paper", "happening"]) fun _ _ _ _ _ _ us hl => match us, hl with | [_, _], _ => rfl),
  (F16),
  (PySem.W.mg_of X G a16),
  (F16.binds (ps := ["since", "paper"]) fun _ _ _ _ _ _ us hl => match us, hl with | [_, _], _ => rfl),
  (F17),
  (PySem.W.mg_of X G a17),
  (F17.binds (ps := ["ready", "parts"]) fun _ _ _ _ _ _ us hl => match us, hl with | [_, _], _ => rfl),
  (F18),
  (PySem.W.mg_of X G a18),
  (F18.binds (ps := ["deeds"]) fun _ _ _ _ _ _ us hl => match us, hl with | [_], _ => rfl),
  (F19),
  (PySem.W.mg_of X G a19),
  (F19.binds (ps := ["_law_script", "_law_k"]) fun _ _ _ _ _ _ us hl => match us, hl with | [_, _], _ => rfl),
  (F20),
  (PySem.W.mg_of X G a20),
  (F20.binds (ps := ["_law_cell_here", "_law_many"]) fun _ _ _ _ _ _ us hl => match us, hl with | [_, _], _ => rfl),
  (F21),
  (PySem.W.mg_of X G a21),
  (F21.binds (ps := ["_law_x", "_law_many"]) fun _ _ _ _ _ _ us hl => match us, hl with | [_, _], _ => rfl),
  (F22),
  (PySem.W.mg_of X G a22),
  (F22.binds (ps := ["_law_year"]) fun _ _ _ _ _ _ us hl => match us, hl with | [_], _ => rfl),
  (F23),
  (PySem.W.mg_of X G a23),
  (F23.binds (ps := ["_law_year"]) fun _ _ _ _ _ _ us hl => match us, hl with | [_], _ => rfl),
  (F24),
  (PySem.W.mg_of X G a24),
  (F24.binds (ps := ["_law_day_here", "_law_many", "_law_unit"]) fun _ _ _ _ _ _ us hl => match us, hl with | [_, _, _], _ => rfl),
  (F25),
  (PySem.W.mg_of X G a25),
  (F25.binds (ps := ["_law_x", "_law_far_here"]) fun _ _ _ _ _ _ us hl => match us, hl with | [_, _], _ => rfl),
  (F26),
  (PySem.W.mg_of X G a26),
  (F26.binds (ps := ["_law_x", "_law_words"]) fun _ _ _ _ _ _ us hl => match us, hl with | [_, _], _ => rfl),
  (F27),
  (PySem.W.mg_of X G a27),
  (F27.binds (ps := ["_law_xs", "_law_kinds", "_law_words", "_law_far_here"]) fun _ _ _ _ _ _ us hl => match us, hl with | [_, _, _, _], _ => rfl),
  (F28),
  (PySem.W.mg_of X G a28),
  (F28.binds (ps := ["_law_one", "_law_other"]) fun _ _ _ _ _ _ us hl => match us, hl with | [_, _], _ => rfl),
  (F29),
  (PySem.W.mg_of X G a29),
  (F29.binds (ps := ["_law_sort", "_law_xs", "_law_pools_here", "_law_far_here"]) fun _ _ _ _ _ _ us hl => match us, hl with | [_, _, _, _], _ => rfl),
  (F30),
  (PySem.W.mg_of X G a30),
  (F30.binds (ps := ["_law_x"]) fun _ _ _ _ _ _ us hl => match us, hl with | [_], _ => rfl),
  (F31),
  (PySem.W.mg_of X G a31),
  (F31.binds (ps := []) fun _ _ _ _ _ _ us hl => match us, hl with | [], _ => rfl),
  (F32),
  (PySem.W.mg_of X G a32),
  (F32.binds (ps := ["_law_script", "_law_at", "_law_far_here"]) fun _ _ _ _ _ _ us hl => match us, hl with | [_, _, _], _ => rfl),
  (F33),
  (PySem.W.mg_of X G a33),
  (F33.binds (ps := ["_law_deeds_here", "_law_name"]) fun _ _ _ _ _ _ us hl => match us, hl with | [_, _], _ => rfl),
  (F34),
  (PySem.W.mg_of X G a34),
  (F34.binds (ps := ["_law_deeds_here"]) fun _ _ _ _ _ _ us hl => match us, hl with | [_], _ => rfl),
  (F35),
  (PySem.W.mg_of X G a35),
  (F35.binds (ps := ["_law_deeds_here", "_law_parts_here", "_law_name", "_law_day_here"]) fun _ _ _ _ _ _ us hl => match us, hl with | [_, _, _, _], _ => rfl),
  (F36),
  (PySem.W.mg_of X G a36),
  (F36.binds (ps := ["_law_deeds_here"]) fun _ _ _ _ _ _ us hl => match us, hl with | [_], _ => rfl),
  (F37),
  (PySem.W.mg_of X G a37),
  (F37.binds (ps := ["_law_found", "_law_due"]) fun _ _ _ _ _ _ us hl => match us, hl with | [_, _], _ => rfl),
  (F38),
  (PySem.W.mg_of X G a38),
  (F38.binds (ps := ["_law_script", "_law_at"]) fun _ _ _ _ _ _ us hl => match us, hl with | [_, _], _ => rfl),
  (F39),
  (PySem.W.mg_of X G a39),
  (F39.binds (ps := ["_law_script"]) fun _ _ _ _ _ _ us hl => match us, hl with | [_], _ => rfl),
  (fun s v => .of_eq rfl),
  (PySem.W.mg_of X G x_MONTH_DAYS),
  (⟨A_MONTH_DAYS, rfl, fun H => .inr ⟨_, _, _, y_MONTH_DAYS, rfl, rfl, w_MONTH_DAYS, z_MONTH_DAYS⟩⟩),
  (PySem.W.mg_of X G x_FIRST_YEAR),
  (r_FIRST_YEAR),
  (PySem.W.mg_of X G x_ROUND_DAYS),
  (r_ROUND_DAYS),
  (PySem.W.mg_of X G x_ROUND_YEARS),
  (r_ROUND_YEARS),
  (PySem.W.mg_of X G x_NoPaper),
  (PySem.W.mg_of X G x_Paper),
  (⟨pg_Paper, hd_Paper, po_Paper, sa_Paper⟩),
  (⟨mk_Paper, a8, i8, kc_Paper⟩),
  (na_Paper_name),
  (na_Paper_coming),
  (na_Paper_kind),
  (na_Paper_makers),
  (na_Paper_happenings),
  (PySem.W.mg_none_of X G n_abs),
  (PySem.W.mg_none_of X G n_all),
  (PySem.W.mg_none_of X G n_any),
  (PySem.W.mg_none_of X G n_bool),
  (PySem.W.mg_none_of X G n_divmod),
  (PySem.W.mg_none_of X G n_enumerate),
  (PySem.W.mg_none_of X G n_int),
  (PySem.W.mg_none_of X G n_isinstance),
  (PySem.W.mg_none_of X G n_len),
  (PySem.W.mg_none_of X G n_max),
  (PySem.W.mg_none_of X G n_min),
  (PySem.W.mg_none_of X G n_range),
  (PySem.W.mg_none_of X G n_set),
  (PySem.W.mg_none_of X G n_sorted),
  (PySem.W.mg_none_of X G n_str),
  (PySem.W.mg_none_of X G n_sum),
  (PySem.W.mg_none_of X G n_tuple)⟩
end K19

open PySem L2
local macro_rules | `(tactic| walk_at "o") => `(tactic| first | exact Or.inl rfl | exact Or.inr rfl)
local macro_rules | `(tactic| walk_at "rd") => `(tactic| simp only [tSeq, tNext, tIfS, tRet, tDrop, tAsg, gName, tVar, tC, tOp, tUn, rI, rI0, rU, rEq, rNe, scal, tTest, tB, tAnd, tOr, tNot, tAndV, tOrV, tNotV, tIf, tCall, tCons, tNil, tCB, tTup, tLst, gTup, gCons, gNil, tFor_rng1, tFor_rng2, tFor_list, tFor_tup, tComp_rng1, tComp_rng2, tComp_list, tComp_tup, CDiv, CPow, CMul, L2.start, List.map_cons, List.map_nil, List.length_cons, List.length_nil, List.replicate, List.cons_append, List.nil_append, List.append_nil, Nat.reduceAdd, Nat.reduceSub, Nat.add_zero, Nat.zero_add, Nat.sub_self, List.getElem?_cons_zero, List.getElem?_cons_succ, List.set_cons_zero, List.set_cons_succ, Option.some.injEq, exists_eq_left', exists_eq_left, exists_and_left, exists_and_right, V.int.injEq, V.bl.injEq, V.str.injEq, V.ref.injEq, List.cons.injEq, and_true, true_and, Nat.reduceLT, exists_const, decide_eq_true_eq, Int.reduceLT, Int.reduceLE, Int.reduceNeg, Int.reducePow, Bool.not_eq_true', decide_eq_false_iff_not, and_assoc, st0, Option.join_some, List.getElem?_nil, Option.join_none, L2.cxK, L2.cmK, or_true, true_or])
namespace K19
open Day
theorem cs_x6_0 : CompScope (defScope s_x6) ["year", "month", "day", "before"] ["other", "year"] 1 [0] { kind := PySem.ScopeKind.function, names := [ (PySem.Str.ofString ".0", PySem.NameKind.local), (PySem.Str.ofString "other", PySem.NameKind.local), (PySem.Str.ofString "month_length", PySem.NameKind.globalImplicit), (PySem.Str.ofString "year", PySem.NameKind.free)], isGenerator := false, isCoroutine := false, more := [] : PySem.Scope } := ⟨rfl, by decide +kernel, by decide +kernel, by decide +kernel, rfl, by decide +kernel, by decide +kernel, by decide +kernel, rfl⟩
section
variable {P : Program} {w : World} {K : PySem.W.Frag} {mg : Str → Option Value} {base : Heap} {t : Adr}
def sp_leap : Sp := fun vs H Q _ => ∃ (y : Int), vs = [.int y] ∧ Q (.bl (leap y)) H
theorem ok_is_leap (T : Txt K mg t) : FnOk P w K mg base CX0 1 t.a_x0 t.d_x0 ["year"] sp_leap := by
 refine T.F_x0.ok sc_x0 (fun vs H Q E h => ?_) (fun cdv A outer s H vs Q E hr h => ?_)
 ·obtain ⟨y, rfl, _⟩ := h; rfl
 ·obtain ⟨y, rfl, k⟩ := h
  refine ⟨_, (pss_one (ps_ret (pe_or (pe_cmpR op_eq (pe_op op_mod (pv 0) pe_int) pe_int (nomark _)) (pe_one (pe_and (pe_cmpR op_eq (pe_op op_mod (pv 0) pe_int) pe_int (nomark _)) (pe_one (pe_cmpR op_ne (pe_op op_mod (pv 0) pe_int) pe_int (nomark _)))))))), ?_⟩
  walk_at "rd"
  have e : leap y = (decide (y % 400 = 0) || (decide (y % 4 = 0) && !decide (y % 100 = 0))) := rfl
  rw [e] at k
  by_cases h1 : y % 400 = 0
  ·simpa [h1] using k
  ·by_cases h2 : y % 4 = 0
   ·simpa [h1, h2] using k
   ·simpa [h1, h2] using k
def sp_mlen : Sp := fun vs H Q _ => ∃ (y m : Int), vs = [.int y, .int m] ∧ 1 ≤ m ∧ m ≤ 12 ∧ Q (.int (mlen y m)) H
theorem ok_month_length (T : Txt K mg t) : FnOk P w K mg base CX0 2 t.a_x1 t.d_x1 ["year", "month"] sp_mlen := by
 have G_x0 := ok_is_leap (P := P) (w := w) (base := base) T
 refine T.F_x1.ok sc_x1 (fun vs H Q E h => ?_) (fun cdv A outer s H vs Q E hr h => ?_)
 ·obtain ⟨y, m, rfl, _⟩ := h; rfl
 ·obtain ⟨y, m, rfl, h1, h2, k⟩ := h
  obtain ⟨a, ea, hM⟩ := T.e_MONTH_DAYS
  have T_r : RelV (.ref a) t.u_MONTH_DAYS := ea
  refine ⟨_, (pss_cons (ps_if (PW.pt (pw_and (pt_cmpR op_eq (pv 1) pe_int (nomark _)) (pw_and1 (pt_val (pe_call G_x0 (hr.mono (by decide)) rfl T.m_x0 T.F_x0.kp T.b_x0 .nil pass0 (pa_cons (pv 0) pa_nil)))))) (pss_one (ps_ret pe_int)) pss_nil)
   (pss_one (ps_ret (pe_ix ix_tup (pe_glob rfl T.c_MONTH_DAYS T_r) (pe_op op_sub (pv 1) pe_int) (fun _ _ => rfl))))), ?_⟩
  walk_at "rd"
  simp only [sp_leap]
  walk_at "rd"
  have fin : ∀ {v : Int}, v = mlen y m → Q (.int v) H := fun e => by rw [e]; exact k
  have tail : mlen y m = mdays.getD (m - 1).toNat 0 → rIxT K (.ref a) (.int (m - 1)) H Q := fun e => by
   refine ⟨a, _, m - 1, .int (mlen y m), rfl, rfl, hM H, ?_, k⟩
   rw [e]
   rcases twelve h1 h2 with z | z | z | z | z | z | z | z | z | z | z | z <;> subst z <;> rfl
  by_cases hm : m = 2
  ·rw [if_pos hm]
   by_cases hl : leap y = true
   ·rw [if_pos hl]
    exact fin (by unfold mlen; rw [if_pos ⟨hm, hl⟩])
   ·rw [if_neg hl]
    exact tail (by unfold mlen; rw [if_neg (fun z => hl z.2)])
  ·rw [if_neg hm]
   exact tail (mlen_ne hm)
def sp_lb : Sp := fun vs H Q _ => ∃ (y : Int), vs = [.int y] ∧ Q (.int (lb y)) H
theorem ok_leaps_before (T : Txt K mg t) : FnOk P w K mg base CX0 1 t.a_x2 t.d_x2 ["year"] sp_lb := by
 refine T.F_x2.ok sc_x2 (fun vs H Q E h => ?_) (fun cdv A outer s H vs Q E hr h => ?_)
 ·obtain ⟨y, rfl, _⟩ := h; rfl
 ·obtain ⟨y, rfl, k⟩ := h
  refine ⟨_, (pss_cons (ps_set (i := 1) sc_x2.nd rfl (by walk_at "o") (pe_op op_sub (pv 0) pe_int))
   (pss_one (ps_ret (pe_op op_add (pe_op op_sub (pe_op op_fdiv (pv 1) pe_int) (pe_op op_fdiv (pv 1) pe_int)) (pe_op op_fdiv (pv 1) pe_int))))), ?_⟩
  walk_at "rd"
  exact k
def sp_ys : Sp := fun vs H Q _ => ∃ (y : Int), vs = [.int y] ∧ Q (.int (ystart y)) H
theorem ok_year_start (T : Txt K mg t) : FnOk P w K mg base CX0 2 t.a_x3 t.d_x3 ["year"] sp_ys := by
 have G_x2 := ok_leaps_before (P := P) (w := w) (base := base) T
 refine T.F_x3.ok sc_x3 (fun vs H Q E h => ?_) (fun cdv A outer s H vs Q E hr h => ?_)
 ·obtain ⟨y, rfl, _⟩ := h; rfl
 ·obtain ⟨y, rfl, k⟩ := h
  refine ⟨_, (pss_one (ps_ret (pe_op op_sub (pe_op op_add (pe_op op_mul pe_int (pe_op op_sub (pv 0) (pe_glob rfl T.c_FIRST_YEAR T.r_FIRST_YEAR))) (pe_call G_x2 (hr.mono (by decide)) rfl T.m_x2 T.F_x2.kp T.b_x2 .nil pass0 (pa_cons (pv 0) pa_nil))) (pe_call G_x2 (hr.mono (by decide)) rfl T.m_x2 T.F_x2.kp T.b_x2 .nil pass0 (pa_cons (pe_glob rfl T.c_FIRST_YEAR T.r_FIRST_YEAR) pa_nil))))), ?_⟩
  walk_at "rd"
  simp only [sp_lb]
  walk_at "rd"
  exact k
def sp_yof : Sp := fun vs H Q _ => ∃ (d : Int), vs = [.int d] ∧ Q (.int (yearOf d)) H
theorem ok_year_of (T : Txt K mg t) : FnOk P w K mg base CX0 3 t.a_x4 t.d_x4 ["day"] sp_yof := by
 have G_x3 := ok_year_start (P := P) (w := w) (base := base) T
 refine T.F_x4.ok sc_x4 (fun vs H Q E h => ?_) (fun cdv A outer s H vs Q E hr h => ?_)
 ·obtain ⟨d, rfl, _⟩ := h; rfl
 ·obtain ⟨d, rfl, k⟩ := h
  refine ⟨_, (pss_cons (ps_set (i := 1) sc_x4.nd rfl (by walk_at "o") (pe_op op_add (pe_glob rfl T.c_FIRST_YEAR T.r_FIRST_YEAR) (pe_op op_fdiv (pe_op op_mul (pv 0) (pe_glob rfl T.c_ROUND_YEARS T.r_ROUND_YEARS)) (pe_glob rfl T.c_ROUND_DAYS T.r_ROUND_DAYS))))
   (pss_cons (ps_if (pt_cmpR op_gt (pe_call G_x3 (hr.mono (by decide)) rfl T.m_x3 T.F_x3.kp T.b_x3 .nil pass0 (pa_cons (pv 1) pa_nil)) (pv 0) (nomark _)) (pss_one (ps_ret (pe_op op_sub (pv 1) pe_int))) pss_nil)
   (pss_cons (ps_if (pt_cmpR op_le (pe_call G_x3 (hr.mono (by decide)) rfl T.m_x3 T.F_x3.kp T.b_x3 .nil pass0 (pa_cons (pe_op op_add (pv 1) pe_int) pa_nil)) (pv 0) (nomark _)) (pss_one (ps_ret (pe_op op_add (pv 1) pe_int))) pss_nil)
   (pss_one (ps_ret (pv 1)))))), ?_⟩
  walk_at "rd"
  simp only [sp_ys]
  walk_at "rd"
  unfold yearOf at k
  split
  ·rename_i h; rw [if_pos h] at k; exact k
  ·rename_i h; rw [if_neg h] at k
   split
   ·rename_i h; rw [if_pos h] at k; exact k
   ·rename_i h; rw [if_neg h] at k; exact k
def sp_parts : Sp := fun vs H Q _ => ∃ (d : Int), vs = [.int d] ∧ ∀ (p : Addr) (H' : Hp) (y m n : Int), DateOf d y m n → Same H H' → H p = none → H' p = some (.tup [.int y, .int m, .int n]) → Q (.ref p) H'
theorem ok_parts_of (T : Txt K mg t) : FnOk P w K mg base CX0 4 t.a_x5 t.d_x5 ["day"] sp_parts := by
 have G_x4 := ok_year_of (P := P) (w := w) (base := base) T
 have G_x3 := ok_year_start (P := P) (w := w) (base := base) T
 have G_x1 := ok_month_length (P := P) (w := w) (base := base) T
 refine T.F_x5.ok sc_x5 (fun vs H Q E h => ?_) (fun cdv A outer s H vs Q E hr h => ?_)
 ·obtain ⟨d, rfl, _⟩ := h; rfl
 ·obtain ⟨d, rfl, k⟩ := h
  refine ⟨_, (pss_cons (ps_set (i := 1) sc_x5.nd rfl (by walk_at "o") (pe_call G_x4 (hr.mono (by decide)) rfl T.m_x4 T.F_x4.kp T.b_x4 .nil pass0 (pa_cons (pv 0) pa_nil)))
   (pss_cons (ps_set (i := 2) sc_x5.nd rfl (by walk_at "o") (pe_op op_sub (pv 0) (pe_call G_x3 (hr.mono (by decide)) rfl T.m_x3 T.F_x3.kp T.b_x3 .nil pass0 (pa_cons (pv 1) pa_nil))))
   (pss_cons (ps_set (i := 3) sc_x5.nd rfl (by walk_at "o") pe_int)
   (pss_cons (ps_while PassesOwn.never (pt_cmpR op_ge (pv 2) (pe_call G_x1 (hr.mono (by decide)) rfl T.m_x1 T.F_x1.kp T.b_x1 .nil pass0 (pa_cons (pv 1) (pa_cons (pv 3) pa_nil))) (nomark _)) (pss_cons (ps_set (i := 2) sc_x5.nd rfl (by walk_at "o") (pe_op op_sub (pv 2) (pe_call G_x1 (hr.mono (by decide)) rfl T.m_x1 T.F_x1.kp T.b_x1 .nil pass0 (pa_cons (pv 1) (pa_cons (pv 3) pa_nil)))))
   (pss_one (ps_set (i := 3) sc_x5.nd rfl (by walk_at "o") (pe_op op_add (pv 3) pe_int)))))
   (pss_one (ps_ret (pe_tup (pa_cons (pv 1) (pa_cons (pv 3) (pa_cons (pe_op op_add (pv 2) pe_int) pa_nil)))))))))), ?_⟩
  walk_at "rd"
  simp only [sp_yof]
  walk_at "rd"
  simp only [sp_ys]
  walk_at "rd"
  have yo := yearOf_ok d
  generalize yearOf d = y at *
  refine ⟨fun m σ H' => H' = H ∧ ∃ mo : Int, 1 ≤ mo ∧ mo ≤ 12 ∧ bef y mo ≤ d - ystart y ∧ m = (12 - mo).toNat ∧ σ = [some (.int d), some (.int y), some (.int (d - ystart y - bef y mo)), some (.int mo)], ⟨11, rfl, 1, by decide, by decide, ?_, rfl, ?_⟩, ?_⟩
  ·rw [bef_1]; omega
  ·rw [bef_1]; simp
  ·rintro m σ H' ⟨rfl, mo, h1, h2, hb, rfl, rfl⟩
   walk_at "rd"
   simp only [sp_mlen]
   walk_at "rd"
   refine ⟨h1, h2, ?_⟩
   have ys := ystart_succ y
   have ba := bef_bd (y := y) h1 h2
   split
   ·rename_i hge
    have lt12 : mo < 12 := by
     by_cases z : mo < 12
     ·exact z
     ·have e : mo = 12 := by omega
      subst e
      have := (bef_all y); have := mlen_all y; omega
    refine ⟨_, fun _ _ h => h, h1, h2, (12 - (mo + 1)).toNat, by omega, rfl, mo + 1, by omega, by omega, ?_, rfl, ?_⟩
    ·rw [bef_succ h1]; omega
    ·rw [bef_succ h1, show d - ystart y - (bef y mo + mlen y mo) = d - ystart y - bef y mo - mlen y mo by omega]
   ·rename_i hlt
    refine ⟨by show 3 ≤ sizeLine; decide, fun p hp => ?_⟩
    refine k p _ y mo (d - ystart y - bef y mo + 1) ⟨h1, h2, by omega, by omega, by unfold num; omega⟩ (Same.new hp) hp upd_same
def sp_num : Sp := fun vs H Q _ => ∃ (y m n : Int), vs = [.int y, .int m, .int n] ∧ 1 ≤ m ∧ m ≤ 12 ∧ ∀ H', Same H H' → Q (.int (num y m n)) H'
theorem ok_number_of (T : Txt K mg t) : FnOk P w K mg base CX0 3 t.a_x6 t.d_x6 ["year", "month", "day"] sp_num := by
 have G_x3 := ok_year_start (P := P) (w := w) (base := base) T
 have G_x1 := ok_month_length (P := P) (w := w) (base := base) T
 refine T.F_x6.ok sc_x6 (fun vs H Q E h => ?_) (fun cdv A outer s H vs Q E hr h => ?_)
 ·obtain ⟨y, m, n, rfl, _⟩ := h; rfl
 ·obtain ⟨y, m, n, rfl, h1, h2, k⟩ := h
  refine ⟨_, (pss_cons (ps_set (i := 3) sc_x6.nd rfl (by walk_at "o") (pe_callB (call_sum rfl) rfl T.n_sum PyProof.Rows.boot_sum (pa_cons (pe_comp rfl cs_x6_0 (pi_range2 rfl T.n_range (pa_cons pe_int (pa_cons (pv 1) pa_nil))) (fun _ _ _ _ => (pg_name (i := 0) cs_x6_0.nd rfl (by walk_at "o"))) (fun _ _ _ _ => pf_nil) (fun _ _ _ _ => (pe_call G_x1 (hr.mono (by decide)) rfl T.m_x1 T.F_x1.kp T.b_x1 .nil pass0 (pa_cons (pv 1) (pa_cons (pv 0) pa_nil))))) pa_nil)))
   (pss_one (ps_ret (pe_op op_sub (pe_op op_add (pe_op op_add (pe_call G_x3 (hr.mono (by decide)) rfl T.m_x3 T.F_x3.kp T.b_x3 .nil pass0 (pa_cons (pv 0) pa_nil)) (pv 3)) (pv 2)) pe_int)))), ?_⟩
  walk_at "rd"
  refine ⟨by omega, by omega, ?_⟩
  refine comp_range (fun i => .int (mlen y (1 + (i : Int)))) (by omega) (fun i H' R hi s1 hR => ?_) (fun D H' hD s1 e1 => ?_)
  ·walk_at "rd"
   exact ⟨_, _, rfl, by omega, by omega, hR H' (Same.refl _)⟩
  ·refine ⟨D, rfl, (List.range (m - 1).toNat).map fun (i : Nat) => mlen y (1 + (i : Int)), SqL.of (by rw [e1, List.map_map]; rfl), ?_⟩
   simp only [sp_ys]
   walk_at "rd"
   exact k H' s1
def Unit3 (u : Str) : Prop := u = "days" ∨ u = "months" ∨ u = "years"
def LaterIs (d k : Int) (u : Str) (r : Int) : Prop := (u = "days" ∧ r = d + k) ∨ (u = "months" ∧ ∃ y m n, DateOf d y m n ∧ r = mon y m n k) ∨ (u = "years" ∧ ∃ y m n, DateOf d y m n ∧ r = mon y m n (k * 12))
theorem ndm : ¬ (("months" : Str) = "days") := by decide +kernel
theorem ndy : ¬ (("years" : Str) = "days") := by decide +kernel
theorem nmy : ¬ (("months" : Str) = "years") := by decide +kernel
def sp_later : Sp := fun vs H Q _ => ∃ (d k : Int) (u : Str), vs = [.int d, .int k, .str u] ∧ Unit3 u ∧ ∀ r H', LaterIs d k u r → Same H H' → Q (.int r) H'
theorem ok_later (T : Txt K mg t) : FnOk P w K mg base CX0 5 t.a_x7 t.d_x7 ["day", "many", "unit"] sp_later := by
 have G_x5 := ok_parts_of (P := P) (w := w) (base := base) T
 have G_x1 := ok_month_length (P := P) (w := w) (base := base) T
 have G_x6 := ok_number_of (P := P) (w := w) (base := base) T
 refine T.F_x7.ok sc_x7 (fun vs H Q E h => ?_) (fun cdv A outer s H vs Q E hr h => ?_)
 ·obtain ⟨d, k, u, rfl, _⟩ := h; rfl
 ·obtain ⟨d, mk, u, rfl, hu, k⟩ := h
  refine ⟨_, (pss_cons (ps_if (pt_cmpR op_eq (pv 2) pe_str (nomark _)) (pss_one (ps_ret (pe_op op_add (pv 0) (pv 1)))) pss_nil)
   (pss_cons (ps_set (i := 3) sc_x7.nd rfl (by walk_at "o") (pe_ifExp (pt_cmpR op_eq (pv 2) pe_str (nomark _)) (pe_op op_mul (pv 1) pe_int) (pv 1)))
   (pss_cons (ps_set (i := 4) sc_x7.nd rfl (by walk_at "o") (pe_call G_x5 (hr.mono (by decide)) rfl T.m_x5 T.F_x5.kp T.b_x5 .nil pass0 (pa_cons (pv 0) pa_nil)))
   (pss_cons (ps_set (i := 5) sc_x7.nd rfl (by walk_at "o") (pe_op op_add (pe_op op_sub (pe_op op_add (pe_op op_mul (pe_ix ix_tup (pv 4) pe_int (fun _ _ => rfl)) pe_int) (pe_ix ix_tup (pv 4) pe_int (fun _ _ => rfl))) pe_int) (pv 3)))
   (pss_cons (ps_set (i := 6) sc_x7.nd rfl (by walk_at "o") (pe_op op_fdiv (pv 5) pe_int))
   (pss_cons (ps_set (i := 7) sc_x7.nd rfl (by walk_at "o") (pe_op op_add (pe_op op_mod (pv 5) pe_int) pe_int))
   (pss_one (ps_ret (pe_call G_x6 (hr.mono (by decide)) rfl T.m_x6 T.F_x6.kp T.b_x6 .nil pass0 (pa_cons (pv 6) (pa_cons (pv 7) (pa_cons (pe_callB (call_min2 rfl) rfl T.n_min PyProof.Rows.boot_min (pa_cons (pe_ix ix_tup (pv 4) pe_int (fun _ _ => rfl)) (pa_cons (pe_call G_x1 (hr.mono (by decide)) rfl T.m_x1 T.F_x1.kp T.b_x1 .nil pass0 (pa_cons (pv 6) (pa_cons (pv 7) pa_nil))) pa_nil))) pa_nil)))))))))))), ?_⟩
  walk_at "rd"
  by_cases hd : u = "days"
  ·rw [if_pos hd]
   exact k _ H (.inl ⟨hd, rfl⟩) (Same.refl _)
  ·rw [if_neg hd]
   by_cases hy : u = "years"
   ·rw [if_pos hy]
    refine ⟨d, rfl, fun p H' y m n D s1 _ e1 => ?_⟩
    refine ixT (SqT.of e1) rfl ⟨y, rfl, ixT (SqT.of e1) rfl ⟨m, rfl, ixT (SqT.of e1) rfl ?_⟩⟩
    refine ⟨_, _, rfl, by omega, by omega, n, rfl, _, rfl, _, _, _, rfl, by omega, by omega, fun H2 s2 => ?_⟩
    exact k _ H2 (.inr (.inr ⟨hy, y, m, n, D, by unfold mon; rw [min_if]⟩)) (s1.trans s2)
   ·rw [if_neg hy]
    have hm : u = "months" := by rcases hu with z | z | z; exact absurd z hd; exact z; exact absurd z hy
    refine ⟨d, rfl, fun p H' y m n D s1 _ e1 => ?_⟩
    refine ixT (SqT.of e1) rfl ⟨y, rfl, ixT (SqT.of e1) rfl ⟨m, rfl, ixT (SqT.of e1) rfl ?_⟩⟩
    refine ⟨_, _, rfl, by omega, by omega, n, rfl, _, rfl, _, _, _, rfl, by omega, by omega, fun H2 s2 => ?_⟩
    exact k _ H2 (.inr (.inl ⟨hm, y, m, n, D, by unfold mon; rw [min_if]⟩)) (s1.trans s2)
def F_x7 : List PyData → (PyData → Prop) → Prop := fun ds Q => ∃ (d i : Int) (u : Str), ds = [.int d, .int i, .str u] ∧ Unit3 u ∧ ∀ r, LaterIs d i u r → Q (.int r)
theorem okd_later (T : Txt K mg t) : FnOk P w K mg base CX0 5 t.a_x7 t.d_x7 ["day", "many", "unit"] (spD K F_x7) :=
 (ok_later T).imp fun vs H Q E ⟨O, ds, Qd, tr, hs, ⟨d, i, u, e, hu, q⟩, k⟩ => by
  subst e
  cases hs with
  | cons a r => cases r with
   | cons b r => cases r with
    | cons c r => cases r; cases a; cases b; cases c; exact ⟨d, i, u, rfl, hu, fun z H' L s1 => k _ _ H' (q z L) s1 (.int _)⟩
end
end K19

open PySem L2
namespace K19
structure Pp where
 d : Int
 nm : Str
 kd : Str
 ms : List Str
def Pp.enc (p : Pp) : PyData := .tuple [.str (Str.ofString "paper"), .int p.d, .str p.nm, .str p.kd, .tuple (p.ms.map .str)]
def Pp.key (p : Pp) : Int × Str := (p.d, p.nm)
def kfP : PyData → Int × Str
 | .tuple (_ :: .int d :: .str n :: _) => (d, n)
 | _ => (0, Str.ofString "")
def Pp.lt (a b : Pp) : Prop := ltP a.key b.key = true
instance (a b : Pp) : Decidable (a.lt b) := by unfold Pp.lt; infer_instance
theorem ltP_irr (p : Int × Str) : ltP p p = false := by unfold ltP; simp [List.lt_irrefl]
theorem ltP_tr {a b c : Int × Str} (h1 : ltP a b = true) (h2 : ltP b c = true) : ltP a c = true := by
 unfold ltP at h1 h2 ⊢
 simp only [Bool.or_eq_true, Bool.and_eq_true, decide_eq_true_eq] at h1 h2 ⊢
 rcases h1 with h1 | ⟨h1, h1'⟩ <;> rcases h2 with h2 | ⟨h2, h2'⟩
 ·left; omega
 ·left; omega
 ·left; omega
 ·right; exact ⟨h1.trans h2, List.lt_trans h1' h2'⟩
theorem ltP_asym {a b : Int × Str} (h : ltP a b = true) : ¬ ltP b a = true := fun z => by
 have := ltP_tr h z
 rw [ltP_irr] at this; cases this
theorem ltP_tot {a b : Int × Str} (h : a ≠ b) : ltP a b = true ∨ ltP b a = true := by
 have T := ltP_strict (n := 2) (kp := fun i => if i = 0 then a else b) (fun i j hi hj e => by
  have : i = 0 ∨ i = 1 := by omega
  have : j = 0 ∨ j = 1 := by omega
  rcases ‹i = 0 ∨ i = 1› with rfl | rfl <;> rcases ‹j = 0 ∨ j = 1› with rfl | rfl
  ·rfl
  ·exact absurd e h
  ·exact absurd e.symm h
  ·rfl)
 have := T.tot 0 1 (by omega) (by omega) (by omega)
 simp at this
 cases hb : ltP b a with
 | true => exact .inr rfl
 | false => rw [hb] at this; exact .inl (by simpa using this)
theorem Pp.lt_tr {a b c : Pp} (h1 : a.lt b) (h2 : b.lt c) : a.lt c := ltP_tr h1 h2
theorem rising_uniq {α : Type} {r : α → α → Prop} (as : ∀ a b, r a b → ¬ r b a) : ∀ {l1 l2 : List α}, l1.Perm l2 → l1.Pairwise r → l2.Pairwise r → l1 = l2
 | [], l2, p, _, _ => by rw [p.nil_eq]
 | a :: l1, [], p, _, _ => by have := p.length_eq; simp at this
 | a :: l1, b :: l2, p, h1, h2 => by
  have e : a = b := by
   have m1 : a ∈ b :: l2 := p.mem_iff.mp (by simp)
   have m2 : b ∈ a :: l1 := p.mem_iff.mpr (by simp)
   rcases List.mem_cons.mp m1 with e | m1
   ·exact e
   ·rcases List.mem_cons.mp m2 with e | m2
    ·exact e.symm
    ·exact absurd ((List.pairwise_cons.mp h1).1 b m2) (as _ _ ((List.pairwise_cons.mp h2).1 a m1))
  subst e
  rw [rising_uniq as ((List.perm_cons a).mp p) (List.pairwise_cons.mp h1).2 (List.pairwise_cons.mp h2).2]
def insP (x : Pp) : List Pp → List Pp
 | [] => [x]
 | y :: l => if x.lt y then x :: y :: l else y :: insP x l
def ordP (ps : List Pp) : List Pp := ps.foldr insP []
theorem insP_perm (x : Pp) : ∀ l, (insP x l).Perm (x :: l)
 | [] => .refl _
 | y :: l => by
  unfold insP
  split
  ·exact .refl _
  ·exact ((insP_perm x l).cons y).trans (.swap x y l)
theorem ordP_perm : ∀ ps : List Pp, (ordP ps).Perm ps
 | [] => .refl _
 | x :: ps => (insP_perm x (ordP ps)).trans ((ordP_perm ps).cons x)
theorem insP_pw {x : Pp} : ∀ {l : List Pp}, (∀ y ∈ l, y.nm ≠ x.nm) → l.Pairwise Pp.lt → (insP x l).Pairwise Pp.lt
 | [], _, _ => List.pairwise_singleton _ _
 | y :: l, hn, h => by
  have hp := List.pairwise_cons.mp h
  unfold insP
  split
  ·rename_i hl
   refine List.pairwise_cons.mpr ⟨fun z hz => ?_, h⟩
   rcases List.mem_cons.mp hz with e | e
   ·subst e; exact hl
   ·exact Pp.lt_tr hl (hp.1 z e)
  ·rename_i hl
   refine List.pairwise_cons.mpr ⟨fun z hz => ?_, insP_pw (fun z hz => hn z (by simp [hz])) hp.2⟩
   rcases List.mem_cons.mp ((insP_perm x l).mem_iff.mp hz) with e | e
   ·subst e
    rcases ltP_tot (a := y.key) (b := z.key) (fun z => hn y (by simp) (congrArg Prod.snd z)) with w | w
    ·exact w
    ·exact absurd w hl
   ·exact hp.1 z e
theorem ordP_pw : ∀ {ps : List Pp}, (ps.map (·.nm)).Nodup → (ordP ps).Pairwise Pp.lt
 | [], _ => .nil
 | x :: ps, h => by
  rw [List.map_cons, List.nodup_cons] at h
  exact insP_pw (fun y hy e => h.1 (by rw [← e]; exact List.mem_map.mpr ⟨y, (ordP_perm ps).mem_iff.mp hy, rfl⟩)) (ordP_pw h.2)
theorem ordP_mem {ps : List Pp} {x : Pp} : x ∈ ordP ps ↔ x ∈ ps := (ordP_perm ps).mem_iff
theorem ordP_len {ps : List Pp} : (ordP ps).length = ps.length := (ordP_perm ps).length_eq
theorem nd_filter {ps : List Pp} {f : Pp → Bool} (nd : (ps.map (·.nm)).Nodup) : ((ps.filter f).map (·.nm)).Nodup := nd.sublist (List.filter_sublist.map _)
theorem ordP_data {ps : List Pp} {ds : List PyData} (nd : (ps.map (·.nm)).Nodup) (hp : ds.Perm (ps.map Pp.enc)) (hs : ds.Pairwise fun a b => ltP (kfP a) (kfP b) = true) : ds = (ordP ps).map Pp.enc := by
 refine rising_uniq (fun a b h => ltP_asym h) (hp.trans ((ordP_perm ps).symm.map _)) hs ?_
 rw [List.pairwise_map]
 exact ordP_pw nd
theorem ordP_pairs {ps : List Pp} {ds : List (Int × Str)} (nd : (ps.map (·.nm)).Nodup) (hp : ds.Perm (ps.map Pp.key)) (hs : ds.Pairwise fun a b => ltP a b = true) : ds = (ordP ps).map Pp.key := by
 refine rising_uniq (fun a b h => ltP_asym h) (hp.trans ((ordP_perm ps).symm.map _)) hs ?_
 rw [List.pairwise_map]
 exact ordP_pw nd
theorem uniq_nm {ps : List Pp} (nd : (ps.map (·.nm)).Nodup) {a b : Pp} (ha : a ∈ ps) (hb : b ∈ ps) (e : a.nm = b.nm) : a = b := by
 induction ps with
 | nil => cases ha
 | cons x ps ih =>
  rw [List.map_cons, List.nodup_cons] at nd
  rcases List.mem_cons.mp ha with ea | ha1 <;> rcases List.mem_cons.mp hb with eb | hb1
  ·rw [ea, eb]
  ·subst ea; exact absurd (List.mem_map.mpr ⟨b, hb1, e.symm⟩) nd.1
  ·subst eb; exact absurd (List.mem_map.mpr ⟨a, ha1, e⟩) nd.1
  ·exact ih nd.2 ha1 hb1
structure GoodP (ps : List Pp) : Prop where
 ln : ps.length ≤ 41
 nd : (ps.map (·.nm)).Nodup
 nm : ∀ p ∈ ps, PyData.strOk p.nm = true
 kd : ∀ p ∈ ps, PyData.strOk p.kd = true
 ms : ∀ p ∈ ps, (∀ m ∈ p.ms, PyData.strOk m = true) ∧ p.ms.length ≤ 50
theorem GoodP.perm {ps qs : List Pp} (g : GoodP ps) (h : qs.Perm ps) : GoodP qs :=
 ⟨by rw [h.length_eq]; exact g.ln, (h.map _).nodup_iff.mpr g.nd, fun p hp => g.nm p (h.mem_iff.mp hp), fun p hp => g.kd p (h.mem_iff.mp hp), fun p hp => g.ms p (h.mem_iff.mp hp)⟩
theorem GoodP.filter {ps : List Pp} (g : GoodP ps) (f : Pp → Bool) : GoodP (ps.filter f) :=
 ⟨Nat.le_trans (List.length_filter_le _ _) g.ln, nd_filter g.nd, fun p hp => g.nm p (List.mem_filter.mp hp).1, fun p hp => g.kd p (List.mem_filter.mp hp).1, fun p hp => g.ms p (List.mem_filter.mp hp).1⟩
inductive De where
 | pap (p : Pp)
 | oth (w : Str) (d : Int) (nm : Str) (r : List PyData)
def De.enc : De → PyData
 | .pap p => p.enc
 | .oth w d nm r => .tuple (.str w :: .int d :: .str nm :: r)
def De.w : De → Str
 | .pap _ => Str.ofString "paper"
 | .oth w _ _ _ => w
def De.d : De → Int
 | .pap p => p.d
 | .oth _ d _ _ => d
def De.nm : De → Str
 | .pap p => p.nm
 | .oth _ _ nm _ => nm
def De.pp : De → Option Pp
 | .pap p => some p
 | _ => none
def paps (xs : List De) : List Pp := xs.filterMap De.pp
structure GoodX (xs : List De) : Prop where
 gp : GoodP (paps xs)
 np : ∀ w d nm r, De.oth w d nm r ∈ xs → w ≠ Str.ofString "paper"
 ln : xs.length ≤ 41
 w : ∀ x ∈ xs, PyData.strOk x.w = true
 nm : ∀ x ∈ xs, PyData.strOk x.nm = true
theorem paps_mem {xs : List De} {p : Pp} : p ∈ paps xs ↔ De.pap p ∈ xs := by
 unfold paps
 rw [List.mem_filterMap]
 constructor
 ·rintro ⟨x, hx, e⟩
  cases x with
  | pap q => cases e; exact hx
  | oth w d nm r => cases e
 ·intro h; exact ⟨_, h, rfl⟩
theorem GoodX.perm {xs ys : List De} (g : GoodX xs) (h : ys.Perm xs) : GoodX ys :=
 ⟨g.gp.perm (h.filterMap _), fun w d nm r z => g.np w d nm r (h.mem_iff.mp z), by rw [h.length_eq]; exact g.ln, fun x hx => g.w x (h.mem_iff.mp hx), fun x hx => g.nm x (h.mem_iff.mp hx)⟩
theorem paps_map (ps : List Pp) : paps (ps.map De.pap) = ps := by
 unfold paps
 rw [List.filterMap_map]
 exact List.filterMap_some
theorem enc_map (ps : List Pp) : ps.map Pp.enc = (ps.map De.pap).map De.enc := by rw [List.map_map]; rfl
theorem ok_paper : PyData.strOk (Str.ofString "paper") = true := by decide +kernel
theorem GoodX.of {ps : List Pp} (g : GoodP ps) : GoodX (ps.map De.pap) := by
 refine ⟨by rw [paps_map]; exact g, fun w d nm r h => ?_, by rw [List.length_map]; exact g.ln, fun x hx => ?_, fun x hx => ?_⟩
 ·obtain ⟨p, _, e⟩ := List.mem_map.mp h; cases e
 ·obtain ⟨p, _, rfl⟩ := List.mem_map.mp hx; exact ok_paper
 ·obtain ⟨p, hp, rfl⟩ := List.mem_map.mp hx; exact g.nm p hp
end K19

open PySem L2
local macro_rules | `(tactic| walk_at "rz") => `(tactic| ((try simp only [startD, List.map_cons, List.map_nil, List.length_cons, List.length_nil, Nat.reduceAdd, Nat.reduceSub, List.replicate, List.cons_append, List.nil_append]); simp only [↓lz_w, ↓lz_k0, ↓lz_kS, ↓lz_kE, ↓lz_kN, ↓lz_ks, ↓lz_ki, ↓lz_wN, ↓lz_v0, ↓lz_vS, ↓lz_vE, ↓lz_vN, ↓lz_o0, ↓lz_oS, ↓lz_oE, ↓lz_oN, ↓lz_b, ↓lz_i, ↓lz_s, ↓lz_t, ↓lz_l, ↓lz_ii, ↓lz_ss, ↓lz_tt, ↓lz_ll, ↓lz_cons, ↓lz_two, ↓lz_tt0, ↓lz_tt1, ↓lz_tt2, ↓lz_tt3, ↓lz_ll0, ↓lz_ll1, ↓lz_ll2, ↓lz_tix, ↓lz_lix, dSeq, dNext, dIfS, dRet, dRetO, dSet, dNew, dApp, dAsg, dVar, dOwn, dC, dOp, dI, dIC, dEq, dNe, dIxL, dIxT, dIxS, dAddS, dCat, dL, dFin, dTup, dNil, dCons, dTest, dAnd, dOr, dNot, dAndV, dOrV, dNotV, dIf, dCall, wq_paper_happens, wq_paper_rule, wq_paper_end, wq_paper_hold, wq_paper_lift, wq_paper_leave, wq_happens_paper, wq_happens_rule, wq_happens_end, wq_happens_hold, wq_happens_lift, wq_happens_leave, wq_rule_paper, wq_rule_happens, wq_rule_end, wq_rule_hold, wq_rule_lift, wq_rule_leave, wq_end_paper, wq_end_happens, wq_end_rule, wq_end_hold, wq_end_lift, wq_end_leave, wq_hold_paper, wq_hold_happens, wq_hold_rule, wq_hold_end, wq_hold_lift, wq_hold_leave, wq_lift_paper, wq_lift_happens, wq_lift_rule, wq_lift_end, wq_lift_hold, wq_lift_leave, wq_leave_paper, wq_leave_happens, wq_leave_rule, wq_leave_end, wq_leave_hold, wq_leave_lift, dSlL, dLits, dNoPart, dPart, dLen, dLenS, dTupOf, dAny, dTwo, dIsin, dInt, dYes, dForI, dForTI, dForRI, dSlX, dNeg, dRevT, cD_nm1, dInX, dEqZ, dInZ, dSortS, dNever, dIsN, dNotN, dMulS, dIxSc, dSlSc, dAbs, dExt, dMaxL, dSortPr, dSortKey, dLtP, dCompV, dFld, dFldD, dForE, dDivmod, dSum, dMinL, dAnyI, dRepC, dSortSetN, dExtD, take_iff, cD_1n, cD_2n, cD_3n, cD_4n, cD_n1, cD_n2, cD_n3, cD_n4, cD_13, ne_eq, thing_str, thing_int, thing_bool, thing_tup, thing_list, strsE1, strsE2, strsE3, dCompI, dCompTI, dCompRI, dgName, dgTup, dgCons, dgNil, forW, startD, dst0, CDiv, CPow, CMul, List.map_cons, List.map_nil, List.length_cons, List.length_nil, List.replicate, List.cons_append, List.nil_append, List.append_nil, Nat.reduceAdd, Nat.reduceSub, Nat.add_zero, Nat.zero_add, Nat.sub_self, List.getElem?_cons_zero, List.getElem?_cons_succ, List.getElem?_nil, List.set_cons_zero, List.set_cons_succ, Option.some.injEq, exists_eq_left', exists_eq_left, exists_and_left, exists_and_right, Option.join_some, Option.join_none, Sl.v.injEq, Sl.o.injEq, Sl.k.injEq, PyData.int.injEq, PyData.bool.injEq, PyData.str.injEq, PyData.tuple.injEq, PyData.list.injEq, List.cons.injEq, and_true, true_and, Nat.reduceLT, Nat.reduceLeDiff, exists_const, decide_eq_true_eq, Int.reduceLT, Int.reduceLE, Int.reduceNeg, Int.reducePow, Bool.not_eq_true', decide_eq_false_iff_not, and_assoc, or_true, true_or, ↓reduceIte, if_true, if_false, Bool.false_eq_true, Bool.true_eq_false, not_true_eq_false, not_false_eq_true, Bool.not_true, Bool.not_false, ite_true, ite_false, eq_self, exists_eq, reduceCtorEq, false_and, and_false, or_false, false_or, exists_false, Option.map_some, Option.map_none, List.all_cons, List.all_nil, List.any_cons, List.any_nil, Bool.and_true, Bool.or_false, Bool.true_and, Bool.false_or, atI_c0, atI_c1, atI_c2, atI_c3, atI_c4, eqv_str, eqv_int, eqv_bool, beq_self_eq_true, shp_int, shp_bl, shp_non, Shp, sizeLine_eq]))
namespace K19
theorem cs_x10_0 : CompScope (defScope s_x10) ["deeds"] ["deed"] 1 [] { kind := PySem.ScopeKind.function, names := [(PySem.Str.ofString ".0", PySem.NameKind.local), (PySem.Str.ofString "deed", PySem.NameKind.local)], isGenerator := false, isCoroutine := false, more := [] : PySem.Scope } := ⟨rfl, by decide +kernel, by decide +kernel, by decide +kernel, rfl, by decide +kernel, by decide +kernel, by decide +kernel, rfl⟩
theorem cs_x12_0 : CompScope (defScope s_x12) ["deeds"] ["deed"] 1 [] { kind := PySem.ScopeKind.function, names := [(PySem.Str.ofString ".0", PySem.NameKind.local), (PySem.Str.ofString "deed", PySem.NameKind.local)], isGenerator := false, isCoroutine := false, more := [] : PySem.Scope } := ⟨rfl, by decide +kernel, by decide +kernel, by decide +kernel, rfl, by decide +kernel, by decide +kernel, by decide +kernel, rfl⟩
theorem cs_x13_0 : CompScope (defScope s_x13) ["deeds", "coming", "named"] ["deed", "coming"] 1 [1] { kind := PySem.ScopeKind.function, names := [ (PySem.Str.ofString ".0", PySem.NameKind.local), (PySem.Str.ofString "deed", PySem.NameKind.local), (PySem.Str.ofString "coming", PySem.NameKind.free)], isGenerator := false, isCoroutine := false, more := [] : PySem.Scope } := ⟨rfl, by decide +kernel, by decide +kernel, by decide +kernel, rfl, by decide +kernel, by decide +kernel, by decide +kernel, rfl⟩
theorem cs_x13_1 : CompScope (defScope s_x13) ["deeds", "coming", "named"] ["deed", "coming"] 1 [1] { kind := PySem.ScopeKind.function, names := [ (PySem.Str.ofString ".0", PySem.NameKind.local), (PySem.Str.ofString "deed", PySem.NameKind.local), (PySem.Str.ofString "place_of", PySem.NameKind.globalImplicit), (PySem.Str.ofString "coming", PySem.NameKind.free)], isGenerator := false, isCoroutine := false, more := [] : PySem.Scope } := ⟨rfl, by decide +kernel, by decide +kernel, by decide +kernel, rfl, by decide +kernel, by decide +kernel, by decide +kernel, rfl⟩
theorem cs_x14_0 : CompScope (defScope s_x14) ["deeds", "paper"] ["deed"] 1 [] { kind := PySem.ScopeKind.function, names := [(PySem.Str.ofString ".0", PySem.NameKind.local), (PySem.Str.ofString "deed", PySem.NameKind.local)], isGenerator := false, isCoroutine := false, more := [] : PySem.Scope } := ⟨rfl, by decide +kernel, by decide +kernel, by decide +kernel, rfl, by decide +kernel, by decide +kernel, by decide +kernel, rfl⟩
section
variable {P : Program} {w : World} {K : PySem.W.Frag} {mg : Str → Option Value} {base : Heap} {t : Adr}
theorem compI_ef {α : Type} {enc : α → PyData} {g : DG} {tc : DB} {te : DT} {δ0 : Dl} {xs : List α} {Q : List PyData → Prop} (p : α → Bool) (f : α → PyData)
  (h : ∀ x ∈ xs, ∀ (R : PyData → Prop) (S : Prop), (if p x = true then R (f x) else S) → g (enc x) δ0 fun δ2 => tc δ2 fun ok => if ok = true then te δ2 R else S) (q : Q ((xs.filter p).map f)) : compI g tc te δ0 (xs.map enc) Q := by
 refine ⟨fun i acc => acc = ((xs.take i).filter p).map f, rfl, ?_, ?_⟩
 ·rintro i z acc hz rfl
  rw [List.getElem?_map] at hz
  cases hz' : xs[i]? with
  | none => rw [hz'] at hz; cases hz
  | some x =>
   rw [hz'] at hz; cases hz
   refine h x (List.mem_of_getElem? hz') (fun y => ((xs.take i).filter p).map f ++ [y] = ((xs.take (i + 1)).filter p).map f) (((xs.take i).filter p).map f = ((xs.take (i + 1)).filter p).map f) ?_
   rw [List.take_succ, hz']
   by_cases e : p x = true
   ·rw [if_pos e]; simp [e]
   ·rw [if_neg e]; simp [e]
 ·rintro acc rfl
  rw [List.length_map, List.take_of_length_le (Nat.le_refl _)]; exact q
theorem compI_e2 {α : Type} {enc : α → PyData} {g : DG} {tc : DB} {te : DT} {δ0 : Dl} {xs : List α} {Q : List PyData → Prop} (p : α → Bool) (f : α → PyData)
  (h : ∀ x ∈ xs, ∀ (R : PyData → Prop) (S : Prop), (p x = true → R (f x)) → (p x = false → S) → g (enc x) δ0 fun δ2 => tc δ2 fun ok => if ok = true then te δ2 R else S) (q : Q ((xs.filter p).map f)) : compI g tc te δ0 (xs.map enc) Q :=
 compI_ef p f (fun x hx R S z => h x hx R S (fun e => by rw [if_pos e] at z; exact z) (fun e => by rw [if_neg (by rw [e]; exact Bool.false_ne_true)] at z; exact z)) q
theorem filter_true {α : Type} (l : List α) : l.filter (fun _ => true) = l := List.filter_eq_self.mpr fun _ _ => rfl
theorem beq_ne {a b : Str} (h : a ≠ b) : (a == b) = false := by simpa using h
theorem in_strs {ws : List Str} {w : Str} : ((ws.map PyData.str).any fun d => PyData.eqv d (.str w)) = ws.contains w := by
 induction ws with
 | nil => rfl
 | cons a ws ih =>
  rw [List.map_cons, List.any_cons, ih, eqv_str, List.contains_cons]
  congr 1
  by_cases h : a = w
  ·simp [h]
  ·rw [beq_ne h, beq_ne (Ne.symm h)]
theorem lay_ss {ms : List Str} (h : ∀ m ∈ ms, PyData.strOk m = true) : PyData.canLayAll0 (ms.map .str) = true := (lay_all (n := 1) (lay_strs h)).1
def papF (f : Pp → Bool) : De → Bool
 | .pap p => f p
 | _ => false
theorem paps_filter {f : Pp → Bool} : ∀ xs : List De, (xs.filter (papF f)).map De.enc = ((paps xs).filter f).map Pp.enc
 | [] => rfl
 | .pap p :: xs => by
  have ih := paps_filter (f := f) xs
  show _ = (List.filter f (p :: paps xs)).map Pp.enc
  rw [List.filter_cons, List.filter_cons]
  by_cases h : f p = true
  ·rw [if_pos h, if_pos (show papF f (.pap p) = true from h), List.map_cons, List.map_cons, ih]; rfl
  ·rw [if_neg h, if_neg (show ¬ papF f (.pap p) = true from h), ih]
 | .oth w d nm r :: xs => by
  have ih := paps_filter (f := f) xs
  show _ = (List.filter f (paps xs)).map Pp.enc
  rw [List.filter_cons, if_neg (show ¬ papF f (.oth w d nm r) = true from Bool.false_ne_true), ih]
def F_place : List PyData → (PyData → Prop) → Prop := fun ds Q => ∃ p : Pp, ds = [p.enc] ∧ Q (prD p.key)
theorem ok_place (T : Txt K mg t) : FnOk P w K mg base CX0 1 t.a_x9 t.d_x9 ["deed"] (spD K F_place) := by
 refine T.F_x9.okD sc_x9 (fun ds Q h => ?_) (fun cdv A outer s H O ds Q E hr h => ?_)
 ·obtain ⟨p, rfl, _⟩ := h; rfl
 ·obtain ⟨p, rfl, q⟩ := h
  refine' ⟨_, ?body, ?read⟩
  case body =>
   refine' dss_one ?s1
   case' s1 => refine' ds_ret ?e2
   case' e2 => refine' de_tup ?t3
   case' t3 => refine' da_cons ?u4 ?w4
   case u4 => exact (de_ix ix_tup od_ixT (df (dv 0)) (df de_int))
   case' w4 => refine' da_cons ?u6 da_nil
   case u6 => exact (de_ix ix_tup od_ixT (df (dv 0)) (df de_int))
  case read =>
  clear hr T
  simp only [Pp.enc]
  walk_at "rz"
  exact q
theorem kf_place {d : PyData} {ps : List Pp} (h : d ∈ ps.map Pp.enc) (R : PyData → Prop) (q : R (prD (kfP d))) : F_place [d] R := by
 obtain ⟨p, hp, rfl⟩ := List.mem_map.mp h
 exact ⟨p, rfl, q⟩
theorem key_nd {ps : List Pp} (nd : (ps.map (·.nm)).Nodup) : (ps.map Pp.key).Nodup := by
 rw [List.Nodup, List.pairwise_map] at nd ⊢
 exact nd.imp fun h e => h (congrArg Prod.snd e)
def F_x10 : List PyData → (PyData → Prop) → Prop := fun ds Q => ∃ xs : List De, (ds = [.list (xs.map De.enc)] ∨ ds = [.tuple (xs.map De.enc)]) ∧ GoodX xs ∧ Q (.list ((ordP (paps xs)).map Pp.enc))
theorem ok_comings (T : Txt K mg t) : FnOk P w K mg base CX0 4 t.a_x10 t.d_x10 ["deeds"] (spD K F_x10) := by
 have G_x9 := ok_place (P := P) (w := w) (base := base) T
 refine T.F_x10.okD sc_x10 (fun ds Q h => ?_) (fun cdv A outer s H O ds Q E hr h => ?_)
 ·obtain ⟨ps, h | h, _⟩ := h <;> subst h <;> rfl
 ·obtain ⟨xs, e, gd, q⟩ := h
  refine' ⟨_, ?body, ?read⟩
  case body =>
   refine' dss_one ?s1
   case' s1 => refine' ds_ret ?e2
   case e2 => exact (fe (fe_sortKey kfP rfl G_x9 (Room.in1 (Room.in1 (hr.mono (by decide)))) T.b_x9 rfl T.m_x9 rfl T.n_sorted PyProof.Rows.boot_sorted (db_cons (df (fe (fe_compV rfl cs_x10_0 (df (dv 0)) gd_name keepName (by decide) (fun _ _ _ _ => (pg_name (i := 0) cs_x10_0.nd rfl (by walk_at "o"))) (fun _ _ _ _ => (pf_one (dt_cmp (op_eqZ hr) od_eqZ (df (de_ix ix_tup od_ixT (df (dv 0)) (df de_int))) (df de_str) (nomark _)))) (fun _ _ _ _ => (dv 0))))) db_nil)))
  case read =>
  clear hr T G_x9
  have ln := gd.ln
  have pl := gd.gp.ln
  have step : ∀ x ∈ xs, ∀ (R : PyData → Prop) (S : Prop), (if papF (fun _ => true) x = true then R x.enc else S) → (if (x.w == Str.ofString "paper") = true then R x.enc else S) := fun x hx R S h => by
   cases x with
   | pap p => exact h
   | oth w d nm r =>
    rw [show ((De.oth w d nm r).w == Str.ofString "paper") = false from beq_ne (gd.np w d nm r hx), if_neg Bool.false_ne_true]
    rw [if_neg (show ¬ papF (fun _ => true) (.oth w d nm r) = true from Bool.false_ne_true)] at h
    exact h
  have fin : ∀ ds' : List PyData, ds'.Perm ((paps xs).map Pp.enc) → ds'.Pairwise (fun a b => ltP (kfP a) (kfP b) = true) → Q (.list ds') := fun ds' h1 h2 => by
   rw [ordP_data gd.gp.nd h1 h2]; exact q
  have tail : (∀ d ∈ (paps xs).map Pp.enc, ∀ R : PyData → Prop, R (prD (kfP d)) → F_place [d] R) ∧ ((paps xs).map Pp.enc).length < 64 ∧ (((paps xs).map Pp.enc).map kfP).Nodup := by
   refine ⟨fun d hd R z => kf_place hd R z, by rw [List.length_map]; omega, ?_⟩
   rw [List.map_map]
   exact key_nd gd.gp.nd
  rcases e with e | e <;> subst e <;> walk_at "rz"
  ·refine ⟨by rw [List.length_map]; omega, compI_ef (papF fun _ => true) De.enc (fun x hx R S h => ?_) ?_⟩
   ·have h := step x hx R S h
    cases x <;> simp only [De.enc, De.w, Pp.enc] at h ⊢ <;> walk_at "rz" <;> exact h
   ·rw [paps_filter, filter_true]
    exact ⟨tail.1, tail.2.1, tail.2.2, fin⟩
  ·refine ⟨by rw [List.length_map]; omega, compI_ef (papF fun _ => true) De.enc (fun x hx R S h => ?_) ?_⟩
   ·have h := step x hx R S h
    cases x <;> simp only [De.enc, De.w, Pp.enc] at h ⊢ <;> walk_at "rz" <;> exact h
   ·rw [paps_filter, filter_true]
    exact ⟨tail.1, tail.2.1, tail.2.2, fin⟩
def F_coming : List PyData → (PyData → Prop) → Prop := fun ds Q => ∃ (xs : List De) (c : Pp), ds = [.tuple (xs.map De.enc), .str c.nm] ∧ GoodX xs ∧ c ∈ paps xs ∧ Q c.enc
theorem ok_coming (T : Txt K mg t) : FnOk P w K mg base CX0 1 t.a_x11 t.d_x11 ["deeds", "paper"] (spD K F_coming) := by
 refine T.F_x11.okD sc_x11 (fun ds Q h => ?_) (fun cdv A outer s H O ds Q E hr h => ?_)
 ·obtain ⟨ps, c, rfl, _⟩ := h; rfl
 ·obtain ⟨xs, c, rfl, gd, hc, q⟩ := h
  refine' ⟨_, ?body, ?read⟩
  case body =>
   refine' dss_cons ?s1 ?r1
   case s1 =>
    refine' ds_forTI PassesOwn.never rfl (dv 0) ?a2 gd_name ?b2
    case a2 => exact (pg_name (i := 2) sc_x11.nd rfl (by walk_at "o"))
    case' b2 => refine' dss_one ?s3
    case' s3 => refine' ds_if ?c4 ?a4 dss_nil
    case c4 => exact (PW.pt (dw_and (dt_cmp (op_eqZ hr) od_eqZ (df (de_ix ix_tup od_ixT (df (dv 2)) (df de_int))) (df de_str) (nomark _)) (dw_and1 (dt_cmp (op_eqX hr.units) od_eq (df (de_ix ix_tup od_ixT (df (dv 2)) (df de_int))) (df (dv 1)) (nomark _)))))
    case' a4 => refine' dss_one ?s5
    case s5 => exact (ds_ret (dv 2))
   case r1 => refine' dss_one ds_never
  case read =>
  clear hr T
  walk_at "rz"
  refine ⟨fun i δ => (∀ x ∈ paps (xs.take i), x.nm ≠ c.nm) ∧ ∃ o2, δ = [some (Sl.v (.tuple (xs.map De.enc))), some (Sl.v (.str c.nm)), o2], ⟨by simp [paps], _, rfl⟩, ?_, ?_⟩
  ·rintro i z δ hz ⟨hn, o2, rfl⟩
   rw [List.getElem?_map] at hz
   cases hz' : xs[i]? with
   | none => rw [hz'] at hz; cases hz
   | some x =>
    rw [hz'] at hz; cases hz
    have hx := List.mem_of_getElem? hz'
    cases x with
    | pap p =>
     simp only [De.enc, Pp.enc]
     walk_at "rz"
     refine ⟨shp_str.mpr (gd.nm _ hx), shp_str.mpr (gd.gp.nm c hc), ?_⟩
     split
     ·rename_i h
      have e := uniq_nm gd.gp.nd (paps_mem.mpr hx) hc (eq_of_beq h)
      subst e
      exact q
     ·rename_i h
      refine ⟨fun y hy => ?_, _, rfl⟩
      rw [List.take_succ, hz'] at hy
      unfold paps at hy
      rw [List.filterMap_append] at hy
      rcases List.mem_append.mp hy with z | z
      ·exact hn y z
      ·have : y = p := by simpa [De.pp] using z
       rw [this]; exact fun e => h (by rw [e]; exact beq_self_eq_true _)
    | oth w d nm r =>
     simp only [De.enc]
     walk_at "rz"
     rw [beq_ne (gd.np w d nm r hx), if_neg Bool.false_ne_true]
     refine ⟨fun y hy => ?_, _, rfl⟩
     rw [List.take_succ, hz'] at hy
     unfold paps at hy
     rw [List.filterMap_append] at hy
     rcases List.mem_append.mp hy with z | z
     ·exact hn y z
     ·simp [De.pp] at z
  ·rintro δ ⟨hn, o2, rfl⟩
   rw [List.length_map, List.take_of_length_le (Nat.le_refl _)] at hn
   exact absurd rfl (hn c hc)
def F_x12 : List PyData → (PyData → Prop) → Prop := fun ds Q => ∃ xs : List De, ds = [.tuple (xs.map De.enc)] ∧ GoodX xs ∧ Q (.tuple (((ordP (paps xs)).map (·.nm)).map .str))
theorem ok_papers (T : Txt K mg t) : FnOk P w K mg base CX0 5 t.a_x12 t.d_x12 ["deeds"] (spD K F_x12) := by
 have G_x10 := ok_comings (P := P) (w := w) (base := base) T
 refine T.F_x12.okD sc_x12 (fun ds Q h => ?_) (fun cdv A outer s H O ds Q E hr h => ?_)
 ·obtain ⟨ps, rfl, _⟩ := h; rfl
 ·obtain ⟨xs, rfl, gd, q⟩ := h
  refine' ⟨_, ?body, ?read⟩
  case body =>
   refine' dss_one ?s1
   case' s1 => refine' ds_ret ?e2
   case e2 => exact (PE.imp (pe_callTy call_tuple_of rfl T.n_tuple bt_tuple (db_cons (df (fe (fe_compI rfl cs_x12_0 (df (PE.imp (pe_call G_x10 (hr.mono (by decide)) rfl T.m_x10 T.F_x10.kp T.b_x10 .nil pass0 (da_cons (dv 0) da_nil)) dcall)) gd_name keepName (by decide) (fun _ _ _ _ => (pg_name (i := 0) cs_x12_0.nd rfl (by walk_at "o"))) (fun _ _ _ _ => pf_nilD) (fun _ _ _ _ => (de_ix ix_tup od_ixT (df (dv 0)) (df de_int)))))) db_nil)) (dcb cd_tupOf))
  case read =>
  clear hr T G_x10
  walk_at "rz"
  refine ⟨xs, .inr rfl, gd, _, rfl, by rw [List.length_map, ordP_len]; have := gd.gp.ln; omega, compI_ef (fun _ => true) (fun p : Pp => .str p.nm) (fun x hx R S h => ?_) ?_⟩
  ·simp only [Pp.enc]
   walk_at "rz"
   rw [if_pos rfl] at h; exact h
  ·rw [filter_true]
   rw [List.map_map] at q
   exact q
def F_makerc : List PyData → (PyData → Prop) → Prop := fun ds Q => ∃ (xs : List De) (c : Pp), ds = [.tuple (xs.map De.enc), c.enc] ∧ GoodX xs ∧ c ∈ paps xs ∧ ∀ ps : List Pp, ps.length ≤ 41 → Q (.list (ps.map Pp.enc))
theorem ok_makerc (T : Txt K mg t) : FnOk P w K mg base CX0 5 t.a_x13 t.d_x13 ["deeds", "coming"] (spD K F_makerc) := by
 have G_x10 := ok_comings (P := P) (w := w) (base := base) T
 have G_x9 := ok_place (P := P) (w := w) (base := base) T
 refine T.F_x13.okD sc_x13 (fun ds Q h => ?_) (fun cdv A outer s H O ds Q E hr h => ?_)
 ·obtain ⟨ps, c, rfl, _⟩ := h; rfl
 ·obtain ⟨xs, c, rfl, gd, hc, q⟩ := h
  refine' ⟨_, ?body, ?read⟩
  case body =>
   refine' dss_cons ?s1 ?r1
   case s1 => exact (ds_setC (i := 2) sc_x13.nd rfl (by walk_at "o") (fu_compTI rfl cs_x13_0 (df (dv 0)) gd_name keepName (by decide) (fun _ _ _ _ => (pg_name (i := 0) cs_x13_0.nd rfl (by walk_at "o"))) (fun _ _ _ _ => (pf_one (PW.pt (dw_and (dt_cmp (op_eqZ hr) od_eqZ (df (de_ix ix_tup od_ixT (df (dv 0)) (df de_int))) (df de_str) (nomark _)) (dw_and1 (dt_cmp (op_inX hr) od_inX (df (de_ix ix_tup od_ixT (df (dv 0)) (df de_int))) (df (de_ix ix_tup od_ixT (df (dv 1)) (df de_int))) rfl)))))) (fun _ _ _ _ => (dv 0))))
   case' r1 => refine' dss_one ?s3
   case' s3 => refine' ds_ret ?e4
   case e4 => exact (PE.imp (pe_call G_x10 (hr.mono (by decide)) rfl T.m_x10 T.F_x10.kp T.b_x10 .nil pass0 (da_cons (fe (fe_compI rfl cs_x13_1 (df (dv 2)) gd_name keepName (by decide) (fun _ _ _ _ => (pg_name (i := 0) cs_x13_1.nd rfl (by walk_at "o"))) (fun _ _ _ _ => (pf_one (dt_cmp (op_ltP hr.units0) od_ltP (df (PE.imp (pe_call G_x9 (hr.mono (by decide)) rfl T.m_x9 T.F_x9.kp T.b_x9 .nil pass0 (da_cons (dv 0) da_nil)) dcall)) (df (PE.imp (pe_call G_x9 (hr.mono (by decide)) rfl T.m_x9 T.F_x9.kp T.b_x9 .nil pass0 (da_cons (dv 1) da_nil)) dcall)) (nomark _)))) (fun _ _ _ _ => (dv 0)))) da_nil)) dcall)
  case read =>
  clear hr T G_x10 G_x9
  have ln := gd.ln
  have pl := gd.gp.ln
  obtain ⟨hm1, hm2⟩ := gd.gp.ms c hc
  walk_at "rz"
  refine ⟨by rw [List.length_map]; omega, compI_ef (papF fun p => c.ms.contains p.nm) De.enc (fun x hx R S h => ?_) ?_⟩
  ·cases x with
   | pap p =>
    simp only [De.enc, Pp.enc]
    walk_at "rz"
    refine ⟨shp_str.mpr (gd.nm _ hx), lay_ss hm1, ?_⟩
    rw [in_strs]
    exact h
   | oth w d nm r =>
    simp only [De.enc]
    walk_at "rz"
    rw [beq_ne (gd.np w d nm r hx), if_neg Bool.false_ne_true]
    rw [if_neg (show ¬ papF _ (.oth w d nm r) = true from Bool.false_ne_true)] at h
    exact h
  ·rw [paps_filter]
   have fl := List.length_filter_le (fun p : Pp => c.ms.contains p.nm) (paps xs)
   refine ⟨by rw [List.length_map]; omega, compI_ef (fun p => ltP p.key c.key) Pp.enc (fun x hx R S h => ?_) ?_⟩
   ·walk_at "rz"
    exact ⟨x, rfl, c, rfl, x.key, rfl, c.key, rfl, h⟩
   ·rw [enc_map]
    refine ⟨_, .inl rfl, GoodX.of ((gd.gp.filter _).filter _), ?_⟩
    refine q _ ?_
    rw [ordP_len, paps_map]
    exact Nat.le_trans (List.length_filter_le _ _) (by omega)
def F_x14 : List PyData → (PyData → Prop) → Prop := fun ds Q => ∃ (xs : List De) (c : Pp), ds = [.tuple (xs.map De.enc), .str c.nm] ∧ GoodX xs ∧ c ∈ paps xs ∧ ∀ ts : List PyData, Q (.tuple ts)
theorem ok_makers (T : Txt K mg t) : FnOk P w K mg base CX0 6 t.a_x14 t.d_x14 ["deeds", "paper"] (spD K F_x14) := by
 have G_x13 := ok_makerc (P := P) (w := w) (base := base) T
 have G_x11 := ok_coming (P := P) (w := w) (base := base) T
 refine T.F_x14.okD sc_x14 (fun ds Q h => ?_) (fun cdv A outer s H O ds Q E hr h => ?_)
 ·obtain ⟨ps, c, rfl, _⟩ := h; rfl
 ·obtain ⟨xs, c, rfl, gd, hc, q⟩ := h
  refine' ⟨_, ?body, ?read⟩
  case body =>
   refine' dss_one ?s1
   case' s1 => refine' ds_ret ?e2
   case e2 => exact (PE.imp (pe_callTy call_tuple_of rfl T.n_tuple bt_tuple (db_cons (df (fe (fe_compI rfl cs_x14_0 (df (PE.imp (pe_call G_x13 (hr.mono (by decide)) rfl T.m_x13 T.F_x13.kp T.b_x13 .nil pass0 (da_cons (dv 0) (da_cons (PE.imp (pe_call G_x11 (hr.mono (by decide)) rfl T.m_x11 T.F_x11.kp T.b_x11 .nil pass0 (da_cons (dv 0) (da_cons (dv 1) da_nil))) dcall) da_nil))) dcall)) gd_name keepName (by decide) (fun _ _ _ _ => (pg_name (i := 0) cs_x14_0.nd rfl (by walk_at "o"))) (fun _ _ _ _ => pf_nilD) (fun _ _ _ _ => (de_ix ix_tup od_ixT (df (dv 0)) (df de_int)))))) db_nil)) (dcb cd_tupOf))
  case read =>
  clear hr T G_x13 G_x11
  walk_at "rz"
  refine ⟨xs, c, rfl, gd, hc, xs, c, rfl, gd, hc, fun ps pl => ⟨_, rfl, by rw [List.length_map]; omega, compI_ef (fun _ => true) (fun p : Pp => .str p.nm) (fun x hx R S h => ?_) ?_⟩⟩
  ·simp only [Pp.enc]
   walk_at "rz"
   rw [if_pos rfl] at h; exact h
  ·exact q _
end
end K19

open PySem L2
local macro_rules | `(tactic| walk_at "rzi") => `(tactic| simp only [↓lz_w, ↓lz_k0, ↓lz_kS, ↓lz_kE, ↓lz_kN, ↓lz_ks, ↓lz_ki, ↓lz_wN, ↓lz_v0, ↓lz_vS, ↓lz_vE, ↓lz_vN, ↓lz_o0, ↓lz_oS, ↓lz_oE, ↓lz_oN, ↓lz_b, ↓lz_i, ↓lz_s, ↓lz_t, ↓lz_l, ↓lz_ii, ↓lz_ss, ↓lz_tt, ↓lz_ll, ↓lz_cons, ↓lz_two, ↓lz_tt0, ↓lz_tt1, ↓lz_tt2, ↓lz_tt3, ↓lz_ll0, ↓lz_ll1, ↓lz_ll2, ↓lz_tix, ↓lz_lix, dSeq, dNext, dIfS, dRet, dRetO, dSet, dNew, dApp, dAsg, dVar, dOwn, dC, dOp, dI, dIC, dEq, dNe, dIxL, dIxT, dIxS, dAddS, dCat, dL, dFin, dTup, dNil, dCons, dTest, dAnd, dOr, dNot, dAndV, dOrV, dNotV, dIf, dCall, wq_paper_happens, wq_paper_rule, wq_paper_end, wq_paper_hold, wq_paper_lift, wq_paper_leave, wq_happens_paper, wq_happens_rule, wq_happens_end, wq_happens_hold, wq_happens_lift, wq_happens_leave, wq_rule_paper, wq_rule_happens, wq_rule_end, wq_rule_hold, wq_rule_lift, wq_rule_leave, wq_end_paper, wq_end_happens, wq_end_rule, wq_end_hold, wq_end_lift, wq_end_leave, wq_hold_paper, wq_hold_happens, wq_hold_rule, wq_hold_end, wq_hold_lift, wq_hold_leave, wq_lift_paper, wq_lift_happens, wq_lift_rule, wq_lift_end, wq_lift_hold, wq_lift_leave, wq_leave_paper, wq_leave_happens, wq_leave_rule, wq_leave_end, wq_leave_hold, wq_leave_lift, dSlL, dLits, dNoPart, dPart, dLen, dLenS, dTupOf, dAny, dTwo, dIsin, dInt, dYes, dForI, dForTI, dForRI, dSlX, dNeg, dRevT, cD_nm1, dInX, dEqZ, dInZ, dSortS, dNever, dIsN, dNotN, dMulS, dIxSc, dSlSc, dAbs, dExt, dMaxL, dSortPr, dSortKey, dLtP, dCompV, dFld, dFldD, dForE, dDivmod, dSum, dMinL, dAnyI, dRepC, dSortSetN, dExtD, take_iff, cD_1n, cD_2n, cD_3n, cD_4n, cD_n1, cD_n2, cD_n3, cD_n4, cD_13, ne_eq, thing_str, thing_int, thing_bool, thing_tup, thing_list, strsE1, strsE2, strsE3, dCompI, dCompTI, dCompRI, dgName, dgTup, dgCons, dgNil, forW, startD, dst0, CDiv, CPow, CMul, List.map_cons, List.map_nil, List.length_cons, List.length_nil, List.replicate, List.cons_append, List.nil_append, List.append_nil, Nat.reduceAdd, Nat.reduceSub, Nat.add_zero, Nat.zero_add, Nat.sub_self, List.getElem?_cons_zero, List.getElem?_cons_succ, List.getElem?_nil, List.set_cons_zero, List.set_cons_succ, Option.some.injEq, exists_eq_left', exists_eq_left, exists_and_left, exists_and_right, Option.join_some, Option.join_none, Sl.v.injEq, Sl.o.injEq, Sl.k.injEq, PyData.int.injEq, PyData.bool.injEq, PyData.str.injEq, PyData.tuple.injEq, PyData.list.injEq, List.cons.injEq, and_true, true_and, Nat.reduceLT, Nat.reduceLeDiff, exists_const, decide_eq_true_eq, Int.reduceLT, Int.reduceLE, Int.reduceNeg, Int.reducePow, Bool.not_eq_true', decide_eq_false_iff_not, and_assoc, or_true, true_or, ↓reduceIte, if_true, if_false, Bool.false_eq_true, Bool.true_eq_false, not_true_eq_false, not_false_eq_true, Bool.not_true, Bool.not_false, ite_true, ite_false, eq_self, exists_eq, reduceCtorEq, false_and, and_false, or_false, false_or, exists_false, Option.map_some, Option.map_none, List.all_cons, List.all_nil, List.any_cons, List.any_nil, Bool.and_true, Bool.or_false, Bool.true_and, Bool.false_or, atI_c0, atI_c1, atI_c2, atI_c3, atI_c4, eqv_str, eqv_int, eqv_bool, beq_self_eq_true, shp_int, shp_bl, shp_non, Shp, sizeLine_eq, Sl.i.injEq, exists_and_left])
namespace K19
open Day
theorem cs_x8_0 : CompScope (defScope s_x8) ["self", "deeds", "name", "coming"] ["deed", "name"] 1 [2] { kind := PySem.ScopeKind.function, names := [ (PySem.Str.ofString ".0", PySem.NameKind.local), (PySem.Str.ofString "deed", PySem.NameKind.local), (PySem.Str.ofString "name", PySem.NameKind.free)], isGenerator := false, isCoroutine := false, more := [] : PySem.Scope } := ⟨rfl, by decide +kernel, by decide +kernel, by decide +kernel, rfl, by decide +kernel, by decide +kernel, by decide +kernel, rfl⟩
theorem cs_x15_0 : CompScope (defScope s_x15) ["paper", "happening"] ["day", "other", "happening"] 2 [1] { kind := PySem.ScopeKind.function, names := [ (PySem.Str.ofString ".0", PySem.NameKind.local), (PySem.Str.ofString "day", PySem.NameKind.local), (PySem.Str.ofString "other", PySem.NameKind.local), (PySem.Str.ofString "happening", PySem.NameKind.free)], isGenerator := false, isCoroutine := false, more := [] : PySem.Scope } := ⟨rfl, by decide +kernel, by decide +kernel, by decide +kernel, rfl, by decide +kernel, by decide +kernel, by decide +kernel, rfl⟩
section
variable {P : Program} {w : World} {K : PySem.W.Frag} {mg : Str → Option Value} {base : Heap} {t : Adr}
inductive Sin where
 | com
 | fst (wd : Str)
 | lst (wd : Str)
def Sin.enc : Sin → PyData
 | .com => .tuple [.str (Str.ofString "coming")]
 | .fst wd => .tuple [.str (Str.ofString "first"), .str wd]
 | .lst wd => .tuple [.str (Str.ofString "last"), .str wd]
def Sin.Ok : Sin → Prop
 | .com => True
 | .fst wd => PyData.strOk wd = true
 | .lst wd => PyData.strOk wd = true
inductive Pt where
 | two (w kd : Str)
 | five (w kd : Str) (s : Sin) (k : Int) (u : Str)
def Pt.enc : Pt → PyData
 | .two w kd => .tuple [.str w, .str kd]
 | .five w kd s k u => .tuple [.str w, .str kd, s.enc, .int k, .str u]
def KG (w : Str) : Prop := w = Str.ofString "keep" ∨ w = Str.ofString "gone"
def Pt.Ok : Pt → Prop
 | .two w kd => ¬ KG w ∧ PyData.strOk w = true ∧ PyData.strOk kd = true
 | .five w kd s k u => KG w ∧ PyData.strOk kd = true ∧ s.Ok ∧ 0 ≤ k ∧ k < 1000 ∧ Unit3 u
def De.isR : De → Bool
 | .oth w _ _ _ => w == Str.ofString "rule"
 | _ => false
def De.isH : De → Bool
 | .oth w _ _ _ => w == Str.ofString "happens"
 | _ => false
structure GoodD (xs : List De) : Prop where
 gx : GoodX xs
 hp : ∀ d nm r, De.oth (Str.ofString "happens") d nm r ∈ xs → ∃ wd, r = [.str wd] ∧ PyData.strOk wd = true
 ru : ∀ d nm r, De.oth (Str.ofString "rule") d nm r ∈ xs → ∃ pt : Pt, r = [pt.enc] ∧ pt.Ok
 nd : xs.Nodup
 d0 : ∀ x ∈ xs, 0 ≤ x.d
 cn : xs.length ≤ 19
 cP : (paps xs).length ≤ 5
 cR : (xs.filter De.isR).length ≤ 5
 cH : (xs.filter De.isH).length ≤ 3
def hapF (nm : Str) : De → Bool
 | .oth w _ n _ => w == Str.ofString "happens" && n == nm
 | _ => false
def hapP : De → Int × Str
 | .oth _ d _ [.str wd] => (d, wd)
 | x => (x.d, Str.ofString "")
def haps (xs : List De) (nm : Str) : List (Int × Str) := (xs.filter (hapF nm)).map hapP
theorem haps_nd {xs : List De} (g : GoodD xs) (nm : Str) : (haps xs nm).Nodup := by
 unfold haps
 rw [List.Nodup, List.pairwise_map]
 refine List.Pairwise.imp_of_mem (fun {a b} ha hb h e => ?_) (g.nd.sublist List.filter_sublist)
 obtain ⟨a1, a2⟩ := List.mem_filter.mp ha
 obtain ⟨b1, b2⟩ := List.mem_filter.mp hb
 cases a with
 | pap p => cases a2
 | oth w d n r =>
  cases b with
  | pap p => cases b2
  | oth w' d' n' r' =>
   simp only [hapF, Bool.and_eq_true, beq_iff_eq] at a2 b2
   obtain ⟨rfl, rfl⟩ := a2
   obtain ⟨rfl, rfl⟩ := b2
   obtain ⟨wd, rfl, _⟩ := g.hp _ _ _ a1
   obtain ⟨wd', rfl, _⟩ := g.hp _ _ _ b1
   simp only [hapP, Prod.mk.injEq] at e
   exact h (by rw [e.1, e.2])
def ppD (C : Addr) (c : Pp) (ts : List PyData) (hs : List (Int × Str)) : PyData := objD C [(Str.ofString "name", .str c.nm), (Str.ofString "coming", .int c.d), (Str.ofString "kind", .str c.kd), (Str.ofString "makers", .tuple ts), (Str.ofString "happenings", .list (hs.map prD))]
def HapsOk (xs : List De) (nm : Str) (hs : List (Int × Str)) : Prop := hs.Perm (haps xs nm) ∧ hs.Pairwise fun a b => ltP a b = true
theorem putFd_ne {f g : Str} {d x : PyData} {r : List (Str × PyData)} (h : g ≠ f) : putFd f d ((g, x) :: r) = (g, x) :: putFd f d r := by rw [putFd, if_neg h]
theorem fd2 {a b : PyData} : putFd (Str.ofString "coming") b (putFd (Str.ofString "name") a []) = [(Str.ofString "name", a), (Str.ofString "coming", b)] := by
 rw [show putFd (Str.ofString "name") a [] = [(Str.ofString "name", a)] from rfl, putFd_ne (by decide +kernel)]; rfl
theorem fd3 {a b c : PyData} : putFd (Str.ofString "kind") c [(Str.ofString "name", a), (Str.ofString "coming", b)] = [(Str.ofString "name", a), (Str.ofString "coming", b), (Str.ofString "kind", c)] := by
 rw [putFd_ne (by decide +kernel), putFd_ne (by decide +kernel)]; rfl
theorem fd4 {a b c d : PyData} : putFd (Str.ofString "makers") d [(Str.ofString "name", a), (Str.ofString "coming", b), (Str.ofString "kind", c)] = [(Str.ofString "name", a), (Str.ofString "coming", b), (Str.ofString "kind", c), (Str.ofString "makers", d)] := by
 rw [putFd_ne (by decide +kernel), putFd_ne (by decide +kernel), putFd_ne (by decide +kernel)]; rfl
theorem fd5 {a b c d e : PyData} : putFd (Str.ofString "happenings") e [(Str.ofString "name", a), (Str.ofString "coming", b), (Str.ofString "kind", c), (Str.ofString "makers", d)] = [(Str.ofString "name", a), (Str.ofString "coming", b), (Str.ofString "kind", c), (Str.ofString "makers", d), (Str.ofString "happenings", e)] := by
 rw [putFd_ne (by decide +kernel), putFd_ne (by decide +kernel), putFd_ne (by decide +kernel), putFd_ne (by decide +kernel)]; rfl
def F_init (C : Addr) : List PyData → (PyData → Prop) → Prop := fun ds Q => ∃ (xs : List De) (c : Pp), ds = [.tuple (xs.map De.enc), .str c.nm] ∧ GoodD xs ∧ c ∈ paps xs ∧ ∀ ts hs, HapsOk xs c.nm hs → Q (ppD C c ts hs)
theorem ok_init (T : Txt K mg t) : FnOk P w K mg base CX0 7 t.a_x8 t.d_x8 ["self", "deeds", "name"] (spI K t.u_Paper (F_init t.u_Paper)) := by
 have G_x11 := ok_coming (P := P) (w := w) (base := base) T
 have G_x14 := ok_makers (P := P) (w := w) (base := base) T
 refine T.F_x8.okI sc_x8 (fun ds Q h => ?_) (fun cdv A outer s H H1 O ds Q E l hr h => ?_)
 ·obtain ⟨xs, c, rfl, _⟩ := h; rfl
 ·obtain ⟨xs, c, rfl, gd, hc, q⟩ := h
  refine' ⟨_, ?body, ?read⟩
  case body =>
   refine' dss_cons ?s1 ?r1
   case s1 => exact (ds_set (i := 3) sc_x8.nd rfl (by walk_at "o") (PE.imp (pe_call G_x11 (hr.mono (by decide)) rfl T.m_x11 T.F_x11.kp T.b_x11 .nil pass0 (da_cons (dv 1) (da_cons (dv 2) da_nil))) dcall))
   case' r1 => refine' dss_cons ?s3 ?r3
   case s3 => exact (ds_fld (C := t.u_Paper) (i := 0) T.cl_Paper T.na_Paper_name (pv 0) (de_ix ix_tup od_ixT (df (dv 3)) (df de_int)))
   case' r3 => refine' dss_cons ?s5 ?r5
   case s5 => exact (ds_fld (C := t.u_Paper) (i := 0) T.cl_Paper T.na_Paper_coming (pv 0) (de_ix ix_tup od_ixT (df (dv 3)) (df de_int)))
   case' r5 => refine' dss_cons ?s7 ?r7
   case s7 => exact (ds_fld (C := t.u_Paper) (i := 0) T.cl_Paper T.na_Paper_kind (pv 0) (de_ix ix_tup od_ixT (df (dv 3)) (df de_int)))
   case' r7 => refine' dss_cons ?s9 ?r9
   case s9 => exact (ds_fld (C := t.u_Paper) (i := 0) T.cl_Paper T.na_Paper_makers (pv 0) (PE.imp (pe_call G_x14 (hr.mono (by decide)) rfl T.m_x14 T.F_x14.kp T.b_x14 .nil pass0 (da_cons (dv 1) (da_cons (dv 2) da_nil))) dcall))
   case' r9 => refine' dss_one ?s11
   case s11 => exact (ds_fld (C := t.u_Paper) (i := 0) T.cl_Paper T.na_Paper_happenings (pv 0) (fe (fe_sortPr rfl T.n_sorted PyProof.Rows.boot_sorted (db_cons (df (fe (fe_compTI rfl cs_x8_0 (df (dv 1)) gd_name keepName (by decide) (fun _ _ _ _ => (pg_name (i := 0) cs_x8_0.nd rfl (by walk_at "o"))) (fun _ _ _ _ => (pf_one (PW.pt (dw_and (dt_cmp (op_eqZ hr) od_eqZ (df (de_ix ix_tup od_ixT (df (dv 0)) (df de_int))) (df de_str) (nomark _)) (dw_and1 (dt_cmp (op_eqX hr.units) od_eq (df (de_ix ix_tup od_ixT (df (dv 0)) (df de_int))) (df (dv 1)) (nomark _))))))) (fun _ _ _ _ => (de_tup (da_cons (de_ix ix_tup od_ixT (df (dv 0)) (df de_int)) (da_cons (de_ix ix_tup od_ixT (df (dv 0)) (df de_int)) da_nil))))))) db_nil))))
  case read =>
  clear hr T G_x11 G_x14
  simp only [startI, startD, List.map_cons, List.map_nil, List.cons_append, List.nil_append, List.tail_cons, List.length_cons, List.length_nil, Nat.reduceAdd, Nat.reduceSub, List.replicate]
  walk_at "rzi"
  refine ⟨xs, c, rfl, gd.gx, hc, ?_⟩
  simp only [Pp.enc]
  walk_at "rzi"
  simp only [fd2, fd3, fd4, fd5]
  have ln := gd.cn
  have lt : ∀ n : Nat, n < 10 → n < 1000 := fun n h => by omega
  refine ⟨lt 1 (by decide), lt 2 (by decide), xs, c, rfl, gd.gx, hc, fun ts => ⟨lt 3 (by decide), by rw [List.length_map]; omega, compI_e2 (hapF c.nm) (fun x => prD (hapP x)) (fun x hx R S h1 h0 => ?_) ?_⟩⟩
  ·cases x with
   | pap p =>
    simp only [De.enc, Pp.enc]
    walk_at "rz"
    exact h0 rfl
   | oth w d nm r =>
    simp only [De.enc]
    walk_at "rz"
    by_cases e : w = Str.ofString "happens"
    ·subst e
     obtain ⟨wd, rfl, _⟩ := gd.hp _ _ _ hx
     rw [if_pos (beq_self_eq_true _)]
     refine ⟨shp_str.mpr (gd.gx.nm _ hx), shp_str.mpr (gd.gx.gp.nm c hc), ?_⟩
     split
     ·rename_i h2
      exact ⟨_, atI_c3, h1 (by simp only [hapF, beq_self_eq_true, Bool.true_and]; exact h2)⟩
     ·rename_i h2
      exact h0 (by simp only [hapF, beq_self_eq_true, Bool.true_and]; simpa using h2)
    ·rw [beq_ne e, if_neg Bool.false_ne_true]
     exact h0 (by simp only [hapF, beq_ne e, Bool.false_and])
  ·refine ⟨haps xs c.nm, by unfold haps; rw [List.map_map]; rfl, ?_, haps_nd gd c.nm, fun hs h1 h2 => ⟨lt 4 (by decide), q ts hs ⟨h1, h2⟩⟩⟩
   unfold haps
   rw [List.length_map]
   have := List.length_filter_le (hapF c.nm) xs
   omega
def F_x15 (C : Addr) : List PyData → (PyData → Prop) → Prop := fun ds Q => ∃ (c : Pp) (ts : List PyData) (hs : List (Int × Str)) (wd : Str), ds = [ppD C c ts hs, .str wd] ∧ hs.length ≤ 19 ∧ (∀ z ∈ hs, PyData.strOk z.2 = true) ∧ PyData.strOk wd = true ∧ Q (.list (((hs.filter fun z => z.2 == wd).map (·.1)).map .int))
theorem at_haps {a b c d e : PyData} : atS [Str.ofString "name", Str.ofString "coming", Str.ofString "kind", Str.ofString "makers", Str.ofString "happenings"] [a, b, c, d, e] (Str.ofString "happenings") = some e := by
 simp only [atS]
 rw [if_neg (by decide +kernel), if_neg (by decide +kernel), if_neg (by decide +kernel), if_neg (by decide +kernel), if_pos trivial]
theorem at_coming {a b c d e : PyData} : atS [Str.ofString "name", Str.ofString "coming", Str.ofString "kind", Str.ofString "makers", Str.ofString "happenings"] [a, b, c, d, e] (Str.ofString "coming") = some b := by
 simp only [atS]
 rw [if_neg (by decide +kernel), if_pos trivial]
theorem at_kind {a b c d e : PyData} : atS [Str.ofString "name", Str.ofString "coming", Str.ofString "kind", Str.ofString "makers", Str.ofString "happenings"] [a, b, c, d, e] (Str.ofString "kind") = some c := by
 simp only [atS]
 rw [if_neg (by decide +kernel), if_neg (by decide +kernel), if_pos trivial]
theorem ok_happened (T : Txt K mg t) : FnOk P w K mg base CX0 1 t.a_x15 t.d_x15 ["paper", "happening"] (spD K (F_x15 t.u_Paper)) := by
 refine T.F_x15.okD sc_x15 (fun ds Q h => ?_) (fun cdv A outer s H O ds Q E hr h => ?_)
 ·obtain ⟨c, ts, hs, wd, rfl, _⟩ := h; rfl
 ·obtain ⟨c, ts, hs, wd, rfl, hl, hok, wok, q⟩ := h
  refine' ⟨_, ?body, ?read⟩
  case body =>
   refine' dss_one ?s1
   case' s1 => refine' ds_ret ?e2
   case' e2 => refine' fe ?f3
   case f3 => exact (fe_compI rfl cs_x15_0 (df (de_fld (C := t.u_Paper) T.cl_Paper T.na_Paper_happenings (dv 0))) (gd_tup (gds_cons gd_name (gds_cons gd_name gds_nil))) keepTup (by decide) (fun _ _ _ _ => (pg_tup (n := 2) rfl (pgs_cons (pg_name (i := 0) cs_x15_0.nd rfl (by walk_at "o")) (pgs_cons (pg_name (i := 1) cs_x15_0.nd rfl (by walk_at "o")) pgs_nil)))) (fun _ _ _ _ => (pf_one (dt_cmp (op_eqX hr.units) od_eq (df (dv 1)) (df (dv 2)) (nomark _)))) (fun _ _ _ _ => (dv 0)))
  case read =>
  clear hr T
  walk_at "rz"
  refine ⟨[Str.ofString "name", Str.ofString "coming", Str.ofString "kind", Str.ofString "makers", Str.ofString "happenings"], _, rfl, _, at_haps, _, rfl, by rw [List.length_map]; omega, compI_ef (fun z : Int × Str => z.2 == wd) (fun z => .int z.1) (fun x hx R S h => ?_) ?_⟩
  ·simp only [prD]
   walk_at "rz"
   exact ⟨shp_str.mpr (hok x hx), shp_str.mpr wok, h⟩
  ·rw [List.map_map] at q; exact q
end
end K19

open PySem L2
namespace K19
open Day
theorem cs_x17_0 : CompScope (defScope s_x17) ["ready", "parts", "days", "paper"] ["base", "parts"] 1 [1] { kind := PySem.ScopeKind.function, names := [ (PySem.Str.ofString ".0", PySem.NameKind.local), (PySem.Str.ofString "base", PySem.NameKind.local), (PySem.Str.ofString "later", PySem.NameKind.globalImplicit), (PySem.Str.ofString "parts", PySem.NameKind.free)], isGenerator := false, isCoroutine := false, more := [] : PySem.Scope } := ⟨rfl, by decide +kernel, by decide +kernel, by decide +kernel, rfl, by decide +kernel, by decide +kernel, by decide +kernel, rfl⟩
section
variable {P : Program} {w : World} {K : PySem.W.Frag} {mg : Str → Option Value} {base : Heap} {t : Adr}
def dayL (hs : List (Int × Str)) (wd : Str) : List Int := (hs.filter fun z => z.2 == wd).map (·.1)
def basL (c : Pp) (hs : List (Int × Str)) : Sin → List Int
 | .com => [c.d]
 | .fst wd => (dayL hs wd).take 1
 | .lst wd => dayL hs wd
def HsOk (hs : List (Int × Str)) : Prop := hs.length ≤ 19 ∧ ∀ z ∈ hs, PyData.strOk z.2 = true
theorem basL_len {c : Pp} {hs : List (Int × Str)} (h : HsOk hs) (s : Sin) : (basL c hs s).length ≤ 19 := by
 have fl : ∀ wd, (dayL hs wd).length ≤ 19 := fun wd => by
  unfold dayL; rw [List.length_map]; exact Nat.le_trans (List.length_filter_le _ _) h.1
 cases s with
 | com => show 1 ≤ 19; omega
 | fst wd => show ((dayL hs wd).take 1).length ≤ 19; rw [List.length_take]; omega
 | lst wd => exact fl wd
theorem cut1 (xs : List PyData) : cutD xs none (some 1) = xs.take 1 := by
 cases xs with
 | nil => rfl
 | cons a l => rw [cutD_take (by decide) (by simp; omega)]; rfl
def F_x16 (C : Addr) : List PyData → (PyData → Prop) → Prop := fun ds Q => ∃ (s : Sin) (c : Pp) (ts : List PyData) (hs : List (Int × Str)), ds = [s.enc, ppD C c ts hs] ∧ s.Ok ∧ HsOk hs ∧ Q (.list ((basL c hs s).map .int))
theorem ok_bases (T : Txt K mg t) : FnOk P w K mg base CX0 2 t.a_x16 t.d_x16 ["since", "paper"] (spD K (F_x16 t.u_Paper)) := by
 have G_x15 := ok_happened (P := P) (w := w) (base := base) T
 refine T.F_x16.okD sc_x16 (fun ds Q h => ?_) (fun cdv A outer s H O ds Q E hr h => ?_)
 ·obtain ⟨s, c, ts, hs, rfl, _⟩ := h; rfl
 ·obtain ⟨si, c, ts, hs, rfl, hsi, hh, q⟩ := h
  refine' ⟨_, ?body, ?read⟩
  case body =>
   refine' dss_cons ?s1 ?r1
   case s1 =>
    refine' ds_if ?c2 ?a2 dss_nil
    case c2 => exact (dt_cmp (op_eqZ hr) od_eqZ (df (de_ix ix_tup od_ixT (df (dv 0)) (df de_int))) (df de_str) (nomark _))
    case' a2 => refine' dss_one ?s3
    case s3 => exact (ds_ret (fe (fe_lst (da_cons (de_fld (C := t.u_Paper) T.cl_Paper T.na_Paper_coming (dv 1)) da_nil))))
   case' r1 => refine' dss_cons ?s5 ?r5
   case s5 => exact (ds_set (i := 2) sc_x16.nd rfl (by walk_at "o") (PE.imp (pe_call G_x15 (hr.mono (by decide)) rfl T.m_x15 T.F_x15.kp T.b_x15 .nil pass0 (da_cons (dv 1) (da_cons (de_ix ix_tup od_ixT (df (dv 0)) (df de_int)) da_nil))) dcall))
   case' r5 => refine' dss_one ?s7
   case' s7 => refine' ds_ret ?e8
   case e8 => exact (de_ifExp (dt_cmp (op_eqZ hr) od_eqZ (df (de_ix ix_tup od_ixT (df (dv 0)) (df de_int))) (df de_str) (nomark _)) (fe (fe_slice (df (dv 2)) do_none (do_some de_int))) (dv 2))
  case read =>
  clear hr T G_x15
  cases si with
  | com =>
   simp only [Sin.enc]
   walk_at "rz"
   exact ⟨[Str.ofString "name", Str.ofString "coming", Str.ofString "kind", Str.ofString "makers", Str.ofString "happenings"], _, rfl, _, at_coming, q⟩
  | fst wd =>
   simp only [Sin.enc]
   walk_at "rz"
   rw [beq_ne (show Str.ofString "first" ≠ Str.ofString "coming" by decide +kernel), if_neg Bool.false_ne_true]
   refine ⟨c, ts, hs, wd, rfl, hh.1, hh.2, hsi, _, rfl, ?_⟩
   rw [cut1, ← List.map_take]
   exact q
  | lst wd =>
   simp only [Sin.enc]
   walk_at "rz"
   rw [beq_ne (show Str.ofString "last" ≠ Str.ofString "coming" by decide +kernel), if_neg Bool.false_ne_true]
   refine ⟨c, ts, hs, wd, rfl, hh.1, hh.2, hsi, ?_⟩
   show if (Str.ofString "last" == Str.ofString "first") = true then _ else _
   rw [beq_ne (show Str.ofString "last" ≠ Str.ofString "first" by decide +kernel), if_neg Bool.false_ne_true]
   exact q
theorem later_uniq {d k : Int} {u : Str} {r r' : Int} (h : LaterIs d k u r) (h' : LaterIs d k u r') : r = r' := by
 rcases h with ⟨e, h⟩ | ⟨e, y, m, n, D, h⟩ | ⟨e, y, m, n, D, h⟩ <;> rcases h' with ⟨e', h'⟩ | ⟨e', y', m', n', D', h'⟩ | ⟨e', y', m', n', D', h'⟩
 ·rw [h, h']
 ·exact absurd (e'.symm.trans e) ndm
 ·exact absurd (e'.symm.trans e) ndy
 ·exact absurd (e.symm.trans e') ndm
 ·obtain ⟨rfl, rfl, rfl⟩ := D.uniq D'; rw [h, h']
 ·exact absurd (e.symm.trans e') nmy
 ·exact absurd (e.symm.trans e') ndy
 ·exact absurd (e'.symm.trans e) nmy
 ·obtain ⟨rfl, rfl, rfl⟩ := D.uniq D'; rw [h, h']
open Classical in
noncomputable def laterF (d k : Int) (u : Str) : Int := if h : ∃ r, LaterIs d k u r then h.choose else 0
theorem later_eq {d k : Int} {u : Str} {r : Int} (h : LaterIs d k u r) : r = laterF d k u := by
 unfold laterF
 rw [dif_pos ⟨r, h⟩]
 exact later_uniq h (Exists.choose_spec (⟨r, h⟩ : ∃ r, LaterIs d k u r))
structure Rp where
 c : Pp
 ts : List PyData
 hs : List (Int × Str)
def Rp.enc (C : Addr) (r : Rp) : PyData := ppD C r.c r.ts r.hs
noncomputable def reckL (rs : List Rp) (kd : Str) (s : Sin) (k : Int) (u : Str) : List Int := rs.flatMap fun r => if (r.c.kd == kd) = true then (basL r.c r.hs s).map fun b => laterF b k u else []
theorem reckL_len {rs : List Rp} (h : ∀ r ∈ rs, HsOk r.hs) (kd : Str) (s : Sin) (k : Int) (u : Str) : (reckL rs kd s k u).length ≤ 19 * rs.length := by
 unfold reckL
 induction rs with
 | nil => simp
 | cons r rs ih =>
  have ih := ih fun x hx => h x (by simp [hx])
  have hb := basL_len (c := r.c) (h r (by simp)) s
  rw [List.flatMap_cons, List.length_append, List.length_cons]
  split
  ·rw [List.length_map]; omega
  ·simp only [List.length_nil]; omega
def F_reck (C : Addr) : List PyData → (PyData → Prop) → Prop := fun ds Q => ∃ (rs : List Rp) (w kd : Str) (s : Sin) (k : Int) (u : Str), ds = [.list (rs.map (Rp.enc C)), (Pt.five w kd s k u).enc] ∧ (Pt.five w kd s k u).Ok ∧ rs.length ≤ 5 ∧ (∀ r ∈ rs, HsOk r.hs ∧ PyData.strOk r.c.kd = true) ∧ Q (.list ((reckL rs kd s k u).map .int))
theorem ok_reck (T : Txt K mg t) : FnOk P w K mg base CX0 6 t.a_x17 t.d_x17 ["ready", "parts"] (spD K (F_reck t.u_Paper)) := by
 have G_x16 := ok_bases (P := P) (w := w) (base := base) T
 have G_x7 := okd_later (P := P) (w := w) (base := base) T
 refine T.F_x17.okD sc_x17 (fun ds Q h => ?_) (fun cdv A outer s H O ds Q E hr h => ?_)
 ·obtain ⟨rs, w, kd, s, k, u, rfl, _⟩ := h; rfl
 ·obtain ⟨rs, wo, kd, si, k, u, rfl, ok, rl, hr', q⟩ := h
  refine' ⟨_, ?body, ?read⟩
  case body =>
   refine' dss_cons ?s1 ?r1
   case s1 => exact (ds_new (i := 2) sc_x17.nd rfl (by walk_at "o") (fe_lst da_nil))
   case' r1 => refine' dss_cons ?s3 ?r3
   case s3 =>
    refine' ds_forI PassesOwn.never rfl (dv 0) ?a4 gd_name ?b4
    case a4 => exact (pg_name (i := 3) sc_x17.nd rfl (by walk_at "o"))
    case' b4 => refine' dss_one ?s5
    case' s5 => refine' ds_if ?c6 ?a6 dss_nil
    case c6 => exact (dt_cmp (op_eqX hr.units) od_eq (df (de_fld (C := t.u_Paper) T.cl_Paper T.na_Paper_kind (dv 3))) (df (de_ix ix_tup od_ixT (df (dv 1)) (df de_int))) (nomark _))
    case' a6 => refine' dss_one ?s7
    case s7 => exact (ds_ext (i := 2) (pv 2) (fe_compI rfl cs_x17_0 (df (PE.imp (pe_call G_x16 (hr.mono (by decide)) rfl T.m_x16 T.F_x16.kp T.b_x16 .nil pass0 (da_cons (de_ix ix_tup od_ixT (df (dv 1)) (df de_int)) (da_cons (dv 3) da_nil))) dcall)) gd_name keepName (by decide) (fun _ _ _ _ => (pg_name (i := 0) cs_x17_0.nd rfl (by walk_at "o"))) (fun _ _ _ _ => pf_nilD) (fun _ _ _ _ => (PE.imp (pe_call G_x7 (hr.mono (by decide)) rfl T.m_x7 T.F_x7.kp T.b_x7 .nil pass0 (da_cons (dv 0) (da_cons (de_ix ix_tup od_ixT (df (dv 1)) (df de_int)) (da_cons (de_ix ix_tup od_ixT (df (dv 1)) (df de_int)) da_nil)))) dcall))))
   case' r3 => refine' dss_one ?s9
   case s9 => exact (ds_retO (pv 2))
  case read =>
  clear hr T G_x16 G_x7
  walk_at "rz"
  refine ⟨fun i δ => ∃ o3, δ = [some (Sl.v (.list (rs.map (Rp.enc t.u_Paper)))), some (Sl.v (Pt.five wo kd si k u).enc), some (Sl.o ((reckL (rs.take i) kd si k u).map .int)), o3], ⟨_, rfl⟩, ?_, ?_⟩
  ·rintro i z δ hz ⟨o3, rfl⟩
   rw [List.getElem?_map] at hz
   cases hz' : rs[i]? with
   | none => rw [hz'] at hz; cases hz
   | some r =>
    rw [hz'] at hz; cases hz
    obtain ⟨h1, h2⟩ := hr' r (List.mem_of_getElem? hz')
    have bl := basL_len (c := r.c) h1 si
    have il : (rs.take i).length ≤ 5 := by rw [List.length_take]; omega
    have rk := reckL_len (rs := rs.take i) (fun x hx => (hr' x (List.mem_of_mem_take hx)).1) kd si k u
    simp only [Pt.enc]
    walk_at "rz"
    refine ⟨[Str.ofString "name", Str.ofString "coming", Str.ofString "kind", Str.ofString "makers", Str.ofString "happenings"], _, rfl, _, at_kind, shp_str.mpr h2, shp_str.mpr ok.2.1, ?_⟩
    rw [eqv_str]
    have ts : reckL (rs.take (i + 1)) kd si k u = reckL (rs.take i) kd si k u ++ if (r.c.kd == kd) = true then (basL r.c r.hs si).map fun b => laterF b k u else [] := by
     unfold reckL
     rw [List.take_succ, hz', List.flatMap_append]
     simp
    split
    ·rename_i hk
     rw [if_pos hk] at ts
     refine ⟨si, r.c, r.ts, r.hs, rfl, ok.2.2.1, h1, _, rfl, by rw [List.length_map]; omega, compI_e2 (fun _ => true) (fun b => .int (laterF b k u)) (fun b hb R S z1 _ => ?_) ?_⟩
     ·walk_at "rz"
      exact ⟨b, k, u, rfl, ok.2.2.2.2.2, fun x hx => by rw [later_eq hx]; exact z1 rfl⟩
     ·rw [filter_true]
      refine ⟨by rw [List.length_map, List.length_map]; omega, ?_, _, rfl⟩
      rw [ts, List.map_append, List.map_map]; rfl
    ·rename_i hk
     rw [if_neg hk, List.append_nil] at ts
     rw [ts]
     exact ⟨rfl, _, rfl⟩
  ·rintro δ ⟨o3, rfl⟩
   walk_at "rz"
   rw [List.length_map, List.take_of_length_le (Nat.le_refl _)]
   exact q
end
end K19

open PySem L2
namespace K19
open Day
theorem cs_x18_0 : CompScope (defScope s_x18) ["deeds", "ready", "days", "deed"] ["name", "deeds"] 1 [0] { kind := PySem.ScopeKind.function, names := [ (PySem.Str.ofString ".0", PySem.NameKind.local), (PySem.Str.ofString "name", PySem.NameKind.local), (PySem.Str.ofString "Paper", PySem.NameKind.globalImplicit), (PySem.Str.ofString "deeds", PySem.NameKind.free)], isGenerator := false, isCoroutine := false, more := [] : PySem.Scope } := ⟨rfl, by decide +kernel, by decide +kernel, by decide +kernel, rfl, by decide +kernel, by decide +kernel, by decide +kernel, rfl⟩
theorem cs_x18_1 : CompScope (defScope s_x18) ["deeds", "ready", "days", "deed"] ["deed"] 1 [] { kind := PySem.ScopeKind.function, names := [(PySem.Str.ofString ".0", PySem.NameKind.local), (PySem.Str.ofString "deed", PySem.NameKind.local)], isGenerator := false, isCoroutine := false, more := [] : PySem.Scope } := ⟨rfl, by decide +kernel, by decide +kernel, by decide +kernel, rfl, by decide +kernel, by decide +kernel, by decide +kernel, rfl⟩
section
variable {P : Program} {w : World} {K : PySem.W.Frag} {mg : Str → Option Value} {base : Heap} {t : Adr}
def BaseOf (xs : List De) (c : Pp) : Sin → Int → Prop
 | .com, b => b = c.d
 | .fst wd, b => (b, wd) ∈ haps xs c.nm ∧ ∀ b', (b', wd) ∈ haps xs c.nm → b ≤ b'
 | .lst wd, b => (b, wd) ∈ haps xs c.nm
def RuleZ (xs : List De) (x : De) (z : Int) : Prop := ∃ d nm w kd s k u, x = .oth (Str.ofString "rule") d nm [(Pt.five w kd s k u).enc] ∧ KG w ∧ ∃ c ∈ paps xs, c.kd = kd ∧ ∃ b, BaseOf xs c s b ∧ z = laterF b k u
def TurnD (xs : List De) (z : Int) : Prop := (∃ x ∈ xs, x.d = z) ∨ ∃ x ∈ xs, RuleZ xs x z
theorem sin_inj {s s' : Sin} (h : s.enc = s'.enc) : s = s' := by
 have n1 : Str.ofString "first" ≠ Str.ofString "last" := by decide +kernel
 cases s <;> cases s' <;> simp only [Sin.enc, PyData.tuple.injEq, List.cons.injEq, PyData.str.injEq, and_true, reduceCtorEq, and_false] at h
 ·rfl
 ·rw [h.2]
 ·exact absurd h.1 n1
 ·exact absurd h.1.symm n1
 ·rw [h.2]
theorem five_inj {w w' kd kd' : Str} {s s' : Sin} {k k' : Int} {u u' : Str} (h : (Pt.five w kd s k u).enc = (Pt.five w' kd' s' k' u').enc) : w = w' ∧ True ∧ True ∧ kd = kd' ∧ s = s' ∧ k = k' ∧ u = u' := by
 simp only [Pt.enc, PyData.tuple.injEq, List.cons.injEq, PyData.str.injEq, PyData.int.injEq, and_true] at h
 exact ⟨h.1, trivial, trivial, h.2.1, sin_inj h.2.2.1, h.2.2.2.1, h.2.2.2.2⟩
theorem dayL_mem {hs : List (Int × Str)} {wd : Str} {b : Int} : b ∈ dayL hs wd ↔ (b, wd) ∈ hs := by
 unfold dayL
 rw [List.mem_map]
 constructor
 ·rintro ⟨⟨a, v⟩, h, rfl⟩
  obtain ⟨h1, h2⟩ := List.mem_filter.mp h
  rw [← eq_of_beq h2]; exact h1
 ·intro h; exact ⟨(b, wd), List.mem_filter.mpr ⟨h, beq_self_eq_true _⟩, rfl⟩
theorem basL_iff {xs : List De} {c : Pp} {hs : List (Int × Str)} (h : HapsOk xs c.nm hs) (s : Sin) (b : Int) : b ∈ basL c hs s ↔ BaseOf xs c s b := by
 have mem : ∀ z, z ∈ hs ↔ z ∈ haps xs c.nm := fun z => h.1.mem_iff
 cases s with
 | com => show b ∈ [c.d] ↔ b = c.d; simp
 | lst wd => show b ∈ dayL hs wd ↔ (b, wd) ∈ haps xs c.nm; rw [dayL_mem, mem]
 | fst wd =>
  show b ∈ (dayL hs wd).take 1 ↔ (b, wd) ∈ haps xs c.nm ∧ ∀ b', (b', wd) ∈ haps xs c.nm → b ≤ b'
  have pw : (dayL hs wd).Pairwise (· ≤ ·) := by
   unfold dayL
   rw [List.pairwise_map]
   refine (h.2.sublist List.filter_sublist).imp fun {x y} z => ?_
   unfold ltP at z
   simp only [Bool.or_eq_true, Bool.and_eq_true, decide_eq_true_eq] at z
   rcases z with z | z
   ·omega
   ·omega
  have m2 : ∀ z, z ∈ dayL hs wd ↔ (z, wd) ∈ haps xs c.nm := fun z => by rw [dayL_mem, mem]
  cases e : dayL hs wd with
  | nil =>
   rw [e] at m2
   constructor
   ·intro z; cases z
   ·rintro ⟨z, _⟩; exact absurd ((m2 b).mpr z) (by simp)
  | cons a l =>
   rw [e] at m2 pw
   have hp := List.pairwise_cons.mp pw
   rw [List.take_succ_cons, List.take_zero, List.mem_singleton]
   constructor
   ·rintro rfl
    refine ⟨(m2 _).mp (by simp), fun b' hb' => ?_⟩
    rcases List.mem_cons.mp ((m2 b').mpr hb') with z | z
    ·omega
    ·exact hp.1 b' z
   ·rintro ⟨h1, h2⟩
    have h3 := h2 a ((m2 a).mp (by simp))
    rcases List.mem_cons.mp ((m2 b).mpr h1) with z | z
    ·exact z
    ·have := hp.1 b z; omega
def kuOf : De → Int × Str
 | .oth _ _ _ [.tuple [_, _, _, .int k, .str u]] => (k, u)
 | _ => (0, Str.ofString "")
noncomputable def cand (xs : List De) : List Int := xs.map De.d ++ (xs.filter De.isR).flatMap fun x => ((paps xs).map fun c => laterF c.d (kuOf x).1 (kuOf x).2) ++ (xs.filter De.isH).map fun h => laterF h.d (kuOf x).1 (kuOf x).2
theorem flat_len {α : Type} {f : α → List Int} {n : Nat} : ∀ {l : List α}, (∀ x ∈ l, (f x).length ≤ n) → (l.flatMap f).length ≤ n * l.length
 | [], _ => by simp
 | x :: l, h => by
  have h1 := h x (by simp)
  have ih := flat_len (l := l) fun y hy => h y (by simp [hy])
  rw [List.flatMap_cons, List.length_append, List.length_cons, Nat.mul_succ]
  omega
theorem cand_len {xs : List De} (g : GoodD xs) : (cand xs).length < 64 := by
 unfold cand
 have h1 := g.cn
 have h2 := g.cP
 have h3 := g.cR
 have h4 := g.cH
 have := flat_len (f := fun x => ((paps xs).map fun c => laterF c.d (kuOf x).1 (kuOf x).2) ++ (xs.filter De.isH).map fun h => laterF h.d (kuOf x).1 (kuOf x).2) (n := 8) (l := xs.filter De.isR) fun x _ => by
  rw [List.length_append, List.length_map, List.length_map]; omega
 rw [List.length_append, List.length_map]
 omega
theorem haps_mem {xs : List De} (g : GoodD xs) {nm wd : Str} {b : Int} : (b, wd) ∈ haps xs nm ↔ De.oth (Str.ofString "happens") b nm [.str wd] ∈ xs := by
 unfold haps
 rw [List.mem_map]
 constructor
 ·rintro ⟨x, hx, e⟩
  obtain ⟨h1, h2⟩ := List.mem_filter.mp hx
  cases x with
  | pap p => cases h2
  | oth w d n r =>
   simp only [hapF, Bool.and_eq_true, beq_iff_eq] at h2
   obtain ⟨rfl, rfl⟩ := h2
   obtain ⟨v, rfl, _⟩ := g.hp _ _ _ h1
   simp only [hapP, Prod.mk.injEq] at e
   obtain ⟨rfl, rfl⟩ := e
   exact h1
 ·intro h
  exact ⟨_, List.mem_filter.mpr ⟨h, by simp only [hapF, beq_self_eq_true, Bool.and_self]⟩, rfl⟩
theorem turn_cand {xs : List De} (g : GoodD xs) {z : Int} (h : TurnD xs z) : z ∈ cand xs := by
 unfold cand
 rcases h with ⟨x, hx, rfl⟩ | ⟨x, hx, d, nm, w, kd, s, k, u, rfl, hw, c, hc, _, b, hb, rfl⟩
 ·exact List.mem_append_left _ (List.mem_map.mpr ⟨x, hx, rfl⟩)
 ·refine List.mem_append_right _ (List.mem_flatMap.mpr ⟨_, List.mem_filter.mpr ⟨hx, beq_self_eq_true _⟩, ?_⟩)
  have hh : ∀ wd, (b, wd) ∈ haps xs c.nm → laterF b k u ∈ (xs.filter De.isH).map fun h => laterF h.d k u := fun wd z =>
   List.mem_map.mpr ⟨_, List.mem_filter.mpr ⟨(haps_mem g).mp z, beq_self_eq_true _⟩, rfl⟩
  cases s with
  | com =>
   have hb : b = c.d := hb
   exact List.mem_append_left _ (List.mem_map.mpr ⟨c, hc, by rw [hb]; rfl⟩)
  | fst wd => exact List.mem_append_right _ (hh wd hb.1)
  | lst wd => exact List.mem_append_right _ (hh wd hb)
theorem nd_len {l L : List Int} (nd : l.Nodup) (hm : ∀ z ∈ l, z ∈ L) : l.length ≤ L.length := by
 induction l generalizing L with
 | nil => simp
 | cons a l ih =>
  rw [List.nodup_cons] at nd
  obtain ⟨p, q, e⟩ := List.append_of_mem (hm a (by simp))
  have := ih (L := p ++ q) nd.2 fun b hb => by
   have hb' := hm b (by simp [hb])
   rw [e] at hb'
   rcases List.mem_append.mp hb' with z | z
   ·exact List.mem_append_left _ z
   ·rcases List.mem_cons.mp z with z | z
    ·exact absurd (by rw [← z]; exact hb) nd.1
    ·exact List.mem_append_right _ z
  rw [e, List.length_append, List.length_cons, List.length_cons]
  rw [List.length_append] at this
  omega
theorem few {ss : List Int} {L : List Int} (h : ∀ z ∈ ss, z ∈ L) : (ss.foldl addSN []).length ≤ L.length :=
 nd_len (foldSN_nd .nil) fun z hz => by
  rw [foldSN_mem] at hz
  rcases hz with y | y
  ·cases y
  ·exact h z y
def F_turning : List PyData → (PyData → Prop) → Prop := fun ds Q => ∃ xs : List De, ds = [.tuple (xs.map De.enc)] ∧ GoodD xs ∧ ∀ ns : List Int, (∀ z, z ∈ ns ↔ TurnD xs z) → ns.Pairwise (· < ·) → Q (.tuple (ns.map .int))
theorem ok_turning (T : Txt K mg t) : FnOk P w K mg base CX0 9 t.a_x18 t.d_x18 ["deeds"] (spD K F_turning) := by
 have G_x8 := ok_init (P := P) (w := w) (base := base) T
 have G_x12 := ok_papers (P := P) (w := w) (base := base) T
 have G_x17 := ok_reck (P := P) (w := w) (base := base) T
 refine T.F_x18.okD sc_x18 (fun ds Q h => ?_) (fun cdv A outer s H O ds Q E hr h => ?_)
 ·obtain ⟨xs, rfl, _⟩ := h; rfl
 ·obtain ⟨xs, rfl, gd, q⟩ := h
  refine' ⟨_, ?body, ?read⟩
  case body =>
   refine' dss_cons ?s1 ?r1
   case s1 => exact (ds_setC (i := 1) sc_x18.nd rfl (by walk_at "o") (fu_compTI rfl cs_x18_0 (df (PE.imp (pe_call G_x12 (hr.mono (by decide)) rfl T.m_x12 T.F_x12.kp T.b_x12 .nil pass0 (da_cons (dv 0) da_nil)) dcall)) gd_name keepName (by decide) (fun _ _ _ _ => (pg_name (i := 0) cs_x18_0.nd rfl (by walk_at "o"))) (fun _ _ _ _ => pf_nilD) (fun _ _ _ _ => (PE.imp (pe_make T.mk_Paper G_x8 (hr.mono (by decide)) rfl T.c_Paper T.b_x8 .nil pass0 (da_cons (dv 1) (da_cons (dv 0) da_nil))) dmake))))
   case' r1 => refine' dss_cons ?s3 ?r3
   case s3 => exact (ds_newC (i := 2) sc_x18.nd rfl (by walk_at "o") (fu_compTI rfl cs_x18_1 (df (dv 0)) gd_name keepName (by decide) (fun _ _ _ _ => (pg_name (i := 0) cs_x18_1.nd rfl (by walk_at "o"))) (fun _ _ _ _ => pf_nilD) (fun _ _ _ _ => (de_ix ix_tup od_ixT (df (dv 0)) (df de_int)))))
   case' r3 => refine' dss_cons ?s5 ?r5
   case s5 =>
    refine' ds_forTI PassesOwn.never rfl (dv 0) ?a6 gd_name ?b6
    case a6 => exact (pg_name (i := 3) sc_x18.nd rfl (by walk_at "o"))
    case' b6 => refine' dss_one ?s7
    case' s7 => refine' ds_if ?c8 ?a8 dss_nil
    case c8 => exact (PW.pt (dw_and (dt_cmp (op_eqZ hr) od_eqZ (df (de_ix ix_tup od_ixT (df (dv 3)) (df de_int))) (df de_str) (nomark _)) (dw_and1 (dt_cmp (op_inZ hr) od_inZ (df (de_ix ix_tup od_ixT (df (de_ix ix_tup od_ixT (df (dv 3)) (df de_int))) (df de_int))) (df (de_tup (da_cons de_str (da_cons de_str da_nil)))) rfl))))
    case' a8 => refine' dss_one ?s9
    case s9 => exact (ds_extD (i := 2) (pv 2) (PE.imp (pe_call G_x17 (hr.mono (by decide)) rfl T.m_x17 T.F_x17.kp T.b_x17 .nil pass0 (da_cons (dv 1) (da_cons (de_ix ix_tup od_ixT (df (dv 3)) (df de_int)) da_nil))) dcall))
   case' r5 => refine' dss_one ?s11
   case s11 => exact (ds_ret (PE.imp (pe_callTy call_tuple_of rfl T.n_tuple bt_tuple (db_cons (df (fe (fe_sortSetN rfl rfl T.n_sorted PyProof.Rows.boot_sorted rfl T.n_set (db_cons (dw 2) db_nil)))) db_nil)) (dcb cd_tupOf)))
  case read =>
  clear hr T G_x8 G_x12 G_x17
  walk_at "rz"
  have ln := gd.cn
  have ol := ordP_len (ps := paps xs)
  have pl := gd.cP
  refine ⟨xs, rfl, gd.gx, _, rfl, by rw [List.length_map, List.length_map]; omega, ?_⟩
  refine ⟨fun i acc => ∃ rs : List Rp, acc = rs.map (Rp.enc t.u_Paper) ∧ rs.map (·.c) = (ordP (paps xs)).take i ∧ ∀ r ∈ rs, HapsOk xs r.c.nm r.hs, ⟨[], rfl, rfl, by simp⟩, ?_, ?_⟩
  ·rintro i z acc hz ⟨rs, rfl, hc, hh⟩
   rw [List.getElem?_map, List.getElem?_map] at hz
   cases hz' : (ordP (paps xs))[i]? with
   | none => rw [hz'] at hz; cases hz
   | some c =>
    rw [hz'] at hz; cases hz
    walk_at "rz"
    refine ⟨xs, c, rfl, gd, ordP_mem.mp (List.mem_of_getElem? hz'), fun ts hs ho => ⟨rs ++ [⟨c, ts, hs⟩], by rw [List.map_append]; rfl, by rw [List.map_append, hc, List.take_succ, hz']; rfl, fun r hr => ?_⟩⟩
    rcases List.mem_append.mp hr with y | y
    ·exact hh r y
    ·rw [List.mem_singleton] at y; rw [y]; exact ho
  ·rintro acc ⟨rs, rfl, hc, hh⟩
   rw [List.length_map, List.length_map, List.take_of_length_le (Nat.le_refl _)] at hc
   have rl : rs.length ≤ 5 := by
    have := congrArg List.length hc
    rw [List.length_map] at this; omega
   have cm : ∀ r ∈ rs, r.c ∈ paps xs := fun r hr => ordP_mem.mp (by rw [← hc]; exact List.mem_map.mpr ⟨r, hr, rfl⟩)
   have hok : ∀ r ∈ rs, HsOk r.hs ∧ PyData.strOk r.c.kd = true := fun r hr => by
    have ho := hh r hr
    refine ⟨⟨?_, fun z hz => ?_⟩, gd.gx.gp.kd _ (cm r hr)⟩
    ·rw [ho.1.length_eq]; unfold haps; rw [List.length_map]
     exact Nat.le_trans (List.length_filter_le _ _) ln
    ·obtain ⟨b, wd⟩ := z
     obtain ⟨v, e, hv⟩ := gd.hp _ _ _ ((haps_mem gd).mp (ho.1.mem_iff.mp hz))
     simp only [List.cons.injEq, PyData.str.injEq, and_true] at e
     rw [e]; exact hv
   have rk : ∀ kd s k u z, z ∈ reckL rs kd s k u ↔ ∃ c ∈ paps xs, c.kd = kd ∧ ∃ b, BaseOf xs c s b ∧ z = laterF b k u := fun kd s k u z => by
    unfold reckL
    rw [List.mem_flatMap]
    constructor
    ·rintro ⟨r, hr, h⟩
     split at h
     ·rename_i hk
      obtain ⟨b, hb, rfl⟩ := List.mem_map.mp h
      exact ⟨r.c, cm r hr, eq_of_beq hk, b, (basL_iff (hh r hr) s b).mp hb, rfl⟩
     ·cases h
    ·rintro ⟨c, hc', hk, b, hb, rfl⟩
     have : c ∈ rs.map (·.c) := by rw [hc]; exact ordP_mem.mpr hc'
     obtain ⟨r, hr, rfl⟩ := List.mem_map.mp this
     refine ⟨r, hr, ?_⟩
     rw [if_pos (by rw [hk]; exact beq_self_eq_true _)]
     exact List.mem_map.mpr ⟨b, (basL_iff (hh r hr) s b).mpr hb, rfl⟩
   refine ⟨by rw [List.length_map]; omega, compI_e2 (fun _ => true) (fun x : De => .int x.d) (fun x hx R S h1 _ => ?_) ?_⟩
   ·cases x <;> simp only [De.enc, Pp.enc] <;> walk_at "rz" <;> exact h1 rfl
   ·rw [filter_true]
    refine ⟨fun i δ => ∃ (L : List Int) (o3 : Option Sl), L.length ≤ 19 + 95 * i ∧ (∀ z, z ∈ L ↔ (∃ x ∈ xs, x.d = z) ∨ ∃ x ∈ xs.take i, RuleZ xs x z) ∧ δ = [some (Sl.v (.tuple (xs.map De.enc))), some (Sl.v (.list (rs.map (Rp.enc t.u_Paper)))), some (Sl.o (L.map .int)), o3], ⟨xs.map De.d, _, by rw [List.length_map]; omega, fun z => by simp, by rw [List.map_map]; rfl⟩, ?_, ?_⟩
    ·rintro i z δ hz ⟨L, o3, hL, hm, rfl⟩
     rw [List.getElem?_map] at hz
     cases hz' : xs[i]? with
     | none => rw [hz'] at hz; cases hz
     | some x =>
      rw [hz'] at hz; cases hz
      have hx := List.mem_of_getElem? hz'
      have hi : i < 19 := by have := (List.getElem?_eq_some_iff.mp hz').1; omega
      have ts : xs.take (i + 1) = xs.take i ++ [x] := by rw [List.take_succ, hz']; rfl
      have no : ¬ (∃ z, RuleZ xs x z) → ∀ z, z ∈ L ↔ (∃ x ∈ xs, x.d = z) ∨ ∃ x ∈ xs.take (i + 1), RuleZ xs x z := fun h z => by
       rw [hm z, ts]
       refine or_congr_right ⟨fun ⟨y, hy, h'⟩ => ⟨y, List.mem_append_left _ hy, h'⟩, fun ⟨y, hy, h'⟩ => ?_⟩
       rcases List.mem_append.mp hy with v | v
       ·exact ⟨y, v, h'⟩
       ·rw [List.mem_singleton] at v; rw [v] at h'; exact absurd ⟨z, h'⟩ h
      cases x with
      | pap p =>
       simp only [De.enc, Pp.enc]
       walk_at "rz"
       exact ⟨L, by omega, no (fun ⟨z, d, nm, w, kd, s, k, u, e, _⟩ => by cases e), rfl, _, rfl⟩
      | oth wo d nm r =>
       simp only [De.enc]
       walk_at "rz"
       by_cases hw : wo = Str.ofString "rule"
       ·subst hw
        obtain ⟨pt, rfl, ok⟩ := gd.ru _ _ _ hx
        rw [if_pos (beq_self_eq_true _)]
        cases pt with
        | two w2 kd =>
         refine ⟨_, atI_c3, _, rfl, _, atI_c0, rfl, ?_⟩
         rw [eqv_str, eqv_str, beq_ne (fun e => ok.1 (.inl e.symm)), beq_ne (fun e => ok.1 (.inr e.symm)), if_neg (by decide)]
         exact ⟨L, by omega, no (fun ⟨z, d', nm', w', kd', s', k', u', e, _⟩ => by
          simp only [De.oth.injEq, List.cons.injEq, Pt.enc, PyData.tuple.injEq] at e
          exact absurd e.2.2.2.1.2.2 (by simp)), rfl, _, rfl⟩
        | five w2 kd s k u =>
         refine ⟨_, atI_c3, _, rfl, _, atI_c0, rfl, ?_⟩
         have hk : ((PyData.str (Str.ofString "keep")).eqv (PyData.str w2) || (PyData.str (Str.ofString "gone")).eqv (PyData.str w2)) = true := by
          rw [eqv_str, eqv_str]
          rcases ok.1 with e | e <;> rw [e] <;> decide +kernel
         rw [if_pos hk]
         have rkl := reckL_len (fun x hx => (hok x hx).1) kd s k u
         refine ⟨_, atI_c3, rs, w2, kd, s, k, u, rfl, ok, rl, hok, _, rfl, by rw [List.length_map, List.length_map]; omega, L ++ reckL rs kd s k u, by rw [List.length_append]; omega, fun z => ?_, by rw [List.map_append], _, rfl⟩
         rw [List.mem_append, hm z, rk, ts]
         constructor
         ·rintro ((h | ⟨y, hy, h'⟩) | h)
          ·exact .inl h
          ·exact .inr ⟨y, List.mem_append_left _ hy, h'⟩
          ·exact .inr ⟨_, by simp, d, nm, w2, kd, s, k, u, rfl, ok.1, h⟩
         ·rintro (h | ⟨y, hy, h'⟩)
          ·exact .inl (.inl h)
          ·rcases List.mem_append.mp hy with v | v
           ·exact .inl (.inr ⟨y, v, h'⟩)
           ·rw [List.mem_singleton] at v
            rw [v] at h'
            obtain ⟨d', nm', w', kd', s', k', u', e, _, h'⟩ := h'
            simp only [De.oth.injEq, List.cons.injEq, and_true, true_and] at e
            obtain ⟨_, _, _, rfl, rfl, rfl, rfl⟩ := (five_inj e.2.2)
            exact .inr h'
       ·rw [beq_ne hw, if_neg Bool.false_ne_true]
        exact ⟨L, by omega, no (fun ⟨z, d', nm', w', kd', s', k', u', e, _⟩ => by cases e; exact hw rfl), rfl, _, rfl⟩
    ·rintro δ ⟨L, o3, hL, hm, rfl⟩
     walk_at "rz"
     rw [List.length_map] at hL
     rw [List.length_map, List.take_of_length_le (Nat.le_refl _)] at hm
     refine ⟨L, rfl, by omega, Nat.lt_of_le_of_lt (few fun z hz => turn_cand gd ((hm z).mp hz)) (cand_len gd), fun ns h1 h2 => q ns (fun z => (h1 z).trans (hm z)) h2⟩
end
end K19

open PySem L2
namespace K19
section
variable {P : Program} {w : World} {K : PySem.W.Frag} {mg : Str → Option Value} {base : Heap} {t : Adr}
theorem br3 {g : DG} {tb : DS} {E : DEnds} {xs : List PyData} {δf : Int → Dl} {C D p q X : Prop} [Decidable C] [Decidable D] {d1 d2 d3 : Int} (hp : p) (hq : q) (hX : X) (key : ∀ dg, forI g tb E xs (δf dg)) :
  if C then p ∧ q ∧ forI g tb E xs (δf d1) else X ∧ if D then p ∧ q ∧ forI g tb E xs (δf d2) else p ∧ q ∧ forI g tb E xs (δf d3) := by
 split
 ·exact ⟨hp, hq, key _⟩
 ·refine ⟨hX, ?_⟩
  split
  ·exact ⟨hp, hq, key _⟩
  ·exact ⟨hp, hq, key _⟩
def F_cell : List PyData → (PyData → Prop) → Prop := fun ds Q => ∃ (ns : List Int) (k : Int), ds = [scrD (ns.map .int), .int k] ∧ 0 ≤ k ∧ k ≤ 1000 ∧ ∀ c : Int, Q (.int c)
theorem ok_cell (T : Txt K mg t) : FnOk P w K mg base CX0 1 t.a_x19 t.d_x19 ["_law_script", "_law_k"] (spD K F_cell) := by
 refine T.F_x19.okD sc_x19 (fun ds Q h => ?_) (fun cdv A outer s H O ds Q E hr h => ?_)
 ·obtain ⟨ns, k, rfl, _⟩ := h; rfl
 ·obtain ⟨ns, k, rfl, k0, k1, q⟩ := h
  refine' ⟨_, ?body, ?read⟩
  case body =>
   refine' dss_cons ?s1 ?r1
   case s1 =>
    refine' ds_if ?c2 ?a2 dss_nil
    case c2 => exact (dt_cmp op_lt od_bl (df (dv 1)) (df (PE.imp (pe_callB call_len_seq rfl T.n_len PySem.boot_len (db_cons (df (dv 0)) db_nil)) (dcb cd_lenS))) (nomark _))
    case' a2 => refine' dss_one ?s3
    case s3 => exact (ds_ret (de_ix ix_list od_ixSc (df (dv 0)) (df (dv 1))))
   case' r1 => refine' dss_cons ?s5 ?r5
   case s5 =>
    refine' ds_set (i := 2) sc_x19.nd rfl (by walk_at "o") ?e6 (hs := swaps_BinOp)
    case e6 => exact (de_op op_mod od_intC (df (de_op op_mul od_intC (df de_int) (df (de_op op_add od_int (df (de_op op_add od_int (df (de_op op_mul od_intC (df (dv 1)) (df (dv 1)))) (df (de_op op_mul od_intC (df de_int) (df (dv 1)))))) (df de_int))))) (df de_int))
   case' r5 => refine' dss_cons ?s8 ?r8
   case s8 =>
    refine' ds_forI PassesOwn.never rfl (fe (fe_sliceSc (df (dv 0)) do_none (do_some de_int))) ?a9 gd_name ?b9
    case a9 => exact (pg_name (i := 3) sc_x19.nd rfl (by walk_at "o"))
    case' b9 => refine' dss_one ?s10
    case' s10 => refine' ds_set (i := 2) sc_x19.nd rfl (by walk_at "o") ?e11 (hs := swaps_BinOp)
    case e11 => exact (de_op op_mod od_intC (df (de_op op_add od_int (df (de_op op_mul od_intC (df (dv 2)) (df de_int))) (df (dv 3)))) (df de_int))
   case' r8 => refine' dss_one ?s13
   case s13 => exact (ds_ret (dv 2))
  case read =>
  clear hr T
  walk_at "rz"
  refine ⟨_, rfl, ?_⟩
  rw [List.length_map]
  split
  ·rename_i hlt
   obtain ⟨j, rfl⟩ := Int.eq_ofNat_of_zero_le k0
   have hj : j < ns.length := by omega
   exact ⟨_, rfl, .int ns[j], atI_nat (by simp [hj]), q _⟩
  ·refine ⟨.inl ⟨by omega, by omega⟩, _, rfl, fun i δ => ∃ (st : Int) (o : Option Sl), δ = [some (Sl.v (scrD (ns.map .int))), some (Sl.v (.int k)), some (Sl.v (.int st)), o], ⟨_, _, rfl⟩, ?_, ?_⟩
   ·rintro i x δ hx ⟨st, o, rfl⟩
    have hm := List.mem_of_getElem? hx
    unfold cutD at hm
    have hm2 := List.mem_of_mem_drop (List.mem_of_mem_take hm)
    obtain ⟨c, _, rfl⟩ := List.mem_map.mp hm2
    walk_at "rz"
    first | exact ⟨_, _, rfl, rfl⟩ | exact ⟨⟨_, rfl⟩, ⟨_, rfl⟩⟩
   ·rintro δ ⟨st, o, rfl⟩
    walk_at "rz"
    exact q _
def F_numbers : List PyData → (PyData → Prop) → Prop := fun ds Q => ∃ c m : Int, ds = [.int c, .int m] ∧ 0 ≤ m ∧ m ≤ 64 ∧ ∀ ns : List Int, (ns.length : Int) = m → (∀ z ∈ ns, 0 ≤ z ∧ z < 2000000000) → Q (.list (ns.map .int))
theorem ok_numbers (T : Txt K mg t) : FnOk P w K mg base CX0 1 t.a_x20 t.d_x20 ["_law_cell_here", "_law_many"] (spD K F_numbers) := by
 refine T.F_x20.okD sc_x20 (fun ds Q h => ?_) (fun cdv A outer s H O ds Q E hr h => ?_)
 ·obtain ⟨c, m, rfl, _⟩ := h; rfl
 ·obtain ⟨c, m, rfl, m0, m1, q⟩ := h
  refine' ⟨_, ?body, ?read⟩
  case body =>
   refine' dss_cons ?s1 ?r1
   case s1 => exact (ds_new (i := 2) sc_x20.nd rfl (by walk_at "o") (fe_lst da_nil))
   case' r1 => refine' dss_cons ?s3 ?r3
   case s3 =>
    refine' ds_set (i := 3) sc_x20.nd rfl (by walk_at "o") ?e4 (hs := swaps_BinOp)
    case e4 => exact (de_op op_mod od_intC (df (de_op op_mul od_intC (df (de_op op_add od_int (df (de_op op_mod od_intC (df (dv 0)) (df de_int))) (df de_int))) (df de_int))) (df de_int))
   case' r3 => refine' dss_cons ?s6 ?r6
   case s6 => exact (ds_set (i := 4) sc_x20.nd rfl (by walk_at "o") de_int)
   case' r6 => refine' dss_cons ?s8 ?r8
   case s8 =>
    refine' ds_if ?c9 ?a9 dss_nil
    case c9 => exact (PW.pt (dw_or (dt_cmp op_lt od_bl (df (dv 0)) (df de_int) (nomark _)) (dw_or1 (dt_cmp op_ge od_bl (df (dv 0)) (df (de_op op_pow od_intC (df de_int) (df de_int))) (nomark _)))))
    case' a9 => refine' dss_one ?s10
    case s10 => exact (ds_set (i := 4) sc_x20.nd rfl (by walk_at "o") (PE.imp (pe_callB call_abs rfl T.n_abs PyProof.Rows.boot_abs (db_cons (df (dv 0)) db_nil)) (dcb cd_abs)))
   case' r8 => refine' dss_cons ?s12 ?r12
   case s12 =>
    refine' ds_forRI PassesOwn.never rfl rfl T.n_range (da_cons (dv 1) da_nil) ?a13 gd_name ?b13
    case a13 => exact (pg_name (i := 5) sc_x20.nd rfl (by walk_at "o"))
    case' b13 => refine' dss_cons ?s14 ?r14
    case s14 =>
     generalize hG15 : Expr.BinOp _ _ _ _ = eg15
     refine' ds_set (i := 3) sc_x20.nd rfl (by walk_at "o") ?e15 (hs := by subst hG15; exact swaps_BinOp)
     case' e15 => subst hG15
     exact (de_op op_mod od_intC (df (de_op op_add od_int (df (de_op op_add od_int (df (de_op op_mul od_intC (df (dv 3)) (df (de_op op_add od_int (df (de_op op_mod od_intC (df (dv 3)) (df de_int))) (df de_int))))) (df (de_op op_mul od_intC (df de_int) (df (dv 5)))))) (df de_int))) (df de_int))
    case' r14 => refine' dss_cons ?s17 ?r17
    case s17 =>
     refine' ds_app (i := 2) (pv 2) ?e18
     case' e18 => refine' de_ix ix_list od_ixL (df ?a19) ?b19
     case a19 => exact (fe (fe_lst (da_cons (dv 3) (da_cons (de_op op_mod od_intC (df (dv 4)) (df de_int)) da_nil))))
     case b19 => exact (df (PE.imp (pe_callTy call_int1 rfl T.n_int bt_int (db_cons (df (de_cmp op_gt od_bl (df (dv 4)) (df de_int) (nomark _))) db_nil)) (dcb cd_int)))
    case' r17 => refine' dss_one ?s21
    case s21 => exact (ds_set (i := 4) sc_x20.nd rfl (by walk_at "o") (de_op op_fdiv od_intC (df (dv 4)) (df de_int)))
   case' r12 => refine' dss_one ?s23
   case s23 => exact (ds_retO (pv 2))
  case read =>
  clear hr T
  walk_at "rz"
  have st0 : 0 ≤ (c % 1999999913 + 41) * 674506081 % 1999999913 ∧ (c % 1999999913 + 41) * 674506081 % 1999999913 < 1999999913 := ⟨Int.emod_nonneg _ (by decide), Int.emod_lt_of_pos _ (by decide)⟩
  generalize (c % 1999999913 + 41) * 674506081 % 1999999913 = st at *
  have b1 : -4611686018427387904 ≤ m := by omega
  have b2 : m < 4611686018427387904 := by omega
  refine br3 (δf := fun dg => [some (Sl.v (.int c)), some (Sl.v (.int m)), some (Sl.o []), some (Sl.v (.int st)), some (Sl.v (.int dg)), none]) b1 b2 (by decide) ?key
  case key =>
   intro dg
   refine ⟨fun i δ => ∃ (ns : List Int) (st dg : Int) (o : Option Sl), ns.length = i ∧ (∀ z ∈ ns, 0 ≤ z ∧ z < 2000000000) ∧ 0 ≤ st ∧ st < 1999999913 ∧ δ = [some (Sl.v (.int c)), some (Sl.v (.int m)), some (Sl.o (ns.map .int)), some (Sl.v (.int st)), some (Sl.v (.int dg)), o], ⟨[], st, dg, none, rfl, by simp, st0.1, st0.2, rfl⟩, ?_, ?_⟩
   ·rintro i x δ hx ⟨ns, st, dg, o, hl, hn, s0, s1, rfl⟩
    obtain ⟨hi, rfl⟩ := rangeD_at hx
    clear st0
    walk_at "rz"
    have n0 : 0 ≤ (st * (st % 64921 + 39119) + 11 * (0 + (i : Int)) + 3) % 1999999913 := Int.emod_nonneg _ (by decide)
    have n1 : (st * (st % 64921 + 39119) + 11 * (0 + (i : Int)) + 3) % 1999999913 < 1999999913 := Int.emod_lt_of_pos _ (by decide)
    generalize (st * (st % 64921 + 39119) + 11 * (0 + (i : Int)) + 3) % 1999999913 = nx at *
    have d0 : 0 ≤ dg % 1000000 := Int.emod_nonneg _ (by decide)
    have d1 : dg % 1000000 < 1000000 := Int.emod_lt_of_pos _ (by decide)
    obtain ⟨z, hz, z0, z1⟩ : ∃ z : Int, atI [PyData.int nx, PyData.int (dg % 1000000)] (if 0 < dg then 1 else 0) = some (.int z) ∧ 0 ≤ z ∧ z < 2000000000 := by
     split
     ·exact ⟨_, atI_c1, d0, by omega⟩
     ·exact ⟨_, atI_c0, n0, by omega⟩
    refine ⟨.inl ⟨by omega, by omega⟩, .int z, hz, by rw [List.length_map]; omega, ⟨_, rfl⟩, ns ++ [z], by simp [hl], fun y hy => ?_, nx, n0, n1, by simp, rfl, _, rfl⟩
    rcases List.mem_append.mp hy with h | h
    ·exact hn y h
    ·rw [List.mem_singleton] at h; rw [h]; exact ⟨z0, z1⟩
   ·rintro δ ⟨ns, st, dg, o, hl, hn, s0, s1, rfl⟩
    walk_at "rz"
    have hm : (ns.length : Int) = m := by rw [hl]; unfold rangeD; simp; omega
    exact q ns hm hn
end
end K19

open PySem L2
namespace K19
open Day
theorem cs_x21_0 : CompScope (defScope s_x21) ["_law_x", "_law_many", "_law_letters", "_law_words", "_law_size", "_law_at", "_law_stem", "_law_ends"] ["_law_k", "_law_words", "_law_x"] 1 [3, 0] { kind := PySem.ScopeKind.function, names := [ (PySem.Str.ofString ".0", PySem.NameKind.local), (PySem.Str.ofString "_law_k", PySem.NameKind.local), (PySem.Str.ofString "len", PySem.NameKind.globalImplicit), (PySem.Str.ofString "_law_words", PySem.NameKind.free), (PySem.Str.ofString "_law_x", PySem.NameKind.free)], isGenerator := false, isCoroutine := false, more := [] : PySem.Scope } := ⟨rfl, by decide +kernel, by decide +kernel, by decide +kernel, rfl, by decide +kernel, by decide +kernel, by decide +kernel, rfl⟩
theorem cs_x21_1 : CompScope (defScope s_x21) ["_law_x", "_law_many", "_law_letters", "_law_words", "_law_size", "_law_at", "_law_stem", "_law_ends"] ["_law_k", "_law_letters", "_law_x"] 1 [2, 0] { kind := PySem.ScopeKind.function, names := [ (PySem.Str.ofString ".0", PySem.NameKind.local), (PySem.Str.ofString "_law_k", PySem.NameKind.local), (PySem.Str.ofString "_law_letters", PySem.NameKind.free), (PySem.Str.ofString "_law_x", PySem.NameKind.free)], isGenerator := false, isCoroutine := false, more := [] : PySem.Scope } := ⟨rfl, by decide +kernel, by decide +kernel, by decide +kernel, rfl, by decide +kernel, by decide +kernel, by decide +kernel, rfl⟩
theorem cs_x21_2 : CompScope (defScope s_x21) ["_law_x", "_law_many", "_law_letters", "_law_words", "_law_size", "_law_at", "_law_stem", "_law_ends"] ["_law_one", "_law_stem", "_law_at", "_law_size"] 1 [6, 5, 4] { kind := PySem.ScopeKind.function, names := [ (PySem.Str.ofString ".0", PySem.NameKind.local), (PySem.Str.ofString "_law_one", PySem.NameKind.local), (PySem.Str.ofString "_law_at", PySem.NameKind.free), (PySem.Str.ofString "_law_size", PySem.NameKind.free), (PySem.Str.ofString "_law_stem", PySem.NameKind.free)], isGenerator := false, isCoroutine := false, more := [] : PySem.Scope } := ⟨rfl, by decide +kernel, by decide +kernel, by decide +kernel, rfl, by decide +kernel, by decide +kernel, by decide +kernel, rfl⟩
section
variable {P : Program} {w : World} {K : PySem.W.Frag} {mg : Str → Option Value} {base : Heap} {t : Adr}
theorem mulL {c : Nat} {n : Int} (h0 : 0 ≤ n) : (PySem.Txt.mul ⟨#[c]⟩ n).cps.toList = List.replicate n.toNat c := by
 have key : ∀ (k : Nat) (a : Array Nat), ((List.replicate k #[c]).foldl (· ++ ·) a).toList = a.toList ++ List.replicate k c := by
  intro k
  induction k with
  | zero => intro a; simp
  | succ k ih => intro a; rw [List.replicate_succ, List.foldl_cons, ih]; simp [List.replicate_succ]
 unfold PySem.Txt.mul
 split
 ·rw [show n.toNat = 0 by omega]; rfl
 ·split
  ·rename_i h
   have : n = 1 := by
    rw [show (⟨#[c]⟩ : Str).length = 1 from rfl] at h
    simpa using h
   subst this; rfl
  ·show ((List.replicate n.toNat #[c]).foldl (· ++ ·) #[]).toList = _
   rw [key]; rfl
theorem mul_one {c : Nat} (hc : c < 0x110000) {n : Int} (h0 : 0 ≤ n) (h1 : n ≤ 50) : PySem.MulOk ⟨#[c]⟩ n ∧ GoodS n.toNat (PySem.Txt.mul ⟨#[c]⟩ n) := by
 have lc : (⟨#[c]⟩ : Str).length = 1 := rfl
 constructor
 ·refine ⟨by simp; omega, fun a b => ?_, fun a b => ?_⟩
  ·rw [lc]
   have : (2 ^ 63 - 1 : Int) / n ≥ 1 := by rw [ge_iff_le, Int.le_ediv_iff_mul_le (by omega)]; omega
   omega
  ·rw [lc]
   obtain ⟨k, rfl⟩ := Int.eq_ofNat_of_zero_le h0
   rw [Nat.one_mul]
   unfold PySem.Builtin.Str.tooLong
   simp
   have : sizeLine = 16777216 := by first | rfl | decide | exact sizeLine_eq
   omega
 ·have l := mulL (c := c) h0
  refine ⟨strOk_iff.mpr fun d hd => ?_, ?_⟩
  ·rw [l] at hd
   rw [(List.mem_replicate.mp hd).2]; exact hc
  ·show (PySem.Txt.mul ⟨#[c]⟩ n).cps.size ≤ _
   rw [← Array.length_toList, l, List.length_replicate]; exact Nat.le_refl _
def F_first : List PyData → (PyData → Prop) → Prop := fun ds Q => ∃ y : Int, ds = [.int y] ∧ Q (.int (ystart y))
theorem ok_first (T : Txt K mg t) : FnOk P w K mg base CX0 1 t.a_x22 t.d_x22 ["_law_year"] (spD K F_first) := by
 refine T.F_x22.okD sc_x22 (fun ds Q h => ?_) (fun cdv A outer s H O ds Q E hr h => ?_)
 ·obtain ⟨y, rfl, _⟩ := h; rfl
 ·obtain ⟨y, rfl, q⟩ := h
  refine' ⟨_, ?body, ?read⟩
  case body =>
   refine' dss_cons ?s1 ?r1
   case s1 => exact (ds_set (i := 1) sc_x22.nd rfl (by walk_at "o") (de_op op_sub od_int (df (dv 0)) (df de_int)))
   case' r1 => refine' dss_one ?s3
   case' s3 => generalize hG4 : Expr.BinOp _ _ _ _ = eg4
   refine' ds_ret ?e4
   case' e4 => subst hG4
   exact (de_op op_add od_int (df (de_op op_sub od_int (df (de_op op_add od_int (df (de_op op_mul od_intC (df (dv 1)) (df de_int))) (df (de_op op_fdiv od_intC (df (de_op op_add od_int (df (dv 1)) (df de_int))) (df de_int))))) (df (de_op op_fdiv od_intC (df (de_op op_add od_int (df (dv 1)) (df de_int))) (df de_int))))) (df (de_op op_fdiv od_intC (df (de_op op_add od_int (df (dv 1)) (df de_int))) (df de_int))))
  case read =>
  clear hr T
  walk_at "rz"
  have e : (y - 2000) * 365 + (y - 2000 + 3) / 4 - (y - 2000 + 99) / 100 + (y - 2000 + 399) / 400 = ystart y := by rw [← ahead_eq y]; omega
  rw [e]; exact q
def lensL (y : Int) : List Int := [31, 28 + ld y, 31, 30, 31, 30, 31, 31, 30, 31, 30, 31]
def F_lengths : List PyData → (PyData → Prop) → Prop := fun ds Q => ∃ y : Int, ds = [.int y] ∧ Q (.list ((lensL y).map .int))
theorem ok_lengths (T : Txt K mg t) : FnOk P w K mg base CX0 1 t.a_x23 t.d_x23 ["_law_year"] (spD K F_lengths) := by
 refine T.F_x23.okD sc_x23 (fun ds Q h => ?_) (fun cdv A outer s H O ds Q E hr h => ?_)
 ·obtain ⟨y, rfl, _⟩ := h; rfl
 ·obtain ⟨y, rfl, q⟩ := h
  refine' ⟨_, ?body, ?read⟩
  case body =>
   refine' dss_cons ?s1 ?r1
   case s1 =>
    refine' ds_set (i := 1) sc_x23.nd rfl (by walk_at "o") ?e2 (hs := swaps_BoolOp)
    case e2 => exact (de_or (de_cmp (op_eqX hr.units) od_eq (df (de_op op_mod od_intC (df (dv 0)) (df de_int))) (df de_int) (nomark _)) (de_one (de_and (de_cmp (op_eqX hr.units) od_eq (df (de_op op_mod od_intC (df (dv 0)) (df de_int))) (df de_int) (nomark _)) (de_one (de_cmp op_gt od_bl (df (de_op op_mod od_intC (df (dv 0)) (df de_int))) (df de_int) (nomark _))))))
   case' r1 => refine' dss_one ?s4
   case' s4 => generalize hG5 : Expr.List _ _ = eg5
   refine' ds_ret ?e5
   case' e5 => subst hG5
   refine' fe ?f6
   case' f6 => refine' fe_lst ?g7
   case' g7 => refine' da_cons de_int ?w8
   case' w8 => refine' da_cons ?u10 ?w10
   case u10 => exact (de_op op_add od_int (df de_int) (df (PE.imp (pe_callTy call_int1 rfl T.n_int bt_int (db_cons (df (dv 1)) db_nil)) (dcb cd_int))))
   case w10 => refine' da_lits (ds := [.int 31, .int 30, .int 31, .int 30, .int 31, .int 31, .int 30, .int 31, .int 30, .int 31]) (by rfl)
  case read =>
  clear hr T
  walk_at "rz"
  have l1 := leap_iff y
  have hl : ∀ b : Bool, leap y = b → ld y = if b = true then 1 else 0 := fun b e => by unfold ld; rw [e]
  have fin : ∀ v : Int, v = ld y → Q (.list ([31, 28 + v, 31, 30, 31, 30, 31, 31, 30, 31, 30, 31].map .int)) := fun v e => by rw [e]; exact q
  split
  ·rename_i h
   have h : y % 400 = 0 := by simpa using h
   exact fin 1 (by rw [hl true (l1.mpr (.inl h))]; rfl)
  ·rename_i h
   have h : ¬ y % 400 = 0 := by simpa using h
   split
   ·rename_i h4
    have h4 : y % 4 = 0 := by simpa using h4
    by_cases h1 : 0 < y % 100
    ·rw [if_pos h1]
     exact fin 1 (by rw [hl true (l1.mpr (.inr ⟨h4, by omega⟩))]; rfl)
    ·rw [if_neg h1]
     exact fin 0 (by rw [hl false (by rw [← Bool.not_eq_true, l1]; omega)]; rfl)
   ·rename_i h4
    have h4 : ¬ y % 4 = 0 := by simpa using h4
    exact fin 0 (by rw [hl false (by rw [← Bool.not_eq_true, l1]; omega)]; rfl)
theorem lens_at {y : Int} {m : Nat} (h : m < 12) : atI ((lensL y).map PyData.int) (m : Int) = some (.int (mlen y ((m : Int) + 1))) := by
 refine atI_nat ?_
 have a := mlen_all y
 have b := mlen_2 y
 unfold lensL
 match m, h with
 | 0, _ => rw [show ((0 : Nat) : Int) + 1 = 1 from rfl, a.1]; rfl
 | 1, _ => rw [show ((1 : Nat) : Int) + 1 = 2 from rfl, b]; rfl
 | 2, _ => rw [show ((2 : Nat) : Int) + 1 = 3 from rfl, a.2.1]; rfl
 | 3, _ => rw [show ((3 : Nat) : Int) + 1 = 4 from rfl, a.2.2.1]; rfl
 | 4, _ => rw [show ((4 : Nat) : Int) + 1 = 5 from rfl, a.2.2.2.1]; rfl
 | 5, _ => rw [show ((5 : Nat) : Int) + 1 = 6 from rfl, a.2.2.2.2.1]; rfl
 | 6, _ => rw [show ((6 : Nat) : Int) + 1 = 7 from rfl, a.2.2.2.2.2.1]; rfl
 | 7, _ => rw [show ((7 : Nat) : Int) + 1 = 8 from rfl, a.2.2.2.2.2.2.1]; rfl
 | 8, _ => rw [show ((8 : Nat) : Int) + 1 = 9 from rfl, a.2.2.2.2.2.2.2.1]; rfl
 | 9, _ => rw [show ((9 : Nat) : Int) + 1 = 10 from rfl, a.2.2.2.2.2.2.2.2.1]; rfl
 | 10, _ => rw [show ((10 : Nat) : Int) + 1 = 11 from rfl, a.2.2.2.2.2.2.2.2.2.1]; rfl
 | 11, _ => rw [show ((11 : Nat) : Int) + 1 = 12 from rfl, a.2.2.2.2.2.2.2.2.2.2]; rfl
theorem lens_sum {y : Int} {m : Nat} (h : m < 13) : ((lensL y).take m).sum = bef y ((m : Int) + 1) := by
 have a := bef_all y
 unfold lensL
 match m, h with
 | 0, _ => rw [show ((0 : Nat) : Int) + 1 = 1 from rfl, a.1]; rfl
 | 1, _ => rw [show ((1 : Nat) : Int) + 1 = 2 from rfl, a.2.1]; rfl
 | 2, _ => rw [show ((2 : Nat) : Int) + 1 = 3 from rfl, a.2.2.1]; simp; omega
 | 3, _ => rw [show ((3 : Nat) : Int) + 1 = 4 from rfl, a.2.2.2.1]; simp; omega
 | 4, _ => rw [show ((4 : Nat) : Int) + 1 = 5 from rfl, a.2.2.2.2.1]; simp; omega
 | 5, _ => rw [show ((5 : Nat) : Int) + 1 = 6 from rfl, a.2.2.2.2.2.1]; simp; omega
 | 6, _ => rw [show ((6 : Nat) : Int) + 1 = 7 from rfl, a.2.2.2.2.2.2.1]; simp; omega
 | 7, _ => rw [show ((7 : Nat) : Int) + 1 = 8 from rfl, a.2.2.2.2.2.2.2.1]; simp; omega
 | 8, _ => rw [show ((8 : Nat) : Int) + 1 = 9 from rfl, a.2.2.2.2.2.2.2.2.1]; simp; omega
 | 9, _ => rw [show ((9 : Nat) : Int) + 1 = 10 from rfl, a.2.2.2.2.2.2.2.2.2.1]; simp; omega
 | 10, _ => rw [show ((10 : Nat) : Int) + 1 = 11 from rfl, a.2.2.2.2.2.2.2.2.2.2.1]; simp; omega
 | 11, _ => rw [show ((11 : Nat) : Int) + 1 = 12 from rfl, a.2.2.2.2.2.2.2.2.2.2.2.1]; simp; omega
 | 12, _ => rw [show ((12 : Nat) : Int) + 1 = 13 from rfl, a.2.2.2.2.2.2.2.2.2.2.2.2]; simp; omega
theorem ystart_ge {y : Int} (h : 2000 ≤ y) : 365 * (y - 2000) ≤ ystart y := by unfold ystart lb; omega
def F_llater : List PyData → (PyData → Prop) → Prop := fun ds Q => ∃ (d k : Int) (u : Str), ds = [.int d, .int k, .str u] ∧ Unit3 u ∧ 0 ≤ d ∧ 0 ≤ k ∧ ∀ r, LaterIs d k u r → Q (.int r)
theorem ok_llater (T : Txt K mg t) : FnOk P w K mg base CX0 2 t.a_x24 t.d_x24 ["_law_day_here", "_law_many", "_law_unit"] (spD K F_llater) := by
 have G_x22 := ok_first (P := P) (w := w) (base := base) T
 have G_x23 := ok_lengths (P := P) (w := w) (base := base) T
 refine T.F_x24.okD sc_x24 (fun ds Q h => ?_) (fun cdv A outer s H O ds Q E hr h => ?_)
 ·obtain ⟨d, k, u, rfl, _⟩ := h; rfl
 ·obtain ⟨d, k, u, rfl, hu, d0, k0, q⟩ := h
  refine' ⟨_, ?body, ?read⟩
  case body =>
   refine' dss_cons ?s1 ?r1
   case s1 =>
    refine' ds_if ?c2 ?a2 dss_nil
    case c2 => exact (dt_cmp (op_eqZ hr) od_eqZ (df (dv 2)) (df de_str) (nomark _))
    case' a2 => refine' dss_one ?s3
    case s3 => exact (ds_ret (de_op op_add od_int (df (dv 0)) (df (dv 1))))
   case' r1 => refine' dss_cons ?s5 ?r5
   case s5 => exact (ds_set (i := 3) sc_x24.nd rfl (by walk_at "o") (de_op op_add od_int (df de_int) (df (de_op op_fdiv od_intC (df (dv 0)) (df de_int)))))
   case' r5 => refine' dss_cons ?s7 ?r7
   case s7 =>
    refine' ds_while PassesOwn.never ?c8 ?b8
    case c8 => exact (dt_cmp op_le od_bl (df (PE.imp (pe_call G_x22 (hr.mono (by decide)) rfl T.m_x22 T.F_x22.kp T.b_x22 .nil pass0 (da_cons (de_op op_add od_int (df (dv 3)) (df de_int)) da_nil)) dcall)) (df (dv 0)) (nomark _))
    case' b8 => refine' dss_one ?s9
    case s9 => exact (ds_set (i := 3) sc_x24.nd rfl (by walk_at "o") (de_op op_add od_int (df (dv 3)) (df de_int)))
   case' r7 => refine' dss_cons ?s11 ?r11
   case s11 => exact (ds_set (i := 4) sc_x24.nd rfl (by walk_at "o") (de_op op_sub od_int (df (dv 0)) (df (PE.imp (pe_call G_x22 (hr.mono (by decide)) rfl T.m_x22 T.F_x22.kp T.b_x22 .nil pass0 (da_cons (dv 3) da_nil)) dcall))))
   case' r11 => refine' dss_cons ?s13 ?r13
   case s13 => exact (ds_set (i := 5) sc_x24.nd rfl (by walk_at "o") de_int)
   case' r13 => refine' dss_cons ?s15 ?r15
   case s15 =>
    refine' ds_while PassesOwn.never ?c16 ?b16
    case c16 => exact (dt_cmp op_ge od_bl (df (dv 4)) (df (de_ix ix_list od_ixL (df (PE.imp (pe_call G_x23 (hr.mono (by decide)) rfl T.m_x23 T.F_x23.kp T.b_x23 .nil pass0 (da_cons (dv 3) da_nil)) dcall)) (df (dv 5)))) (nomark _))
    case' b16 => refine' dss_cons ?s17 ?r17
    case s17 =>
     refine' ds_set (i := 4) sc_x24.nd rfl (by walk_at "o") ?e18 (hs := swaps_BinOp)
     case e18 => exact (de_op op_sub od_int (df (dv 4)) (df (de_ix ix_list od_ixL (df (PE.imp (pe_call G_x23 (hr.mono (by decide)) rfl T.m_x23 T.F_x23.kp T.b_x23 .nil pass0 (da_cons (dv 3) da_nil)) dcall)) (df (dv 5)))))
    case' r17 => refine' dss_one ?s20
    case s20 => exact (ds_set (i := 5) sc_x24.nd rfl (by walk_at "o") (de_op op_add od_int (df (dv 5)) (df de_int)))
   case' r15 => refine' dss_cons ?s22 ?r22
   case s22 => exact (ds_asg (PE.imp (pe_callB call_divmod rfl T.n_divmod bt_divmod (db_cons (df (de_op op_add od_int (df (de_op op_add od_int (df (de_op op_mul od_intC (df de_int) (df (dv 3)))) (df (dv 5)))) (df (de_op op_mul od_intC (df (dv 1)) (df (de_ix ix_list od_ixL (df (fe (fe_lst (da_cons de_int (da_cons de_int da_nil))))) (df (PE.imp (pe_callTy call_int1 rfl T.n_int bt_int (db_cons (df (de_cmp (op_eqZ hr) od_eqZ (df (dv 2)) (df de_str) (nomark _))) db_nil)) (dcb cd_int))))))))) (db_cons (df de_int) db_nil))) (dcb cd_divmod)) (pg_tup (n := 2) rfl (pgs_cons (pg_name (i := 3) sc_x24.nd rfl (by walk_at "o")) (pgs_cons (pg_name (i := 5) sc_x24.nd rfl (by walk_at "o")) pgs_nil))) (gd_tup (gds_cons gd_name (gds_cons gd_name gds_nil))))
   case' r22 => refine' dss_cons ?s24 ?r24
   case s24 => exact (ds_set (i := 6) sc_x24.nd rfl (by walk_at "o") (PE.imp (pe_call G_x23 (hr.mono (by decide)) rfl T.m_x23 T.F_x23.kp T.b_x23 .nil pass0 (da_cons (dv 3) da_nil)) dcall))
   case' r24 => refine' dss_one ?s26
   case' s26 => refine' ds_ret ?e27
   case e27 => exact (de_op op_add od_int (df (de_op op_add od_int (df (PE.imp (pe_call G_x22 (hr.mono (by decide)) rfl T.m_x22 T.F_x22.kp T.b_x22 .nil pass0 (da_cons (dv 3) da_nil)) dcall)) (df (PE.imp (pe_callB (call_sum rfl) rfl T.n_sum PyProof.Rows.boot_sum (db_cons (df (fe (fe_slice (df (dv 6)) do_none (do_some (dv 5))))) db_nil)) (dcb cd_sum))))) (df (PE.imp (pe_callB (call_min2 rfl) rfl T.n_min PyProof.Rows.boot_min (db_cons (df (dv 4)) (db_cons (df (de_op op_sub od_int (df (de_ix ix_list od_ixL (df (dv 6)) (df (dv 5)))) (df de_int))) db_nil))) (dcb cd_two))))
  case read =>
  clear hr T G_x22 G_x23
  walk_at "rz"
  by_cases hd : u = Str.ofString "days"
  ·rw [if_pos (by rw [hd]; exact beq_self_eq_true _)]
   exact q _ (.inl ⟨hd, rfl⟩)
  ·rw [beq_ne hd, if_neg Bool.false_ne_true]
   refine ⟨fun m δ => ∃ y : Int, 2000 ≤ y ∧ ystart y ≤ d ∧ m = (2001 + d - y).toNat ∧ δ = [some (Sl.v (PyData.int d)), some (Sl.v (PyData.int k)), some (Sl.v (PyData.str u)), some (Sl.v (PyData.int y)), none, none, none], ⟨_, _, by omega, ahead_le d0, rfl, rfl⟩, ?_⟩
   rintro m δ ⟨y, y0, hy, rfl, rfl⟩
   walk_at "rz"
   refine ⟨y + 1, rfl, ?_⟩
   walk_at "rz"
   by_cases hc : ystart (y + 1) ≤ d
   ·rw [if_pos hc]
    have := ystart_ge (y := y + 1) (by omega)
    exact ⟨_, by omega, y + 1, by omega, hc, rfl, rfl⟩
   ·rw [if_neg hc]
    refine ⟨y, rfl, ?_⟩
    walk_at "rz"
    have ys := ystart_succ y
    refine ⟨fun m δ => ∃ mo : Nat, mo < 12 ∧ bef y ((mo : Int) + 1) ≤ d - ystart y ∧ m = 12 - mo ∧ δ = [some (Sl.v (PyData.int d)), some (Sl.v (PyData.int k)), some (Sl.v (PyData.str u)), some (Sl.v (PyData.int y)), some (Sl.v (PyData.int (d - ystart y - bef y ((mo : Int) + 1)))), some (Sl.v (PyData.int (mo : Int))), none], ⟨12, 0, by omega, by rw [show ((0 : Nat) : Int) + 1 = 1 from rfl, bef_1]; omega, rfl, by rw [show ((0 : Nat) : Int) + 1 = 1 from rfl, bef_1, Int.sub_zero]; rfl⟩, ?_⟩
    rintro m δ ⟨mo, hm, hb, rfl, rfl⟩
    have ba := bef_bd (y := y) (m := (mo : Int) + 1) (by omega) (by omega)
    have bs := bef_succ (y := y) (m := (mo : Int) + 1) (by omega)
    walk_at "rz"
    refine ⟨y, rfl, _, rfl, _, lens_at hm, ?_⟩
    walk_at "rz"
    split
    ·rename_i hge
     have lt12 : mo + 1 < 12 := by
      by_cases z : mo + 1 < 12
      ·exact z
      ·have e : mo = 11 := by omega
       subst e
       rw [show ((11 : Nat) : Int) + 1 + 1 = 13 from rfl] at bs
       have := (bef_all y); omega
     refine ⟨y, rfl, _, rfl, _, lens_at hm, ?_⟩
     walk_at "rz"
     refine ⟨_, by omega, mo + 1, lt12, ?_, rfl, ?_, ?_⟩
     ·rw [show ((mo + 1 : Nat) : Int) + 1 = (mo : Int) + 1 + 1 by omega, bs]; omega
     ·rw [show ((mo + 1 : Nat) : Int) + 1 = (mo : Int) + 1 + 1 by omega, bs]; omega
     ·omega
    ·rename_i hlt
     have D : DateOf d y ((mo : Int) + 1) (d - ystart y - bef y ((mo : Int) + 1) + 1) := ⟨by omega, by omega, by omega, by omega, by unfold num; omega⟩
     have hx : ∃ x : Int, atI [PyData.int 1, PyData.int 12] (if (u == Str.ofString "years") = true then 1 else 0) = some (.int x) ∧ 0 ≤ x ∧ x ≤ 12 ∧ LaterIs d k u (mon y ((mo : Int) + 1) (d - ystart y - bef y ((mo : Int) + 1) + 1) (k * x)) := by
      rcases hu with z | z | z
      ·exact absurd z hd
      ·refine ⟨1, ?_, by omega, by omega, .inr (.inl ⟨z, _, _, _, D, by rw [Int.mul_one]⟩)⟩
       rw [z, beq_ne (show (Str.ofString "months") ≠ Str.ofString "years" from nmy), if_neg Bool.false_ne_true]; exact atI_c0
      ·refine ⟨12, ?_, by omega, by omega, .inr (.inr ⟨z, _, _, _, D, rfl⟩)⟩
       rw [z, if_pos (beq_self_eq_true _)]; exact atI_c1
     obtain ⟨x, ex, x0, x1, hL⟩ := hx
     refine ⟨_, ex, x, rfl, .inr ⟨by omega, by omega⟩, ?_⟩
     have q := q _ hL
     unfold mon at q
     rw [show y * 12 + ((mo : Int) + 1) - 1 + k * x = 12 * y + (mo : Int) + k * x by omega] at q
     generalize 12 * y + (mo : Int) + k * x = M at q
     obtain ⟨mm, hmm⟩ := Int.eq_ofNat_of_zero_le (show 0 ≤ M % 12 by omega)
     have hm2 : mm < 12 := by omega
     rw [hmm] at q ⊢
     refine ⟨M / 12, rfl, M / 12, rfl, _, rfl, (lensL (M / 12)).take mm, ?_, _, rfl, _, rfl, _, lens_at hm2, _, rfl, ?_⟩
     ·rw [cutD_take (by omega) (by rw [List.length_map]; show (mm : Int) ≤ (12 : Nat); omega), Int.toNat_natCast, List.map_take]
     ·rw [lens_sum (by omega)]
      have e : ystart (M / 12) + bef (M / 12) ((mm : Int) + 1) + (if mlen (M / 12) ((mm : Int) + 1) - 1 < d - ystart y - bef y ((mo : Int) + 1) then mlen (M / 12) ((mm : Int) + 1) - 1 else d - ystart y - bef y ((mo : Int) + 1)) = num (M / 12) ((mm : Int) + 1) (min (d - ystart y - bef y ((mo : Int) + 1) + 1) (mlen (M / 12) ((mm : Int) + 1))) := by
       unfold num
       split <;> omega
      rw [e]; exact q
def words22 : List Str := ["paper", "rule", "keep", "gone", "coming", "days", "first", "last", "kind", "deep", "end", "hold", "lift", "leave", "while", "follow", "happens", "none", "never", "months", "there", "plan"]
theorem words22_ok : ∀ z ∈ words22, PyData.strOk z = true := by
 intro z hz
 have a : words22.all PyData.strOk = true := by decide +kernel
 exact List.all_eq_true.mp a z hz
def F_pool : List PyData → (PyData → Prop) → Prop := fun ds Q => ∃ x m : Int, ds = [.int x, .int m] ∧ 0 ≤ m ∧ m ≤ 50 ∧ ∀ ss : List Str, (ss.length : Int) = m → (∀ z ∈ ss, PyData.strOk z = true) → Q (.list (ss.map .str))
theorem ok_pool (T : Txt K mg t) : FnOk P w K mg base CX0 1 t.a_x21 t.d_x21 ["_law_x", "_law_many"] (spD K F_pool) := by
 refine T.F_x21.okD sc_x21 (fun ds Q h => ?_) (fun cdv A outer s H O ds Q E hr h => ?_)
 ·obtain ⟨x, m, rfl, _⟩ := h; rfl
 ·obtain ⟨x, m, rfl, m0, m1, q⟩ := h
  refine' ⟨_, ?body, ?read⟩
  case body =>
   refine' dss_cons ?s1 ?r1
   case s1 => exact (ds_set (i := 2) sc_x21.nd rfl (by walk_at "o") de_str)
   case' r1 => refine' dss_cons ?s3 ?r3
   case s3 =>
    generalize hE4_0 : Expr.List _ _ = ee4_0
    exact ds_set (i := 3) sc_x21.nd rfl (by walk_at "o") (fe (fe_lits (ds := [.str "paper", .str "rule", .str "keep", .str "gone", .str "coming", .str "days", .str "first", .str "last", .str "kind", .str "deep", .str "end", .str "hold", .str "lift"]) (by first | (subst hE4_0; rfl)))) (hs := swaps_lits (ds := [.str "paper", .str "rule", .str "keep", .str "gone", .str "coming", .str "days", .str "first", .str "last", .str "kind", .str "deep", .str "end", .str "hold", .str "lift"]) (by first | (subst hE4_0; rfl)))
   case' r3 => refine' dss_cons ?s5 ?r5
   case s5 =>
    generalize hE6_0 : Expr.List _ _ = ee6_0
    exact (ds_set (i := 3) sc_x21.nd rfl (by walk_at "o") (fe (fe_cat (df (dv 3)) (df (fe (fe_lits (ds := [.str "leave", .str "while", .str "follow", .str "happens", .str "none", .str "never", .str "months", .str "there", .str "plan"]) (by first | (subst hE6_0; rfl))))))))
   case' r5 => refine' dss_cons ?s7 ?r7
   case s7 =>
    refine' ds_if ?c8 ?a8 dss_nil
    case c8 => exact (dt_cmp (op_eqX hr.units) od_eq (df (de_op op_mod od_intC (df (de_op op_fdiv od_intC (df (dv 0)) (df de_int))) (df de_int))) (df de_int) (nomark _))
    case' a8 => refine' dss_one ?s9
    case' s9 => refine' ds_ret ?e10
    case' e10 => refine' fe ?f11
    case f11 => exact (fe_compRI rfl cs_x21_0 rfl T.n_range (db_cons (df (dv 1)) db_nil) gd_name keepName (by decide) (fun _ _ _ _ => (pg_name (i := 0) cs_x21_0.nd rfl (by walk_at "o"))) (fun _ _ _ _ => pf_nilD) (fun _ _ _ _ => (de_ix ix_list od_ixL (df (dv 1)) (df (de_op op_mod od_intC (df (de_op op_add od_int (df (de_op op_fdiv od_intC (df (dv 2)) (df de_int))) (df (dv 0)))) (df (PE.imp (pe_callB call_len_seq rfl T.n_len PySem.boot_len (db_cons (df (dv 1)) db_nil)) (dcb cd_len))))))))
   case' r7 => refine' dss_cons ?s13 ?r13
   case s13 => exact (ds_set (i := 4) sc_x21.nd rfl (by walk_at "o") (de_op op_add od_int (df de_int) (df (de_op op_mod od_intC (df (dv 0)) (df de_int)))))
   case' r13 => refine' dss_cons ?s15 ?r15
   case s15 => exact (ds_set (i := 5) sc_x21.nd rfl (by walk_at "o") (de_op op_mod od_intC (df (de_op op_fdiv od_intC (df (dv 0)) (df de_int))) (df (dv 4))))
   case' r15 => refine' dss_cons ?s17 ?r17
   case s17 =>
    refine' ds_set (i := 6) sc_x21.nd rfl (by walk_at "o") ?e18 (hs := swaps_Subscript)
    case e18 => exact (de_ix ix_str od_ixS (df (dv 2)) (df (de_op op_mod od_intC (df (de_op op_fdiv od_intC (df (dv 0)) (df de_int))) (df de_int))))
   case' r17 => refine' dss_cons ?s20 ?r20
   case s20 => exact (ds_setC (i := 7) sc_x21.nd rfl (by walk_at "o") (fu_compRI rfl cs_x21_1 rfl T.n_range (db_cons (df (dv 1)) db_nil) gd_name keepName (by decide) (fun _ _ _ _ => (pg_name (i := 0) cs_x21_1.nd rfl (by walk_at "o"))) (fun _ _ _ _ => pf_nilD) (fun _ _ _ _ => (de_ix ix_str od_ixS (df (dv 1)) (df (de_op op_mod od_intC (df (de_op op_add od_int (df (de_op op_fdiv od_intC (df (dv 2)) (df de_int))) (df (de_op op_mul od_intC (df de_int) (df (dv 0)))))) (df de_int)))))))
   case' r20 => refine' dss_one ?s22
   case' s22 => refine' ds_ret ?e23
   case' e23 => refine' fe ?f24
   case f24 => exact (fe_compI rfl cs_x21_2 (df (dv 7)) gd_name keepName (by decide) (fun _ _ _ _ => (pg_name (i := 0) cs_x21_2.nd rfl (by walk_at "o"))) (fun _ _ _ _ => pf_nilD) (fun _ _ _ _ => (de_op op_add_str od_addS (df (de_op op_add_str od_addS (df (de_op op_mulS od_mulS (df (dv 1)) (df (dv 2)))) (df (dv 0)))) (df (de_op op_mulS od_mulS (df (dv 1)) (df (de_op op_sub od_int (df (de_op op_sub od_int (df (dv 3)) (df (dv 2)))) (df de_int))))))))
  case read =>
  clear hr T
  walk_at "rz"
  split
  ·refine ⟨by omega, by have : (16777216 : Nat) = (16777216 : Int) := rfl; omega, ?_⟩
   refine ⟨fun i acc => ∃ ys : List Str, acc = ys.map .str ∧ ys.length = i ∧ ∀ y ∈ ys, PyData.strOk y = true, ⟨[], rfl, rfl, by simp⟩, ?_, ?_⟩
   ·rintro i z acc hz ⟨ys, rfl, hl, hg⟩
    obtain ⟨hi, rfl⟩ := rangeD_at hz
    walk_at "rz"
    obtain ⟨v, e1, m1⟩ := atI_mem (xs := words22.map PyData.str) (i := (x / 344 + (0 + (i : Int))) % 22) (by omega) (by show _ < (22 : Int); omega)
    obtain ⟨nm, hnm, rfl⟩ := List.mem_map.mp m1
    refine ⟨by decide, _, e1, ys ++ [nm], by rw [List.map_append]; rfl, by simp [hl], fun y hy => ?_⟩
    rcases List.mem_append.mp hy with h | h
    ·exact hg y h
    ·rw [List.mem_singleton] at h; rw [h]; exact words22_ok nm hnm
   ·rintro acc ⟨ys, rfl, hl, hg⟩
    rw [rangeD_len] at hl
    exact q ys (by omega) hg
  ·refine ⟨by omega, by decide +kernel, ?_⟩
   obtain ⟨c, e1, _, c1⟩ := abc_at (j := x / 64 % 26) (by omega) (by omega)
   refine ⟨c, e1, by omega, by have : (16777216 : Nat) = (16777216 : Int) := rfl; omega, ?_⟩
   generalize hsz : 1 + x % 8 = sz
   have s0 : 1 ≤ sz := by omega
   have s1 : sz ≤ 8 := by omega
   generalize hat : x / 8 % sz = at0
   have a0 : 0 ≤ at0 := by rw [← hat]; exact Int.emod_nonneg _ (by omega)
   have a1 : at0 < sz := by rw [← hat]; exact Int.emod_lt_of_pos _ (by omega)
   clear hsz hat
   refine ⟨fun i acc => ∃ ys : List Nat, acc = ys.map (fun y => .str ⟨#[y]⟩) ∧ ys.length = i ∧ ∀ y ∈ ys, y < 0x110000, ⟨[], rfl, rfl, by simp⟩, ?_, ?_⟩
   ·rintro i z acc hz ⟨ys, rfl, hl, hg⟩
    obtain ⟨hi, rfl⟩ := rangeD_at hz
    walk_at "rz"
    obtain ⟨y, g1, _, y1⟩ := abc_at (j := (x / 1664 + 5 * (0 + (i : Int))) % 26) (by omega) (by omega)
    refine ⟨by decide +kernel, y, g1, ys ++ [y], by rw [List.map_append]; rfl, by simp [hl], fun z hz => ?_⟩
    rcases List.mem_append.mp hz with h | h
    ·exact hg z h
    ·rw [List.mem_singleton] at h; rw [h]; exact y1
   ·rintro acc ⟨ys, rfl, hl, hg⟩
    rw [rangeD_len] at hl
    refine ⟨by rw [List.length_map]; omega, ?_⟩
    refine ⟨fun i acc => ∃ zs : List Str, acc = zs.map .str ∧ zs.length = i ∧ ∀ y ∈ zs, PyData.strOk y = true, ⟨[], rfl, rfl, by simp⟩, ?_, ?_⟩
    ·rintro i z acc hz ⟨zs, rfl, hl2, hg2⟩
     rw [List.getElem?_map] at hz
     cases hz' : ys[i]? with
     | none => rw [hz'] at hz; cases hz
     | some y =>
      rw [hz'] at hz; cases hz
      walk_at "rz"
      obtain ⟨mo, gg⟩ := mul_one c1 a0 (by omega)
      obtain ⟨mo2, gg2⟩ := mul_one c1 (n := sz - at0 - 1) (by omega) (by omega)
      have ly : (⟨#[y]⟩ : Str).length = 1 := rfl
      have l1 := gg.le
      have l2 := gg2.le
      refine ⟨mo, by rw [ly]; omega, mo2, by rw [len_append, ly]; omega, zs ++ [_], by rw [List.map_append]; rfl, by simp [hl2], fun z hz => ?_⟩
      rcases List.mem_append.mp hz with h | h
      ·exact hg2 z h
      ·rw [List.mem_singleton] at h; rw [h]
       exact ((gg.append (GoodS.chr (hg y (List.mem_of_getElem? hz')))).append gg2).ok
    ·rintro acc ⟨zs, rfl, hl2, hg2⟩
     rw [List.length_map] at hl2
     exact q zs (by omega) hg2
theorem atI_c5 {α : Type} {a b c d e f : α} {l : List α} : atI (a :: b :: c :: d :: e :: f :: l) 5 = some f := atI_nat (j := 5) rfl
theorem atI_c6 {α : Type} {a b c d e f g : α} {l : List α} : atI (a :: b :: c :: d :: e :: f :: g :: l) 6 = some g := atI_nat (j := 6) rfl
theorem atI_c7 {α : Type} {a b c d e f g h : α} {l : List α} : atI (a :: b :: c :: d :: e :: f :: g :: h :: l) 7 = some h := atI_nat (j := 7) rfl
theorem atI_c8 {α : Type} {a b c d e f g h i : α} {l : List α} : atI (a :: b :: c :: d :: e :: f :: g :: h :: i :: l) 8 = some i := atI_nat (j := 8) rfl
def F_day : List PyData → (PyData → Prop) → Prop := fun ds Q => ∃ (x : Int) (b : Bool), ds = [.int x, .bool b] ∧ 0 ≤ x ∧ ∀ d : Int, 0 ≤ d → Q (.int d)
theorem day_iff {x : Int} {b : Bool} {Q : PyData → Prop} : F_day [.int x, .bool b] Q ↔ 0 ≤ x ∧ ∀ d : Int, 0 ≤ d → Q (.int d) := by
 constructor
 ·rintro ⟨_, _, e, h, q⟩
  simp only [List.cons.injEq, PyData.int.injEq, and_true] at e
  rw [e.1]; exact ⟨h, q⟩
 ·rintro ⟨h, q⟩; exact ⟨x, b, rfl, h, q⟩
theorem cell_iff {ns : List Int} {k : Int} {Q : PyData → Prop} : F_cell [scrD (ns.map .int), .int k] Q ↔ (0 ≤ k ∧ k ≤ 1000 ∧ ∀ c : Int, Q (.int c)) := by
 constructor
 ·rintro ⟨ns', k', e, a, b, q⟩
  simp only [List.cons.injEq, PyData.int.injEq, and_true] at e
  rw [e.2]; exact ⟨a, b, q⟩
 ·rintro ⟨a, b, q⟩; exact ⟨ns, k, rfl, a, b, q⟩
theorem numbers_iff {c m : Int} {Q : PyData → Prop} : F_numbers [.int c, .int m] Q ↔ (0 ≤ m ∧ m ≤ 64 ∧ ∀ ns : List Int, (ns.length : Int) = m → (∀ z ∈ ns, 0 ≤ z ∧ z < 2000000000) → Q (.list (ns.map .int))) := by
 constructor
 ·rintro ⟨c', m', e, a, b, q⟩
  simp only [List.cons.injEq, PyData.int.injEq, and_true] at e
  obtain ⟨rfl, rfl⟩ := e; exact ⟨a, b, q⟩
 ·rintro ⟨a, b, q⟩; exact ⟨c, m, rfl, a, b, q⟩
end
end K19

open PySem L2
local macro_rules | `(tactic| walk_at "rzw") => `(tactic| simp only [↓lz_w, ↓lz_k0, ↓lz_kS, ↓lz_kE, ↓lz_kN, ↓lz_ks, ↓lz_ki, ↓lz_wN, ↓lz_v0, ↓lz_vS, ↓lz_vE, ↓lz_vN, ↓lz_o0, ↓lz_oS, ↓lz_oE, ↓lz_oN, ↓lz_b, ↓lz_i, ↓lz_s, ↓lz_t, ↓lz_l, ↓lz_ii, ↓lz_ss, ↓lz_tt, ↓lz_ll, ↓lz_cons, ↓lz_two, ↓lz_tt0, ↓lz_tt1, ↓lz_tt2, ↓lz_tt3, ↓lz_ll0, ↓lz_ll1, ↓lz_ll2, ↓lz_tix, ↓lz_lix, dSeq, dNext, dIfS, dRet, dRetO, dSet, dNew, dApp, dAsg, dVar, dOwn, dC, dOp, dI, dIC, dEq, dNe, dIxL, dIxT, dIxS, dAddS, dCat, dL, dFin, dTup, dNil, dCons, dTest, dAnd, dOr, dNot, dAndV, dOrV, dNotV, dIf, dCall, wq_paper_happens, wq_paper_rule, wq_paper_end, wq_paper_hold, wq_paper_lift, wq_paper_leave, wq_happens_paper, wq_happens_rule, wq_happens_end, wq_happens_hold, wq_happens_lift, wq_happens_leave, wq_rule_paper, wq_rule_happens, wq_rule_end, wq_rule_hold, wq_rule_lift, wq_rule_leave, wq_end_paper, wq_end_happens, wq_end_rule, wq_end_hold, wq_end_lift, wq_end_leave, wq_hold_paper, wq_hold_happens, wq_hold_rule, wq_hold_end, wq_hold_lift, wq_hold_leave, wq_lift_paper, wq_lift_happens, wq_lift_rule, wq_lift_end, wq_lift_hold, wq_lift_leave, wq_leave_paper, wq_leave_happens, wq_leave_rule, wq_leave_end, wq_leave_hold, wq_leave_lift, dSlL, dLits, dNoPart, dPart, dLen, dLenS, dTupOf, dAny, dTwo, dIsin, dInt, dYes, dForI, dForTI, dForRI, dSlX, dNeg, dRevT, cD_nm1, dInX, dEqZ, dInZ, dSortS, dNever, dIsN, dNotN, dMulS, dIxSc, dSlSc, dAbs, dExt, dMaxL, dSortPr, dSortKey, dLtP, dCompV, dFld, dFldD, dForE, dDivmod, dSum, dMinL, dAnyI, dRepC, dSortSetN, dExtD, take_iff, cD_1n, cD_2n, cD_3n, cD_4n, cD_n1, cD_n2, cD_n3, cD_n4, cD_13, ne_eq, thing_str, thing_int, thing_bool, thing_tup, thing_list, strsE1, strsE2, strsE3, dCompI, dCompTI, dCompRI, dgName, dgTup, dgCons, dgNil, forW, startD, dst0, CDiv, CPow, CMul, List.map_cons, List.map_nil, List.length_cons, List.length_nil, List.replicate, List.cons_append, List.nil_append, List.append_nil, Nat.reduceAdd, Nat.reduceSub, Nat.add_zero, Nat.zero_add, Nat.sub_self, List.getElem?_cons_zero, List.getElem?_cons_succ, List.getElem?_nil, List.set_cons_zero, List.set_cons_succ, Option.some.injEq, exists_eq_left', exists_eq_left, exists_and_left, exists_and_right, Option.join_some, Option.join_none, Sl.v.injEq, Sl.o.injEq, Sl.k.injEq, PyData.int.injEq, PyData.bool.injEq, PyData.str.injEq, PyData.tuple.injEq, PyData.list.injEq, List.cons.injEq, and_true, true_and, Nat.reduceLT, Nat.reduceLeDiff, exists_const, decide_eq_true_eq, Int.reduceLT, Int.reduceLE, Int.reduceNeg, Int.reducePow, Bool.not_eq_true', decide_eq_false_iff_not, and_assoc, or_true, true_or, ↓reduceIte, if_true, if_false, Bool.false_eq_true, Bool.true_eq_false, not_true_eq_false, not_false_eq_true, Bool.not_true, Bool.not_false, ite_true, ite_false, eq_self, exists_eq, reduceCtorEq, false_and, and_false, or_false, false_or, exists_false, Option.map_some, Option.map_none, List.all_cons, List.all_nil, List.any_cons, List.any_nil, Bool.and_true, Bool.or_false, Bool.true_and, Bool.false_or, atI_c0, atI_c1, atI_c2, atI_c3, atI_c4, eqv_str, eqv_int, eqv_bool, beq_self_eq_true, shp_int, shp_bl, shp_non, Shp, sizeLine_eq, K19.atI_c5, K19.atI_c6, K19.atI_c7, K19.atI_c8, K19.day_iff, K19.cell_iff, K19.numbers_iff, true_and])
namespace K19
open Day
section
variable {P : Program} {w : World} {K : PySem.W.Frag} {mg : Str → Option Value} {base : Heap} {t : Adr}
theorem ok_day (T : Txt K mg t) : FnOk P w K mg base CX0 2 t.a_x25 t.d_x25 ["_law_x", "_law_far_here"] (spD K F_day) := by
 have G_x22 := ok_first (P := P) (w := w) (base := base) T
 have G_x23 := ok_lengths (P := P) (w := w) (base := base) T
 refine T.F_x25.okD sc_x25 (fun ds Q h => ?_) (fun cdv A outer s H O ds Q E hr h => ?_)
 ·obtain ⟨x, b, rfl, _⟩ := h; rfl
 ·obtain ⟨x, b, rfl, x0, q⟩ := h
  refine' ⟨_, ?body, ?read⟩
  case body =>
   refine' dss_cons ?s1 ?r1
   case s1 =>
    refine' ds_if ?c2 ?a2 dss_nil
    case c2 => exact (dt_not (dt_val (dv 1)))
    case' a2 => refine' dss_one ?s3
    case s3 => exact (ds_ret (de_op op_mod od_intC (df (dv 0)) (df de_int)))
   case' r1 => refine' dss_cons ?s5 ?r5
   case s5 =>
    refine' ds_if ?c6 ?a6 dss_nil
    case c6 => exact (dt_cmp (op_eqX hr.units) od_eq (df (de_op op_mod od_intC (df (de_op op_fdiv od_intC (df (dv 0)) (df de_int))) (df de_int))) (df de_int) (nomark _))
    case' a6 => refine' dss_one ?s7
    case s7 => exact (ds_ret (de_op op_mod od_intC (df (de_op op_fdiv od_intC (df (dv 0)) (df de_int))) (df de_int)))
   case' r5 => refine' dss_cons ?s9 ?r9
   case s9 => exact (ds_set (i := 2) sc_x25.nd rfl (by walk_at "o") (de_op op_mod od_intC (df (de_op op_fdiv od_intC (df (dv 0)) (df de_int))) (df de_int)))
   case' r9 => refine' dss_cons ?s11 ?r11
   case s11 =>
    generalize hG12 : Expr.BinOp _ _ _ _ = eg12
    refine' ds_set (i := 3) sc_x25.nd rfl (by walk_at "o") ?e12 (hs := by subst hG12; exact swaps_BinOp)
    case' e12 => subst hG12
    exact (de_op op_add od_int (df (PE.imp (pe_call G_x22 (hr.mono (by decide)) rfl T.m_x22 T.F_x22.kp T.b_x22 .nil pass0 (da_cons (de_op op_add od_int (df de_int) (df (de_op op_fdiv od_intC (df (dv 2)) (df de_int)))) da_nil)) dcall)) (df (PE.imp (pe_callB (call_sum rfl) rfl T.n_sum PyProof.Rows.boot_sum (db_cons (df (fe (fe_slice (df (PE.imp (pe_call G_x23 (hr.mono (by decide)) rfl T.m_x23 T.F_x23.kp T.b_x23 .nil pass0 (da_cons (de_op op_add od_int (df de_int) (df (de_op op_fdiv od_intC (df (dv 2)) (df de_int)))) da_nil)) dcall)) do_none (do_some (de_op op_mod od_intC (df (dv 2)) (df de_int)))))) db_nil)) (dcb cd_sum))))
   case' r11 => refine' dss_one ?s14
   case' s14 => refine' ds_ret ?e15
   case e15 => exact (PE.imp (pe_callB (call_max2 rfl) rfl T.n_max PyProof.Rows.boot_max (db_cons (df de_int) (db_cons (df (de_op op_add od_int (df (de_op op_sub od_int (df (dv 3)) (df de_int))) (df (de_op op_mod od_intC (df (dv 0)) (df de_int))))) db_nil))) (dcb cd_two))
  case read =>
  clear hr T G_x22 G_x23
  walk_at "rz"
  split
  ·exact q _ (by omega)
  ·split
   ·exact q _ (by omega)
   ·have e12 : x / 6 % 3280 % 12 = ((x / 6 % 3280 % 12).toNat : Int) := by omega
    rw [e12]
    refine ⟨_, rfl, _, rfl, _, rfl, (lensL (2000 + x / 6 % 3280 / 12)).take (x / 6 % 3280 % 12).toNat, ?_, _, rfl, ?_⟩
    ·rw [cutD_take (by omega) (by rw [List.length_map]; show _ ≤ ((12 : Nat) : Int); omega), Int.toNat_natCast, List.map_take]
    ·split
     ·exact q _ (by omega)
     ·exact q 0 (by omega)
def F_since : List PyData → (PyData → Prop) → Prop := fun ds Q => ∃ (x : Int) (a b : Str), ds = [.int x, .list [.str a, .str b]] ∧ PyData.strOk a = true ∧ PyData.strOk b = true ∧ ∀ s : Sin, s.Ok → Q s.enc
theorem ok_since (T : Txt K mg t) : FnOk P w K mg base CX0 1 t.a_x26 t.d_x26 ["_law_x", "_law_words"] (spD K F_since) := by
 refine T.F_x26.okD sc_x26 (fun ds Q h => ?_) (fun cdv A outer s H O ds Q E hr h => ?_)
 ·obtain ⟨x, a, b, rfl, _⟩ := h; rfl
 ·obtain ⟨x, a, b, rfl, ha, hb, q⟩ := h
  refine' ⟨_, ?body, ?read⟩
  case body =>
   refine' dss_one ?s1
   case' s1 => generalize hG2 : Expr.Subscript _ _ _ = eg2
   refine' ds_ret ?e2
   case' e2 => subst hG2
   refine' de_ix ix_list od_ixL (df ?a3) ?b3
   case a3 =>
    refine' fe ?f4
    case' f4 => refine' fe_lst ?g5
    case' g5 => refine' da_cons ?u6 ?w6
    case u6 => exact (de_tup (da_cons de_str da_nil))
    case' w6 => refine' da_cons ?u8 ?w8
    case u8 =>
     refine' de_tup ?t9
     case' t9 => refine' da_cons de_str ?w10
     case' w10 => refine' da_cons ?u12 da_nil
     case' u12 => refine' de_ix ix_list od_ixL (df (dv 1)) ?b13
     case b13 => exact (df (de_op op_mod od_intC (df (de_op op_fdiv od_intC (df (dv 0)) (df de_int))) (df de_int)))
    case' w8 => refine' da_cons ?u16 da_nil
    case' u16 => refine' de_tup ?t17
    case' t17 => refine' da_cons de_str ?w18
    case' w18 => refine' da_cons ?u20 da_nil
    case' u20 => refine' de_ix ix_list od_ixL (df (dv 1)) ?b21
    case b21 => exact (df (de_op op_mod od_intC (df (de_op op_fdiv od_intC (df (dv 0)) (df de_int))) (df de_int)))
   case b3 => exact (df (de_op op_mod od_intC (df (dv 0)) (df de_int)))
  case read =>
  clear hr T
  walk_at "rz"
  obtain ⟨v, e1, mv⟩ := atI_mem (xs := [PyData.str a, PyData.str b]) (i := x / 3 % 2) (by omega) (by show _ < ((2 : Nat) : Int); omega)
  have hv : ∃ wd, v = .str wd ∧ PyData.strOk wd = true := by
   simp only [List.mem_cons, List.not_mem_nil, or_false] at mv
   rcases mv with rfl | rfl
   ·exact ⟨_, rfl, ha⟩
   ·exact ⟨_, rfl, hb⟩
  obtain ⟨wd, rfl, hwd⟩ := hv
  refine ⟨_, e1, _, e1, ?_⟩
  obtain ⟨v, e2, mv⟩ := atI_mem (xs := [PyData.tuple [PyData.str (Str.ofString "coming")], PyData.tuple [PyData.str (Str.ofString "first"), PyData.str wd], PyData.tuple [PyData.str (Str.ofString "last"), PyData.str wd]]) (i := x % 3) (by omega) (by show _ < ((3 : Nat) : Int); omega)
  refine ⟨_, e2, ?_⟩
  simp only [List.mem_cons, List.not_mem_nil, or_false] at mv
  rcases mv with rfl | rfl | rfl
  ·exact q .com trivial
  ·exact q (.fst wd) hwd
  ·exact q (.lst wd) hwd
theorem pickT (ss : List Str) {i : Int} (h0 : 0 ≤ i) (h1 : i < ss.length) : ∃ nm ∈ ss, atI (ss.map PyData.str) i = some (.str nm) := by
 obtain ⟨v, e, m⟩ := atI_mem (xs := ss.map PyData.str) h0 (by rw [List.length_map]; exact h1)
 obtain ⟨nm, hn, rfl⟩ := List.mem_map.mp m
 exact ⟨nm, hn, e⟩
theorem ok_w : ∀ z ∈ ([Str.ofString "while", Str.ofString "follow", Str.ofString "leave"] : List Str), ¬ KG z ∧ PyData.strOk z = true := by
 intro z hz
 simp only [List.mem_cons, List.not_mem_nil, or_false] at hz
 rcases hz with rfl | rfl | rfl <;> exact ⟨fun h => by rcases h with h | h <;> exact absurd h (by decide +kernel), by decide +kernel⟩
theorem ok_u : ∀ z ∈ ([Str.ofString "days", Str.ofString "months", Str.ofString "years"] : List Str), Unit3 z := by
 intro z hz
 simp only [List.mem_cons, List.not_mem_nil, or_false] at hz
 exact hz
theorem ok_kg : ∀ z ∈ ([Str.ofString "keep", Str.ofString "gone"] : List Str), KG z := by
 intro z hz
 simp only [List.mem_cons, List.not_mem_nil, or_false] at hz
 exact hz
def F_parts : List PyData → (PyData → Prop) → Prop := fun ds Q => ∃ (x0 x1 x2 x3 x4 x5 x6 x7 x8 : Int) (a b c d e : Str) (f : Bool), ds = [.list [.int x0, .int x1, .int x2, .int x3, .int x4, .int x5, .int x6, .int x7, .int x8], .list [.str a, .str b, .str c], .list [.str d, .str e], .bool f] ∧ (∀ z ∈ [a, b, c, d, e], PyData.strOk z = true) ∧ ∀ pt : Pt, pt.Ok → Q pt.enc
theorem ok_parts (T : Txt K mg t) : FnOk P w K mg base CX0 2 t.a_x27 t.d_x27 ["_law_xs", "_law_kinds", "_law_words", "_law_far_here"] (spD K F_parts) := by
 have G_x26 := ok_since (P := P) (w := w) (base := base) T
 refine T.F_x27.okD sc_x27 (fun ds Q h => ?_) (fun cdv A outer s H O ds Q E hr h => ?_)
 ·obtain ⟨x0, x1, x2, x3, x4, x5, x6, x7, x8, a, b, c, d, e, f, rfl, _⟩ := h; rfl
 ·obtain ⟨x0, x1, x2, x3, x4, x5, x6, x7, x8, a, b, c, d, e, f, rfl, hok, q⟩ := h
  refine' ⟨_, ?body, ?read⟩
  case body =>
   refine' dss_cons ?s1 ?r1
   case s1 =>
    refine' ds_set (i := 4) sc_x27.nd rfl (by walk_at "o") ?e2 (hs := swaps_Subscript)
    case' e2 => refine' de_ix ix_list od_ixL (df (dv 1)) ?b3
    case b3 => exact (df (de_op op_mod od_intC (df (de_op op_mod od_intC (df (de_ix ix_list od_ixL (df (dv 0)) (df de_int))) (df de_int))) (df (PE.imp (pe_callB call_len_seq rfl T.n_len PySem.boot_len (db_cons (df (dv 1)) db_nil)) (dcb cd_len)))))
   case' r1 => refine' dss_cons ?s5 ?r5
   case s5 => exact (ds_set (i := 5) sc_x27.nd rfl (by walk_at "o") (de_op op_mod od_intC (df (de_ix ix_list od_ixL (df (dv 0)) (df de_int))) (df de_int)))
   case' r5 => refine' dss_cons ?s7 ?r7
   case s7 =>
    refine' ds_if ?c8 ?a8 dss_nil
    case c8 => exact (dt_cmp op_gt od_bl (df (dv 5)) (df de_int) (nomark _))
    case' a8 => refine' dss_one ?s9
    case' s9 => refine' ds_ret ?e10
    case' e10 => refine' de_tup ?t11
    case' t11 => refine' da_cons ?u12 ?w12
    case u12 =>
     refine' de_ix ix_list od_ixL (df ?a13) ?b13
     case a13 => exact (fe (fe_lst (da_lits (ds := [.str "while", .str "follow", .str "leave"]) (by rfl))))
     case b13 => exact (df (de_op op_sub od_int (df (dv 5)) (df de_int)))
    case w12 => refine' da_cons (dv 4) da_nil
   case' r7 => refine' dss_cons ?s18 ?r18
   case s18 =>
    generalize hG19 : Expr.Subscript _ _ _ = eg19
    refine' ds_set (i := 6) sc_x27.nd rfl (by walk_at "o") ?e19 (hs := by subst hG19; exact swaps_Subscript)
    case' e19 => subst hG19
    refine' de_ix ix_list od_ixL (df ?a20) ?b20
    case a20 => exact (fe (fe_lst (da_lits (ds := [.str "days", .str "months", .str "years"]) (by rfl))))
    case b20 => exact (df (de_op op_mod od_intC (df (de_ix ix_list od_ixL (df (dv 0)) (df de_int))) (df de_int)))
   case' r18 => refine' dss_cons ?s22 ?r22
   case s22 =>
    generalize hG23 : Expr.Subscript _ _ _ = eg23
    refine' ds_set (i := 7) sc_x27.nd rfl (by walk_at "o") ?e23 (hs := by subst hG23; exact swaps_Subscript)
    case' e23 => subst hG23
    refine' de_ix ix_list od_ixL (df ?a24) ?b24
    case a24 =>
     refine' fe ?f25
     case' f25 => refine' fe_lst ?g26
     case' g26 => refine' da_cons ?u27 ?w27
     case u27 => exact (de_op op_mod od_intC (df (de_ix ix_list od_ixL (df (dv 0)) (df de_int))) (df de_int))
     case' w27 => refine' da_cons ?u29 da_nil
     case u29 => exact (de_op op_mod od_intC (df (de_ix ix_list od_ixL (df (dv 0)) (df de_int))) (df de_int))
    case b24 => exact (df (PE.imp (pe_callTy call_int1 rfl T.n_int bt_int (db_cons (df (de_cmp (op_eqX hr.units) od_eq (df (de_op op_mod od_intC (df (de_ix ix_list od_ixL (df (dv 0)) (df de_int))) (df de_int))) (df de_int) (nomark _))) db_nil)) (dcb cd_int)))
   case' r22 => refine' dss_cons ?s32 ?r32
   case s32 =>
    refine' ds_if ?c33 ?a33 dss_nil
    case c33 => exact (dt_not (dt_val (dv 3)))
    case' a33 => refine' dss_cons ?s34 ?r34
    case s34 =>
     generalize hG35 : Expr.Subscript _ _ _ = eg35
     refine' ds_set (i := 6) sc_x27.nd rfl (by walk_at "o") ?e35 (hs := by subst hG35; exact swaps_Subscript)
     case' e35 => subst hG35
     refine' de_ix ix_list od_ixL (df ?a36) ?b36
     case a36 => exact (fe (fe_lst (da_lits (ds := [.str "days", .str "days", .str "months"]) (by rfl))))
     case b36 => exact (df (de_op op_mod od_intC (df (de_ix ix_list od_ixL (df (dv 0)) (df de_int))) (df de_int)))
    case' r34 => refine' dss_one ?s38
    case' s38 => generalize hG39 : Expr.Subscript _ _ _ = eg39
    refine' ds_set (i := 7) sc_x27.nd rfl (by walk_at "o") ?e39 (hs := by subst hG39; exact swaps_Subscript)
    case' e39 => subst hG39
    refine' de_ix ix_list od_ixL (df ?a40) ?b40
    case a40 =>
     refine' fe ?f41
     case' f41 => refine' fe_lst ?g42
     case' g42 => refine' da_cons ?u43 ?w43
     case u43 => exact (de_op op_mod od_intC (df (de_ix ix_list od_ixL (df (dv 0)) (df de_int))) (df de_int))
     case' w43 => refine' da_cons ?u45 da_nil
     case u45 => exact (de_op op_mod od_intC (df (de_ix ix_list od_ixL (df (dv 0)) (df de_int))) (df de_int))
    case b40 => exact (df (PE.imp (pe_callTy call_int1 rfl T.n_int bt_int (db_cons (df (de_cmp (op_eqZ hr) od_eqZ (df (dv 6)) (df de_str) (nomark _))) db_nil)) (dcb cd_int)))
   case' r32 => refine' dss_one ?s48
   case' s48 => refine' ds_ret ?e49
   case' e49 => refine' de_tup ?t50
   case' t50 => refine' da_cons ?u51 ?w51
   case u51 => exact (de_ix ix_list od_ixL (df (fe (fe_lst (da_cons de_str (da_cons de_str da_nil))))) (df (de_op op_mod od_intC (df (dv 5)) (df de_int))))
   case' w51 => refine' da_cons (dv 4) ?w53
   case' w53 => refine' da_cons ?u55 ?w55
   case u55 => exact (PE.imp (pe_call G_x26 (hr.mono (by decide)) rfl T.m_x26 T.F_x26.kp T.b_x26 .nil pass0 (da_cons (de_ix ix_list od_ixL (df (dv 0)) (df de_int)) (da_cons (dv 2) da_nil))) dcall)
   case' w55 => refine' da_cons (dv 7) ?w57
   case w57 => refine' da_cons (dv 6) da_nil
  case read =>
  clear hr T G_x26
  walk_at "rz"
  obtain ⟨kd, hkd, ek⟩ := pickT [a, b, c] (i := x2 % 3 % 3) (by omega) (by show _ < ((3 : Nat) : Int); omega)
  have kok : PyData.strOk kd = true := hok kd (by
   simp only [List.mem_cons, List.not_mem_nil, or_false] at hkd ⊢
   rcases hkd with h | h | h <;> simp [h])
  refine ⟨by decide, _, ek, ?_⟩
  split
  ·obtain ⟨wo, hw, ew⟩ := pickT [Str.ofString "while", Str.ofString "follow", Str.ofString "leave"] (i := x3 % 8 - 5) (by omega) (by show _ < ((3 : Nat) : Int); omega)
   obtain ⟨w1, w2⟩ := ok_w wo hw
   exact ⟨_, ew, q (.two wo kd) ⟨w1, w2, kok⟩⟩
  ·have fin : ∀ (k : Int) (u : Str), 0 ≤ k → k < 1000 → Unit3 u → ∃ d_7, atI [PyData.str (Str.ofString "keep"), PyData.str (Str.ofString "gone")] (x3 % 8 % 2) = some d_7 ∧ F_since [.int x7, PyData.list [PyData.str d, PyData.str e]] fun d => Q (PyData.tuple [d_7, .str kd, d, .int k, .str u]) := fun k u k0 k1 hu => by
    obtain ⟨wo, hw, ew⟩ := pickT [Str.ofString "keep", Str.ofString "gone"] (i := x3 % 8 % 2) (by omega) (by show _ < ((2 : Nat) : Int); omega)
    exact ⟨_, ew, x7, d, e, rfl, hok d (by simp), hok e (by simp), fun s hs => q (.five wo kd s k u) ⟨ok_kg wo hw, kok, hs, k0, k1, hu⟩⟩
   obtain ⟨u, hu, eu⟩ := pickT [Str.ofString "days", Str.ofString "months", Str.ofString "years"] (i := x4 % 3) (by omega) (by show _ < ((3 : Nat) : Int); omega)
   refine ⟨_, eu, ?_⟩
   have two : ∀ (p r : Int) (b : Bool), 0 ≤ p → p < 1000 → 0 ≤ r → r < 1000 → ∃ k, atI [PyData.int p, PyData.int r] (if b = true then 1 else 0) = some (.int k) ∧ 0 ≤ k ∧ k < 1000 := fun p r b p0 p1 r0 r1 => by
    cases b
    ·exact ⟨p, atI_c0, p0, p1⟩
    ·exact ⟨r, atI_c1, r0, r1⟩
   walk_at "rzw"
   obtain ⟨k, hk, k0, k1⟩ := two (x5 % 30) (x5 % 1000) (x6 % 4 == 0) (by omega) (by omega) (by omega) (by omega)
   refine ⟨_, hk, ?_⟩
   split
   ·obtain ⟨u, hu, eu⟩ := pickT [Str.ofString "days", Str.ofString "days", Str.ofString "months"] (i := x4 % 3) (by omega) (by show _ < ((3 : Nat) : Int); omega)
    refine ⟨_, eu, rfl, ?_⟩
    obtain ⟨k, hk, k0, k1⟩ := two (x5 % 21) (x5 % 2) ((PyData.str u).eqv (PyData.str (Str.ofString "months"))) (by omega) (by omega) (by omega) (by omega)
    exact ⟨_, hk, fin k u k0 k1 (ok_u u (by
     simp only [List.mem_cons, List.not_mem_nil, or_false] at hu ⊢
     rcases hu with h | h | h <;> simp [h]))⟩
   ·exact fin k u k0 k1 (ok_u u hu)
end
end K19

open PySem L2
namespace K19
open Day
section
variable {P : Program} {w : World} {K : PySem.W.Frag} {mg : Str → Option Value} {base : Heap} {t : Adr}
structure Good1 (x : De) : Prop where
 d0 : 0 ≤ x.d
 nm : PyData.strOk x.nm = true
 w : PyData.strOk x.w = true
 ly : Lay 6 x.enc
 pp : ∀ p, x = .pap p → PyData.strOk p.kd = true ∧ (∀ m ∈ p.ms, PyData.strOk m = true) ∧ p.ms.length ≤ 50
 np : ∀ w d nm r, x = .oth w d nm r → w ≠ Str.ofString "paper"
 hp : ∀ d nm r, x = .oth (Str.ofString "happens") d nm r → ∃ wd, r = [.str wd] ∧ PyData.strOk wd = true
 ru : ∀ d nm r, x = .oth (Str.ofString "rule") d nm r → ∃ pt : Pt, r = [pt.enc] ∧ pt.Ok
def Apt (x y : De) : Prop := x ≠ y ∧ ∀ p q, x = .pap p → y = .pap q → p.nm ≠ q.nm
def De.r : De → List PyData
 | .pap p => [.str p.kd, .tuple (p.ms.map .str)]
 | .oth _ _ _ r => r
theorem enc_eq (x : De) : x.enc = .tuple (.str x.w :: .int x.d :: .str x.nm :: x.r) := by cases x <;> rfl
mutual
theorem eqv_self : ∀ d : PyData, d.canLay0 = true → PyData.eqv d d = true
 | .none, _ => by simp [PyData.eqv]
 | .bool _, _ | .int _, _ | .str _, _ => by simp [PyData.eqv]
 | .list xs, h => by rw [PyData.eqv]; exact eqvAll_self xs (by simpa [PyData.canLay0] using h)
 | .tuple xs, h => by rw [PyData.eqv]; exact eqvAll_self xs (by simpa [PyData.canLay0] using h)
 | .dict _, h => by simp [PyData.canLay0] at h
theorem eqvAll_self : ∀ ds : List PyData, PyData.canLayAll0 ds = true → PyData.eqvAll ds ds = true
 | [], _ => by simp [PyData.eqvAll]
 | d :: ds, h => by
  rw [PyData.canLayAll0, Bool.and_eq_true] at h
  rw [PyData.eqvAll, eqv_self d h.1, eqvAll_self ds h.2]; rfl
end
def F_quarrel : List PyData → (PyData → Prop) → Prop := fun ds Q => ∃ x y : De, ds = [x.enc, y.enc] ∧ Good1 x ∧ Good1 y ∧ ∀ b : Bool, (b = false → Apt x y) → Q (.bool b)
theorem ok_quarrel (T : Txt K mg t) : FnOk P w K mg base CX0 1 t.a_x28 t.d_x28 ["_law_one", "_law_other"] (spD K F_quarrel) := by
 refine T.F_x28.okD sc_x28 (fun ds Q h => ?_) (fun cdv A outer s H O ds Q E hr h => ?_)
 ·obtain ⟨x, y, rfl, _⟩ := h; rfl
 ·obtain ⟨x, y, rfl, gx, gy, q⟩ := h
  refine' ⟨_, ?body, ?read⟩
  case body =>
   refine' dss_cons ?s1 ?r1
   case s1 =>
    refine' ds_if ?c2 ?a2 dss_nil
    case c2 => exact (dt_cmp (op_eqX hr.units) od_eq (df (dv 0)) (df (dv 1)) (nomark _))
    case a2 => refine' dss_one (ds_ret de_bl)
   case' r1 => refine' dss_cons ?s5 ?r5
   case s5 =>
    refine' ds_if ?c6 ?a6 dss_nil
    case c6 => exact (PW.pt (dw_and (dt_cmp (op_inZ hr) od_inZ (df (de_ix ix_tup od_ixT (df (dv 0)) (df de_int))) (df (de_tup (da_cons de_str (da_cons de_str da_nil)))) rfl) (dw_and1 (dt_cmp (op_inZ hr) od_inZ (df (de_ix ix_tup od_ixT (df (dv 1)) (df de_int))) (df (de_tup (da_cons de_str (da_cons de_str da_nil)))) rfl))))
    case' a6 => refine' dss_one ?s7
    case' s7 => refine' ds_ret ?e8
    case e8 => exact (de_cmp (op_eqX hr.units) od_eq (df (de_sliceX (df (dv 0)) (do_some de_int) (do_some de_int))) (df (de_sliceX (df (dv 1)) (do_some de_int) (do_some de_int))) (nomark _))
   case' r5 => refine' dss_cons ?s10 ?r10
   case s10 =>
    refine' ds_if ?c11 ?a11 dss_nil
    case c11 => exact (PW.pt (dw_and (dt_cmp (op_inZ hr) od_inZ (df (de_ix ix_tup od_ixT (df (dv 0)) (df de_int))) (df (de_tup (da_cons de_str (da_cons de_str da_nil)))) rfl) (dw_and1 (dt_cmp (op_inZ hr) od_inZ (df (de_ix ix_tup od_ixT (df (dv 1)) (df de_int))) (df (de_tup (da_cons de_str (da_cons de_str da_nil)))) rfl))))
    case' a11 => refine' dss_one ?s12
    case' s12 => refine' ds_ret ?e13
    case e13 => exact (de_cmp (op_eqX hr.units) od_eq (df (de_sliceX (df (dv 0)) (do_some de_int) (do_some de_int))) (df (de_sliceX (df (dv 1)) (do_some de_int) (do_some de_int))) (nomark _))
   case' r10 => refine' dss_one ?s15
   case' s15 => refine' ds_ret ?e16
   case e16 => exact (de_and (de_cmp (op_eqX hr.units) od_eq (df (de_ix ix_tup od_ixT (df (dv 0)) (df de_int))) (df (de_ix ix_tup od_ixT (df (dv 1)) (df de_int))) (nomark _)) (de_and (de_cmp (op_inZ hr) od_inZ (df (de_ix ix_tup od_ixT (df (dv 0)) (df de_int))) (df (de_tup (da_cons de_str (da_cons de_str da_nil)))) rfl) (de_one (de_cmp (op_eqX hr.units) od_eq (df (de_ix ix_tup od_ixT (df (dv 0)) (df de_int))) (df (de_ix ix_tup od_ixT (df (dv 1)) (df de_int))) (nomark _)))))
  case read =>
  clear hr T
  have ex := gx.ly.shp (by decide)
  have ey := gy.ly.shp (by decide)
  have ne : (x.enc).eqv y.enc = false → x ≠ y := fun h e => by rw [e, eqv_self _ gy.ly.can] at h; cases h
  have two : ∀ z : De, PyData.strOk z.nm = true → SeqAt.shaped (PyData.tuple [PyData.int z.d, PyData.str z.nm]) = true := fun z hz => (lay_tup (n := 1) fun y hy => by
   simp only [List.mem_cons, List.not_mem_nil, or_false] at hy
   rcases hy with rfl | rfl
   ·exact lay_int
   ·exact lay_str hz).shp (by decide)
  have tx := two x gx.nm
  have ty := two y gy.nm
  have ax := shp_str.mpr gx.w
  have ay := shp_str.mpr gy.w
  have bx := shp_str.mpr gx.nm
  have by' := shp_str.mpr gy.nm
  rw [enc_eq] at ex
  rw [enc_eq] at ey
  by_cases hxy : x.w = Str.ofString "paper" ∧ y.w = Str.ofString "paper"
  ·have q' : ∀ b : Bool, (b = false → (x.enc).eqv y.enc = false ∧ x.nm ≠ y.nm) → Q (.bool b) := fun b h => q b fun e => ⟨ne (h e).1, fun p r e1 e2 => by have := (h e).2; rw [e1, e2] at this; exact this⟩
   clear q ne
   rw [enc_eq, enc_eq] at q'
   rw [enc_eq, enc_eq]
   rw [hxy.1] at ex q' ⊢
   rw [hxy.2] at ey q' ⊢
   walk_at "rz"
   refine ⟨ex, ey, ?_⟩
   split
   ·exact q' true (fun e => by cases e)
   ·rename_i h
    exact ⟨by decide +kernel, by decide +kernel, bx, by', q' _ fun e => ⟨by simpa using h, by simpa using e⟩⟩
  ·have q' : ∀ b : Bool, (b = false → (x.enc).eqv y.enc = false) → Q (.bool b) := fun b h => q b fun e => ⟨ne (h e), fun p r e1 e2 => absurd (by rw [e1, e2]; exact ⟨rfl, rfl⟩) hxy⟩
   clear q ne
   rw [enc_eq, enc_eq] at q'
   rw [enc_eq, enc_eq]
   walk_at "rz"
   refine ⟨ex, ey, ?_⟩
   split
   ·exact q' true (fun e => by cases e)
   ·rename_i h
    have rest : ∀ b, Q (.bool b) := fun b => q' b fun _ => by simpa using h
    clear q' h
    simp only [tx, ty, ax, ay, bx, by', true_and, rest, ite_self]
def F_pools : List PyData → (PyData → Prop) → Prop := fun ds Q => ∃ x : Int, ds = [.int x] ∧ ∀ n0 n1 n2 n3 n4 n5 n6 : Str, (∀ z ∈ [n0, n1, n2, n3, n4, n5, n6], PyData.strOk z = true) → Q (.tuple [.list [.str n0, .str n1, .str n2, .str n3, .str n4, .str n5], .list [.str n1, .str n2, .str n3], .list [.str n2, .str n3], .list [.str n2, .str n3, .str n4, .str n5, .str n6]])
theorem ok_pools (T : Txt K mg t) : FnOk P w K mg base CX0 2 t.a_x30 t.d_x30 ["_law_x"] (spD K F_pools) := by
 have G_x21 := ok_pool (P := P) (w := w) (base := base) T
 refine T.F_x30.okD sc_x30 (fun ds Q h => ?_) (fun cdv A outer s H O ds Q E hr h => ?_)
 ·obtain ⟨x, rfl, _⟩ := h; rfl
 ·obtain ⟨x, rfl, q⟩ := h
  refine' ⟨_, ?body, ?read⟩
  case body =>
   refine' dss_cons ?s1 ?r1
   case s1 => exact (ds_set (i := 1) sc_x30.nd rfl (by walk_at "o") (PE.imp (pe_call G_x21 (hr.mono (by decide)) rfl T.m_x21 T.F_x21.kp T.b_x21 .nil pass0 (da_cons (dv 0) (da_cons de_int da_nil))) dcall))
   case' r1 => refine' dss_one ?s3
   case' s3 => generalize hG4 : Expr.Tuple _ _ _ = eg4
   refine' ds_ret ?e4
   case' e4 => subst hG4
   refine' de_tup ?t5
   case' t5 => refine' da_cons ?u6 ?w6
   case u6 => exact (fe (fe_slice (df (dv 1)) do_none (do_some de_int)))
   case' w6 => refine' da_cons ?u8 ?w8
   case u8 => exact (fe (fe_slice (df (dv 1)) (do_some de_int) (do_some de_int)))
   case' w8 => refine' da_cons ?u10 ?w10
   case u10 => exact (fe (fe_slice (df (dv 1)) (do_some de_int) (do_some de_int)))
   case' w10 => refine' da_cons ?u12 da_nil
   case u12 => exact (fe (fe_slice (df (dv 1)) (do_some de_int) (do_some de_int)))
  case read =>
  clear hr T G_x21
  walk_at "rz"
  refine ⟨x, 7, rfl, by omega, by omega, fun ss sl sok => ?_⟩
  obtain ⟨n0, n1, n2, n3, n4, n5, n6, rfl⟩ : ∃ a b c d e f g, ss = [a, b, c, d, e, f, g] := by
   match ss, (show ss.length = 7 by omega) with
   | [a, b, c, d, e, f, g], _ => exact ⟨_, _, _, _, _, _, _, rfl⟩
  walk_at "rz"
  exact q n0 n1 n2 n3 n4 n5 n6 sok
def sorts : List Str := [Str.ofString "paper", Str.ofString "paper", Str.ofString "paper", Str.ofString "paper", Str.ofString "paper", Str.ofString "rule", Str.ofString "rule", Str.ofString "rule", Str.ofString "rule", Str.ofString "rule", Str.ofString "happens", Str.ofString "happens", Str.ofString "happens", Str.ofString "hold", Str.ofString "hold", Str.ofString "end", Str.ofString "lift", Str.ofString "leave", Str.ofString "leave"]
def F_sorts : List PyData → (PyData → Prop) → Prop := fun ds Q => ds = [] ∧ Q (.list (sorts.map .str))
theorem ok_sorts (T : Txt K mg t) : FnOk P w K mg base CX0 1 t.a_x31 t.d_x31 [] (spD K F_sorts) := by
 refine T.F_x31.okD sc_x31 (fun ds Q h => ?_) (fun cdv A outer s H O ds Q E hr h => ?_)
 ·obtain ⟨rfl, _⟩ := h; rfl
 ·obtain ⟨rfl, q⟩ := h
  refine' ⟨_, ?body, ?read⟩
  case body =>
   refine' dss_cons ?s1 ?r1
   case s1 =>
    generalize hG2 : Expr.BinOp _ _ _ _ = eg2
    refine' ds_set (i := 0) sc_x31.nd rfl (by walk_at "o") ?e2 (hs := by subst hG2; exact swaps_BinOp)
    case' e2 => subst hG2
    refine' fe ?f3
    case' f3 => refine' fe_cat (df ?a4) (df ?b4)
    case a4 =>
     refine' fe ?f5
     case' f5 => refine' fe_cat (df ?a6) (df ?b6)
     case a6 => exact (fe (fe_repC (n := 5) (by decide) (fe_lst (da_cons de_str da_nil))))
     case b6 => exact (fe (fe_repC (n := 5) (by decide) (fe_lst (da_cons de_str da_nil))))
    case b4 => exact (fe (fe_repC (n := 3) (by decide) (fe_lst (da_cons de_str da_nil))))
   case' r1 => refine' dss_one ?s10
   case' s10 => generalize hE11_0 : Expr.List _ _ = ee11_0
   exact (ds_ret (fe (fe_cat (df (dv 0)) (df (fe (fe_lits (ds := [.str "hold", .str "hold", .str "end", .str "lift", .str "leave", .str "leave"]) (by first | (subst hE11_0; rfl))))))))
  case read =>
  clear hr T
  walk_at "rz"
  refine ⟨?_, ?_, ?_, q⟩
  ·show (10 : Nat) ≤ 16777216; decide
  ·show (13 : Nat) ≤ 16777216; decide
  ·show (13 : Nat) ≤ 16777210; decide
end
end K19

open PySem L2
namespace K19
open Day
theorem cs_x29_0 : CompScope (defScope s_x29) ["_law_sort", "_law_xs", "_law_pools_here", "_law_far_here", "_law_names", "_law_kinds", "_law_words", "_law_rules", "_law_day_here", "_law_some", "_law_target"] ["_law_k", "_law_names", "_law_xs"] 1 [4, 1] { kind := PySem.ScopeKind.function, names := [ (PySem.Str.ofString ".0", PySem.NameKind.local), (PySem.Str.ofString "_law_k", PySem.NameKind.local), (PySem.Str.ofString "_law_names", PySem.NameKind.free), (PySem.Str.ofString "_law_xs", PySem.NameKind.free)], isGenerator := false, isCoroutine := false, more := [] : PySem.Scope } := ⟨rfl, by decide +kernel, by decide +kernel, by decide +kernel, rfl, by decide +kernel, by decide +kernel, by decide +kernel, rfl⟩
section
variable {P : Program} {w : World} {K : PySem.W.Frag} {mg : Str → Option Value} {base : Heap} {t : Adr}
theorem lay2 {a b : Str} (ha : PyData.strOk a = true) (hb : PyData.strOk b = true) : Lay 2 (.tuple [.str a, .str b]) := lay_tup (lay_cons (lay_str ha) (lay_cons (lay_str hb) lay_nil))
theorem Pt.lay {pt : Pt} (h : pt.Ok) : Lay 5 pt.enc := by
 cases pt with
 | two w kd => exact (lay2 h.2.1 h.2.2).mono (by decide)
 | five w kd s k u =>
  obtain ⟨h1, h2, h3, _, _, h6⟩ := h
  have w1 : PyData.strOk w = true := by rcases h1 with e | e <;> rw [e] <;> decide +kernel
  have u1 : PyData.strOk u = true := by rcases h6 with e | e | e <;> rw [e] <;> decide +kernel
  have s1 : Lay 4 s.enc := by
   cases s with
   | com => exact (lay_tup (lay_cons (lay_str (by decide +kernel)) lay_nil)).mono (by decide)
   | fst wd => exact (lay2 (by decide +kernel) h3).mono (by decide)
   | lst wd => exact (lay2 (by decide +kernel) h3).mono (by decide)
  exact lay_tup (lay_cons ((lay_str w1).mono (by decide)) (lay_cons ((lay_str h2).mono (by decide)) (lay_cons s1 (lay_cons (lay_int.mono (by decide)) (lay_cons ((lay_str u1).mono (by decide)) lay_nil)))))
theorem lay4 {w nm : Str} {d : Int} {r : List PyData} (hw : PyData.strOk w = true) (hn : PyData.strOk nm = true) (hr : ∀ y ∈ r, Lay 5 y) : Lay 6 (.tuple (.str w :: .int d :: .str nm :: r)) :=
 lay_tup (lay_cons ((lay_str hw).mono (by decide)) (lay_cons (lay_int.mono (by decide)) (lay_cons ((lay_str hn).mono (by decide)) hr)))
theorem mkO {w nm : Str} {d : Int} {r : List PyData} (d0 : 0 ≤ d) (hw : PyData.strOk w = true) (hn : PyData.strOk nm = true) (hr : ∀ y ∈ r, Lay 5 y) (np : w ≠ Str.ofString "paper") (hp : w = Str.ofString "happens" → ∃ wd, r = [.str wd] ∧ PyData.strOk wd = true) (ru : w = Str.ofString "rule" → ∃ pt : Pt, r = [pt.enc] ∧ pt.Ok) : Good1 (.oth w d nm r) := by
 refine ⟨d0, hn, hw, lay4 hw hn hr, fun p e => (by cases e), fun w' d' nm' r' e => (by cases e; exact np), fun d' nm' r' e => (by cases e; exact hp rfl), fun d' nm' r' e => (by cases e; exact ru rfl)⟩
theorem mkP {p : Pp} (d0 : 0 ≤ p.d) (hn : PyData.strOk p.nm = true) (hk : PyData.strOk p.kd = true) (hm : ∀ m ∈ p.ms, PyData.strOk m = true) (hl : p.ms.length ≤ 50) : Good1 (.pap p) := by
 refine ⟨d0, hn, ok_paper, lay4 ok_paper hn (lay_cons ((lay_str hk).mono (by decide)) (lay_cons ((lay_tup (lay_strs (n := 1) hm)).mono (by decide)) lay_nil)), fun p' e => (by cases e; exact ⟨hk, hm, hl⟩), fun w' d' nm' r' e => (by cases e), fun d' nm' r' e => (by cases e), fun d' nm' r' e => (by cases e)⟩
theorem sorts_ok : ∀ z ∈ sorts, PyData.strOk z = true := by
 intro z hz
 have h : z ∈ ([Str.ofString "paper", Str.ofString "rule", Str.ofString "happens", Str.ofString "hold", Str.ofString "end", Str.ofString "lift", Str.ofString "leave"] : List Str) := by
  simp only [sorts, List.mem_cons, List.not_mem_nil, or_false] at hz ⊢
  rcases hz with h | h | h | h | h | h | h | h | h | h | h | h | h | h | h | h | h | h | h <;> simp only [h, true_or, or_true]
 simp only [List.mem_cons, List.not_mem_nil, or_false] at h
 rcases h with rfl | rfl | rfl | rfl | rfl | rfl | rfl <;> decide +kernel
theorem cut_strs (ss : List Str) (lo hi : Option Int) : ∃ ms : List Str, cutD (ss.map PyData.str) lo hi = ms.map .str ∧ (∀ m ∈ ms, m ∈ ss) ∧ ms.length ≤ ss.length := by
 unfold cutD
 rw [← List.map_drop, ← List.map_take]
 exact ⟨_, rfl, fun m hm => List.mem_of_mem_drop (List.mem_of_mem_take hm), by rw [List.length_take, List.length_drop]; omega⟩
def poolsD (n0 n1 n2 n3 n4 n5 n6 : Str) : PyData := .tuple [.list [.str n0, .str n1, .str n2, .str n3, .str n4, .str n5], .list [.str n1, .str n2, .str n3], .list [.str n2, .str n3], .list [.str n2, .str n3, .str n4, .str n5, .str n6]]
def F_deed : List PyData → (PyData → Prop) → Prop := fun ds Q => ∃ (so : Str) (x0 x1 x2 x3 x4 x5 x6 x7 x8 : Int) (n0 n1 n2 n3 n4 n5 n6 : Str) (f : Bool), ds = [.str so, .list [.int x0, .int x1, .int x2, .int x3, .int x4, .int x5, .int x6, .int x7, .int x8], poolsD n0 n1 n2 n3 n4 n5 n6, .bool f] ∧ so ∈ sorts ∧ 0 ≤ x0 ∧ (∀ z ∈ [n0, n1, n2, n3, n4, n5, n6], PyData.strOk z = true) ∧ ∀ x : De, Good1 x → x.w = so → Q x.enc
set_option maxHeartbeats 1000000 in
theorem ok_deed (T : Txt K mg t) : FnOk P w K mg base CX0 3 t.a_x29 t.d_x29 ["_law_sort", "_law_xs", "_law_pools_here", "_law_far_here"] (spD K F_deed) := by
 have G_x25 := ok_day (P := P) (w := w) (base := base) T
 have G_x27 := ok_parts (P := P) (w := w) (base := base) T
 refine T.F_x29.okD sc_x29 (fun ds Q h => ?_) (fun cdv A outer s H O ds Q E hr h => ?_)
 ·obtain ⟨so, x0, x1, x2, x3, x4, x5, x6, x7, x8, n0, n1, n2, n3, n4, n5, n6, f, rfl, _⟩ := h; rfl
 ·obtain ⟨so, x0, x1, x2, x3, x4, x5, x6, x7, x8, n0, n1, n2, n3, n4, n5, n6, f, rfl, hso, h0, hok, q⟩ := h
  refine' ⟨_, ?body, ?read⟩
  case body =>
   refine' dss_cons ?s1 ?r1
   case s1 => exact (ds_asg (dv 2) (pg_tup (n := 4) rfl (pgs_cons (pg_name (i := 4) sc_x29.nd rfl (by walk_at "o")) (pgs_cons (pg_name (i := 5) sc_x29.nd rfl (by walk_at "o")) (pgs_cons (pg_name (i := 6) sc_x29.nd rfl (by walk_at "o")) (pgs_cons (pg_name (i := 7) sc_x29.nd rfl (by walk_at "o")) pgs_nil))))) (gd_tup (gds_cons gd_name (gds_cons gd_name (gds_cons gd_name (gds_cons gd_name gds_nil))))))
   case' r1 => refine' dss_cons ?s3 ?r3
   case s3 => exact (ds_set (i := 8) sc_x29.nd rfl (by walk_at "o") (PE.imp (pe_call G_x25 (hr.mono (by decide)) rfl T.m_x25 T.F_x25.kp T.b_x25 .nil pass0 (da_cons (de_ix ix_list od_ixL (df (dv 1)) (df de_int)) (da_cons (dv 3) da_nil))) dcall))
   case' r3 => refine' dss_cons ?s5 ?r5
   case s5 =>
    refine' ds_if ?c6 ?a6 dss_nil
    case c6 => exact (dt_cmp (op_eqZ hr) od_eqZ (df (dv 0)) (df de_str) (nomark _))
    case' a6 => refine' dss_cons ?s7 ?r7
    case s7 => exact (ds_setC (i := 9) sc_x29.nd rfl (by walk_at "o") (fu_compRI rfl cs_x29_0 rfl T.n_range (db_cons (df (PE.imp (pe_callB call_len_seq rfl T.n_len PySem.boot_len (db_cons (df (dv 4)) db_nil)) (dcb cd_len))) db_nil) gd_name keepName (by decide) (fun _ _ _ _ => (pg_name (i := 0) cs_x29_0.nd rfl (by walk_at "o"))) (fun _ _ _ _ => (pf_one (PW.pt (dw_and (dt_cmp (op_eqX hr.units) od_eq (df (de_op op_bandA od_anyI (df (de_op op_shrA od_anyI (df (de_ix ix_list od_ixL (df (dv 2)) (df de_int))) (df (dv 0)))) (df de_int))) (df de_int) (nomark _)) (dw_and1 (dt_cmp (op_eqX hr.units) od_eq (df (de_op op_bandA od_anyI (df (de_op op_shrA od_anyI (df (de_ix ix_list od_ixL (df (dv 2)) (df de_int))) (df (dv 0)))) (df de_int))) (df de_int) (nomark _))))))) (fun _ _ _ _ => (de_ix ix_list od_ixL (df (dv 1)) (df (dv 0))))))
    case' r7 => refine' dss_one ?s9
    case' s9 => generalize hG10 : Expr.Tuple _ _ _ = eg10
    refine' ds_ret ?e10
    case' e10 => subst hG10
    refine' de_tup ?t11
    case' t11 => refine' da_cons de_str ?w12
    case' w12 => refine' da_cons (dv 8) ?w14
    case' w14 => refine' da_cons ?u16 ?w16
    case u16 =>
     refine' de_ix ix_list od_ixL (df (dv 4)) ?b17
     case b17 => exact (df (de_op op_mod od_intC (df (de_ix ix_list od_ixL (df (dv 1)) (df de_int))) (df (PE.imp (pe_callB call_len_seq rfl T.n_len PySem.boot_len (db_cons (df (dv 4)) db_nil)) (dcb cd_len)))))
    case' w16 => refine' da_cons ?u19 ?w19
    case u19 =>
     refine' de_ix ix_list od_ixL (df (dv 5)) ?b20
     case b20 => exact (df (de_op op_mod od_intC (df (de_op op_mod od_intC (df (de_ix ix_list od_ixL (df (dv 1)) (df de_int))) (df de_int))) (df (PE.imp (pe_callB call_len_seq rfl T.n_len PySem.boot_len (db_cons (df (dv 5)) db_nil)) (dcb cd_len)))))
    case' w19 => refine' da_cons ?u22 da_nil
    case u22 => exact (PE.imp (pe_callTy call_tuple_of rfl T.n_tuple bt_tuple (db_cons (df (fe (fe_slice (df (fe (fe_sortS rfl T.n_sorted PyProof.Rows.boot_sorted (db_cons (df (dv 9)) db_nil)))) do_none (do_some de_int)))) db_nil)) (dcb cd_tupOf))
   case' r5 => refine' dss_cons ?s25 ?r25
   case s25 =>
    refine' ds_if ?c26 ?a26 dss_nil
    case c26 => exact (dt_cmp (op_eqZ hr) od_eqZ (df (dv 0)) (df de_str) (nomark _))
    case' a26 => refine' dss_one ?s27
    case' s27 => refine' ds_ret ?e28
    case' e28 => refine' de_tup ?t29
    case' t29 => refine' da_cons de_str ?w30
    case' w30 => refine' da_cons (dv 8) ?w32
    case' w32 => refine' da_cons ?u34 ?w34
    case u34 =>
     refine' de_ix ix_list od_ixL (df (dv 4)) ?b35
     case b35 => exact (df (de_op op_mod od_intC (df (de_ix ix_list od_ixL (df (dv 1)) (df de_int))) (df (PE.imp (pe_callB call_len_seq rfl T.n_len PySem.boot_len (db_cons (df (dv 4)) db_nil)) (dcb cd_len)))))
    case' w34 => refine' da_cons ?u37 da_nil
    case' u37 => refine' de_ix ix_list od_ixL (df (dv 6)) ?b38
    case b38 => exact (df (de_op op_mod od_intC (df (de_ix ix_list od_ixL (df (dv 1)) (df de_int))) (df de_int)))
   case' r25 => refine' dss_cons ?s41 ?r41
   case s41 =>
    refine' ds_if ?c42 ?a42 dss_nil
    case c42 => exact (dt_cmp (op_eqZ hr) od_eqZ (df (dv 0)) (df de_str) (nomark _))
    case' a42 => refine' dss_one ?s43
    case' s43 => refine' ds_ret ?e44
    case' e44 => refine' de_tup ?t45
    case' t45 => refine' da_cons de_str ?w46
    case' w46 => refine' da_cons (dv 8) ?w48
    case' w48 => refine' da_cons ?u50 ?w50
    case u50 =>
     refine' de_ix ix_list od_ixL (df (dv 7)) ?b51
     case b51 => exact (df (de_op op_mod od_intC (df (de_ix ix_list od_ixL (df (dv 1)) (df de_int))) (df (PE.imp (pe_callB call_len_seq rfl T.n_len PySem.boot_len (db_cons (df (dv 7)) db_nil)) (dcb cd_len)))))
    case' w50 => refine' da_cons ?u53 da_nil
    case u53 => exact (PE.imp (pe_call G_x27 (hr.mono (by decide)) rfl T.m_x27 T.F_x27.kp T.b_x27 .nil pass0 (da_cons (dv 1) (da_cons (dv 5) (da_cons (dv 6) (da_cons (dv 3) da_nil))))) dcall)
   case' r41 => refine' dss_cons ?s56 ?r56
   case s56 =>
    refine' ds_if ?c57 ?a57 dss_nil
    case c57 => exact (dt_cmp (op_eqZ hr) od_eqZ (df (dv 0)) (df de_str) (nomark _))
    case' a57 => refine' dss_cons ?s58 ?r58
    case s58 =>
     generalize hG59 : Expr.Subscript _ _ _ = eg59
     refine' ds_set (i := 10) sc_x29.nd rfl (by walk_at "o") ?e59 (hs := by subst hG59; exact swaps_Subscript)
     case' e59 => subst hG59
     refine' de_ix ix_list od_ixL (df ?a60) ?b60
     case a60 =>
      refine' fe ?f61
      case' f61 => refine' fe_lst ?g62
      case' g62 => refine' da_cons ?u63 ?w63
      case u63 =>
       refine' de_tup ?t64
       case' t64 => refine' da_cons de_str ?w65
       case' w65 => refine' da_cons ?u67 da_nil
       case' u67 => refine' de_ix ix_list od_ixL (df (dv 4)) ?b68
       case b68 => exact (df (de_op op_mod od_intC (df (de_ix ix_list od_ixL (df (dv 1)) (df de_int))) (df (PE.imp (pe_callB call_len_seq rfl T.n_len PySem.boot_len (db_cons (df (dv 4)) db_nil)) (dcb cd_len)))))
      case' w63 => refine' da_cons ?u71 da_nil
      case' u71 => refine' de_tup ?t72
      case' t72 => refine' da_cons de_str ?w73
      case' w73 => refine' da_cons ?u75 da_nil
      case' u75 => refine' de_ix ix_list od_ixL (df (dv 5)) ?b76
      case b76 => exact (df (de_op op_mod od_intC (df (de_ix ix_list od_ixL (df (dv 1)) (df de_int))) (df (PE.imp (pe_callB call_len_seq rfl T.n_len PySem.boot_len (db_cons (df (dv 5)) db_nil)) (dcb cd_len)))))
     case b60 => exact (df (de_op op_mod od_intC (df (de_ix ix_list od_ixL (df (dv 1)) (df de_int))) (df de_int)))
    case' r58 => refine' dss_one ?s80
    case' s80 => generalize hG81 : Expr.Tuple _ _ _ = eg81
    refine' ds_ret ?e81
    case' e81 => subst hG81
    refine' de_tup ?t82
    case' t82 => refine' da_cons de_str ?w83
    case' w83 => refine' da_cons (dv 8) ?w85
    case' w85 => refine' da_cons ?u87 ?w87
    case u87 =>
     refine' de_ix ix_list od_ixL (df (dv 7)) ?b88
     case b88 => exact (df (de_op op_mod od_intC (df (de_ix ix_list od_ixL (df (dv 1)) (df de_int))) (df de_int)))
    case' w87 => refine' da_cons (dv 10) ?w90
    case' w90 => refine' da_cons ?u92 da_nil
    case u92 => exact (de_cmp (op_eqX hr.units) od_eq (df (de_op op_mod od_intC (df (de_ix ix_list od_ixL (df (dv 1)) (df de_int))) (df de_int))) (df de_int) (nomark _))
   case' r56 => refine' dss_cons ?s95 ?r95
   case s95 =>
    refine' ds_if ?c96 ?a96 dss_nil
    case c96 => exact (dt_cmp (op_eqZ hr) od_eqZ (df (dv 0)) (df de_str) (nomark _))
    case' a96 => refine' dss_one ?s97
    case' s97 => refine' ds_ret ?e98
    case' e98 => refine' de_tup ?t99
    case' t99 => refine' da_cons de_str ?w100
    case' w100 => refine' da_cons (dv 8) ?w102
    case' w102 => refine' da_cons ?u104 ?w104
    case u104 =>
     refine' de_ix ix_list od_ixL (df (dv 4)) ?b105
     case b105 => exact (df (de_op op_mod od_intC (df (de_ix ix_list od_ixL (df (dv 1)) (df de_int))) (df (PE.imp (pe_callB call_len_seq rfl T.n_len PySem.boot_len (db_cons (df (dv 4)) db_nil)) (dcb cd_len)))))
    case' w104 => refine' da_cons ?u107 da_nil
    case' u107 => refine' de_ix ix_list od_ixL (df (dv 5)) ?b108
    case b108 => exact (df (de_op op_mod od_intC (df (de_op op_mod od_intC (df (de_ix ix_list od_ixL (df (dv 1)) (df de_int))) (df de_int))) (df (PE.imp (pe_callB call_len_seq rfl T.n_len PySem.boot_len (db_cons (df (dv 5)) db_nil)) (dcb cd_len)))))
   case' r95 => refine' dss_one ?s111
   case' s111 => refine' ds_ret ?e112
   case' e112 => refine' de_tup ?t113
   case' t113 => refine' da_cons (dv 0) ?w114
   case' w114 => refine' da_cons (dv 8) ?w116
   case' w116 => refine' da_cons ?u118 da_nil
   case' u118 => refine' de_ix ix_list od_ixL (df (dv 7)) ?b119
   case b119 => exact (df (de_op op_mod od_intC (df (de_ix ix_list od_ixL (df (dv 1)) (df de_int))) (df (de_ix ix_list od_ixL (df (fe (fe_lst (da_cons (PE.imp (pe_callB call_len_seq rfl T.n_len PySem.boot_len (db_cons (df (dv 7)) db_nil)) (dcb cd_len)) (da_cons de_int da_nil))))) (df (PE.imp (pe_callTy call_int1 rfl T.n_int bt_int (db_cons (df (de_cmp (op_eqZ hr) od_eqZ (df (dv 0)) (df de_str) (nomark _))) db_nil)) (dcb cd_int)))))))
  case read =>
  clear hr T G_x25 G_x27
  simp only [poolsD]
  walk_at "rzw"
  refine ⟨h0, fun d d0 => ?_⟩
  have six : ∀ i : Int, 0 ≤ i → i < 6 → ∃ nm, atI [PyData.str n0, PyData.str n1, PyData.str n2, PyData.str n3, PyData.str n4, PyData.str n5] i = some (.str nm) ∧ PyData.strOk nm = true := fun i i0 i1 => by
   obtain ⟨nm, hm, e⟩ := pickT [n0, n1, n2, n3, n4, n5] i0 (show i < ((6 : Nat) : Int) by omega)
   exact ⟨nm, e, hok nm (by simp only [List.mem_cons, List.not_mem_nil, or_false] at hm ⊢; rcases hm with h | h | h | h | h | h <;> simp only [h, true_or, or_true])⟩
  have thr : ∀ i : Int, 0 ≤ i → i < 3 → ∃ nm, atI [PyData.str n1, PyData.str n2, PyData.str n3] i = some (.str nm) ∧ PyData.strOk nm = true := fun i i0 i1 => by
   obtain ⟨nm, hm, e⟩ := pickT [n1, n2, n3] i0 (show i < ((3 : Nat) : Int) by omega)
   exact ⟨nm, e, hok nm (by simp only [List.mem_cons, List.not_mem_nil, or_false] at hm ⊢; rcases hm with h | h | h <;> simp only [h, true_or, or_true])⟩
  have fiv : ∀ i : Int, 0 ≤ i → i < 5 → ∃ nm, atI [PyData.str n2, PyData.str n3, PyData.str n4, PyData.str n5, PyData.str n6] i = some (.str nm) ∧ PyData.strOk nm = true := fun i i0 i1 => by
   obtain ⟨nm, hm, e⟩ := pickT [n2, n3, n4, n5, n6] i0 (show i < ((5 : Nat) : Int) by omega)
   exact ⟨nm, e, hok nm (by simp only [List.mem_cons, List.not_mem_nil, or_false] at hm ⊢; rcases hm with h | h | h | h | h <;> simp only [h, true_or, or_true])⟩
  have l1 : ∀ {s : Str}, PyData.strOk s = true → Lay 5 (.str s) := fun h => (lay_str h).mono (by decide)
  split
  ·rename_i e
   refine ⟨by decide, by decide, fun i acc => ∃ ss : List Str, acc = ss.map .str ∧ ss.length ≤ i ∧ ∀ z ∈ ss, PyData.strOk z = true, ⟨[], rfl, Nat.le_refl _, by simp⟩, ?_, ?_⟩
   ·rintro i z acc hz ⟨ss, rfl, sl, sok⟩
    obtain ⟨hi, rfl⟩ := rangeD_at hz
    have hi : i < 6 := hi
    obtain ⟨nm, en, hn⟩ := six (0 + (i : Int)) (by omega) (by omega)
    walk_at "rz"
    have no : ∃ ss_1 : List Str, List.map PyData.str ss = List.map PyData.str ss_1 ∧ ss_1.length ≤ i + 1 ∧ ∀ (z : Str), z ∈ ss_1 → PyData.strOk z = true := ⟨ss, rfl, by omega, sok⟩
    refine ⟨⟨_, rfl⟩, by omega, fun _ r => ?_⟩
    split
    ·refine ⟨⟨_, rfl⟩, by omega, fun _ r => ?_⟩
     split
     ·refine ⟨_, en, ss ++ [nm], by rw [List.map_append]; rfl, by rw [List.length_append, List.length_singleton]; omega, fun z hz => ?_⟩
      rcases List.mem_append.mp hz with h | h
      ·exact sok z h
      ·rw [List.mem_singleton] at h; rw [h]; exact hn
     ·exact no
    ·exact no
   ·rintro acc ⟨ss, rfl, sl, sok⟩
    rw [rangeD_len] at sl
    have sl : ss.length ≤ 6 := sl
    obtain ⟨nm, en, hn⟩ := six (x1 % 6) (by omega) (by omega)
    obtain ⟨kd, ek, hk⟩ := thr (x2 % 3 % 3) (by omega) (by omega)
    refine ⟨by decide, _, en, by decide, _, ek, ss, rfl, by omega, ?_⟩
    obtain ⟨ms, em, m1, m2⟩ := cut_strs (sortS ss) none (some 4)
    have sp := sortS_perm ss
    rw [em]
    exact q (.pap ⟨d, nm, kd, ms⟩) (mkP d0 hn hk (fun m hm => sok m (sp.mem_iff.mp (m1 m hm))) (by rw [sp.length_eq] at m2; show ms.length ≤ 50; omega)) (eq_of_beq e).symm
  ·rename_i ep
   split
   ·rename_i e
    obtain ⟨nm, en, hn⟩ := six (x1 % 6) (by omega) (by omega)
    obtain ⟨kd, hk, ek⟩ := pickT [n2, n3] (i := x2 % 2) (by omega) (by show _ < ((2 : Nat) : Int); omega)
    have hk : PyData.strOk kd = true := hok kd (by simp only [List.mem_cons, List.not_mem_nil, or_false] at hk ⊢; rcases hk with h | h <;> simp only [h, true_or, or_true])
    exact ⟨by decide, _, en, _, ek, q (.oth (Str.ofString "happens") d nm [.str kd]) (mkO d0 (by decide +kernel) hn (lay_cons (l1 hk) lay_nil) (by decide +kernel) (fun _ => ⟨kd, rfl, hk⟩) (fun h => absurd h (by decide +kernel))) (eq_of_beq e).symm⟩
   ·rename_i eh
    split
    ·rename_i e
     obtain ⟨nm, en, hn⟩ := fiv (x1 % 5) (by omega) (by omega)
     refine ⟨by decide, _, en, x0, x1, x2, x3, x4, x5, x6, x7, x8, n1, n2, n3, n2, n3, f, rfl, fun z hz => hok z ?_, fun pt hpt => ?_⟩
     ·simp only [List.mem_cons, List.not_mem_nil, or_false] at hz ⊢
      rcases hz with h | h | h | h | h <;> simp only [h, true_or, or_true]
     ·exact q (.oth (Str.ofString "rule") d nm [pt.enc]) (mkO d0 (by decide +kernel) hn (lay_cons (Pt.lay hpt) lay_nil) (by decide +kernel) (fun h => absurd h (by decide +kernel)) (fun _ => ⟨pt, rfl, hpt⟩)) (eq_of_beq e).symm
    ·rename_i er
     split
     ·rename_i e
      obtain ⟨nm, en, hn⟩ := six (x2 % 6) (by omega) (by omega)
      obtain ⟨kd, ek, hk⟩ := thr (x2 % 3) (by omega) (by omega)
      obtain ⟨ho, eo, hh⟩ := fiv (x1 % 2) (by omega) (by omega)
      obtain ⟨v, ev, hv⟩ := atI_mem (xs := [PyData.tuple [PyData.str (Str.ofString "paper"), .str nm], PyData.tuple [PyData.str (Str.ofString "kind"), .str kd]]) (i := x3 % 2) (by omega) (by show _ < ((2 : Nat) : Int); omega)
      have lv : Lay 5 v := by
       simp only [List.mem_cons, List.not_mem_nil, or_false] at hv
       rcases hv with rfl | rfl
       ·exact (lay2 (by decide +kernel) hn).mono (by decide)
       ·exact (lay2 (by decide +kernel) hk).mono (by decide)
      exact ⟨by decide, _, en, by decide, _, ek, _, ev, _, eo, q (.oth (Str.ofString "hold") d ho [v, .bool (x4 % 2 == 0)]) (mkO d0 (by decide +kernel) hh (lay_cons lv (lay_cons (lay_bool.mono (by decide)) lay_nil)) (by decide +kernel) (fun h => absurd h (by decide +kernel)) (fun h => absurd h (by decide +kernel))) (eq_of_beq e).symm⟩
     ·split
      ·rename_i e
       obtain ⟨nm, en, hn⟩ := six (x1 % 6) (by omega) (by omega)
       obtain ⟨kd, ek, hk⟩ := thr (x2 % 3 % 3) (by omega) (by omega)
       exact ⟨by decide, _, en, by decide, _, ek, q (.oth (Str.ofString "leave") d nm [.str kd]) (mkO d0 (by decide +kernel) hn (lay_cons (l1 hk) lay_nil) (by decide +kernel) (fun h => absurd h (by decide +kernel)) (fun h => absurd h (by decide +kernel))) (eq_of_beq e).symm⟩
      ·have fin : ∀ m : Int, 0 < m → m ≤ 5 → ∃ x_1, atI [PyData.str n2, PyData.str n3, PyData.str n4, PyData.str n5, PyData.str n6] (x1 % m) = some x_1 ∧ Q (PyData.tuple [PyData.str so, PyData.int d, x_1]) := fun m m0 m5 => by
        obtain ⟨nm, en, hn⟩ := fiv (x1 % m) (Int.emod_nonneg _ (by omega)) (Int.lt_of_lt_of_le (Int.emod_lt_of_pos _ m0) m5)
        exact ⟨_, en, q (.oth so d nm []) (mkO d0 (sorts_ok so hso) hn lay_nil (fun h => ep (by rw [h]; rfl)) (fun h => absurd (by rw [h]; rfl) eh) (fun h => absurd (by rw [h]; rfl) er)) rfl⟩
       split
       ·exact ⟨_, atI_c1, 2, rfl, by decide, fin 2 (by decide) (by decide)⟩
       ·exact ⟨_, atI_c0, 5, rfl, by decide, fin 5 (by decide) (by decide)⟩
end
end K19

open PySem L2
namespace K19
open Day
theorem cs_x32_0 : CompScope (defScope s_x32) ["_law_script", "_law_at", "_law_far_here", "_law_head", "_law_pools_here", "_law_found", "_law_k", "_law_sort", "_law_xs", "_law_deed_here", "_law_turn"] ["_law_other", "_law_deed_here"] 1 [9] { kind := PySem.ScopeKind.function, names := [ (PySem.Str.ofString ".0", PySem.NameKind.local), (PySem.Str.ofString "_law_other", PySem.NameKind.local), (PySem.Str.ofString "_law_quarrel", PySem.NameKind.globalImplicit), (PySem.Str.ofString "_law_deed_here", PySem.NameKind.free)], isGenerator := false, isCoroutine := false, more := [] : PySem.Scope } := ⟨rfl, by decide +kernel, by decide +kernel, by decide +kernel, rfl, by decide +kernel, by decide +kernel, by decide +kernel, rfl⟩
section
variable {P : Program} {w : World} {K : PySem.W.Frag} {mg : Str → Option Value} {base : Heap} {t : Adr}
theorem list4 {ns : List Int} (h : (ns.length : Int) = 4) : ∃ a b c d, ns = [a, b, c, d] := by
 match ns, (show ns.length = 4 by omega) with
 | [a, b, c, d], _ => exact ⟨_, _, _, _, rfl⟩
theorem list9 {ns : List Int} (h : (ns.length : Int) = 9) : ∃ a0 a1 a2 a3 a4 a5 a6 a7 a8, ns = [a0, a1, a2, a3, a4, a5, a6, a7, a8] := by
 match ns, (show ns.length = 9 by omega) with
 | [a0, a1, a2, a3, a4, a5, a6, a7, a8], _ => exact ⟨_, _, _, _, _, _, _, _, _, rfl⟩
theorem w_count {f : De → Bool} {s : Str} (h : ∀ x, f x = true → x.w = s) : ∀ xs : List De, (xs.filter f).length ≤ ((xs.map De.w).filter (· == s)).length
 | [] => Nat.le_refl _
 | x :: xs => by
  have ih := w_count h xs
  rw [List.filter_cons, List.map_cons, List.filter_cons]
  by_cases hf : f x = true
  ·rw [if_pos hf, if_pos (by rw [h x hf]; exact beq_self_eq_true _)]
   exact Nat.succ_le_succ ih
  ·rw [if_neg hf]
   split
   ·exact Nat.le_succ_of_le ih
   ·exact ih
theorem count_le {f : De → Bool} {s : Str} {n : Nat} {xs : List De} (sl : (xs.map De.w).Sublist sorts) (hn : (sorts.filter (· == s)).length = n) (h : ∀ x, f x = true → x.w = s) : (xs.filter f).length ≤ n := by
 rw [← hn]
 exact Nat.le_trans (w_count h xs) (sl.filter _).length_le
theorem Apt.symm {x y : De} (h : Apt x y) : Apt y x := ⟨fun e => h.1 e.symm, fun p q e1 e2 e => h.2 q p e2 e1 e.symm⟩
theorem GoodD.of {xs : List De} (it : ∀ x ∈ xs, Good1 x) (pw : xs.Pairwise Apt) (sl : (xs.map De.w).Sublist sorts) : GoodD xs := by
 have ln : xs.length ≤ 19 := by have := sl.length_le; rwa [List.length_map] at this
 have pl : (paps xs).length ≤ 5 := by
  have h1 := count_le (f := papF fun _ => true) sl (n := 5) (s := Str.ofString "paper") (by decide +kernel) (fun x hx => by cases x with | pap p => rfl | oth => cases hx)
  have h2 := congrArg List.length (paps_filter (f := fun _ => true) xs)
  rw [filter_true, List.length_map, List.length_map] at h2
  omega
 have pg : ∀ p ∈ paps xs, Good1 (.pap p) := fun p hp => it _ (paps_mem.mp hp)
 refine ⟨⟨⟨by omega, ?_, fun p hp => (pg p hp).nm, fun p hp => ((pg p hp).pp p rfl).1, fun p hp => ((pg p hp).pp p rfl).2⟩, fun w d nm r h => (it _ h).np w d nm r rfl, by omega, fun x hx => (it x hx).w, fun x hx => (it x hx).nm⟩, fun d nm r h => (it _ h).hp d nm r rfl, fun d nm r h => (it _ h).ru d nm r rfl, pw.imp fun h => h.1, fun x hx => (it x hx).d0, ln, pl, ?_, ?_⟩
 ·rw [List.Nodup, List.pairwise_map]
  refine pw.filterMap De.pp fun a b h p hp q hq => ?_
  cases a with
  | oth => cases hp
  | pap p' =>
   cases b with
   | oth => cases hq
   | pap q' => cases hp; cases hq; exact h.2 _ _ rfl rfl
 ·exact count_le sl (s := Str.ofString "rule") (by decide +kernel) (fun x hx => by cases x with | pap p => cases hx | oth w d nm r => exact eq_of_beq hx)
 ·exact count_le sl (s := Str.ofString "happens") (by decide +kernel) (fun x hx => by cases x with | pap p => cases hx | oth w d nm r => exact eq_of_beq hx)
theorem GoodD.perm {xs ys : List De} (g : GoodD xs) (h : ys.Perm xs) : GoodD ys :=
 ⟨g.gx.perm h, fun d nm r z => g.hp d nm r (h.mem_iff.mp z), fun d nm r z => g.ru d nm r (h.mem_iff.mp z), h.nodup_iff.mpr g.nd, fun x hx => g.d0 x (h.mem_iff.mp hx), by rw [h.length_eq]; exact g.cn, by unfold paps; rw [(h.filterMap _).length_eq]; exact g.cP, by rw [(h.filter _).length_eq]; exact g.cR, by rw [(h.filter _).length_eq]; exact g.cH⟩
theorem turn_perm {xs ys : List De} (h : ys.Perm xs) (z : Int) : TurnD ys z ↔ TurnD xs z := by
 have hh : ∀ nm v, v ∈ haps ys nm ↔ v ∈ haps xs nm := fun nm v => ((h.filter _).map _).mem_iff
 have hb : ∀ c s b, BaseOf ys c s b ↔ BaseOf xs c s b := fun c s b => by
  cases s <;> simp only [BaseOf, hh]
 have hp : ∀ c, c ∈ paps ys ↔ c ∈ paps xs := fun c => (h.filterMap _).mem_iff
 unfold TurnD RuleZ
 simp only [h.mem_iff, hb, hp]
def F_deeds : List PyData → (PyData → Prop) → Prop := fun ds Q => ∃ (ns : List Int) (k : Int) (f : Bool), ds = [scrD (ns.map .int), .int k, .bool f] ∧ 0 ≤ k ∧ k ≤ 100 ∧ ∀ xs, GoodD xs → Q (.tuple (xs.map De.enc))
theorem ok_deeds (T : Txt K mg t) : FnOk P w K mg base CX0 4 t.a_x32 t.d_x32 ["_law_script", "_law_at", "_law_far_here"] (spD K F_deeds) := by
 have G_x19 := ok_cell (P := P) (w := w) (base := base) T
 have G_x20 := ok_numbers (P := P) (w := w) (base := base) T
 have G_x30 := ok_pools (P := P) (w := w) (base := base) T
 have G_x31 := ok_sorts (P := P) (w := w) (base := base) T
 have G_x29 := ok_deed (P := P) (w := w) (base := base) T
 have G_x28 := ok_quarrel (P := P) (w := w) (base := base) T
 refine T.F_x32.okD sc_x32 (fun ds Q h => ?_) (fun cdv A outer s H O ds Q E hr h => ?_)
 ·obtain ⟨ns, k, f, rfl, _⟩ := h; rfl
 ·obtain ⟨ns, k, f, rfl, k0, k1, q⟩ := h
  refine' ⟨_, ?body, ?read⟩
  case body =>
   refine' dss_cons ?s1 ?r1
   case s1 => exact (ds_set (i := 3) sc_x32.nd rfl (by walk_at "o") (PE.imp (pe_call G_x20 (hr.mono (by decide)) rfl T.m_x20 T.F_x20.kp T.b_x20 .nil pass0 (da_cons (PE.imp (pe_call G_x19 (hr.mono (by decide)) rfl T.m_x19 T.F_x19.kp T.b_x19 .nil pass0 (da_cons (dv 0) (da_cons (dv 1) da_nil))) dcall) (da_cons de_int da_nil))) dcall))
   case' r1 => refine' dss_cons ?s3 ?r3
   case s3 => exact (ds_set (i := 4) sc_x32.nd rfl (by walk_at "o") (PE.imp (pe_call G_x30 (hr.mono (by decide)) rfl T.m_x30 T.F_x30.kp T.b_x30 .nil pass0 (da_cons (de_ix ix_list od_ixL (df (dv 3)) (df de_int)) da_nil)) dcall))
   case' r3 => refine' dss_cons ?s5 ?r5
   case s5 => exact (ds_new (i := 5) sc_x32.nd rfl (by walk_at "o") (fe_lst da_nil))
   case' r5 => refine' dss_cons ?s7 ?r7
   case s7 =>
    refine' ds_forE PassesOwn.never rfl rfl T.n_enumerate (da_cons (PE.imp (pe_call0 G_x31 (hr.mono (by decide)) rfl T.m_x31 T.F_x31.kp T.b_x31 .nil pass0) dcall0) da_nil) ?a8 (gd_tup (gds_cons gd_name (gds_cons gd_name gds_nil))) ?b8
    case a8 => exact (pg_tup (n := 2) rfl (pgs_cons (pg_name (i := 6) sc_x32.nd rfl (by walk_at "o")) (pgs_cons (pg_name (i := 7) sc_x32.nd rfl (by walk_at "o")) pgs_nil)))
    case' b8 => refine' dss_cons ?s9 ?r9
    case s9 =>
     refine' ds_set (i := 8) sc_x32.nd rfl (by walk_at "o") ?e10 (hs := swaps_Call)
     case e10 => exact (PE.imp (pe_call G_x20 (hr.mono (by decide)) rfl T.m_x20 T.F_x20.kp T.b_x20 .nil pass0 (da_cons (PE.imp (pe_call G_x19 (hr.mono (by decide)) rfl T.m_x19 T.F_x19.kp T.b_x19 .nil pass0 (da_cons (dv 0) (da_cons (de_op op_add od_int (df (de_op op_add od_int (df (dv 1)) (df de_int))) (df (dv 6))) da_nil))) dcall) (da_cons de_int da_nil))) dcall)
    case' r9 => refine' dss_cons ?s12 ?r12
    case s12 => exact (ds_set (i := 9) sc_x32.nd rfl (by walk_at "o") (PE.imp (pe_call G_x29 (hr.mono (by decide)) rfl T.m_x29 T.F_x29.kp T.b_x29 .nil pass0 (da_cons (dv 7) (da_cons (dv 8) (da_cons (dv 4) (da_cons (dv 2) da_nil))))) dcall))
    case' r12 => refine' dss_one ?s14
    case' s14 => refine' ds_if ?c15 ?a15 dss_nil
    case c15 => exact (PW.pt (dw_and (dt_cmp op_gt od_bl (df (de_op op_mod od_intC (df (de_ix ix_list od_ixL (df (dv 8)) (df de_int))) (df de_int))) (df de_int) (nomark _)) (dw_and1 (dt_not (dt_val (PE.imp (pe_callB (call_any rfl) rfl T.n_any bt_any (db_cons (df (fe (fe_compI rfl cs_x32_0 (dw 5) gd_name keepName (by decide) (fun _ _ _ _ => (pg_name (i := 0) cs_x32_0.nd rfl (by walk_at "o"))) (fun _ _ _ _ => pf_nilD) (fun _ _ _ _ => (PE.imp (pe_call G_x28 (hr.mono (by decide)) rfl T.m_x28 T.F_x28.kp T.b_x28 .nil pass0 (da_cons (dv 1) (da_cons (dv 0) da_nil))) dcall))))) db_nil)) (dcb cd_any)))))))
    case' a15 => refine' dss_one ?s16
    case s16 => exact (ds_app (i := 5) (pv 5) (dv 9))
   case' r7 => refine' dss_cons ?s18 ?r18
   case s18 =>
    refine' ds_set (i := 10) sc_x32.nd rfl (by walk_at "o") ?e19 (hs := swaps_BinOp)
    case e19 => exact (de_op op_mod od_intC (df (de_ix ix_list od_ixL (df (dv 3)) (df de_int))) (df (de_op op_add od_int (df (PE.imp (pe_callB call_len_seq rfl T.n_len PySem.boot_len (db_cons (dw 5) db_nil)) (dcb cd_len))) (df de_int))))
   case' r18 => refine' dss_one ?s21
   case' s21 => refine' ds_ret ?e22
   case e22 => exact (PE.imp (pe_callTy call_tuple_of rfl T.n_tuple bt_tuple (db_cons (df (fe (fe_cat (df (fe (fe_slice (dw 5) (do_some (dv 10)) do_none))) (df (fe (fe_slice (dw 5) do_none (do_some (dv 10)))))))) db_nil)) (dcb cd_tupOf))
  case read =>
  clear hr T G_x19 G_x20 G_x30 G_x31 G_x29 G_x28
  walk_at "rzw"
  refine ⟨k0, by omega, fun c ms ml mn => ?_⟩
  obtain ⟨a, b, c2, d, rfl⟩ := list4 ml
  have c20 := (mn c2 (by simp)).1
  clear ml mn
  refine ⟨_, atI_c1, b, rfl, fun n0 n1 n2 n3 n4 n5 n6 nok => ⟨rfl, _, rfl, ?_⟩⟩
  refine ⟨fun i δ => ∃ (xs : List De) (o6 o7 o8 o9 : Option Sl), (xs.map De.w).Sublist (sorts.take i) ∧ (∀ x ∈ xs, Good1 x) ∧ xs.Pairwise Apt ∧ δ = [some (Sl.v (scrD (ns.map .int))), some (Sl.v (.int k)), some (Sl.v (.bool f)), some (Sl.v (.list ([a, b, c2, d].map .int))), some (Sl.v (poolsD n0 n1 n2 n3 n4 n5 n6)), some (Sl.o (xs.map De.enc)), o6, o7, o8, o9, none], ⟨[], _, _, _, _, List.nil_sublist _, by simp, .nil, rfl⟩, ?_, ?_⟩
  ·rintro i z δ hz ⟨xs, o6, o7, o8, o9, sl, hg, hp, rfl⟩
   rw [enumD_at, List.getElem?_map] at hz
   cases hz' : sorts[i]? with
   | none => rw [hz'] at hz; cases hz
   | some so =>
    rw [hz'] at hz; cases hz
    have hi : i < 19 := (List.getElem?_eq_some_iff.mp hz').1
    walk_at "rzw"
    refine ⟨by omega, by omega, fun c1 ys yl yn => ?_⟩
    obtain ⟨y0, y1, y2, y3, y4, y5, y6, y7, y8, rfl⟩ := list9 yl
    have y00 := (yn y0 (by simp)).1
    clear yl yn
    refine ⟨so, y0, y1, y2, y3, y4, y5, y6, y7, y8, n0, n1, n2, n3, n4, n5, n6, f, rfl, List.mem_of_getElem? hz', y00, nok, fun x gx hw => ?_⟩
    walk_at "rzw"
    have ts : sorts.take (i + 1) = sorts.take i ++ [so] := by rw [List.take_succ, hz']; rfl
    have sl1 : (xs.map De.w).Sublist (sorts.take (i + 1)) := by rw [ts]; exact sl.trans (List.sublist_append_left _ _)
    have xl : xs.length ≤ 19 := by have := sl1.length_le; rw [List.length_map, List.length_take] at this; exact Nat.le_trans this (Nat.min_le_right _ _)
    split
    ·refine ⟨by rw [List.length_map]; omega, fun i acc => ∃ bs : List Bool, acc = bs.map .bool ∧ bs.length = i ∧ ∀ j : Nat, bs[j]? = some false → ∀ y, xs[j]? = some y → Apt x y, ⟨[], rfl, rfl, by simp⟩, ?_, ?_⟩
     ·rintro j z acc hz ⟨bs, rfl, bl, hb⟩
      rw [List.getElem?_map] at hz
      cases hy' : xs[j]? with
      | none => rw [hy'] at hz; cases hz
      | some y =>
       rw [hy'] at hz; cases hz
       walk_at "rz"
       refine ⟨x, y, rfl, gx, hg y (List.mem_of_getElem? hy'), fun b hb2 => ⟨bs ++ [b], by rw [List.map_append]; rfl, by rw [List.length_append, bl]; rfl, fun n hn y' hy2 => ?_⟩⟩
       rcases Nat.lt_or_ge n bs.length with h | h
       ·rw [List.getElem?_append_left h] at hn; exact hb n hn y' hy2
       ·rw [List.getElem?_append_right h] at hn
        have n0 : n - bs.length = 0 := by
         rcases Nat.eq_zero_or_pos (n - bs.length) with h0 | h0
         ·exact h0
         ·rw [List.getElem?_eq_none (by rw [List.length_singleton]; omega)] at hn; cases hn
        rw [n0] at hn
        have ek : n = j := by omega
        rw [ek, hy'] at hy2
        cases hy2
        exact hb2 (by simpa using hn)
     ·rintro acc ⟨bs, rfl, bl, hb⟩
      rw [List.length_map] at bl
      refine ⟨bs, rfl, ?_⟩
      split
      ·rename_i hany
       have hno : ∀ y ∈ xs, Apt x y := fun y hy => by
        obtain ⟨j, hj⟩ := List.getElem?_of_mem hy
        have jl : j < bs.length := by rw [bl]; exact (List.getElem?_eq_some_iff.mp hj).1
        refine hb j ?_ y hj
        have : bs[j] = false := by simpa using List.any_eq_false.mp hany bs[j] (List.getElem_mem jl)
        rw [List.getElem?_eq_getElem jl, this]
       refine ⟨by rw [List.length_map]; omega, xs ++ [x], ?_, fun y hy => ?_, List.pairwise_append.mpr ⟨hp, List.pairwise_singleton _ _, fun u hu v hv => ?_⟩, by rw [List.map_append]; rfl, _, rfl⟩
       ·rw [ts, List.map_append, List.map_cons, List.map_nil, hw]
        exact sl.append (List.Sublist.refl _)
       ·rcases List.mem_append.mp hy with h | h
        ·exact hg y h
        ·rw [List.mem_singleton] at h; rw [h]; exact gx
       ·rw [List.mem_singleton] at hv; rw [hv]; exact (hno u hu).symm
      ·exact ⟨xs, sl1, hg, hp, rfl, _, rfl⟩
    ·exact ⟨xs, sl1, hg, hp, rfl, _, rfl⟩
  ·rintro δ ⟨xs, o6, o7, o8, o9, sl, hg, hp, rfl⟩
   walk_at "rz"
   rw [enumD_len, List.length_map, List.take_of_length_le (Nat.le_refl _)] at sl
   have lm : (List.map De.enc xs).length = xs.length := List.length_map _
   have xl : xs.length ≤ 19 := by have := sl.length_le; rwa [List.length_map] at this
   refine ⟨by omega, ?_⟩
   generalize htn : c2 % (((List.map De.enc xs).length : Int) + 1) = tn
   have t0 : 0 ≤ tn := by rw [← htn]; exact Int.emod_nonneg _ (by omega)
   have t1 : tn < ((List.map De.enc xs).length : Int) + 1 := by rw [← htn]; exact Int.emod_lt_of_pos _ (by omega)
   rw [cutD_drop t0 (by omega), cutD_take t0 (by omega)]
   refine ⟨by rw [List.length_drop, List.length_take]; omega, ?_⟩
   rw [← List.map_drop, ← List.map_take, ← List.map_append]
   refine q _ ((GoodD.of hg hp sl).perm ?_)
   have := List.perm_append_comm (l₁ := xs.drop tn.toNat) (l₂ := xs.take tn.toNat)
   rwa [List.take_append_drop] at this
end
end K19

open PySem L2
namespace K19
open Day
theorem cs_x34_0 : CompScope (defScope s_x34) ["_law_deeds_here"] ["_law_deed_here"] 1 [] { kind := PySem.ScopeKind.function, names := [(PySem.Str.ofString ".0", PySem.NameKind.local), (PySem.Str.ofString "_law_deed_here", PySem.NameKind.local)], isGenerator := false, isCoroutine := false, more := [] : PySem.Scope } := ⟨rfl, by decide +kernel, by decide +kernel, by decide +kernel, rfl, by decide +kernel, by decide +kernel, by decide +kernel, rfl⟩
theorem cs_x34_1 : CompScope (defScope s_x34) ["_law_deeds_here"] ["_law_day_here", "_law_name"] 2 [] { kind := PySem.ScopeKind.function, names := [ (PySem.Str.ofString ".0", PySem.NameKind.local), (PySem.Str.ofString "_law_day_here", PySem.NameKind.local), (PySem.Str.ofString "_law_name", PySem.NameKind.local)], isGenerator := false, isCoroutine := false, more := [] : PySem.Scope } := ⟨rfl, by decide +kernel, by decide +kernel, by decide +kernel, rfl, by decide +kernel, by decide +kernel, by decide +kernel, rfl⟩
theorem cs_x35_0 : CompScope (defScope s_x35) ["_law_deeds_here", "_law_parts_here", "_law_name", "_law_day_here", "_law_told_of", "_law_some"] ["_law_deed_here", "_law_name", "_law_day_here"] 1 [2, 3] { kind := PySem.ScopeKind.function, names := [ (PySem.Str.ofString ".0", PySem.NameKind.local), (PySem.Str.ofString "_law_deed_here", PySem.NameKind.local), (PySem.Str.ofString "_law_day_here", PySem.NameKind.free), (PySem.Str.ofString "_law_name", PySem.NameKind.free)], isGenerator := false, isCoroutine := false, more := [] : PySem.Scope } := ⟨rfl, by decide +kernel, by decide +kernel, by decide +kernel, rfl, by decide +kernel, by decide +kernel, by decide +kernel, rfl⟩
theorem cs_x35_1 : CompScope (defScope s_x35) ["_law_deeds_here", "_law_parts_here", "_law_name", "_law_day_here", "_law_told_of", "_law_some"] ["_law_deed_here", "_law_parts_here"] 1 [1] { kind := PySem.ScopeKind.function, names := [ (PySem.Str.ofString ".0", PySem.NameKind.local), (PySem.Str.ofString "_law_deed_here", PySem.NameKind.local), (PySem.Str.ofString "_law_parts_here", PySem.NameKind.free)], isGenerator := false, isCoroutine := false, more := [] : PySem.Scope } := ⟨rfl, by decide +kernel, by decide +kernel, by decide +kernel, rfl, by decide +kernel, by decide +kernel, by decide +kernel, rfl⟩
section
variable {P : Program} {w : World} {K : PySem.W.Frag} {mg : Str → Option Value} {base : Heap} {t : Adr}
theorem ok_row (T : Txt K mg t) : FnOk P w K mg base CX0 1 t.a_x33 t.d_x33 ["_law_deeds_here", "_law_name"] (spD K F_coming) := by
 refine T.F_x33.okD sc_x33 (fun ds Q h => ?_) (fun cdv A outer s H O ds Q E hr h => ?_)
 ·obtain ⟨ps, c, rfl, _⟩ := h; rfl
 ·obtain ⟨xs, c, rfl, gd, hc, q⟩ := h
  refine' ⟨_, ?body, ?read⟩
  case body =>
   refine' dss_cons ?s1 ?r1
   case s1 =>
    refine' ds_forTI PassesOwn.never rfl (dv 0) ?a2 gd_name ?b2
    case a2 => exact (pg_name (i := 2) sc_x33.nd rfl (by walk_at "o"))
    case' b2 => refine' dss_one ?s3
    case' s3 => refine' ds_if ?c4 ?a4 dss_nil
    case c4 => exact (PW.pt (dw_and (dt_cmp (op_eqZ hr) od_eqZ (df (de_ix ix_tup od_ixT (df (dv 2)) (df de_int))) (df de_str) (nomark _)) (dw_and1 (dt_cmp (op_eqX hr.units) od_eq (df (de_ix ix_tup od_ixT (df (dv 2)) (df de_int))) (df (dv 1)) (nomark _)))))
    case' a4 => refine' dss_one ?s5
    case s5 => exact (ds_ret (dv 2))
   case r1 => refine' dss_one (ds_ret de_non)
  case read =>
  clear hr T
  walk_at "rz"
  refine ⟨fun i δ => (∀ x ∈ paps (xs.take i), x.nm ≠ c.nm) ∧ ∃ o2, δ = [some (Sl.v (.tuple (xs.map De.enc))), some (Sl.v (.str c.nm)), o2], ⟨by simp [paps], _, rfl⟩, ?_, ?_⟩
  ·rintro i z δ hz ⟨hn, o2, rfl⟩
   rw [List.getElem?_map] at hz
   cases hz' : xs[i]? with
   | none => rw [hz'] at hz; cases hz
   | some x =>
    rw [hz'] at hz; cases hz
    have hx := List.mem_of_getElem? hz'
    cases x with
    | pap p =>
     simp only [De.enc, Pp.enc]
     walk_at "rz"
     refine ⟨shp_str.mpr (gd.nm _ hx), shp_str.mpr (gd.gp.nm c hc), ?_⟩
     split
     ·rename_i h
      have e := uniq_nm gd.gp.nd (paps_mem.mpr hx) hc (eq_of_beq h)
      subst e
      exact q
     ·rename_i h
      refine ⟨fun y hy => ?_, _, rfl⟩
      rw [List.take_succ, hz'] at hy
      unfold paps at hy
      rw [List.filterMap_append] at hy
      rcases List.mem_append.mp hy with z | z
      ·exact hn y z
      ·have : y = p := by simpa [De.pp] using z
       rw [this]; exact fun e => h (by rw [e]; exact beq_self_eq_true _)
    | oth w d nm r =>
     simp only [De.enc]
     walk_at "rz"
     rw [beq_ne (gd.np w d nm r hx), if_neg Bool.false_ne_true]
     refine ⟨fun y hy => ?_, _, rfl⟩
     rw [List.take_succ, hz'] at hy
     unfold paps at hy
     rw [List.filterMap_append] at hy
     rcases List.mem_append.mp hy with z | z
     ·exact hn y z
     ·simp [De.pp] at z
  ·rintro δ ⟨hn, o2, rfl⟩
   rw [List.length_map, List.take_of_length_le (Nat.le_refl _)] at hn
   exact absurd rfl (hn c hc)
def F_order : List PyData → (PyData → Prop) → Prop := fun ds Q => ∃ xs : List De, ds = [.tuple (xs.map De.enc)] ∧ GoodX xs ∧ Q (.list (((ordP (paps xs)).map (·.nm)).map .str))
theorem paps_keys : ∀ xs : List De, (xs.filter (papF fun _ => true)).map (fun x => prD (x.d, x.nm)) = ((paps xs).map Pp.key).map prD
 | [] => rfl
 | .pap p :: xs => by
  have ih := paps_keys xs
  rw [List.filter_cons, if_pos (show papF (fun _ => true) (.pap p) = true from rfl), List.map_cons, ih]; rfl
 | .oth w d nm r :: xs => by
  have ih := paps_keys xs
  rw [List.filter_cons, if_neg (show ¬ papF (fun _ => true) (.oth w d nm r) = true from Bool.false_ne_true), ih]; rfl
theorem ok_order (T : Txt K mg t) : FnOk P w K mg base CX0 1 t.a_x34 t.d_x34 ["_law_deeds_here"] (spD K F_order) := by
 refine T.F_x34.okD sc_x34 (fun ds Q h => ?_) (fun cdv A outer s H O ds Q E hr h => ?_)
 ·obtain ⟨xs, rfl, _⟩ := h; rfl
 ·obtain ⟨xs, rfl, gd, q⟩ := h
  refine' ⟨_, ?body, ?read⟩
  case body =>
   refine' dss_one ?s1
   case' s1 => refine' ds_ret ?e2
   case' e2 => refine' fe ?f3
   case f3 => exact (fe_compI rfl cs_x34_1 (df (fe (fe_sortPr rfl T.n_sorted PyProof.Rows.boot_sorted (db_cons (df (fe (fe_compTI rfl cs_x34_0 (df (dv 0)) gd_name keepName (by decide) (fun _ _ _ _ => (pg_name (i := 0) cs_x34_0.nd rfl (by walk_at "o"))) (fun _ _ _ _ => (pf_one (dt_cmp (op_eqZ hr) od_eqZ (df (de_ix ix_tup od_ixT (df (dv 0)) (df de_int))) (df de_str) (nomark _)))) (fun _ _ _ _ => (de_tup (da_cons (de_ix ix_tup od_ixT (df (dv 0)) (df de_int)) (da_cons (de_ix ix_tup od_ixT (df (dv 0)) (df de_int)) da_nil))))))) db_nil)))) (gd_tup (gds_cons gd_name (gds_cons gd_name gds_nil))) keepTup (by decide) (fun _ _ _ _ => (pg_tup (n := 2) rfl (pgs_cons (pg_name (i := 0) cs_x34_1.nd rfl (by walk_at "o")) (pgs_cons (pg_name (i := 1) cs_x34_1.nd rfl (by walk_at "o")) pgs_nil)))) (fun _ _ _ _ => pf_nilD) (fun _ _ _ _ => (dv 1)))
  case read =>
  clear hr T
  have ln := gd.ln
  have pl := gd.gp.ln
  walk_at "rz"
  refine ⟨by rw [List.length_map]; omega, compI_e2 (papF fun _ => true) (fun x : De => prD (x.d, x.nm)) (fun x hx R S h1 h0 => ?_) ?_⟩
  ·cases x with
   | pap p =>
    simp only [De.enc, Pp.enc]
    walk_at "rz"
    exact h1 rfl
   | oth w d nm r =>
    simp only [De.enc]
    walk_at "rz"
    rw [beq_ne (gd.np w d nm r hx), if_neg Bool.false_ne_true]
    exact h0 rfl
  ·rw [paps_keys]
   refine ⟨(paps xs).map Pp.key, rfl, by rw [List.length_map]; omega, key_nd gd.gp.nd, fun ps' h1 h2 => ?_⟩
   rw [ordP_pairs gd.gp.nd h1 h2]
   refine ⟨by rw [List.length_map, List.length_map, ordP_len]; omega, compI_e2 (fun _ => true) (fun x => .str x.2) (fun x hx R S h _ => ?_) ?_⟩
   ·simp only [prD]
    walk_at "rz"
    exact h rfl
   ·rw [filter_true, List.map_map]; rw [List.map_map] at q; exact q
noncomputable def Rck (xs : List De) (c : Pp) (day k : Int) (u : Str) : Sin → Option Int → Prop
 | .com, o => o = some (laterF c.d k u)
 | .fst wd, o => (o = none ∧ ∀ b, (b, wd) ∈ haps xs c.nm → ¬ b ≤ day) ∨ ∃ b, (b, wd) ∈ haps xs c.nm ∧ b ≤ day ∧ (∀ b', (b', wd) ∈ haps xs c.nm → b ≤ b') ∧ o = some (laterF b k u)
 | .lst wd, o => (o = none ∧ ∀ b, (b, wd) ∈ haps xs c.nm → ¬ b ≤ day) ∨ ∃ b, (b, wd) ∈ haps xs c.nm ∧ b ≤ day ∧ (∀ b', (b', wd) ∈ haps xs c.nm → b' ≤ day → b' ≤ b) ∧ o = some (laterF b k u)
def Sin.lw : Sin → Str
 | .com => Str.ofString "coming"
 | .fst wd => wd
 | .lst wd => wd
theorem sin_form {si : Sin} (h : si.Ok) : ∃ (s0 : Str) (m : List PyData), si.enc = .tuple (.str s0 :: m) ∧ atI (PyData.str s0 :: m) (-1) = some (.str si.lw) ∧ PyData.strOk si.lw = true := by
 cases si with
 | com => exact ⟨_, _, rfl, rfl, by decide +kernel⟩
 | fst wd => exact ⟨_, _, rfl, rfl, h⟩
 | lst wd => exact ⟨_, _, rfl, rfl, h⟩
theorem hapP_d (x : De) : (hapP x).1 = x.d := by
 unfold hapP; split <;> rfl
theorem lay_lst {n : Nat} {ds : List PyData} (h : ∀ d ∈ ds, Lay n d) : Lay (n + 1) (.list ds) := by
 obtain ⟨a, b⟩ := lay_all h
 refine ⟨by simpa [PyData.canLay0] using a, ?_⟩
 rw [PyData.depth]; omega
def optD : Option Int → PyData
 | none => .none
 | some z => .int z
def F_lreck : List PyData → (PyData → Prop) → Prop := fun ds Q => ∃ (xs : List De) (w kd : Str) (s : Sin) (k : Int) (u : Str) (c : Pp) (day : Int), ds = [.tuple (xs.map De.enc), (Pt.five w kd s k u).enc, .str c.nm, .int day] ∧ GoodD xs ∧ (Pt.five w kd s k u).Ok ∧ c ∈ paps xs ∧ ∀ o, Rck xs c day k u s o → Q (optD o)
theorem ok_lreck (T : Txt K mg t) : FnOk P w K mg base CX0 3 t.a_x35 t.d_x35 ["_law_deeds_here", "_law_parts_here", "_law_name", "_law_day_here"] (spD K F_lreck) := by
 have G_x33 := ok_row (P := P) (w := w) (base := base) T
 have G_x24 := ok_llater (P := P) (w := w) (base := base) T
 refine T.F_x35.okD sc_x35 (fun ds Q h => ?_) (fun cdv A outer s H O ds Q E hr h => ?_)
 ·obtain ⟨xs, w, kd, s, k, u, c, day, rfl, _⟩ := h; rfl
 ·obtain ⟨xs, wo, kd, si, k, u, c, day, rfl, gd, ok, hc, q⟩ := h
  refine' ⟨_, ?body, ?read⟩
  case body =>
   refine' dss_cons ?s1 ?r1
   case s1 => exact (ds_setC (i := 4) sc_x35.nd rfl (by walk_at "o") (fu_compTI rfl cs_x35_0 (df (dv 0)) gd_name keepName (by decide) (fun _ _ _ _ => (pg_name (i := 0) cs_x35_0.nd rfl (by walk_at "o"))) (fun _ _ _ _ => (pf_one (PW.pt (dw_and (dt_cmp (op_eqZ hr) od_eqZ (df (de_ix ix_tup od_ixT (df (dv 0)) (df de_int))) (df de_str) (nomark _)) (dw_and (dt_cmp (op_eqX hr.units) od_eq (df (de_ix ix_tup od_ixT (df (dv 0)) (df de_int))) (df (dv 1)) (nomark _)) (dw_and1 (dt_cmp op_le od_bl (df (de_ix ix_tup od_ixT (df (dv 0)) (df de_int))) (df (dv 2)) (nomark _)))))))) (fun _ _ _ _ => (dv 0))))
   case' r1 => refine' dss_cons ?s3 ?r3
   case s3 => exact (ds_setC (i := 5) sc_x35.nd rfl (by walk_at "o") (fu_compI rfl cs_x35_1 (df (dv 4)) gd_name keepName (by decide) (fun _ _ _ _ => (pg_name (i := 0) cs_x35_1.nd rfl (by walk_at "o"))) (fun _ _ _ _ => (pf_one (dt_cmp (op_eqX hr.units) od_eq (df (de_ix ix_tup od_ixT (df (dv 0)) (df de_int))) (df (de_ix ix_tup od_ixT (df (de_ix ix_tup od_ixT (df (dv 1)) (df de_int))) (df (de_neg de_int)))) (nomark _)))) (fun _ _ _ _ => (de_ix ix_tup od_ixT (df (dv 0)) (df de_int)))))
   case' r3 => refine' dss_cons ?s5 ?r5
   case s5 =>
    refine' ds_if ?c6 ?a6 dss_nil
    case c6 => exact (dt_cmp (op_eqX hr.units) od_eq (df (de_ix ix_tup od_ixT (df (dv 1)) (df de_int))) (df (de_tup (da_cons de_str da_nil))) (nomark _))
    case' a6 => refine' dss_one ?s7
    case' s7 => refine' ds_set (i := 5) sc_x35.nd rfl (by walk_at "o") ?e8 (hs := swaps_List)
    case' e8 => refine' fe ?f9
    case' f9 => refine' fe_lst ?g10
    case' g10 => refine' da_cons ?u11 da_nil
    case u11 => exact (de_ix ix_tup od_ixT (df (PE.imp (pe_call G_x33 (hr.mono (by decide)) rfl T.m_x33 T.F_x33.kp T.b_x33 .nil pass0 (da_cons (dv 0) (da_cons (dv 2) da_nil))) dcall)) (df de_int))
   case' r5 => refine' dss_cons ?s14 ?r14
   case s14 =>
    refine' ds_if ?c15 ?a15 dss_nil
    case c15 => exact (dt_cmp (op_eqX hr.units) od_eq (df (dv 5)) (df (fe (fe_lst da_nil))) (nomark _))
    case a15 => refine' dss_one (ds_ret de_non)
   case' r14 => refine' dss_one ?s18
   case' s18 => generalize hG19 : Expr.Call _ _ _ _ = eg19
   refine' ds_ret ?e19
   case' e19 => subst hG19
   exact (PE.imp (pe_call G_x24 (hr.mono (by decide)) rfl T.m_x24 T.F_x24.kp T.b_x24 .nil pass0 (da_cons (de_ix ix_list od_ixL (df (fe (fe_lst (da_cons (PE.imp (pe_callB (call_minL rfl) rfl T.n_min PyProof.Rows.boot_min (db_cons (df (dv 5)) db_nil)) (dcb cd_minL)) (da_cons (PE.imp (pe_callB (call_maxL rfl) rfl T.n_max PyProof.Rows.boot_max (db_cons (df (dv 5)) db_nil)) (dcb cd_maxL)) da_nil))))) (df (PE.imp (pe_callTy call_int1 rfl T.n_int bt_int (db_cons (df (de_cmp (op_eqZ hr) od_eqZ (df (de_ix ix_tup od_ixT (df (de_ix ix_tup od_ixT (df (dv 1)) (df de_int))) (df de_int))) (df de_str) (nomark _))) db_nil)) (dcb cd_int)))) (da_cons (de_ix ix_tup od_ixT (df (dv 1)) (df de_int)) (da_cons (de_ix ix_tup od_ixT (df (dv 1)) (df de_int)) da_nil)))) dcall)
  case read =>
  clear hr T G_x33 G_x24
  simp only [Pt.enc]
  walk_at "rz"
  have ln := gd.cn
  have nok := shp_str.mpr (gd.gx.gp.nm c hc)
  obtain ⟨s0, m, se, sl, lok⟩ := sin_form ok.2.2.1
  refine ⟨by rw [List.length_map]; omega, compI_e2 (fun x => hapF c.nm x && decide (x.d ≤ day)) De.enc (fun x hx R S h1 h0 => ?_) ⟨?_, ?_⟩⟩
  ·cases x with
   | pap p =>
    simp only [De.enc, Pp.enc]
    walk_at "rz"
    exact h0 rfl
   | oth w d nm r =>
    simp only [De.enc] at h1 ⊢
    walk_at "rz"
    simp only [hapF, De.d] at h1 h0
    cases e : (w == Str.ofString "happens") with
    | false =>
     rw [e] at h0
     rw [if_neg Bool.false_ne_true]
     exact h0 rfl
    | true =>
     rw [e] at h0 h1
     rw [if_pos rfl]
     refine ⟨shp_str.mpr (gd.gx.nm _ hx), nok, ?_⟩
     split
     ·rename_i h2
      split
      ·rename_i h3; exact h1 (by rw [h2]; exact decide_eq_true h3)
      ·rename_i h3; exact h0 (by rw [h2]; exact decide_eq_false h3)
     ·rename_i h2; exact h0 (by rw [Bool.eq_false_iff.mpr h2]; rfl)
  ·rw [List.length_map]
   exact Nat.le_trans (List.length_filter_le _ _) (by omega)
  ·refine compI_e2 (fun x => (hapP x).2 == si.lw) (fun x => .int x.d) (fun x hx R S h1 h0 => ?_) ?_
   ·obtain ⟨hx, hf⟩ := List.mem_filter.mp hx
    rw [Bool.and_eq_true] at hf
    cases x with
    | pap p => cases hf.1
    | oth w d nm r =>
     have hw := hf.1
     simp only [hapF, Bool.and_eq_true, beq_iff_eq] at hw
     obtain ⟨rfl, rfl⟩ := hw
     obtain ⟨wd, rfl, wok⟩ := gd.hp _ _ _ hx
     simp only [De.enc]
     rw [se]
     walk_at "rz"
     refine ⟨_, sl, shp_str.mpr wok, shp_str.mpr lok, ?_⟩
     rw [eqv_str]
     split
     ·rename_i h2; exact h1 h2
     ·rename_i h2; exact h0 (Bool.eq_false_iff.mpr h2)
   ·obtain ⟨S, eS, hS⟩ : ∃ S : List Int, List.map (fun x : De => PyData.int x.d) (List.filter (fun x => (hapP x).snd == si.lw) (List.filter (fun x => hapF c.nm x && decide (x.d ≤ day)) xs)) = S.map .int ∧ ∀ z, z ∈ S ↔ (z, si.lw) ∈ haps xs c.nm ∧ z ≤ day := by
     refine ⟨(List.filter (fun x => (hapP x).snd == si.lw) (List.filter (fun x => hapF c.nm x && decide (x.d ≤ day)) xs)).map De.d, by rw [List.map_map]; rfl, fun z => ?_⟩
     unfold haps
     simp only [List.mem_map, List.mem_filter, Bool.and_eq_true, decide_eq_true_eq, beq_iff_eq]
     constructor
     ·rintro ⟨x, ⟨⟨h1, h2, h3⟩, h4⟩, rfl⟩
      exact ⟨⟨x, ⟨h1, h2⟩, Prod.ext (hapP_d x) h4⟩, h3⟩
     ·rintro ⟨⟨x, ⟨h1, h2⟩, h3⟩, h4⟩
      have e := hapP_d x
      rw [h3] at e
      have e : z = x.d := e
      exact ⟨x, ⟨⟨h1, h2, by omega⟩, by rw [h3]⟩, e.symm⟩
    rw [eS]
    clear eS sl se
    have lat : ∀ M, 0 ≤ M → Rck xs c day k u si (some (laterF M k u)) → F_llater [.int M, .int k, .str u] Q := fun M m0 hr => ⟨M, k, u, rfl, ok.2.2.2.2.2, m0, ok.2.2.2.1, fun r e => by rw [later_eq e]; exact q (some _) hr⟩
    have s1 : SeqAt.shaped (PyData.tuple [PyData.str (Str.ofString "coming")]) = true := by decide +kernel
    have s2 : SeqAt.shaped (PyData.list []) = true := by decide +kernel
    have sS : SeqAt.shaped (PyData.list (S.map .int)) = true := (lay_lst (n := 1) fun d hd => by obtain ⟨i, _, rfl⟩ := List.mem_map.mp hd; exact lay_int).shp (by decide)
    have h0 : ∀ {z wd}, (z, wd) ∈ haps xs c.nm → 0 ≤ z := fun h => gd.d0 _ ((haps_mem gd).mp h)
    have ls : ∀ {a : Str}, a ≠ Str.ofString "last" → (PyData.str a).eqv (PyData.str (Str.ofString "last")) = false := fun h => by rw [eqv_str]; exact beq_ne h
    have two : ∀ a wd : Str, (PyData.tuple [PyData.str a, .str wd]).eqv (PyData.tuple [PyData.str (Str.ofString "coming")]) = false := fun a wd => by simp [PyData.eqv, PyData.eqvAll]
    cases si with
    | com =>
     refine ⟨s1, s1, ?_⟩
     rw [Sin.enc, if_pos (by decide +kernel)]
     refine ⟨xs, c, rfl, gd.gx, hc, _, rfl, _, atI_c1, (lay_lst (lay_cons lay_int lay_nil)).shp (by decide), s2, ?_⟩
     rw [if_neg (by simp [PyData.eqv, PyData.eqvAll])]
     refine ⟨[c.d], rfl, by simp, fun M hM _ => ⟨[c.d], rfl, by simp, fun M1 hM1 _ => ⟨_, rfl, _, atI_c0, rfl, ?_⟩⟩⟩
     rw [ls (by decide +kernel), if_neg Bool.false_ne_true]
     rw [List.mem_singleton] at hM
     exact ⟨_, atI_c0, lat M (by rw [hM]; exact gd.d0 _ (paps_mem.mp hc)) (by rw [hM]; exact rfl)⟩
    | fst wd =>
     refine ⟨(lay2 (by decide +kernel) lok).shp (by decide), s1, ?_⟩
     rw [Sin.enc, two, if_neg Bool.false_ne_true]
     refine ⟨sS, s2, ?_⟩
     split
     ·rename_i hn
      cases S with
      | nil => exact q none (.inl ⟨rfl, fun b hb hd => absurd ((hS b).mpr ⟨hb, hd⟩) (List.not_mem_nil)⟩)
      | cons a l => simp [PyData.eqv, PyData.eqvAll] at hn
     ·rename_i hn
      have ne : ¬ S = [] := fun e => hn (by rw [e]; decide +kernel)
      refine ⟨S, rfl, ne, fun M hM hmin => ⟨S, rfl, ne, fun M1 _ _ => ⟨_, rfl, _, atI_c0, rfl, ?_⟩⟩⟩
      rw [ls (by decide +kernel), if_neg Bool.false_ne_true]
      obtain ⟨m1, m2⟩ := (hS M).mp hM
      refine ⟨_, atI_c0, lat M (h0 m1) (.inr ⟨M, m1, m2, fun b' hb' => ?_, rfl⟩)⟩
      by_cases hd : b' ≤ day
      ·exact hmin b' ((hS b').mpr ⟨hb', hd⟩)
      ·omega
    | lst wd =>
     refine ⟨(lay2 (by decide +kernel) lok).shp (by decide), s1, ?_⟩
     rw [Sin.enc, two, if_neg Bool.false_ne_true]
     refine ⟨sS, s2, ?_⟩
     split
     ·rename_i hn
      cases S with
      | nil => exact q none (.inl ⟨rfl, fun b hb hd => absurd ((hS b).mpr ⟨hb, hd⟩) (List.not_mem_nil)⟩)
      | cons a l => simp [PyData.eqv, PyData.eqvAll] at hn
     ·rename_i hn
      have ne : ¬ S = [] := fun e => hn (by rw [e]; decide +kernel)
      refine ⟨S, rfl, ne, fun M _ _ => ⟨S, rfl, ne, fun M1 hM hmax => ⟨_, rfl, _, atI_c0, rfl, ?_⟩⟩⟩
      rw [if_pos (by decide +kernel)]
      obtain ⟨m1, m2⟩ := (hS M1).mp hM
      exact ⟨_, atI_c1, lat M1 (h0 m1) (.inr ⟨M1, m1, m2, fun b' hb' hd => hmax b' ((hS b').mpr ⟨hb', hd⟩), rfl⟩)⟩
end
end K19

open PySem L2
namespace K19
open Day
theorem cs_x36_0 : CompScope (defScope s_x36) ["_law_deeds_here", "_law_found", "_law_deed_here", "_law_name", "_law_days", "_law_some"] ["_law_deed_here"] 1 [] { kind := PySem.ScopeKind.function, names := [(PySem.Str.ofString ".0", PySem.NameKind.local), (PySem.Str.ofString "_law_deed_here", PySem.NameKind.local)], isGenerator := false, isCoroutine := false, more := [] : PySem.Scope } := ⟨rfl, by decide +kernel, by decide +kernel, by decide +kernel, rfl, by decide +kernel, by decide +kernel, by decide +kernel, rfl⟩
theorem cs_x36_1 : CompScope (defScope s_x36) ["_law_deeds_here", "_law_found", "_law_deed_here", "_law_name", "_law_days", "_law_some"] ["_law_other"] 1 [] { kind := PySem.ScopeKind.function, names := [(PySem.Str.ofString ".0", PySem.NameKind.local), (PySem.Str.ofString "_law_other", PySem.NameKind.local)], isGenerator := false, isCoroutine := false, more := [] : PySem.Scope } := ⟨rfl, by decide +kernel, by decide +kernel, by decide +kernel, rfl, by decide +kernel, by decide +kernel, by decide +kernel, rfl⟩
theorem cs_x36_2 : CompScope (defScope s_x36) ["_law_deeds_here", "_law_found", "_law_deed_here", "_law_name", "_law_days", "_law_some"] ["_law_day_here", "_law_deeds_here", "_law_name", "_law_deed_here"] 1 [0, 3, 2] { kind := PySem.ScopeKind.function, names := [ (PySem.Str.ofString ".0", PySem.NameKind.local), (PySem.Str.ofString "_law_day_here", PySem.NameKind.local), (PySem.Str.ofString "_law_reckoning", PySem.NameKind.globalImplicit), (PySem.Str.ofString "_law_deed_here", PySem.NameKind.free), (PySem.Str.ofString "_law_deeds_here", PySem.NameKind.free), (PySem.Str.ofString "_law_name", PySem.NameKind.free)], isGenerator := false, isCoroutine := false, more := [] : PySem.Scope } := ⟨rfl, by decide +kernel, by decide +kernel, by decide +kernel, rfl, by decide +kernel, by decide +kernel, by decide +kernel, rfl⟩
theorem cs_x36_3 : CompScope (defScope s_x36) ["_law_deeds_here", "_law_found", "_law_deed_here", "_law_name", "_law_days", "_law_some"] ["_law_by"] 1 [] { kind := PySem.ScopeKind.function, names := [(PySem.Str.ofString ".0", PySem.NameKind.local), (PySem.Str.ofString "_law_by", PySem.NameKind.local)], isGenerator := false, isCoroutine := false, more := [] : PySem.Scope } := ⟨rfl, by decide +kernel, by decide +kernel, by decide +kernel, rfl, by decide +kernel, by decide +kernel, by decide +kernel, rfl⟩
section
variable {P : Program} {w : World} {K : PySem.W.Frag} {mg : Str → Option Value} {base : Heap} {t : Adr}
theorem rck_iff {xs : List De} (g : GoodD xs) {x0 : De} (hx0 : x0 ∈ xs) {c : Pp} {k : Int} {u : Str} {s : Sin} {os : List (Option Int)} (h1 : ∀ o ∈ os, ∃ x ∈ xs, Rck xs c x.d k u s o) (h2 : ∀ x ∈ xs, ∃ o ∈ os, Rck xs c x.d k u s o) (z : Int) : some z ∈ os ↔ ∃ b, BaseOf xs c s b ∧ z = laterF b k u := by
 cases s with
 | com =>
  constructor
  ·intro h
   obtain ⟨x, _, hr⟩ := h1 _ h
   exact ⟨c.d, rfl, Option.some.inj hr⟩
  ·rintro ⟨b, rfl, rfl⟩
   obtain ⟨o, ho, hr⟩ := h2 x0 hx0
   have hr : o = some (laterF c.d k u) := hr
   rw [← hr]; exact ho
 | fst wd =>
  constructor
  ·intro h
   obtain ⟨x, _, hr⟩ := h1 _ h
   rcases hr with ⟨e, _⟩ | ⟨b, b1, _, b3, e⟩
   ·cases e
   ·exact ⟨b, ⟨b1, b3⟩, Option.some.inj e⟩
  ·rintro ⟨b, ⟨b1, b3⟩, rfl⟩
   obtain ⟨o, ho, hr⟩ := h2 _ ((haps_mem g).mp b1)
   rcases hr with ⟨_, hn⟩ | ⟨b', b1', _, b3', e⟩
   ·exact absurd (Int.le_refl b) (hn b b1)
   ·have := b3 b' b1'
    have := b3' b b1
    have eb : b = b' := by omega
    rw [eb, ← e]; exact ho
 | lst wd =>
  constructor
  ·intro h
   obtain ⟨x, _, hr⟩ := h1 _ h
   rcases hr with ⟨e, _⟩ | ⟨b, b1, _, _, e⟩
   ·cases e
   ·exact ⟨b, b1, Option.some.inj e⟩
  ·rintro ⟨b, b1, rfl⟩
   obtain ⟨o, ho, hr⟩ := h2 _ ((haps_mem g).mp b1)
   rcases hr with ⟨_, hn⟩ | ⟨b', b1', b2', b3', e⟩
   ·exact absurd (Int.le_refl b) (hn b b1)
   ·have := b3' b b1 (Int.le_refl b)
    have b2' : b' ≤ b := b2'
    have eb : b = b' := by omega
    rw [eb, ← e]; exact ho
theorem opt_ints : ∀ os : List (Option Int), (os.filter Option.isSome).map optD = (os.filterMap id).map .int
 | [] => rfl
 | none :: os => opt_ints os
 | some z :: os => congrArg (PyData.int z :: ·) (opt_ints os)
theorem ok_turns (T : Txt K mg t) : FnOk P w K mg base CX0 4 t.a_x36 t.d_x36 ["_law_deeds_here"] (spD K F_turning) := by
 have G_x33 := ok_row (P := P) (w := w) (base := base) T
 have G_x34 := ok_order (P := P) (w := w) (base := base) T
 have G_x35 := ok_lreck (P := P) (w := w) (base := base) T
 refine T.F_x36.okD sc_x36 (fun ds Q h => ?_) (fun cdv A outer s H O ds Q E hr h => ?_)
 ·obtain ⟨xs, rfl, _⟩ := h; rfl
 ·obtain ⟨xs, rfl, gd, q⟩ := h
  refine' ⟨_, ?body, ?read⟩
  case body =>
   refine' dss_cons ?s1 ?r1
   case s1 => exact (ds_setC (i := 1) sc_x36.nd rfl (by walk_at "o") (fu_compTI rfl cs_x36_0 (df (dv 0)) gd_name keepName (by decide) (fun _ _ _ _ => (pg_name (i := 0) cs_x36_0.nd rfl (by walk_at "o"))) (fun _ _ _ _ => pf_nilD) (fun _ _ _ _ => (de_ix ix_tup od_ixT (df (dv 0)) (df de_int)))))
   case' r1 => refine' dss_cons ?s3 ?r3
   case s3 =>
    refine' ds_forTI PassesOwn.never rfl (dv 0) ?a4 gd_name ?b4
    case a4 => exact (pg_name (i := 2) sc_x36.nd rfl (by walk_at "o"))
    case' b4 => refine' dss_one ?s5
    case' s5 => refine' ds_if ?c6 ?a6 dss_nil
    case c6 => exact (PW.pt (dw_and (dt_cmp (op_eqZ hr) od_eqZ (df (de_ix ix_tup od_ixT (df (dv 2)) (df de_int))) (df de_str) (nomark _)) (dw_and1 (dt_cmp (op_inZ hr) od_inZ (df (de_ix ix_tup od_ixT (df (de_ix ix_tup od_ixT (df (dv 2)) (df de_int))) (df de_int))) (df (de_tup (da_cons de_str (da_cons de_str da_nil)))) rfl))))
    case' a6 => refine' dss_one ?s7
    case' s7 => refine' ds_forI PassesOwn.never rfl (PE.imp (pe_call G_x34 (hr.mono (by decide)) rfl T.m_x34 T.F_x34.kp T.b_x34 .nil pass0 (da_cons (dv 0) da_nil)) dcall) ?a8 gd_name ?b8
    case a8 => exact (pg_name (i := 3) sc_x36.nd rfl (by walk_at "o"))
    case' b8 => refine' dss_one ?s9
    case' s9 => refine' ds_if ?c10 ?a10 dss_nil
    case c10 => exact (dt_cmp (op_eqX hr.units) od_eq (df (de_ix ix_tup od_ixT (df (PE.imp (pe_call G_x33 (hr.mono (by decide)) rfl T.m_x33 T.F_x33.kp T.b_x33 .nil pass0 (da_cons (dv 0) (da_cons (dv 3) da_nil))) dcall)) (df de_int))) (df (de_ix ix_tup od_ixT (df (de_ix ix_tup od_ixT (df (dv 2)) (df de_int))) (df de_int))) (nomark _))
    case' a10 => refine' dss_cons ?s11 ?r11
    case s11 => exact (ds_setC (i := 4) sc_x36.nd rfl (by walk_at "o") (fu_compTI rfl cs_x36_1 (df (dv 0)) gd_name keepName (by decide) (fun _ _ _ _ => (pg_name (i := 0) cs_x36_1.nd rfl (by walk_at "o"))) (fun _ _ _ _ => pf_nilD) (fun _ _ _ _ => (de_ix ix_tup od_ixT (df (dv 0)) (df de_int)))))
    case' r11 => refine' dss_cons ?s13 ?r13
    case s13 => exact (ds_setC (i := 5) sc_x36.nd rfl (by walk_at "o") (fu_compI rfl cs_x36_2 (df (dv 4)) gd_name keepName (by decide) (fun _ _ _ _ => (pg_name (i := 0) cs_x36_2.nd rfl (by walk_at "o"))) (fun _ _ _ _ => pf_nilD) (fun _ _ _ _ => (PE.imp (pe_call G_x35 (hr.mono (by decide)) rfl T.m_x35 T.F_x35.kp T.b_x35 .nil pass0 (da_cons (dv 1) (da_cons (de_ix ix_tup od_ixT (df (dv 3)) (df de_int)) (da_cons (dv 2) (da_cons (dv 0) da_nil))))) dcall))))
    case' r13 => refine' dss_one ?s15
    case' s15 => refine' ds_set (i := 1) sc_x36.nd rfl (by walk_at "o") ?e16 (hs := swaps_BinOp)
    case' e16 => refine' fe ?f17
    case' f17 => refine' fe_cat (df (dv 1)) (df ?b18)
    case' b18 => refine' fe ?f20
    case f20 => exact (fe_compI rfl cs_x36_3 (df (dv 5)) gd_name keepName (by decide) (fun _ _ _ _ => (pg_name (i := 0) cs_x36_3.nd rfl (by walk_at "o"))) (fun _ _ _ _ => (pf_one (dt_cmp op_notN od_notN (df (dv 0)) (df de_non) (nomark _)))) (fun _ _ _ _ => (dv 0)))
   case' r3 => refine' dss_one ?s22
   case s22 => exact (ds_ret (PE.imp (pe_callTy call_tuple_of rfl T.n_tuple bt_tuple (db_cons (df (fe (fe_sortSetN rfl rfl T.n_sorted PyProof.Rows.boot_sorted rfl T.n_set (db_cons (df (dv 1)) db_nil)))) db_nil)) (dcb cd_tupOf)))
  case read =>
  clear hr T G_x33 G_x34 G_x35
  walk_at "rz"
  have ln := gd.cn
  refine ⟨by rw [List.length_map]; omega, compI_e2 (fun _ => true) (fun x : De => .int x.d) (fun x hx R S h1 _ => ?_) ?_⟩
  ·cases x <;> simp only [De.enc, Pp.enc] <;> walk_at "rz" <;> exact h1 rfl
  ·rw [filter_true]
   refine ⟨fun i δ => ∃ (L : List Int) (o2 o3 o4 o5 : Option Sl), L.length ≤ 19 + 95 * i ∧ (∀ z, z ∈ L ↔ (∃ x ∈ xs, x.d = z) ∨ ∃ x ∈ xs.take i, RuleZ xs x z) ∧ δ = [some (Sl.v (.tuple (xs.map De.enc))), some (Sl.v (.list (L.map .int))), o2, o3, o4, o5], ⟨xs.map De.d, _, _, _, _, by rw [List.length_map]; omega, fun z => by simp, by rw [List.map_map]; rfl⟩, ?_, ?_⟩
   ·rintro i z δ hz ⟨L, o2, o3, o4, o5, hL, hm, rfl⟩
    rw [List.getElem?_map] at hz
    cases hz' : xs[i]? with
    | none => rw [hz'] at hz; cases hz
    | some x =>
     rw [hz'] at hz; cases hz
     have hx := List.mem_of_getElem? hz'
     have hi : i < 19 := by have := (List.getElem?_eq_some_iff.mp hz').1; omega
     have ts : xs.take (i + 1) = xs.take i ++ [x] := by rw [List.take_succ, hz']; rfl
     have no : ¬ (∃ z, RuleZ xs x z) → ∀ z, z ∈ L ↔ (∃ x ∈ xs, x.d = z) ∨ ∃ x ∈ xs.take (i + 1), RuleZ xs x z := fun h z => by
      rw [hm z, ts]
      refine or_congr_right ⟨fun ⟨y, hy, h'⟩ => ⟨y, List.mem_append_left _ hy, h'⟩, fun ⟨y, hy, h'⟩ => ?_⟩
      rcases List.mem_append.mp hy with v | v
      ·exact ⟨y, v, h'⟩
      ·rw [List.mem_singleton] at v; rw [v] at h'; exact absurd ⟨z, h'⟩ h
     cases x with
     | pap p =>
      simp only [De.enc, Pp.enc]
      walk_at "rz"
      exact ⟨L, by omega, no (fun ⟨z, d, nm, w, kd, s, k, u, e, _⟩ => by cases e), rfl, _, rfl⟩
     | oth wo d nm r =>
      simp only [De.enc]
      walk_at "rz"
      by_cases hw : wo = Str.ofString "rule"
      ·subst hw
       obtain ⟨pt, rfl, ok⟩ := gd.ru _ _ _ hx
       rw [if_pos (beq_self_eq_true _)]
       cases pt with
       | two w2 kd =>
        refine ⟨_, atI_c3, _, rfl, _, atI_c0, rfl, ?_⟩
        rw [eqv_str, eqv_str, beq_ne (fun e => ok.1 (.inl e.symm)), beq_ne (fun e => ok.1 (.inr e.symm)), if_neg (by decide)]
        exact ⟨L, by omega, no (fun ⟨z, d', nm', w', kd', s', k', u', e, _⟩ => by
         simp only [De.oth.injEq, List.cons.injEq, Pt.enc, PyData.tuple.injEq] at e
         exact absurd e.2.2.2.1.2.2 (by simp)), rfl, _, rfl⟩
       | five w2 kd s k u =>
        refine ⟨_, atI_c3, _, rfl, _, atI_c0, rfl, ?_⟩
        have hk : ((PyData.str (Str.ofString "keep")).eqv (PyData.str w2) || (PyData.str (Str.ofString "gone")).eqv (PyData.str w2)) = true := by
         rw [eqv_str, eqv_str]
         rcases ok.1 with e | e <;> rw [e] <;> decide +kernel
        rw [if_pos hk]
        have ol := ordP_len (ps := paps xs)
        have pl := gd.cP
        refine ⟨xs, rfl, gd.gx, _, rfl, ?_⟩
        refine ⟨fun j δ => ∃ (M : List Int) (o3 o4 o5 : Option Sl), M.length ≤ L.length + 19 * j ∧ (∀ z, z ∈ M ↔ z ∈ L ∨ ∃ c ∈ (ordP (paps xs)).take j, c.kd = kd ∧ ∃ b, BaseOf xs c s b ∧ z = laterF b k u) ∧ δ = [some (Sl.v (.tuple (xs.map De.enc))), some (Sl.v (.list (M.map .int))), some (Sl.v (De.oth (Str.ofString "rule") d nm [(Pt.five w2 kd s k u).enc]).enc), o3, o4, o5], ⟨L, _, _, _, by omega, fun z => by simp, rfl⟩, ?_, ?_⟩
        ·rintro j z δ hz ⟨M, o3, o4, o5, hM, hmM, rfl⟩
         rw [List.getElem?_map, List.getElem?_map] at hz
         cases hc' : (ordP (paps xs))[j]? with
         | none => rw [hc'] at hz; cases hz
         | some c =>
          rw [hc'] at hz; cases hz
          have hc := ordP_mem.mp (List.mem_of_getElem? hc')
          have hj : j < 5 := by have := (List.getElem?_eq_some_iff.mp hc').1; omega
          have tj : (ordP (paps xs)).take (j + 1) = (ordP (paps xs)).take j ++ [c] := by rw [List.take_succ, hc']; rfl
          have kok := shp_str.mpr (gd.gx.gp.kd c hc)
          simp only [De.enc, Pt.enc]
          walk_at "rz"
          refine ⟨xs, c, rfl, gd.gx, hc, ?_⟩
          simp only [Pp.enc]
          walk_at "rz"
          refine ⟨kok, shp_str.mpr ok.2.1, ?_⟩
          split
          ·rename_i hk2
           refine ⟨by rw [List.length_map]; omega, compI_e2 (fun _ => true) (fun x : De => .int x.d) (fun x hx R S h1 _ => ?_) ?_⟩
           ·cases x <;> simp only [De.enc, Pp.enc] <;> walk_at "rz" <;> exact h1 rfl
           ·rw [filter_true]
            refine ⟨by rw [List.length_map]; omega, fun n acc => ∃ os : List (Option Int), acc = os.map optD ∧ os.length = n ∧ (∀ o ∈ os, ∃ x ∈ xs, Rck xs c x.d k u s o) ∧ ∀ x ∈ xs.take n, ∃ o ∈ os, Rck xs c x.d k u s o, ⟨[], rfl, rfl, by simp, by simp⟩, ?_, ?_⟩
            ·rintro n z acc hz ⟨os, rfl, ol', h1, h2⟩
             rw [List.getElem?_map] at hz
             cases hy : xs[n]? with
             | none => rw [hy] at hz; cases hz
             | some y =>
              rw [hy] at hz; cases hz
              walk_at "rz"
              refine ⟨xs, w2, kd, s, k, u, c, y.d, rfl, gd, ok, hc, fun o ho => ⟨os ++ [o], by rw [List.map_append]; rfl, by rw [List.length_append, ol']; rfl, fun o' ho' => ?_, fun x hx => ?_⟩⟩
              ·rcases List.mem_append.mp ho' with h | h
               ·exact h1 o' h
               ·rw [List.mem_singleton] at h; rw [h]; exact ⟨y, List.mem_of_getElem? hy, ho⟩
              ·rw [List.take_succ, hy] at hx
               rcases List.mem_append.mp hx with h | h
               ·obtain ⟨o', a, b⟩ := h2 x h; exact ⟨o', List.mem_append_left _ a, b⟩
               ·have : x = y := by simpa using h
                rw [this]; exact ⟨o, by simp, ho⟩
            ·rintro acc ⟨os, rfl, ol', h1, h2⟩
             rw [List.length_map] at ol'
             rw [List.length_map, List.take_of_length_le (Nat.le_refl _)] at h2
             refine ⟨by rw [List.length_map]; omega, compI_e2 Option.isSome optD (fun o ho R S h1 h0 => ?_) ?_⟩
             ·cases o with
              | none => simp only [optD]; walk_at "rz"; exact h0 rfl
              | some z => simp only [optD]; walk_at "rz"; exact h1 rfl
             ·rw [opt_ints]
              have fl : (os.filterMap id).length ≤ 19 := Nat.le_trans (List.length_filterMap_le _ _) (by omega)
              refine ⟨by rw [List.length_map, List.length_map]; omega, M ++ os.filterMap id, by rw [List.length_append]; omega, fun z => ?_, by rw [List.map_append], _, rfl⟩
              rw [List.mem_append, hmM z, tj]
              have e : z ∈ os.filterMap id ↔ some z ∈ os := by simp
              rw [e, rck_iff gd hx h1 h2 z]
              constructor
              ·rintro ((h | ⟨c', a, b⟩) | h)
               ·exact .inl h
               ·exact .inr ⟨c', List.mem_append_left _ a, b⟩
               ·exact .inr ⟨c, by simp, eq_of_beq hk2, h⟩
              ·rintro (h | ⟨c', a, b⟩)
               ·exact .inl (.inl h)
               ·rcases List.mem_append.mp a with v | v
                ·exact .inl (.inr ⟨c', v, b⟩)
                ·rw [List.mem_singleton] at v; rw [v] at b; exact .inr b.2
          ·rename_i hk2
           refine ⟨M, by omega, fun z => ?_, rfl, _, rfl⟩
           rw [hmM z, tj]
           refine or_congr_right ⟨fun ⟨c', a, b⟩ => ⟨c', List.mem_append_left _ a, b⟩, fun ⟨c', a, b⟩ => ?_⟩
           rcases List.mem_append.mp a with v | v
           ·exact ⟨c', v, b⟩
           ·rw [List.mem_singleton] at v; rw [v] at b; exact absurd (by rw [b.1]; exact beq_self_eq_true _) hk2
        ·rintro δ ⟨M, o3, o4, o5, hM, hmM, rfl⟩
         rw [List.length_map, List.length_map] at hM hmM
         rw [List.take_of_length_le (Nat.le_refl _)] at hmM
         refine ⟨M, by omega, fun z => ?_, _, _, _, _, rfl⟩
         rw [hmM z, hm z, ts]
         constructor
         ·rintro ((h | ⟨y, hy, h'⟩) | ⟨c, hc, h⟩)
          ·exact .inl h
          ·exact .inr ⟨y, List.mem_append_left _ hy, h'⟩
          ·exact .inr ⟨_, by simp, d, nm, w2, kd, s, k, u, rfl, ok.1, c, ordP_mem.mp hc, h⟩
         ·rintro (h | ⟨y, hy, h'⟩)
          ·exact .inl (.inl h)
          ·rcases List.mem_append.mp hy with v | v
           ·exact .inl (.inr ⟨y, v, h'⟩)
           ·rw [List.mem_singleton] at v
            rw [v] at h'
            obtain ⟨d', nm', w', kd', s', k', u', e, _, c, hc, h'⟩ := h'
            simp only [De.oth.injEq, List.cons.injEq, and_true, true_and] at e
            obtain ⟨_, _, _, rfl, rfl, rfl, rfl⟩ := (five_inj e.2.2)
            exact .inr ⟨c, ordP_mem.mpr hc, h'⟩
      ·rw [beq_ne hw, if_neg Bool.false_ne_true]
       exact ⟨L, by omega, no (fun ⟨z, d', nm', w', kd', s', k', u', e, _⟩ => by cases e; exact hw rfl), rfl, _, rfl⟩
   ·rintro δ ⟨L, o2, o3, o4, o5, hL, hm, rfl⟩
    walk_at "rz"
    rw [List.length_map] at hL
    rw [List.length_map, List.take_of_length_le (Nat.le_refl _)] at hm
    exact ⟨L, rfl, by omega, Nat.lt_of_le_of_lt (few fun z hz => turn_cand gd ((hm z).mp hz)) (cand_len gd), fun ns h1 h2 => q ns (fun z => (h1 z).trans (hm z)) h2⟩
end
end K19

open PySem L2
namespace K19
open Day
theorem cs_x37_0 : CompScope (defScope s_x37) ["_law_found", "_law_due"] ["_law_k", "_law_found", "_law_due"] 1 [0, 1] { kind := PySem.ScopeKind.function, names := [ (PySem.Str.ofString ".0", PySem.NameKind.local), (PySem.Str.ofString "_law_k", PySem.NameKind.local), (PySem.Str.ofString "_law_is", PySem.NameKind.globalImplicit), (PySem.Str.ofString "_law_due", PySem.NameKind.free), (PySem.Str.ofString "_law_found", PySem.NameKind.free)], isGenerator := false, isCoroutine := false, more := [] : PySem.Scope } := ⟨rfl, by decide +kernel, by decide +kernel, by decide +kernel, rfl, by decide +kernel, by decide +kernel, by decide +kernel, rfl⟩
section
variable {P : Program} {w : World} {K : PySem.W.Frag} {mg : Str → Option Value} {base : Heap} {t : Adr}
def F_is0 : List PyData → (PyData → Prop) → Prop := fun ds Q => ∃ i : Int, ds = [.int i, .int i] ∧ Q (.bool true)
def F_is1 : List PyData → (PyData → Prop) → Prop := fun ds Q => ∃ ns : List Int, ds = [.tuple (ns.map .int), .tuple (ns.map .int)] ∧ ns.length ≤ 1000 ∧ Q (.bool true)
theorem fn_no {k : Nat} {f : Addr} {fd : FuncData} {ps : List Str} : FnOk P w K mg base CX0 k f fd ps (spD K fun _ _ => False) := ⟨fun vs H Q E ⟨_, _, _, _, _, h, _⟩ => h.elim, fun _ _ _ _ _ _ _ _ _ _ _ _ _ ⟨_, _, _, _, _, h, _⟩ => h.elim⟩
theorem ok_isA {d : Nat} {F : List PyData → (PyData → Prop) → Prop} (T : Txt K mg t) (G_x37 : FnOk P w K mg base CX0 d t.a_x37 t.d_x37 ["_law_found", "_law_due"] (spD K F)) :
  FnOk P w K mg base CX0 (d + 1) t.a_x37 t.d_x37 ["_law_found", "_law_due"] (spD K fun ds Q => ∃ x, ds = [x, x] ∧ ((∃ i, x = .int i) ∨ ∃ xs, x = .tuple xs ∧ xs.length ≤ 1000 ∧ ∀ y ∈ xs, ∀ R : PyData → Prop, R (.bool true) → F [y, y] R) ∧ Q (.bool true)) := by
 refine T.F_x37.okD sc_x37 (fun ds Q h => ?_) (fun cdv A outer s H O ds Q E hr h => ?_)
 ·obtain ⟨x, rfl, _⟩ := h; rfl
 ·obtain ⟨x, rfl, hx, q⟩ := h
  refine' ⟨_, ?body, ?read⟩
  case body =>
   refine' dss_cons ?s1 ?r1
   case s1 =>
    refine' ds_if ?c2 ?a2 dss_nil
    case c2 => exact (dt_val (de_isinC (K' := K) (T := "tuple") rfl rfl T.n_isinstance bt_isinstance (df (dv 1)) (pe_bltn (v := .ty "tuple") rfl T.n_tuple bt_tuple rfl)))
    case' a2 => refine' dss_cons ?s3 ?r3
    case s3 =>
     refine' ds_if ?c4 ?a4 dss_nil
     case c4 => exact (PW.pt (dw_or (dt_not (dt_val (de_isinC (K' := K) (T := "tuple") rfl rfl T.n_isinstance bt_isinstance (df (dv 0)) (pe_bltn (v := .ty "tuple") rfl T.n_tuple bt_tuple rfl)))) (dw_or1 (dt_cmp (op_neX hr.units) od_ne (df (PE.imp (pe_callB call_len_seq rfl T.n_len PySem.boot_len (db_cons (df (dv 0)) db_nil)) (dcb cd_len))) (df (PE.imp (pe_callB call_len_seq rfl T.n_len PySem.boot_len (db_cons (df (dv 1)) db_nil)) (dcb cd_len))) (nomark _)))))
     case a4 => refine' dss_one (ds_ret de_bl)
    case' r3 => refine' dss_one ?s7
    case' s7 => refine' ds_ret ?e8
    case e8 => exact (PE.imp (pe_callB (call_all rfl) rfl T.n_all bt_all (db_cons (df (fe (fe_compRI rfl cs_x37_0 rfl T.n_range (db_cons (df (PE.imp (pe_callB call_len_seq rfl T.n_len PySem.boot_len (db_cons (df (dv 1)) db_nil)) (dcb cd_len))) db_nil) gd_name keepName (by decide) (fun _ _ _ _ => (pg_name (i := 0) cs_x37_0.nd rfl (by walk_at "o"))) (fun _ _ _ _ => pf_nilD) (fun _ _ _ _ => (PE.imp (pe_call G_x37 (hr.mono (Nat.le_refl _)) rfl T.m_x37 T.F_x37.kp T.b_x37 .nil pass0 (da_cons (de_ix ix_tup od_ixT (df (dv 1)) (df (dv 0))) (da_cons (de_ix ix_tup od_ixT (df (dv 2)) (df (dv 0))) da_nil))) dcall))))) db_nil)) (dcb cd_any))
   case' r1 => refine' dss_cons ?s10 ?r10
   case s10 =>
    refine' ds_if ?c11 ?a11 dss_nil
    case c11 => exact (dt_cmp op_isN od_isN (df (dv 1)) (df de_non) (nomark _))
    case' a11 => refine' dss_one ?s12
    case s12 => exact (ds_ret (de_cmp op_isN od_isN (df (dv 0)) (df de_non) (nomark _)))
   case' r10 => refine' dss_cons ?s14 ?r14
   case s14 =>
    refine' ds_if ?c15 ?a15 dss_nil
    case c15 => exact (dt_val (de_isinC (K' := K) (T := "bool") rfl rfl T.n_isinstance bt_isinstance (df (dv 1)) (pe_bltn (v := .ty "bool") rfl T.n_bool bt_bool rfl)))
    case' a15 => refine' dss_one ?s16
    case' s16 => refine' ds_ret ?e17
    case e17 => exact (de_and (de_isinC (K' := K) (T := "bool") rfl rfl T.n_isinstance bt_isinstance (df (dv 0)) (pe_bltn (v := .ty "bool") rfl T.n_bool bt_bool rfl)) (de_one (de_cmp (op_eqX hr.units) od_eq (df (dv 0)) (df (dv 1)) (nomark _))))
   case' r14 => refine' dss_cons ?s19 ?r19
   case s19 =>
    refine' ds_if ?c20 ?a20 dss_nil
    case c20 => exact (dt_val (de_isinC (K' := K) (T := "int") rfl rfl T.n_isinstance bt_isinstance (df (dv 1)) (pe_bltn (v := .ty "int") rfl T.n_int bt_int rfl)))
    case' a20 => refine' dss_one ?s21
    case' s21 => refine' ds_ret ?e22
    case e22 => exact (de_and (de_isinC (K' := K) (T := "int") rfl rfl T.n_isinstance bt_isinstance (df (dv 0)) (pe_bltn (v := .ty "int") rfl T.n_int bt_int rfl)) (de_and (de_not (de_isinC (K' := K) (T := "bool") rfl rfl T.n_isinstance bt_isinstance (df (dv 0)) (pe_bltn (v := .ty "bool") rfl T.n_bool bt_bool rfl))) (de_one (de_cmp (op_eqX hr.units) od_eq (df (dv 0)) (df (dv 1)) (nomark _)))))
   case' r19 => refine' dss_one ?s24
   case' s24 => refine' ds_ret ?e25
   case e25 => exact (de_and (de_isinC (K' := K) (T := "str") rfl rfl T.n_isinstance bt_isinstance (df (dv 0)) (pe_bltn (v := .ty "str") rfl T.n_str bt_str rfl)) (de_one (de_cmp (op_eqX hr.units) od_eq (df (dv 0)) (df (dv 1)) (nomark _))))
  case read =>
  clear hr T G_x37
  walk_at "rz"
  simp only [kit_tuple, kit_bool, kit_int, kit_str]
  rcases hx with ⟨i, rfl⟩ | ⟨xs, rfl, hl, hF⟩
  ·simpa [isTupB, isNone, isBoolB, isIntB, eqv_int, SeqAt.shaped, PyData.canLay0, PyData.depth] using q
  ·simp only [isTupB]
   walk_at "rz"
   refine ⟨by simp, by simp, by omega, by omega, compI_bools (p := fun b => Q (.bool b)) (fun _ => true) (fun x hx R hR => ?_) ?_⟩
   ·obtain ⟨i, hi⟩ := List.getElem?_of_mem hx
    obtain ⟨hlt, rfl⟩ := rangeD_at hi
    have hj : i < xs.length := by omega
    have ha : atI xs (0 + (i : Int)) = some xs[i] := by rw [Int.zero_add]; exact atI_nat (by simp [hj])
    walk_at "rz"
    exact ⟨xs[i], ha, xs[i], ha, hF _ (List.getElem_mem hj) R hR⟩
   ·have e : ∀ l : List PyData, ((l.map fun _ => true).all id) = true := fun l => by rw [List.all_map]; exact List.all_eq_true.mpr fun _ _ => rfl
    rw [e]; exact q
theorem ok_is0 (T : Txt K mg t) : FnOk P w K mg base CX0 18 t.a_x37 t.d_x37 ["_law_found", "_law_due"] (spD K F_is0) :=
 (ok_isA T (d := 17) fn_no).imp fun vs H Q E ⟨O, ds, Qd, a, b, ⟨i, e, q⟩, k⟩ => ⟨O, ds, Qd, a, b, ⟨.int i, e, .inl ⟨i, rfl⟩, q⟩, k⟩
theorem ok_is (T : Txt K mg t) : FnOk P w K mg base CX0 19 t.a_x37 t.d_x37 ["_law_found", "_law_due"] (spD K F_is1) :=
 (ok_isA T (ok_is0 T)).imp fun vs H Q E ⟨O, ds, Qd, a, b, ⟨ns, e, hl, q⟩, k⟩ => ⟨O, ds, Qd, a, b, ⟨_, e, .inr ⟨_, rfl, by rw [List.length_map]; exact hl, fun y hy R hR => by obtain ⟨i, _, rfl⟩ := List.mem_map.mp hy; exact ⟨i, rfl, hR⟩⟩, q⟩, k⟩
def F_far : List PyData → (PyData → Prop) → Prop := fun ds Q => ∃ (ns : List Int) (k : Int), ds = [scrD (ns.map .int), .int k] ∧ 0 ≤ k ∧ k ≤ 100 ∧ ∀ b : Bool, Q (.bool b)
theorem ok_far (T : Txt K mg t) : FnOk P w K mg base CX0 2 t.a_x38 t.d_x38 ["_law_script", "_law_at"] (spD K F_far) := by
 have G_x19 := ok_cell (P := P) (w := w) (base := base) T
 have G_x20 := ok_numbers (P := P) (w := w) (base := base) T
 refine T.F_x38.okD sc_x38 (fun ds Q h => ?_) (fun cdv A outer s H O ds Q E hr h => ?_)
 ·obtain ⟨ns, k, rfl, _⟩ := h; rfl
 ·obtain ⟨ns, k, rfl, k0, k1, q⟩ := h
  refine' ⟨_, ?body, ?read⟩
  case body =>
   refine' dss_one ?s1
   case' s1 => refine' ds_ret ?e2
   case e2 => exact (de_cmp (op_eqX hr.units) od_eq (df (de_op op_mod od_intC (df (de_ix ix_list od_ixL (df (PE.imp (pe_call G_x20 (hr.mono (by decide)) rfl T.m_x20 T.F_x20.kp T.b_x20 .nil pass0 (da_cons (PE.imp (pe_call G_x19 (hr.mono (by decide)) rfl T.m_x19 T.F_x19.kp T.b_x19 .nil pass0 (da_cons (dv 0) (da_cons (dv 1) da_nil))) dcall) (da_cons de_int da_nil))) dcall)) (df de_int))) (df de_int))) (df de_int) (nomark _))
  case read =>
  clear hr T G_x19 G_x20
  walk_at "rzw"
  refine ⟨by omega, by omega, fun c ms ml mn => ?_⟩
  obtain ⟨a0, a1, a2, a3, rfl⟩ := list4 ml
  walk_at "rz"
  exact q _
def F_x39 : List PyData → (PyData → Prop) → Prop := fun ds Q => ∃ ns : List Int, ds = [scrD (ns.map .int)] ∧ ns.length ≤ 63 ∧ (∀ z ∈ ns, Builtin.Int.intBits z ≤ 1048576) ∧ Q (.bool true)
def sp_law (K : PySem.W.Frag) : Sp := spD K F_x39
theorem start_law {K : PySem.W.Frag} {H : Hp} {a : Addr} {ns : List Int} (hl : ns.length ≤ 63) (hb : ∀ z ∈ ns, Builtin.Int.intBits z ≤ 1048576) (hS : SqL K H a (ns.map V.int)) : sp_law K [.ref a] H (fun v _ => v = .bl true) fun _ _ _ => False :=
 ⟨fun _ => False, [scrD (ns.map .int)], fun d => d = .bool true, fun _ z => z.elim, .cons (.scr (by
  rcases hS with h | h
  ·exact .inl ⟨h, fun z => z⟩
  ·exact .inr (.inr h)) (Dts.ints ns)) .nil, ⟨ns, rfl, hl, hb, rfl⟩, fun d v H' e _ r => by subst e; cases r; rfl⟩
theorem good_nil : GoodD [] := GoodD.of (by simp) .nil (List.nil_sublist _)
theorem turn_len {xs : List De} (g : GoodD xs) {ns : List Int} (h : ∀ z, z ∈ ns ↔ TurnD xs z) (p : ns.Pairwise (· < ·)) : ns.length ≤ 1000 := by
 have := nd_len (p.imp fun h => Int.ne_of_lt h) fun z hz => turn_cand g ((h z).mp hz)
 have := cand_len g
 omega
theorem ok_law (T : Txt K mg t) : FnOk P w K mg base CX0 20 t.a_x39 t.d_x39 ["_law_script"] (sp_law K) := by
 have G_x32 := ok_deeds (P := P) (w := w) (base := base) T
 have G_x38 := ok_far (P := P) (w := w) (base := base) T
 have G_x36 := ok_turns (P := P) (w := w) (base := base) T
 have G_x18 := ok_turning (P := P) (w := w) (base := base) T
 have G_x37 := ok_is (P := P) (w := w) (base := base) T
 refine T.F_x39.okD sc_x39 (fun ds Q h => ?_) (fun cdv A outer s H O ds Q E hr h => ?_)
 ·obtain ⟨ns, rfl, _⟩ := h; rfl
 ·obtain ⟨ns, rfl, hl, hb, q⟩ := h
  refine' ⟨_, ?body, ?read⟩
  case body =>
   refine' dss_cons ?s1 ?r1
   case s1 =>
    refine' ds_forI PassesOwn.never rfl (fe (fe_slice (df (fe (fe_lst (da_lits (ds := [.int 0, .int 20, .int 40]) (by rfl))))) do_none (do_some (de_op op_add od_int (df de_int) (df (de_op op_fdiv od_intC (df (PE.imp (pe_callB call_len_seq rfl T.n_len PySem.boot_len (db_cons (df (dv 0)) db_nil)) (dcb cd_lenS))) (df de_int))))))) ?a2 gd_name ?b2
    case a2 => exact (pg_name (i := 1) sc_x39.nd rfl (by walk_at "o"))
    case' b2 => refine' dss_cons ?s3 ?r3
    case s3 =>
     refine' ds_set (i := 2) sc_x39.nd rfl (by walk_at "o") ?e4 (hs := swaps_Call)
     case e4 => exact (PE.imp (pe_call G_x32 (hr.mono (by decide)) rfl T.m_x32 T.F_x32.kp T.b_x32 .nil pass0 (da_cons (dv 0) (da_cons (dv 1) (da_cons (PE.imp (pe_call G_x38 (hr.mono (by decide)) rfl T.m_x38 T.F_x38.kp T.b_x38 .nil pass0 (da_cons (dv 0) (da_cons (dv 1) da_nil))) dcall) da_nil)))) dcall)
    case' r3 => refine' dss_cons ?s6 ?r6
    case s6 => exact (ds_set (i := 3) sc_x39.nd rfl (by walk_at "o") (PE.imp (pe_call G_x36 (hr.mono (by decide)) rfl T.m_x36 T.F_x36.kp T.b_x36 .nil pass0 (da_cons (dv 2) da_nil)) dcall))
    case' r6 => refine' dss_one ?s8
    case' s8 => refine' ds_if ?c9 ?a9 dss_nil
    case c9 => exact (PW.pt (dw_or (dt_not (dt_val (PE.imp (pe_call G_x37 (hr.mono (Nat.le_refl _)) rfl T.m_x37 T.F_x37.kp T.b_x37 .nil pass0 (da_cons (PE.imp (pe_call G_x18 (hr.mono (by decide)) rfl T.m_x18 T.F_x18.kp T.b_x18 .nil pass0 (da_cons (dv 2) da_nil)) dcall) (da_cons (dv 3) da_nil))) dcall))) (dw_or1 (dt_not (dt_val (PE.imp (pe_call G_x37 (hr.mono (Nat.le_refl _)) rfl T.m_x37 T.F_x37.kp T.b_x37 .nil pass0 (da_cons (PE.imp (pe_call G_x18 (hr.mono (by decide)) rfl T.m_x18 T.F_x18.kp T.b_x18 .nil pass0 (da_cons (de_revT (df (dv 2))) da_nil)) dcall) (da_cons (dv 3) da_nil))) dcall))))))
    case a9 => refine' dss_one (ds_ret de_bl)
   case' r1 => refine' dss_one ?s12
   case s12 => exact (ds_ret (PE.imp (pe_call G_x37 (hr.mono (Nat.le_refl _)) rfl T.m_x37 T.F_x37.kp T.b_x37 .nil pass0 (da_cons (PE.imp (pe_call G_x18 (hr.mono (by decide)) rfl T.m_x18 T.F_x18.kp T.b_x18 .nil pass0 (da_cons (de_tup da_nil) da_nil)) dcall) (da_cons (de_tup da_nil) da_nil))) dcall))
  case read =>
  clear G_x32 G_x38 G_x36 G_x18 G_x37 hr T
  walk_at "rz"
  refine ⟨_, rfl, ?_⟩
  have fin : ∀ {xs ys : List De} {ms : List Int} {R : PyData → Prop}, GoodD xs → ys.Perm xs → (∀ z, z ∈ ms ↔ TurnD xs z) → ms.Pairwise (· < ·) → R (.bool true) → F_turning [.tuple (ys.map De.enc)] fun d => F_is1 [d, .tuple (ms.map .int)] R := fun {xs ys ms R} g pm h1 h2 hR => by
   refine ⟨ys, rfl, g.perm pm, fun ks k1 k2 => ?_⟩
   have e : ks = ms := rising_uniq (r := (· < ·)) (fun a b (h : a < b) => Int.not_lt.mpr (Int.le_of_lt h)) ((List.perm_ext_iff_of_nodup (k2.imp Int.ne_of_lt) (h2.imp Int.ne_of_lt)).mpr fun z => ((k1 z).trans (turn_perm pm z)).trans (h1 z).symm) k2 h2
   rw [e]
   exact ⟨ms, rfl, turn_len g h1 h2, hR⟩
  refine ⟨fun i δ => ∃ o1 o2 o3 : Option Sl, δ = [some (Sl.v (scrD (ns.map .int))), o1, o2, o3], ⟨_, _, _, rfl⟩, ?_, ?_⟩
  ·rintro i z δ hz ⟨o1, o2, o3, rfl⟩
   have hm : z ∈ [PyData.int 0, PyData.int 20, PyData.int 40] := by
    have hm := List.mem_of_getElem? hz
    unfold cutD at hm
    exact List.mem_of_mem_drop (List.mem_of_mem_take hm)
   obtain ⟨k, rfl, k0, k1⟩ : ∃ k : Int, z = .int k ∧ 0 ≤ k ∧ k ≤ 100 := by
    simp only [List.mem_cons, List.not_mem_nil, or_false] at hm
    rcases hm with h | h | h <;> exact ⟨_, h, by decide, by decide⟩
   clear hz hm
   walk_at "rz"
   refine ⟨ns, k, rfl, k0, k1, fun b => ⟨ns, k, b, rfl, k0, k1, fun xs g => ⟨xs, rfl, g, fun ms m1 m2 => fin g (.refl _) m1 m2 ⟨true, rfl, ?_⟩⟩⟩⟩
   rw [if_neg (by decide)]
   refine ⟨_, rfl, ?_⟩
   rw [← List.map_reverse]
   exact fin g (List.reverse_perm xs) m1 m2 ⟨true, rfl, by rw [if_neg (by decide)]; exact ⟨_, rfl⟩⟩
  ·rintro δ ⟨o1, o2, o3, rfl⟩
   walk_at "rz"
   exact fin (xs := []) (ms := []) good_nil (.refl _) (fun z => ⟨fun h => absurd h List.not_mem_nil, by rintro (⟨x, hx, _⟩ | ⟨x, hx, _⟩) <;> cases hx⟩) .nil q
end
end K19

def PySem.W.Fast.tw7172655702781094053 := 0
def PySem.W.Fast.tw11384760560520684727 := 0
def PySem.W.Fast.tw4601957239488925536 := 0
def PySem.W.Fast.tw5620930587427900369 := 0
def PySem.W.Fast.tw2411782112926015698 := 0
def PySem.W.Fast.tw16171350083458012413 := 0
def PySem.W.Fast.tw12827067287620397903 := 0
def PySem.W.Fast.tw15490715033530293142 := 0
def PySem.W.Fast.tw4671777169422482433 := 0
def PySem.W.Fast.tw13266538069359414140 := 0
def PySem.W.Fast.tw17745005911787041836 := 0
def PySem.W.Fast.tw14404187789246579000 := 0
def PySem.W.Fast.tw17630001462530591422 := 0
def PySem.W.Fast.tw7184455661785695844 := 0
def PySem.W.Fast.tw13743424796539204720 := 0
def PySem.W.Fast.tw16784965948321247902 := 0
def PySem.W.Fast.tw16861322990639178883 := 0
def PySem.W.Fast.tw6218461853054280725 := 0
def PySem.W.Fast.tw9530078723391807869 := 0
def PySem.W.Fast.tw3759701193888045614 := 0
def PySem.W.Fast.tw4142060756801551083 := 0
def PySem.W.Fast.tw8955172646097772309 := 0
def PySem.W.Fast.tw1934395236092401416 := 0
def PySem.W.Fast.tw10880223172626212033 := 0
def PySem.W.Fast.tw15252690947574848690 := 0
def PySem.W.Fast.tw10046935760919576193 := 0
def PySem.W.Fast.tw12928302672129224137 := 0
def PySem.W.Fast.tw16745336689355247085 := 0
def PySem.W.Fast.tw12072789065459731577 := 0
def PySem.W.Fast.tw6727114895182052731 := 0
def PySem.W.Fast.tw14910303973463287076 := 0
def PySem.W.Fast.tw766820835189532889 := 0
def PySem.W.Fast.tw2447670409060979260 := 0
def PySem.W.Fast.tw2957541694821473584 := 0
def PySem.W.Fast.tw4847891551306513688 := 0
def PySem.W.Fast.tw16952961199458356021 := 0
def PySem.W.Fast.tw4059777572887127797 := 0
def PySem.W.Fast.tw6272937985704684061 := 0
def PySem.W.Fast.tw2511956955488613237 := 0
def PySem.W.Fast.tw15408499011849227723 := 0
def PySem.W.Fast.tw708722257393536804 := 0
def PySem.W.Fast.tw6763030140419436009 := 0
def PySem.W.Fast.tw735937410391650265 := 0
def PySem.W.Fast.tw9458740880893650084 := 0
def PySem.W.Fast.tw9957373354895641726 := 0
def PySem.W.Fast.tw6712729138280800067 := 0
def PySem.W.Fast.tw10334428304278122660 := 0
def PySem.W.Fast.tw5758716637787952771 := 0
def PySem.W.Fast.tw7616654671198560048 := 0
def PySem.W.Fast.tw4560895414072125473 := 0
def PySem.W.Fast.tw15548085461470050007 := 0
def PySem.W.Fast.tw11255078994769216241 := 0
def PySem.W.Fast.tw11032736076367654398 := 0
def PySem.W.Fast.tw10027712887444741207 := 0
def PySem.W.Fast.tw18422136365403338932 := 0
def PySem.W.Fast.tw15438234574477610947 := 0
def PySem.W.Fast.tw13479061732047381742 := 0
def PySem.W.Fast.tw7901337352417081914 := 0
def PySem.W.Fast.tw16444837328995634070 := 0
def PySem.W.Fast.tw6770477009725640974 := 0
open PySem PySem.W PyProof.Rows
set_option maxRecDepth 100000 in
set_option maxHeartbeats 0 in
theorem PySem.Challenge.cw_goneday_k19_turning_days_holds : PySem.Challenge.rw_goneday_k19_turning_days.Holds := by
 w_on; o_law; k_head; (case hw => w_witness2)
 k_fill
 refine L2.walk_ofBK (l := PySem.Challenge.rw_goneday_k19_turning_days) (n := 63) (k := 20) (x := "_law_script") (CX := L2.CX0) (sp := K19.sp_law) rfl (by decide) rfl ⟨rfl, by decide, by decide⟩ (fun w h Y => PySem.W.kIn_of Y) ?F ?S ?C
 case F =>
  intro w mg fa h KX G hmg
  have T : ∃ t, K19.Txt (L2.KOf KX) mg t := by
   dsimp only [L2.KOf]
   refine' K19.txt_mk KX G ?a0 ?l0 ?c0 ?k0 ?a1 ?l1 ?c1 ?k1 ?a2 ?l2 ?c2 ?k2 ?a3 ?l3 ?c3 ?k3 ?a4 ?l4 ?c4 ?k4 ?a5 ?l5 ?c5 ?k5 ?a6 ?l6 ?c6 ?k6 ?a7 ?l7 ?c7 ?k7 ?a8 ?i8 ?l8 ?c8 ?k8 ?a9 ?l9 ?c9 ?k9 ?a10 ?l10 ?c10 ?k10 ?a11 ?l11 ?c11 ?k11 ?a12 ?l12 ?c12 ?k12 ?a13 ?l13 ?c13 ?k13 ?a14 ?l14 ?c14 ?k14 ?a15 ?l15 ?c15 ?k15 ?a16 ?l16 ?c16 ?k16 ?a17 ?l17 ?c17 ?k17 ?a18 ?l18 ?c18 ?k18 ?a19 ?l19 ?c19 ?k19 ?a20 ?l20 ?c20 ?k20 ?a21 ?l21 ?c21 ?k21 ?a22 ?l22 ?c22 ?k22 ?a23 ?l23 ?c23 ?k23 ?a24 ?l24 ?c24 ?k24 ?a25 ?l25 ?c25 ?k25 ?a26 ?l26 ?c26 ?k26 ?a27 ?l27 ?c27 ?k27 ?a28 ?l28 ?c28 ?k28 ?a29 ?l29 ?c29 ?k29 ?a30 ?l30 ?c30 ?k30 ?a31 ?l31 ?c31 ?k31 ?a32 ?l32 ?c32 ?k32 ?a33 ?l33 ?c33 ?k33 ?a34 ?l34 ?c34 ?k34 ?a35 ?l35 ?c35 ?k35 ?a36 ?l36 ?c36 ?k36 ?a37 ?l37 ?c37 ?k37 ?a38 ?l38 ?c38 ?k38 ?a39 ?l39 ?c39 ?k39 ?x_MONTH_DAYS ?y_MONTH_DAYS ?z_MONTH_DAYS ?w_MONTH_DAYS ?x_FIRST_YEAR ?r_FIRST_YEAR ?x_ROUND_DAYS ?r_ROUND_DAYS ?x_ROUND_YEARS ?r_ROUND_YEARS ?x_NoPaper ?x_Paper ?pg_Paper ?hd_Paper ?po_Paper ?sa_Paper ?mk_Paper ?kc_Paper ?na_Paper_name ?na_Paper_coming ?na_Paper_kind ?na_Paper_makers ?na_Paper_happenings ?n_abs ?n_all ?n_any ?n_bool ?n_divmod ?n_enumerate ?n_int ?n_isinstance ?n_len ?n_max ?n_min ?n_range ?n_set ?n_sorted ?n_str ?n_sum ?n_tuple
   (case a0 => k_is)
   (case l0 => k_is)
   (case c0 => k_is)
   (case k0 => k_is)
   (case a1 => k_is)
   (case l1 => k_is)
   (case c1 => k_is)
   (case k1 => k_is)
   (case a2 => k_is)
   (case l2 => k_is)
   (case c2 => k_is)
   (case k2 => k_is)
   (case a3 => k_is)
   (case l3 => k_is)
   (case c3 => k_is)
   (case k3 => k_is)
   (case a4 => k_is)
   (case l4 => k_is)
   (case c4 => k_is)
   (case k4 => k_is)
   (case a5 => k_is)
   (case l5 => k_is)
   (case c5 => k_is)
   (case k5 => k_is)
   (case a6 => k_is)
   (case l6 => k_is)
   (case c6 => k_is)
   (case k6 => k_is)
   (case a7 => k_is)
   (case l7 => k_is)
   (case c7 => k_is)
   (case k7 => k_is)
   (case a9 => k_is)
   (case l9 => k_is)
   (case c9 => k_is)
   (case k9 => k_is)
   (case a10 => k_is)
   (case l10 => k_is)
   (case c10 => k_is)
   (case k10 => k_is)
   (case a11 => k_is)
   (case l11 => k_is)
   (case c11 => k_is)
   (case k11 => k_is)
   (case a12 => k_is)
   (case l12 => k_is)
   (case c12 => k_is)
   (case k12 => k_is)
   (case a13 => k_is)
   (case l13 => k_is)
   (case c13 => k_is)
   (case k13 => k_is)
   (case a14 => k_is)
   (case l14 => k_is)
   (case c14 => k_is)
   (case k14 => k_is)
   (case a15 => k_is)
   (case l15 => k_is)
   (case c15 => k_is)
   (case k15 => k_is)
   (case a16 => k_is)
   (case l16 => k_is)
   (case c16 => k_is)
   (case k16 => k_is)
   (case a17 => k_is)
   (case l17 => k_is)
   (case c17 => k_is)
   (case k17 => k_is)
   (case a18 => k_is)
   (case l18 => k_is)
   (case c18 => k_is)
   (case k18 => k_is)
   (case a19 => k_is)
   (case l19 => k_is)
   (case c19 => k_is)
   (case k19 => k_is)
   (case a20 => k_is)
   (case l20 => k_is)
   (case c20 => k_is)
   (case k20 => k_is)
   (case a21 => k_is)
   (case l21 => k_is)
   (case c21 => k_is)
   (case k21 => k_is)
   (case a22 => k_is)
   (case l22 => k_is)
   (case c22 => k_is)
   (case k22 => k_is)
   (case a23 => k_is)
   (case l23 => k_is)
   (case c23 => k_is)
   (case k23 => k_is)
   (case a24 => k_is)
   (case l24 => k_is)
   (case c24 => k_is)
   (case k24 => k_is)
   (case a25 => k_is)
   (case l25 => k_is)
   (case c25 => k_is)
   (case k25 => k_is)
   (case a26 => k_is)
   (case l26 => k_is)
   (case c26 => k_is)
   (case k26 => k_is)
   (case a27 => k_is)
   (case l27 => k_is)
   (case c27 => k_is)
   (case k27 => k_is)
   (case a28 => k_is)
   (case l28 => k_is)
   (case c28 => k_is)
   (case k28 => k_is)
   (case a29 => k_is)
   (case l29 => k_is)
   (case c29 => k_is)
   (case k29 => k_is)
   (case a30 => k_is)
   (case l30 => k_is)
   (case c30 => k_is)
   (case k30 => k_is)
   (case a31 => k_is)
   (case l31 => k_is)
   (case c31 => k_is)
   (case k31 => k_is)
   (case a32 => k_is)
   (case l32 => k_is)
   (case c32 => k_is)
   (case k32 => k_is)
   (case a33 => k_is)
   (case l33 => k_is)
   (case c33 => k_is)
   (case k33 => k_is)
   (case a34 => k_is)
   (case l34 => k_is)
   (case c34 => k_is)
   (case k34 => k_is)
   (case a35 => k_is)
   (case l35 => k_is)
   (case c35 => k_is)
   (case k35 => k_is)
   (case a36 => k_is)
   (case l36 => k_is)
   (case c36 => k_is)
   (case k36 => k_is)
   (case a37 => k_is)
   (case l37 => k_is)
   (case c37 => k_is)
   (case k37 => k_is)
   (case a38 => k_is)
   (case l38 => k_is)
   (case c38 => k_is)
   (case k38 => k_is)
   (case a39 => k_is)
   (case l39 => k_is)
   (case c39 => k_is)
   (case k39 => k_is)
   (case x_MONTH_DAYS => k_is)
   (case y_MONTH_DAYS => k_is)
   (case z_MONTH_DAYS => first | (repeat (first | exact .nil | refine .cons ⟨_, rfl⟩ ?_)))
   (case w_MONTH_DAYS => decide)
   (case x_FIRST_YEAR => k_is)
   (case r_FIRST_YEAR => exact ⟨_, rfl⟩)
   (case x_ROUND_DAYS => k_is)
   (case r_ROUND_DAYS => exact ⟨_, rfl⟩)
   (case x_ROUND_YEARS => k_is)
   (case r_ROUND_YEARS => exact ⟨_, rfl⟩)
   (case x_NoPaper => k_is)
   (case x_Paper => k_is)
   (case pg_Paper => k_is)
   (case hd_Paper => k_is)
   (case po_Paper => k_is)
   (case sa_Paper => k_is)
   (case mk_Paper => k_is)
   (case kc_Paper => k_is)
   (case na_Paper_name => k_is)
   (case na_Paper_coming => k_is)
   (case na_Paper_kind => k_is)
   (case na_Paper_makers => k_is)
   (case na_Paper_happenings => k_is)
   (case n_abs => k_is)
   (case n_all => k_is)
   (case n_any => k_is)
   (case n_bool => k_is)
   (case n_divmod => k_is)
   (case n_enumerate => k_is)
   (case n_int => k_is)
   (case n_isinstance => k_is)
   (case n_len => k_is)
   (case n_max => k_is)
   (case n_min => k_is)
   (case n_range => k_is)
   (case n_set => k_is)
   (case n_sorted => k_is)
   (case n_str => k_is)
   (case n_sum => k_is)
   (case n_tuple => k_is)
   (case a8 => k_is)
   (case i8 => k_is)
   (case l8 => k_is)
   (case c8 => k_is)
   (case k8 => k_is)
  obtain ⟨t, T⟩ := T
  have e0 := hmg.symm.trans T.m_x39
  cases e0
  exact ⟨t.d_x39, T.bt_x39, fun base kb nb => K19.ok_law T⟩
 case S => exact fun K H a ns hl hb hO hS => K19.start_law hl hb hS
 case C => exact fun _ _ _ _ z => z

