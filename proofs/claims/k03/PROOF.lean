import PyProof.Rows.All
import Wide.All
import OpenK.AllK
import Wide.FinOn
import Lean
import PyProof.EqAt
import PyProof.EqKinds
import PyProof.TupleCall
import PyProof.ListRange
import PyProof.TupleOfSeq
import PySem.Challenge.RW_roundlap_k03_whole_any_rounds
set_option genSizeOfSpec false
set_option bootstrap.genMatcherCode false
noncomputable section
-- CHANGE: your row's module here, as the last of these rows
set_option Elab.async false
set_option linter.all false
set_option maxRecDepth 100000
/-! THE HAND LAYER, for ints, bools, texts, own classes, LISTS and tuples (index, slices, in, append, pop ..), calls, loops. Paste it whole ahead of your own text; what your proof does not reach may be deleted. -/
namespace L2
open PySem PySem.Spec PyProof.Rows

/-- a key: an int or a str -/
abbrev Key := Sum Int Str
noncomputable def keyIs : Key → Value → Bool
  | .inl k, v => Value.isInt k v
  | .inr x, v => Value.isStrOf x v
noncomputable def keyH (w : World) : Key → Int
  | .inl k => hashInt k
  | .inr x => hashStr w x
theorem keyIs_shape : ∀ {k : Key} {v : Value}, keyIs k v = true → (∃ i t, k = Sum.inl i ∧ v = Value.int i t) ∨ (∃ x t, k = Sum.inr x ∧ v = Value.str x t)
  | .inl i, v, h => by
    obtain ⟨t, e⟩ := Value.isInt_shape (k := i) (v := v) h
    exact .inl ⟨i, t, rfl, e⟩
  | .inr x, v, h => by
    obtain ⟨t, e⟩ := Value.isStrOf_shape (x := x) (v := v) h
    exact .inr ⟨x, t, rfl, e⟩
theorem key_ll (a b : Int) : decide ((Sum.inl a : Key) = Sum.inl b) = (a == b) := by
  by_cases e : a = b
  · subst e; simp
  · have h : ¬ (Sum.inl a : Key) = Sum.inl b := fun q => e (Sum.inl.inj q)
    rw [decide_eq_false h]
    exact (beq_eq_false_iff_ne.mpr e).symm
theorem key_rr (a b : Str) : decide ((Sum.inr a : Key) = Sum.inr b) = decide (a = b) := by
  by_cases e : a = b
  · subst e; simp
  · have h : ¬ (Sum.inr a : Key) = Sum.inr b := fun q => e (Sum.inr.inj q)
    rw [decide_eq_false h, decide_eq_false e]
theorem key_lr (a : Int) (b : Str) : decide ((Sum.inl a : Key) = Sum.inr b) = false := decide_eq_false (fun q => nomatch q)
theorem key_rl (a : Str) (b : Int) : decide ((Sum.inr a : Key) = Sum.inl b) = false := decide_eq_false (fun q => nomatch q)

noncomputable def mixKind (prog : Program) (w : World) : PySem.KeyKind prog w Key where
  is := keyIs
  hash := keyH w
  inj := fun v a b ha hb => by
    rcases keyIs_shape ha with ⟨i, t, rfl, rfl⟩ | ⟨x, t, rfl, rfl⟩
    · rcases keyIs_shape hb with ⟨j, u, rfl, e⟩ | ⟨y, u, rfl, e⟩
      · injection e with e1 _; rw [e1]
      · exact nomatch e
    · rcases keyIs_shape hb with ⟨j, u, rfl, e⟩ | ⟨y, u, rfl, e⟩
      · exact nomatch e
      · injection e with e1 _; rw [e1]
  byValue := fun k v h => by
    rcases keyIs_shape h with ⟨i, t, rfl, rfl⟩ | ⟨x, t, rfl, rfl⟩ <;> rfl
  pyHash := fun hv h => by
    rcases keyIs_shape hv with ⟨i, t, rfl, rfl⟩ | ⟨x, t, rfl, rfl⟩
    · exact wpAny_pyHash_int h
    · exact wpAny_pyHash_str h
  eqBool := fun hu hv h => by
    rcases keyIs_shape hu with ⟨i, t, rfl, rfl⟩ | ⟨x, t, rfl, rfl⟩
    · rcases keyIs_shape hv with ⟨j, u, rfl, rfl⟩ | ⟨y, u, rfl, rfl⟩
      · rw [key_ll] at h; exact wpAny_eqBool_int h
      · rw [key_lr] at h; exact SeqAt.EqAt.int_str i t y u _ _ _ _ h
    · rcases keyIs_shape hv with ⟨j, u, rfl, rfl⟩ | ⟨y, u, rfl, rfl⟩
      · rw [key_rl] at h; exact SeqAt.EqAt.str_int x t j u _ _ _ _ h
      · rw [key_rr] at h; exact wpAny_eqBool_str h
  «strs» := fun k x t v h => by
    rcases keyIs_shape h with ⟨i, u, rfl, e⟩ | ⟨y, u, rfl, e⟩
    · exact nomatch e
    · injection e with e1 _
      subst e1
      cases v <;> rfl

end L2

namespace L2
open PySem PySem.Spec PyProof.Rows

/-- a value, without the heap -/
inductive V where
  | non | bl (b : Bool) | int (i : Int) | str (x : Str) | byt (b : Array UInt8) | flt (b : UInt64) | ref (a : Addr) | ty (n : String)
  deriving DecidableEq

noncomputable def RelV : V → Value → Prop
  | .non, u => u = Value.none
  | .bl b, u => u = Value.bool b
  | .int i, u => ∃ t, u = Value.int i t
  | .str x, u => ∃ t, u = Value.str x t
  | .byt b, u => ∃ t, u = Value.bytes b t
  | .flt b, u => ∃ t, u = Value.float b t
  | .ref a, u => u = Value.ref a
  | .ty n, u => u = Value.type n

abbrev Vals : List V → List Value → Prop := Paired RelV
theorem Vals.length {xs : List V} {us : List Value} (r : Vals xs us) : xs.length = us.length := Paired.length r
theorem Vals.get : ∀ {xs : List V} {us : List Value} {i : Nat} {x : V}, Vals xs us → xs[i]? = some x → ∃ u, us[i]? = some u ∧ RelV x u
  | _, _, _, _, .nil, e => by simp at e
  | _, _, 0, _, .cons r _, e => by simp at e; subst e; exact ⟨_, rfl, r⟩
  | _, _, i + 1, x, .cons _ t, e => by
    obtain ⟨u, h1, h2⟩ := Vals.get (i := i) (x := x) t (by simpa using e)
    exact ⟨u, by simpa using h1, h2⟩
theorem Vals.append : ∀ {xs ys : List V} {us ws : List Value}, Vals xs us → Vals ys ws → Vals (xs ++ ys) (us ++ ws)
  | _, _, _, _, .nil, s => s
  | _, _, _, _, .cons r t, s => .cons r (Vals.append t s)
theorem Vals.take : ∀ {xs : List V} {us : List Value} (n : Nat), Vals xs us → Vals (xs.take n) (us.take n)
  | _, _, 0, _ => .nil
  | _, _, _ + 1, .nil => .nil
  | _, _, n + 1, .cons r t => .cons r (Vals.take n t)
theorem Vals.drop : ∀ {xs : List V} {us : List Value} (n : Nat), Vals xs us → Vals (xs.drop n) (us.drop n)
  | _, _, 0, r => r
  | _, _, _ + 1, .nil => .nil
  | _, _, n + 1, .cons _ t => Vals.drop n t

noncomputable def RelO : Option V → Option Value → Prop
  | some v, some u => RelV v u
  | none, none => True
  | _, _ => False
noncomputable def KV {κ : Type} : List (κ × V) → List (κ × Value) → Prop := Paired fun (p : κ × V) (q : κ × Value) => p.1 = q.1 ∧ RelV p.2 q.2

/-- a key of a dict (00_mix): an int or a text -/
noncomputable def kV : Key → V
  | .inl i => .int i
  | .inr x => .str x

/-- what stands at a tracked address -/
inductive HO where
  /-- a list -/
  | lst (xs : List V)
  /-- a tuple (never changes) -/
  | tup (xs : List V)
  /-- a dict whose keys are ints and texts; one whose keys are tuples of ints and texts (the empty one is both) -/
  | dK (kvs : List (Key × V)) | dT (kvs : List (List Key × V))
  /-- a set of ints: its members, its size -/
  | set (S : Int → Bool) (n : Nat)
  /-- an instance of the class at C, its dict at dx, its attributes -/
  | ins (C dx : Addr) (fs : List (Str × V))
  /-- the dict of the instance at x -/
  | own (x : Addr)
  /-- the dict of an exception -/
  | xd (fs : List (Str × V))
  /-- a bound method, f of x -/
  | met (f x : Addr)
  /-- a range object lo, lo + 1, .. below hi -/
  | rng (lo hi : Int)
  /-- a thing that is known to the object (the script; a dict while a loop walks it): read, never written while it is so -/
  | frz (o : Obj) (u : HO)
  /-- a code object's table -/
  | tbl (ps : Array Value)
  /-- any other thing, by what is true of its one object (a def of one's own: SetO a S n := HO.ext fun h => ..) -/
  | ext (φ : Heap → Prop)

abbrev Hp := Addr → Option HO
noncomputable def upd (H : Hp) (a : Addr) (o : HO) : Hp := fun b => if b = a then some o else H b
theorem upd_same {H : Hp} {a : Addr} {o : HO} : upd H a o a = some o := by unfold upd; rw [if_pos rfl]
theorem upd_ne {H : Hp} {a b : Addr} {o : HO} (h : b ≠ a) : upd H a o b = H b := by unfold upd; rw [if_neg h]
/-- two objects of different content stand apart -/
theorem ne_of {H : Hp} {a b : Addr} {o u : HO} (h : H a = some o) (h' : H b = some u) (d : o ≠ u) : a ≠ b := by
  intro e; subst e; rw [h] at h'; exact d (Option.some.inj h')
theorem ne_of_none {H : Hp} {a b : Addr} {o : HO} (h : H a = some o) (h' : H b = none) : a ≠ b := by
  intro e; subst e; rw [h] at h'; cases h'

section
variable (P : Program) (w : World)
noncomputable def ObjOk (H : Hp) (h : Heap) (a : Addr) : HO → Prop
  | .lst xs => xs.length ≤ sizeLine ∧ ∃ (its : List Value) (n : Nat), Vals xs its ∧ h.get? a = some { cls := .type "list", data := .seq its.toArray n }
  | .tup xs => xs.length ≤ sizeLine ∧ ∃ its : List Value, Vals xs its ∧ IsTup h a its.toArray
  | .dK kvs => kvs.length ≤ sizeLine ∧ (a == sysModules) = false ∧ ∃ vs, KV kvs vs ∧ h.DictOf (mixKind P w) a vs
  | .dT kvs => kvs.length ≤ sizeLine ∧ (a == sysModules) = false ∧ ∃ xs : List (List Key × Addr × Value),
      Paired (fun (p : List Key × V) (q : List Key × Addr × Value) => p.1 = q.1 ∧ H q.2.1 = some (.tup (p.1.map kV)) ∧ RelV p.2 q.2.2) kvs xs ∧
      ∃ o es ep, h.get? a = some o ∧ o.ExactDict ∧ o.data = .dict es ep ∧ es.toList = xs.map (entryOfKey (tupleKind (mixKind P w))) ∧ (xs.map (·.1)).Nodup
  | .set S n => h.SetOf (intKind P w) a S n
  | .ins C dx fs => H dx = some (.own a) ∧ fs.length ≤ 1000 ∧ dx ≠ a ∧ h.get? a = some (PySem.W.instObj C dx) ∧
      ∃ mA, h.Ns1 dx mA ∧ (∀ f, RelO (fs.lookup f) (mA f)) ∧ PySem.Within mA (fs.map (·.1))
  | .own _ => ∃ o, h.get? a = some o
  | .xd fs => ∃ mA, h.Ns1 a mA ∧ ∀ f, RelO (fs.lookup f) (mA f)
  | .rng lo hi => ∃ t u v, h.get? a = some { cls := .type "range", data := .fields #[.int lo t, .int hi u, .int 1 v] }
  | .frz o u => h.get? a = some o ∧ ObjOk H h a u
  | .tbl ps => h.get? a = some { cls := .none, data := .fields ps }
  | .met f x => h.get? a = some (PySem.W.methodObj (.ref f) (.ref x))
  | .ext φ => φ h ∧ (∃ o, h.get? a = some o) ∧ ∀ h1 h2 : Heap, φ h1 → (∀ o, h1.get? a = some o → h2.get? a = some o) → φ h2
/-- the abstract heap is held -/
noncomputable def HOk (H : Hp) (h : Heap) : Prop := ∀ a o, H a = some o → ObjOk P w H h a o
end

section
variable {P : Program} {w : World} {H H' : Hp} {h h' : Heap} {a : Addr} {o : HO}
theorem ObjOk.lt (x : ObjOk P w H h a o) : a < h.objs.size := by
  cases o with
  | lst xs => obtain ⟨_, _, _, _, e⟩ := x; exact Heap.lt_size e
  | tup xs => obtain ⟨_, _, _, p⟩ := x; exact p.lt
  | dK kvs => obtain ⟨_, _, _, _, o, _, _, e, _⟩ := x; exact Heap.lt_size e
  | dT kvs => obtain ⟨_, _, _, _, o, _, _, e, _⟩ := x; exact Heap.lt_size e
  | set S n => obtain ⟨o, _, _, _, e, _⟩ := x; exact Heap.lt_size e
  | ins C dx fs => obtain ⟨_, _, _, e, _⟩ := x; exact Heap.lt_size e
  | own y => obtain ⟨_, e⟩ := x; exact Heap.lt_size e
  | xd fs => obtain ⟨_, ⟨_, _, _, e, _⟩, _⟩ := x; exact Heap.lt_size e
  | rng lo hi => obtain ⟨_, _, _, e⟩ := x; exact Heap.lt_size e
  | frz ob u => obtain ⟨e, _⟩ := x; exact Heap.lt_size e
  | tbl ps => exact Heap.lt_size (show h.get? a = some _ from x)
  | met f y => exact Heap.lt_size (show h.get? a = some _ from x)
  | ext φ => obtain ⟨_, ⟨_, e⟩, _⟩ := x; exact Heap.lt_size e
theorem Paired.mapP {α β : Type} {F G : α → β → Prop} : ∀ {l₁ : List α} {l₂ : List β}, Paired F l₁ l₂ → (∀ a b, F a b → G a b) → Paired G l₁ l₂
  | _, _, .nil, _ => .nil
  | _, _, .cons r t, f => .cons (f _ _ r) (Paired.mapP t f)
/-- what an object's description leans on: its own object, its own dict, the tuples -/
theorem ObjOk.stay (x : ObjOk P w H h a o) (k : ∀ b u, (b = a ∨ H b = some (.own a)) → h.get? b = some u → h'.get? b = some u)
    (ho : ∀ b, H b = some (.own a) → H' b = some (.own a)) (ht : ∀ b xs, H b = some (.tup xs) → H' b = some (.tup xs)) : ObjOk P w H' h' a o := by
  induction o with
  | lst xs => obtain ⟨z, its, n, r, e⟩ := x; exact ⟨z, its, n, r, k _ _ (.inl rfl) e⟩
  | tup xs => obtain ⟨z, its, r, ob, e, c⟩ := x; exact ⟨z, its, r, ob, k _ _ (.inl rfl) e, c⟩
  | dK kvs => obtain ⟨z, y, vs, r, ob, es, ep, e, c⟩ := x; exact ⟨z, y, vs, r, ob, es, ep, k _ _ (.inl rfl) e, c⟩
  | dT kvs =>
    obtain ⟨z, y, xs, r, ob, es, ep, e, c⟩ := x
    exact ⟨z, y, xs, Paired.mapP r fun p q z => ⟨z.1, ht _ _ z.2.1, z.2.2⟩, ob, es, ep, k _ _ (.inl rfl) e, c⟩
  | set S n => obtain ⟨ob, es, ep, t, e, c⟩ := x; exact ⟨ob, es, ep, t, k _ _ (.inl rfl) e, c⟩
  | ins C dx fs =>
    obtain ⟨d, z, ne, e, mA, ⟨od, es, ep, e2, c⟩, r⟩ := x
    exact ⟨ho _ d, z, ne, k _ _ (.inl rfl) e, mA, ⟨od, es, ep, k _ _ (.inr d) e2, c⟩, r⟩
  | own y => obtain ⟨ob, e⟩ := x; exact ⟨ob, k _ _ (.inl rfl) e⟩
  | xd fs => obtain ⟨mA, ⟨od, es, ep, e, c⟩, r⟩ := x; exact ⟨mA, ⟨od, es, ep, k _ _ (.inl rfl) e, c⟩, r⟩
  | rng lo hi => obtain ⟨t, u, v, e⟩ := x; exact ⟨t, u, v, k _ _ (.inl rfl) e⟩
  | frz ob u ih => obtain ⟨e, q⟩ := x; exact ⟨k _ _ (.inl rfl) e, ih q⟩
  | tbl ps =>
    have e : h.get? a = some { cls := .none, data := .fields ps } := x
    show h'.get? a = some { cls := .none, data := .fields ps }
    exact k a _ (.inl rfl) e
  | met f y =>
    have e : h.get? a = some (PySem.W.methodObj (.ref f) (.ref y)) := x
    show h'.get? a = some (PySem.W.methodObj (.ref f) (.ref y))
    exact k a _ (.inl rfl) e
  | ext φ => obtain ⟨p, ⟨o, e⟩, st⟩ := x; exact ⟨st _ _ p fun o q => k _ _ (.inl rfl) q, ⟨o, k _ _ (.inl rfl) e⟩, st⟩
theorem HOk.lt (x : HOk P w H h) (e : H a = some o) : a < h.objs.size := (x a o e).lt
theorem HOk.fresh (x : HOk P w H h) (e : h.objs.size ≤ a) : H a = none := by
  cases q : H a with
  | none => rfl
  | some u => exact absurd (Nat.lt_of_lt_of_le (x.lt q) e) (Nat.lt_irrefl _)
/-- every object of the heap is kept -/
theorem HOk.kept (x : HOk P w H h) (k : ∀ b u, h.get? b = some u → h'.get? b = some u) : HOk P w H h' := fun a o e =>
  (x a o e).stay (fun b u _ q => k b u q) (fun _ q => q) fun _ _ q => q
/-- a new object is laid and tracked -/
theorem HOk.laid (x : HOk P w H h) (k : ∀ b u, h.get? b = some u → h'.get? b = some u) (hp : h.objs.size ≤ a) (new : ObjOk P w (upd H a o) h' a o) : HOk P w (upd H a o) h' := fun b u e => by
  have hn := x.fresh hp
  by_cases hb : b = a
  · subst hb; rw [upd_same] at e; cases e; exact new
  · rw [upd_ne hb] at e
    exact (x b u e).stay (fun c v _ q => k c v q) (fun c q => by rw [upd_ne (ne_of_none q hn)]; exact q) fun c xs q => by rw [upd_ne (ne_of_none q hn)]; exact q
end

/-- what may be read as u: it is u, or a known u -/
noncomputable def Rd (H : Hp) (a : Addr) (u : HO) : Prop := H a = some u ∨ ∃ o, H a = some (.frz o u)
theorem Rd.ok {P : Program} {w : World} {H : Hp} {h : Heap} {a : Addr} {u : HO} (r : Rd H a u) (x : HOk P w H h) : ObjOk P w H h a u := by
  rcases r with r | ⟨o, r⟩
  · exact x a u r
  · obtain ⟨_, q⟩ := x a _ r
    exact q
/-- what may be written -/
noncomputable def Mut : Option HO → Prop
  | some (.lst _) => True
  | some (.dK _) => True
  | some (.dT _) => True
  | some (.set _ _) => True
  | some (.ins _ _ _) => True
  | some (.ext _) => True
  | _ => False
section
variable {P : Program} {w : World} {H : Hp} {h h' : Heap} {x e : Addr} {o' : HO}
/-- the object at e is changed: x itself, or the dict of the instance x -/
theorem HOk.write (ok : HOk P w H h) (mu : Mut (H x)) (he : e = x ∨ H e = some (.own x)) (k : ∀ b u, b ≠ e → h.get? b = some u → h'.get? b = some u) (heo : ∃ u, h'.get? e = some u)
    (new : ObjOk P w (upd H x o') h' x o') : HOk P w (upd H x o') h' := fun b u q => by
  have nown : ∀ c y, H c = some (.own y) → c ≠ x := fun c y r z => by subst z; rw [r] at mu; exact mu
  have ntup : ∀ c xs, H c = some (.tup xs) → c ≠ x := fun c xs r z => by subst z; rw [r] at mu; exact mu
  by_cases hb : b = x
  · subst hb; rw [upd_same] at q; cases q; exact new
  · rw [upd_ne hb] at q
    by_cases hbe : b = e
    · have q' : H b = some (.own x) := by
        rcases he with z | z
        · exact absurd (hbe.trans z) hb
        · rw [hbe]; exact z
      rw [q] at q'; cases q'
      obtain ⟨v, hv⟩ := heo
      exact ⟨v, by rw [hbe]; exact hv⟩
    · refine (ok b u q).stay (fun c v hc r => k c v ?_ r) (fun c r => by rw [upd_ne (nown c b r)]; exact r) fun c xs r => by rw [upd_ne (ntup c xs r)]; exact r
      rcases hc with rfl | hc
      · exact hbe
      · rintro rfl
        rcases he with z | z
        · exact nown c b hc z
        · rw [hc] at z; cases z; exact hb rfl
end

/-! ### kept unless tracked; of the frames at fs (the callers') the slots may change (an exception that passes writes there); of the records at ex (iterators) nothing is said -/
structure Un (fs ex : List Addr) (H H' : Hp) (h h' : Heap) : Prop where
  keep : ∀ b o, h.get? b = some o → H b = none → b ∉ fs → b ∉ ex → h'.get? b = some o
  slot : ∀ b o, h.get? b = some o → H b = none → b ∈ fs → b ∉ ex → ∃ sl, h'.get? b = some { o with slots := sl }
  free : ∀ b o, h.get? b = some o → H b = none → b ∉ ex → H' b = none
  there : ∀ b o, h.get? b = some o → b ∉ ex → ∃ o', h'.get? b = some o'
  tups : ∀ b xs, H b = some (.tup xs) → H' b = some (.tup xs)
  frzs : ∀ b o u, H b = some (.frz o u) → H' b = some (.frz o u)
  tbls : ∀ b ps, H b = some (.tbl ps) → ∃ more, H' b = some (.tbl (ps ++ more))
section
variable {fs fs' ex ex' : List Addr} {H H1 H2 : Hp} {h h1 h2 h' : Heap} {a x e : Addr} {o : HO}
theorem Un.any (u : Un fs ex H H1 h h1) {b : Addr} {ob : Obj} (q : h.get? b = some ob) (n : H b = none) (hx : b ∉ ex) : ∃ sl, h1.get? b = some { ob with slots := sl } := by
  by_cases hb : b ∈ fs
  · exact u.slot b ob q n hb hx
  · exact ⟨ob.slots, u.keep b ob q n hb hx⟩
theorem Un.kept (k : ∀ b u, h.get? b = some u → h'.get? b = some u) : Un fs ex H H h h' :=
  ⟨fun b ob q _ _ _ => k b ob q, fun b ob q _ _ _ => ⟨ob.slots, k b ob q⟩, fun _ _ _ n _ => n, fun b ob q _ => ⟨ob, k b ob q⟩, fun _ _ q => q, fun _ _ _ q => q, fun _ ps q => ⟨#[], by rw [q]; simp⟩⟩
theorem Un.refl : Un fs ex H H h h := Un.kept fun _ _ q => q
theorem Un.laid (k : ∀ b u, h.get? b = some u → h'.get? b = some u) (hp : h.objs.size ≤ a) (hn : H a = none) : Un fs ex H (upd H a o) h h' where
  keep := fun b u q _ _ _ => k b u q
  slot := fun b u q _ _ _ => ⟨u.slots, k b u q⟩
  free := fun b u q n _ => by rw [upd_ne (Nat.ne_of_lt (Nat.lt_of_lt_of_le (Heap.lt_size q) hp))]; exact n
  there := fun b u q _ => ⟨u, k b u q⟩
  tups := fun b xs q => by rw [upd_ne (ne_of_none q hn)]; exact q
  frzs := fun b u xs q => by rw [upd_ne (ne_of_none q hn)]; exact q
  tbls := fun b ps q => ⟨#[], by rw [upd_ne (ne_of_none q hn), q]; simp⟩
theorem Un.write (mu : Mut (H x)) (he : e = x ∨ H e = some (.own x)) (k : ∀ b u, b ≠ e → h.get? b = some u → h'.get? b = some u) (heo : ∃ u, h'.get? e = some u) : Un fs ex H (upd H x o) h h' := by
  have hx : ∀ b, H b = none → b ≠ x := fun b n z => by subst z; rw [n] at mu; exact mu
  have hb : ∀ b, H b = none → b ≠ e := fun b n z => by
    subst z
    rcases he with r | r
    · exact hx b n r
    · rw [n] at r; cases r
  have hm : ∀ b u, H b = some u → ¬ Mut (some u) → b ≠ x := fun b u q nm z => by subst z; rw [q] at mu; exact nm mu
  refine ⟨fun b u q n _ _ => k b u (hb b n) q, fun b u q n _ _ => ⟨u.slots, k b u (hb b n) q⟩, fun b u q n _ => by rw [upd_ne (hx b n)]; exact n, fun b u q _ => ?_,
    fun b xs q => by rw [upd_ne (hm b _ q fun z => z)]; exact q, fun b u xs q => by rw [upd_ne (hm b _ q fun z => z)]; exact q, fun b ps q => ⟨#[], by rw [upd_ne (hm b _ q fun z => z), q]; simp⟩⟩
  by_cases hbe : b = e
  · subst hbe; exact heo
  · exact ⟨u, k b u hbe q⟩
end

/-! ### the heap without what is tracked -/
noncomputable def trk (h : Heap) (H : Hp) : List Addr := (List.range h.objs.size).filter fun a => (H a).isSome
noncomputable def hidT (h : Heap) (H : Hp) : Heap := PySem.W.hideAll h (trk h H)
theorem hidT_size (h : Heap) (H : Hp) : (hidT h H).objs.size = h.objs.size := PySem.W.hideAll_size _ _
theorem hidT_get {h : Heap} {H : Hp} {b : Addr} {o : Obj} (e : h.get? b = some o) (n : H b = none) : (hidT h H).get? b = some o :=
  PySem.W.hideAll_get _ e fun hm => by
    have q : (H b).isSome = true := (List.mem_filter.mp hm).2
    rw [n] at q; simp at q
theorem of_hidT {h : Heap} {H : Hp} {b : Addr} {o : Obj} (e : (hidT h H).get? b = some o) : h.get? b = some o ∧ H b = none := by
  have e' : h.get? b = some o := PySem.W.of_hideAll (trk h H) e
  refine ⟨e', ?_⟩
  cases q : H b with
  | none => rfl
  | some x =>
    have hm : b ∈ trk h H := List.mem_filter.mpr ⟨List.mem_range.mpr (Heap.lt_size e'), by simp [q]⟩
    have z : (hidT h H).get? b = none := PySem.W.hideAll_none (trk h H) hm
    rw [z] at e; cases e

/-! ### OpenK's ledger, filled with every new object but one -/
end L2

namespace L2
open PySem PySem.Spec PyProof.Rows

/-- the module's facts, over the base: the heap at the law's entry without what is tracked there -/
structure Mod (K : PySem.W.Frag) (mg : Str → Option Value) (base : Heap) : Prop where
  kin : K.In base
  glob : base.Ns mainGlobals mg
  blt : ∃ mb, base.Ns builtinsNs mb ∧ ∀ x : Str, x ≠ "__name__" → mb x = bootBuiltins x
  nolimit : base.NoLimit

/-- the context: a def's body (or a comprehension's block) running. base: fixed through the whole law; s₀, H₀: the entry; outer: the frames whose slots others may change (a def's callers); stack: all frames that run;
   ex: iterators that were made ahead of the entry and are walked here (a comprehension's); fn: the names whose cells were made at the entry (a def: all; a comprehension's block: its own); calm: not within an except suite; pn: pins that every state bears; xe: what is wanted of an exception that leaves the code -/
structure Cx where
  prog : Program
  w : World
  K : PySem.W.Frag
  mg : Str → Option Value
  base : Heap
  A : Around
  N : List Str
  s₀ : Shared
  H₀ : Hp
  env : Env
  outer : List Env
  stack : List Env
  ex : List Addr
  fn : Str → Bool
  calm : Bool
  pn : List (Addr × Obj)
  xe : Value → Shared → Prop
/-- the callers' frames -/
noncomputable def frs (l : List Env) : List Addr := l.filterMap (·.frame)
abbrev Cx.fs (X : Cx) : List Addr := frs X.outer

noncomputable def Vis (sc : Scope) (x : Str) : Prop := sc.names.lookup x = some .local ∨ sc.names.lookup x = some .cell ∨ sc.names.lookup x = some .free
noncomputable def Loc (sc : Scope) (x : Str) : Prop := sc.names.lookup x = some .local ∨ sc.names.lookup x = some .cell
noncomputable def Look (env : Env) (h : Heap) (m : Str → Option Value) (x : Str) (u : Value) : Prop :=
  (env.kindOf x = some .local ∧ m x = some u) ∨ ((env.kindOf x = some .cell ∨ env.kindOf x = some .free) ∧ ∃ c, env.cells.lookup x = some c ∧ h.IsCell c (some u))

structure Cx.Ok (X : Cx) : Prop where
  mod : Mod X.K X.mg X.base
  kind : X.env.scope.kind = .function
  glob : X.env.globals = mainGlobals
  blt : X.env.builtins = builtinsNs
  above : X.s₀.heap.objs.size ≤ X.env.locals
  inj : ∀ x y c, X.env.cells.lookup x = some c → X.env.cells.lookup y = some c → x = y
  has : ∀ x, (X.env.kindOf x = some .cell ∨ X.env.kindOf x = some .free) → ∃ c, X.env.cells.lookup x = some c
  cab : ∀ x c, X.fn x = true → X.env.cells.lookup x = some c → X.s₀.heap.objs.size ≤ c
  hd : X.calm = true → X.A.handled = none
  frames : X.A.frames = some X.stack
  stk : X.stack = X.outer ∨ (X.stack = X.env :: X.outer ∧ X.env.frame = some X.env.locals)
  exf : ∀ b ∈ X.ex, b ≠ X.env.locals ∧ ∀ x c, X.env.cells.lookup x = some c → c ≠ b
  bs : ∀ b o, X.base.get? b = some o → X.s₀.heap.get? b = some o ∧ X.H₀ b = none
  bsz : X.base.objs.size ≤ X.s₀.heap.objs.size
  noex : ∀ b o, X.base.get? b = some o → b ∉ X.ex
  exfs : ∀ b ∈ X.ex, b ∉ X.fs
  funs : X.s₀.heap.FunFrames X.base X.outer
  frf : ∀ b ∈ X.fs, X.H₀ b = none

structure Inv (X : Cx) (pins : List (Addr × Obj)) (σ : List (Option V)) (H : Hp) (s : Shared) : Prop where
  ok : X.Ok
  os : s.os = X.s₀.os
  bare : AllBare s.gens
  base : Un X.fs X.ex X.H₀ H X.s₀.heap s.heap
  loc : ∃ m, s.heap.Ns X.env.locals m ∧ ∀ (i : Nat) (x : Str) (v : V), X.N[i]? = some x → σ[i]? = some (some v) → Vis X.env.scope x → ∃ u, RelV v u ∧ Look X.env s.heap m x u
  cell : ∀ x c, X.env.cells.lookup x = some c → ∃ v, s.heap.IsCell c v
  free : H X.env.locals = none
  freeC : ∀ x c, X.env.cells.lookup x = some c → H c = none
  pin : ∀ p ∈ X.pn ++ pins, s.heap.get? p.1 = some p.2 ∧ H p.1 = none ∧ p.1 ≠ X.env.locals ∧ p.1 ∉ X.fs ∧ ∀ v, p.2.data ≠ .cell v
  hok : HOk X.prog X.w H s.heap
  len : σ.length = X.N.length

section
variable {X : Cx} {pins : List (Addr × Obj)} {σ : List (Option V)} {H H' : Hp} {s : Shared} {h' : Heap}

theorem Cx.Ok.nofr (ok : X.Ok) {b : Addr} {o : Obj} (e : X.base.get? b = some o) : b ∉ X.fs := fun hb => by
  have := (ok.funs.mem hb).1
  rw [e] at this; cases this
theorem Inv.bs (I : Inv X pins σ H s) : ∀ b o, X.base.get? b = some o → s.heap.get? b = some o ∧ H b = none := fun b o e =>
  ⟨I.base.keep b o (I.ok.bs b o e).1 (I.ok.bs b o e).2 (I.ok.nofr e) (I.ok.noex b o e), I.base.free b o (I.ok.bs b o e).1 (I.ok.bs b o e).2 (I.ok.noex b o e)⟩
theorem Inv.bk (I : Inv X pins σ H s) : ∀ b o, X.base.get? b = some o → s.heap.get? b = some o := fun b o e => (I.bs b o e).1
theorem Inv.mod (I : Inv X pins σ H s) : Mod X.K X.mg X.base := I.ok.mod
theorem Inv.kIn (I : Inv X pins σ H s) : X.K.In s.heap := I.ok.mod.kin.keeps I.bk
theorem Inv.lt (I : Inv X pins σ H s) : X.env.locals < s.heap.objs.size := let ⟨_, hn, _⟩ := I.loc; hn.lt
theorem Inv.sz (I : Inv X pins σ H s) : X.s₀.heap.objs.size ≤ s.heap.objs.size := Nat.le_trans I.ok.above (Nat.le_of_lt I.lt)
theorem Inv.nofs (I : Inv X pins σ H s) {a : Addr} (h : s.heap.objs.size ≤ a) : a ∉ X.fs := fun hb => by
  obtain ⟨_, o, ho, _⟩ := I.ok.funs.mem hb
  exact absurd (Nat.lt_of_lt_of_le (Heap.lt_size ho) (Nat.le_trans I.sz h)) (Nat.lt_irrefl _)
theorem Inv.cne (I : Inv X pins σ H s) : ∀ x c, X.env.cells.lookup x = some c → c ≠ X.env.locals := fun x c e z => by
  obtain ⟨v, o, ho, hd⟩ := I.cell x c e
  obtain ⟨m, ⟨o', es, ep, ho', hd', _⟩, _⟩ := I.loc
  rw [z, ho'] at ho; cases ho; rw [hd'] at hd; cases hd
theorem Inv.funs (I : Inv X pins σ H s) : s.heap.FunFrames X.base X.outer := by
  have all : ∀ (l : List Env), (∀ b ∈ frs l, b ∈ X.fs) → X.s₀.heap.FunFrames X.base l → s.heap.FunFrames X.base l := by
    intro l
    induction l with
    | nil => intro _ _; trivial
    | cons env r ih =>
      intro hs hl
      obtain ⟨hk, ⟨L, o, hf, hn, ho, hd⟩, hr⟩ := hl
      have hL : L ∈ X.fs := hs L (by unfold frs; rw [List.filterMap_cons, hf]; exact List.mem_cons_self)
      obtain ⟨sl, e⟩ := I.base.slot L o ho (I.ok.frf L hL) hL fun z => I.ok.exfs L z hL
      exact ⟨hk, ⟨L, _, hf, hn, e, hd⟩, ih (fun b hb => hs b (by unfold frs; rw [List.filterMap_cons, hf]; exact List.mem_cons_of_mem _ hb)) hr⟩
  exact all X.outer (fun _ hb => hb) I.ok.funs

/-- the frames that run, for a call -/
theorem Inv.stack (I : Inv X pins σ H s) : s.heap.FunFrames X.base X.stack := by
  rcases I.ok.stk with e | ⟨e, hf⟩
  · rw [e]; exact I.funs
  · rw [e]
    obtain ⟨m, hn, _⟩ := I.loc
    refine .cons (by rw [I.ok.kind]; decide) hf hn ?_ I.funs
    exact Heap.get?_none_of_le (Nat.le_trans I.ok.bsz I.ok.above)
theorem Inv.stkSub (I : Inv X pins σ H s) : ∀ b ∈ frs X.stack, b ∈ X.env.locals :: X.fs := fun b hb => by
  rcases I.ok.stk with e | ⟨e, hf⟩
  · rw [e] at hb; exact List.mem_cons_of_mem _ hb
  · rw [e] at hb
    unfold frs at hb
    rw [List.filterMap_cons, hf] at hb
    exact hb
theorem Inv.stkFree (I : Inv X pins σ H s) : ∀ b ∈ frs X.stack, H b = none := fun b hb => by
  rcases List.mem_cons.mp (I.stkSub b hb) with e | hb
  · rw [e]; exact I.free
  · obtain ⟨_, o, ho, _⟩ := I.ok.funs.mem hb
    exact I.base.free b o ho (I.ok.frf b hb) fun z => I.ok.exfs b z hb

/-- THE STEP: the untracked objects but the frame and the records at ch are kept (the callers' frames up to slots), the frame's map is kept, the new abstract heap is held -/
theorem Inv.step {g' : Array GenState} {t' : Nat} {d' : Drawn} {ch : List Addr} (I : Inv X pins σ H s)
    (hch : ∀ b ∈ ch, (b ∈ X.ex ∨ X.s₀.heap.objs.size ≤ b) ∧ b ≠ X.env.locals ∧ (∀ x c, X.env.cells.lookup x = some c → c ≠ b) ∧ ∀ p ∈ X.pn ++ pins, p.1 ≠ b)
    (keep : ∀ b o, b ≠ X.env.locals → b ∉ X.fs → b ∉ ch → s.heap.get? b = some o → H b = none → h'.get? b = some o)
    (slot : ∀ b o, b ≠ X.env.locals → b ∈ X.fs → b ∉ ch → s.heap.get? b = some o → H b = none → ∃ sl, h'.get? b = some { o with slots := sl }) (free : ∀ b o, b ∉ ch → s.heap.get? b = some o → H b = none → H' b = none)
    (there : ∀ b o, b ∉ ch → s.heap.get? b = some o → ∃ o', h'.get? b = some o')
    (tups : ∀ b xs, H b = some (.tup xs) → H' b = some (.tup xs)) (frzs : ∀ b o u, H b = some (.frz o u) → H' b = some (.frz o u)) (tbls : ∀ b ps, H b = some (.tbl ps) → ∃ more, H' b = some (.tbl (ps ++ more)))
    (ns : ∀ m, s.heap.Ns X.env.locals m → h'.Ns X.env.locals m) (hok : HOk X.prog X.w H' h') (hg : AllBare g') :
    Inv X pins σ H' { s with heap := h', gens := g', drawn := d', toks := t' } := by
  have neL : ∀ b o, X.s₀.heap.get? b = some o → b ≠ X.env.locals := fun b o e => Nat.ne_of_lt (Nat.lt_of_lt_of_le (Heap.lt_size e) I.ok.above)
  have neC : ∀ b o, X.s₀.heap.get? b = some o → b ∉ X.ex → b ∉ ch := fun b o e hx hb => by
    rcases (hch b hb).1 with z | z
    · exact hx z
    · exact absurd (Nat.lt_of_lt_of_le (Heap.lt_size e) z) (Nat.lt_irrefl _)
  have cellK : ∀ x c, X.env.cells.lookup x = some c → ∀ v, s.heap.IsCell c v → h'.IsCell c v := fun x c e v ⟨o, ho, hd⟩ => by
    have nch : c ∉ ch := fun z => (hch c z).2.2.1 x c e rfl
    by_cases hc : c ∈ X.fs
    · obtain ⟨sl, q⟩ := slot c o (I.cne x c e) hc nch ho (I.freeC x c e)
      exact ⟨_, q, hd⟩
    · exact ⟨o, keep c o (I.cne x c e) hc nch ho (I.freeC x c e), hd⟩
  refine ⟨I.ok, I.os, hg, ⟨fun b o e n hb hx => ?_, fun b o e n hb hx => ?_, fun b o e n hx => ?_, fun b o e hx => ?_, fun b xs e => tups b xs (I.base.tups b xs e), fun b o xs e => frzs b o xs (I.base.frzs b o xs e), fun b ps e => ?_⟩, ?_, fun x c e => ?_, ?_, fun x c e => ?_, fun p hp => ?_, hok, I.len⟩
  · exact keep b o (neL b o e) hb (neC b o e hx) (I.base.keep b o e n hb hx) (I.base.free b o e n hx)
  · obtain ⟨sl, e1⟩ := I.base.slot b o e n hb hx
    obtain ⟨sl', e2⟩ := slot b _ (neL b o e) hb (neC b o e hx) e1 (I.base.free b o e n hx)
    exact ⟨sl', e2⟩
  · obtain ⟨o', e1⟩ := I.base.there b o e hx
    exact free b o' (neC b o e hx) e1 (I.base.free b o e n hx)
  · obtain ⟨o', e1⟩ := I.base.there b o e hx
    exact there b o' (neC b o e hx) e1
  · obtain ⟨m1, e1⟩ := I.base.tbls b ps e
    obtain ⟨m2, e2⟩ := tbls b _ e1
    exact ⟨m1 ++ m2, by rw [e2, Array.append_assoc]⟩
  · obtain ⟨m, hn, hl⟩ := I.loc
    refine ⟨m, ns m hn, fun i x v e1 e2 e3 => ?_⟩
    obtain ⟨u, r, l⟩ := hl i x v e1 e2 e3
    refine ⟨u, r, ?_⟩
    rcases l with l | ⟨k, c, e, z⟩
    · exact .inl l
    · exact .inr ⟨k, c, e, cellK x c e _ z⟩
  · obtain ⟨v, z⟩ := I.cell x c e
    exact ⟨v, cellK x c e v z⟩
  · obtain ⟨m, ⟨o, _, _, ho, _⟩, _⟩ := I.loc
    exact free _ o (fun z => (hch _ z).2.1 rfl) ho I.free
  · obtain ⟨v, o, ho, hd⟩ := I.cell x c e
    exact free c o (fun z => (hch c z).2.2.1 x c e rfl) ho (I.freeC x c e)
  · obtain ⟨e, n, ne, nf, d⟩ := I.pin p hp
    have nch : p.1 ∉ ch := fun z => (hch p.1 z).2.2.2 p hp rfl
    exact ⟨keep p.1 p.2 ne nf nch e n, free p.1 p.2 nch e n, ne, nf, d⟩
/-- .. where the frame's own object is kept too -/
theorem Inv.un {t' : Nat} (I : Inv X pins σ H s) (u : Un X.fs [] H H' s.heap h') (hok : HOk X.prog X.w H' h') : Inv X pins σ H' { s with heap := h', toks := t' } := by
  obtain ⟨m, ⟨o, es, ep, ho, r⟩, _⟩ := id I.loc
  obtain ⟨sl, hL⟩ := u.any ho I.free (by simp)
  exact I.step (g' := s.gens) (d' := s.drawn) (ch := []) (fun _ z => nomatch z) (fun b o _ hb _ e n => u.keep b o e n hb (by simp)) (fun b o _ hb _ e n => u.slot b o e n hb (by simp)) (fun b o _ e n => u.free b o e n (by simp)) (fun b o _ e => u.there b o e (by simp)) u.tups u.frzs u.tbls (fun m' hm => by
    obtain ⟨o', es', ep', ho', r'⟩ := hm
    rw [ho] at ho'; cases ho'
    exact ⟨_, es', ep', hL, r'⟩) hok I.bare
/-- behind a call (or a comprehension's block): the slots of this frame may have changed too, the records at ch may have turned -/
theorem Inv.call {g' : Array GenState} {t' : Nat} {d' : Drawn} {ch : List Addr} (I : Inv X pins σ H s) (u : Un (frs X.stack) ch H H' s.heap h') (hok : HOk X.prog X.w H' h') (hg : AllBare g')
    (hch : ∀ b ∈ ch, (b ∈ X.ex ∨ X.s₀.heap.objs.size ≤ b) ∧ b ≠ X.env.locals ∧ (∀ x c, X.env.cells.lookup x = some c → c ≠ b) ∧ ∀ p ∈ X.pn ++ pins, p.1 ≠ b) :
    Inv X pins σ H' { s with heap := h', gens := g', drawn := d', toks := t' } := by
  obtain ⟨m, ⟨o, es, ep, ho, r⟩, _⟩ := id I.loc
  obtain ⟨sl, hL⟩ := u.any ho I.free fun z => (hch _ z).2.1 rfl
  exact I.step (ch := ch) hch (fun b o hL hb hc e n => u.keep b o e n (fun z => (List.mem_cons.mp (I.stkSub b z)).elim hL hb) hc) (fun b o _ _ hc e n => u.any e n hc) (fun b o hc e n => u.free b o e n hc) (fun b o hc e => u.there b o e hc) u.tups u.frzs u.tbls (fun m' hm => by
    obtain ⟨o', es', ep', ho', r'⟩ := hm
    rw [ho] at ho'; cases ho'
    exact ⟨_, es', ep', hL, r'⟩) hok hg
/-- an untracked record of ours (an iterator) has turned -/
theorem Inv.turned {t' : Nat} {it : Addr} (I : Inv X pins σ H s) (k : ∀ b o, b ≠ it → s.heap.get? b = some o → h'.get? b = some o) (hn : H it = none) (hL : it ≠ X.env.locals)
    (h1 : it ∈ X.ex ∨ X.s₀.heap.objs.size ≤ it) (h2 : ∀ x c, X.env.cells.lookup x = some c → c ≠ it) (h3 : ∀ p ∈ X.pn ++ pins, p.1 ≠ it) : Inv X pins σ H { s with heap := h', toks := t' } := by
  have nit : ∀ b u, H b = some u → b ≠ it := fun b u e z => by rw [z, hn] at e; cases e
  refine I.step (g' := s.gens) (d' := s.drawn) (ch := [it]) (fun b hb => ?_) (fun b o _ _ hc e _ => k b o (fun z => hc (by simp [z])) e) (fun b o _ _ hc e _ => ⟨o.slots, k b o (fun z => hc (by simp [z])) e⟩) (fun _ _ _ _ n => n)
    (fun b o hc e => ⟨o, k b o (fun z => hc (by simp [z])) e⟩) (fun _ _ e => e) (fun _ _ _ e => e) (fun b ps e => ⟨#[], by rw [e]; simp⟩) (fun m hm => ?_) (fun b u e => ?_) I.bare
  · have e : b = it := by simpa using hb
    subst e
    exact ⟨h1, hL, h2, h3⟩
  · obtain ⟨o, es, ep, ho, r⟩ := hm
    exact ⟨o, es, ep, k _ o (Ne.symm hL) ho, r⟩
  · refine (I.hok b u e).stay (fun c v hc q => k c v ?_ q) (fun _ q => q) fun _ _ q => q
    rcases hc with z | z
    · rw [z]; exact nit b u e
    · exact nit c _ z
theorem Inv.tok (I : Inv X pins σ H s) (t : Nat) : Inv X pins σ H { s with toks := t } := I.un (h' := s.heap) (t' := t) Un.refl I.hok
/-- all objects kept -/
theorem Inv.kept {t' : Nat} (I : Inv X pins σ H s) (k : ∀ b u, s.heap.get? b = some u → h'.get? b = some u) : Inv X pins σ H { s with heap := h', toks := t' } := I.un (Un.kept k) (I.hok.kept k)
/-- a new object laid and tracked -/
theorem Inv.laid {a : Addr} {o : HO} {t' : Nat} (I : Inv X pins σ H s) (k : ∀ b u, s.heap.get? b = some u → h'.get? b = some u) (hp : s.heap.objs.size ≤ a) (new : ObjOk X.prog X.w (upd H a o) h' a o) :
    Inv X pins σ (upd H a o) { s with heap := h', toks := t' } := I.un (Un.laid k hp (I.hok.fresh hp)) (I.hok.laid k hp new)
/-- an object written -/
theorem Inv.write {x e : Addr} {o : HO} {t' : Nat} (I : Inv X pins σ H s) (mu : Mut (H x)) (he : e = x ∨ H e = some (.own x)) (k : ∀ b u, b ≠ e → s.heap.get? b = some u → h'.get? b = some u) (heo : ∃ u, h'.get? e = some u)
    (new : ObjOk X.prog X.w (upd H x o) h' x o) : Inv X pins σ (upd H x o) { s with heap := h', toks := t' } := I.un (Un.write mu he k heo) (I.hok.write mu he k heo new)
/-- forgetting slots, pins -/
theorem Inv.weak {σ' : List (Option V)} (I : Inv X pins σ H s) (hl : σ'.length = σ.length) (w : ∀ (i : Nat) v, σ'[i]? = some (some v) → σ[i]? = some (some v)) : Inv X pins σ' H s :=
  ⟨I.ok, I.os, I.bare, I.base, let ⟨m, hn, hl'⟩ := I.loc; ⟨m, hn, fun i x v e1 e2 e3 => hl' i x v e1 (w i v e2) e3⟩, I.cell, I.free, I.freeC, I.pin, I.hok, hl.trans I.len⟩
theorem Inv.pins_of {pins' : List (Addr × Obj)} (I : Inv X pins σ H s) (h : ∀ p ∈ pins', s.heap.get? p.1 = some p.2 ∧ H p.1 = none ∧ p.1 ≠ X.env.locals ∧ p.1 ∉ X.fs ∧ ∀ v, p.2.data ≠ .cell v) : Inv X pins' σ H s :=
  ⟨I.ok, I.os, I.bare, I.base, I.loc, I.cell, I.free, I.freeC, fun p hp => (List.mem_append.mp hp).elim (fun z => I.pin p (List.mem_append_left _ z)) (h p), I.hok, I.len⟩

theorem nodup_ix {N : List Str} (hN : N.Nodup) {i j : Nat} {x : Str} (a : N[i]? = some x) (b : N[j]? = some x) : i = j := by
  obtain ⟨h1, e1⟩ := List.getElem?_eq_some_iff.mp a
  obtain ⟨h2, e2⟩ := List.getElem?_eq_some_iff.mp b
  exact (List.getElem_inj hN).mp (e1.trans e2.symm)

/-- a name is stored; what changed -/
theorem store_ok2 {M : Model} {A : Around} {E : Value → Shared → Prop} {i : Nat} {x : Str} {v : V} {u : Value} {Q : Unit → Shared → Prop} (I : Inv X pins σ H s) (hN : X.N.Nodup) (hi : X.N[i]? = some x) (hx : Loc X.env.scope x) (r : RelV v u)
    (h : ∀ s', Inv X pins (σ.set i (some v)) H s' → (∃ a, Heap.SameBut a s.heap s'.heap ∧ (a = X.env.locals ∨ X.env.cells.lookup x = some a)) → Q () s') (hf : X.fn x = true ∨ X.env.scope.names.lookup x = some .local := by first | exact .inl rfl | exact .inr rfl | assumption) : wpAny M A (storeName X.env x u) Q E s := by
  obtain ⟨m, hn, hl⟩ := id I.loc
  have hcls : (X.env.scope.kind == .class || (X.env.scope.kind == .module && X.env.locals != X.env.globals)) = false := by rw [I.ok.kind]; rfl
  have hiσ : i < σ.length := by rw [I.len]; exact (List.getElem?_eq_some_iff.mp hi).1
  have cne := I.cne
  have tracked : ∀ {a : Addr} {h' : Heap}, (∃ o, s.heap.get? a = some o ∧ H a = none) → Heap.SameBut a s.heap h' → HOk X.prog X.w H h' := fun {a h'} ha hs b ob e => by
    obtain ⟨_, _, hfree⟩ := ha
    refine (I.hok b ob e).stay (fun c w' hc q => (hs.2 c ?_).trans q) (fun _ q => q) fun _ _ q => q
    rintro rfl
    rcases hc with rfl | hc
    · rw [hfree] at e; cases e
    · rw [hfree] at hc; cases hc
  rcases hx with hk | hk
  · refine wpAny_storeName_local hk hn (fun h' hn' hs => ?_) hcls
    obtain ⟨oL, _, _, hoL, _⟩ := id hn
    refine h _ ⟨I.ok, I.os, I.bare, ⟨fun b o e n hb hx => ?_, fun b o e n hb hx => ?_, I.base.free, fun b o e hx => ?_, I.base.tups, I.base.frzs, I.base.tbls⟩, ⟨_, hn', fun j y v' e1 e2 e3 => ?_⟩, fun y c e => ?_, I.free, I.freeC, fun p hp => ?_, tracked ⟨oL, hoL, I.free⟩ hs, by simpa using I.len⟩ ⟨_, hs, .inl rfl⟩
    · exact (hs.2 b (Nat.ne_of_lt (Nat.lt_of_lt_of_le (Heap.lt_size e) I.ok.above))).trans (I.base.keep b o e n hb hx)
    · obtain ⟨sl, e1⟩ := I.base.slot b o e n hb hx
      exact ⟨sl, (hs.2 b (Nat.ne_of_lt (Nat.lt_of_lt_of_le (Heap.lt_size e) I.ok.above))).trans e1⟩
    · obtain ⟨o', e1⟩ := I.base.there b o e hx
      exact ⟨o', (hs.2 b (Nat.ne_of_lt (Nat.lt_of_lt_of_le (Heap.lt_size e) I.ok.above))).trans e1⟩
    · by_cases hj : j = i
      · subst hj
        rw [hi] at e1; cases e1
        rw [List.getElem?_set_self hiσ] at e2
        cases e2
        exact ⟨u, r, .inl ⟨hk, by simp⟩⟩
      · rw [List.getElem?_set_ne (Ne.symm hj)] at e2
        obtain ⟨u', r', q⟩ := hl j y v' e1 e2 e3
        refine ⟨u', r', ?_⟩
        rcases q with ⟨k, e⟩ | ⟨k, c, e, z⟩
        · refine .inl ⟨k, ?_⟩
          have : y ≠ x := fun e => hj (nodup_ix hN e1 (e ▸ hi))
          simp [this, e]
        · exact .inr ⟨k, c, e, z.sameBut hs (cne y c e)⟩
    · obtain ⟨w', z⟩ := I.cell y c e
      exact ⟨w', z.sameBut hs (cne y c e)⟩
    · obtain ⟨e, n, ne, nf, d⟩ := I.pin p hp
      exact ⟨(hs.2 p.1 ne).trans e, n, ne, nf, d⟩
  · have hfn : X.fn x = true := by
      rcases hf with z | z
      · exact z
      · rw [z] at hk; cases hk
    obtain ⟨c, hc⟩ := I.ok.has x (.inl hk)
    obtain ⟨w', z⟩ := I.cell x c hc
    refine wpAny_storeName_cell I.ok.kind hk hc z (fun h' hc' hs => ?_)
    obtain ⟨oc, hoc, hocd⟩ := id z
    refine h { s with heap := h' } ⟨I.ok, I.os, I.bare, ⟨fun b o e n hb hx => ?_, fun b o e n hb hx => ?_, I.base.free, fun b o e hx => ?_, I.base.tups, I.base.frzs, I.base.tbls⟩, ⟨m, hn.sameBut hs (Ne.symm (cne x c hc)), fun j y v' e1 e2 e3 => ?_⟩, fun y c' e => ?_, I.free, I.freeC, fun p hp => ?_, tracked ⟨oc, hoc, I.freeC x c hc⟩ hs, by simpa using I.len⟩ ⟨c, hs, .inr hc⟩
    · exact (hs.2 b (Nat.ne_of_lt (Nat.lt_of_lt_of_le (Heap.lt_size e) (I.ok.cab x c hfn hc)))).trans (I.base.keep b o e n hb hx)
    · obtain ⟨sl, e1⟩ := I.base.slot b o e n hb hx
      exact ⟨sl, (hs.2 b (Nat.ne_of_lt (Nat.lt_of_lt_of_le (Heap.lt_size e) (I.ok.cab x c hfn hc)))).trans e1⟩
    · obtain ⟨o', e1⟩ := I.base.there b o e hx
      exact ⟨o', (hs.2 b (Nat.ne_of_lt (Nat.lt_of_lt_of_le (Heap.lt_size e) (I.ok.cab x c hfn hc)))).trans e1⟩
    · by_cases hj : j = i
      · subst hj
        rw [hi] at e1; cases e1
        rw [List.getElem?_set_self hiσ] at e2
        cases e2
        exact ⟨u, r, .inr ⟨.inl hk, c, hc, hc'⟩⟩
      · rw [List.getElem?_set_ne (Ne.symm hj)] at e2
        obtain ⟨u', r', q⟩ := hl j y v' e1 e2 e3
        refine ⟨u', r', ?_⟩
        rcases q with q | ⟨k, c', e, z'⟩
        · exact .inl q
        · refine .inr ⟨k, c', e, z'.sameBut hs ?_⟩
          rintro rfl
          exact hj (nodup_ix hN e1 (I.ok.inj _ _ _ e hc ▸ hi))
    · by_cases hcc : c' = c
      · subst hcc; exact ⟨_, hc'⟩
      · obtain ⟨w2, z2⟩ := I.cell y c' e
        exact ⟨w2, z2.sameBut hs hcc⟩
    · obtain ⟨e, n, ne, nf, d⟩ := I.pin p hp
      refine ⟨(hs.2 p.1 ?_).trans e, n, ne, nf, d⟩
      intro q
      rw [q, hoc] at e
      have q' : oc = p.2 := Option.some.inj e
      exact d w' (by rw [← q']; exact hocd)
theorem store_ok {M : Model} {A : Around} {E : Value → Shared → Prop} {i : Nat} {x : Str} {v : V} {u : Value} {Q : Unit → Shared → Prop} (I : Inv X pins σ H s) (hN : X.N.Nodup) (hi : X.N[i]? = some x) (hx : Loc X.env.scope x) (r : RelV v u)
    (h : ∀ s', Inv X pins (σ.set i (some v)) H s' → Q () s') (hf : X.fn x = true ∨ X.env.scope.names.lookup x = some .local := by first | exact .inl rfl | exact .inr rfl | assumption) : wpAny M A (storeName X.env x u) Q E s :=
  store_ok2 I hN hi hx r (fun s' I' _ => h s' I') hf
/-- behind a call or a block, the state as it is -/
theorem Inv.call' {s' : Shared} {ch : List Addr} (I : Inv X pins σ H s) (ho : s'.os = s.os) (u : Un (frs X.stack) ch H H' s.heap s'.heap) (hok : HOk X.prog X.w H' s'.heap) (hg : AllBare s'.gens)
    (hch : ∀ b ∈ ch, (b ∈ X.ex ∨ X.s₀.heap.objs.size ≤ b) ∧ b ≠ X.env.locals ∧ (∀ x c, X.env.cells.lookup x = some c → c ≠ b) ∧ ∀ p ∈ X.pn ++ pins, p.1 ≠ b) : Inv X pins σ H' s' := by
  obtain ⟨h', g', d', t', o'⟩ := s'
  have e : o' = s.os := ho
  subst e
  exact I.call (g' := g') (t' := t') (d' := d') u hok hg hch
end

/-! ### the judgements -/
/-- an exception: its class, its own dict's address (where it has one), the abstract heap behind it -/
abbrev XK := Value → Option Addr → Hp → Prop
abbrev St := List (Option V)
abbrev VK := V → Hp → Prop
/-- an expression's reading; a test's; an argument list's -/
abbrev TE := St → Hp → VK → Prop
abbrev TT := St → Hp → (Bool → Hp → Prop) → Prop
abbrev TA := St → Hp → (List V → Hp → Prop) → Prop
/-- what is wanted behind a statement -/
structure Ends where
  nx : St → Hp → Prop
  rt : VK
  bk : St → Hp → Prop := fun _ _ => False
  ct : St → Hp → Prop := fun _ _ => False
abbrev TS := Ends → St → Hp → Prop

noncomputable def EP (X : Cx) (pins : List (Addr × Obj)) (σ : St) (Q : VK) (u : Value) (s' : Shared) : Prop := ∃ v H', Inv X pins σ H' s' ∧ RelV v u ∧ Q v H'
noncomputable def TP (X : Cx) (pins : List (Addr × Obj)) (σ : St) (Q : Bool → Hp → Prop) (b : Bool) (s' : Shared) : Prop := ∃ H', Inv X pins σ H' s' ∧ Q b H'
noncomputable def AP (X : Cx) (pins : List (Addr × Obj)) (σ : St) (Q : List V → Hp → Prop) (us : List Value) (s' : Shared) : Prop := ∃ vs H', Inv X pins σ H' s' ∧ Vals vs us ∧ Q vs H'
noncomputable def SP (X : Cx) (pins : List (Addr × Obj)) (D : Ends) (f : Flow) (s' : Shared) : Prop :=
  match f with
  | .next => ∃ σ' H', Inv X pins σ' H' s' ∧ D.nx σ' H'
  | .brk => ∃ σ' H', Inv X pins σ' H' s' ∧ D.bk σ' H'
  | .cont => ∃ σ' H', Inv X pins σ' H' s' ∧ D.ct σ' H'
  | .ret u => ∃ v σ' H', Inv X pins σ' H' s' ∧ RelV v u ∧ D.rt v H'

noncomputable def PE (X : Cx) (e : Expr) (t : TE) : Prop :=
  ∀ (pins : List (Addr × Obj)) (s : Shared) (σ : St) (H : Hp) (Q : VK), Inv X pins σ H s → t σ H Q → wpAny (model X.prog X.w) X.A (eval e X.env) (EP X pins σ Q) X.xe s
noncomputable def PT (X : Cx) (e : Expr) (t : TT) : Prop :=
  ∀ (pins : List (Addr × Obj)) (s : Shared) (σ : St) (H : Hp) (Q : Bool → Hp → Prop), Inv X pins σ H s → t σ H Q → wpAny (model X.prog X.w) X.A (isTrue e X.env (eval e X.env)) (TP X pins σ Q) X.xe s
/-- a test whatever its 'whole' is (and, or) -/
noncomputable def PW (X : Cx) (e : Expr) (t : TT) : Prop :=
  ∀ (whole : Sem Value) (pins : List (Addr × Obj)) (s : Shared) (σ : St) (H : Hp) (Q : Bool → Hp → Prop), Inv X pins σ H s → t σ H Q → wpAny (model X.prog X.w) X.A (isTrue e X.env whole) (TP X pins σ Q) X.xe s
theorem PW.pt {X : Cx} {e : Expr} {t : TT} (h : PW X e t) : PT X e t := h _
/-- an argument list (no star), from the left -/
noncomputable def PA (X : Cx) (es : List Expr) (t : TA) : Prop :=
  ∀ (pos : Pos) (pins : List (Addr × Obj)) (s : Shared) (σ : St) (H : Hp) (Q : List V → Hp → Prop), Inv X pins σ H s → t σ H Q → wpAny (model X.prog X.w) X.A (spliced (backTo pos (starEach es X.env))) (AP X pins σ Q) X.xe s
noncomputable def PS (X : Cx) (st : Stmt) (t : TS) : Prop :=
  ∀ (pins : List (Addr × Obj)) (s : Shared) (σ : St) (H : Hp) (D : Ends), Inv X pins σ H s → t D σ H → wpAny (model X.prog X.w) X.A (exec st X.env) (SP X pins D) X.xe s
noncomputable def PSs (X : Cx) (st : List Stmt) (t : TS) : Prop :=
  ∀ (pins : List (Addr × Obj)) (s : Shared) (σ : St) (H : Hp) (D : Ends), Inv X pins σ H s → t D σ H → wpAny (model X.prog X.w) X.A (execs st X.env) (SP X pins D) X.xe s
/-- weaken the end -/
theorem thn {α : Type} {t : Sem α} {Q Q' : α → Shared → Prop} {M : Model} {A : Around} {E : Value → Shared → Prop} {s : Shared} (h : wpAny M A t Q E s) (hQ : ∀ a s, Q a s → Q' a s) : wpAny M A t Q' E s := wpAny_mono h hQ fun _ _ x => x
end L2

namespace L2
open PySem PySem.Spec PyProof.Rows
section
variable {X : Cx}

/-! ### names and constants -/
noncomputable def tVar (i : Nat) : TE := fun σ H Q => ∃ v, σ[i]? = some (some v) ∧ Q v H
noncomputable def tC (v : V) : TE := fun _ H Q => Q v H
theorem pe_var {i : Nat} {x : Str} {pos : Pos} (hN : X.N[i]? = some x) (hv : Vis X.env.scope x) (hd : (x == ("__debug__" : Str)) = false := by decide) (hcd : (x == ("__classdict__" : Str)) = false := by decide) : PE X (.Name x pos) (tVar i) := by
  intro pins s σ H Q I h
  obtain ⟨v, e, h⟩ := h
  obtain ⟨m, hn, hl⟩ := I.loc
  obtain ⟨u, r, l⟩ := hl i x v hN e hv
  have fin : EP X pins σ Q u s := ⟨v, H, I, r, h⟩
  rcases l with ⟨hk, hm⟩ | ⟨hk, c, hc, hcell⟩
  · exact wpAny_Name (wpAny_loadName_local I.ok.kind hk hn hm fin) hd
  · rcases hk with hk | hk
    · exact wpAny_Name (wpAny_loadName_cell I.ok.kind hk hc hcell fin) hd
    · exact wpAny_Name (wpAny_loadName_free I.ok.kind hk hc hcell fin hcd) hd
theorem pe_int {i j pos} : PE X (.Constant (.int i) j pos) (tC (.int i)) := fun _ _ _ H _ I h => wpAny_Constant_int ⟨.int i, H, I.tok _, ⟨_, rfl⟩, h⟩
theorem pe_bl {b j pos} : PE X (.Constant (.bool b) j pos) (tC (.bl b)) := fun _ _ _ H _ I h => Constant_bool ⟨.bl b, H, I, rfl, h⟩
theorem pe_non {j pos} : PE X (.Constant .none j pos) (tC .non) := fun _ _ _ H _ I h => Constant_none ⟨.non, H, I, rfl, h⟩
theorem pe_str {x j pos} : PE X (.Constant (.str x) j pos) (tC (.str x)) := fun _ _ _ H _ I h => Calls.Constant_str ⟨.str x, H, I.tok _, ⟨_, rfl⟩, h⟩

/-- a global name of the def -/
noncomputable def Gl (X : Cx) (x : Str) : Prop := X.env.kindOf x = some .globalImplicit
theorem ld_glob {E : Value → Shared → Prop} {pins : List (Addr × Obj)} {s : Shared} {σ : St} {H : Hp} {x : Str} {u : Value} {pos : Pos} {Q : Value → Shared → Prop} (I : Inv X pins σ H s) (hg : Gl X x) (hm : X.mg x = some u) (h : Q u s)
    (hd : (x == ("__debug__" : Str)) = false := by decide) : wpAny (model X.prog X.w) X.A (eval (.Name x pos) X.env) Q E s :=
  Calls.Name_function_global I.ok.kind hg (Calls.loadGlobal_global (by rw [I.ok.glob]; exact I.mod.glob.keeps I.bk) hm h) hd
theorem ld_blt {E : Value → Shared → Prop} {pins : List (Addr × Obj)} {s : Shared} {σ : St} {H : Hp} {x : Str} {u : Value} {pos : Pos} {Q : Value → Shared → Prop} (I : Inv X pins σ H s) (hg : Gl X x) (hm : X.mg x = none) (hv : bootBuiltins x = some u) (h : Q u s)
    (hn : x ≠ "__name__" := by decide) (hd : (x == ("__debug__" : Str)) = false := by decide) : wpAny (model X.prog X.w) X.A (eval (.Name x pos) X.env) Q E s := by
  obtain ⟨mb, h1, h2⟩ := I.mod.blt
  exact Calls.Name_function_global I.ok.kind hg (Calls.loadGlobal_builtin (by rw [I.ok.glob]; exact I.mod.glob.keeps I.bk) hm (by rw [I.ok.blt]; exact h1.keeps I.bk) ((h2 x hn).trans hv) h) hd
/-- a module's constant, a class, a function, as a value -/
theorem pe_glob {x : Str} {v : V} {u : Value} {pos : Pos} (hg : Gl X x) (hm : X.mg x = some u) (r : RelV v u) (hd : (x == ("__debug__" : Str)) = false := by decide) : PE X (.Name x pos) (tC v) :=
  fun _ _ _ H _ I h => ld_glob I hg hm ⟨v, H, I, r, h⟩ hd
theorem pe_bltn {x : Str} {v : V} {u : Value} {pos : Pos} (hg : Gl X x) (hm : X.mg x = none) (hv : bootBuiltins x = some u) (r : RelV v u) (hn : x ≠ "__name__" := by decide) (hd : (x == ("__debug__" : Str)) = false := by decide) : PE X (.Name x pos) (tC v) :=
  fun _ _ _ H _ I h => ld_blt I hg hm hv ⟨v, H, I, r, h⟩ hn hd

/-! ### arithmetic -/
variable {a b : Expr} {ta tb : TE} {pos : Pos}

/-! ### comparisons -/

/-! ### and, or, not -/
variable {tA tB' : TT} {rest : List Expr}
noncomputable def tAnd (t u : TT) : TT := fun σ H Q => t σ H fun c H1 => if c = true then u σ H1 Q else Q false H1
noncomputable def tOr (t u : TT) : TT := fun σ H Q => t σ H fun c H1 => if c = true then Q true H1 else u σ H1 Q
noncomputable def tNot (t : TT) : TT := fun σ H Q => t σ H fun c H1 => Q (!c) H1
theorem pw_and1 (ha : PT X a tA) : PW X (.BoolOp .And [a] pos) tA := by
  intro wh pins s σ H Q I h
  refine isTrue_and (thn (ha pins s σ H Q I h) fun c s1 e => ?_)
  cases c with
  | true => exact isTrue_and_nil e
  | false => exact e
theorem pw_or1 (ha : PT X a tA) : PW X (.BoolOp .Or [a] pos) tA := by
  intro wh pins s σ H Q I h
  refine isTrue_or (thn (ha pins s σ H Q I h) fun c s1 e => ?_)
  cases c with
  | false => exact isTrue_or_nil e
  | true => exact e
theorem pw_and (ha : PT X a tA) (hb : PW X (.BoolOp .And (b :: rest) pos) tB') : PW X (.BoolOp .And (a :: b :: rest) pos) (tAnd tA tB') := by
  intro wh pins s σ H Q I h
  refine isTrue_and (thn (ha pins s σ H _ I h) fun c s1 ⟨H1, I1, q1⟩ => ?_)
  cases c with
  | true => exact hb wh pins s1 σ H1 Q I1 q1
  | false => exact ⟨H1, I1, q1⟩
theorem pw_or (ha : PT X a tA) (hb : PW X (.BoolOp .Or (b :: rest) pos) tB') : PW X (.BoolOp .Or (a :: b :: rest) pos) (tOr tA tB') := by
  intro wh pins s σ H Q I h
  refine isTrue_or (thn (ha pins s σ H _ I h) fun c s1 ⟨H1, I1, q1⟩ => ?_)
  cases c with
  | true => exact ⟨H1, I1, q1⟩
  | false => exact hb wh pins s1 σ H1 Q I1 q1
theorem pt_not (ha : PT X a tA) : PT X (.UnaryOp .Not a pos) (tNot tA) := by
  intro pins s σ H Q I h
  exact isTrue_not (ha pins s σ H (fun c H1 => Q (!c) H1) I h)
/-- .. as values (bools) -/
noncomputable def tAndV (ta tb : TE) : TE := fun σ H Q => ta σ H fun x H1 => ∃ c, x = .bl c ∧ if c = true then tb σ H1 Q else Q (.bl false) H1
noncomputable def tOrV (ta tb : TE) : TE := fun σ H Q => ta σ H fun x H1 => ∃ c, x = .bl c ∧ if c = true then Q (.bl true) H1 else tb σ H1 Q
noncomputable def tNotV (ta : TE) : TE := fun σ H Q => ta σ H fun x H1 => ∃ c, x = .bl c ∧ Q (.bl (!c)) H1
theorem pe_one {op} {t : TE} (h : PE X a t) : PE X (.BoolOp op [a] pos) t := fun pins s σ H Q I hw => BoolOp_one (h pins s σ H Q I hw)
theorem pe_and (ha : PE X a ta) (hb : PE X (.BoolOp .And (b :: rest) pos) tb) : PE X (.BoolOp .And (a :: b :: rest) pos) (tAndV ta tb) := by
  intro pins s σ H Q I h
  refine BoolOp_and (thn (ha pins s σ H _ I h) fun v s1 ⟨x, H1, I1, r1, q1⟩ => ?_)
  obtain ⟨c, rfl, q1⟩ := q1
  cases r1
  refine wpAny_truthy_bool ?_
  cases c with
  | true => exact hb pins s1 σ H1 Q I1 q1
  | false => exact ⟨.bl false, H1, I1, rfl, q1⟩
theorem pe_or (ha : PE X a ta) (hb : PE X (.BoolOp .Or (b :: rest) pos) tb) : PE X (.BoolOp .Or (a :: b :: rest) pos) (tOrV ta tb) := by
  intro pins s σ H Q I h
  refine BoolOp_or (thn (ha pins s σ H _ I h) fun v s1 ⟨x, H1, I1, r1, q1⟩ => ?_)
  obtain ⟨c, rfl, q1⟩ := q1
  cases r1
  refine wpAny_truthy_bool ?_
  cases c with
  | false => exact hb pins s1 σ H1 Q I1 q1
  | true => exact ⟨.bl true, H1, I1, rfl, q1⟩
theorem pe_not (ha : PE X a ta) : PE X (.UnaryOp .Not a pos) (tNotV ta) := by
  intro pins s σ H Q I h
  refine UnaryOp_ (thn (ha pins s σ H _ I h) fun v s1 ⟨x, H1, I1, r1, q1⟩ => ?_)
  obtain ⟨c, rfl, q1⟩ := q1
  cases r1
  exact not_of (wpAny_truthy_bool ⟨.bl (!c), H1, I1, rfl, q1⟩)
/-- a if t else b -/
noncomputable def tIf (t : TT) (ta tb : TE) : TE := fun σ H Q => t σ H fun c H1 => if c = true then ta σ H1 Q else tb σ H1 Q
theorem pe_ifExp {c : Expr} (hc : PT X c tA) (ha : PE X a ta) (hb : PE X b tb) : PE X (.IfExp c a b pos) (tIf tA ta tb) := by
  intro pins s σ H Q I h
  refine wpAny_IfExp (thn (hc pins s σ H _ I h) fun d s1 ⟨H1, I1, q1⟩ => ?_)
  cases d with
  | true => exact ha pins s1 σ H1 Q I1 q1
  | false => exact hb pins s1 σ H1 Q I1 q1
end
end L2

namespace L2
open PySem PySem.Spec PyProof.Rows

/-! ### a list, a tuple that is read: tracked, frozen, or an object of the module -/
noncomputable def SqL (K : PySem.W.Frag) (H : Hp) (a : Addr) (xs : List V) : Prop :=
  Rd H a (.lst xs) ∨
    ∃ (o : Obj) (its : Array Value) (n : Nat), K.lookup a = some o ∧ o.cls = .type "list" ∧ o.dict = none ∧ o.data = .seq its n ∧ its.size ≤ sizeLine ∧ Vals xs its.toList
noncomputable def SqT (K : PySem.W.Frag) (H : Hp) (a : Addr) (xs : List V) : Prop :=
  Rd H a (.tup xs) ∨
    ∃ (o : Obj) (its : Array Value) (n : Nat), K.lookup a = some o ∧ o.cls = .type "tuple" ∧ o.data = .seq its n ∧ its.size ≤ sizeLine ∧ Vals xs its.toList
noncomputable def absV : Value → Option V
  | .none => some .non
  | .bool b => some (.bl b)
  | .int i _ => some (.int i)
  | .str x _ => some (.str x)
  | .bytes b _ => some (.byt b)
  | .float b _ => some (.flt b)
  | .ref a => some (.ref a)
  | .type n => some (.ty n)
  | _ => none
theorem RelV.abs {x : V} {u : Value} (r : RelV x u) : absV u = some x := by
  cases x with
  | non => cases r; rfl
  | bl _ => cases r; rfl
  | int _ => obtain ⟨t, rfl⟩ := r; rfl
  | str _ => obtain ⟨t, rfl⟩ := r; rfl
  | byt _ => obtain ⟨t, rfl⟩ := r; rfl
  | flt _ => obtain ⟨t, rfl⟩ := r; rfl
  | ref _ => cases r; rfl
  | ty _ => cases r; rfl
theorem RelV.inj {x y : V} {u : Value} (r : RelV x u) (q : RelV y u) : x = y := Option.some.inj (r.abs.symm.trans q.abs)
theorem Vals.inj : ∀ {xs ys : List V} {us : List Value}, Vals xs us → Vals ys us → xs = ys
  | _, _, _, .nil, .nil => rfl
  | _, _, _, .cons r t, .cons r' t' => by rw [r.inj r', Vals.inj t t']
section
variable {X : Cx} {pins : List (Addr × Obj)} {σ : St} {H : Hp} {s : Shared} {a : Addr} {xs ys : List V}
theorem SqL.of {K : PySem.W.Frag} (h : H a = some (.lst xs)) : SqL K H a xs := .inl (.inl h)
theorem SqT.of {K : PySem.W.Frag} (h : H a = some (.tup xs)) : SqT K H a xs := .inl (.inl h)
theorem Inv.list (I : Inv X pins σ H s) (h : SqL X.K H a xs) : ∃ its : List Value, Vals xs its ∧ PlainL s.heap a its.toArray ∧ xs.length ≤ sizeLine := by
  rcases h with h | ⟨o, its, n, hk, hc, hd, hs, hz, r⟩
  · obtain ⟨z, its, n, r, e⟩ := h.ok I.hok
    exact ⟨its, r, ⟨_, n, e, rfl, rfl, rfl⟩, z⟩
  · refine ⟨its.toList, r, ⟨o, n, I.kIn a o hk, hc, hd, by simpa using hs⟩, ?_⟩
    have e := r.length
    simp only [Array.length_toList] at e
    omega
theorem Inv.tuple (I : Inv X pins σ H s) (h : SqT X.K H a xs) : ∃ its : List Value, Vals xs its ∧ IsTup s.heap a its.toArray ∧ xs.length ≤ sizeLine := by
  rcases h with h | ⟨o, its, n, hk, hc, hs, hz, r⟩
  · obtain ⟨z, its, r, p⟩ := h.ok I.hok
    exact ⟨its, r, p, z⟩
  · refine ⟨its.toList, r, ⟨o, I.kIn a o hk, hc, n, by simpa using hs⟩, ?_⟩
    have e := r.length
    simp only [Array.length_toList] at e
    omega
theorem Inv.list_inj (I : Inv X pins σ H s) (h : SqL X.K H a xs) (h' : SqL X.K H a ys) : xs = ys := by
  obtain ⟨its, r, ⟨o, n, e, _, _, d⟩, _⟩ := I.list h
  obtain ⟨its', r', ⟨o', n', e', _, _, d'⟩, _⟩ := I.list h'
  rw [e] at e'; cases e'
  rw [d] at d'
  injection d' with d1 _
  have : its = its' := by simpa using congrArg Array.toList d1
  subst this
  exact r.inj r'
theorem Inv.tuple_inj (I : Inv X pins σ H s) (h : SqT X.K H a xs) (h' : SqT X.K H a ys) : xs = ys := by
  obtain ⟨its, r, ⟨o, e, _, n, d⟩, _⟩ := I.tuple h
  obtain ⟨its', r', ⟨o', e', _, n', d'⟩, _⟩ := I.tuple h'
  rw [e] at e'; cases e'
  rw [d] at d'
  injection d' with d1 _
  have : its = its' := by simpa using congrArg Array.toList d1
  subst this
  exact r.inj r'
end

/-! ### another wish about exceptions -/
abbrev Cx.wish (X : Cx) (E : Value → Shared → Prop) : Cx := { X with xe := E }
/-- no exception leaves -/
abbrev Cx.nox (X : Cx) : Cx := X.wish fun _ _ => False
theorem Cx.Ok.wish {X : Cx} (ok : X.Ok) (E : Value → Shared → Prop) : (X.wish E).Ok :=
  ⟨ok.mod, ok.kind, ok.glob, ok.blt, ok.above, ok.inj, ok.has, ok.cab, ok.hd, ok.frames, ok.stk, ok.exf, ok.bs, ok.bsz, ok.noex, ok.exfs, ok.funs, ok.frf⟩
theorem Cx.Ok.unwish {X : Cx} {E : Value → Shared → Prop} (ok : (X.wish E).Ok) : X.Ok :=
  ⟨ok.mod, ok.kind, ok.glob, ok.blt, ok.above, ok.inj, ok.has, ok.cab, ok.hd, ok.frames, ok.stk, ok.exf, ok.bs, ok.bsz, ok.noex, ok.exfs, ok.funs, ok.frf⟩
section
variable {X : Cx} {pins : List (Addr × Obj)} {σ : St} {H : Hp} {s : Shared} {E : Value → Shared → Prop}
theorem Inv.wish (I : Inv X pins σ H s) (E : Value → Shared → Prop) : Inv (X.wish E) pins σ H s := ⟨I.ok.wish E, I.os, I.bare, I.base, I.loc, I.cell, I.free, I.freeC, I.pin, I.hok, I.len⟩
theorem Inv.unwish (I : Inv (X.wish E) pins σ H s) : Inv X pins σ H s := ⟨I.ok.unwish, I.os, I.bare, I.base, I.loc, I.cell, I.free, I.freeC, I.pin, I.hok, I.len⟩
theorem SP.unwish {D : Ends} {f : Flow} {s' : Shared} (h : SP (X.wish E) pins D f s') : SP X pins D f s' := by
  cases f with
  | next => obtain ⟨σ', H', I, q⟩ := h; exact ⟨σ', H', I.unwish, q⟩
  | brk => obtain ⟨σ', H', I, q⟩ := h; exact ⟨σ', H', I.unwish, q⟩
  | cont => obtain ⟨σ', H', I, q⟩ := h; exact ⟨σ', H', I.unwish, q⟩
  | ret u => obtain ⟨v, σ', H', I, r, q⟩ := h; exact ⟨v, σ', H', I.unwish, r, q⟩
end

/-! ### blocks and small statements -/
section
variable {X : Cx} {st : Stmt} {rest : List Stmt} {t u : TS} {e : Expr} {te : TE} {pos : Pos}
noncomputable def tNext : TS := fun D σ H => D.nx σ H
noncomputable def tSeq (t u : TS) : TS := fun D σ H => t { D with nx := u D } σ H
theorem pss_nil : PSs X [] tNext := fun _ _ σ H _ I h => wpAny_execs_nil ⟨σ, H, I, h⟩
theorem pss_cons (h1 : PS X st t) (h2 : PSs X rest u) : PSs X (st :: rest) (tSeq t u) := by
  intro pins s σ H D I h
  refine wpAny_execs_cons (thn (h1 pins s σ H { D with nx := u D } I h) fun f s1 q => ?_)
  cases f with
  | next =>
    obtain ⟨σ', H', I', q⟩ := q
    exact h2 pins s1 σ' H' D I' q
  | ret v => exact q
  | brk => exact q
  | cont => exact q
theorem pss_one (h1 : PS X st t) : PSs X [st] t := by
  intro pins s σ H D I h
  refine wpAny_execs_cons (thn (h1 pins s σ H D I h) fun f s1 q => ?_)
  cases f with
  | next => exact wpAny_execs_nil q
  | ret v => exact q
  | brk => exact q
  | cont => exact q
theorem ps_pass : PS X (.Pass pos) tNext := fun _ _ σ H _ I h => wpAny_Pass ⟨σ, H, I, h⟩
/-- in a def's body nothing is shown -/
theorem Inv.quiet {pins : List (Addr × Obj)} {σ : St} {H : Hp} {s : Shared} (I : Inv X pins σ H s) : interactive X.env = false := by simp [interactive, I.ok.kind]
/-- a docstring -/
theorem ps_doc {x j pos pos'} : PS X (.Expr (.Constant (.str x) j pos) pos') tNext := fun _ s σ H _ I h => wpAny_Expr (Calls.Constant_str (show SP X _ _ .next { s with toks := s.toks + 1 } from ⟨σ, H, I.tok _, h⟩)) I.quiet
/-- an expression whose value is dropped -/
noncomputable def tDrop (te : TE) : TS := fun D σ H => te σ H fun _ H1 => D.nx σ H1
theorem ps_expr (he : PE X e te) (hs : swapsWith e none pos.line X.env = pure false := by rfl) : PS X (.Expr e pos) (tDrop te) := by
  intro pins s σ H D I h
  exact wpAny_Expr_any (thn (he pins s σ H _ I h) fun v s1 ⟨x, H1, I1, r1, q1⟩ => ⟨σ, H1, I1, q1⟩) I.quiet hs
noncomputable def tRet (te : TE) : TS := fun D σ H => te σ H D.rt
theorem ps_ret (he : PE X e te) : PS X (.Return (some e) pos) (tRet te) := by
  intro pins s σ H D I h
  exact wpAny_Return_some (thn (he pins s σ H _ I h) fun v s1 ⟨x, H1, I1, r1, q1⟩ => ⟨x, σ, H1, I1, r1, q1⟩)
noncomputable def tRetN : TS := fun D _ H => D.rt .non H
theorem ps_retN : PS X (.Return none pos) tRetN := fun _ _ σ H _ I h => wpAny_Return_none ⟨.non, σ, H, I, rfl, h⟩
noncomputable def tIfS (c : TT) (t u : TS) : TS := fun D σ H => c σ H fun b H1 => if b = true then t D σ H1 else u D σ H1
theorem ps_if {c : Expr} {a b : List Stmt} {tc : TT} (hc : PT X c tc) (ha : PSs X a t) (hb : PSs X b u) : PS X (.If c a b pos) (tIfS tc t u) := by
  intro pins s σ H D I h
  refine wpAny_If (thn (hc pins s σ H _ I h) fun d s1 ⟨H1, I1, q1⟩ => ?_)
  cases d with
  | true => exact ha pins s1 σ H1 D I1 q1
  | false => exact hb pins s1 σ H1 D I1 q1
/-- code that the proof never comes to -/
noncomputable def tNever : TS := fun _ _ _ => False
theorem ps_never : PS X st tNever := fun _ _ _ _ _ _ h => h.elim
end

/-! ### targets -/
abbrev TG := V → St → Hp → (St → Hp → Prop) → Prop
abbrev TGs := List V → St → Hp → (St → Hp → Prop) → Prop
noncomputable def PG (X : Cx) (target : Expr) (t : TG) : Prop :=
  ∀ (pins : List (Addr × Obj)) (s : Shared) (σ : St) (H : Hp) (v : V) (u : Value) (Q : St → Hp → Prop), Inv X pins σ H s → RelV v u → t v σ H Q →
    wpAny (model X.prog X.w) X.A (assign target X.env u) (fun _ s' => ∃ σ' H', Inv X pins σ' H' s' ∧ Q σ' H') X.xe s
/-- several targets, one after another -/
noncomputable def PGs (X : Cx) (ts : List Expr) (t : TGs) : Prop :=
  ∀ (pins : List (Addr × Obj)) (s : Shared) (σ : St) (H : Hp) (vs : List V) (us : List Value) (Q : St → Hp → Prop), Inv X pins σ H s → Vals vs us → t vs σ H Q →
    wpAny (model X.prog X.w) X.A (assignInOrder ((assignEach ts X.env).map (·.2)) us) (fun _ s' => ∃ σ' H', Inv X pins σ' H' s' ∧ Q σ' H') X.xe s
section
variable {X : Cx} {pos : Pos}
noncomputable def gName (i : Nat) : TG := fun v σ H Q => Q (σ.set i (some v)) H
theorem pg_name {i : Nat} {x : Str} (hN : X.N.Nodup) (hi : X.N[i]? = some x) (hx : Loc X.env.scope x) (hf : X.fn x = true ∨ X.env.scope.names.lookup x = some .local := by first | exact .inl rfl | exact .inr rfl | assumption) : PG X (.Name x pos) (gName i) := by
  intro pins s σ H v u Q I r h
  exact wpAny_assign_Name (store_ok I hN hi hx r (fun s' I' => ⟨_, H, I', h⟩) hf)
noncomputable def gNil : TGs := fun vs σ H Q => vs = [] ∧ Q σ H
noncomputable def gCons (t : TG) (u : TGs) : TGs := fun vs σ H Q => ∃ v r, vs = v :: r ∧ t v σ H fun σ' H' => u r σ' H' Q
theorem pgs_nil : PGs X [] gNil := by
  intro pins s σ H vs us Q I r h
  obtain ⟨e, h⟩ := h
  subst e
  cases r
  exact assignInOrder_nil ⟨σ, H, I, h⟩
theorem pgs_cons {e : Expr} {es : List Expr} {t : TG} {u : TGs} (h1 : PG X e t) (h2 : PGs X es u)
    (hs : (assignEach (e :: es) X.env).map (·.2) = assign e X.env :: (assignEach es X.env).map (·.2) := by rfl) : PGs X (e :: es) (gCons t u) := by
  intro pins s σ H vs us Q I r h
  obtain ⟨v, vr, e1, h⟩ := h
  subst e1
  cases r with
  | cons r rr =>
    rw [hs]
    refine assignInOrder_cons (thn (h1 pins s σ H _ _ _ I r h) fun _ s1 ⟨σ1, H1, I1, q1⟩ => ?_)
    exact h2 pins s1 σ1 H1 _ _ Q I1 rr q1
/-- (a, b, ..) = a tuple of that length -/
noncomputable def gTup (K : PySem.W.Frag) (n : Nat) (t : TGs) : TG := fun v σ H Q => ∃ a xs, v = .ref a ∧ SqT K H a xs ∧ xs.length = n ∧ t xs σ H Q
theorem pg_tup {es : List Expr} {k : Nat} {t : TGs} {n : Nat} (hc : X.calm = true) (h : PGs X es t)
    (hn : (assignEach es X.env).length = n := by rfl) (hst : (assignEach es X.env).findIdx? (·.1) = none := by rfl) : PG X (.Tuple es k pos) (gTup X.K n t) := by
  intro pins s σ H v u Q I r hw
  obtain ⟨a, xs, e1, hq, hl, hw⟩ := hw
  subst e1
  cases r
  obtain ⟨its, rv, ht, hz⟩ := I.tuple hq
  refine assign_Tuple_tuple (I.ok.hd hc) ht (by simp [hn, ← hl, rv.length]) hst fun h' hx => ?_
  have I1 : Inv X pins σ H { s with heap := h' } := I.kept (t' := s.toks) fun b o e => hx b o (Nat.ne_of_lt (Heap.lt_size e)) e
  exact h pins _ σ H xs _ Q I1 (by simpa using rv) hw
/-- target = value -/
noncomputable def tAsg (te : TE) (g : TG) : TS := fun D σ H => te σ H fun x H1 => g x σ H1 D.nx
theorem ps_asg {tg e : Expr} {te : TE} {g : TG} (he : PE X e te) (hg : PG X tg g) (hs : swapsWithSole [tg] e pos.line X.env = pure false := by rfl) (hw : swappedStores [tg] e X.env = pure none := by rfl)
    (h1 : (assignEach [tg] X.env).map (·.2) = [assign tg X.env] := by rfl) : PS X (.Assign [tg] e pos) (tAsg te g) := by
  intro pins s σ H D I h
  refine wpAny_Assign_stores (thn (he pins s σ H _ I h) fun v s1 ⟨x, H1, I1, r1, q1⟩ => ?_) hs hw
  rw [h1]
  exact thn (hg pins s1 σ H1 x v _ I1 r1 q1) fun _ s2 q => q
end

/-! ### while -/
section
variable {X : Cx} {pos : Pos}
end

/-! ### what a loop or a comprehension walks -/
/-- at turn i: it yields x (the heap may grow), or it stops -/
structure It where
  go : Nat → Hp → Prop
  yld : Nat → Hp → V → Hp → Prop
  stop : Nat → Hp → Prop
/-- the iterator's own objects may turn: they are not the frame's, not pinned, younger than the entry (or a comprehension's own) -/
noncomputable def FpOk (X : Cx) (pins : List (Addr × Obj)) (H : Hp) (b : Addr) : Prop :=
  H b = none ∧ b ≠ X.env.locals ∧ b ∉ X.fs ∧ (b ∈ X.ex ∨ X.s₀.heap.objs.size ≤ b) ∧ (∀ x c, X.env.cells.lookup x = some c → c ≠ b) ∧ ∀ p ∈ X.pn ++ pins, p.1 ≠ b
theorem Inv.fpOk {X : Cx} {pins : List (Addr × Obj)} {σ : St} {H H' : Hp} {s : Shared} {b : Addr} (I : Inv X pins σ H s) (hb : s.heap.objs.size ≤ b) (hn : H' b = none) : FpOk X pins H' b := by
  refine ⟨hn, Nat.ne_of_gt (Nat.lt_of_lt_of_le I.lt hb), I.nofs hb, .inr (Nat.le_trans I.sz hb), fun x c e z => ?_, fun p hp z => ?_⟩
  · obtain ⟨v, q⟩ := I.cell x c e
    exact absurd (Nat.lt_of_lt_of_le q.lt (by rw [z]; exact hb)) (Nat.lt_irrefl _)
  · exact absurd (Nat.lt_of_lt_of_le (Heap.lt_size (I.pin p hp).1) (by rw [z]; exact hb)) (Nat.lt_irrefl _)
structure Turn (P : Program) (w : World) (K : PySem.W.Frag) (tg : Expr) (J : It) (fp : List Addr) (it : Addr) (tn : Nat → Heap → Prop) : Prop where
  mem : it ∈ fp
  obj : ∀ i h, tn i h → ∀ b ∈ fp, ∃ o, h.get? b = some o ∧ ∀ v, o.data ≠ .cell v
  keep : ∀ i h h', tn i h → (∀ b ∈ fp, ∀ o, h.get? b = some o → h'.get? b = some o) → tn i h'
  item : ∀ (X : Cx), X.prog = P → X.w = w → X.K = K → X.calm = true → ∀ (i : Nat) (pins : List (Addr × Obj)) (s : Shared) (σ : St) (H : Hp) (E : Value → Shared → Prop), Inv X pins σ H s → (∀ b ∈ fp, FpOk X pins H b) → tn i s.heap → J.go i H →
    wpAny (model P w) X.A (pyNext (.ref it)) (fun r s1 => ∃ u, r = some u ∧
      wpAny (model P w) X.A (letOwnedTupleGo tg (.ref it) u) (fun _ s2 => ∃ x H', Inv X pins σ H' s2 ∧ RelV x u ∧ J.yld i H x H' ∧ tn (i + 1) s2.heap ∧ ∀ b ∈ fp, H' b = none) E s1) E s
  done : ∀ (X : Cx), X.prog = P → X.w = w → X.K = K → X.calm = true → ∀ (i : Nat) (pins : List (Addr × Obj)) (s : Shared) (σ : St) (H : Hp) (E : Value → Shared → Prop), Inv X pins σ H s → (∀ b ∈ fp, FpOk X pins H b) → tn i s.heap → J.stop i H →
    wpAny (model P w) X.A (pyNext (.ref it)) (fun r s1 => r = none ∧ Inv X pins σ H s1) E s
  self : ∀ (A : Around) (i : Nat) (s : Shared) (Q : Value → Shared → Prop) (E : Value → Shared → Prop), tn i s.heap → Q (.ref it) s → wpAny (model P w) A (pyIter (.ref it)) Q E s
abbrev TI := St → Hp → (It → Hp → Prop) → Prop
/-- an iterator has come -/
noncomputable def PIE (X : Cx) (pins : List (Addr × Obj)) (σ : St) (tg : Expr) (R : It → Hp → Prop) (itv : Value) (s2 : Shared) : Prop :=
  ∃ (it : Addr) (fp : List Addr) (tn : Nat → Heap → Prop) (J : It) (H' : Hp), itv = .ref it ∧ Inv X pins σ H' s2 ∧ Turn X.prog X.w X.K tg J fp it tn ∧ tn 0 s2.heap ∧ (∀ b ∈ fp, FpOk X pins H' b) ∧ R J H'
noncomputable def PI (X : Cx) (tg iter : Expr) (wi : TI) : Prop :=
  ∀ (pins : List (Addr × Obj)) (s : Shared) (σ : St) (H : Hp) (R : It → Hp → Prop), Inv X pins σ H s → wi σ H R →
    wpAny (model X.prog X.w) X.A (eval iter X.env) (fun v s1 => wpAny (model X.prog X.w) X.A (pyIter v) (PIE X pins σ tg R) X.xe s1) X.xe s

/-- the step ahead of the store is nothing for an iterator that keeps no tuple -/
theorem go_of {M : Model} {A : Around} {E : Value → Shared → Prop} {s : Shared} {tg : Expr} {it : Addr} {u : Value} {o : Obj} {n : String} {vs : Array Value} {Q : Unit → Shared → Prop} (ho : s.heap.get? it = some o) (hc : o.cls = .type n) (hd : o.data = .fields vs)
    (hn : ["enumerate", "zip", "dict_itemiterator", "dict_reverseitemiterator", "odict_iterator", "itertools.zip_longest", "itertools.pairwise"].contains n = false) (hQ : Q () s) : wpAny M A (letOwnedTupleGo tg (.ref it) u) Q E s := by
  unfold letOwnedTupleGo
  cases tg <;> first
    | exact wpAny_pure hQ
    | (cases u <;> first
        | exact wpAny_pure hQ
        | (refine wpAny_bind (wpAny_load ho ?_)
           rw [hc, hd]
           show wpAny M A (if (["enumerate", "zip", "dict_itemiterator", "dict_reverseitemiterator", "odict_iterator", "itertools.zip_longest", "itertools.pairwise"].contains n && vs[0]? == some (rawInt _)) = true then _ else _) Q E s
           rw [if_neg (by intro h; rw [hn, Bool.false_and] at h; cases h)]
           exact wpAny_pure hQ))

/-- the list at a, as it stands at each turn (a loop may append to it) -/
noncomputable def Itl (K : PySem.W.Frag) (a : Addr) : It :=
  ⟨fun i H => ∃ xs x, SqL K H a xs ∧ xs[i]? = some x, fun i H x H' => H' = H ∧ ∀ xs, SqL K H a xs → xs[i]? = some x, fun i H => ∃ xs, SqL K H a xs ∧ xs.length ≤ i⟩
noncomputable def Itt (K : PySem.W.Frag) (a : Addr) : It :=
  ⟨fun i H => ∃ xs x, SqT K H a xs ∧ xs[i]? = some x, fun i H x H' => H' = H ∧ ∀ xs, SqT K H a xs → xs[i]? = some x, fun i H => ∃ xs, SqT K H a xs ∧ xs.length ≤ i⟩
/-- lo, lo + 1, .. (n of them) -/
noncomputable def Itr (lo : Int) (n : Nat) : It := ⟨fun i _ => i < n, fun i H x H' => H' = H ∧ x = .int (lo + i), fun i _ => n ≤ i⟩
theorem turn_list {P : Program} {w : World} {K : PySem.W.Frag} {tg : Expr} (a it : Addr) : Turn P w K tg (Itl K a) [it] it (fun i h => h.IsListIter it a i) where
  mem := by simp
  obj := fun i h st b hb => by
    have e : b = it := by simpa using hb
    subst e
    obtain ⟨o, e, c, d⟩ := st
    exact ⟨o, e, fun v z => by rw [d] at z; cases z⟩
  keep := fun i h h' st k => st.at fun o e => k it (by simp) o e
  item := by
    intro X hP hw hK hc i pins s σ H E I hf st hg
    subst hP hw hK
    obtain ⟨xs, x, hq, hx⟩ := hg
    obtain ⟨its, rv, p, hz⟩ := I.list hq
    obtain ⟨u, hu, ru⟩ := rv.get hx
    obtain ⟨f0, f1, f2, f3, f4, f5⟩ := hf it (by simp)
    refine wpAny_pyNext_list_item st p.isList (x := u) (by simpa using hu) fun h' st' sb => ?_
    have I1 : Inv X pins σ H { s with heap := h' } := I.turned (t' := s.toks) (fun b o hb e => (sb.2 b hb).trans e) f0 f1 f3 f4 f5
    obtain ⟨o, e, c, d⟩ := id st'
    exact ⟨u, rfl, go_of (s := { s with heap := h' }) e c d (by decide) ⟨x, H, I1, ru, ⟨rfl, fun ys hy => by rw [I.list_inj hy hq]; exact hx⟩, st', fun b hb => (hf b hb).1⟩⟩
  done := by
    intro X hP hw hK hc i pins s σ H E I hf st hg
    subst hP hw hK
    obtain ⟨xs, hq, hx⟩ := hg
    obtain ⟨its, rv, p, hz⟩ := I.list hq
    obtain ⟨f0, f1, f2, f3, f4, f5⟩ := hf it (by simp)
    have hl := rv.length
    exact wpAny_pyNext_list_end (I.ok.hd hc) st p.isList (by simp; omega) fun h' eb => ⟨rfl, I.turned (t' := s.toks) (fun b o hb e => eb b o hb e) f0 f1 f3 f4 f5⟩
  self := fun _ _ _ _ _ st h => wpAny_pyIter_listiter st h
theorem turn_tuple {P : Program} {w : World} {K : PySem.W.Frag} {tg : Expr} (a it : Addr) : Turn P w K tg (Itt K a) [it] it (fun i h => h.IsTupleIter it a i) where
  mem := by simp
  obj := fun i h st b hb => by
    have e : b = it := by simpa using hb
    subst e
    obtain ⟨o, e, c, d⟩ := st
    exact ⟨o, e, fun v z => by rw [d] at z; cases z⟩
  keep := fun i h h' st k => st.at fun o e => k it (by simp) o e
  item := by
    intro X hP hw hK hc i pins s σ H E I hf st hg
    subst hP hw hK
    obtain ⟨xs, x, hq, hx⟩ := hg
    obtain ⟨its, rv, p, hz⟩ := I.tuple hq
    obtain ⟨u, hu, ru⟩ := rv.get hx
    obtain ⟨f0, f1, f2, f3, f4, f5⟩ := hf it (by simp)
    refine wpAny_pyNext_tuple_item st (show s.heap.IsTuple a its.toArray from p) (x := u) (by simpa using hu) fun h' st' sb => ?_
    have I1 : Inv X pins σ H { s with heap := h' } := I.turned (t' := s.toks) (fun b o hb e => (sb.2 b hb).trans e) f0 f1 f3 f4 f5
    obtain ⟨o, e, c, d⟩ := id st'
    exact ⟨u, rfl, go_of (s := { s with heap := h' }) e c d (by decide) ⟨x, H, I1, ru, ⟨rfl, fun ys hy => by rw [I.tuple_inj hy hq]; exact hx⟩, st', fun b hb => (hf b hb).1⟩⟩
  done := by
    intro X hP hw hK hc i pins s σ H E I hf st hg
    subst hP hw hK
    obtain ⟨xs, hq, hx⟩ := hg
    obtain ⟨its, rv, p, hz⟩ := I.tuple hq
    obtain ⟨f0, f1, f2, f3, f4, f5⟩ := hf it (by simp)
    have hl := rv.length
    exact wpAny_pyNext_tuple_end (I.ok.hd hc) st (show s.heap.IsTuple a its.toArray from p) (by simp; omega) fun h' eb => ⟨rfl, I.turned (t' := s.toks) (fun b o hb e => eb b o hb e) f0 f1 f3 f4 f5⟩
  self := fun _ _ _ _ _ st h => wpAny_pyIter_tupleiter st h
theorem turn_range {P : Program} {w : World} {K : PySem.W.Frag} {tg : Expr} (it : Addr) (lo : Int) (n : Nat) : Turn P w K tg (Itr lo n) [it] it (fun i h => IsRangeIter h it (lo + (i : Nat) * 1) ((n : Int) - (i : Nat)) 1) where
  mem := by simp
  obj := fun i h st b hb => by
    have e : b = it := by simpa using hb
    subst e
    exact ⟨_, st, fun v z => by
      have z' : Data.fields _ = Data.cell v := z
      cases z'⟩
  keep := fun i h h' st k => k it (by simp) _ st
  item := by
    intro X hP hw hK hc i pins s σ H E I hf st hg
    subst hP hw hK
    obtain ⟨f0, f1, f2, f3, f4, f5⟩ := hf it (by simp)
    have W := Walks.range (prog := X.prog) (w := X.w) (I.ok.hd hc) it lo 1 n
    refine W.item i s _ _ hg st fun v h' tk hv st' kk => ?_
    obtain ⟨t, rfl⟩ := hv
    have I1 : Inv X pins σ H { s with heap := h', toks := tk } := I.turned (fun b o hb e => kk b o (by simpa using hb) e) f0 f1 f3 f4 f5
    refine ⟨_, rfl, go_of (s := { s with heap := h', toks := tk }) (n := "range_iterator") st' rfl rfl (by decide) ⟨.int (lo + i), H, I1, ⟨t, ?_⟩, ⟨rfl, rfl⟩, st', fun b hb => (hf b hb).1⟩⟩
    rw [Int.mul_one]
  done := by
    intro X hP hw hK hc i pins s σ H E I hf st hg
    subst hP hw hK
    obtain ⟨f0, f1, f2, f3, f4, f5⟩ := hf it (by simp)
    exact wpAny_pyNext_range_end (I.ok.hd hc) st (by have : n ≤ i := hg; omega) fun h' eb => ⟨rfl, I.turned (t' := s.toks) (fun b o hb e => eb b o hb e) f0 f1 f3 f4 f5⟩
  self := fun _ _ _ _ _ st h => wpAny_pyIter_rangeiter st h
end L2

namespace L2
open PySem PySem.Spec PyProof.Rows
section
variable {X : Cx} {tg : Expr}
/-- a range object just made, walked -/
theorem range_it {pins : List (Addr × Obj)} {σ : St} {H : Hp} {s : Shared} {R : It → Hp → Prop} {E : Value → Shared → Prop} {lo hi : Int} {t u v : Tok} {tk : Nat} (I : Inv X pins σ H s) (h1 : -(2 ^ 62) ≤ lo) (h2 : lo < 2 ^ 62) (h3 : -(2 ^ 62) ≤ hi) (h4 : hi < 2 ^ 62)
    (q : R (Itr lo (hi - lo).toNat) H) : wpAny (model X.prog X.w) X.A (pyIter (.ref s.heap.objs.size)) (PIE X pins σ tg R) E { s with heap := s.heap.push { cls := .type "range", data := .fields #[.int lo t, .int hi u, .int 1 v] }, toks := tk } := by
  refine wpAny_pyIter_range (IsRange.new ..) (small_one h1 h2 h3 h4) ?_
  have I1 : Inv X pins σ H { s with heap := s.heap.push { cls := .type "range", data := .fields #[.int lo t, .int hi u, .int 1 v] }, toks := tk } := I.kept fun b o e => Heap.get?_push_of_some _ e
  refine ⟨(s.heap.push { cls := .type "range", data := .fields #[.int lo t, .int hi u, .int 1 v] }).objs.size, [(s.heap.push { cls := .type "range", data := .fields #[.int lo t, .int hi u, .int 1 v] }).objs.size], _, _, H, rfl,
    I1.kept (t' := tk) fun b o e => Heap.get?_push_of_some _ e, turn_range _ lo (hi - lo).toNat, ?_, fun b hb => ?_, q⟩
  · have e1 : lo + ((0 : Nat) : Int) * 1 = lo := by simp
    have e2 : (((hi - lo).toNat : Nat) : Int) - ((0 : Nat) : Int) = Builtin.Range.rangeSize lo hi 1 := by rw [rangeSize_one]; split <;> omega
    show IsRangeIter _ _ (lo + ((0 : Nat) : Int) * 1) ((((hi - lo).toNat : Nat) : Int) - ((0 : Nat) : Int)) 1
    rw [e1, e2]
    exact Heap.get?_push_size _ rfl
  · have e : b = (s.heap.push { cls := .type "range", data := .fields #[.int lo t, .int hi u, .int 1 v] }).objs.size := by simpa using hb
    subst e
    exact I1.fpOk (Nat.le_refl _) (I1.hok.fresh (Nat.le_refl _))
noncomputable def iRng1 (ta : TA) : TI := fun σ H R => ta σ H fun vs H1 => ∃ j : Int, vs = [.int j] ∧ -(2 ^ 62) ≤ j ∧ j < 2 ^ 62 ∧ R (Itr 0 j.toNat) H1
noncomputable def iRng2 (ta : TA) : TI := fun σ H R => ta σ H fun vs H1 => ∃ i j : Int, vs = [.int i, .int j] ∧ (-(2 ^ 62) ≤ i ∧ i < 2 ^ 62 ∧ -(2 ^ 62) ≤ j ∧ j < 2 ^ 62) ∧ R (Itr i (j - i).toNat) H1
theorem pi_range1 {a : Expr} {ta : TA} {p pos : Pos} (hg : Gl X "range") (hm : X.mg "range" = none) (ha : PA X [a] ta) (hs : starEach [a] X.env = [(false, eval a X.env)] := by rfl) : PI X tg (.Call (.Name "range" p) [a] [] pos) (iRng1 ta) := by
  intro pins s σ H R I h
  refine Call_ (ld_blt I hg hm boot_range (PyProof.Rows.callWith_type1 (thn (ha pos pins s σ H _ I h) fun us s1 ⟨vs, H1, I1, r1, q1⟩ => ?_) hs rfl))
  obtain ⟨j, e, q1, q2, q⟩ := q1
  subst e
  cases r1 with
  | cons r rr =>
    cases rr
    obtain ⟨t, rfl⟩ := r
    exact call_range_1 (range_it I1 (by omega) (by omega) q1 q2 (by simpa using q))
theorem pi_range2 {a b : Expr} {ta : TA} {p pos : Pos} (hg : Gl X "range") (hm : X.mg "range" = none) (ha : PA X [a, b] ta) (hs : starEach [a, b] X.env = [(false, eval a X.env), (false, eval b X.env)] := by rfl) (hs2 : starEach [b] X.env = [(false, eval b X.env)] := by rfl) :
    PI X tg (.Call (.Name "range" p) [a, b] [] pos) (iRng2 ta) := by
  intro pins s σ H R I h
  refine Call_ (ld_blt I hg hm boot_range (PyProof.Rows.callWith_type1 (thn (ha pos pins s σ H _ I h) fun us s1 ⟨vs, H1, I1, r1, q1⟩ => ?_) (by rw [hs, hs2]) (by rw [hs2]; rfl)))
  obtain ⟨i, j, e, ⟨q1, q2, q3, q4⟩, q⟩ := q1
  subst e
  cases r1 with
  | cons r rr =>
    cases rr with
    | cons r' rr =>
      cases rr
      obtain ⟨t, rfl⟩ := r
      obtain ⟨t', rfl⟩ := r'
      exact call_range_2 (range_it I1 q1 q2 q3 q4 q)

/-! ### for -/
/-- W: the invariant by the turn and a measure; N: what the body is to reach -/
noncomputable def tFor (wi : TI) (g : TG) (tb : TS) : TS := fun D σ H => wi σ H fun J H1 => ∃ W : Nat → Nat → St → Hp → Prop, (∃ m, W 0 m σ H1) ∧ ∀ i m σ H, W i m σ H →
  (J.stop i H ∧ D.nx σ H) ∨ (J.go i H ∧ ∃ N : St → Hp → Prop, (∀ σ' H', N σ' H' → ∃ m', m' < m ∧ W (i + 1) m' σ' H') ∧ ∀ x H', J.yld i H x H' → g x σ H' fun σ2 H2 => tb { D with nx := N, ct := N, bk := D.nx } σ2 H2)
/-- the records at fp as they stand -/
noncomputable def pinsAt (fp : List Addr) (h : Heap) : List (Addr × Obj) := fp.filterMap fun b => (h.get? b).map fun o => (b, o)
theorem mem_pinsAt {fp : List Addr} {h : Heap} {b : Addr} {o : Obj} (hb : b ∈ fp) (e : h.get? b = some o) : (b, o) ∈ pinsAt fp h := List.mem_filterMap.mpr ⟨b, hb, by rw [e]; rfl⟩
theorem of_pinsAt {fp : List Addr} {h : Heap} {p : Addr × Obj} (hp : p ∈ pinsAt fp h) : p.1 ∈ fp ∧ h.get? p.1 = some p.2 := by
  obtain ⟨b, hb, e⟩ := List.mem_filterMap.mp hp
  cases q : h.get? b with
  | none => rw [q] at e; cases e
  | some o =>
    rw [q] at e
    have e' : (b, o) = p := Option.some.inj e
    subst e'
    exact ⟨hb, q⟩
theorem Inv.pinned {pins : List (Addr × Obj)} {σ : St} {H : Hp} {s : Shared} {fp : List Addr} (I : Inv X pins σ H s) (hf : ∀ b ∈ fp, FpOk X pins H b) (ho : ∀ b ∈ fp, ∃ o, s.heap.get? b = some o ∧ ∀ v, o.data ≠ .cell v) : Inv X (pins ++ pinsAt fp s.heap) σ H s :=
  I.pins_of fun p hp => (List.mem_append.mp hp).elim (fun z => I.pin p (List.mem_append_right _ z)) fun z => by
    obtain ⟨hb, e⟩ := of_pinsAt z
    obtain ⟨f0, f1, f2, _⟩ := hf p.1 hb
    obtain ⟨o, e', d⟩ := ho p.1 hb
    rw [e] at e'; cases e'
    exact ⟨e, f0, f1, f2, d⟩
theorem Inv.unpinned {pins pl : List (Addr × Obj)} {σ : St} {H : Hp} {s : Shared} (I : Inv X (pins ++ pl) σ H s) : Inv X pins σ H s := I.pins_of fun p hp => I.pin p (List.mem_append_right _ (List.mem_append_left _ hp))
theorem ps_for {iter : Expr} {body : List Stmt} {wi : TI} {g : TG} {tb : TS} {pos : Pos} (hp : PassesOwn (model X.prog X.w) X.A X.env X.xe) (hc : X.calm = true) (hi : PI X tg iter wi) (hg : PG X tg g) (hb : PSs X body tb)
    (hs : ∀ x, foldedSetIterable iter X.env x = pure x := by intro _; rfl) : PS X (.For tg iter body [] pos) (tFor wi g tb) := by
  intro pins s σ H D I h
  refine wpAny_For (thn (hi pins s σ H _ I h) fun v s1 h1 => thn h1 fun itv s2 h2 => ?_) hs
  obtain ⟨it, fp, tn, J, H2, e, I2, T, st2, f2, W, ⟨m0, w0⟩, turn⟩ := h2
  subst e
  -- what stays true of the iterator's objects through the loop
  have stat : ∀ {H' : Hp}, (∀ b ∈ fp, H' b = none) → ∀ b ∈ fp, FpOk X pins H' b := fun hn b hb => ⟨hn b hb, (f2 b hb).2⟩
  refine codeAny_forLoop_any (fun n s' => ∃ i σ' H', Inv X pins σ' H' s' ∧ tn i s'.heap ∧ (∀ b ∈ fp, H' b = none) ∧ W i n σ' H') ?_ m0 ⟨0, σ, H2, I2, st2, fun b hb => (f2 b hb).1, w0⟩
  rintro n s3 ⟨i, σ3, H3, I3, st3, fr3, w3⟩
  rcases turn i n σ3 H3 w3 with ⟨stop, qn⟩ | ⟨go, N, hN, step⟩
  · refine wpAny_passesOwn hp (thn (T.done X rfl rfl rfl hc i pins s3 σ3 H3 X.xe I3 (stat fr3) st3 stop) fun r s4 ⟨hr, I4⟩ => ?_)
    subst hr
    exact wpAny_execs_nil ⟨σ3, H3, I4, qn⟩
  · refine wpAny_passesOwn hp (thn (T.item X rfl rfl rfl hc i pins s3 σ3 H3 X.xe I3 (stat fr3) st3 go) fun r s4 ⟨u, hr, h4⟩ => ?_)
    subst hr
    refine wpAny_passesOwn hp (thn h4 fun _ s5 ⟨x, H5, I5, r5, y5, st5, fr5⟩ => ?_)
    have I5' := I5.pinned (stat fr5) (T.obj _ _ st5)
    refine wpAny_passesOwn hp (thn (hg _ s5 σ3 H5 x u _ I5' r5 (step x H5 y5)) fun _ s6 ⟨σ6, H6, I6, q6⟩ => ?_)
    refine wpAny_passesOwn hp (thn (hb _ s6 σ6 H6 _ I6 q6) fun f s7 q7 => ?_)
    have again : ∀ {σ7 : St} {H7 : Hp}, Inv X (pins ++ pinsAt fp s5.heap) σ7 H7 s7 → N σ7 H7 → ∃ m, m < n ∧ ∃ i σ' H', Inv X pins σ' H' s7 ∧ tn i s7.heap ∧ (∀ b ∈ fp, H' b = none) ∧ W i m σ' H' := fun {σ7 H7} I7 n7 => by
      obtain ⟨m', hm, w7⟩ := hN σ7 H7 n7
      refine ⟨m', hm, i + 1, σ7, H7, I7.unpinned, T.keep _ _ _ st5 fun b hb o e => (I7.pin (b, o) (List.mem_append_right _ (List.mem_append_right _ (mem_pinsAt hb e)))).1, fun b hb => ?_, w7⟩
      obtain ⟨o, e, d⟩ := T.obj _ _ st5 b hb
      exact (I7.pin (b, o) (List.mem_append_right _ (List.mem_append_right _ (mem_pinsAt hb e)))).2.1
    cases f with
    | next => obtain ⟨σ7, H7, I7, n7⟩ := q7; exact again I7 n7
    | cont => obtain ⟨σ7, H7, I7, n7⟩ := q7; exact again I7 n7
    | brk => obtain ⟨σ7, H7, I7, q7⟩ := q7; exact ⟨σ7, H7, I7.unpinned, q7⟩
    | ret v => obtain ⟨x7, σ7, H7, I7, r7, q7⟩ := q7; exact ⟨x7, σ7, H7, I7.unpinned, r7, q7⟩
end

/-! ### the forms one uses -/
end L2

namespace L2
open PySem PySem.Spec PyProof.Rows

abbrev R2 := V → V → Hp → VK → Prop
/-- a two-place operation on values: f is binaryOp op, inplaceOp op or compareOp op -/
noncomputable def OpR (X : Cx) (f : Value → Value → Sem Value) (r : R2) : Prop :=
  ∀ (pins : List (Addr × Obj)) (s : Shared) (σ : St) (H : Hp) (x y : V) (v u : Value) (Q : VK), Inv X pins σ H s → RelV x v → RelV y u → r x y H Q →
    wpAny (model X.prog X.w) X.A (f v u) (EP X pins σ Q) X.xe s
/-- a one-place operation -/
noncomputable def UnR (X : Cx) (f : Value → Sem Value) (r : V → Hp → VK → Prop) : Prop :=
  ∀ (pins : List (Addr × Obj)) (s : Shared) (σ : St) (H : Hp) (x : V) (v : Value) (Q : VK), Inv X pins σ H s → RelV x v → r x H Q →
    wpAny (model X.prog X.w) X.A (f v) (EP X pins σ Q) X.xe s
/-- a call of a value that is known (a builtin, a type) with values -/
noncomputable def CallR (X : Cx) (f : Value) (r : List V → Hp → VK → Prop) : Prop :=
  ∀ (pins : List (Addr × Obj)) (s : Shared) (σ : St) (H : Hp) (xs : List V) (us : List Value) (Q : VK), Inv X pins σ H s → Vals xs us → r xs H Q →
    wpAny (model X.prog X.w) X.A (call f us) (EP X pins σ Q) X.xe s
/-- a value's truth -/
noncomputable def TruR (X : Cx) (r : V → Hp → (Bool → Hp → Prop) → Prop) : Prop :=
  ∀ (pins : List (Addr × Obj)) (s : Shared) (σ : St) (H : Hp) (x : V) (v : Value) (Q : Bool → Hp → Prop), Inv X pins σ H s → RelV x v → r x H Q →
    wpAny (model X.prog X.w) X.A (truthy v) (TP X pins σ Q) X.xe s

noncomputable def tOp (r : R2) (ta tb : TE) : TE := fun σ H Q => ta σ H fun x H1 => tb σ H1 fun y H2 => r x y H2 Q
noncomputable def tUn (r : V → Hp → VK → Prop) (ta : TE) : TE := fun σ H Q => ta σ H fun x H1 => r x H1 Q
/-- ints in, under C, and a value out -/
noncomputable def rI (C : Int → Int → Prop) (g : Int → Int → V) : R2 := fun x y H Q => ∃ i j, x = .int i ∧ y = .int j ∧ C i j ∧ Q (g i j) H
noncomputable def rI0 (g : Int → Int → V) : R2 := fun x y H Q => ∃ i j, x = .int i ∧ y = .int j ∧ Q (g i j) H
noncomputable def rU (g : Int → V) : V → Hp → VK → Prop := fun x H Q => ∃ i, x = .int i ∧ Q (g i) H

section
variable {X : Cx} {a b c : Expr} {ta tb tc : TE} {pos : Pos}

theorem binT (ha : PE X a ta) (hb : PE X b tb) {pins : List (Addr × Obj)} {s : Shared} {σ : St} {H : Hp} {R : V → V → Hp → Prop} (I : Inv X pins σ H s)
    (h : ta σ H fun x H1 => tb σ H1 fun y H2 => R x y H2) {Q : Value → Shared → Prop} {f : Value → Value → Sem Value}
    (hf : ∀ v u s2 x y H2, Inv X pins σ H2 s2 → RelV x v → RelV y u → R x y H2 → wpAny (model X.prog X.w) X.A (f v u) Q X.xe s2) :
    wpAny (model X.prog X.w) X.A (eval a X.env) (fun v s₁ => wpAny (model X.prog X.w) X.A (eval b X.env) (fun u s₂ => wpAny (model X.prog X.w) X.A (f v u) Q X.xe s₂) X.xe s₁) X.xe s := by
  refine thn (ha pins s σ H _ I h) fun v s1 ⟨x, H1, I1, r1, q1⟩ => ?_
  refine thn (hb pins s1 σ H1 _ I1 q1) fun u s2 ⟨y, H2, I2, r2, q2⟩ => ?_
  exact hf v u s2 x y H2 I2 r1 r2 q2

theorem pe_op {op : Operator} {r : R2} (ho : OpR X (binaryOp op) r) (ha : PE X a ta) (hb : PE X b tb) : PE X (.BinOp a op b pos) (tOp r ta tb) := by
  intro pins s σ H Q I h
  exact wpAny_BinOp (binT ha hb I h fun v u s2 x y H2 I2 rx ry q => ho pins s2 σ H2 x y v u Q I2 rx ry q)
theorem pe_un {op : UnaryOp} {r : V → Hp → VK → Prop} (ho : UnR X (unaryOp op) r) (ha : PE X a ta) : PE X (.UnaryOp op a pos) (tUn r ta) := by
  intro pins s σ H Q I h
  exact UnaryOp_ (thn (ha pins s σ H _ I h) fun v s1 ⟨x, H1, I1, r1, q1⟩ => ho pins s1 σ H1 x v Q I1 r1 q1)

/-! ### ints -/
theorem opI {f : Value → Value → Sem Value} {C : Int → Int → Prop} {g : Int → Int → Int}
    (rule : ∀ (i j : Int) (t u : Tok) (s : Shared) (Q : Value → Shared → Prop) (E : Value → Shared → Prop), C i j → Q (.int (g i j) s.toks) { s with toks := s.toks + 1 } → wpAny (model X.prog X.w) X.A (f (.int i t) (.int j u)) Q E s) :
    OpR X f (rI C fun i j => .int (g i j)) := by
  intro pins s σ H x y v u Q I rx ry h
  obtain ⟨i, j, rfl, rfl, hc, q⟩ := h
  obtain ⟨t, rfl⟩ := rx
  obtain ⟨t', rfl⟩ := ry
  exact rule i j t t' s _ _ hc ⟨.int (g i j), H, I.tok _, ⟨_, rfl⟩, q⟩
theorem opI0 {f : Value → Value → Sem Value} {g : Int → Int → Int}
    (rule : ∀ (i j : Int) (t u : Tok) (s : Shared) (Q : Value → Shared → Prop) (E : Value → Shared → Prop), Q (.int (g i j) s.toks) { s with toks := s.toks + 1 } → wpAny (model X.prog X.w) X.A (f (.int i t) (.int j u)) Q E s) :
    OpR X f (rI0 fun i j => .int (g i j)) := by
  intro pins s σ H x y v u Q I rx ry h
  obtain ⟨i, j, rfl, rfl, q⟩ := h
  obtain ⟨t, rfl⟩ := rx
  obtain ⟨t', rfl⟩ := ry
  exact rule i j t t' s _ _ ⟨.int (g i j), H, I.tok _, ⟨_, rfl⟩, q⟩
theorem opB0 {f : Value → Value → Sem Value} {g : Int → Int → Bool}
    (rule : ∀ (i j : Int) (t u : Tok) (s : Shared) (Q : Value → Shared → Prop) (E : Value → Shared → Prop), Q (.bool (g i j)) s → wpAny (model X.prog X.w) X.A (f (.int i t) (.int j u)) Q E s) :
    OpR X f (rI0 fun i j => .bl (g i j)) := by
  intro pins s σ H x y v u Q I rx ry h
  obtain ⟨i, j, rfl, rfl, q⟩ := h
  obtain ⟨t, rfl⟩ := rx
  obtain ⟨t', rfl⟩ := ry
  exact rule i j t t' s _ _ ⟨.bl (g i j), H, I, rfl, q⟩

noncomputable def CDiv (i j : Int) : Prop := 0 < j ∧ j < 1073741824
noncomputable def CPow (i j : Int) : Prop := 0 ≤ j ∧ j ≤ 1000000 ∧ i.natAbs < 2 ^ 64
noncomputable def CMul (i j : Int) : Prop := (-(2 ^ 64) < i ∧ i < 2 ^ 64) ∨ (-(2 ^ 64) < j ∧ j < 2 ^ 64)
theorem CMul.ok {i j : Int} (h : CMul i j) : IntMulOk i j := by
  rcases h with ⟨h1, h2⟩ | ⟨h1, h2⟩
  · exact .of_left (intBits_le_64 h1 h2)
  · exact .of_right (intBits_le_64 h1 h2)

theorem op_add : OpR X (binaryOp .Add) (rI0 fun i j => .int (i + j)) := opI0 fun _ _ _ _ _ _ _ q => add_int q
theorem op_sub : OpR X (binaryOp .Sub) (rI0 fun i j => .int (i - j)) := opI0 fun _ _ _ _ _ _ _ q => sub_int q
theorem op_mul : OpR X (binaryOp .Mult) (rI CMul fun i j => .int (i * j)) := opI fun _ _ _ _ _ _ _ hc q => mul_int q hc.ok
/-- // by a positive divisor -/
theorem op_fdiv : OpR X (binaryOp .FloorDiv) (rI CDiv fun i j => .int (i / j)) := opI fun i j _ _ _ _ _ hc q => by
  have h1 : (0 : Int) < j := hc.1
  have h2 : j < 1073741824 := hc.2
  exact floordiv_int (by omega) (by rw [Int.fdiv_eq_ediv_of_nonneg i (by omega)]; exact q) (.inl (PyProof.noPylong_small (by omega)))
/-- % by a positive divisor of any size -/
theorem op_mod : OpR X (binaryOp .Mod) (rI (fun _ j => 0 < j) fun i j => .int (i % j)) := opI fun i j _ _ _ _ _ hc q => by
  have h1 : (0 : Int) < j := hc
  exact mod_int' (by omega) (by rw [Int.fmod_eq_emod_of_nonneg i (by omega)]; exact q)
theorem op_pow : OpR X (binaryOp .Pow) (rI CPow fun i j => .int (i ^ j.toNat)) := opI fun _ _ _ _ _ _ _ hc q => pow_int_small hc.1 hc.2.1 hc.2.2 q

theorem unI {f : Value → Sem Value} {g : Int → Int}
    (rule : ∀ (i : Int) (t : Tok) (s : Shared) (Q : Value → Shared → Prop) (E : Value → Shared → Prop), Q (.int (g i) s.toks) { s with toks := s.toks + 1 } → wpAny (model X.prog X.w) X.A (f (.int i t)) Q E s) :
    UnR X f (rU fun i => .int (g i)) := by
  intro pins s σ H x v Q I rx h
  obtain ⟨i, rfl, q⟩ := h
  obtain ⟨t, rfl⟩ := rx
  exact rule i t s _ _ ⟨.int (g i), H, I.tok _, ⟨_, rfl⟩, q⟩
theorem un_neg : UnR X (unaryOp .USub) (rU fun i => .int (-i)) := unI fun _ _ _ _ _ q => neg_int q

/-! ### bools among ints: n += (a < b) -/
end

/-! ### comparisons -/
/-- the scalars that == tells apart as data does -/
noncomputable def scal : V → V → Bool
  | .non, .non => true | .non, .int _ => true | .int _, .non => true | .non, .bl _ => true | .bl _, .non => true | .non, .str _ => true | .str _, .non => true
  | .int _, .int _ => true | .bl _, .bl _ => true | .str _, .str _ => true | .byt _, .byt _ => true
  | .int _, .str _ => true | .str _, .int _ => true | .bl _, .str _ => true | .str _, .bl _ => true
  | _, _ => false
noncomputable def rNe : R2 := fun x y H Q => scal x y = true ∧ Q (.bl (!decide (x = y))) H

theorem dec_int {i j : Int} : decide (V.int i = V.int j) = (i == j) := by
  rw [Bool.eq_iff_iff]
  simp
theorem dec_bl {i j : Bool} : decide (V.bl i = V.bl j) = (i == j) := by
  rw [Bool.eq_iff_iff]
  simp
theorem dec_str {i j : Str} : decide (V.str i = V.str j) = (i == j) := by
  rw [Bool.eq_iff_iff]
  simp
theorem dec_byt {i j : Array UInt8} : decide (V.byt i = V.byt j) = (i.toList == j.toList) := by
  rw [Bool.eq_iff_iff]
  cases i
  cases j
  simp

section
variable {X : Cx} {a b c : Expr} {ta tb tc : TE} {pos : Pos}
theorem fin_bl {pins : List (Addr × Obj)} {σ : St} {H : Hp} {s : Shared} {Q : VK} {k k' : Bool} (I : Inv X pins σ H s) (q : Q (.bl k) H) (e : k = k') : EP X pins σ Q (.bool k') s := by
  subst e
  exact ⟨.bl k, H, I, rfl, q⟩
theorem op_ne : OpR X (compareOp .NotEq) rNe := by
  intro pins s σ H x y v u Q I rx ry h
  obtain ⟨hs, q⟩ := h
  cases x with
  | non =>
    cases rx
    cases y with
    | non => cases ry; exact PySem.EqNone.ne_none_none (fin_bl I q (by simp))
    | bl j => cases ry; exact PySem.EqNone.ne_none_bool (fin_bl I q (by simp))
    | int j => obtain ⟨t', rfl⟩ := ry; exact PySem.EqNone.ne_none_int (fin_bl I q (by simp))
    | str j => obtain ⟨t', rfl⟩ := ry; exact PySem.EqNone.ne_none_str (fin_bl I q (by simp))
    | _ => exact absurd (show false = true from hs) Bool.false_ne_true
  | bl i =>
    cases rx
    cases y with
    | non => cases ry; exact PySem.EqNone.ne_bool_none (fin_bl I q (by simp))
    | bl j => cases ry; exact ne_bool (fin_bl I q (congrArg not dec_bl))
    | str j => obtain ⟨t', rfl⟩ := ry; exact PySem.EqMixed.ne_bool_str (fin_bl I q (by simp))
    | _ => exact absurd (show false = true from hs) Bool.false_ne_true
  | int i =>
    obtain ⟨t, rfl⟩ := rx
    cases y with
    | non => cases ry; exact PySem.EqNone.ne_int_none (fin_bl I q (by simp))
    | int j => obtain ⟨t', rfl⟩ := ry; exact ne_int (fin_bl I q (congrArg not dec_int))
    | str j => obtain ⟨t', rfl⟩ := ry; exact PySem.EqMixed.ne_int_str (fin_bl I q (by simp))
    | _ => exact absurd (show false = true from hs) Bool.false_ne_true
  | str i =>
    obtain ⟨t, rfl⟩ := rx
    cases y with
    | non => cases ry; exact PySem.EqNone.ne_str_none (fin_bl I q (by simp))
    | bl j => cases ry; exact PySem.EqMixed.ne_str_bool (fin_bl I q (by simp))
    | int j => obtain ⟨t', rfl⟩ := ry; exact PySem.EqMixed.ne_str_int (fin_bl I q (by simp))
    | str j => obtain ⟨t', rfl⟩ := ry; exact ne_str (fin_bl I q (congrArg not dec_str))
    | _ => exact absurd (show false = true from hs) Bool.false_ne_true
  | byt i =>
    obtain ⟨t, rfl⟩ := rx
    cases y with
    | byt j => obtain ⟨t', rfl⟩ := ry; exact PySem.W.ne_bytes (fin_bl I q (congrArg not dec_byt))
    | _ => exact absurd (show false = true from hs) Bool.false_ne_true
  | _ => cases y <;> exact absurd (show false = true from hs) Bool.false_ne_true

theorem op_lt : OpR X (compareOp .Lt) (rI0 fun i j => .bl (decide (i < j))) := opB0 fun _ _ _ _ _ _ _ q => lt_int q
theorem op_le : OpR X (compareOp .LtE) (rI0 fun i j => .bl (decide (i ≤ j))) := opB0 fun _ _ _ _ _ _ _ q => le_int q
theorem op_gt : OpR X (compareOp .Gt) (rI0 fun i j => .bl (decide (j < i))) := opB0 fun _ _ _ _ _ _ _ q => gt_int q
theorem op_ge : OpR X (compareOp .GtE) (rI0 fun i j => .bl (decide (j ≤ i))) := opB0 fun _ _ _ _ _ _ _ q => ge_int q

/-- a comparison as a value; hm: nomark b, or (for in, not in) by with_unfolding_all rfl -/
theorem pe_cmpR {op : CmpOp} {r : R2} (ho : OpR X (compareOp op) r) (ha : PE X a ta) (hb : PE X b tb) (hm : behindInMarks op b = false) : PE X (.Compare a [op] [b] pos) (tOp r ta tb) := by
  intro pins s σ H Q I h
  exact wpAny_Compare1 (binT ha hb I h fun v u s2 x y H2 I2 rx ry q => ho pins s2 σ H2 x y v u Q I2 rx ry q) hm
/-- a reading of a value as a test -/
noncomputable def tTest (t : TE) : TT := fun σ H Q => t σ H fun x H' => ∃ k, x = .bl k ∧ Q k H'
theorem pt_cmpR {op : CmpOp} {r : R2} (ho : OpR X (compareOp op) r) (ha : PE X a ta) (hb : PE X b tb) (hm : behindInMarks op b = false) : PT X (.Compare a [op] [b] pos) (tTest (tOp r ta tb)) := by
  intro pins s σ H Q I h
  refine wpAny_isTrue_Compare1 (thn (ha pins s σ H _ I h) fun v s1 ⟨x, H1, I1, r1, q1⟩ => thn (hb pins s1 σ H1 _ I1 q1) fun u s2 ⟨y, H2, I2, r2, q2⟩ =>
    thn (ho pins s2 σ H2 x y v u _ I2 r1 r2 q2) fun c s3 ⟨z, H3, I3, r3, k, e, q3⟩ => ?_) hm
  subst e
  cases r3
  exact wpAny_truthy_bool ⟨H3, I3, q3⟩
/-- a op1 b op2 c -/
noncomputable def tChain (r r' : R2) (ta tb tc : TE) : TE := fun σ H Q => ta σ H fun x H1 => tb σ H1 fun y H2 => r x y H2 fun z H3 => ∃ k, z = .bl k ∧
  (if k = true then tc σ H3 fun w' H4 => r' y w' H4 Q else Q (.bl false) H3)
theorem pe_chain {op op' : CmpOp} {r r' : R2} (ho : OpR X (compareOp op) r) (ho' : OpR X (compareOp op') r') (ha : PE X a ta) (hb : PE X b tb) (hc : PE X c tc)
    (hm : lastMarks [op, op'] [b, c] = false := by with_unfolding_all rfl) : PE X (.Compare a [op, op'] [b, c] pos) (tChain r r' ta tb tc) := by
  intro pins s σ H Q I h
  refine Compare_chain (thn (ha pins s σ H _ I h) fun v s1 ⟨x, H1, I1, r1, q1⟩ => chain_link (thn (hb pins s1 σ H1 _ I1 q1) fun u s2 ⟨y, H2, I2, r2, q2⟩ =>
    thn (ho pins s2 σ H2 x y v u _ I2 r1 r2 q2) fun d s3 ⟨z, H3, I3, r3, k, e, q3⟩ => ?_)) hm
  subst e
  cases r3
  refine wpAny_truthy_bool ?_
  cases k with
  | false => exact ite_ff ⟨.bl false, H3, I3, rfl, q3⟩
  | true => exact ite_tt (chain_last (thn (hc pins s3 σ H3 _ I3 q3) fun w' s4 ⟨z', H4, I4, r4, q4⟩ => ho' pins s4 σ H4 y z' u w' Q I4 r2 r4 q4))
theorem pt_chain {op op' : CmpOp} {r r' : R2} (ho : OpR X (compareOp op) r) (ho' : OpR X (compareOp op') r') (ha : PE X a ta) (hb : PE X b tb) (hc : PE X c tc)
    (hm : lastMarks [op, op'] [b, c] = false := by with_unfolding_all rfl) : PT X (.Compare a [op, op'] [b, c] pos) (tTest (tChain r r' ta tb tc)) := by
  intro pins s σ H Q I h
  refine isTrue_chain (thn (ha pins s σ H _ I h) fun v s1 ⟨x, H1, I1, r1, q1⟩ => test_link (thn (hb pins s1 σ H1 _ I1 q1) fun u s2 ⟨y, H2, I2, r2, q2⟩ =>
    thn (ho pins s2 σ H2 x y v u _ I2 r1 r2 q2) fun d s3 ⟨z, H3, I3, r3, k, e, q3⟩ => ?_)) hm
  subst e
  cases r3
  refine wpAny_truthy_bool ?_
  cases k with
  | false =>
    obtain ⟨k', e', q'⟩ := q3
    cases e'
    exact ite_ff ⟨H3, I3, q'⟩
  | true =>
    refine ite_tt (test_last (thn (hc pins s3 σ H3 _ I3 q3) fun w' s4 ⟨z', H4, I4, r4, q4⟩ => thn (ho' pins s4 σ H4 y z' u w' _ I4 r2 r4 q4) fun d' s5 ⟨z2, H5, I5, r5, k2, e2, q5⟩ => ?_))
    subst e2
    cases r5
    exact wpAny_truthy_bool ⟨H5, I5, q5⟩

/-! ### truth -/
/-- a value's truth by the abstract heap -/
noncomputable def TruV (K : PySem.W.Frag) (x : V) (H : Hp) (k : Bool) : Prop :=
  match x with
  | .non => k = false
  | .bl b => k = b
  | .int i => k = (i != 0)
  | .str y => y.length ≤ sizeLine ∧ k = ((y.length : Int) != 0)
  | .byt y => y.size ≤ sizeLine ∧ k = ((y.size : Int) != 0)
  | .ref p => (∃ xs, SqL K H p xs ∧ k = !xs.isEmpty) ∨ (∃ xs, SqT K H p xs ∧ k = !xs.isEmpty) ∨ ∃ kvs, H p = some (.dK kvs) ∧ k = !kvs.isEmpty
  | _ => False
theorem isEmpty_kv {κ : Type} {kvs : List (κ × V)} {vs : List (κ × Value)} (r : KV kvs vs) : (!vs.isEmpty) = !kvs.isEmpty := by
  cases r <;> rfl
theorem isEmpty_of {xs : List V} {its : List Value} (r : Vals xs its) : (!its.toArray.isEmpty) = !xs.isEmpty := by
  cases r <;> simp
theorem line63 : (sizeLine : Nat) < 2 ^ 63 := by rw [sizeLine_eq]; decide
theorem tru_ok : TruR X (fun x H Q => ∃ k, TruV X.K x H k ∧ Q k H) := by
  intro pins s σ H x v Q I rx h
  obtain ⟨k, e, q⟩ := h
  have hl := line63
  have hs : sizeLine = 16777216 := sizeLine_eq
  cases x with
  | non =>
    cases rx
    have e' : k = false := e
    subst e'
    exact truthy_none ⟨H, I, q⟩
  | bl b =>
    cases rx
    have e' : k = b := e
    subst e'
    exact wpAny_truthy_bool ⟨H, I, q⟩
  | int i =>
    obtain ⟨t, rfl⟩ := rx
    have e' : k = (i != 0) := e
    subst e'
    exact PySem.P.truthy_int ⟨H, I, q⟩
  | str y =>
    obtain ⟨t, rfl⟩ := rx
    obtain ⟨hy, e'⟩ : y.length ≤ sizeLine ∧ k = ((y.length : Int) != 0) := e
    subst e'
    exact PySem.P.truthy_str (by omega) ⟨H, I.tok _, q⟩
  | byt y =>
    obtain ⟨t, rfl⟩ := rx
    obtain ⟨hy, e'⟩ : y.size ≤ sizeLine ∧ k = ((y.size : Int) != 0) := e
    subst e'
    exact PySem.W.truthy_bytes (by omega) ⟨H, I.tok _, q⟩
  | ref p =>
    cases rx
    have e' : (∃ xs, SqL X.K H p xs ∧ k = !xs.isEmpty) ∨ (∃ xs, SqT X.K H p xs ∧ k = !xs.isEmpty) ∨ ∃ kvs, H p = some (.dK kvs) ∧ k = !kvs.isEmpty := e
    rcases e' with ⟨xs, hx, e'⟩ | ⟨xs, hx, e'⟩ | ⟨kvs, hx, e'⟩
    · subst e'
      obtain ⟨its, r, pl, hz⟩ := I.list hx
      have hlen := r.length
      exact wpAny_truthy_list pl.isList (by simp only [List.size_toArray]; omega) ⟨H, I.tok _, by rw [isEmpty_of r]; exact q⟩
    · subst e'
      obtain ⟨its, r, pl, hz⟩ := I.tuple hx
      have hlen := r.length
      exact truthy_tuple pl (by simp only [List.size_toArray]; omega) ⟨H, I.tok _, by rw [isEmpty_of r]; exact q⟩
    · subst e'
      obtain ⟨hz, hS, vs, r, m⟩ : kvs.length ≤ sizeLine ∧ (p == sysModules) = false ∧ ∃ vs, KV kvs vs ∧ s.heap.DictOf (mixKind X.prog X.w) p vs := I.hok p _ hx
      have hlen : kvs.length = vs.length := Paired.length r
      exact wpAny_truthy_dict hS m (by omega) ⟨H, I.tok _, by rw [isEmpty_kv r]; exact q⟩
  | _ => exact (show False from e).elim

/-! ### strs and bytes -/
theorem op_add_str : OpR X (binaryOp .Add) (fun x y H Q => ∃ i j, x = .str i ∧ y = .str j ∧ i.length + j.length ≤ sizeLine ∧ Q (.str (i ++ j)) H) := by
  intro pins s σ H x y v u Q I rx ry h
  obtain ⟨i, j, rfl, rfl, hz, q⟩ := h
  obtain ⟨t, rfl⟩ := rx
  obtain ⟨t', rfl⟩ := ry
  exact add_str (fun t' tk => ⟨.str (i ++ j), H, I.tok _, ⟨_, rfl⟩, q⟩) hz

/-! ### scalar builtins, by CallR -/
theorem vals1 {x : V} {us : List Value} (r : Vals [x] us) : ∃ u, us = [u] ∧ RelV x u := by
  cases r with
  | cons r1 r2 => cases r2; exact ⟨_, rfl, r1⟩
theorem vals2 {x y : V} {us : List Value} (r : Vals [x, y] us) : ∃ u w', us = [u, w'] ∧ RelV x u ∧ RelV y w' := by
  cases r with
  | cons r1 r2 =>
    cases r2 with
    | cons r3 r4 => cases r4; exact ⟨_, _, rfl, r1, r3⟩
theorem call_max2 (hc : X.calm = true) : CallR X (.builtin "max") (fun xs H Q => ∃ i j, xs = [.int i, .int j] ∧ Q (.int (if j > i then j else i)) H) := by
  intro pins s σ H xs us Q I r h
  obtain ⟨i, j, rfl, q⟩ := h
  obtain ⟨u, w', rfl, ⟨t, rfl⟩, ⟨t', rfl⟩⟩ := vals2 r
  refine max_two_ints (I.ok.hd hc) fun h' tk k => ⟨_, H, I.kept k, ?_, q⟩
  by_cases hj : j > i
  · rw [if_pos hj, if_pos hj]; exact ⟨_, rfl⟩
  · rw [if_neg hj, if_neg hj]; exact ⟨_, rfl⟩
theorem call_min2 (hc : X.calm = true) : CallR X (.builtin "min") (fun xs H Q => ∃ i j, xs = [.int i, .int j] ∧ Q (.int (if j < i then j else i)) H) := by
  intro pins s σ H xs us Q I r h
  obtain ⟨i, j, rfl, q⟩ := h
  obtain ⟨u, w', rfl, ⟨t, rfl⟩, ⟨t', rfl⟩⟩ := vals2 r
  refine min_two_ints (I.ok.hd hc) fun h' tk k => ⟨_, H, I.kept k, ?_, q⟩
  by_cases hj : j < i
  · rw [if_pos hj, if_pos hj]; exact ⟨_, rfl⟩
  · rw [if_neg hj, if_neg hj]; exact ⟨_, rfl⟩
end
end L2

namespace L2
open PySem PySem.Spec PyProof.Rows

/-! ### an instance, its attributes a map -/
structure ObjM (h : Heap) (x dx C : Addr) (mA : Str → Option Value) : Prop where
  obj : h.get? x = some (PySem.W.instObj C dx)
  ns : h.Ns1 dx mA
  ne : dx ≠ x

section
variable {prog : Program} {w : World} {A : Around} {E : Value → Shared → Prop} {s : Shared} {K : PySem.W.Frag} {x dx C f : Addr} {mA : Str → Option Value} {name : Str} {v : Value}

end

/-! ### the attributes as a list of pairs -/

section
variable {P : Program} {w : World} {H H' : Hp} {h h' : Heap} {a C dx : Addr} {fs fs' : List (Str × V)}
end

/-! ### what of the text a class must have -/
structure Cls (K : PySem.W.Frag) (C : Addr) : Prop where
  pg : PySem.W.plainGet K C Str.empty = true
  hd : PySem.W.hasDictIn K C = true
  po : PySem.W.plainOver K C = true
  sa : PySem.W.findIn K (.ref C) "__setattr__" = some (some (.builtin "object.__setattr__"))
/-- a constant of the class -/
structure Con (K : PySem.W.Frag) (C : Addr) (f : Str) (v : V) (u : Value) : Prop where
  at_ : PySem.W.findIn K (.ref C) f = some (some u)
  rel : RelV v u
  get : PySem.W.specialIn K u "__get__" = some none
  cp : PySem.W.copiedNames.contains f = false

section
variable {X : Cx} {pins : List (Addr × Obj)} {σ : St} {H : Hp} {s : Shared} {a C dx : Addr} {fs : List (Str × V)} {f : Str} {v : V} {A : Around} {E : Value → Shared → Prop}

end

/-! ### readings and rules -/

section
variable {X : Cx} {o e value : Expr} {f : Str} {pos pos' tpos : Pos} {ta tv : TE}

end

/-! ### isinstance -/
section
variable {X : Cx} {pins : List (Addr × Obj)} {σ : St} {H : Hp} {s : Shared} {A : Around} {E : Value → Shared → Prop} {Q : Value → Shared → Prop} {c : Value} {b : Bool}
/-- the type of a value, as the fragment's deciders take it; for an instance its class -/
inductive TyOf (K : PySem.W.Frag) (H : Hp) : V → Value → Prop where
  | non : TyOf K H .non (.type "NoneType")
  | bl (x : Bool) : TyOf K H (.bl x) (.type "bool")
  | int (i : Int) : TyOf K H (.int i) (.type "int")
  | str (x : Str) : TyOf K H (.str x) (.type "str")
  | flt (x : UInt64) : TyOf K H (.flt x) (.type "float")
  | lst {a : Addr} {xs : List V} (e : H a = some (.lst xs)) : TyOf K H (.ref a) (.type "list")
  | frz {a : Addr} {o : Obj} {xs : List V} (e : H a = some (.frz o (.lst xs))) : TyOf K H (.ref a) (.type "list")
  | tup {a : Addr} {xs : List V} (e : H a = some (.tup xs)) : TyOf K H (.ref a) (.type "tuple")
  | dK {a : Addr} {kvs : List (Key × V)} (e : H a = some (.dK kvs)) : TyOf K H (.ref a) (.type "dict")
  | dT {a : Addr} {kvs : List (List Key × V)} (e : H a = some (.dT kvs)) : TyOf K H (.ref a) (.type "dict")
  | ins {a C dx : Addr} {fs : List (Str × V)} (e : H a = some (.ins C dx fs)) (cl : Cls K C) (ha : PySem.W.findIn K (.ref C) "__class__" = some (some (.builtin "object.__class__")))
      (hn : PySem.W.specialIn K (.builtin "object.__class__") "__get__" = some (some (.builtin "getset_descriptor.__get__"))) (htk : PySem.W.takesIn K (.builtin "object.__class__") = some true)
      (hm : PySem.W.mroIn K C (.type "object") = some true) : TyOf K H (.ref a) (.ref C)
end
end L2

namespace L2
open PySem PySem.Spec PyProof.Rows

/-! ### room -/
structure Room (k : Nat) (A : Around) : Prop where
  hd : A.handled = none
  dp : A.depth + 3 * k + 5 < recursionLimit
  un : A.units + 16 * k + 200 < cLine
theorem Room.deeper {k : Nat} {A : Around} (r : Room (k + 1) A) (env : Env) : Room k (A.deeper env) :=
  ⟨r.hd, by have := r.dp; show A.depth + 1 + 3 * k + 5 < _; omega, by have := r.un; show A.units + 3 + 16 * k + 200 < _; omega⟩
theorem Room.depth {k : Nat} {A : Around} (r : Room k A) : A.depth < recursionLimit := by have := r.dp; omega
theorem Room.units {k : Nat} {A : Around} (r : Room k A) : A.units + 64 < cLine := by have := r.un; omega

/-! ### argument lists and displays -/
noncomputable def tNil : TA := fun _ H Q => Q [] H
noncomputable def tCons (ta : TE) (tr : TA) : TA := fun σ H Q => ta σ H fun x H1 => tr σ H1 fun xs H2 => Q (x :: xs) H2
section
variable {X : Cx} {e : Expr} {es : List Expr} {te : TE} {t : TA} {pos : Pos}
theorem pa_nil : PA X [] tNil := fun _ _ _ _ H Q I h => Calls.spliced_nil ⟨[], H, I, .nil, h⟩
theorem pa_cons (ha : PE X e te) (hr : PA X es t) (hs : starEach (e :: es) X.env = (false, eval e X.env) :: starEach es X.env := by rfl) : PA X (e :: es) (tCons te t) := by
  intro pos pins s σ H Q I h
  rw [hs]
  show wpAny _ _ (spliced ((false, eval e X.env) :: backTo pos (starEach es X.env))) _ _ s
  refine Calls.spliced_cons (thn (ha pins s σ H _ I h) fun u s1 ⟨x, H1, I1, r1, q1⟩ => ?_)
  exact thn (hr pos pins s1 σ H1 _ I1 q1) fun us s2 ⟨xs, H2, I2, r2, q2⟩ => ⟨x :: xs, H2, I2, .cons r1 r2, q2⟩

/-- a tuple, a list of written items -/
noncomputable def tTup (t : TA) : TE := fun σ H Q => t σ H fun xs H1 => xs.length ≤ sizeLine ∧ ∀ p, H1 p = none → Q (.ref p) (upd H1 p (.tup xs))
noncomputable def tLst (t : TA) : TE := fun σ H Q => t σ H fun xs H1 => xs.length ≤ sizeLine ∧ ∀ p, H1 p = none → Q (.ref p) (upd H1 p (.lst xs))
theorem pe_tup {x1} (h : PA X es t) : PE X (.Tuple es x1 pos) (tTup t) := by
  intro pins s σ H Q I hq
  refine wpAny_Tuple_spliced (thn (h pos pins s σ H _ I hq) fun us s1 ⟨xs, H1, I1, r, z, q⟩ => ⟨by rw [← r.length]; exact z, ?_⟩)
  have hf : H1 s1.heap.objs.size = none := I1.hok.fresh (Nat.le_refl _)
  refine ⟨.ref s1.heap.objs.size, upd H1 s1.heap.objs.size (.tup xs), I1.laid (t' := s1.toks) (fun b u e => Heap.get?_push_of_some _ e) (Nat.le_refl _) ?_, rfl, q _ hf⟩
  exact ⟨z, us, r, ⟨_, Heap.get?_push_size _ rfl, rfl, _, rfl⟩⟩
theorem pe_lst (h : PA X es t) : PE X (.List es pos) (tLst t) := by
  intro pins s σ H Q I hq
  refine wpAny_List_spliced (thn (h pos pins s σ H _ I hq) fun us s1 ⟨xs, H1, I1, r, z, q⟩ => ⟨by rw [← r.length]; exact z, ?_⟩)
  have hf : H1 s1.heap.objs.size = none := I1.hok.fresh (Nat.le_refl _)
  refine ⟨.ref s1.heap.objs.size, upd H1 s1.heap.objs.size (.lst xs), I1.laid (t' := s1.toks) (fun b u e => Heap.get?_push_of_some _ e) (Nat.le_refl _) ?_, rfl, q _ hf⟩
  exact ⟨z, us, 0, r, Heap.get?_push_size _ rfl⟩
end

/-! ### what a def promises -/
/-- a def's promise: the bound arguments in the parameters' order, the heap, the wanted end, the wanted exception -/
abbrev Sp := List V → Hp → VK → XK → Prop
/-- how an exception lies behind a call (file 08 gives it): the callers' frames, abstract heap and state ahead of the call, the wish, the exception, the state -/
abbrev CXT := List Env → Hp → Shared → XK → Value → Shared → Prop

/-- the state at a call -/
structure Env0 (P : Program) (w : World) (K : PySem.W.Frag) (mg : Str → Option Value) (base : Heap) (A : Around) (outer : List Env) (s : Shared) (H : Hp) : Prop where
  frames : A.frames = some outer
  mod : Mod K mg base
  bs : ∀ b o, base.get? b = some o → s.heap.get? b = some o ∧ H b = none
  bsz : base.objs.size ≤ s.heap.objs.size
  funs : s.heap.FunFrames base outer
  frf : ∀ b ∈ frs outer, H b = none
  hok : HOk P w H s.heap
  bare : AllBare s.gens
/-- a call's end -/
noncomputable def CE (outer : List Env) (P : Program) (w : World) (H : Hp) (s : Shared) (Q : VK) (u : Value) (s' : Shared) : Prop :=
  ∃ v H', s'.os = s.os ∧ AllBare s'.gens ∧ Un (frs outer) [] H H' s.heap s'.heap ∧ HOk P w H' s'.heap ∧ RelV v u ∧ Q v H'
noncomputable def CR (CX : CXT) (outer : List Env) (P : Program) (w : World) (H : Hp) (s : Shared) (Q : VK) (E : XK) (r : Result) (s' : Shared) : Prop :=
  match r with
  | .ok (.ret u) => CE outer P w H s Q u s'
  | .ok _ => False
  | .error e => CX outer H s E e s'
structure FnOk (P : Program) (w : World) (K : PySem.W.Frag) (mg : Str → Option Value) (base : Heap) (CX : CXT) (k : Nat) (f : Addr) (fd : FuncData) (ps : List Str) (sp : Sp) : Prop where
  len : ∀ vs H Q E, sp vs H Q E → vs.length = ps.length
  run : ∀ (A : Around) (outer : List Env) (s : Shared) (H : Hp) (args : Args) (us : List Value) (vs : List V) (Q : VK) (E : XK), Room k A → Env0 P w K mg base A outer s H → BindsTo s fd args (ps.zip us) → Vals vs us → sp vs H Q E →
    codeAny (model P w) A (.call (.ref f) args) (CR CX outer P w H s Q E) s

section
variable {X : Cx} {pins : List (Addr × Obj)} {σ : St} {H : Hp} {s s' : Shared}
/-- from a body: what a callee wants -/
theorem Inv.env0 (I : Inv X pins σ H s) : Env0 X.prog X.w X.K X.mg X.base X.A X.stack s H :=
  ⟨I.ok.frames, I.ok.mod, I.bs, Nat.le_trans I.ok.bsz I.sz, I.stack, I.stkFree, I.hok, I.bare⟩
/-- behind a call -/
theorem Inv.after {Q : VK} {u : Value} (I : Inv X pins σ H s) (h : CE X.stack X.prog X.w H s Q u s') : EP X pins σ Q u s' := by
  obtain ⟨v, H', os, bare, un, hok, r, q⟩ := h
  obtain ⟨hh, g, d, t, os'⟩ := s'
  obtain rfl : os' = s.os := os
  exact ⟨v, H', I.call (h' := hh) (g' := g) (d' := d) (t' := t) (ch := []) un hok bare (fun b z => absurd z (by simp)), r, q⟩
end

/-! ### calls -/
/-- f(..): the written arguments, then the defaults dvs; E: what is wanted of an exception -/
noncomputable def tCall (sp : Sp) (dvs : List V) (E : XK) (t : TA) : TE := fun σ H Q => t σ H fun vs H1 => sp (vs ++ dvs) H1 Q E

/-- how the parameters are bound: us the positional arguments, kw the keywords' values by name, ds the defaults that fill up -/
noncomputable def Binds (K : PySem.W.Frag) (fd : FuncData) (ps : List Str) (ds : List Value) : Prop :=
  ∀ (s : Shared) (us : List Value), K.In s.heap → (us ++ ds).length = ps.length → BindsTo s fd ⟨us, []⟩ (ps.zip (us ++ ds))
/-- every parameter is given -/
theorem Binds.all {K : PySem.W.Frag} {fd : FuncData} {ps : List Str} (h : ∀ us : List Value, us.length = ps.length → bindArgs fd ⟨us, []⟩ = pure (ps.zip us)) : Binds K fd ps [] := fun s us _ hl => by
  rw [List.append_nil] at hl ⊢
  exact .of_eq (h us hl)

/-- an exception of a callee reaches what this body wants of exceptions -/
noncomputable def Passes (CX : CXT) (X : Cx) (E : XK) : Prop := ∀ (pins : List (Addr × Obj)) (σ : St) (H : Hp) (s : Shared) (e : Value) (s' : Shared), Inv X pins σ H s → CX X.stack H s E e s' → X.xe e s'

section
variable {X : Cx} {CX : CXT} {k : Nat} {f C : Addr} {fd : FuncData} {ps : List Str} {sp : Sp} {dvs : List V} {ds : List Value} {E : XK} {x m : Str} {p pos apos : Pos} {e o : Expr} {es : List Expr} {ta : TE} {t : TA}

/-- the callee runs -/
theorem run_fn {pins : List (Addr × Obj)} {σ : St} {H : Hp} {s : Shared} {Q : VK} {us : List Value} {vs : List V} (F : FnOk X.prog X.w X.K X.mg X.base CX k f fd ps sp) (hr : Room k X.A) (hb : Binds X.K fd ps ds) (hd : Vals dvs ds) (hx : Passes CX X E)
    (I : Inv X pins σ H s) (r : Vals vs us) (h : sp (vs ++ dvs) H Q E) : wpAny (model X.prog X.w) X.A (call (.ref f) us) (EP X pins σ Q) X.xe s := by
  have r2 : Vals (vs ++ dvs) (us ++ ds) := r.append hd
  have hl : (us ++ ds).length = ps.length := by rw [← r2.length]; exact F.len _ _ _ _ h
  refine wpAny_call (codeAny_mono (F.run X.A X.stack s H ⟨us, []⟩ (us ++ ds) (vs ++ dvs) Q E hr I.env0 (hb s us I.kIn hl) r2 h) fun r s' hq => ?_)
  cases r with
  | error e => exact hx pins σ H s e s' I hq
  | ok fl =>
    cases fl with
    | ret u => exact I.after hq
    | next => exact False.elim hq
    | brk => exact False.elim hq
    | cont => exact False.elim hq

theorem pe_call (F : FnOk X.prog X.w X.K X.mg X.base CX k f fd ps sp) (hr : Room k X.A) (hg : Gl X x) (hm : X.mg x = some (.ref f)) (hk : PySem.W.keepIn X.K (.ref f) = true) (hb : Binds X.K fd ps ds) (hd : Vals dvs ds) (hx : Passes CX X E)
    (ha : PA X (e :: es) t) (hdb : (x == ("__debug__" : Str)) = false := by decide) (he : starEach (e :: es) X.env = (false, eval e X.env) :: starEach es X.env := by rfl) (hpl : (backTo pos (starEach es X.env)).any (·.1) = false := by rfl) :
    PE X (.Call (.Name x p) (e :: es) [] pos) (tCall sp dvs E t) := by
  intro pins s σ H Q I h
  refine wpAny_Call_Name_kw (ld_glob I hg hm ?_ hdb)
  refine PySem.W.callWith_K (h₀ := X.base) I.ok.mod.kin hk (thn (ha pos pins s σ H _ I h) fun us s1 ⟨vs, H1, I1, r, q⟩ => ⟨I1.kIn, ?_⟩) he hpl
  exact run_fn F hr hb hd hx I1 r q
theorem pe_call0 (F : FnOk X.prog X.w X.K X.mg X.base CX k f fd ps sp) (hr : Room k X.A) (hg : Gl X x) (hm : X.mg x = some (.ref f)) (hk : PySem.W.keepIn X.K (.ref f) = true) (hb : Binds X.K fd ps ds) (hd : Vals dvs ds) (hx : Passes CX X E)
    (hdb : (x == ("__debug__" : Str)) = false := by decide) : PE X (.Call (.Name x p) [] [] pos) (tCall sp dvs E tNil) := by
  intro pins s σ H Q I h
  refine wpAny_Call_Name_kw (ld_glob I hg hm ?_ hdb)
  exact PySem.W.callWith_K0 I.kIn hk (run_fn (us := []) F hr hb hd hx I .nil h)

/-- what a class must have to be made -/
structure Mk (K : PySem.W.Frag) (C f : Addr) : Prop where
  makes : PySem.W.makesIn K C = true
  init : PySem.W.findIn K (.ref C) "__init__" = some (some (.ref f))
  fn : PySem.W.isFn K (.ref f) = true
  kp : PySem.W.keepIn K (.ref C) = true

end

/-! ### keywords -/
section
variable {X : Cx} {CX : CXT} {k : Nat} {f C : Addr} {fd : FuncData} {ps ks : List Str} {sp : Sp} {E : XK} {x m : Str} {p pos apos kpos : Pos} {e o : Expr} {es : List Expr} {kws : List Keyword} {te ta : TE} {t tk : TA} {nm : Option Str}

/-- how a call with keywords binds: g puts the positional values us and the keywords' values ws (names ks) in the parameters' order, defaults among them -/
structure KBinds (K : PySem.W.Frag) (fd : FuncData) (ps ks : List Str) (g : List Value → List Value → List Value) (gV : List V → List V → List V) : Prop where
  to : ∀ (s : Shared) (us ws : List Value), K.In s.heap → (g us ws).length = ps.length → BindsTo s fd ⟨us, ks.zip ws⟩ (ps.zip (g us ws))
  rel : ∀ {vs : List V} {us : List Value} {zs : List V} {ws : List Value}, Vals vs us → Vals zs ws → Vals (gV vs zs) (g us ws)
variable {g : List Value → List Value → List Value} {gV : List V → List V → List V}
end

/-! ### a def's body keeps its promise -/
/-- names: the parameters first -/
structure FnScope (N P : List Str) (sc : Scope) : Prop where
  kind : sc.kind = .function
  co : sc.isCoroutine = false
  gen : sc.isGenerator = false
  nd : N.Nodup
  pre : N.take P.length = P
  par : ∀ x ∈ P, sc.names.lookup x = some .local ∨ sc.names.lookup x = some .cell
  nofree : ∀ y ∈ sc.names, y.2 ≠ .free

theorem bindL_out {kindOf : Str → Option NameKind} {x : Str} : ∀ {binds : List (Str × Value)} {m : Str → Option Value}, (∀ v, (x, v) ∉ binds) → bindL kindOf binds m x = m x
  | [], _, _ => rfl
  | (n, v) :: r, m, h => by
    unfold bindL
    rw [bindL_out fun w hw => h w (List.mem_cons_of_mem _ hw)]
    split
    · have : x ≠ n := by rintro rfl; exact h v List.mem_cons_self
      simp [this]
    · rfl
theorem bindC_out {kindOf : Str → Option NameKind} {x : Str} : ∀ {binds : List (Str × Value)} {m : Str → Option Value}, (∀ v, (x, v) ∉ binds) → bindC kindOf binds m x = m x
  | [], _, _ => rfl
  | (n, v) :: r, m, h => by
    unfold bindC
    rw [bindC_out fun w hw => h w (List.mem_cons_of_mem _ hw)]
    split
    · rfl
    · have : x ≠ n := by rintro rfl; exact h v List.mem_cons_self
      simp [this]
theorem bindL_get {kindOf : Str → Option NameKind} {x : Str} {v : Value} : ∀ {P : List Str} {vs : List Value} {i : Nat} {m : Str → Option Value}, P.Nodup → P[i]? = some x → vs[i]? = some v → kindOf x = some .local →
    bindL kindOf (P.zip vs) m x = some v
  | [], _, _, _, _, h, _, _ => by simp at h
  | _ :: _, [], _, _, _, _, h, _ => by simp at h
  | p :: P, w :: vs, 0, m, nd, h1, h2, hk => by
    simp at h1 h2; subst h1; subst h2
    show bindL kindOf ((p, w) :: P.zip vs) m p = _
    unfold bindL
    rw [bindL_out fun v hv => (List.nodup_cons.mp nd).1 (List.of_mem_zip hv).1, if_pos hk]
    simp
  | p :: P, w :: vs, i + 1, m, nd, h1, h2, hk => by
    show bindL kindOf ((p, w) :: P.zip vs) m x = _
    unfold bindL
    exact bindL_get (i := i) (List.nodup_cons.mp nd).2 (by simpa using h1) (by simpa using h2) hk
theorem bindC_get {kindOf : Str → Option NameKind} {x : Str} {v : Value} : ∀ {P : List Str} {vs : List Value} {i : Nat} {m : Str → Option Value}, P.Nodup → P[i]? = some x → vs[i]? = some v → kindOf x ≠ some .local →
    bindC kindOf (P.zip vs) m x = some v
  | [], _, _, _, _, h, _, _ => by simp at h
  | _ :: _, [], _, _, _, _, h, _ => by simp at h
  | p :: P, w :: vs, 0, m, nd, h1, h2, hk => by
    simp at h1 h2; subst h1; subst h2
    show bindC kindOf ((p, w) :: P.zip vs) m p = _
    unfold bindC
    rw [bindC_out fun v hv => (List.nodup_cons.mp nd).1 (List.of_mem_zip hv).1, if_neg hk]
    simp
  | p :: P, w :: vs, i + 1, m, nd, h1, h2, hk => by
    show bindC kindOf ((p, w) :: P.zip vs) m x = _
    unfold bindC
    exact bindC_get (i := i) (List.nodup_cons.mp nd).2 (by simpa using h1) (by simpa using h2) hk

/-- the names' values at the entry -/
noncomputable def start (N : List Str) (vs : List V) : St := vs.map some ++ List.replicate (N.length - vs.length) none

/-- the context of a def's body, at its entry; an exception leaves the frame, then lies as CX says -/
noncomputable def cxOf (CX : CXT) (P : Program) (w : World) (K : PySem.W.Frag) (mg : Str → Option Value) (base : Heap) (N : List Str) (qual : Str) (scope : Scope) (f : Addr) (cd : Value) (A : Around) (outer : List Env) (s : Shared) (H : Hp) (E : XK) : Cx where
  prog := P
  w := w
  K := K
  mg := mg
  base := base
  A := A.deeper (envOfC qual scope s.heap.objs.size f cd)
  N := N
  s₀ := s
  H₀ := H
  env := envOfC qual scope s.heap.objs.size f cd
  outer := outer
  stack := envOfC qual scope s.heap.objs.size f cd :: outer
  ex := []
  calm := true
  fn := fun _ => true
  pn := []
  xe := fun e s' => wpAny (model P w) (A.deeper (envOfC qual scope s.heap.objs.size f cd)) (leaving (envOfC qual scope s.heap.objs.size f cd) e) (fun _ s'' => CX outer H s E e s'') (fun e' s'' => CX outer H s E e' s'') s'

theorem cell_has {sc : Scope} {n : Nat} {x : Str} (h : sc.names.lookup x = some .cell) : ∃ c, (cellsFrom n sc.names []).lookup x = some c := by
  have q := PySem.W.cellsFrom_some sc.names n [] (.inl h)
  exact Option.isSome_iff_exists.mp q

theorem inv_start {CX : CXT} {P : Program} {w : World} {K : PySem.W.Frag} {mg : Str → Option Value} {base : Heap} {N ps : List Str} {qual : Str} {scope : Scope} {f : Addr} {cd : Value} {A : Around} {outer : List Env} {s s1 : Shared} {H : Hp} {E : XK} {us : List Value} {vs : List V}
    (S : FnScope N ps scope) (hd : A.handled = none) (e0 : Env0 P w K mg base A outer s H) (hl : vs.length = ps.length) (r : Vals vs us)
    (x : InCallC s s.heap.objs.size (bindL (envOfC qual scope s.heap.objs.size f cd).kindOf (ps.zip us) fun _ => none) (cellsFrom (s.heap.objs.size + 1) scope.names []) (bindC (envOfC qual scope s.heap.objs.size f cd).kindOf (ps.zip us) fun _ => none) s1) :
    Inv (cxOf CX P w K mg base N qual scope f cd A outer s H E) [] (start N vs) H s1 := by
  have hpl : ps.length ≤ N.length := by have := congrArg List.length S.pre; rw [List.length_take] at this; omega
  obtain ⟨h1, tk, rfl, hk⟩ := x.done
  have noA : ∀ b : Addr, b ∉ (cxOf CX P w K mg base N qual scope f cd A outer s H E).ex := fun b z => absurd (show b ∈ ([] : List Addr) from z) (by simp)
  refine ⟨⟨e0.mod, S.kind, rfl, rfl, Nat.le_refl _, fun y z c h1 h2 => ?_, fun y hy => ?_, fun y c _ h => ?_, fun _ => hd, Around.frames_deeper e0.frames, .inr ⟨rfl, rfl⟩, fun b z => absurd z (noA b), e0.bs, e0.bsz, fun b _ _ => noA b, fun b z => absurd z (noA b), e0.funs, e0.frf⟩,
    rfl, e0.bare, Un.kept hk, ⟨_, x.toInCall.ns, fun i y v h1 h2 h3 => ?_⟩, fun y c h => ⟨_, x.cell y c h⟩, e0.hok.fresh (Nat.le_refl _), fun y c h => ?_, fun p hp => absurd (show p ∈ ([] : List (Addr × Obj)) from hp) (by simp), e0.hok.kept hk, ?_⟩
  · exact name_of_addr x.apart (PySem.mem_of_lookup h1) (PySem.mem_of_lookup h2)
  · have hy : scope.names.lookup y = some .cell ∨ scope.names.lookup y = some .free := hy
    rcases hy with hy | hy
    · exact cell_has hy
    · exact absurd rfl (S.nofree _ (PySem.mem_of_lookup hy))
  · exact Nat.le_of_lt (x.above y c (PySem.mem_of_lookup h))
  · have hi : i < vs.length := by
      unfold start at h2
      by_cases hi : i < vs.length
      · exact hi
      · rw [List.getElem?_append_right (by simpa using hi)] at h2
        rw [List.getElem?_replicate] at h2
        split at h2 <;> cases h2
    have ha : vs[i]? = some v := by
      unfold start at h2
      rw [List.getElem?_append_left (by simpa using hi), List.getElem?_map] at h2
      cases e : vs[i]? with
      | none => rw [e] at h2; cases h2
      | some a => rw [e] at h2; cases h2; rfl
    obtain ⟨u, hu, rv⟩ := r.get ha
    have hp : ps[i]? = some y := by
      rw [← S.pre, List.getElem?_take_of_lt (by omega)]; exact h1
    have ndP : ps.Nodup := by rw [← S.pre]; exact S.nd.sublist (List.take_sublist _ _)
    refine ⟨u, rv, ?_⟩
    rcases S.par y (List.mem_of_getElem? hp) with k | k
    · exact .inl ⟨k, bindL_get ndP hp hu k⟩
    · obtain ⟨c, e⟩ := cell_has (n := s.heap.objs.size + 1) k
      refine .inr ⟨.inl k, c, e, ?_⟩
      have q := x.cell y c e
      rw [bindC_get ndP hp hu (by show scope.names.lookup y ≠ _; rw [k]; decide)] at q
      exact q
  · exact e0.hok.fresh (Nat.le_of_lt (x.above y c (PySem.mem_of_lookup h)))
  · unfold start
    show _ = N.length
    rw [List.length_append, List.length_map, List.length_replicate]
    omega

/-- THE RULE: a def (or a method) of the text, by its body. The body's reading t is chosen for each entry; it is run at the parameters' values -/
theorem fn_of {CX : CXT} {P : Program} {w : World} {K : PySem.W.Frag} {mg : Str → Option Value} {base : Heap} {k : Nat} {f : Addr} {name qual : Str} {params : Arguments} {body : List Stmt} {scope : Scope} {dV kV doc pm cdv ct oc : Value} {an od : Option Addr}
    {osl : Array (Option Value)} {N ps : List Str} {sp : Sp} (lk : K.lookup f = some ⟨oc, od, .func (PySem.W.fnOf name qual params body scope dV kV doc pm an cdv ct), osl⟩) (hcd : PySem.W.codeIn K cdv qual = true) (S : FnScope N ps scope)
    (len : ∀ vs H Q E, sp vs H Q E → vs.length = ps.length)
    (hbody : ∀ (A : Around) (outer : List Env) (s : Shared) (H : Hp) (vs : List V) (Q : VK) (E : XK), Room k (A.deeper (envOfC qual scope s.heap.objs.size f cdv)) → sp vs H Q E →
      ∃ t, PSs (cxOf CX P w K mg base N qual scope f cdv A outer s H E) body t ∧ t { nx := fun _ H' => Q .non H', rt := Q } (start N vs) H) :
    FnOk P w K mg base CX (k + 1) f (PySem.W.fnOf name qual params body scope dV kV doc pm an cdv ct) ps sp := by
  refine ⟨len, fun A outer s H args us vs Q E hr e0 hb r hsp => ?_⟩
  have hl := len _ _ _ _ hsp
  have KX : K.In s.heap := e0.mod.kin.keeps fun b o e => (e0.bs b o e).1
  have lim : s.heap.NoLimit := e0.mod.nolimit.keeps fun b o e => (e0.bs b o e).1
  have hkind : ∀ y ∈ ps.zip us, scope.names.lookup y.1 = some .local ∨ (scope.names.lookup y.1 = some .cell ∧ ((cellsFrom (s.heap.objs.size + 1) scope.names []).lookup y.1).isSome = true) := fun ⟨n, v⟩ hy => by
    rcases S.par n (List.of_mem_zip hy).1 with q | q
    · exact .inl q
    · exact .inr ⟨q, PySem.W.cellsFrom_some _ _ _ (.inl q)⟩
  refine codeAny_call_function hr.depth (KX _ _ lk) rfl S.co S.gen rfl (PySem.W.codeRec_of KX hcd) (hb _ _ _ _ ?_)
  refine wpAny_newFunctionEnv_cells S.kind hkind fun env he s1 x => ?_
  subst he
  refine ⟨lim.keeps x.toInCall.keep, codeAny_func ?_⟩
  obtain ⟨t, ht, hq⟩ := hbody A outer s H vs Q E (hr.deeper _) hsp
  have I : Inv (cxOf CX P w K mg base N qual scope f cdv A outer s H E) [] (start N vs) H s1 := inv_start S hr.hd e0 hl r x
  refine wpAny_mono (ht [] s1 (start N vs) H _ I hq) (fun fl s' hs => ?_) fun e s' hs => hs
  have fin : ∀ {σ' : St} {H' : Hp} {v : V} {u : Value}, Inv (cxOf CX P w K mg base N qual scope f cdv A outer s H E) [] σ' H' s' → RelV v u → Q v H' → CE outer P w H s Q u s' :=
    fun {σ' H' v u} J rv q => ⟨v, H', J.os, J.bare, J.base, J.hok, rv, q⟩
  cases fl with
  | ret u =>
    obtain ⟨v, σ', H', J, rv, q⟩ := hs
    exact fin J rv q
  | next =>
    obtain ⟨σ', H', J, q⟩ := hs
    exact fin (v := V.non) (u := Value.none) J rfl q
  | brk =>
    obtain ⟨_, _, _, q⟩ := hs
    exact False.elim q
  | cont =>
    obtain ⟨_, _, _, q⟩ := hs
    exact False.elim q
end L2

namespace L2
open PySem PySem.Spec PyProof.Rows
section
variable {X : Cx} {x : Str} {p pos : Pos} {e : Expr} {es : List Expr} {t : TA} {id T : String} {r : List V → Hp → VK → Prop}

noncomputable def tCB (r : List V → Hp → VK → Prop) (t : TA) : TE := fun σ H Q => t σ H fun vs H1 => r vs H1 Q
/-- f(e, ..), f a built-in function -/
theorem pe_callB (hc : CallR X (.builtin id) r) (hg : Gl X x) (hm : X.mg x = none) (hv : bootBuiltins x = some (.builtin id)) (ha : PA X (e :: es) t) (hn : x ≠ "__name__" := by decide) (hdb : (x == ("__debug__" : Str)) = false := by decide)
    (he : starEach (e :: es) X.env = (false, eval e X.env) :: starEach es X.env := by rfl) (hpl : (backTo pos (starEach es X.env)).any (·.1) = false := by rfl) : PE X (.Call (.Name x p) (e :: es) [] pos) (tCB r t) := by
  intro pins s σ H Q I h
  refine wpAny_Call_Name_kw (ld_blt I hg hm hv ?_ hn hdb)
  exact PyProof.Rows.callWith_builtin1 (thn (ha pos pins s σ H _ I h) fun us s1 ⟨vs, H1, I1, r1, q1⟩ => hc pins s1 σ H1 vs us Q I1 r1 q1) he hpl
/-- T(e, ..), T a built-in type -/
theorem pe_callTy (hc : CallR X (.type T) r) (hg : Gl X x) (hm : X.mg x = none) (hv : bootBuiltins x = some (.type T)) (ha : PA X (e :: es) t) (hn : x ≠ "__name__" := by decide) (hdb : (x == ("__debug__" : Str)) = false := by decide)
    (he : starEach (e :: es) X.env = (false, eval e X.env) :: starEach es X.env := by rfl) (hpl : (backTo pos (starEach es X.env)).any (·.1) = false := by rfl) : PE X (.Call (.Name x p) (e :: es) [] pos) (tCB r t) := by
  intro pins s σ H Q I h
  refine wpAny_Call_Name_kw (ld_blt I hg hm hv ?_ hn hdb)
  exact PyProof.Rows.callWith_type1 (thn (ha pos pins s σ H _ I h) fun us s1 ⟨vs, H1, I1, r1, q1⟩ => hc pins s1 σ H1 vs us Q I1 r1 q1) he hpl
end
end L2

namespace HT
open PySem PyProof.Rows

section
open PySem.SeqAt
open PySem.AutoSeq1 (wpAny_loadPart')
open PySem.MeetsSeq PySem.MeetsSeq2 PySem.MeetsSeq3

end

section
variable {prog : Program} {w : World} {A : Around} {E : Value → Shared → Prop} {s : Shared}

/-- t + u, t not empty -/
theorem cat_tup {t b : Addr} {vs ws : List Value} {Q : Value → Shared → Prop} (ht : IsTup s.heap t vs.toArray) (hb : IsTup s.heap b ws.toArray) (hv : vs ≠ [])
    (h1 : ws = [] → Q (.ref t) s) (h2 : ws ≠ [] → Q (.ref s.heap.objs.size) { s with heap := s.heap.push { cls := .type "tuple", data := .seq (vs ++ ws).toArray } })
    (hsz : vs.length + ws.length ≤ sizeLine) : wpAny (model prog w) A (binaryOp .Add (.ref t) (.ref b)) Q E s := by
  obtain ⟨⟨cls, dd, data, sl⟩, ho, hc, n, hd⟩ := id ht
  obtain ⟨⟨cls2, dd2, data2, sl2⟩, ho2, hc2, n2, hd2⟩ := id hb
  simp only at hc hd hc2 hd2
  subst hc hd hc2 hd2
  have e : vs.toArray ++ ws.toArray = (vs ++ ws).toArray := by simp
  by_cases hw : ws = []
  · exact concat_meets ⟨_, ho, rfl⟩ ⟨_, ho2, rfl⟩ noFill_tuple_add seq_tuple_add PySem.F.slot_tuple_add PySem.F.entry_tuple_add (PySem.F.args_tuple_add_2 _ _)
      (tuple_addW1 t b vs.toArray ws.toArray n n2 dd dd2 sl sl2 (by simpa using hv) (by simp [hw])) ⟨ho, ho2, h1 hw⟩
  · refine concat_meets ⟨_, ho, rfl⟩ ⟨_, ho2, rfl⟩ noFill_tuple_add seq_tuple_add PySem.F.slot_tuple_add PySem.F.entry_tuple_add (PySem.F.args_tuple_add_2 _ _)
      (tuple_addW2 t b vs.toArray ws.toArray n n2 dd dd2 sl sl2 (by simpa using hv) (by simpa using hw) (by rw [List.size_toArray, List.size_toArray]; exact hsz)) ⟨ho, ho2, ?_⟩
    rw [e]
    exact h2 hw

/-! ### t[a:b], not the whole -/
/-- a slice's bound as a place among n (d where it is left out) -/
noncomputable def sIx (n d : Nat) : Option Int → Nat
  | none => d
  | some v => if v < 0 then (v + (n : Int)).toNat else min v.toNat n
theorem sIx_le (n d : Nat) (hd : d ≤ n) (o : Option Int) : sIx n d o ≤ n := by
  cases o with
  | none => exact hd
  | some v =>
    show (if v < 0 then (v + (n : Int)).toNat else min v.toNat n) ≤ n
    by_cases hv : v < 0
    · rw [if_pos hv]; omega
    · rw [if_neg hv]; exact Nat.min_le_right _ _
theorem clip_eq (v : Int) (n d : Nat) : (if v < 0 then max (v + (n : Int)) 0 else min v (n : Int)) = ((sIx n d (some v) : Nat) : Int) := by
  show (if v < 0 then max (v + (n : Int)) 0 else min v (n : Int)) = (((if v < 0 then (v + (n : Int)).toNat else min v.toNat n) : Nat) : Int)
  by_cases hv : v < 0
  · simp only [if_pos hv]; omega
  · simp only [if_neg hv]; omega
theorem adjust_gen (lo hi : Option Int) (n : Nat) : Builtin.Slice.sliceAdjust lo hi 1 (n : Int) = (((sIx n 0 lo : Nat) : Int), ((sIx n n hi : Nat) : Int)) := by
  have h1 : ¬ ((1 : Int) < 0) := by omega
  unfold Builtin.Slice.sliceAdjust
  simp only [h1, if_false]
  refine Prod.ext ?_ ?_
  · cases lo with
    | none => rfl
    | some v => exact clip_eq v n 0
  · cases hi with
    | none => rfl
    | some v => exact clip_eq v n n
theorem places_gen (i j : Nat) : Builtin.Slice.slicePlaces (i : Int) (j : Int) 1 = j - i := by
  unfold Builtin.Slice.slicePlaces
  have h1 : (1 : Int) > 0 := by omega
  simp only [h1, if_true, Int.ediv_one]
  split <;> omega
theorem slicePart_ {v : Value} {o : Option Int} {Q : Option Int → Shared → Prop} (p : IsPart v o) (h : Q o s) : wpAny (model prog w) A (Builtin.Slice.slicePartIndex v) Q E s := by
  cases p with
  | none => exact slicePart_none h
  | int i t => exact slicePart_int h
theorem sliceApplied_gen {sl : Addr} {vl vu : Value} {lo hi : Option Int} {n : Nat} {Q : Int × Int × Nat → Shared → Prop} (hs : s.heap.IsSliceOf sl vl vu .none) (pl : IsPart vl lo) (pu : IsPart vu hi)
    (h : Q (((sIx n 0 lo : Nat) : Int), 1, sIx n n hi - sIx n 0 lo) s) : wpAny (model prog w) A (Builtin.Slice.sliceApplied (.ref sl) (pure (n : Int))) Q E s := by
  obtain ⟨os, hos, hcs, hds⟩ := id hs
  unfold Builtin.Slice.sliceApplied Builtin.Slice.sliceFields
  refine wpAny_bind (wpAny_bind (wpAny_field hos hds (x := vl) rfl (wpAny_bind (wpAny_field hos hds (x := vu) rfl (wpAny_bind (wpAny_field hos hds (x := .none) rfl (wpAny_pure ?_)))))))
  refine wpAny_bind (slicePart_none ?_)
  show wpAny _ _ (if ((1 : Int) == 0) = true then _ else _) _ _ s
  rw [if_neg (by decide)]
  refine wpAny_bind (slicePart_ pl (wpAny_bind (slicePart_ pu (wpAny_bind (wpAny_pure ?_)))))
  show wpAny _ _ (match Builtin.Slice.sliceAdjust lo hi 1 (n : Int) with | (lo, hi) => pure (lo, (1 : Int), Builtin.Slice.slicePlaces lo hi 1)) _ _ s
  rw [adjust_gen lo hi n]
  show wpAny _ _ (pure (((sIx n 0 lo : Nat) : Int), (1 : Int), Builtin.Slice.slicePlaces ((sIx n 0 lo : Nat) : Int) ((sIx n n hi : Nat) : Int) 1)) _ _ s
  rw [places_gen]
  exact wpAny_pure h
theorem pick_gen (xs : Array Value) (i k : Nat) : ((List.range k).filterMap fun (m : Nat) => xs[((i : Int) + (m : Int) * 1).toNat]?).toArray = ((xs.toList.drop i).take k).toArray := by
  have e : (fun (m : Nat) => xs[((i : Int) + (m : Int) * 1).toNat]?) = fun m => xs[i + m]? := by
    funext m
    have : ((i : Int) + (m : Int) * 1).toNat = i + m := by omega
    rw [this]
  rw [e]
  have := pick_run xs i k
  rw [List.filterMap_map] at this
  have e2 : ((fun x => xs[x]?) ∘ fun x => i + x) = fun m => xs[i + m]? := rfl
  rw [e2] at this
  rw [this]

theorem getItem_tuple_cut {t sl : Addr} {items : Array Value} {vl vu : Value} {lo hi : Option Int} {Q : Value → Shared → Prop} (ht : IsTup s.heap t items) (hs : s.heap.IsSliceOf sl vl vu .none) (pl : IsPart vl lo) (pu : IsPart vu hi)
    (hw : ¬ (sIx items.size 0 lo = 0 ∧ sIx items.size items.size hi = items.size))
    (h : Q (.ref s.heap.objs.size) { s with heap := s.heap.push { cls := .type "tuple", data := .seq ((items.toList.drop (sIx items.size 0 lo)).take (sIx items.size items.size hi - sIx items.size 0 lo)).toArray } })
    (hsz : items.size ≤ sizeLine) : wpAny (model prog w) A (getItem (.ref t) (.ref sl)) Q E s := by
  have htake : sizeOk (.seq ((items.toList.drop (sIx items.size 0 lo)).take (sIx items.size items.size hi - sIx items.size 0 lo)).toArray) := by
    show ((items.toList.drop (sIx items.size 0 lo)).take (sIx items.size items.size hi - sIx items.size 0 lo)).toArray.size ≤ sizeLine
    rw [List.size_toArray, List.length_take, List.length_drop, Array.length_toList]
    omega
  have hj : sIx items.size items.size hi ≤ items.size := sIx_le _ _ (Nat.le_refl _) hi
  obtain ⟨os, hos, hcs, hds⟩ := id hs
  have hTs : s.TypeIs (.ref sl) "slice" := ⟨os, hos, hcs⟩
  unfold getItem
  try with_reducible refine wpAny_holding ?_
  first | refine wpAny_bind (wpAny_pure ?_) | skip
  refine wpAny_bind (wpAny_sequenceKey ht.typeIs (by decide) ?_)
  refine wpAny_bind (wpAny_callSpecial?_slot (name := Str.ofString "__getitem__") ht.typeIs PyProof.Rows.slot_tuple_getitem
    (wpAny_call_entry PyProof.Rows.slot_tuple_getitem ht.typeIs entry_tuple_getitem ?_ (args_tuple_getitem _ _)))
  show wpAny _ _ (Builtin.Tuple.tupleItemsOf (.ref t) >>= _) _ _ s
  refine wpAny_bind (tupleItemsOf_ ht ?_)
  refine wpAny_bind (wpAny_typeOf hTs ?_)
  rw [if_pos (by decide)]
  refine wpAny_bind (sliceApplied_gen hs pl pu ?_)
  have hno : ¬ ((((sIx items.size 0 lo : Nat) : Int) == 0 && (1 : Int) == 1 && (sIx items.size items.size hi - sIx items.size 0 lo) == items.size) = true) := by
    intro q
    rw [Bool.and_eq_true, Bool.and_eq_true] at q
    have q1 : ((sIx items.size 0 lo : Nat) : Int) = 0 := eq_of_beq q.1.1
    have q2 : sIx items.size items.size hi - sIx items.size 0 lo = items.size := eq_of_beq q.2
    exact hw ⟨by omega, by omega⟩
  show wpAny _ _ (if (((sIx items.size 0 lo : Nat) : Int) == 0 && (1 : Int) == 1 && (sIx items.size items.size hi - sIx items.size 0 lo) == items.size) = true then _ else _) _ _ s
  rw [if_neg hno, pick_gen]
  first
    | exact wpAny_bind (m := Builtin.Tuple.tupleExact _) (wpAny_newObj_type (wpAny_pure ⟨_, rfl, wpAny_pure h⟩) htake)
    | exact wpAny_bind (m := Builtin.Tuple.tupleExact _) (wpAny_newObj_type (wpAny_bind (wpAny_pure (wpAny_pure ⟨_, rfl, wpAny_pure h⟩))) htake)
    | exact wpAny_bind (wpAny_bind (m := Builtin.Tuple.tupleExact _) (wpAny_newObj_type (wpAny_pure (wpAny_pure ⟨_, rfl, wpAny_pure h⟩)) htake))
    | exact wpAny_bind (wpAny_bind (m := Builtin.Tuple.tupleExact _) (wpAny_newObj_type (wpAny_pure ⟨_, rfl, wpAny_pure h⟩) htake))
end
end HT

namespace L2
open PySem PySem.Spec PyProof.Rows

/-! ### the parts of a slice -/
abbrev TO := St → Hp → (Option Int → Hp → Prop) → Prop
/-- a slice's part (left out, or an int) -/
noncomputable def PO (X : Cx) (e : Option Expr) (t : TO) : Prop :=
  ∀ (pins : List (Addr × Obj)) (s : Shared) (σ : St) (H : Hp) (Q : Option Int → Hp → Prop), Inv X pins σ H s → t σ H Q →
    wpAny (model X.prog X.w) X.A (evalPart e X.env) (fun u s' => ∃ o H', Inv X pins σ H' s' ∧ IsPart u o ∧ Q o H') X.xe s
noncomputable def tNoPart : TO := fun _ H Q => Q none H
noncomputable def tPart (t : TE) : TO := fun σ H Q => t σ H fun x H1 => ∃ i, x = .int i ∧ Q (some i) H1

section
variable {X : Cx} {e : Expr} {te : TE} {lo hi : Option Expr} {tl th : TO} {pos p2 : Pos}

theorem po_none : PO X none tNoPart := by
  intro pins s σ H Q I h
  rw [evalPart_none]
  exact wpAny_pure ⟨none, H, I, .none, h⟩
theorem po_some (h : PE X e te) : PO X (some e) (tPart te) := by
  intro pins s σ H Q I hw
  rw [evalPart_some]
  refine thn (h pins s σ H _ I hw) fun u s1 ⟨x, H1, I1, r1, q1⟩ => ?_
  obtain ⟨i, rfl, q⟩ := q1
  obtain ⟨t, rfl⟩ := r1
  exact ⟨some i, H1, I1, .int i t, q⟩

/-- what a slice of a value is, by values: the slice object stands at sl -/
noncomputable def SlR (X : Cx) (r : V → Option Int → Option Int → Hp → VK → Prop) : Prop :=
  ∀ (pins : List (Addr × Obj)) (s : Shared) (σ : St) (H : Hp) (x : V) (v vl vu : Value) (lo hi : Option Int) (sl : Addr) (Q : VK), Inv X pins σ H s → RelV x v → s.heap.IsSliceOf sl vl vu .none → IsPart vl lo → IsPart vu hi → r x lo hi H Q →
    ∃ T id, typeLookup (.type T) "__getitem__" = pure (some (.builtin id)) ∧ s.TypeIs v T ∧ wpAny (model X.prog X.w) X.A (getItem v (.ref sl)) (EP X pins σ Q) X.xe s
noncomputable def tSl (r : V → Option Int → Option Int → Hp → VK → Prop) (te : TE) (tl th : TO) : TE := fun σ H Q => te σ H fun x H1 => tl σ H1 fun l H2 => th σ H2 fun u H3 => r x l u H3 Q
/-- a[lo:hi], any a -/
theorem pe_slice {r : V → Option Int → Option Int → Hp → VK → Prop} (hr : SlR X r) (he : PE X e te) (hl : PO X lo tl) (hu : PO X hi th) : PE X (.Subscript e (.Slice lo hi none p2) pos) (tSl r te tl th) := by
  intro pins s σ H Q I h
  refine Subscript_ (thn (he pins s σ H _ I h) fun v s1 ⟨x, H1, I1, r1, q1⟩ => ?_)
  refine wpAny_Slice (thn (hl pins s1 σ H1 _ I1 q1) fun vl s2 ⟨l, H2, I2, pl, q2⟩ => thn (hu pins s2 σ H2 _ I2 q2) fun vu s3 ⟨u, H3, I3, pu, q3⟩ => ?_)
  rw [evalPart_none]
  refine wpAny_pure ?_
  have I4 : Inv X pins σ H3 { s3 with heap := s3.heap.push { cls := .type "slice", data := .fields #[vl, vu, .none] } } := I3.kept (t' := s3.toks) fun b ob q => Heap.get?_push_of_some _ q
  obtain ⟨T, id, hT, ht, hg⟩ := hr pins { s3 with heap := s3.heap.push { cls := .type "slice", data := .fields #[vl, vu, .none] } } σ H3 x v vl vu l u s3.heap.objs.size Q I4 r1 (Heap.IsSliceOf.new ..) pl pu q3
  show wpAny (model X.prog X.w) X.A (subscriptTail e (.Slice lo hi none p2) v (.ref s3.heap.objs.size)) (EP X pins σ Q) X.xe { s3 with heap := s3.heap.push { cls := .type "slice", data := .fields #[vl, vu, .none] } }
  exact tail_any (ops := [.ref s3.heap.objs.size, v]) ht hT hg (by with_unfolding_all rfl)

/-- the items of xs[lo:hi] -/
noncomputable def cutV (xs : List V) (lo hi : Option Int) : List V := (xs.drop (HT.sIx xs.length 0 lo)).take (HT.sIx xs.length xs.length hi - HT.sIx xs.length 0 lo)
theorem cutV_length (xs : List V) (lo hi : Option Int) : (cutV xs lo hi).length ≤ xs.length := by
  unfold cutV
  rw [List.length_take, List.length_drop]
  omega
/-- t[lo:hi], not the whole of it (the whole would be t itself) -/
noncomputable def rSlT (K : PySem.W.Frag) : V → Option Int → Option Int → Hp → VK → Prop := fun x lo hi H Q => ∃ a xs, x = .ref a ∧ SqT K H a xs ∧
  ¬ (HT.sIx xs.length 0 lo = 0 ∧ HT.sIx xs.length xs.length hi = xs.length) ∧ ∀ p, H p = none → Q (.ref p) (upd H p (.tup (cutV xs lo hi)))
theorem sl_tup : SlR X (rSlT X.K) := by
  intro pins s σ H x v vl vu lo hi sl Q I rx hs pl pu h
  obtain ⟨a, xs, rfl, hx, hw, q⟩ := h
  cases rx
  obtain ⟨its, r, ht, hz⟩ := I.tuple hx
  have hlen : its.toArray.size = xs.length := by rw [List.size_toArray]; exact r.length.symm
  refine ⟨"tuple", _, PyProof.Rows.slot_tuple_getitem.lookup, ht.typeIs, ?_⟩
  refine HT.getItem_tuple_cut ht hs pl pu (by rw [hlen]; exact hw) ?_ (by rw [hlen]; exact hz)
  rw [hlen]
  refine ⟨.ref s.heap.objs.size, _, I.laid (t' := s.toks) (o := .tup (cutV xs lo hi)) (fun b ob q => Heap.get?_push_of_some _ q) (Nat.le_refl _) ?_, rfl, q _ (I.hok.fresh (Nat.le_refl _))⟩
  exact ⟨Nat.le_trans (cutV_length xs lo hi) hz, _, (r.drop (HT.sIx xs.length 0 lo)).take (HT.sIx xs.length xs.length hi - HT.sIx xs.length 0 lo), IsTup.new _ _⟩

/-! ### t < u, t + u -/
/-- t + u, t not empty: u empty gives t itself -/
noncomputable def rCatT (K : PySem.W.Frag) : R2 := fun x y H Q => ∃ a b xs ys, x = .ref a ∧ y = .ref b ∧ SqT K H a xs ∧ SqT K H b ys ∧ xs ≠ [] ∧ xs.length + ys.length ≤ sizeLine ∧
  (ys = [] → Q (.ref a) H) ∧ (ys ≠ [] → ∀ p, H p = none → Q (.ref p) (upd H p (.tup (xs ++ ys))))
theorem Vals.nil_iff {xs : List V} {us : List Value} (r : Vals xs us) : us = [] ↔ xs = [] := by
  cases r with
  | nil => simp
  | cons _ _ => simp
theorem op_catT : OpR X (binaryOp .Add) (rCatT X.K) := by
  intro pins s σ H x y v u Q I rx ry h
  obtain ⟨a, b, xs, ys, rfl, rfl, ha, hb, hx, hz, q1, q2⟩ := h
  cases rx
  cases ry
  obtain ⟨its, r1, p1, _⟩ := I.tuple ha
  obtain ⟨its2, r2, p2, _⟩ := I.tuple hb
  refine HT.cat_tup p1 p2 (fun z => hx (r1.nil_iff.mp z)) (fun z => ⟨.ref a, H, I, rfl, q1 (r2.nil_iff.mp z)⟩) (fun z => ?_) (by rw [← r1.length, ← r2.length]; exact hz)
  refine ⟨.ref s.heap.objs.size, _, I.laid (t' := s.toks) (o := .tup (xs ++ ys)) (fun b ob q => Heap.get?_push_of_some _ q) (Nat.le_refl _) ?_, rfl, q2 (fun w => z (r2.nil_iff.mpr w)) _ (I.hok.fresh (Nat.le_refl _))⟩
  exact ⟨by rw [List.length_append]; exact hz, _, r1.append r2, IsTup.new _ _⟩
end
end L2

namespace L2
open PySem PySem.Spec PyProof.Rows

/-! ### places -/
/-- the place that an index of any sign means -/
noncomputable def ixN (n : Nat) (i : Int) : Option Nat := if 0 ≤ i then (if i < n then some i.toNat else none) else if -(n : Int) ≤ i then some (i + n).toNat else none
noncomputable def atI {α : Type} (xs : List α) (i : Int) : Option α := (ixN xs.length i).bind fun j => xs[j]?
theorem ixN_seq {n : Nat} {i : Int} {j : Nat} (h : ixN n i = some j) : seqIndex? i n = some j ∧ j < n ∧ -(n : Int) ≤ i ∧ i < n := by
  unfold ixN at h
  by_cases h0 : 0 ≤ i
  · rw [if_pos h0] at h
    by_cases h1 : i < n
    · rw [if_pos h1] at h
      have e : i.toNat = j := Option.some.inj h
      exact ⟨by rw [seqIndex_of h0 h1, e], by omega, by omega, h1⟩
    · rw [if_neg h1] at h; cases h
  · rw [if_neg h0] at h
    by_cases h1 : -(n : Int) ≤ i
    · rw [if_pos h1] at h
      have e : (i + n).toNat = j := Option.some.inj h
      exact ⟨by rw [seqIndex_neg (by omega) h1, e], by omega, h1, by omega⟩
    · rw [if_neg h1] at h; cases h
theorem atI_get {α : Type} {xs : List α} {i : Int} {v : α} (h : atI xs i = some v) : ∃ j, seqIndex? i xs.length = some j ∧ xs[j]? = some v ∧ j < xs.length ∧ -(xs.length : Int) ≤ i ∧ i < xs.length := by
  unfold atI at h
  cases e : ixN xs.length i with
  | none => rw [e] at h; cases h
  | some j =>
    rw [e] at h
    obtain ⟨h1, h2, h3, h4⟩ := ixN_seq e
    exact ⟨j, h1, h, h2, h3, h4⟩

/-! ### what may be subscripted -/
/-- what stands as an index of a plain subscript -/
noncomputable def PlainIx (b : Expr) : Prop := ∀ o i, subscripted b false o i = operate [o, i] (getItem o i)
/-- a subscript by values -/
noncomputable def IxR (X : Cx) (r : R2) : Prop :=
  ∀ (value slice : Expr) (pins : List (Addr × Obj)) (s : Shared) (σ : St) (H : Hp) (x y : V) (v u : Value) (Q : VK), Inv X pins σ H s → RelV x v → RelV y u → r x y H Q →
    subscripted slice false v u = operate [v, u] (getItem v u) → wpAny (model X.prog X.w) X.A (subscriptTail value slice v u) (EP X pins σ Q) X.xe s
/-- a call of a builtin's method by values: the receiver, the arguments -/
noncomputable def MtR (X : Cx) (id : String) (r : V → List V → Hp → VK → Prop) : Prop :=
  ∀ (pins : List (Addr × Obj)) (s : Shared) (σ : St) (H : Hp) (x : V) (xs : List V) (v : Value) (us : List Value) (Q : VK), Inv X pins σ H s → RelV x v → Vals xs us → r x xs H Q →
    wpAny (model X.prog X.w) X.A (call (.builtin id) (v :: us)) (EP X pins σ Q) X.xe s
section
variable {X : Cx} {a b : Expr} {ta tb : TE} {pos : Pos}
/-- a[b] -/
theorem pe_ix {r : R2} (hr : IxR X r) (ha : PE X a ta) (hb : PE X b tb) (hs : PlainIx b) : PE X (.Subscript a b pos) (tOp r ta tb) := by
  intro pins s σ H Q I h
  exact Subscript_ (binT ha hb I h fun v u s2 x y H2 I2 rx ry q => hr a b pins s2 σ H2 x y v u Q I2 rx ry q (hs _ _))

noncomputable def rIxL (K : PySem.W.Frag) : R2 := fun x y H Q => ∃ p xs i v, x = .ref p ∧ y = .int i ∧ SqL K H p xs ∧ atI xs i = some v ∧ Q v H
noncomputable def rIxT (K : PySem.W.Frag) : R2 := fun x y H Q => ∃ p xs i v, x = .ref p ∧ y = .int i ∧ SqT K H p xs ∧ atI xs i = some v ∧ Q v H
theorem ix_list : IxR X (rIxL X.K) := by
  intro value slice pins s σ H x y v u Q I rx ry h hs
  obtain ⟨p, xs, i, z, rfl, rfl, hq, he, q⟩ := h
  cases rx
  obtain ⟨t, rfl⟩ := ry
  obtain ⟨its, r, pl, hz⟩ := I.list hq
  obtain ⟨j, h1, h2, h3, h4, h5⟩ := atI_get he
  obtain ⟨w, ew, rw'⟩ := r.get h2
  have hl := r.length
  have hn := line63
  have fin : EP X pins σ Q w s := ⟨z, H, I, rw', q⟩
  by_cases h0 : 0 ≤ i
  · have hj : i.toNat = j := by
      rw [seqIndex_of h0 h5] at h1
      exact Option.some.inj h1
    exact item_listR pl.isList h0 (by omega) (by rw [hj]; simpa using ew) fin hs
  · have hj : (i + (its.toArray.size : Int)).toNat = j := by
      rw [seqIndex_neg (by omega) h4] at h1
      rw [List.size_toArray, ← hl]
      exact Option.some.inj h1
    exact subscriptTail_builtinR (x := w) pl.isList.typeIs slot_list_getitem.lookup
      (wpAny_getItem_list_neg (Q := fun r s' => r = w ∧ EP X pins σ Q r s') pl.isList (by omega) (by rw [List.size_toArray] <;> omega) (by omega) (by rw [hj]; simpa using ew) ⟨rfl, fin⟩) hs
theorem ix_tup : IxR X (rIxT X.K) := by
  intro value slice pins s σ H x y v u Q I rx ry h hs
  obtain ⟨p, xs, i, z, rfl, rfl, hq, he, q⟩ := h
  cases rx
  obtain ⟨t, rfl⟩ := ry
  obtain ⟨its, r, pl, hz⟩ := I.tuple hq
  obtain ⟨j, h1, h2, h3, h4, h5⟩ := atI_get he
  obtain ⟨w, ew, rw'⟩ := r.get h2
  have hl := r.length
  have hn := line63
  have fin : EP X pins σ Q w s := ⟨z, H, I, rw', q⟩
  exact subscriptTail_builtinR (x := w) pl.typeIs slot_tuple_getitem.lookup
    (getItem_tuple (j := j) (Q := fun r s' => r = w ∧ EP X pins σ Q r s') pl (by omega) (by omega) (by rw [List.size_toArray, ← hl]; exact h1) (by simpa using ew) ⟨rfl, fin⟩) hs

/-! ### xs[i] = v, any sign -/

/-! ### slices -/
theorem slice_bounds (lo hi : Option Int) (n : Nat) : (sliceBounds lo hi none n).1 = ((HT.sIx n 0 lo : Nat) : Int) ∧ (sliceBounds lo hi none n).2.1 = ((HT.sIx n n hi : Nat) : Int) ∧ (sliceBounds lo hi none n).2.2 = 1 := by
  refine ⟨?_, ?_, rfl⟩
  · cases lo with
    | none => simp [sliceBounds, HT.sIx]
    | some i =>
      simp only [sliceBounds, HT.sIx, Option.getD_none, show (1 : Int) > 0 by decide, if_true]
      by_cases h : i < 0
      · simp only [h, if_true] <;> omega
      · simp only [h, if_false] <;> omega
  · cases hi with
    | none => simp [sliceBounds, HT.sIx]
    | some i =>
      simp only [sliceBounds, HT.sIx, Option.getD_none, show (1 : Int) > 0 by decide, if_true]
      by_cases h : i < 0
      · simp only [h, if_true] <;> omega
      · simp only [h, if_false] <;> omega
theorem slicePick_cut (its : List Value) (lo hi : Option Int) : slicePick its.toArray lo hi none = ((its.drop (HT.sIx its.length 0 lo)).take (HT.sIx its.length its.length hi - HT.sIx its.length 0 lo)).toArray := by
  obtain ⟨h1, h2, h3⟩ := slice_bounds lo hi its.toArray.size
  unfold slicePick
  rw [h1, h2, h3]
  simp only [sliceRange_one, pick_run, List.size_toArray] <;> rfl
/-- xs[lo:hi] of a list: a new list -/
noncomputable def rSlL (K : PySem.W.Frag) : V → Option Int → Option Int → Hp → VK → Prop := fun x lo hi H Q => ∃ a xs, x = .ref a ∧ SqL K H a xs ∧ ∀ p, H p = none → Q (.ref p) (upd H p (.lst (cutV xs lo hi)))
theorem sl_list : SlR X (rSlL X.K) := by
  intro pins s σ H x v vl vu lo hi sl Q I rx hs pl pu h
  obtain ⟨a, xs, rfl, hx, q⟩ := h
  cases rx
  obtain ⟨its, r, ht, hz⟩ := I.list hx
  have hlen := r.length
  refine ⟨"list", _, slot_list_getitem.lookup, ht.isList.typeIs, ?_⟩
  refine wpAny_getItem_list_slice ht.isList hs pl pu .none (by simp) ?_ (by rw [List.size_toArray] <;> omega)
  rw [slicePick_cut, ← hlen]
  refine ⟨.ref s.heap.objs.size, _, I.laid (t' := s.toks) (o := .lst (cutV xs lo hi)) (fun b ob q => Heap.get?_push_of_some _ q) (Nat.le_refl _) ?_, rfl, q _ (I.hok.fresh (Nat.le_refl _))⟩
  exact ⟨Nat.le_trans (cutV_length xs lo hi) hz, _, 0, (r.drop (HT.sIx xs.length 0 lo)).take (HT.sIx xs.length xs.length hi - HT.sIx xs.length 0 lo), Heap.get?_push_size _ rfl⟩

/-! ### in, not in: flat items -/
noncomputable def flatV : V → Bool
  | .non => true
  | .bl _ => true
  | .int _ => true
  | .str _ => true
  | _ => false

/-! ### len, list(x), tuple(x) of any list or tuple that is read -/
theorem call_len_seq : CallR X (.builtin "len") (fun xs H Q => ∃ p ys, xs = [.ref p] ∧ (SqL X.K H p ys ∨ SqT X.K H p ys) ∧ Q (.int ys.length) H) := by
  intro pins s σ H xs us Q I r h
  obtain ⟨p, ys, rfl, hq, q⟩ := h
  obtain ⟨u, rfl, rx⟩ := vals1 r
  cases rx
  have hn := line63
  rcases hq with hq | hq
  · obtain ⟨its, r', pl, hz⟩ := I.list hq
    have hlen := r'.length
    exact Calls.call_len_list pl.isList (by simp only [List.size_toArray] <;> omega) ⟨.int ys.length, H, I.tok _, ⟨s.toks + 1, by rw [List.size_toArray, hlen]⟩, q⟩
  · obtain ⟨its, r', pl, hz⟩ := I.tuple hq
    have hlen := r'.length
    exact len_tuple pl (by simp only [List.size_toArray] <;> omega) ⟨.int ys.length, H, I.tok _, ⟨s.toks + 1, by rw [List.size_toArray, hlen]⟩, q⟩
theorem call_tuple_of : CallR X (.type "tuple") (fun xs H Q => ∃ p ys, xs = [.ref p] ∧ ((SqL X.K H p ys ∧ ∀ l, H l = none → Q (.ref l) (upd H l (.tup ys))) ∨ (SqT X.K H p ys ∧ Q (.ref p) H))) := by
  intro pins s σ H xs us Q I r h
  obtain ⟨p, ys, rfl, h⟩ := h
  obtain ⟨u, rfl, rx⟩ := vals1 r
  cases rx
  rcases h with ⟨hq, q⟩ | ⟨hq, q⟩
  · obtain ⟨its, r', pl, hz⟩ := I.list hq
    have hlen := r'.length
    refine call_tuple_list pl.isList (fun h' kp => ?_) (by simp only [List.size_toArray] <;> omega)
    have I1 : Inv X pins σ H { s with heap := h' } := I.kept (t' := s.toks) kp
    have I2 : Inv X pins σ (upd H h'.objs.size (.tup ys)) { s with heap := h'.push { cls := .type "tuple", data := .seq its.toArray } } :=
      I1.laid (t' := s.toks) (fun b o e => Heap.get?_push_of_some _ e) (Nat.le_refl _) (show ObjOk X.prog X.w _ _ _ (.tup ys) from ⟨hz, its, r', IsTup.new _ _⟩)
    exact ⟨.ref h'.objs.size, _, I2, rfl, q _ (I1.hok.fresh (Nat.le_refl _))⟩
  · obtain ⟨its, r', pl, hz⟩ := I.tuple hq
    exact call_tuple_same pl ⟨.ref p, H, I, rfl, q⟩

/-! ### the call of a builtin's method: o.m(..) -/
/-- the value is of that builtin type -/
noncomputable def tyV (K : PySem.W.Frag) (T : String) (x : V) (H : Hp) : Prop := match x with
  | .str _ => T = "str"
  | .int _ => T = "int"
  | .ref p => (T = "list" ∧ ∃ xs, SqL K H p xs) ∨ (T = "tuple" ∧ ∃ o, K.lookup p = some o ∧ o.cls = .type "tuple" ∧ o.dict = none) ∨
      (T = "dict" ∧ ((∃ kvs, H p = some (.dK kvs)) ∨ ∃ kvs, H p = some (.dT kvs))) ∨ (T = "set" ∧ ∃ S n, H p = some (.set S n))
  | _ => False
theorem tyV_is {pins : List (Addr × Obj)} {σ : St} {H : Hp} {s : Shared} {T : String} {x : V} {v : Value} (I : Inv X pins σ H s) (r : RelV x v) (ty : tyV X.K T x H) :
    s.TypeIs v T ∧ ∀ a, v = .ref a → ∃ ob, s.heap.get? a = some ob ∧ ob.dict = none := by
  cases x with
  | str z =>
    obtain ⟨t, rfl⟩ := r
    cases (show T = "str" from ty)
    exact ⟨typeIs_str s z t, fun _ e => nomatch e⟩
  | int i =>
    obtain ⟨t, rfl⟩ := r
    cases (show T = "int" from ty)
    exact ⟨typeIs_int s i t, fun _ e => nomatch e⟩
  | ref p =>
    cases r
    rcases ty with ⟨rfl, xs, hq⟩ | ⟨rfl, o, hk, hc, hd⟩ | ⟨rfl, hk⟩ | ⟨rfl, S, n, hk⟩
    · obtain ⟨its, _, pl, _⟩ := I.list hq
      refine ⟨pl.isList.typeIs, fun a e => ?_⟩
      cases e
      obtain ⟨o, n, e, c, hd, _⟩ := pl
      exact ⟨o, e, hd⟩
    · refine ⟨⟨o, I.kIn p o hk, hc⟩, fun a e => ?_⟩
      cases e
      exact ⟨o, I.kIn _ o hk, hd⟩
    · have z : ∃ o, s.heap.get? p = some o ∧ o.ExactDict := by
        rcases hk with ⟨kvs, hk⟩ | ⟨kvs, hk⟩
        · obtain ⟨_, _, _, _, o, _, _, e, ex, _⟩ := I.hok p _ hk
          exact ⟨o, e, ex⟩
        · obtain ⟨_, _, _, _, o, _, _, e, ex, _⟩ := I.hok p _ hk
          exact ⟨o, e, ex⟩
      obtain ⟨o, e, ex⟩ := z
      refine ⟨⟨o, e, ex.1⟩, fun a e2 => ?_⟩
      cases e2
      exact ⟨o, e, ex.2.1⟩
    · obtain ⟨o, _, _, _, e, ex, _⟩ := I.hok p _ hk
      refine ⟨⟨o, e, ex.1⟩, fun a e2 => ?_⟩
      cases e2
      exact ⟨o, e, ex.2.1⟩
  | _ => exact False.elim ty
noncomputable def tBM (K : PySem.W.Frag) (T : String) (r : V → List V → Hp → VK → Prop) (to : TE) (t : TA) : TE := fun σ H Q => to σ H fun x H1 => tyV K T x H1 ∧ t σ H1 fun xs H2 => r x xs H2 Q
variable {o e : Expr} {es : List Expr} {to : TE} {t : TA} {name : Str} {apos cpos : Pos} {T id : String} {r : V → List V → Hp → VK → Prop}
theorem pe_bm (pa : PlainAttrs T) (slot : Slot T name id) (hty : typeOf (.builtin id) = pure (.type "method_descriptor")) (hm : MtR X id r) (ho : PE X o to) (ha : PA X (e :: es) t)
    (hbase : attributeBase o name X.env (eval o X.env) = eval o X.env := by rfl)
    (hfew : ((backTo cpos (starEach (e :: es) X.env)).all (fun x => !x.1) && (backToKw cpos (keywordEach [] X.env)).all (fun x => x.1.isSome)
      && decide ((e :: es).length + ([] : List Keyword).length + (if ([] : List Keyword).isEmpty then 0 else 1) < 30)) = true := by rfl)
    (hline : (apos.endLine == cpos.line) = true := by rfl) (hs : starEach (e :: es) X.env = (false, eval e X.env) :: starEach es X.env := by rfl) (hplain : (backTo cpos (starEach es X.env)).any (·.1) = false := by rfl) :
    PE X (.Call (.Attribute o name apos) (e :: es) [] cpos) (tBM X.K T r to t) := by
  intro pins s σ H Q I h
  refine wpAny_Call_method_late hbase hfew hline rfl (thn (ho pins s σ H _ I h) fun v s1 ⟨x, H1, I1, r1, ty, q1⟩ => ?_)
  obtain ⟨h1, h2⟩ := tyV_is I1 r1 ty
  refine ⟨T, id, pa, slot, hty, h1, h2, ?_⟩
  have hA := ha cpos pins s1 σ H1 _ I1 q1
  rw [hs] at hA ⊢
  refine Calls.callWith_builtin (by show (false || (backTo cpos (starEach es X.env)).any (·.1)) = false; rw [hplain] <;> rfl) (Calls.evalArgs_plain ?_)
  exact thn hA fun us s2 ⟨vs, H2, I2, r2, q2⟩ => hm pins s2 σ H2 x vs v us Q I2 r1 r2 q2
/- xs.append(e), list.index on a module's tuple .. are MtR facts of 06m -/
end
end L2

namespace L2
open PySem PySem.Spec PyProof.Rows

noncomputable def MtM (X : Cx) (id : String) (r : V → List V → Hp → VK → Prop) : Prop :=
  ∀ (pins : List (Addr × Obj)) (s : Shared) (σ : St) (H : Hp) (x : V) (xs : List V) (v : Value) (us : List Value) (Q : VK), Inv X pins σ H s → RelV x v → Vals xs us → r x xs H Q →
    wpAny (model X.prog X.w) X.A (call (.builtin id) (v :: us)) (EP X pins σ Q) X.xe s

/-! ### lists of values -/
theorem Vals.one : ∀ {x : V} {us : List Value}, Vals [x] us → ∃ u, us = [u] ∧ RelV x u
  | _, _, .cons r .nil => ⟨_, rfl, r⟩
theorem Vals.two : ∀ {x y : V} {us : List Value}, Vals [x, y] us → ∃ u v, us = [u, v] ∧ RelV x u ∧ RelV y v
  | _, _, _, .cons r (.cons q .nil) => ⟨_, _, rfl, r, q⟩

section
variable {X : Cx} {pins : List (Addr × Obj)} {σ : St} {H : Hp} {s : Shared} {l b : Addr} {xs ys zs : List V}

/-! ### the two steps: a tracked list is rewritten, a new list is laid -/
theorem Inv.lset {its its' : List Value} {n : Nat} {f : Array Value → Array Value} {t' : Nat} (I : Inv X pins σ H s) (hH : H l = some (.lst xs))
    (e : s.heap.get? l = some { cls := .type "list", data := .seq its.toArray n }) (hf : f its.toArray = its'.toArray) (hv : Vals ys its') (hz : ys.length ≤ sizeLine) :
    Inv X pins σ (upd H l (.lst ys)) { s with heap := s.heap.update l (Obj.mapSeq f), toks := t' } := by
  have q := PySem.IsL.update e f
  rw [hf] at q
  refine I.write (x := l) (e := l) (by rw [hH]; exact trivial) (.inl rfl) (fun b' u hb hu => (Heap.get?_update_other s.heap (Obj.mapSeq f) (Ne.symm hb)).trans hu) ⟨_, q⟩ ?_
  exact ⟨hz, its', _, hv, q⟩
theorem Inv.lnew {its : List Value} {t' : Nat} (I : Inv X pins σ H s) (hv : Vals ys its) (hz : ys.length ≤ sizeLine) :
    Inv X pins σ (upd H s.heap.objs.size (.lst ys)) { s with heap := s.heap.push { cls := .type "list", data := .seq its.toArray }, toks := t' } :=
  I.laid (fun _ _ q => Heap.get?_push_of_some _ q) (Nat.le_refl _) ⟨hz, its, 0, hv, Heap.get?_push_size _ rfl⟩
theorem Inv.fresh (I : Inv X pins σ H s) : H s.heap.objs.size = none := I.hok.fresh (Nat.le_refl _)
theorem Inv.lstM (I : Inv X pins σ H s) (hH : H l = some (.lst xs)) : xs.length ≤ sizeLine ∧ ∃ (its : List Value) (n : Nat), Vals xs its ∧ xs.length = its.length ∧ s.heap.get? l = some { cls := .type "list", data := .seq its.toArray n } := by
  obtain ⟨z, its, n, r, e⟩ := I.hok l _ hH
  exact ⟨z, its, n, r, r.length, e⟩

end

section
variable {X : Cx}

/-! ### methods -/
noncomputable def rAppend : V → List V → Hp → VK → Prop := fun x vs H Q => ∃ l xs y, x = .ref l ∧ vs = [y] ∧ H l = some (.lst xs) ∧ xs.length < sizeLine ∧ Q .non (upd H l (.lst (xs ++ [y])))
theorem mt_append : MtM X "list.append" rAppend := by
  intro pins s σ H x vs v us Q I rx rv h
  obtain ⟨l, xs, y, rfl, rfl, hH, hz, q⟩ := h
  cases rx
  obtain ⟨u, rfl, ru⟩ := rv.one
  obtain ⟨z, its, n, r, hl, e⟩ := I.lstM hH
  refine call_meets F.slot_list_append ⟨_, e, rfl⟩ F.entry_list_append (F.args_list_append_2 _ _) (PySem.list_append l its.toArray n u (by rw [List.size_toArray]; omega)) ⟨e, ?_⟩
  refine ⟨.non, _, I.lset (its' := its ++ [u]) hH e (by simp) (r.append (.cons ru .nil)) ?_, rfl, q⟩
  rw [List.length_append, List.length_singleton]
  omega

/-! ### list + list, list += list, list * int -/
noncomputable def rCat : R2 := fun x y H Q => ∃ l b xs zs, x = .ref l ∧ y = .ref b ∧ H l = some (.lst xs) ∧ H b = some (.lst zs) ∧ xs.length + zs.length ≤ sizeLine ∧ ∀ p, H p = none → Q (.ref p) (upd H p (.lst (xs ++ zs)))
theorem op_cat : OpR X (binaryOp .Add) rCat := by
  intro pins s σ H x y v u Q I rx ry h
  obtain ⟨l, b, xs, zs, rfl, rfl, hH, hB, hz, q⟩ := h
  cases rx
  cases ry
  obtain ⟨z, its, n, r, hl, e⟩ := I.lstM hH
  obtain ⟨z2, its2, n2, r2, hl2, e2⟩ := I.lstM hB
  refine PySem.P.add_list e e2 ?_ (by rw [List.size_toArray, List.size_toArray]; omega)
  have ea : its.toArray ++ its2.toArray = (its ++ its2).toArray := by simp
  rw [ea]
  exact ⟨.ref _, _, I.lnew (t' := s.toks) (r.append r2) (by rw [List.length_append]; omega), rfl, q _ I.fresh⟩

/-! ### del xs[i] -/
end

/-! ### xs[a:b] = ys -/
section
variable {prog : Program} {w : World} {A : Around} {E : Value → Shared → Prop} {s : Shared}
end

section
variable {X : Cx}
end
end L2

namespace Att
open PySem PySem.W PySem.Calls PyProof.Rows

/-! ### the script -/
theorem ints_of_wellAll {P : Params} {h : Heap} : ∀ (ns : List Int) (vs : List Value), WellAll P h vs (ns.map WData.int) → IntsAre vs ns := by
  intro ns
  induction ns with
  | nil =>
    intro vs w
    rw [List.map_nil] at w
    cases w
    exact .nil
  | cons n ns ih =>
    intro vs w
    rw [List.map_cons] at w
    cases w with
    | cons a b =>
      cases a
      exact .cons _ _ (ih _ b)

theorem script_of {l : OpenLaw} {n : Nat} (hn : l.most = some n) {P : Params} {h : Heap} {args : List WData} {vals : List Value}
    (hpre : l.row.toRowW.claim.pre args = true) (hwl : WellAll P h vals args) :
    ∃ a vs ns, vals = [Value.ref a] ∧ args = [WData.list (ns.map WData.int)] ∧ h.get? a = some { cls := .type "list", data := .seq vs.toArray } ∧ IntsAre vs ns ∧ ns.length ≤ n := by
  have hsh : WShape.hasAll [] args [.list .int] = true := (pre_splitW hpre).1
  have hc : l.pre.holds [] { args := args } = true := (pre_splitW hpre).2
  obtain ⟨d, r, rfl, h1, h2⟩ := hasAllW_cons hsh
  obtain rfl := hasAllW_nil h2
  obtain ⟨xs, rfl, h3⟩ := hasW_list h1
  obtain ⟨ns, rfl⟩ := items_int h3
  have hlen : ns.length ≤ n := by
    unfold OpenLaw.pre at hc
    have h4 : (WTm.not (.lt (.lit (.int (n : Int))) (.len (.arg 0)))).holds [] { args := [.list (ns.map .int)] } = true := by
      have h4 := (holds_andW hc).1
      rw [hn] at h4
      exact h4
    have h5 := condW_of h4 (w_not (w_lt w_lit (w_len_list (w_arg rfl))))
    rw [List.length_map] at h5
    refine Nat.le_of_not_lt fun q => ?_
    have q' : (n : Int) < ((ns.length : Nat) : Int) := by omega
    first
      | (rw [decide_eq_true q'] at h5; exact absurd h5 (by decide))
      | (simp at h5; omega)
  cases hwl with
  | cons w1 w2 =>
    cases w2
    cases w1 with
    | list ho hall => exact ⟨_, _, ns, rfl, rfl, ho, ints_of_wellAll ns _ hall, hlen⟩

theorem post_true (l : OpenLaw) (args : List WData) : l.row.toRowW.claim.post args (.bool true) args = true :=
  postW_of (r := l.row.toRowW) (X := (true == true))
    (show WShape.has [] (.bool true) .bool = true by first | rfl | decide | simp [WShape.has, WShape.arms, WShape.armsAll])
    (show (WTm.eq .res (.lit (.bool true))).value [] { args := args, res := some (.bool true), after := args } = some (.bool (true == true)) from w_eq_bool (w_res rfl) w_lit) rfl

/-! ### the attachment: holds_open's last premise (the goal 'hc' behind k_head) from a wpAny of the law's body -/

/-- the same from a codeAny of the CALL (for a layer whose function contracts speak of calls) -/
theorem attach_call {l : OpenLaw} {n : Nat} {q : Program} {loose : List Str} {XP : (Str → Option Value) → Heap → Prop} {YP : World → Heap → Prop} {d : DefRec}
    (hn : l.most = some n) (hdf : d.params.defaults = [])
    (call : ∀ (w : World) (s₀ s₁ : Shared) (mg mb : Str → Option Value) (fa : Addr) (o : Obj) (pm cd doc : Value) (a : Addr) (vs : List Value) (ns : List Int),
      Ground q loose [] XP w s₀ mg mb s₁.heap → YP w s₁.heap →
      s₁.heap.get? fa = some o → o.data = .func (docDef d.name d.params d.body d.scope pm cd doc) → s₁.heap.CodeRec cd d.name → mg d.name = some (.ref fa) →
      s₁.heap.get? a = some { cls := .type "list", data := .seq vs.toArray } → IntsAre vs ns → ns.length ≤ n → s₁.gens = #[] →
      codeAny (model l.prog w) callerA (.call (.ref fa) ⟨[.ref a], []⟩) (fun r s' => r = .ok (.ret (.bool true)) ∧ OldK s₁.heap s'.heap ∧ s'.os = s₁.os ∧ AllBare s'.gens) s₁) :
    WalkO q loose XP YP l.row.toRowW d [] (fun f vs => PySem.call f vs) := by
  intro w s₀ s₁ mg mb G Y fa o pm cd doc dV kV ho hd hcd hD hmg hg args vals as hpre hlay hrd hwl hlo
  obtain rfl : dV = .none := Dflts.none hD hdf
  obtain rfl : kV = .none := Dflts.noKw hD
  obtain ⟨a, vs, ns, rfl, rfl, hobj, hints, hlen⟩ := script_of hn hpre hwl
  refine enter_call (codeAny_mono (call w s₀ s₁ mg mb fa o pm cd doc a vs ns G Y ho (fd_plain hd) hcd hmg hobj hints hlen hg) fun r s' hq => ?_)
  obtain ⟨rfl, h2, h3, h4⟩ := hq
  exact ⟨.inl ⟨.bool true, .bool true, [], rfl, fun _ => rfl, .bool true, post_true l _, fun _ => ⟨List.Pairwise.nil, fun _ hm => (nomatch hm)⟩⟩, h2, h3, h4⟩

/-! ### rules over ANY heap (no ledger) from facts about the written part K: the library's own take a ledger (News) for what they write -/
section
variable {prog : Program} {w : World} {A : Around} {E : Value → Shared → Prop} {s : Shared} {K : Frag}

/-! the whole heap as the ledger: makes every rule that writes through a ledger a rule over any heap -/

end
end Att

namespace L2
open PySem PySem.Spec PyProof.Rows

theorem vals_ints : ∀ {vs : List Value} {ns : List Int}, IntsAre vs ns → Vals (ns.map V.int) vs
  | _, _, .nil => .nil
  | _, _, .cons n t h => .cons ⟨t, rfl⟩ (vals_ints h)

/-- nothing is tracked but the script, known to the object (or it is an object of the module) -/
noncomputable def Only (H : Hp) : Prop := ∀ b, H b = none ∨ ∃ o xs, H b = some (.frz o (.lst xs))

/-- THE HEAD: the law's promise, at the heap behind the top. F, the promise of the law's def, may use that base is part of the heap (so K.In base, base.Ns mainGlobals mg stand in Mod) -/
theorem law_call {P : Program} {w : World} {K : PySem.W.Frag} {mg mb : Str → Option Value} {CX : CXT} {k : Nat} {fa a : Addr} {fd : FuncData} {x : Str} {sp : Sp} {s₁ : Shared} {vs : List Value} {ns : List Int}
    (KX : K.In s₁.heap) (hns : s₁.heap.Ns mainGlobals mg) (hb : s₁.heap.Ns builtinsNs mb) (hbb : ∀ x : Str, x ≠ "__name__" → mb x = bootBuiltins x) (hlim : s₁.heap.NoLimit) (hg : s₁.gens = #[])
    (ha : s₁.heap.get? a = some { cls := .type "list", data := .seq vs.toArray }) (hi : IntsAre vs ns) (hl : ns.length ≤ sizeLine) (hr : Room k callerA)
    (F : ∀ base : Heap, K.In base → base.Ns mainGlobals mg → FnOk P w K mg base CX k fa fd [x] sp) (hbind : ∀ (s : Shared) (u : Value), BindsTo s fd ⟨[u], []⟩ [(x, u)])
    (hsp : ∀ H : Hp, Only H → SqL K H a (ns.map V.int) → sp [.ref a] H (fun v _ => v = .bl true) fun _ _ _ => False)
    (hCX : ∀ H e s', CX [] H s₁ (fun _ _ _ => False) e s' → False) :
    codeAny (model P w) callerA (.call (.ref fa) ⟨[.ref a], []⟩) (fun r s' => r = .ok (.ret (.bool true)) ∧ OldK s₁.heap s'.heap ∧ s'.os = s₁.os ∧ AllBare s'.gens) s₁ := by
  have rv := vals_ints hi
  have lenV := hi.length
  -- from an abstract heap in which nothing but the script may be tracked
  have core : ∀ H : Hp, Only H → SqL K H a (ns.map V.int) → HOk P w H s₁.heap → (∀ b, H b ≠ none → b = a) → (H a ≠ none → K.lookup a = none) →
      codeAny (model P w) callerA (.call (.ref fa) ⟨[.ref a], []⟩) (fun r s' => r = .ok (.ret (.bool true)) ∧ OldK s₁.heap s'.heap ∧ s'.os = s₁.os ∧ AllBare s'.gens) s₁ := by
    intro H hO hS hok hA hK
    have base_of : ∀ {b : Addr} {o : Obj}, s₁.heap.get? b = some o → H b = none → (hidT s₁.heap H).get? b = some o := fun e n => hidT_get e n
    have noA : ∀ {b : Addr} {o : Obj} {es : Array DictEntry} {ep : Nat}, s₁.heap.get? b = some o → o.data = .dict es ep → H b = none := fun {b o es ep} e d => by
      cases q : H b with
      | none => rfl
      | some u =>
        have e' : b = a := hA b (by rw [q]; simp)
        subst e'
        rw [ha] at e; cases e
        have d' : Data.seq vs.toArray _ = Data.dict es ep := d
        cases d'
    have nsK : ∀ {b : Addr} {m : Str → Option Value}, s₁.heap.Ns b m → (hidT s₁.heap H).Ns b m := fun {b m} ⟨o, es, ep, e, d, r⟩ => ⟨o, es, ep, base_of e (noA e d), d, r⟩
    have hKb : K.In (hidT s₁.heap H) := fun b o e => base_of (KX b o e) (by
      cases q : H b with
      | none => rfl
      | some u =>
        have e' : b = a := hA b (by rw [q]; simp)
        subst e'
        rw [hK (by rw [q]; simp)] at e; cases e)
    have hM : Mod K mg (hidT s₁.heap H) := ⟨hKb, nsK hns, ⟨mb, nsK hb, hbb⟩, let ⟨mc, h1, h2⟩ := hlim; ⟨mc, nsK h1, h2⟩⟩
    have e0 : Env0 P w K mg (hidT s₁.heap H) callerA [] s₁ H := ⟨rfl, hM, fun b o e => of_hidT e, Nat.le_of_eq (hidT_size _ _), trivial, fun b hb => absurd (show b ∈ ([] : List Addr) from hb) (by simp), hok, .of_eq hg⟩
    refine codeAny_mono ((F _ hKb (nsK hns)).run callerA [] s₁ H ⟨[.ref a], []⟩ [.ref a] [.ref a] _ _ hr e0 (hbind s₁ (.ref a)) (.cons rfl .nil) (hsp H hO hS)) fun r s' h => ?_
    cases r with
    | error e => exact (hCX H e s' h).elim
    | ok fl =>
      cases fl with
      | next => exact False.elim h
      | brk => exact False.elim h
      | cont => exact False.elim h
      | ret u =>
        obtain ⟨v, H', os, bare, un, hok', r', q⟩ := h
        have q' : v = .bl true := q
        subst q'
        obtain rfl : u = Value.bool true := r'
        refine ⟨rfl, OldK.of_keep fun b o e => ?_, os, bare⟩
        cases q : H b with
        | none => exact un.keep b o e q (by intro z; exact absurd (show b ∈ ([] : List Addr) from z) (by simp)) (by simp)
        | some u =>
          rcases hO b with z | ⟨ob, xs, z⟩
          · rw [q] at z; cases z
          · have z2 := un.frzs b ob _ z
            obtain ⟨e1, _⟩ := hok b _ z
            obtain ⟨e2, _⟩ := hok' b _ z2
            rw [e] at e1; cases e1
            exact e2
  cases hk : K.lookup a with
  | some o =>
    -- the script is one of the module's own objects
    have e := KX a o hk
    rw [ha] at e
    cases e
    refine core (fun _ => none) (fun _ => .inl rfl) (.inr ⟨_, vs.toArray, _, hk, rfl, rfl, rfl, by rw [List.size_toArray, lenV]; exact hl, by simpa using rv⟩) (fun b u z => by have z' : (none : Option HO) = some u := z; cases z') (fun b z => absurd rfl z) fun z => absurd rfl z
  | none =>
    refine core (fun b => if b = a then some (.frz { cls := .type "list", data := .seq vs.toArray } (.lst (ns.map V.int))) else none) (fun b => ?_) (.inl (.inr ⟨{ cls := .type "list", data := .seq vs.toArray }, if_pos rfl⟩)) (fun b u z => ?_) (fun b z => ?_) fun _ => hk
    · by_cases hb : b = a
      · exact .inr ⟨_, _, if_pos hb⟩
      · exact .inl (if_neg hb)
    · by_cases hb : b = a
      · have z' := (if_pos hb).symm.trans z
        cases z'
        subst hb
        exact ⟨ha, by rw [List.length_map]; exact hl, vs, _, rv, ha⟩
      · have z' := (if_neg hb).symm.trans z
        cases z'
    · by_cases hb : b = a
      · exact hb
      · exact absurd (if_neg hb) z
end L2

namespace L2
open PySem PySem.Spec PyProof.Rows

/-- the goal that k_head leaves (case hc), from the law's promise. F gives the function object fd (K's own) once, then the promise over every base -/
theorem walk_of {l : PySem.W.OpenLaw} {n k : Nat} {q : Program} {loose : List Str} {XP : (Str → Option Value) → Heap → Prop} {YP : World → Heap → Prop} {d : DefRec} {K : Params → PySem.W.Frag} {CX : World → CXT} {sp : World → Sp} {x : Str}
    (hn : l.most = some n) (hn2 : n ≤ sizeLine) (hdf : d.params.defaults = []) (hr : Room k callerA)
    (hY : ∀ (w : World) (h : Heap), YP w h → (K w.params).In h)
    (F : ∀ (w : World) (mg : Str → Option Value) (fa : Addr) (h : Heap), (K w.params).In h → h.Ns mainGlobals mg → mg d.name = some (.ref fa) →
      ∃ fd : FuncData, (∀ (s : Shared) (u : Value), BindsTo s fd ⟨[u], []⟩ [(x, u)]) ∧
        ∀ base : Heap, (K w.params).In base → base.Ns mainGlobals mg → FnOk l.prog w (K w.params) mg base (CX w) k fa fd [x] (sp w))
    (hsp : ∀ (w : World) (H : Hp) (a : Addr) (ns : List Int), ns.length ≤ n → Only H → SqL (K w.params) H a (ns.map V.int) → sp w [.ref a] H (fun v _ => v = .bl true) fun _ _ _ => False)
    (hCX : ∀ (w : World) (H : Hp) (s : Shared) (e : Value) (s' : Shared), CX w [] H s (fun _ _ _ => False) e s' → False) :
    PySem.W.WalkO q loose XP YP l.row.toRowW d [] (fun f vs => PySem.call f vs) := by
  refine Att.attach_call hn hdf fun w s₀ s₁ mg mb fa o pm cd doc a vs ns G Y ho hd hcd hmg hobj hints hlen hg => ?_
  have KX := hY w _ Y
  obtain ⟨fd, hb, hF⟩ := F w mg fa _ KX G.T.g hmg
  exact law_call KX G.T.g G.T.b G.T.builtins G.T.nolimit hg hobj hints (Nat.le_trans hlen hn2) hr hF hb (fun H hO hS => hsp w H a ns hlen hO hS) fun H e s' => hCX w H s₁ e s'
/-- the same where the promise hangs on the written part alone: (sp := My.sp_law), no hole under a binder -/
theorem walk_ofK {l : PySem.W.OpenLaw} {n k : Nat} {q : Program} {loose : List Str} {XP : (Str → Option Value) → Heap → Prop} {YP : World → Heap → Prop} {d : DefRec} {K : Params → PySem.W.Frag} {CX : CXT} {sp : PySem.W.Frag → Sp} {x : Str}
    (hn : l.most = some n) (hn2 : n ≤ sizeLine) (hdf : d.params.defaults = []) (hr : Room k callerA)
    (hY : ∀ (w : World) (h : Heap), YP w h → (K w.params).In h)
    (F : ∀ (w : World) (mg : Str → Option Value) (fa : Addr) (h : Heap), (K w.params).In h → h.Ns mainGlobals mg → mg d.name = some (.ref fa) →
      ∃ fd : FuncData, (∀ (s : Shared) (u : Value), BindsTo s fd ⟨[u], []⟩ [(x, u)]) ∧
        ∀ base : Heap, (K w.params).In base → base.Ns mainGlobals mg → FnOk l.prog w (K w.params) mg base CX k fa fd [x] (sp (K w.params)))
    (hsp : ∀ (K : PySem.W.Frag) (H : Hp) (a : Addr) (ns : List Int), ns.length ≤ n → Only H → SqL K H a (ns.map V.int) → sp K [.ref a] H (fun v _ => v = .bl true) fun _ _ _ => False)
    (hCX : ∀ (H : Hp) (s : Shared) (e : Value) (s' : Shared), CX [] H s (fun _ _ _ => False) e s' → False) :
    PySem.W.WalkO q loose XP YP l.row.toRowW d [] (fun f vs => PySem.call f vs) :=
  walk_of (K := K) (CX := fun _ => CX) (sp := fun w => sp (K w.params)) hn hn2 hdf hr hY F (fun w H a ns h1 h2 h3 => hsp (K w.params) H a ns h1 h2 h3) fun _ H s e s' => hCX H s e s'
end L2

/-! SHORT WORDS over the layer: a def of the text, its body, what a loop and a test want. -/
namespace L2
open PySem PySem.Spec PyProof.Rows

/-! ### the text by places -/
noncomputable def defArgs (s : Stmt) : Arguments := match s with
  | .FunctionDef _ a _ _ _ _ _ _ _ _ => a
  | _ => { posonlyargs := [], args := [], vararg := none, kwonlyargs := [], kw_defaults := [], kwarg := none, defaults := [] }
noncomputable def defBody (s : Stmt) : List Stmt := match s with
  | .FunctionDef _ _ b _ _ _ _ _ _ _ => b
  | _ => []
noncomputable def defScope (s : Stmt) : Scope := match s with
  | .FunctionDef _ _ _ _ _ _ sc _ _ _ => sc
  | _ => { kind := .function, names := [], isGenerator := false, isCoroutine := false }

/-! ### no exception leaves a def -/
abbrev CX0 : CXT := fun _ _ _ _ _ _ => False
abbrev E0 : XK := fun _ _ _ => False

/-! ### a def (or method) of the text as it stands behind the top -/
structure Fun (K : PySem.W.Frag) (x qual : Str) (st : Stmt) (f : Addr) (fd : FuncData) : Prop where
  ex : ∃ (oc : Value) (od : Option Addr) (kV doc pm : Value) (an : Option Addr) (cdv ct : Value) (osl : Array (Option Value)),
    fd = PySem.W.fnOf x qual (defArgs st) (defBody st) (defScope st) .none kV doc pm an cdv ct ∧ K.lookup f = some ⟨oc, od, .func fd, osl⟩ ∧ PySem.W.codeIn K cdv qual = true
  kp : PySem.W.keepIn K (.ref f) = true
section
variable {P : Program} {w : World} {K : PySem.W.Frag} {mg : Str → Option Value} {base : Heap}
/-- how its arguments bind (no defaults): h is «fun _ _ _ _ _ _ us hl => match us, hl with | [_, _], _ => rfl», one _ a parameter -/
theorem Fun.binds {x qual : Str} {st : Stmt} {f : Addr} {fd : FuncData} {ps : List Str} (F : Fun K x qual st f fd)
    (h : ∀ (kV doc pm : Value) (an : Option Addr) (cdv ct : Value) (us : List Value), us.length = ps.length → bindArgs (PySem.W.fnOf x qual (defArgs st) (defBody st) (defScope st) .none kV doc pm an cdv ct) ⟨us, []⟩ = pure (ps.zip us)) : Binds K fd ps [] := by
  obtain ⟨oc, od, kV, doc, pm, an, cdv, ct, osl, rfl, lk, hcd⟩ := F.ex
  exact .all (h kV doc pm an cdv ct)
theorem fun_mk {x qual : Str} {st : Stmt} {f : Addr} {oc : Value} {od an : Option Addr} {osl : Array (Option Value)} {kV doc pm cdv ct : Value} (l : K.lookup f = some ⟨oc, od, .func (PySem.W.fnOf x qual (defArgs st) (defBody st) (defScope st) .none kV doc pm an cdv ct), osl⟩)
    (c : PySem.W.codeIn K cdv qual = true) (k : PySem.W.keepIn K (.ref f) = true) : Fun K x qual st f (PySem.W.fnOf x qual (defArgs st) (defBody st) (defScope st) .none kV doc pm an cdv ct) := ⟨⟨oc, od, kV, doc, pm, an, cdv, ct, osl, rfl, l, c⟩, k⟩
end

/-! ### expressions in short: the name that stands in the i-th slot -/
section
variable {X : Cx}
end

/-! ### tests -/

/-! ### heaps -/

end L2

set_option Elab.async false
set_option linter.all false
set_option maxRecDepth 100000
namespace L2
open PySem PySem.Spec PyProof.Rows

section
variable {prog : Program} {w : World} {A : Around} {R : Result → Shared → Prop} {s : Shared}
/-- a turn of a list comprehension, whatever its target; nothing is raised in it -/
theorem compLoop_any {elt target iter : Expr} {ifs : List Expr} {scope : Scope} {pos : Pos} {it acc : Value} {env : Env} (I : Nat → Shared → Prop)
    (turn : ∀ n s, I n s → wpAny (model prog w) A (pyNext it) (fun r s₁ => match r with
      | none => R (.ok .next) s₁
      | some v => wpAny (model prog w) A (letOwnedTupleGo target it v) (fun _ s₁' => wpAny (model prog w) A (assign target env v) (fun _ s₂ =>
          wpAny (model prog w) A (forIn ifs true fun c r => if r = true then do let ok ← isTrue c env (eval c env); pure (ForInStep.yield ok) else pure (ForInStep.yield r)) (fun ok s₃ =>
            if ok = true then wpAny (model prog w) A (eval elt env) (fun x s₄ =>
              wpAny (model prog w) A (call (.builtin "list.append") [acc, x]) (fun _ s₅ => ∃ m, m < n ∧ I m s₅) (fun _ _ => False) s₄) (fun _ _ => False) s₃
            else ∃ m, m < n ∧ I m s₃) (fun _ _ => False) s₂) (fun _ _ => False) s₁') (fun _ _ => False) s₁) (fun _ _ => False) s)
    (n : Nat) (h : I n s) :
    codeAny (model prog w) A (.compLoop (.ListComp elt [⟨target, iter, ifs, 0⟩] scope pos) 0 it acc env) R s := by
  refine codeAny_loop rfl I (fun n s hI => ?_) n h
  show wpAny _ A ((compTurn (.ListComp elt [⟨target, iter, ifs, 0⟩] scope pos) 0 it acc env).onRaise (fun x => do noteFrame x env; theTreesLotGoes x)) _ _ s
  refine wpAny_noted ?_
  rw [compTurn_list]
  refine wpAny_bind (wpAny_standAt (wpAny_bind (wpAny_mono (turn n s hI) (fun r s₁ h₁ => ?_) fun _ _ h' => h'.elim)))
  cases r with
  | none => exact wpAny_pure h₁
  | some v =>
    refine wpAny_bind (wpAny_mono h₁ (fun _ s₁' h₁' => ?_) fun _ _ h' => h'.elim)
    refine wpAny_bind (wpAny_mono h₁' (fun _ s₂ h₂ => wpAny_bind (wpAny_mono h₂ (fun ok s₃ h₃ => ?_) fun _ _ h' => h'.elim)) fun _ _ h' => h'.elim)
    cases ok with
    | false => exact wpAny_pure ⟨rfl, h₃⟩
    | true =>
      exact wpAny_bind (wpAny_bind (wpAny_mono h₃ (fun x s₄ h₄ => wpAny_bind (wpAny_mono h₄ (fun _ s₅ h₅ => wpAny_pure (wpAny_pure ⟨rfl, h₅⟩)) fun _ _ h' => h'.elim)) fun _ _ h' => h'.elim))
end

/-- the cells that a block takes with it -/
theorem closure_ok {env : Env} : ∀ (names : List (Str × NameKind)) (cs : List (Str × Addr)), (∀ y ∈ names, y.2 = .free → ∃ c, env.cells.lookup y.1 = some c) →
    (∀ x c, cs.lookup x = some c → env.cells.lookup x = some c) →
    ∃ cl, (forIn names cs fun (p : Str × NameKind) (r : List (Str × Addr)) => if (p.2 == NameKind.free) = true then (do let c ← cellOf env p.1; pure (ForInStep.yield ((p.1, c) :: r))) else pure (ForInStep.yield r) : Sem (List (Str × Addr))) = pure cl ∧
      (∀ x c, cl.lookup x = some c → env.cells.lookup x = some c) ∧ (∀ x c, cs.lookup x = some c → cl.lookup x = some c) ∧ ∀ y ∈ names, y.2 = .free → cl.lookup y.1 = env.cells.lookup y.1
  | [], cs, _, hc => ⟨cs, rfl, hc, fun _ _ h => h, fun y hy => absurd hy (by simp)⟩
  | (x, k) :: r, cs, h, hc => by
    have hr : ∀ y ∈ r, y.2 = .free → ∃ c, env.cells.lookup y.1 = some c := fun y hy => h y (List.mem_cons_of_mem _ hy)
    by_cases hk : k = .free
    · subst hk
      obtain ⟨c, e⟩ := h (x, .free) List.mem_cons_self rfl
      have hc' : ∀ z d, ((x, c) :: cs).lookup z = some d → env.cells.lookup z = some d := fun z d q => by
        by_cases hz : z = x
        · subst hz
          rw [List.lookup_cons_self] at q
          cases q; exact e
        · rw [List.lookup_cons, show (z == x) = false from beq_eq_false_iff_ne.mpr hz] at q
          exact hc z d q
      obtain ⟨cl, e1, e2, e3, e4⟩ := closure_ok r ((x, c) :: cs) hr hc'
      refine ⟨cl, ?_, e2, fun z d q => ?_, fun y hy hf => ?_⟩
      · rw [List.forIn_cons]
        simp only [beq_self_eq_true, if_true]
        unfold cellOf
        rw [e]
        simp only [pure_bind]
        exact e1
      · by_cases hz : z = x
        · subst hz
          have := hc z d q
          rw [e] at this
          exact e3 z d (by rw [List.lookup_cons_self]; exact this)
        · exact e3 z d (by rw [List.lookup_cons, show (z == x) = false from beq_eq_false_iff_ne.mpr hz]; exact q)
      · rcases List.mem_cons.mp hy with z | z
        · subst z
          rw [e3 x c (List.lookup_cons_self), e]
        · exact e4 y z hf
    · have hb : (k == NameKind.free) = false := beq_eq_false_iff_ne.mpr hk
      obtain ⟨cl, e1, e2, e3, e4⟩ := closure_ok r cs hr hc
      refine ⟨cl, ?_, e2, e3, fun y hy hf => ?_⟩
      · rw [List.forIn_cons]
        simp only [hb, Bool.false_eq_true, if_false, pure_bind]
        exact e1
      · rcases List.mem_cons.mp hy with z | z
        · subst z; exact absurd hf hk
        · exact e4 y z hf
theorem closureFor_ok {env : Env} {scope : Scope} (h : ∀ y ∈ scope.names, y.2 = .free → ∃ c, env.cells.lookup y.1 = some c) :
    ∃ cl, closureFor scope env = pure cl ∧ (∀ x c, cl.lookup x = some c → env.cells.lookup x = some c) ∧ ∀ y ∈ scope.names, y.2 = .free → cl.lookup y.1 = env.cells.lookup y.1 := by
  obtain ⟨cl, e1, e2, _, e4⟩ := closure_ok (env := env) scope.names [] h (fun x c q => by cases q)
  refine ⟨cl, ?_, e2, e4⟩
  unfold closureFor
  show ((forIn scope.names ([] : List (Str × Addr)) fun (p : Str × NameKind) (r : List (Str × Addr)) => if (p.2 == NameKind.free) = true then (do let c ← cellOf env p.1; pure (ForInStep.yield ((p.1, c) :: r))) else pure (ForInStep.yield r) : Sem (List (Str × Addr))) >>= fun s => pure s) = pure cl
  rw [e1]
  rfl

/-- the context within a comprehension's block, its frame at the heap's end -/
noncomputable def cxComp (X : Cx) (scope : Scope) (cl : List (Str × Addr)) (N' : List Str) (fp : List Addr) (s3 : Shared) (H3 : Hp) : Cx :=
  { X with N := N', s₀ := s3, H₀ := H3, env := compEnvC scope cl s3.heap.objs.size X.env, outer := X.stack, stack := X.stack, ex := fp, fn := fun _ => false, pn := [], xe := fun _ _ => False }

/-- the tests of a clause: none or one -/
noncomputable def PF (X : Cx) (ifs : List Expr) (t : TT) : Prop :=
  ∀ (pins : List (Addr × Obj)) (s : Shared) (σ : St) (H : Hp) (Q : Bool → Hp → Prop), Inv X pins σ H s → t σ H Q →
    wpAny (model X.prog X.w) X.A (forIn ifs true fun c r => if r = true then do let ok ← isTrue c X.env (eval c X.env); pure (ForInStep.yield ok) else pure (ForInStep.yield r)) (TP X pins σ Q) X.xe s
theorem pf_nil {X : Cx} : PF X [] (fun _ H Q => Q true H) := fun _ _ _ H _ I h => wpAny_tests_nil ⟨H, I, h⟩
theorem pf_one {X : Cx} {c : Expr} {t : TT} (hc : PT X c t) : PF X [c] t := fun pins s σ H Q I h => wpAny_tests_one (hc pins s σ H Q I h)

/-- W: by the turn and a measure; l: the list that is made -/
noncomputable def tComp (k : Nat) (wi : TI) (g : TG) (tt : TT) (te : TE) : TE := fun σ H Q => wi σ H fun J H1 => ∀ l, H1 l = none → ∃ W : Nat → Nat → Hp → Prop, (∃ m, W 0 m (upd H1 l (.lst []))) ∧ ∀ i m H, W i m H →
  (J.stop i H ∧ Q (.ref l) H) ∨ (J.go i H ∧ ∀ x H', J.yld i H x H' → g x (σ ++ List.replicate k none) H' fun σ2 H2 => (∀ (j : Nat) v, (σ ++ List.replicate k none)[j]? = some (some v) → σ2[j]? = some (some v)) ∧ tt σ2 H2 fun b H3 =>
    if b = true then te σ2 H3 fun y H4 => ∃ xs, H4 l = some (.lst xs) ∧ xs.length < sizeLine ∧ ∃ m', m' < m ∧ W (i + 1) m' (upd H4 l (.lst (xs ++ [y]))) else ∃ m', m' < m ∧ W (i + 1) m' H3)

/-- what is asked of a block's names -/
structure CompOk (X : Cx) (scope : Scope) (N' : List Str) (k : Nat) : Prop where
  fr : ∀ y ∈ scope.names, y.2 = .free → X.env.kindOf y.1 = some .cell ∨ X.env.kindOf y.1 = some .free
  nocell : ∀ y ∈ scope.names, y.2 ≠ .cell
  kind : scope.kind = .function
  names : ∀ y ∈ scope.names, y.2 = .local → scope.names.lookup y.1 = some .local
  len : N'.length = X.N.length + k
  old : ∀ (i : Nat) (x : Str), i < X.N.length → N'[i]? = some x → Vis (relabel scope X.env) x → X.N[i]? = some x ∧ (x, NameKind.free) ∈ scope.names ∧ (relabel scope X.env).names.lookup x ≠ some .local

section
variable {X : Cx} {scope : Scope} {N' : List Str} {k : Nat} {cl : List (Str × Addr)} {pins : List (Addr × Obj)} {σ : St} {H : Hp} {s3 s4 : Shared} {fp : List Addr}

theorem comp_start (C : CompOk X scope N' k) (hc : X.calm = true) (I : Inv X pins σ H s3) (hf : ∀ b ∈ fp, FpOk X pins H b) (hfl : ∀ b ∈ fp, b < s3.heap.objs.size) (hcl1 : ∀ x c, cl.lookup x = some c → X.env.cells.lookup x = some c)
    (hcl2 : ∀ y ∈ scope.names, y.2 = .free → cl.lookup y.1 = X.env.cells.lookup y.1) (h' : Heap) (hns : h'.Ns s3.heap.objs.size fun _ => none) (hk : ∀ b o, s3.heap.get? b = some o → h'.get? b = some o) :
    Inv (cxComp X scope cl N' fp s3 H) [] (σ ++ List.replicate k none) H { s3 with heap := h' } := by
  have fpold : ∀ b ∈ fp, ∀ o, X.base.get? b ≠ some o := fun b hb o e => by
    rcases (hf b hb).2.2.2.1 with z | z
    · exact I.ok.noex b o e z
    · exact absurd (Nat.lt_of_lt_of_le (Heap.lt_size (I.ok.bs b o e).1) z) (Nat.lt_irrefl _)
  have ok : (cxComp X scope cl N' fp s3 H).Ok := by
    refine ⟨I.ok.mod, C.kind, I.ok.glob, I.ok.blt, Nat.le_refl _, fun x y c h1 h2 => I.ok.inj x y c (hcl1 x c h1) (hcl1 y c h2), fun x hx => ?_, fun x c hfn => absurd (show false = true from hfn) (by decide), I.ok.hd, I.ok.frames, .inl rfl, fun b hb => ?_, I.bs, Nat.le_trans I.ok.bsz I.sz, fun b o e hb => fpold b hb o e, fun b hb hb2 => ?_, I.stack, I.stkFree⟩
    · have hx' : (relabel scope X.env).names.lookup x = some .cell ∨ (relabel scope X.env).names.lookup x = some .free := hx
      have : (x, NameKind.free) ∈ scope.names := by
        have all : ∀ (ns : List (Str × NameKind)), (∀ y ∈ ns, y.2 ≠ .cell) → ((ns.map fun (n, k) => if (k == .free && X.env.scope.kind == .function && X.env.kindOf n == some .cell) then (n, NameKind.cell) else (n, k)).lookup x = some .cell ∨ (ns.map fun (n, k) => if (k == .free && X.env.scope.kind == .function && X.env.kindOf n == some .cell) then (n, NameKind.cell) else (n, k)).lookup x = some .free) → (x, NameKind.free) ∈ ns := by
          intro ns
          induction ns with
          | nil => intro _ h; rcases h with h | h <;> simp at h
          | cons y r ih =>
            intro hn h
            obtain ⟨n, kd⟩ := y
            have hr := ih (fun z hz => hn z (List.mem_cons_of_mem _ hz))
            simp only [List.map_cons] at h
            by_cases hxn : x = n
            · subst hxn
              by_cases hkf : kd = .free
              · subst hkf; exact List.mem_cons_self
              · have hb : (kd == NameKind.free) = false := beq_eq_false_iff_ne.mpr hkf
                simp only [hb, Bool.false_and, Bool.false_eq_true, if_false, List.lookup_cons_self] at h
                rcases h with h | h
                · exact absurd (Option.some.inj h) (hn (x, kd) List.mem_cons_self)
                · exact absurd (Option.some.inj h) hkf
            · have hb : (x == n) = false := beq_eq_false_iff_ne.mpr hxn
              refine List.mem_cons_of_mem _ (hr ?_)
              by_cases hcnd : (kd == NameKind.free && X.env.scope.kind == .function && X.env.kindOf n == some .cell) = true
              · simp only [if_pos hcnd, List.lookup_cons, hb] at h
                exact h
              · simp only [if_neg hcnd, List.lookup_cons, hb] at h
                exact h
        exact all scope.names C.nocell hx'
      obtain ⟨c, e⟩ := I.ok.has x (C.fr _ this rfl)
      exact ⟨c, (hcl2 _ this rfl).trans e⟩
    · obtain ⟨f0, f1, f2, f3, f4, f5⟩ := hf b hb
      refine ⟨?_, fun x c e => f4 x c (hcl1 x c e)⟩
      intro z
      have hz : b = s3.heap.objs.size := z
      exact absurd (hfl b hb) (by rw [hz]; exact Nat.lt_irrefl _)
    · obtain ⟨f0, f1, f2, f3, f4, f5⟩ := hf b hb
      rcases List.mem_cons.mp (I.stkSub b hb2) with z | z
      · exact f1 z
      · exact f2 z
  refine ⟨ok, rfl, I.bare, Un.kept hk, ⟨fun _ => none, hns, fun i x v e1 e2 e3 => ?_⟩, fun x c e => ?_, I.hok.fresh (Nat.le_refl _), fun x c e => I.freeC x c (hcl1 x c e), fun p hp => absurd (show p ∈ ([] : List (Addr × Obj)) from hp) (by simp), I.hok.kept hk, ?_⟩
  · have hi : i < σ.length := by
      by_cases hi : i < σ.length
      · exact hi
      · rw [List.getElem?_append_right (by omega), List.getElem?_replicate] at e2
        split at e2 <;> cases e2
    rw [List.getElem?_append_left hi] at e2
    obtain ⟨o1, o2, o3⟩ := C.old i x (by rw [← I.len]; exact hi) e1 e3
    obtain ⟨m, hn, hl⟩ := I.loc
    have hkk := C.fr _ o2 rfl
    obtain ⟨u, r, l⟩ := hl i x v o1 e2 (by rcases hkk with q | q; exact .inr (.inl q); exact .inr (.inr q))
    refine ⟨u, r, ?_⟩
    rcases l with ⟨q, _⟩ | ⟨q, c, e, z⟩
    · rcases hkk with q' | q' <;> (rw [q] at q'; cases q')
    · refine .inr ⟨?_, c, (hcl2 _ o2 rfl).trans e, ?_⟩
      · rcases e3 with e3 | e3 | e3
        · exact absurd e3 o3
        · exact .inl e3
        · exact .inr e3
      · obtain ⟨o, ho, hd⟩ := z
        exact ⟨o, hk _ _ ho, hd⟩
  · obtain ⟨v, o, ho, hd⟩ := I.cell x c (hcl1 x c e)
    exact ⟨v, o, hk _ _ ho, hd⟩
  · show (σ ++ List.replicate k none).length = N'.length
    rw [List.length_append, List.length_replicate, I.len, C.len]

/-- the block of a comprehension, its iterator at hand -/
theorem comp_core {elt iter tg : Expr} {ifs : List Expr} {pos : Pos} {g : TG} {tt : TT} {te : TE} {it : Addr} {tn : Nat → Heap → Prop} {J : It} {s2 : Shared} {Q : VK} {E : Value → Shared → Prop} (C : CompOk X scope N' k) (hc : X.calm = true)
    (hg : ∀ cl fp s3 H3, PG (cxComp X scope cl N' fp s3 H3) tg g) (htt : ∀ cl fp s3 H3, PF (cxComp X scope cl N' fp s3 H3) ifs tt) (hte : ∀ cl fp s3 H3, PE (cxComp X scope cl N' fp s3 H3) elt te)
    (hcl1 : ∀ x c, cl.lookup x = some c → X.env.cells.lookup x = some c) (hcl2 : ∀ y ∈ scope.names, y.2 = .free → cl.lookup y.1 = X.env.cells.lookup y.1)
    (I2 : Inv X pins σ H s2) (T : Turn X.prog X.w X.K tg J fp it tn) (st2 : tn 0 s2.heap) (f2 : ∀ b ∈ fp, FpOk X pins H b)
    (h2 : ∀ l, H l = none → ∃ W : Nat → Nat → Hp → Prop, (∃ m, W 0 m (upd H l (.lst []))) ∧ ∀ i m H, W i m H →
      (J.stop i H ∧ Q (.ref l) H) ∨ (J.go i H ∧ ∀ x H', J.yld i H x H' → g x (σ ++ List.replicate k none) H' fun σ2 H2 => (∀ (j : Nat) v, (σ ++ List.replicate k none)[j]? = some (some v) → σ2[j]? = some (some v)) ∧ tt σ2 H2 fun b H3 =>
        if b = true then te σ2 H3 fun y H4 => ∃ xs, H4 l = some (.lst xs) ∧ xs.length < sizeLine ∧ ∃ m', m' < m ∧ W (i + 1) m' (upd H4 l (.lst (xs ++ [y]))) else ∃ m', m' < m ∧ W (i + 1) m' H3))
    {R : Value → Addr → Result → Shared → Prop} (hR : ∀ l c H' s' m, Inv X pins σ H' s' → Q (.ref l) H' → s'.heap.Ns c m → FpOk X pins H' c → R (.ref l) c (.ok .next) s') :
    wpAny (model X.prog X.w) X.A (newList []) (fun acc s₃ => wpAny (model X.prog X.w) X.A (newFunctionEnv scope X.env.globals cl [] X.env.qual none .none (some X.env)) (fun cenv s₄ =>
      codeAny (model X.prog X.w) X.A (.compStart (.ListComp elt [⟨tg, iter, ifs, 0⟩] scope pos) 0 (.ref it) acc { cenv with scope := relabel scope X.env }) (R acc cenv.locals) s₄) E s₃) E s2 := by
  refine wpAny_newObj_type ?_
  have hl0 : H s2.heap.objs.size = none := I2.hok.fresh (Nat.le_refl _)
  obtain ⟨W, ⟨m0, w0⟩, turn⟩ := h2 s2.heap.objs.size hl0
  have I3 : Inv X pins σ (upd H s2.heap.objs.size (.lst [])) { s2 with heap := s2.heap.push { cls := .type "list", data := .seq ([] : List Value).toArray } } :=
    I2.laid (t' := s2.toks) (fun b u e => Heap.get?_push_of_some _ e) (Nat.le_refl _) ⟨by show 0 ≤ _; omega, [], 0, .nil, Heap.get?_push_size _ rfl⟩
  have obj2 : ∀ b ∈ fp, ∃ o, s2.heap.get? b = some o ∧ ∀ v, o.data ≠ .cell v := T.obj _ _ st2
  have lt2 : ∀ b ∈ fp, b < s2.heap.objs.size := fun b hb => let ⟨o, e, _⟩ := obj2 b hb; Heap.lt_size e
  have f3 : ∀ b ∈ fp, FpOk X pins (upd H s2.heap.objs.size (.lst [])) b := fun b hb => ⟨by rw [upd_ne (Nat.ne_of_lt (lt2 b hb))]; exact (f2 b hb).1, (f2 b hb).2⟩
  generalize hs3 : ({ s2 with heap := s2.heap.push { cls := .type "list", data := .seq ([] : List Value).toArray } } : Shared) = s3 at I3 ⊢
  have st3 : tn 0 s3.heap := T.keep _ _ _ st2 fun b hb o e => by rw [← hs3]; exact Heap.get?_push_of_some _ e
  generalize hH3 : upd H s2.heap.objs.size (.lst []) = H3 at I3 w0 f3
  generalize s2.heap.objs.size = l at turn ⊢ w0
  clear hs3 hH3
  have obj3 : ∀ b ∈ fp, ∃ o, s3.heap.get? b = some o ∧ ∀ v, o.data ≠ .cell v := T.obj _ _ st3
  have lt3 : ∀ b ∈ fp, b < s3.heap.objs.size := fun b hb => let ⟨o, e, _⟩ := obj3 b hb; Heap.lt_size e
  refine wpAny_newFunctionEnv C.nocell (by intro y hy; simp at hy) (fun h₁ hns₁ hsb₁ => ?_) C.kind
  have hk1 : ∀ b o, s3.heap.get? b = some o → h₁.get? b = some o := fun b o e => hsb₁.extBut b o (Nat.ne_of_lt (Heap.lt_size e)) (Heap.get?_push_of_some _ e)
  have I4 : Inv (cxComp X scope cl N' fp s3 H3) [] (σ ++ List.replicate k none) H3 { s3 with heap := h₁, toks := s3.toks + ([] : List (Str × Value)).length } :=
    (comp_start C hc I3 f3 lt3 hcl1 hcl2 h₁ hns₁ hk1).tok _
  have st4 : tn 0 h₁ := T.keep _ _ _ st3 fun b _ o e => hk1 b o e
  have stat : ∀ {H' : Hp}, (∀ b ∈ fp, H' b = none) → ∀ b ∈ fp, FpOk (cxComp X scope cl N' fp s3 H3) [] H' b := fun {H'} hn b hb =>
    ⟨hn b hb, (I4.ok.exf b hb).1, I4.ok.exfs b hb, .inl hb, (I4.ok.exf b hb).2, fun p hp => absurd (show p ∈ ([] : List (Addr × Obj)) from hp) (by simp)⟩
  have loop : ∀ s4 : Shared, s4 = { s3 with heap := h₁, toks := s3.toks + ([] : List (Str × Value)).length } →
      codeAny (model X.prog X.w) X.A (.compLoop (.ListComp elt [⟨tg, iter, ifs, 0⟩] scope pos) 0 (.ref it) (.ref l) (compEnvC scope cl s3.heap.objs.size X.env)) (R (.ref l) s3.heap.objs.size) s4 := by
    rintro s4 rfl
    refine compLoop_any (env := (cxComp X scope cl N' fp s3 H3).env) (fun n s' => ∃ i H', Inv (cxComp X scope cl N' fp s3 H3) [] (σ ++ List.replicate k none) H' s' ∧ tn i s'.heap ∧ (∀ b ∈ fp, H' b = none) ∧ W i n H') ?_ m0 ⟨0, H3, I4, st4, fun b hb => (f3 b hb).1, w0⟩
    rintro n s5 ⟨i, H5, I5, st5, fr5, w5⟩
    rcases turn i n H5 w5 with ⟨stop, qn⟩ | ⟨go, step⟩
    · refine thn (T.done (cxComp X scope cl N' fp s3 H3) rfl rfl rfl hc i [] s5 _ H5 _ I5 (stat fr5) st5 stop) fun r s6 ⟨hr, I6⟩ => ?_
      subst hr
      obtain ⟨m, hnm, _⟩ := I6.loc
      have I7 : Inv X pins σ H5 s6 := I3.call' (ch := fp) I6.os I6.base I6.hok I6.bare fun b hb => ⟨(f3 b hb).2.2.2.1, (f3 b hb).2.1, (f3 b hb).2.2.2.2.1, (f3 b hb).2.2.2.2.2⟩
      exact hR l _ H5 s6 m I7 qn hnm (I3.fpOk (Nat.le_refl _) I6.free)
    · refine thn (T.item (cxComp X scope cl N' fp s3 H3) rfl rfl rfl hc i [] s5 _ H5 _ I5 (stat fr5) st5 go) fun r s6 ⟨u, hr, h6⟩ => ?_
      subst hr
      refine thn h6 fun _ s7 ⟨x, H7, I7, r7, y7, st7, fr7⟩ => ?_
      have I7' := I7.pinned (stat fr7) (T.obj _ _ st7)
      refine thn (hg cl fp s3 H3 _ s7 _ H7 x u _ I7' r7 (step x H7 y7)) fun _ s8 ⟨σ8, H8, I8, w8, q8⟩ => ?_
      refine thn (htt cl fp s3 H3 _ s8 σ8 H8 _ I8 q8) fun b s9 ⟨H9, I9, q9⟩ => ?_
      have again : ∀ {H' : Hp} {s' : Shared}, Inv (cxComp X scope cl N' fp s3 H3) ([] ++ pinsAt fp s7.heap) σ8 H' s' → (∃ m', m' < n ∧ W (i + 1) m' H') →
          ∃ m, m < n ∧ ∃ i H', Inv (cxComp X scope cl N' fp s3 H3) [] (σ ++ List.replicate k none) H' s' ∧ tn i s'.heap ∧ (∀ b ∈ fp, H' b = none) ∧ W i m H' := fun {H' s'} I' ⟨m', hm, w'⟩ => by
        refine ⟨m', hm, i + 1, H', (I'.unpinned).weak (by rw [I'.len]; exact I4.len) w8, T.keep _ _ _ st7 fun b hb o e => (I'.pin (b, o) (List.mem_append_right _ (List.mem_append_right _ (mem_pinsAt hb e)))).1, fun b hb => ?_, w'⟩
        obtain ⟨o, e, d⟩ := T.obj _ _ st7 b hb
        exact (I'.pin (b, o) (List.mem_append_right _ (List.mem_append_right _ (mem_pinsAt hb e)))).2.1
      cases b with
      | false => exact again I9 (by simpa using q9)
      | true =>
        rw [if_pos rfl]
        rw [if_pos rfl] at q9
        refine thn (hte cl fp s3 H3 _ s9 σ8 H9 _ I9 q9) fun y s10 ⟨yv, H10, I10, r10, xs, hl10, hz, q10⟩ => ?_
        refine thn (mt_append (X := cxComp X scope cl N' fp s3 H3) _ s10 σ8 H10 (.ref l) [yv] (.ref l) [y] (fun _ H' => ∃ m', m' < n ∧ W (i + 1) m' H') I10 rfl (.cons r10 .nil) ⟨l, xs, yv, rfl, rfl, hl10, hz, q10⟩) fun _ s11 ⟨_, H11, I11, _, q11⟩ => again I11 q11
  exact codeAny_compStart_list (loop _ rfl) (T.self _ 0 _ _ _ st4 (loop _ rfl))

theorem pe_comp {elt iter tg : Expr} {ifs : List Expr} {pos : Pos} {wi : TI} {g : TG} {tt : TT} {te : TE} (C : CompOk X scope N' k) (hc : X.calm = true) (hi : PI X tg iter wi)
    (hg : ∀ cl fp s3 H3, PG (cxComp X scope cl N' fp s3 H3) tg g) (htt : ∀ cl fp s3 H3, PF (cxComp X scope cl N' fp s3 H3) ifs tt) (hte : ∀ cl fp s3 H3, PE (cxComp X scope cl N' fp s3 H3) elt te)
    (hs : ∀ x, foldedSetIterable iter X.env x = pure x := by intro _; rfl) : PE X (.ListComp elt [⟨tg, iter, ifs, 0⟩] scope pos) (tComp k wi g tt te) := by
  intro pins s σ H Q I h
  rw [eval_ListComp]
  obtain ⟨cl, e1, e2, e3⟩ := closureFor_ok (env := X.env) (scope := scope) fun y hy hf => I.ok.has y.1 (C.fr y hy hf)
  refine wpAny_comprehension_free (use := none) rfl hs e1 C.kind C.names (thn (hi pins s σ H _ I h) fun v s1 h1 => thn h1 fun itv s2 h2 => ?_)
  obtain ⟨it, fp, tn, J, H2, e, I2, T, st2, f2, h2⟩ := h2
  subst e
  refine comp_core (R := fun acc c => compPost (model X.prog X.w) X.A X.xe none (EP X pins σ Q) acc c) C hc hg htt hte e2 e3 I2 T st2 f2 h2 fun l c H' s' m I' q hn fc => ?_
  obtain ⟨f0, f1, f2, f3, f4, f5⟩ := fc
  exact ⟨m, hn, fun h' hsb => ⟨.ref l, H', I'.turned (t' := s'.toks) (fun b o hb e => (hsb.2 b hb).trans e) f0 f1 f3 f4 f5, rfl, q⟩⟩

/-- name = [..], the name a plain local: the list is stored ahead of the block's end -/
theorem ps_compSet {elt iter tg : Expr} {ifs : List Expr} {pos : Pos} {wi : TI} {g : TG} {tt : TT} {te : TE} {j : Nat} {y : Str} {py spos : Pos} (C : CompOk X scope N' k) (hc : X.calm = true) (hi : PI X tg iter wi)
    (hg : ∀ cl fp s3 H3, PG (cxComp X scope cl N' fp s3 H3) tg g) (htt : ∀ cl fp s3 H3, PF (cxComp X scope cl N' fp s3 H3) ifs tt) (hte : ∀ cl fp s3 H3, PE (cxComp X scope cl N' fp s3 H3) elt te)
    (hN : X.N.Nodup) (hj : X.N[j]? = some y) (hy : X.env.scope.names.lookup y = some .local)
    (hsw : swapsWith (.ListComp elt [⟨tg, iter, ifs, 0⟩] scope pos) (some (.Name y py)) spos.line X.env = pure true)
    (hs : ∀ x, foldedSetIterable iter X.env x = pure x := by intro _; rfl) : PS X (.Assign [.Name y py] (.ListComp elt [⟨tg, iter, ifs, 0⟩] scope pos) spos) (tAsg (tComp k wi g tt te) (gName j)) := by
  intro pins s σ H D I h
  rw [exec_Assign_Name_used _ _ _ _ hsw]
  refine wpAny_bind (wpAny_standAt (wpAny_bind ?_))
  show wpAny _ X.A (do let _ ← comprehension (.ListComp elt [⟨tg, iter, ifs, 0⟩] scope pos) scope X.env _ (newList []) false (eval iter X.env) (some (assign (.Name y py) X.env))) _ _ s
  obtain ⟨cl, e1, e2, e3⟩ := closureFor_ok (env := X.env) (scope := scope) fun y hy hf => I.ok.has y.1 (C.fr y hy hf)
  refine wpAny_bind (wpAny_mono (wpAny_comprehension_free (use := some (assign (.Name y py) X.env)) (Q := fun _ s' => SP X pins D .next s') rfl hs e1 C.kind C.names
    (thn (hi pins s σ H _ I h) fun v s1 h1 => thn h1 fun itv s2 h2 => ?_)) (fun _ s' hq => wpAny_pure (wpAny_pure hq)) fun _ _ e => e)
  obtain ⟨it, fp, tn, J, H2, e, I2, T, st2, f2, h2⟩ := h2
  subst e
  refine comp_core (Q := fun x H1 => gName j x σ H1 D.nx) (R := fun acc c => compPost (model X.prog X.w) X.A X.xe (some (assign (.Name y py) X.env)) (fun _ s' => SP X pins D .next s') acc c) C hc hg htt hte e2 e3 I2 T st2 f2 h2 fun l c H' s' m I' q hn fc => ?_
  obtain ⟨f0, f1, f2, f3, f4, f5⟩ := fc
  show wpAny _ X.A (assign (.Name y py) X.env (.ref l)) _ _ _
  refine wpAny_assign_Name (store_ok2 I' hN hj (.inl hy) (v := .ref l) rfl (fun s'' I'' ch => ?_) (.inr hy))
  obtain ⟨a, hsb, ha⟩ := ch
  have hac : c ≠ a := by
    rcases ha with z | z
    · rw [z]; exact f1
    · exact fun w => f4 y a z w.symm
  refine ⟨m, hn.sameBut hsb hac, fun h' hsb2 => ⟨_, H', I''.turned (t' := s''.toks) (fun b o hb e => (hsb2.2 b hb).trans e) f0 f1 f3 f4 f5, q⟩⟩
end
end L2

set_option Elab.async false
set_option linter.all false
set_option maxRecDepth 100000
/-! != of lists and of tuples, item by item -/
namespace NEQ
open PySem PySem.SeqAt
open AutoSeq1 (wpAny_loadPart')
open MeetsSeq MeetsSeq2 MeetsSeq3 SeqRoads2

theorem loop_ne (p q : Addr) (us ws : Array Value) (n1 n2 : Nat) (d1 d2 : Option Addr) (z1 z2 : Array (Option Value)) (hlen : us.size = ws.size) (same : Nat → Bool) (left : Nat) :
    ∀ at_ : Nat, us.size - at_ = left → Meets (Builtin.«list.__eq__.loop» ⟨[.ref p, .ref q, rawInt at_, rawInt 3], []⟩)
      (fun A R st => st.heap.get? p = some { cls := .type "list", dict := d1, data := .seq us n1, slots := z1 } ∧ st.heap.get? q = some { cls := .type "list", dict := d2, data := .seq ws n2, slots := z2 } ∧
        (∀ j (h1 : j < us.size) (h2 : j < ws.size), EqAt A.in1 st us[j] ws[j] (same j)) ∧ R (.ok (.ret (.bool (!((List.range us.size).drop at_).all same)))) st) := by
  induction left with
  | zero =>
    intro at_ hk prog w A R st hyp
    obtain ⟨hp, g, dr, tk, os⟩ := st
    obtain ⟨hl, hb, he, fin⟩ := hyp
    wp_walk using wpAny_loadPart' hl, wpAny_loadPart' hb
    have no1 : us[((at_ : Nat) : Int).toNat]? = none := by simp; omega
    have no2 : ws[((at_ : Nat) : Int).toNat]? = none := by simp; omega
    have nil : (List.range us.size).drop at_ = [] := by simp; omega
    rw [nil] at fin
    rw [no1, no2]
    wp_walk using wpAny_loadPart' hl, wpAny_loadPart' hb
    show R (.ok (.ret (.bool (us.size != ws.size)))) _
    rw [hlen]
    simpa using fin
  | succ left ih =>
    intro at_ hk prog w A R st hyp
    obtain ⟨hp, g, dr, tk, os⟩ := st
    obtain ⟨hl, hb, he, fin⟩ := hyp
    wp_walk using wpAny_loadPart' hl, wpAny_loadPart' hb
    have lt1 : at_ < us.size := by omega
    have lt2 : at_ < ws.size := by omega
    have yes1 : us[((at_ : Nat) : Int).toNat]? = some us[at_] := by simp [lt1]
    have yes2 : ws[((at_ : Nat) : Int).toNat]? = some ws[at_] := by simp [lt2]
    have cons : (List.range us.size).drop at_ = at_ :: (List.range us.size).drop (at_ + 1) := by simp [List.drop_eq_getElem_cons, lt1]
    have up : ((at_ : Int) + 1) = ((at_ + 1 : Nat) : Int) := by push_cast; rfl
    rw [cons, List.all_cons] at fin
    rw [yes1, yes2]
    refine wpAny_bind (he at_ lt1 lt2 prog w _ _ ?_)
    cases ev : same at_ with
    | true =>
      rw [ev] at fin
      wp_walk
      rw [up]
      exact ⟨plainId_quiet plain_eq_loop _, codeAny_builtin entry_eq_loop (by
        rw [Around.under_plainId plain_eq_loop _]
        exact ih (at_ + 1) (by omega) prog w A R _ ⟨hl, hb, he, by simpa using fin⟩)⟩
    | false =>
      rw [ev] at fin
      wp_walk using wpAny_loadPart' hl, wpAny_loadPart' hb
      rw [yes1, yes2]
      wp_walk
      simpa using fin

theorem list_ne (p q : Addr) (us ws : Array Value) (n1 n2 : Nat) (d1 d2 : Option Addr) (z1 z2 : Array (Option Value)) (hlen : us.size = ws.size) (same : Nat → Bool) :
    Meets (Builtin.«list.__ne__» ⟨[.ref p, .ref q], []⟩)
      (fun A R st => st.heap.get? p = some { cls := .type "list", dict := d1, data := .seq us n1, slots := z1 } ∧ st.heap.get? q = some { cls := .type "list", dict := d2, data := .seq ws n2, slots := z2 } ∧
        (∀ j (h1 : j < us.size) (h2 : j < ws.size), EqAt A.in1 st us[j] ws[j] (same j)) ∧ R (.ok (.ret (.bool (!(List.range us.size).all same)))) st) := by
  intro prog w A R st hyp
  obtain ⟨hp, g, dr, tk, os⟩ := st
  obtain ⟨hl, hb, he, fin⟩ := hyp
  have f3 := AutoSeq1.sub_list_list
  have hne : ¬ (us.size != ws.size) = true := by simp [hlen]
  wp_walk using wpAny_loadPart' hl, wpAny_loadPart' hb
  exact ⟨plainId_quiet plain_eq_loop _, codeAny_builtin entry_eq_loop (by
    rw [Around.under_plainId plain_eq_loop _]
    exact loop_ne p q us ws n1 n2 d1 d2 z1 z2 hlen same _ 0 rfl prog w A R _ ⟨hl, hb, he, by simpa using fin⟩)⟩

theorem list_ne_lens (p q : Addr) (us ws : Array Value) (n1 n2 : Nat) (d1 d2 : Option Addr) (z1 z2 : Array (Option Value)) (hlen : (us.size != ws.size) = true) :
    Meets (Builtin.«list.__ne__» ⟨[.ref p, .ref q], []⟩)
      (fun _ R st => st.heap.get? p = some { cls := .type "list", dict := d1, data := .seq us n1, slots := z1 } ∧ st.heap.get? q = some { cls := .type "list", dict := d2, data := .seq ws n2, slots := z2 } ∧
        R (.ok (.ret (.bool true))) st) :=
  .of_wp fun prog w A R st hyp => by
    obtain ⟨hp, g, dr, tk, os⟩ := st
    obtain ⟨hl, hb, fin⟩ := hyp
    have f3 := AutoSeq1.sub_list_list
    wp_walk using wpAny_loadPart' hl, wpAny_loadPart' hb
    exact ⟨_, rfl, fin⟩

theorem tuple_ne (p q : Addr) (us ws : Array Value) (n1 n2 : Nat) (d1 d2 : Option Addr) (z1 z2 : Array (Option Value)) (same : Nat → Bool) :
    Meets (Builtin.«tuple.__ne__» ⟨[.ref p, .ref q], []⟩)
      (fun A R st => st.heap.get? p = some { cls := .type "tuple", dict := d1, data := .seq us n1, slots := z1 } ∧ st.heap.get? q = some { cls := .type "tuple", dict := d2, data := .seq ws n2, slots := z2 } ∧
        (∀ j (h1 : j < us.size) (h2 : j < ws.size), EqAt A.in1 st us[j] ws[j] (same j)) ∧
        R (.ok (.ret (.bool (!((List.range (min us.size ws.size)).all same && us.size == ws.size))))) st) :=
  .of_wp fun prog w A R st hyp => by
    obtain ⟨hp, g, dr, tk, os⟩ := st
    obtain ⟨hl, hb, he, fin⟩ := hyp
    have f2 := AutoSeq1.sub_tuple_tuple
    have zl : (us.toList.zip ws.toList).length = min us.size ws.size := by simp
    wp_walk using wpAny_loadPart' hl, wpAny_loadPart' hb, wpAny_forIn_list _ (fun more b s' => b.1 = none ∧ s' = ⟨hp, g, dr, tk, os⟩ ∧ ∃ i, more = (us.toList.zip ws.toList).drop i ∧
      R (.ok (.ret (.bool (!(((List.range (min us.size ws.size)).drop i).all same && us.size == ws.size))))) ⟨hp, g, dr, tk, os⟩) _
    case turn =>
      rintro ⟨y, x⟩ more b s' ⟨hb', rfl, i, hz, hR⟩
      have lt : i < (us.toList.zip ws.toList).length := by
        rcases Nat.lt_or_ge i (us.toList.zip ws.toList).length with h' | h'
        · exact h'
        · rw [List.drop_of_length_le h'] at hz; cases hz
      have hm : i < min us.size ws.size := zl ▸ lt
      have h1 : i < us.size := Nat.lt_of_lt_of_le hm (Nat.min_le_left _ _)
      have h2 : i < ws.size := Nat.lt_of_lt_of_le hm (Nat.min_le_right _ _)
      rw [List.drop_eq_getElem_cons lt] at hz
      injection hz with pair hmore
      have hy : y = us[i] := by have := congrArg Prod.fst pair; simpa using this
      have hx : x = ws[i] := by have := congrArg Prod.snd pair; simpa using this
      subst hy hx
      have cons : (List.range (min us.size ws.size)).drop i = i :: (List.range (min us.size ws.size)).drop (i + 1) := by simp [List.drop_eq_getElem_cons, hm]
      rw [cons, List.all_cons] at hR
      refine wpAny_bind (he i h1 h2 prog w _ _ ?_)
      cases ev : same i with
      | true =>
        rw [ev] at hR
        wp_walk
        exact ⟨rfl, rfl, i + 1, hmore, by simpa using hR⟩
      | false =>
        rw [ev] at hR
        wp_walk
        exact ⟨_, rfl, by simpa using hR⟩
    case fin =>
      rintro ⟨b1, b2⟩ s' ⟨hb', rfl, i, hz, hR⟩
      simp only at hb'
      subst hb'
      have ge : min us.size ws.size ≤ i := by
        rcases Nat.lt_or_ge i (us.toList.zip ws.toList).length with h' | h'
        · rw [List.drop_eq_getElem_cons h'] at hz; cases hz
        · exact zl ▸ h'
      rw [List.drop_of_length_le (by simpa using ge)] at hR
      wp_walk
      exact ⟨_, rfl, by simpa [Builtin.Tuple.tupleCompareSizes, bne] using hR⟩
    case h =>
      exact ⟨rfl, rfl, 0, rfl, by simpa using fin⟩

section
variable {prog : Program} {w : World} {A : Around} {E : Value → Shared → Prop} {s : Shared}
theorem ne_lists {l b : Addr} {us ws : Array Value} {same : Nat → Bool} {Q : Value → Shared → Prop} (hl : s.heap.IsList l us) (hb : s.heap.IsList b ws) (hlen : us.size = ws.size) (hu : A.units < cLine)
    (he : ∀ j (h1 : j < us.size) (h2 : j < ws.size), EqAt A.in1 s us[j] ws[j] (same j)) (h : Q (.bool (!(List.range us.size).all same)) s) : wpAny (model prog w) A (compareOp .NotEq (.ref l) (.ref b)) Q E s := by
  obtain ⟨⟨c1, d1, t1, z1⟩, o1, k1, n1, e1⟩ := id hl
  obtain ⟨⟨c2, d2, t2, z2⟩, o2, k2, n2, e2⟩ := id hb
  simp only at k1 e1 k2 e2
  subst k1 e1 k2 e2
  exact richCompare_meets_room (op := .NotEq) ⟨_, o1, rfl⟩ ⟨_, o2, rfl⟩ F.slot_list_ne F.entry_list_ne (F.args_list_ne_2 _ _) (list_ne l b us ws n1 n2 d1 d2 z1 z2 hlen same) ⟨o1, o2, he, ⟨(fun x => nomatch x), h⟩⟩ hu
theorem ne_lens {l b : Addr} {us ws : Array Value} {Q : Value → Shared → Prop} (hl : s.heap.IsList l us) (hb : s.heap.IsList b ws) (hlen : (us.size != ws.size) = true) (hu : A.units < cLine)
    (h : Q (.bool true) s) : wpAny (model prog w) A (compareOp .NotEq (.ref l) (.ref b)) Q E s := by
  obtain ⟨⟨c1, d1, t1, z1⟩, o1, k1, n1, e1⟩ := id hl
  obtain ⟨⟨c2, d2, t2, z2⟩, o2, k2, n2, e2⟩ := id hb
  simp only at k1 e1 k2 e2
  subst k1 e1 k2 e2
  exact richCompare_meets_room (op := .NotEq) ⟨_, o1, rfl⟩ ⟨_, o2, rfl⟩ F.slot_list_ne F.entry_list_ne (F.args_list_ne_2 _ _) (list_ne_lens l b us ws n1 n2 d1 d2 z1 z2 hlen) ⟨o1, o2, ⟨(fun x => nomatch x), h⟩⟩ hu
theorem ne_tuples {l b : Addr} {us ws : Array Value} {same : Nat → Bool} {Q : Value → Shared → Prop} (hl : s.heap.IsTuple l us) (hb : s.heap.IsTuple b ws) (hu : A.units < cLine)
    (he : ∀ j (h1 : j < us.size) (h2 : j < ws.size), EqAt A.in1 s us[j] ws[j] (same j)) (h : Q (.bool (!((List.range (min us.size ws.size)).all same && us.size == ws.size))) s) : wpAny (model prog w) A (compareOp .NotEq (.ref l) (.ref b)) Q E s := by
  obtain ⟨⟨c1, d1, t1, z1⟩, o1, k1, n1, e1⟩ := id hl
  obtain ⟨⟨c2, d2, t2, z2⟩, o2, k2, n2, e2⟩ := id hb
  simp only at k1 e1 k2 e2
  subst k1 e1 k2 e2
  exact richCompare_meets_room (op := .NotEq) ⟨_, o1, rfl⟩ ⟨_, o2, rfl⟩ F.slot_tuple_ne F.entry_tuple_ne (F.args_tuple_ne_2 _ _) (tuple_ne l b us ws n1 n2 d1 d2 z1 z2 same) ⟨o1, o2, he, ⟨(fun x => nomatch x), h⟩⟩ hu
end
end NEQ

set_option Elab.async false
set_option linter.all false
set_option maxRecDepth 100000
/-! enumerate over a list or a tuple -/
namespace ENM
open PySem PyProof.Rows
open AutoSeq1 (wpAny_loadPart')
section
variable {prog : Program} {w : World} {A : Around} {E : Value → Shared → Prop} {s : Shared}

theorem next_tup {it t : Addr} {k : Nat} {us : Array Value} {u : Value} {Q : Value → Shared → Prop} (hit : s.heap.IsTupleIter it t k) (ht : s.heap.IsTuple t us) (hu : us[k]? = some u)
    (fin : ∀ h', h'.IsTupleIter it t (k + 1) → Heap.SameBut it s.heap h' → Q u { s with heap := h' }) : wpAny (model prog w) A (Builtin.SmallTypes.nextOf (.ref it)) Q E s := by
  obtain ⟨ob, hob, hcl, hda⟩ := id hit
  obtain ⟨ot, hot, _, nt, hdt⟩ := ht
  unfold Builtin.SmallTypes.nextOf
  refine wpAny_bind (wpAny_callSpecial?_slot (name := Str.ofString "__next__") hit.typeIs F.slot_tuple_iterator_next (wpAny_call_entry F.slot_tuple_iterator_next hit.typeIs F.entry_tuple_iterator_next ?_ (F.args_tuple_iterator_next_1 _)))
  show wpAny _ _ (field (.ref it) 0 >>= _) _ _ s
  refine wpAny_bind (wpAny_field hob hda (x := .ref t) rfl ?_)
  show wpAny _ _ (if (Value.ref t == Value.none) = true then _ else _) _ _ s
  rw [if_neg (show ¬ ((Value.ref t == Value.none) = true) from Bool.false_ne_true)]
  show wpAny _ _ (field (.ref it) 1 >>= _) _ _ s
  refine wpAny_bind (wpAny_field hob hda (x := .int k 0) rfl ?_)
  show wpAny _ _ (seqItems? (.ref t) >>= _) _ _ s
  refine wpAny_bind (wpAny_seqItems hot hdt ?_)
  simp only [Int.toNat_natCast, hu]
  refine wpAny_bind (wpAny_setField hob hda (by simp) (wpAny_pure ⟨u, rfl, wpAny_pure (fin _ ?_ (Heap.SameBut.update ..))⟩))
  refine ⟨_, Heap.get?_update_self _ hob (Obj.isFreed_of_fields (Obj.data_mapFields hda _)), (Obj.cls_mapFields ..).trans hcl, ?_⟩
  rw [Obj.data_mapFields hda]
  simp [rawInt]

theorem next_tup_end {it t : Addr} {k : Nat} {us : Array Value} {Q : Value → Shared → Prop} (calm : A.handled = none) (hit : s.heap.IsTupleIter it t k) (ht : s.heap.IsTuple t us) (hu : us[k]? = none)
    (fin : ∀ h' e, Heap.ExtBut it s.heap h' → (∃ o, h'.get? e = some o ∧ o.cls = .type "StopIteration") → E (.ref e) { s with heap := h' }) : wpAny (model prog w) A (Builtin.SmallTypes.nextOf (.ref it)) Q E s := by
  obtain ⟨ob, hob, hcl, hda⟩ := id hit
  obtain ⟨ot, hot, _, nt, hdt⟩ := ht
  unfold Builtin.SmallTypes.nextOf
  refine wpAny_bind (wpAny_callSpecial?_slot (name := Str.ofString "__next__") hit.typeIs F.slot_tuple_iterator_next (wpAny_call_entry F.slot_tuple_iterator_next hit.typeIs F.entry_tuple_iterator_next ?_ (F.args_tuple_iterator_next_1 _)))
  show wpAny _ _ (field (.ref it) 0 >>= _) _ _ s
  refine wpAny_bind (wpAny_field hob hda (x := .ref t) rfl ?_)
  show wpAny _ _ (if (Value.ref t == Value.none) = true then _ else _) _ _ s
  rw [if_neg (show ¬ ((Value.ref t == Value.none) = true) from Bool.false_ne_true)]
  show wpAny _ _ (field (.ref it) 1 >>= _) _ _ s
  refine wpAny_bind (wpAny_field hob hda (x := .int k 0) rfl ?_)
  show wpAny _ _ (seqItems? (.ref t) >>= _) _ _ s
  refine wpAny_bind (wpAny_seqItems hot hdt ?_)
  simp only [Int.toNat_natCast, hu]
  refine wpAny_bind (wpAny_rule (wpAny_bind (wpAny_setField hob hda (by simp) ?_)))
  show wpAny _ _ (newExc (.type "StopIteration") [] >>= _) _ _ _
  refine wpAny_bind ?_
  simp only [newExc, newTuple]
  refine wpAny_bind (wpAny_newObj_type ?_ (by size_fits))
  refine wpAny_bind (m := firstArgMember _ _) (wpAny_of_eq (a := Value.none) (by first | rfl | (simp only [firstArgMember]; rfl)) ?_)
  refine wpAny_newObj_type ?_ (by size_fits)
  simp only [raiseNew]
  refine wpAny_bind (wpAny_handled ?_)
  first | rw [show A.in1.handled = none from calm] | rw [calm]
  refine wpAny_bind (wpAny_pure (wpAny_throw ?_))
  exact fin _ _ (((Heap.SameBut.update ..).extBut.push _).push _) ⟨_, Heap.get?_push_size _ rfl, rfl⟩

/-- what is inside: a list's or a tuple's iterator -/
noncomputable def Inn (tup : Bool) (h : Heap) (it a : Addr) (k : Nat) : Prop := match tup with
  | true => h.IsTupleIter it a k
  | false => h.IsListIter it a k
noncomputable def Seq (tup : Bool) (h : Heap) (a : Addr) (us : Array Value) : Prop := match tup with
  | true => h.IsTuple a us
  | false => h.IsList a us
theorem Inn.keep {tup : Bool} {h h' : Heap} {it a : Addr} {k : Nat} (x : Inn tup h it a k) (e : ∀ o, h.get? it = some o → h'.get? it = some o) : Inn tup h' it a k := by
  cases tup with
  | true => obtain ⟨o, ho, r⟩ := (show h.IsTupleIter it a k from x); exact ⟨o, e _ ho, r⟩
  | false => obtain ⟨o, ho, r⟩ := (show h.IsListIter it a k from x); exact ⟨o, e _ ho, r⟩
theorem Inn.there {tup : Bool} {h : Heap} {it a : Addr} {k : Nat} (x : Inn tup h it a k) : ∃ o, h.get? it = some o ∧ ∀ v, o.data ≠ .cell v := by
  cases tup with
  | true => obtain ⟨o, ho, _, hd⟩ := (show h.IsTupleIter it a k from x); exact ⟨o, ho, fun v z => by rw [hd] at z; cases z⟩
  | false => obtain ⟨o, ho, _, hd⟩ := (show h.IsListIter it a k from x); exact ⟨o, ho, fun v z => by rw [hd] at z; cases z⟩
theorem next_inn {tup : Bool} {it a : Addr} {k : Nat} {us : Array Value} {u : Value} {Q : Value → Shared → Prop} (hit : Inn tup s.heap it a k) (hs : Seq tup s.heap a us) (hu : us[k]? = some u)
    (fin : ∀ h', Inn tup h' it a (k + 1) → Heap.SameBut it s.heap h' → Q u { s with heap := h' }) : wpAny (model prog w) A (Builtin.SmallTypes.nextOf (.ref it)) Q E s := by
  cases tup with
  | true => exact next_tup hit hs hu fin
  | false => exact wpAny_nextOf_list_item hit hs hu fin
theorem next_inn_end {tup : Bool} {it a : Addr} {k : Nat} {us : Array Value} {Q : Value → Shared → Prop} (calm : A.handled = none) (hit : Inn tup s.heap it a k) (hs : Seq tup s.heap a us) (hu : us[k]? = none)
    (fin : ∀ h' e, Heap.ExtBut it s.heap h' → (∃ o, h'.get? e = some o ∧ o.cls = .type "StopIteration") → E (.ref e) { s with heap := h' }) : wpAny (model prog w) A (Builtin.SmallTypes.nextOf (.ref it)) Q E s := by
  cases tup with
  | true => exact next_tup_end calm hit hs hu fin
  | false => exact wpAny_nextOf_list_end calm hit hs hu fin

/-- the next pair -/
theorem next_pair {tup : Bool} {en it a : Addr} {k : Nat} {us : Array Value} {u old : Value} {Q : Option Value → Shared → Prop} (he : IsEnum s.heap en it k old) (hit : Inn tup s.heap it a k) (hs : Seq tup s.heap a us) (hu : us[k]? = some u) (hne : en ≠ it)
    (fin : ∀ h', IsEnumOut h' en it ((k : Int) + 1) u s.heap.objs.size → Inn tup h' it a (k + 1) → h'.get? s.heap.objs.size = some { cls := .type "tuple", data := .seq #[.int k s.toks, u] } → h'.objs.size = s.heap.objs.size + 1 →
      (∀ b o, b ≠ en → b ≠ it → s.heap.get? b = some o → h'.get? b = some o) → Q (some (.ref s.heap.objs.size)) { s with heap := h', toks := s.toks + 1 }) : wpAny (model prog w) A (pyNext (.ref en)) Q E s := by
  have hT : s.TypeIs (.ref en) "enumerate" := ⟨_, he, rfl⟩
  unfold pyNext
  refine wpAny_bind (wpAny_attempt (wpAny_callSpecial?_slot (name := Str.ofString "__next__") hT F.slot_enumerate_next (wpAny_call_entry F.slot_enumerate_next hT F.entry_enumerate_next ?_ (F.args_enumerate_next_1 _))))
  obtain ⟨hp, g, dr, tk, os⟩ := s
  show wpAny _ _ (field (.ref en) 2 >>= _) _ _ _
  refine wpAny_bind (wpAny_field he rfl (x := .ref it) rfl ?_)
  refine wpAny_bind (next_inn hit hs hu fun h1 hit1 sb1 => ?_)
  replace sb1 : Heap.SameBut it hp h1 := sb1
  have he1 : IsEnum h1 en it k old := (sb1.2 en hne).trans he
  show wpAny _ _ (field (.ref en) 3 >>= _) _ _ ⟨h1, g, dr, tk, os⟩
  refine wpAny_bind (wpAny_field he1 rfl (x := rawInt k) rfl ?_)
  show wpAny _ _ (field (.ref en) 4 >>= _) _ _ ⟨h1, g, dr, tk, os⟩
  refine wpAny_bind (wpAny_field he1 rfl (x := .none) rfl ?_)
  show wpAny _ _ (mkInt k >>= _) _ _ ⟨h1, g, dr, tk, os⟩
  refine wpAny_bind (wpAny_mkInt ?_)
  show wpAny _ _ (setField (.ref en) 3 (rawInt ((k : Int) + 1)) >>= _) _ _ ⟨h1, g, dr, tk + 1, os⟩
  refine wpAny_bind (wpAny_setField_rec he1 (by simp) fun h2 he2 sb2 => ?_)
  replace sb2 : Heap.SameBut en h1 h2 := sb2
  replace he2 : IsEnum h2 en it ((k : Int) + 1) old := he2
  show wpAny _ _ (setField (.ref en) 4 .none >>= _) _ _ ⟨h2, g, dr, tk + 1, os⟩
  refine wpAny_bind (wpAny_setField_rec he2 (by simp) fun h3 he3 sb3 => ?_)
  replace sb3 : Heap.SameBut en h2 h3 := sb3
  replace he3 : IsEnum h3 en it ((k : Int) + 1) old := he3
  show wpAny _ _ (newTuple [.int k tk, u] >>= _) _ _ ⟨h3, g, dr, tk + 1, os⟩
  refine wpAny_bind (wpAny_newTuple ?_)
  have he4 : IsEnum (h3.push { cls := .type "tuple", data := .seq #[.int k tk, u] }) en it ((k : Int) + 1) old := Heap.get?_push_of_some _ he3
  generalize eh4 : h3.push { cls := .type "tuple", data := .seq #[.int k tk, u] } = h4 at he4
  have sz3 : h3.objs.size = hp.objs.size := by rw [sb3.1, sb2.1, sb1.1]
  have enlt : en < hp.objs.size := Heap.lt_size he
  have tp4 : h4.get? hp.objs.size = some { cls := .type "tuple", data := .seq #[.int k tk, u] } := by rw [← eh4, ← sz3]; exact Heap.get?_push_size _ rfl
  have sz4 : h4.objs.size = hp.objs.size + 1 := by rw [← eh4, Heap.size_push, sz3]
  have kp4 : ∀ b o, b ≠ en → b ≠ it → hp.get? b = some o → h4.get? b = some o := fun b o hbe hbi hb => by
    rw [← eh4]; exact Heap.get?_push_of_some _ (sb3.extBut b o hbe (sb2.extBut b o hbe (sb1.extBut b o hbi hb)))
  have hit4 : Inn tup h4 it a (k + 1) := hit1.keep fun o e => by
    rw [← eh4]; exact Heap.get?_push_of_some _ (sb3.extBut _ o (Ne.symm hne) (sb2.extBut _ o (Ne.symm hne) e))
  show wpAny _ _ (Builtin.SmallTypes.ownedTupleIsFree (.ref en) >>= _) _ _ ⟨h4, g, dr, tk + 1, os⟩
  rw [sz3]
  clear eh4 he3 sb3 he2 sb2 he1 sb1 hit1 sz3 h3 h2 h1
  refine wpAny_bind ?_
  unfold Builtin.SmallTypes.ownedTupleIsFree
  refine wpAny_bind (wpAny_field he4 rfl (x := .none) rfl (wpAny_pure ?_))
  simp only [if_true]
  refine wpAny_bind (wpAny_rule ?_)
  refine wpAny_bind (wpAny_field he4 rfl (x := old) rfl ?_)
  refine wpAny_bind (wpAny_setField_rec he4 (by simp) fun h5 he5 sb5 => ?_)
  replace sb5 : Heap.SameBut en h4 h5 := sb5
  replace he5 : IsEnum h5 en it ((k : Int) + 1) u := he5
  show wpAny _ _ (Builtin.SmallTypes.ownedTupleHandOut (.ref en) (.ref hp.objs.size) >>= _) _ _ ⟨h5, g, dr, tk + 1, os⟩
  refine wpAny_bind ?_
  unfold Builtin.SmallTypes.ownedTupleHandOut
  refine wpAny_bind (wpAny_setField_rec he5 (by simp) fun h6 he6 sb6 => ?_)
  replace sb6 : Heap.SameBut en h5 h6 := sb6
  replace he6 : IsEnumOut h6 en it ((k : Int) + 1) u hp.objs.size := he6
  refine wpAny_setField_rec he6 (by simp) fun h7 he7 sb7 => ?_
  replace sb7 : Heap.SameBut en h6 h7 := sb7
  replace he7 : IsEnumOut h7 en it ((k : Int) + 1) u hp.objs.size := he7
  have up : ∀ b o, b ≠ en → h4.get? b = some o → h7.get? b = some o := fun b o hbe hb => sb7.extBut b o hbe (sb6.extBut b o hbe (sb5.extBut b o hbe hb))
  refine wpAny_bind (wpAny_letGo (wpAny_pure ⟨_, rfl, wpAny_pure (fin h7 he7 (hit4.keep fun o e => up _ o (Ne.symm hne) e) (up _ _ (Nat.ne_of_gt enlt) tp4) ?_ fun b o hbe hbi hb => up b o hbe (kp4 b o hbe hbi hb))⟩))
  rw [sb7.1, sb6.1, sb5.1, sz4]

theorem next_pair_end {tup : Bool} {en it a : Addr} {k : Nat} {us : Array Value} {old : Value} {Q : Option Value → Shared → Prop} (calm : A.handled = none) (he : IsEnum s.heap en it k old) (hit : Inn tup s.heap it a k) (hs : Seq tup s.heap a us) (hu : us[k]? = none)
    (fin : ∀ h', Heap.ExtBut it s.heap h' → Q none { s with heap := h' }) : wpAny (model prog w) A (pyNext (.ref en)) Q E s := by
  have hT : s.TypeIs (.ref en) "enumerate" := ⟨_, he, rfl⟩
  unfold pyNext
  refine wpAny_bind (wpAny_attempt (wpAny_callSpecial?_slot (name := Str.ofString "__next__") hT F.slot_enumerate_next (wpAny_call_entry F.slot_enumerate_next hT F.entry_enumerate_next ?_ (F.args_enumerate_next_1 _))))
  show wpAny _ _ (field (.ref en) 2 >>= _) _ _ _
  refine wpAny_bind (wpAny_field he rfl (x := .ref it) rfl ?_)
  refine wpAny_bind (next_inn_end calm hit hs hu fun h' x ext hx => ?_)
  obtain ⟨o, ho, hc⟩ := hx
  refine wpAny_bind (wpAny_isInstance (T := "StopIteration") (b := true) ⟨o, ho, hc⟩ isSubtype_stop ?_)
  exact wpAny_pure (fin _ ext)

/-- enumerate of a tuple -/
theorem made_tup (t : Addr) (us : Array Value) (n : Nat) (dd : Option Addr) (sl : Array (Option Value)) :
    Meets (Builtin.«enumerate.__new__» ⟨[.type "enumerate", .ref t], []⟩) (fun _ R s => s.heap.get? t = some { cls := .type "tuple", dict := dd, data := .seq us n, slots := sl } ∧
      R (.ok (.ret (.ref (s.heap.push { cls := .type "tuple_iterator", data := .fields #[.ref t, .int 0 0] }).objs.size)))
        { s with heap := (s.heap.push { cls := .type "tuple_iterator", data := .fields #[.ref t, .int 0 0] }).push { cls := .type "enumerate", data := .fields #[.none, .bool false, .ref s.heap.objs.size, rawInt 0, .none, .none] } }) :=
  .of_wp fun prog w A R s h => by
    obtain ⟨hp, g, d, tk, os⟩ := s
    obtain ⟨ht, h⟩ := h
    have hsub := sub_enumerate
    have hT : Heap.IsTuple (Shared.heap ⟨hp, g, d, tk, os⟩) t us := ⟨_, ht, rfl, n, rfl⟩
    wp_walk using wpAny_loadPart' ht
    refine wpAny_stack_any fun st => wpAny_pure ?_
    split
    · rename_i c _ _ _ _ _
      cases (c == Value.type "enumerate")
      · wp_walk using wpAny_loadPart' ht, wpAny_pyIter_tuple hT
        exact ⟨_, rfl, h⟩
      · wp_walk using wpAny_loadPart' ht, wpAny_pyIter_tuple hT
        exact ⟨_, rfl, h⟩
    · wp_walk using wpAny_loadPart' ht, wpAny_pyIter_tuple hT
      exact ⟨_, rfl, h⟩
theorem call_tup {t : Addr} {us : Array Value} {Q : Value → Shared → Prop} (hT : s.heap.IsTuple t us)
    (h : ∀ h', IsEnum h' (s.heap.objs.size + 1) s.heap.objs.size 0 .none → h'.IsTupleIter s.heap.objs.size t 0 → h'.objs.size = s.heap.objs.size + 2 → (∀ b o, s.heap.get? b = some o → h'.get? b = some o) → Q (.ref (s.heap.objs.size + 1)) { s with heap := h' }) :
    wpAny (model prog w) A (call (.type "enumerate") [.ref t]) Q E s := by
  obtain ⟨⟨c, dd, dt, sl⟩, ht, hc, n, hd⟩ := hT
  replace hc : c = .type "tuple" := hc
  replace hd : dt = .seq us n := hd
  subst hc hd
  refine callType_new F.called_enumerate (by decide) (F.typeCall_enumerate_1 _) (F.newCall_enumerate_1 _) (fun obj => F.args_object_init_2 obj _) F.entry_enumerate_new (made_tup t us n dd sl) ⟨ht, ?_⟩
  have sz : (s.heap.push { cls := .type "tuple_iterator", data := .fields #[.ref t, .int 0 0] }).objs.size = s.heap.objs.size + 1 := Heap.size_push ..
  show _ ∧ _
  rw [sz]
  have he : IsEnum ((s.heap.push { cls := .type "tuple_iterator", data := .fields #[.ref t, .int 0 0] }).push { cls := .type "enumerate", data := .fields #[.none, .bool false, .ref s.heap.objs.size, rawInt 0, .none, .none] }) (s.heap.objs.size + 1) s.heap.objs.size 0 .none := by
    have := Heap.get?_push_size (s.heap.push { cls := .type "tuple_iterator", data := .fields #[.ref t, .int 0 0] }) (o := { cls := .type "enumerate", data := .fields #[.none, .bool false, .ref s.heap.objs.size, rawInt 0, .none, .none] }) rfl
    rw [sz] at this; exact this
  exact ⟨⟨_, he, rfl⟩, h _ he ⟨_, Heap.get?_push_of_some _ (Heap.get?_push_size _ rfl), rfl, rfl⟩ (by rw [Heap.size_push, sz]) fun b o x => Heap.get?_push_of_some _ (Heap.get?_push_of_some _ x)⟩
theorem call_any {tup : Bool} {a : Addr} {us : Array Value} {Q : Value → Shared → Prop} (hs : Seq tup s.heap a us)
    (h : ∀ h', IsEnum h' (s.heap.objs.size + 1) s.heap.objs.size 0 .none → Inn tup h' s.heap.objs.size a 0 → h'.objs.size = s.heap.objs.size + 2 → (∀ b o, s.heap.get? b = some o → h'.get? b = some o) → Q (.ref (s.heap.objs.size + 1)) { s with heap := h' }) :
    wpAny (model prog w) A (call (.type "enumerate") [.ref a]) Q E s := by
  cases tup with
  | true => exact call_tup hs h
  | false => exact call_enumerate_list hs h
end
end ENM

namespace L2
open PySem PySem.Spec PyProof.Rows ENM
noncomputable def SqB (K : PySem.W.Frag) (H : Hp) (tup : Bool) (a : Addr) (xs : List V) : Prop := match tup with
  | true => SqT K H a xs
  | false => SqL K H a xs
/-- (0, x), (1, y), .. of the list or the tuple at a -/
noncomputable def Ite (K : PySem.W.Frag) (tup : Bool) (a : Addr) : It :=
  ⟨fun i H => ∃ xs x, SqB K H tup a xs ∧ xs[i]? = some x, fun i H x H' => ∃ y p, (∀ xs, SqB K H tup a xs → xs[i]? = some y) ∧ H p = none ∧ H' = upd H p (.tup [.int i, y]) ∧ x = .ref p, fun i H => ∃ xs, SqB K H tup a xs ∧ xs.length ≤ i⟩
theorem Inv.seqB {X : Cx} {pins : List (Addr × Obj)} {σ : L2.St} {H : Hp} {s : Shared} (I : Inv X pins σ H s) {tup : Bool} {a : Addr} {xs : List V} (h : SqB X.K H tup a xs) : ∃ its : List Value, Vals xs its ∧ Seq tup s.heap a its.toArray := by
  cases tup with
  | true => obtain ⟨its, rv, p, _⟩ := I.tuple h; exact ⟨its, rv, p⟩
  | false => obtain ⟨its, rv, p, _⟩ := I.list h; exact ⟨its, rv, p.isList⟩
theorem Inv.seqB_inj {X : Cx} {pins : List (Addr × Obj)} {σ : L2.St} {H : Hp} {s : Shared} (I : Inv X pins σ H s) {tup : Bool} {a : Addr} {xs ys : List V} (h : SqB X.K H tup a xs) (h' : SqB X.K H tup a ys) : xs = ys := by
  cases tup with
  | true => exact I.tuple_inj h h'
  | false => exact I.list_inj h h'
theorem turn_enum {P : Program} {w : World} {K : PySem.W.Frag} {elts : List Expr} {k1 : Nat} {tp : Pos} (tup : Bool) (a en it : Addr) (hne : en ≠ it) :
    Turn P w K (.Tuple elts k1 tp) (Ite K tup a) [en, it] en (fun i h => (∃ old, IsEnum h en it i old) ∧ Inn tup h it a i) where
  mem := by simp
  obj := fun i h st b hb => by
    obtain ⟨⟨old, he⟩, hi⟩ := st
    rcases List.mem_cons.mp hb with rfl | hb
    · exact ⟨_, he, fun v z => by
        have z' : Data.fields _ = Data.cell v := z
        cases z'⟩
    · have e : b = it := by simpa using hb
      subst e; exact hi.there
  keep := fun i h h' st k => by
    obtain ⟨⟨old, he⟩, hi⟩ := st
    exact ⟨⟨old, k en (by simp) _ he⟩, hi.keep fun o e => k it (by simp) o e⟩
  item := by
    intro X hP hw hK hc i pins s σ H E I hf st hg
    subst hP hw hK
    obtain ⟨⟨old, he⟩, hi⟩ := st
    obtain ⟨xs, x, hq, hx⟩ := hg
    obtain ⟨its, rv, hs⟩ := I.seqB hq
    obtain ⟨u, hu, ru⟩ := rv.get hx
    obtain ⟨f0, f1, f2, f3, f4, f5⟩ := hf en (by simp)
    obtain ⟨g0, g1, g2, g3, g4, g5⟩ := hf it (by simp)
    refine next_pair he hi hs (u := u) (by simpa using hu) hne fun h' ho hi' ht hz hk => ?_
    refine ⟨_, rfl, wpAny_letOwnedTupleGo_enum ho fun h2 he2 sb2 => ?_⟩
    replace sb2 : Heap.SameBut en h' h2 := sb2
    have elt : en < s.heap.objs.size := Heap.lt_size he
    have hp : H s.heap.objs.size = none := I.hok.fresh (Nat.le_refl _)
    have ilt : it < s.heap.objs.size := by obtain ⟨o, e, _⟩ := hi.there; exact Heap.lt_size e
    -- the two records have turned; the pair is laid
    have kept : ∀ b o, b ≠ en → b ≠ it → s.heap.get? b = some o → h2.get? b = some o := fun b o h1 h3 e => sb2.extBut b o h1 (hk b o h1 h3 e)
    have tp2 : h2.get? s.heap.objs.size = some { cls := .type "tuple", data := .seq #[.int i s.toks, u] } := sb2.extBut _ _ (Nat.ne_of_gt elt) ht
    have I2 : Inv X pins σ (upd H s.heap.objs.size (.tup [.int i, x])) { s with heap := h2, toks := s.toks + 1 } := by
      refine I.step (g' := s.gens) (d' := s.drawn) (ch := [en, it]) (fun b hb => ?_) (fun b o _ _ hc e _ => kept b o (fun z => hc (by simp [z])) (fun z => hc (by simp [z])) e)
        (fun b o _ _ hc e _ => ⟨o.slots, kept b o (fun z => hc (by simp [z])) (fun z => hc (by simp [z])) e⟩) (fun b o _ e n => by rw [upd_ne (Nat.ne_of_lt (Heap.lt_size e))]; exact n)
        (fun b o hc e => ⟨o, kept b o (fun z => hc (by simp [z])) (fun z => hc (by simp [z])) e⟩) (fun b ys q => by rw [upd_ne (ne_of_none q hp)]; exact q) (fun b o u q => by rw [upd_ne (ne_of_none q hp)]; exact q)
        (fun b ps q => ⟨#[], by rw [upd_ne (ne_of_none q hp), q]; simp⟩) (fun m hm => ?_) ?_ I.bare
      · rcases List.mem_cons.mp hb with rfl | hb
        · exact ⟨f3, f1, f4, f5⟩
        · have e : b = it := by simpa using hb
          subst e; exact ⟨g3, g1, g4, g5⟩
      · obtain ⟨o, es, ep, ho', r⟩ := hm
        exact ⟨o, es, ep, kept _ o (Ne.symm f1) (Ne.symm g1) ho', r⟩
      · intro b o q
        by_cases hb : b = s.heap.objs.size
        · subst hb
          rw [upd_same] at q
          cases q
          exact ⟨by show 2 ≤ sizeLine; decide, [.int i s.toks, u], .cons ⟨_, rfl⟩ (.cons ru .nil), _, tp2, rfl, _, rfl⟩
        · rw [upd_ne hb] at q
          have hb1 : b ≠ en := fun z => by rw [z, f0] at q; cases q
          have hb2 : b ≠ it := fun z => by rw [z, g0] at q; cases q
          refine (I.hok b o q).stay (fun c v hc e => ?_) (fun c q => by rw [upd_ne (ne_of_none q hp)]; exact q) fun c ys q => by rw [upd_ne (ne_of_none q hp)]; exact q
          rcases hc with rfl | hc
          · exact kept _ v hb1 hb2 e
          · exact kept c v (fun z => by rw [z, f0] at hc; cases hc) (fun z => by rw [z, g0] at hc; cases hc) e
    refine ⟨.ref s.heap.objs.size, upd H s.heap.objs.size (.tup [.int i, x]), I2, rfl, ⟨x, _, fun ys hy => by rw [I.seqB_inj hy hq]; exact hx, hp, rfl, rfl⟩, ⟨⟨u, by simpa using he2⟩, hi'.keep fun o e => sb2.extBut _ o (Ne.symm hne) e⟩, fun b hb => ?_⟩
    rcases List.mem_cons.mp hb with rfl | hb
    · rw [upd_ne (Nat.ne_of_lt elt)]; exact f0
    · have e : b = it := by simpa using hb
      subst e; rw [upd_ne (Nat.ne_of_lt ilt)]; exact g0
  done := by
    intro X hP hw hK hc i pins s σ H E I hf st hg
    subst hP hw hK
    obtain ⟨⟨old, he⟩, hi⟩ := st
    obtain ⟨xs, hq, hx⟩ := hg
    obtain ⟨its, rv, hs⟩ := I.seqB hq
    obtain ⟨g0, g1, g2, g3, g4, g5⟩ := hf it (by simp)
    have hl := rv.length
    exact next_pair_end (I.ok.hd hc) he hi hs (by simp; omega) fun h' eb => ⟨rfl, I.turned (t' := s.toks) (fun b o hb e => eb b o hb e) g0 g1 g3 g4 g5⟩
  self := fun _ _ _ _ _ st h => by
    obtain ⟨⟨old, he⟩, _⟩ := st
    exact wpAny_pyIter_enum he h

section
variable {X : Cx}
noncomputable def iEnm (K : PySem.W.Frag) (ta : TA) : TI := fun σ H R => ta σ H fun vs H1 => ∃ tup a, vs = [.ref a] ∧ (∃ xs, SqB K H1 tup a xs) ∧ R (Ite K tup a) H1
theorem pi_enum {e : Expr} {ta : TA} {p pos : Pos} {elts : List Expr} {k1 : Nat} {tp : Pos} (hg : Gl X "enumerate") (hm : X.mg "enumerate" = none) (hv : bootBuiltins "enumerate" = some (.type "enumerate")) (ha : PA X [e] ta) (hs : starEach [e] X.env = [(false, eval e X.env)]) :
    PI X (.Tuple elts k1 tp) (.Call (.Name "enumerate" p) [e] [] pos) (iEnm X.K ta) := by
  intro pins s σ H R I h
  refine Call_ (ld_blt I hg hm hv (PyProof.Rows.callWith_type1 (thn (ha pos pins s σ H _ I h) fun us s1 ⟨vs, H1, I1, r1, q1⟩ => ?_) hs rfl))
  obtain ⟨tup, a, e, ⟨xs, hq⟩, q⟩ := q1
  subst e
  cases r1 with
  | cons r rr =>
    cases rr
    cases r
    obtain ⟨its, rv, hsq⟩ := I1.seqB hq
    refine call_any hsq fun h' he hi hz hk => ?_
    refine wpAny_pyIter_enum he ?_
    have fr : ∀ b, s1.heap.objs.size ≤ b → FpOk X pins H1 b := fun b hb => I1.fpOk hb (I1.hok.fresh hb)
    refine ⟨s1.heap.objs.size + 1, [s1.heap.objs.size + 1, s1.heap.objs.size], _, _, H1, rfl, I1.kept (t' := s1.toks) hk, turn_enum tup a _ _ (Nat.ne_of_gt (Nat.lt_succ_self _)), ⟨⟨.none, he⟩, hi⟩, fun b hb => ?_, q⟩
    rcases List.mem_cons.mp hb with rfl | hb
    · exact fr _ (Nat.le_succ _)
    · have e : b = s1.heap.objs.size := by simpa using hb
      subst e; exact fr _ (Nat.le_refl _)

/-- a range downwards: lo, lo - 1, .. (n of them) -/
noncomputable def ItrD (lo : Int) (n : Nat) : It := ⟨fun i _ => i < n, fun i H x H' => H' = H ∧ x = .int (lo - i), fun i _ => n ≤ i⟩
theorem turn_rangeD {P : Program} {w : World} {K : PySem.W.Frag} {tg : Expr} (it : Addr) (lo : Int) (n : Nat) : Turn P w K tg (ItrD lo n) [it] it (fun i h => IsRangeIter h it (lo + (i : Nat) * (-1)) ((n : Int) - (i : Nat)) (-1)) where
  mem := by simp
  obj := fun i h st b hb => by
    have e : b = it := by simpa using hb
    subst e
    exact ⟨_, st, fun v z => by
      have z' : Data.fields _ = Data.cell v := z
      cases z'⟩
  keep := fun i h h' st k => k it (by simp) _ st
  item := by
    intro X hP hw hK hc i pins s σ H E I hf st hg
    subst hP hw hK
    obtain ⟨f0, f1, f2, f3, f4, f5⟩ := hf it (by simp)
    have W := Walks.range (prog := X.prog) (w := X.w) (I.ok.hd hc) it lo (-1) n
    refine W.item i s _ _ hg st fun v h' tk hv st' kk => ?_
    obtain ⟨t, rfl⟩ := hv
    have I1 : Inv X pins σ H { s with heap := h', toks := tk } := I.turned (fun b o hb e => kk b o (by simpa using hb) e) f0 f1 f3 f4 f5
    refine ⟨_, rfl, go_of (s := { s with heap := h', toks := tk }) (n := "range_iterator") st' rfl rfl (by decide) ⟨.int (lo - i), H, I1, ⟨t, ?_⟩, ⟨rfl, rfl⟩, st', fun b hb => (hf b hb).1⟩⟩
    congr 1
    omega
  done := by
    intro X hP hw hK hc i pins s σ H E I hf st hg
    subst hP hw hK
    obtain ⟨f0, f1, f2, f3, f4, f5⟩ := hf it (by simp)
    exact wpAny_pyNext_range_end (I.ok.hd hc) st (by have : n ≤ i := hg; omega) fun h' eb => ⟨rfl, I.turned (t' := s.toks) (fun b o hb e => eb b o hb e) f0 f1 f3 f4 f5⟩
  self := fun _ _ _ _ _ st h => wpAny_pyIter_rangeiter st h

theorem rangeSize_down (a b : Int) : Builtin.Range.rangeSize a b (-1) = if b < a then a - b else 0 := by
  unfold Builtin.Range.rangeSize
  rw [if_neg (by decide)]
  by_cases h : b < a
  · rw [if_pos h, if_pos (show a > b from h)]
    rw [show (-(-1) : Int) = 1 from rfl, Int.ediv_one]; omega
  · rw [if_neg h, if_neg (show ¬ a > b from h)]
theorem small_down {a b : Int} (ha : -(2 ^ 62) ≤ a) (ha' : a < 2 ^ 62) (hb : -(2 ^ 62) ≤ b) (hb' : b < 2 ^ 62) : Builtin.Range.small a b (-1) = true := by
  unfold Builtin.Range.small
  rw [rangeSize_down]
  simp only [Builtin.Range.rangeFitsLong, Bool.and_eq_true, Bool.or_eq_true, decide_eq_true_eq, beq_iff_eq]
  by_cases h : b < a
  · simp only [if_pos h]
    rw [if_neg (show ¬ (-1 : Int) > 0 by decide), Bool.and_eq_true, decide_eq_true_eq, decide_eq_true_eq]
    omega
  · simp only [if_neg h]
    rw [if_neg (show ¬ (-1 : Int) > 0 by decide), Bool.and_eq_true, decide_eq_true_eq, decide_eq_true_eq]
    omega
noncomputable def iRng3 (ta : TA) : TI := fun σ H R => ta σ H fun vs H1 => ∃ i j : Int, vs = [.int i, .int j, .int (-1)] ∧ (-(2 ^ 62) ≤ i ∧ i < 2 ^ 62 ∧ -(2 ^ 62) ≤ j ∧ j < 2 ^ 62) ∧ R (ItrD i (i - j).toNat) H1
theorem pi_range3 {tg a b c : Expr} {ta : TA} {p pos : Pos} (hg : Gl X "range") (hm : X.mg "range" = none) (ha : PA X [a, b, c] ta) (hs : starEach [a, b, c] X.env = [(false, eval a X.env), (false, eval b X.env), (false, eval c X.env)]) (hs2 : starEach [b, c] X.env = [(false, eval b X.env), (false, eval c X.env)]) :
    PI X tg (.Call (.Name "range" p) [a, b, c] [] pos) (iRng3 ta) := by
  intro pins s σ H R I h
  refine Call_ (ld_blt I hg hm boot_range (PyProof.Rows.callWith_type1 (thn (ha pos pins s σ H _ I h) fun us s1 ⟨vs, H1, I1, r1, q1⟩ => ?_) (by rw [hs, hs2]) (by rw [hs2]; rfl)))
  obtain ⟨i, j, e, ⟨q1, q2, q3, q4⟩, q⟩ := q1
  subst e
  cases r1 with
  | cons r rr =>
    cases rr with
    | cons r' rr =>
      cases rr with
      | cons r'' rr =>
        cases rr
        obtain ⟨t, rfl⟩ := r
        obtain ⟨t', rfl⟩ := r'
        obtain ⟨t'', rfl⟩ := r''
        refine call_range_3 (by decide) ?_ (.inl (PyProof.noPylong_small (by decide)))
        refine wpAny_pyIter_range (IsRange.new ..) (small_down q1 q2 q3 q4) ?_
        have I2 : Inv X pins σ H1 { s1 with heap := s1.heap.push { cls := .type "range", data := .fields #[.int i t, .int j t', .int (-1) t''] } } := I1.kept (t' := s1.toks) fun b o e => Heap.get?_push_of_some _ e
        refine ⟨(s1.heap.push { cls := .type "range", data := .fields #[.int i t, .int j t', .int (-1) t''] }).objs.size, [(s1.heap.push { cls := .type "range", data := .fields #[.int i t, .int j t', .int (-1) t''] }).objs.size], _, _, H1, rfl,
          I2.kept (t' := s1.toks) fun b o e => Heap.get?_push_of_some _ e, turn_rangeD _ i (i - j).toNat, ?_, fun b hb => ?_, q⟩
        · have e1 : i + ((0 : Nat) : Int) * (-1) = i := by simp
          have e2 : (((i - j).toNat : Nat) : Int) - ((0 : Nat) : Int) = Builtin.Range.rangeSize i j (-1) := by rw [rangeSize_down]; split <;> omega
          show IsRangeIter _ _ (i + ((0 : Nat) : Int) * (-1)) ((((i - j).toNat : Nat) : Int) - ((0 : Nat) : Int)) (-1)
          rw [e1, e2]
          exact Heap.get?_push_size _ rfl
        · have e : b = (s1.heap.push { cls := .type "range", data := .fields #[.int i t, .int j t', .int (-1) t''] }).objs.size := by simpa using hb
          subst e
          exact I2.fpOk (Nat.le_refl _) (I2.hok.fresh (Nat.le_refl _))
end
end L2

set_option linter.all false
/-! A small language of data: values, a store of lists, programs; and what they answer. -/
namespace EV
open PySem

/-! ### data -/
inductive D where
  | non | bl (b : Bool) | int (i : Int) | str (x : Str) | tup (ds : List D) | loc (l : Nat) | exn (c : Str) | fro (ds : List D)
  deriving Inhabited

mutual
noncomputable def D.dec : (a b : D) → Decidable (a = b)
  | .non, b => match b with | .non => .isTrue rfl | .bl _ | .int _ | .str _ | .tup _ | .loc _ | .exn _ | .fro _ => .isFalse (fun h => nomatch h)
  | .bl x, b => match b with
    | .bl y => if h : x = y then .isTrue (by rw [h]) else .isFalse (fun e => h (D.bl.inj e))
    | .non | .int _ | .str _ | .tup _ | .loc _ | .exn _ | .fro _ => .isFalse (fun h => nomatch h)
  | .int x, b => match b with
    | .int y => if h : x = y then .isTrue (by rw [h]) else .isFalse (fun e => h (D.int.inj e))
    | .non | .bl _ | .str _ | .tup _ | .loc _ | .exn _ | .fro _ => .isFalse (fun h => nomatch h)
  | .str x, b => match b with
    | .str y => if h : x = y then .isTrue (by rw [h]) else .isFalse (fun e => h (D.str.inj e))
    | .non | .bl _ | .int _ | .tup _ | .loc _ | .exn _ | .fro _ => .isFalse (fun h => nomatch h)
  | .tup x, b => match b with
    | .tup y => match D.decs x y with
      | .isTrue h => .isTrue (by rw [h])
      | .isFalse h => .isFalse (fun e => h (D.tup.inj e))
    | .non | .bl _ | .int _ | .str _ | .loc _ | .exn _ | .fro _ => .isFalse (fun h => nomatch h)
  | .loc x, b => match b with
    | .loc y => if h : x = y then .isTrue (by rw [h]) else .isFalse (fun e => h (D.loc.inj e))
    | .non | .bl _ | .int _ | .str _ | .tup _ | .exn _ | .fro _ => .isFalse (fun h => nomatch h)
  | .exn x, b => match b with
    | .exn y => if h : x = y then .isTrue (by rw [h]) else .isFalse (fun e => h (D.exn.inj e))
    | .non | .bl _ | .int _ | .str _ | .tup _ | .loc _ | .fro _ => .isFalse (fun h => nomatch h)
  | .fro x, b => match b with
    | .fro y => match D.decs x y with
      | .isTrue h => .isTrue (by rw [h])
      | .isFalse h => .isFalse (fun e => h (D.fro.inj e))
    | .non | .bl _ | .int _ | .str _ | .loc _ | .exn _ | .tup _ => .isFalse (fun h => nomatch h)
noncomputable def D.decs : (a b : List D) → Decidable (a = b)
  | [], [] => .isTrue rfl
  | [], _ :: _ => .isFalse (fun h => nomatch h)
  | _ :: _, [] => .isFalse (fun h => nomatch h)
  | x :: xs, y :: ys => match D.dec x y with
    | .isFalse h => .isFalse (fun e => h (List.cons.inj e).1)
    | .isTrue h => match D.decs xs ys with
      | .isTrue h' => .isTrue (by rw [h, h'])
      | .isFalse h' => .isFalse (fun e => h' (List.cons.inj e).2)
end
noncomputable instance : DecidableEq D := D.dec

/-- a key of a dict: ints and texts -/
inductive Cell where
  | lst (ds : List D) | dct (kvs : List (D × D))
  deriving DecidableEq, Inhabited
abbrev Store := List Cell

inductive Res (α : Type) where
  | ok (a : α) (S : Store) | exc (c : Str) (S : Store) | bad
noncomputable def M (α : Type) := Store → Res α
noncomputable instance : Monad M where
  pure a := fun S => .ok a S
  bind m f := fun S => match m S with
    | .ok a S' => f a S'
    | .exc c S' => .exc c S'
    | .bad => .bad
theorem bind_ap {α β : Type} (m : M α) (f : α → M β) (S : Store) : (m >>= f) S = match m S with | .ok a S' => f a S' | .exc c S' => .exc c S' | .bad => .bad := rfl
theorem bind_ok {α β : Type} {m : M α} {f : α → M β} {S S' : Store} {a : α} (h : m S = .ok a S') : (m >>= f) S = f a S' := by rw [bind_ap, h]
theorem bind_exc {α β : Type} {m : M α} {f : α → M β} {S S' : Store} {c : Str} (h : m S = .exc c S') : (m >>= f) S = .exc c S' := by rw [bind_ap, h]
theorem bind_bad {α β : Type} {m : M α} {f : α → M β} {S : Store} (h : m S = .bad) : (m >>= f) S = .bad := by rw [bind_ap, h]

noncomputable def bad {α : Type} : M α := fun _ => .bad
noncomputable def opt {α : Type} : Option α → M α
  | some a => pure a
  | none => bad
noncomputable def alloc (c : Cell) : M D := fun S => .ok (.loc S.length) (S ++ [c])
/-- nothing may be raised in it -/
noncomputable def quiet {α : Type} (m : M α) : M α := fun S => match m S with
  | .ok a S' => .ok a S'
  | _ => .bad
noncomputable def sizeMax : Nat := 16777216
noncomputable def fits (n : Nat) : Bool := decide (n ≤ sizeMax)
noncomputable def fits1 (n : Nat) : Bool := decide (n < sizeMax)
/-- only if -/
noncomputable def guard {α : Type} (b : Bool) (m : M α) : M α := match b with
  | true => m
  | false => bad

noncomputable def listAt (S : Store) (l : Nat) : Option (List D) := match S[l]? with
  | some (.lst ds) => some ds
  | _ => none
/-- the items of a tuple or a list -/
noncomputable def items : D → M (List D)
  | .tup ds => pure ds
  | .loc l => fun S => match listAt S l with
    | some ds => .ok ds S
    | none => .bad
  | .fro ds => pure ds
  | _ => bad
/-- of a list alone -/
noncomputable def itemsL : D → M (List D)
  | .loc l => items (.loc l)
  | .fro ds => pure ds
  | _ => bad
/-- what is a list -/
noncomputable def asL (S : Store) : D → Option (List D)
  | .loc l => listAt S l
  | .fro ds => some ds
  | _ => none

/-! ### equality -/
noncomputable def i2b (b : Bool) : Int := if b then 1 else 0
/-- of what is no tuple and no list -/
noncomputable def eqFlat : D → D → Option Bool
  | .non, .non => some true
  | .non, .bl _ | .non, .int _ | .non, .str _ | .bl _, .non | .int _, .non | .str _, .non => some false
  | .bl a, .bl b => some (a == b)
  | .bl a, .int b => some (i2b a == b)
  | .int a, .bl b => some (a == i2b b)
  | .int a, .int b => some (a == b)
  | .str a, .str b => some (a == b)
  | .bl _, .str _ | .int _, .str _ | .str _, .bl _ | .str _, .int _ => some false
  | _, _ => none
/-- all pairs are compared -/
noncomputable def eqDs (f : D → D → Option Bool) : List D → List D → Option Bool
  | x :: xs, y :: ys => match f x y, eqDs f xs ys with
    | some a, some b => some (a && b)
    | _, _ => none
  | _, _ => some true
/-- the kinds of data: what is flat, tuples, lists -/
inductive Kd where | flat | tup | list | other
noncomputable def D.kd : D → Kd
  | .non | .bl _ | .int _ | .str _ => .flat
  | .tup _ => .tup
  | .loc _ | .fro _ => .list
  | .exn _ => .other
noncomputable def D.its : D → List D
  | .tup ds => ds
  | _ => []
noncomputable def eqD : Nat → Store → D → D → Option Bool
  | 0, _, _, _ => none
  | n + 1, S, a, b => match a.kd, b.kd with
    | .flat, .flat => eqFlat a b
    | .tup, .tup => (eqDs (eqD n S) a.its b.its).map fun r => r && (a.its.length == b.its.length)
    | .list, .list => match asL S a, asL S b with
      | some xs, some ys => if xs.length = ys.length then eqDs (eqD n S) xs ys else some false
      | _, _ => none
    | .list, .tup => (asL S a).map fun _ => false
    | .tup, .list => (asL S b).map fun _ => false
    | .list, .flat => (asL S a).map fun _ => false
    | .flat, .list => (asL S b).map fun _ => false
    | .tup, .flat => some false
    | .flat, .tup => some false
    | _, _ => none
/-- how deep == looks -/
noncomputable def deep : Nat := 12
noncomputable def eqM (a b : D) : M Bool := fun S => match eqD deep S a b with
  | some k => .ok k S
  | none => .bad
/-- is x among the items -/
noncomputable def inL (S : Store) (x : D) : List D → Option Bool
  | [] => some false
  | y :: ys => match eqD deep S y x, inL S x ys with
    | some a, some b => some (a || b)
    | _, _ => none

/-! ### operations -/
inductive Op2 where | add | sub | mul | fdiv | mod | pow
inductive Cm where | lt | le | gt | ge | eq | ne | isin | notin
inductive Ty where | int | bool | str | list | tuple | dict | cls (c : Str)
  deriving DecidableEq
inductive Bi where | len | inst (t : Ty) | all | any | sum | min | max | sorted | sortedSet | list | tuple | int | abs | rangeT | rangeL
inductive Me where | append | extend

noncomputable def small (i : Int) : Bool := decide (-(2 ^ 64) < i ∧ i < 2 ^ 64)
noncomputable def onLst (l : Nat) (f : List D → M D) : M D := fun S => match S[l]? with
  | some (.lst ds) => f ds S
  | _ => .bad
noncomputable def put (l : Nat) (c : Cell) : M D := fun S => .ok .non (S.set l c)
noncomputable def catL (a b : Nat) : M D := onLst a fun xs => onLst b fun ys => guard (fits (xs.length + ys.length)) (alloc (.lst (xs ++ ys)))
noncomputable def addD : D → D → M D
  | .int i, .int j => pure (.int (i + j))
  | .tup xs, .tup ys => guard (fits (xs.length + ys.length)) (pure (.tup (xs ++ ys)))
  | .str x, .str y => guard (fits (x.length + y.length)) (pure (.str (x ++ y)))
  | .loc a, .loc b => catL a b
  | _, _ => bad
noncomputable def subD : D → D → M D
  | .int i, .int j => pure (.int (i - j))
  | _, _ => bad
noncomputable def mulD : D → D → M D
  | .int i, .int j => guard (small i || small j) (pure (.int (i * j)))
  | _, _ => bad
noncomputable def fdivD : D → D → M D
  | .int i, .int j => guard (decide (0 < j) && decide (j < 1073741824)) (pure (.int (i / j)))
  | _, _ => bad
noncomputable def modD : D → D → M D
  | .int i, .int j => guard (decide (0 < j)) (pure (.int (i % j)))
  | _, _ => bad
noncomputable def powD : D → D → M D
  | .int i, .int j => guard (decide (0 ≤ j) && decide (j ≤ 1000) && decide (i.natAbs < 2 ^ 64)) (pure (.int (i ^ j.toNat)))
  | _, _ => bad
noncomputable def opD : Op2 → D → D → M D
  | .add => addD
  | .sub => subD
  | .mul => mulD
  | .fdiv => fdivD
  | .mod => modD
  | .pow => powD
noncomputable def intCm (p : Int → Int → Bool) : D → D → M D
  | .int i, .int j => pure (.bl (p i j))
  | _, _ => bad
noncomputable def inA (neg : Bool) (a : D) (ys : List D) : M D := fun S => match inL S a ys with
  | some k => .ok (.bl (k != neg)) S
  | none => .bad
noncomputable def inM (neg : Bool) (a b : D) : M D := do
  let ys ← items b
  inA neg a ys
/-- != is told of two flat data (but an int and a bool), two tuples, two lists -/
noncomputable def neOk : D → D → Bool
  | .bl _, .int _ => false
  | .int _, .bl _ => false
  | a, b => match a.kd, b.kd with
    | .flat, .flat => true
    | .tup, .tup => true
    | .list, .list => true
    | _, _ => false
noncomputable def cmD : Cm → D → D → M D
  | .lt => intCm fun i j => decide (i < j)
  | .le => intCm fun i j => decide (i ≤ j)
  | .gt => intCm fun i j => decide (j < i)
  | .ge => intCm fun i j => decide (j ≤ i)
  | .eq => fun a b => do pure (.bl (← eqM a b))
  | .ne => fun a b => guard (neOk a b) (do pure (.bl (!(← eqM a b))))
  | .isin => inM false
  | .notin => inM true
noncomputable def truth : D → M Bool
  | .bl b => pure b
  | .non => pure false
  | .int i => pure (i != 0)
  | .tup ds => pure (!ds.isEmpty)
  | .loc l => do
    let xs ← items (.loc l)
    pure (!xs.isEmpty)
  | .fro ds => pure (!ds.isEmpty)
  | _ => bad
noncomputable def ixN (n : Nat) (i : Int) : Option Nat := if 0 ≤ i then (if i < n then some i.toNat else none) else if -(n : Int) ≤ i then some (i + n).toNat else none
noncomputable def atI (xs : List D) (i : Int) : Option D := (ixN xs.length i).bind fun j => xs[j]?
noncomputable def ixD (a i : D) : M D := match i with
  | .int j => do
    let xs ← items a
    opt (atI xs j)
  | _ => bad
noncomputable def sIx (n d : Nat) : Option Int → Nat
  | none => d
  | some v => if v < 0 then (v + (n : Int)).toNat else min v.toNat n
noncomputable def cut (xs : List D) (lo hi : Option Int) : List D := (xs.drop (sIx xs.length 0 lo)).take (sIx xs.length xs.length hi - sIx xs.length 0 lo)
noncomputable def slD (a : D) (lo hi : Option Int) : M D := match a with
  | .tup xs => pure (.tup (cut xs lo hi))
  | .loc l => do
    let xs ← items (.loc l)
    alloc (.lst (cut xs lo hi))
  | .fro xs => alloc (.lst (cut xs lo hi))
  | _ => bad
noncomputable def allInts : List D → Option (List Int)
  | [] => some []
  | .int i :: r => (allInts r).map (i :: ·)
  | _ => none
/-- the truths of items that are allBools -/
noncomputable def allBools : List D → Option (List Bool)
  | [] => some []
  | .bl i :: r => (allBools r).map (i :: ·)
  | _ => none
noncomputable def ins (i : Int) : List Int → List Int
  | [] => [i]
  | j :: r => if i ≤ j then i :: j :: r else j :: ins i r
noncomputable def isort : List Int → List Int
  | [] => []
  | i :: r => ins i (isort r)
/-- which class stands under which: sub a b -/
abbrev Sub := Str → Str → Bool
noncomputable def tyOf (sub : Sub) (S : Store) : D → Ty → Option Bool
  | .non, t => match t with | .cls _ => none | _ => some false
  | .bl _, t => match t with | .cls _ => none | .int => some true | .bool => some true | _ => some false
  | .int _, t => match t with | .cls _ => none | .int => some true | _ => some false
  | .str _, t => match t with | .cls _ => none | .str => some true | _ => some false
  | .tup _, t => match t with | .cls _ => none | .tuple => some true | _ => some false
  | .loc l, t => match S[l]?, t with
    | _, .cls _ => none
    | some (.lst _), .list => some true
    | some (.lst _), _ => some false
    | some (.dct _), .dict => some true
    | some (.dct _), _ => some false
    | none, _ => none
  | .fro _, t => match t with | .cls _ => none | .list => some true | _ => some false
  | .exn c, t => match t with | .cls d => some (sub c d) | _ => none
/-- triples and their like, put in order, each once -/
noncomputable def lexLe : List Int → List Int → Bool
  | [], _ => true
  | _ :: _, [] => false
  | a :: r, b :: q => if a < b then true else if a = b then lexLe r q else false
noncomputable def insT (t : List Int) : List (List Int) → List (List Int)
  | [] => [t]
  | u :: r => if t = u then u :: r else if lexLe t u then t :: u :: r else u :: insT t r
noncomputable def sortT : List (List Int) → List (List Int)
  | [] => []
  | t :: r => insT t (sortT r)
noncomputable def tups : List D → Option (List (List Int))
  | [] => some []
  | .tup ds :: r => match allInts ds, tups r with
    | some t, some q => some (t :: q)
    | _, _ => none
  | _ => none
noncomputable def rng (lo hi step : Int) : List Int :=
  if 0 < step then (List.range ((hi - lo + step - 1) / step).toNat).map fun (k : Nat) => lo + k * step
  else if step < 0 then (List.range ((lo - hi - step - 1) / (-step)).toNat).map fun (k : Nat) => lo + k * step
  else []
noncomputable def near (i : Int) : Bool := decide (-(2 ^ 62) ≤ i ∧ i < 2 ^ 62)
/-- the allInts of range(..) -/
noncomputable def rngOf : List D → Option (List Int)
  | [.int j] => if near j then some (rng 0 j 1) else none
  | [.int i, .int j] => if near i && near j then some (rng i j 1) else none
  | [.int i, .int j, .int k] => if near i && near j && decide (k = -1) then some (rng i j k) else none
  | _ => none

noncomputable def minL : List Int → M D
  | [] => bad
  | i :: r => pure (.int (r.foldl min i))
noncomputable def maxL : List Int → M D
  | [] => bad
  | i :: r => pure (.int (r.foldl max i))
noncomputable def min2 : D → D → M D
  | .int i, .int j => pure (.int (if j < i then j else i))
  | _, _ => bad
noncomputable def max2 : D → D → M D
  | .int i, .int j => pure (.int (if j > i then j else i))
  | _, _ => bad
noncomputable def toInt : D → M D
  | .int i => pure (.int i)
  | .bl b => pure (.int (i2b b))
  | _ => bad
noncomputable def absD : D → M D
  | .int i => pure (.int (if i < 0 then -i else i))
  | _ => bad
noncomputable def instM (sub : Sub) (t : Ty) (a : D) : M D := fun S => match tyOf sub S a t with
  | some k => .ok (.bl k) S
  | none => .bad
noncomputable def tupM : D → M D
  | .tup ds => pure (.tup ds)
  | a => do pure (.tup (← items a))
noncomputable def bi1 (sub : Sub) : Bi → D → M D
  | .len, a => do
    let ds ← items a
    pure (.int ds.length)
  | .inst t, a => instM sub t a
  | .all, a => do
    let ds ← items a
    let bs ← opt (allBools ds)
    pure (.bl (bs.all id))
  | .any, a => do
    let ds ← items a
    let bs ← opt (allBools ds)
    pure (.bl (bs.any id))
  | .sum, a => do
    let ds ← items a
    let is ← opt (allInts ds)
    pure (.int is.sum)
  | .min, a => do
    let ds ← items a
    let is ← opt (allInts ds)
    minL is
  | .max, a => do
    let ds ← items a
    let is ← opt (allInts ds)
    maxL is
  | .sorted, a => do
    let ds ← itemsL a
    let is ← opt (allInts ds)
    guard (decide (is.length < 64)) (alloc (.lst ((isort is).map .int)))
  | .sortedSet, a => do
    let ds ← itemsL a
    let ts ← opt (tups ds)
    guard (decide (ts.length < 64)) (alloc (.lst ((sortT ts).map fun t => .tup (t.map .int))))
  | .list, a => do
    let ds ← items a
    alloc (.lst ds)
  | .tuple, a => do
    let ds ← items a
    pure (.tup ds)
  | .int, a => toInt a
  | .abs, a => absD a
  | .rangeT, _ => bad
  | .rangeL, _ => bad
noncomputable def bi2 : Bi → D → D → M D
  | .min => min2
  | .max => max2
  | _ => fun _ _ => bad
noncomputable def biR : Bi → List D → M D
  | .rangeT, as => do
    let is ← opt (rngOf as)
    guard (fits is.length) (pure (.tup (is.map .int)))
  | .rangeL, as => do
    let is ← opt (rngOf as)
    guard (fits is.length) (alloc (.lst (is.map .int)))
  | _, _ => bad
noncomputable def Bi.isR : Bi → Bool
  | .rangeT => true
  | .rangeL => true
  | _ => false
noncomputable def biD (sub : Sub) (b : Bi) (as : List D) : M D := match b.isR with
  | true => biR b as
  | false => match as with
    | [a] => bi1 sub b a
    | [a, c] => bi2 b a c
    | _ => bad
noncomputable def appM : D → D → M D
  | .loc l, d => onLst l fun ds => guard (fits1 ds.length) (put l (.lst (ds ++ [d])))
  | _, _ => bad
noncomputable def extM : D → D → M D
  | .loc l, .loc k => onLst l fun ds => onLst k fun es => guard (fits (ds.length + es.length)) (put l (.lst (ds ++ es)))
  | _, _ => bad
noncomputable def meD (m : Me) (o : D) (as : List D) : M D := match as with
  | [d] => match m with
    | .append => appM o d
    | .extend => extM o d
  | _ => bad

/-! ### programs -/
inductive Tg where
  | one (i : Nat) | many (is : List Nat)
abbrev Sg := List (Option D)
noncomputable def Tg.has : Tg → Nat → Bool
  | .one i, j => i == j
  | .many is, j => is.contains j
noncomputable def setAll : List Nat → List D → Sg → Sg
  | i :: is, d :: ds, σ => setAll is ds (σ.set i (some d))
  | _, _, σ => σ
noncomputable def bindT : Tg → D → Sg → M Sg
  | .one i, d, σ => pure (σ.set i (some d))
  | .many is, .tup ds, σ => guard (decide (ds.length = is.length)) (pure (setAll is ds σ))
  | _, _, _ => bad
inductive E where
  | v (i : Nat) | c (d : D) | bin (op : Op2) (a b : E) | cmp (op : Cm) (a b : E) | chn (o o' : Cm) (a b c : E) | and (a b : E) | or (a b : E) | not (a : E) | neg (a : E) | isN (a : E) | notN (a : E) | ite (c a b : E)
  | nl | cs (a r : E) | tup (es : E) | lst (es : E) | ix (a i : E) | sl (a lo hi : E) | call (f : Str) (es : E) | bi (b : Bi) (es : E) | me (m : Me) (o es : E)
  | iSeq (a : E) | iEnum (a : E) | iRng (es : E) | comp (k : Nat) (elt : E) (t : Tg) (it ife : E)
/-- what is walked: the items; the list that they come from -/
structure Src where
  its : List D
  l : Option Nat
  raw : List D
noncomputable def still (s : Src) : M Unit := match s.l with
  | none => pure ()
  | some l => fun S => match listAt S l with
    | some ds => guard (decide (ds = s.raw)) (pure ()) S
    | none => .bad
noncomputable def srcOf : D → M Src
  | .tup ds => pure ⟨ds, none, ds⟩
  | .loc l => do
    let ds ← items (.loc l)
    pure ⟨ds, some l, ds⟩
  | .fro ds => pure ⟨ds, none, ds⟩
  | _ => bad
noncomputable def num (k : Nat) : List D → List D
  | [] => []
  | d :: r => .tup [.int k, d] :: num (k + 1) r
noncomputable def compL (s : Src) (f : D → M (Option D)) : List D → M (List D)
  | [] => do
    still s
    pure []
  | d :: ds => do
    still s
    let y ← f d
    let ys ← compL s f ds
    pure (match y with | some y => y :: ys | none => ys)
noncomputable def partOf : D → M (Option Int)
  | .int i => pure (some i)
  | _ => bad
noncomputable def D.isLoc : D → Bool
  | .loc _ => true
  | _ => false
noncomputable def varD (σ : Sg) (i : Nat) : M D := match σ[i]? with
  | some (some d) => pure d
  | _ => bad
noncomputable def E.isNl : E → Bool
  | .nl => true
  | _ => false
section
variable (sub : Sub) (cf : Str → List D → M D)
mutual
noncomputable def ev : E → Sg → M D
  | .v i, σ => varD σ i
  | .c d, _ => pure d
  | .bin op a b, σ => do
    let x ← ev a σ
    let y ← ev b σ
    opD op x y
  | .cmp op a b, σ => do
    let x ← ev a σ
    let y ← ev b σ
    cmD op x y
  | .chn o o' a b c, σ => do
    let x ← ev a σ
    let y ← ev b σ
    match ← cmD o x y with
      | .bl true => do
        let z ← ev c σ
        cmD o' y z
      | .bl false => pure (.bl false)
      | _ => bad
  | .and a b, σ => do
    match ← ev a σ with
      | .bl true => ev b σ
      | .bl false => pure (.bl false)
      | _ => bad
  | .or a b, σ => do
    match ← ev a σ with
      | .bl true => pure (.bl true)
      | .bl false => ev b σ
      | _ => bad
  | .not a, σ => do
    match ← ev a σ with
      | .bl b => pure (.bl (!b))
      | _ => bad
  | .neg a, σ => do
    match ← ev a σ with
      | .int i => pure (.int (-i))
      | _ => bad
  | .isN a, σ => do
    let x ← ev a σ
    pure (.bl (decide (x = .non)))
  | .notN a, σ => do
    let x ← ev a σ
    pure (.bl (!decide (x = .non)))
  | .ite c a b, σ => do
    if ← evT c σ then ev a σ else ev b σ
  | .tup es, σ => do
    let ds ← evs es σ
    guard (fits ds.length) (pure (.tup ds))
  | .lst es, σ => do
    let ds ← evs es σ
    guard (fits ds.length) (alloc (.lst ds))
  | .ix a i, σ => do
    let x ← ev a σ
    let y ← ev i σ
    ixD x y
  | .sl a lo hi, σ => do
    let x ← ev a σ
    let l ← (if lo.isNl then pure none else do partOf (← ev lo σ))
    let h ← (if hi.isNl then pure none else do partOf (← ev hi σ))
    slD x l h
  | .call f es, σ => do
    let ds ← evs es σ
    cf f ds
  | .bi b es, σ => do
    let ds ← evs es σ
    biD sub b ds
  | .me m o es, σ => do
    let x ← ev o σ
    guard x.isLoc (do
      let ds ← evs es σ
      meD m x ds)
  | .comp k elt t it ife, σ => do
    let s ← evI it σ
    let ys ← quiet (compL s (fun d => do
      let σ' ← bindT t d (σ ++ List.replicate k none)
      if ← (if ife.isNl then pure true else evT ife σ') then do
        let y ← ev elt σ'
        pure (some y)
      else pure none) s.its)
    guard (fits ys.length) (alloc (.lst ys))
  | .nl, _ => bad
  | .cs _ _, _ => bad
  | .iSeq _, _ => bad
  | .iEnum _, _ => bad
  | .iRng _, _ => bad
/-- as a test -/
noncomputable def evT : E → Sg → M Bool
  | .and a b, σ => do
    if ← evT a σ then evT b σ else pure false
  | .or a b, σ => do
    if ← evT a σ then pure true else evT b σ
  | .not a, σ => do
    let b ← evT a σ
    pure (!b)
  | .v i, σ => varD σ i >>= truth
  | .c d, _ => pure d >>= truth
  | .cmp op a b, σ => do
    let x ← ev a σ
    let y ← ev b σ
    truth (← cmD op x y)
  | .chn o o' a b c, σ => do
    let x ← ev a σ
    let y ← ev b σ
    if ← truth (← cmD o x y) then do
      let z ← ev c σ
      truth (← cmD o' y z)
    else pure false
  | .isN a, σ => do
    let x ← ev a σ
    pure (decide (x = .non))
  | .notN a, σ => do
    let x ← ev a σ
    pure (!decide (x = .non))
  | .ix a i, σ => (do
    let x ← ev a σ
    let y ← ev i σ
    ixD x y) >>= truth
  | .call f es, σ => (do
    let ds ← evs es σ
    cf f ds) >>= truth
  | .bi b es, σ => (do
    let ds ← evs es σ
    biD sub b ds) >>= truth
  | _, _ => bad
noncomputable def evs : E → Sg → M (List D)
  | .nl, _ => pure []
  | .cs a r, σ => do
    let x ← ev a σ
    let xs ← evs r σ
    pure (x :: xs)
  | _, _ => bad
/-- what is walked -/
noncomputable def evI : E → Sg → M Src
  | .iSeq a, σ => do srcOf (← ev a σ)
  | .iEnum a, σ => do
    let s ← srcOf (← ev a σ)
    pure { s with its := num 0 s.its }
  | .iRng es, σ => do
    let is ← opt (rngOf (← evs es σ))
    pure ⟨is.map .int, none, []⟩
  | _, _ => bad
end
end

/-! ### statements -/
inductive S where
  | ret (e : E) | retN | set (t : Tg) (e : E) | ex (e : E) | ite (c : E) (a b : S) | forS (t : Tg) (it : E) (b : S) | whl (c : E) (b : S) | rais (c : Str) | tryS (b : S) (c : Str) (x : Option Nat) (h : S)
  | skip | seq (a b : S) | brk | cont
inductive Fl where
  | nx (σ : Sg) | rt (d : D) | bk (σ : Sg) | ct (σ : Sg)
noncomputable def forL (s : Src) (f : D → Sg → M Fl) : List D → Sg → M Fl
  | [], σ => do
    still s
    pure (.nx σ)
  | d :: ds, σ => do
    still s
    match ← f d σ with
      | .nx σ' => forL s f ds σ'
      | .ct σ' => forL s f ds σ'
      | .bk σ' => pure (.nx σ')
      | .rt d => pure (.rt d)
noncomputable def whileN (c : Sg → M Bool) (f : Sg → M Fl) : Nat → Sg → M Fl
  | 0, _ => bad
  | n + 1, σ => do
    if ← c σ then do
      match ← f σ with
        | .nx σ' => whileN c f n σ'
        | .ct σ' => whileN c f n σ'
        | .bk σ' => pure (.nx σ')
        | .rt d => pure (.rt d)
    else pure (.nx σ)
noncomputable def turnsMax : Nat := 1000000
section
variable (sub : Sub) (cf : Str → List D → M D)
noncomputable def exec : S → Sg → M Fl
  | .ret e, σ => do
    let d ← ev sub cf e σ
    pure (.rt d)
  | .retN, _ => pure (.rt .non)
  | .set t e, σ => do
    let d ← ev sub cf e σ
    let σ' ← bindT t d σ
    pure (.nx σ')
  | .ex e, σ => do
    let _ ← ev sub cf e σ
    pure (.nx σ)
  | .ite c a b, σ => do
    if ← evT sub cf c σ then exec a σ else exec b σ
  | .forS t it b, σ => quiet (do
    let s ← evI sub cf it σ
    forL s (fun d σ => do
      let σ' ← bindT t d σ
      exec b σ') s.its σ)
  | .whl c b, σ => quiet (whileN (evT sub cf c) (exec b) turnsMax σ)
  | .rais c, _ => fun S => .exc c S
  | .tryS b c x h, σ => fun S => match exec b σ S with
    | .exc c' S' => if sub c' c then (match x with
        | none => exec h σ S'
        | some i => exec h (σ.set i (some (.exn c'))) S') else .exc c' S'
    | r => r
  | .skip, σ => pure (.nx σ)
  | .seq a b, σ => do
    match ← exec a σ with
      | .nx σ' => exec b σ'
      | f => pure f
  | .brk, σ => pure (.bk σ)
  | .cont, σ => pure (.ct σ)
end
mutual
noncomputable def D.low (n : Nat) : D → Bool
  | .tup ds => D.lows n ds
  | .fro ds => D.lows n ds
  | .loc l => decide (l < n)
  | _ => true
noncomputable def D.lows (n : Nat) : List D → Bool
  | [] => true
  | d :: r => D.low n d && D.lows n r
end
noncomputable def Cell.low (n : Nat) : Cell → Bool
  | .lst ds => D.lows n ds
  | .dct _ => false
/-- what is left behind a call: the caller's lists, if they are as they were, and one that is handed back -/
noncomputable def leave (S : Store) (d : D) (S' : Store) : Res D :=
  if S'.take S.length = S then
    if d.low S.length then .ok d S
    else match d with
      | .loc l => match S'[l]? with
        | some c => if c.low S.length then .ok (.loc S.length) (S ++ [c]) else .ok d S'
        | none => .ok d S'
      | _ => .ok d S'
  else .ok d S'
/-- a def: how many parameters, how many names, its body -/
structure Fn where
  par : Nat
  names : Nat
  body : S
abbrev Prg := List (Str × Fn)
/-- how a def's body ends -/
noncomputable def endF (S : Store) : Res Fl → Res D
  | .ok (.rt d) S' => leave S d S'
  | .ok (.nx _) S' => leave S .non S'
  | .ok (.bk _) _ => .bad
  | .ok (.ct _) _ => .bad
  | .exc c S' => if S'.take S.length = S then .exc c S else .exc c S'
  | .bad => .bad
noncomputable def frame (F : Fn) (ds : List D) : Sg := ds.map some ++ List.replicate (F.names - ds.length) none
noncomputable def callF (sub : Sub) (P : Prg) : Nat → Str → List D → M D
  | 0, _, _ => bad
  | n + 1, f, ds => fun S => match P.lookup f with
    | none => .bad
    | some F => if ds.length = F.par then endF S (exec sub (callF sub P n) F.body (frame F ds) S) else .bad
theorem callF_ok {sub : Sub} {P : Prg} {n : Nat} {f : Str} {ds : List D} {S : Store} {F : Fn} (h : P.lookup f = some F) (hl : ds.length = F.par) : callF sub P (n + 1) f ds S = endF S (exec sub (callF sub P n) F.body (frame F ds) S) := by
  show (match P.lookup f with | none => Res.bad | some F => if ds.length = F.par then endF S (exec sub (callF sub P n) F.body (frame F ds) S) else .bad) = _
  rw [h]; simp only [hl, if_true]
theorem callF_bad {sub : Sub} {P : Prg} {n : Nat} {f : Str} {ds : List D} {S : Store} {F : Fn} (h : P.lookup f = some F) (hl : ds.length ≠ F.par) : callF sub P (n + 1) f ds S = .bad := by
  show (match P.lookup f with | none => Res.bad | some F => if ds.length = F.par then endF S (exec sub (callF sub P n) F.body (frame F ds) S) else .bad) = _
  rw [h]; simp only [hl, if_false]
end EV

set_option Elab.async false
set_option linter.all false
set_option maxRecDepth 100000
namespace EV
open PySem PySem.Spec PyProof.Rows L2

/-! ### pairs of lists -/
theorem Paired.get {α β : Type} {F : α → β → Prop} : ∀ {xs : List α} {ys : List β} {i : Nat} {x : α}, Paired F xs ys → xs[i]? = some x → ∃ y, ys[i]? = some y ∧ F x y
  | _, _, _, _, .nil, e => by simp at e
  | _, _, 0, _, .cons r _, e => by simp at e; subst e; exact ⟨_, rfl, r⟩
  | _, _, i + 1, x, .cons _ t, e => by
    obtain ⟨u, h1, h2⟩ := Paired.get (i := i) (x := x) t (by simpa using e)
    exact ⟨u, by simpa using h1, h2⟩
theorem Paired.get' {α β : Type} {F : α → β → Prop} {xs : List α} {ys : List β} {i : Nat} {y : β} (p : Paired F xs ys) (e : ys[i]? = some y) : ∃ x, xs[i]? = some x ∧ F x y := by
  have hl := p.length
  have hi : i < xs.length := by rw [hl]; exact (List.getElem?_eq_some_iff.mp e).1
  obtain ⟨y', e', f⟩ := Paired.get p (List.getElem?_eq_getElem hi)
  rw [e] at e'; cases e'
  exact ⟨_, List.getElem?_eq_getElem hi, f⟩
theorem Paired.step {α β : Type} {F : α → β → Prop} {ds : List α} {vs : List β} {n : Nat} (h : Paired F ds vs) (hl : ds.length = n + 1) : ∃ d r v q, ds = d :: r ∧ vs = v :: q ∧ F d v ∧ Paired F r q ∧ r.length = n := by
  cases h with
  | nil => cases hl
  | cons f t => exact ⟨_, _, _, _, rfl, rfl, f, t, Nat.succ.inj hl⟩
theorem Paired.last {α β : Type} {F : α → β → Prop} {ds : List α} {vs : List β} (h : Paired F ds vs) (hl : ds.length = 0) : ds = [] ∧ vs = [] := by
  cases h with
  | nil => exact ⟨rfl, rfl⟩
  | cons f t => cases hl
theorem Paired.app {α β : Type} {F : α → β → Prop} : ∀ {a c : List α} {b d : List β}, Paired F a b → Paired F c d → Paired F (a ++ c) (b ++ d)
  | _, _, _, _, .nil, s => s
  | _, _, _, _, .cons r t, s => .cons r (Paired.app t s)
theorem Paired.tak {α β : Type} {F : α → β → Prop} : ∀ {a : List α} {b : List β} (n : Nat), Paired F a b → Paired F (a.take n) (b.take n)
  | _, _, 0, _ => .nil
  | _, _, _ + 1, .nil => .nil
  | _, _, n + 1, .cons r t => .cons r (Paired.tak n t)
theorem Paired.drp {α β : Type} {F : α → β → Prop} : ∀ {a : List α} {b : List β} (n : Nat), Paired F a b → Paired F (a.drop n) (b.drop n)
  | _, _, 0, r => r
  | _, _, _ + 1, .nil => .nil
  | _, _, n + 1, .cons _ t => Paired.drp n t
theorem Paired.imp {α β : Type} {F G : α → β → Prop} (f : ∀ a b, F a b → G a b) : ∀ {l₁ : List α} {l₂ : List β}, Paired F l₁ l₂ → Paired G l₁ l₂
  | _, _, .nil => .nil
  | _, _, .cons r t => .cons (f _ _ r) (Paired.imp f t)
theorem Paired.of_get {α β : Type} {F : α → β → Prop} : ∀ {xs : List α} {ys : List β}, xs.length = ys.length → (∀ (i : Nat) x y, xs[i]? = some x → ys[i]? = some y → F x y) → Paired F xs ys
  | [], [], _, _ => .nil
  | [], _ :: _, h, _ => by simp at h
  | _ :: _, [], h, _ => by simp at h
  | x :: xs, y :: ys, h, f => .cons (f 0 x y rfl rfl) (Paired.of_get (by simpa using h) fun i a b e1 e2 => f (i + 1) a b (by simpa using e1) (by simpa using e2))

/-! ### what stands for data -/
structure Gx where
  K : PySem.W.Frag

/-- a list that nobody writes -/
noncomputable def Fro (K : PySem.W.Frag) (H : Hp) (a : Addr) (xs : List V) : Prop := (∃ o, H a = some (.frz o (.lst xs))) ∨ ∀ H : Hp, SqL K H a xs
theorem Fro.sq {K : PySem.W.Frag} {H : Hp} {a : Addr} {xs : List V} (h : Fro K H a xs) : SqL K H a xs := by
  rcases h with ⟨o, h⟩ | h
  · exact .inl (.inr ⟨o, h⟩)
  · exact h H
inductive Rep (Γ : Gx) (ι : List Addr) (H : Hp) : D → V → Prop
  | non : Rep Γ ι H .non .non
  | bl (b : Bool) : Rep Γ ι H (.bl b) (.bl b)
  | int (i : Int) : Rep Γ ι H (.int i) (.int i)
  | str (x : Str) : Rep Γ ι H (.str x) (.str x)
  | tup {ds : List D} {a : Addr} {xs : List V} : SqT Γ.K H a xs → ds.length = xs.length → (∀ (i : Nat) d v, ds[i]? = some d → xs[i]? = some v → Rep Γ ι H d v) → Rep Γ ι H (.tup ds) (.ref a)
  | fro {ds : List D} {a : Addr} {xs : List V} : Fro Γ.K H a xs → ds.length = xs.length → (∀ (i : Nat) d v, ds[i]? = some d → xs[i]? = some v → Rep Γ ι H d v) → Rep Γ ι H (.fro ds) (.ref a)
  | loc {l : Nat} {a : Addr} : ι[l]? = some a → Rep Γ ι H (.loc l) (.ref a)
abbrev Reps (Γ : Gx) (ι : List Addr) (H : Hp) : List D → List V → Prop := Paired (Rep Γ ι H)

theorem Rep.tup' {Γ : Gx} {ι : List Addr} {H : Hp} {ds : List D} {a : Addr} {xs : List V} (h : SqT Γ.K H a xs) (p : Reps Γ ι H ds xs) : Rep Γ ι H (.tup ds) (.ref a) :=
  .tup h p.length fun i d v e1 e2 => by
    obtain ⟨y, e, f⟩ := Paired.get p e1
    rw [e2] at e; cases e; exact f
theorem Rep.fro_inv {Γ : Gx} {ι : List Addr} {H : Hp} {ds : List D} {v : V} (h : Rep Γ ι H (.fro ds) v) : ∃ a xs, v = .ref a ∧ Fro Γ.K H a xs ∧ Reps Γ ι H ds xs := by
  cases h with
  | fro h1 h2 h3 => exact ⟨_, _, rfl, h1, Paired.of_get h2 h3⟩
theorem Rep.tup_inv {Γ : Gx} {ι : List Addr} {H : Hp} {ds : List D} {v : V} (h : Rep Γ ι H (.tup ds) v) : ∃ a xs, v = .ref a ∧ SqT Γ.K H a xs ∧ Reps Γ ι H ds xs := by
  cases h with
  | tup h1 h2 h3 => exact ⟨_, _, rfl, h1, Paired.of_get h2 h3⟩

structure Ext (ι ι' : List Addr) (H H' : Hp) : Prop where
  pre : ι <+: ι'
  tup : ∀ a xs, H a = some (.tup xs) → H' a = some (.tup xs)
  frz : ∀ a o u, H a = some (.frz o u) → H' a = some (.frz o u)
  oth : ∀ a o, H a = some o → a ∉ ι → H' a = some o
  fresh : ∀ a ∈ ι', a ∉ ι → H a = none
section
variable {ι ι1 ι2 : List Addr} {H H1 H2 : Hp}
theorem Ext.refl : Ext ι ι H H := ⟨List.prefix_refl _, fun _ _ h => h, fun _ _ _ h => h, fun _ _ h _ => h, fun _ h n => absurd h n⟩
theorem Ext.trans (a : Ext ι ι1 H H1) (b : Ext ι1 ι2 H1 H2) : Ext ι ι2 H H2 where
  pre := a.pre.trans b.pre
  tup := fun x xs h => b.tup x xs (a.tup x xs h)
  frz := fun x o u h => b.frz x o u (a.frz x o u h)
  oth := fun x o h n => b.oth x o (a.oth x o h n) fun m => by
    have := a.fresh x m n
    rw [h] at this; cases this
  fresh := fun x m n => by
    by_cases h1 : x ∈ ι1
    · exact a.fresh x h1 n
    · have := b.fresh x m h1
      cases q : H x with
      | none => rfl
      | some o => rw [a.oth x o q n] at this; cases this
/-- a new object is laid -/
theorem Ext.laid {p : Addr} {o : HO} (hp : H p = none) : Ext ι ι H (upd H p o) :=
  ⟨List.prefix_refl _, fun a xs h => by rw [upd_ne (ne_of_none h hp)]; exact h, fun a o u h => by rw [upd_ne (ne_of_none h hp)]; exact h, fun a o h _ => by rw [upd_ne (ne_of_none h hp)]; exact h, fun _ h n => absurd h n⟩
/-- a new list is laid and taken in -/
theorem Ext.more {p : Addr} {o : HO} (hp : H p = none) : Ext ι (ι ++ [p]) H (upd H p o) :=
  ⟨List.prefix_append _ _, fun a xs h => by rw [upd_ne (ne_of_none h hp)]; exact h, fun a o u h => by rw [upd_ne (ne_of_none h hp)]; exact h, fun a o h _ => by rw [upd_ne (ne_of_none h hp)]; exact h, fun a h n => by
    rcases List.mem_append.mp h with z | z
    · exact absurd z n
    · have : a = p := by simpa using z
      rw [this]; exact hp⟩
theorem prefix_get {α : Type} {xs ys : List α} (h : xs <+: ys) {i : Nat} {x : α} (e : xs[i]? = some x) : ys[i]? = some x := by
  obtain ⟨t, rfl⟩ := h
  rw [List.getElem?_append_left (List.getElem?_eq_some_iff.mp e).1]
  exact e
end

section
variable {Γ : Gx} {ι ι1 : List Addr} {H H1 : Hp}
theorem Ext.sqT (e : Ext ι ι1 H H1) {a : Addr} {xs : List V} (h : SqT Γ.K H a xs) : SqT Γ.K H1 a xs := by
  rcases h with (h | ⟨o, h⟩) | h
  · exact .inl (.inl (e.tup _ _ h))
  · exact .inl (.inr ⟨o, e.frz _ _ _ h⟩)
  · exact .inr h
theorem Ext.fro (e : Ext ι ι1 H H1) {a : Addr} {xs : List V} (h : Fro Γ.K H a xs) : Fro Γ.K H1 a xs := by
  rcases h with ⟨o, h⟩ | h
  · exact .inl ⟨o, e.frz _ _ _ h⟩
  · exact .inr h
theorem Rep.ext (e : Ext ι ι1 H H1) {d : D} {v : V} (h : Rep Γ ι H d v) : Rep Γ ι1 H1 d v := by
  induction h with
  | non => exact .non
  | bl b => exact .bl b
  | int i => exact .int i
  | str x => exact .str x
  | tup h1 h2 h3 ih => exact .tup (e.sqT h1) h2 ih
  | fro h1 h2 h3 ih => exact .fro (e.fro h1) h2 ih
  | loc h => exact .loc (prefix_get e.pre h)
theorem Reps.ext (e : Ext ι ι1 H H1) {ds : List D} {vs : List V} (h : Reps Γ ι H ds vs) : Reps Γ ι1 H1 ds vs := Paired.imp (fun _ _ r => Rep.ext e r) h
end

noncomputable def CellOk (Γ : Gx) (ι : List Addr) (H : Hp) (a : Addr) : Cell → Prop
  | .lst ds => ∃ xs, H a = some (.lst xs) ∧ Reps Γ ι H ds xs
  | .dct _ => False
structure StOk (Γ : Gx) (ι : List Addr) (H : Hp) (S : Store) : Prop where
  len : ι.length = S.length
  nd : ι.Nodup
  cell : ∀ (l : Nat) c, S[l]? = some c → ∃ a, ι[l]? = some a ∧ CellOk Γ ι H a c
structure EnvOk (Γ : Gx) (ι : List Addr) (H : Hp) (σ : L2.St) (σd : Sg) : Prop where
  len : σ.length = σd.length
  var : ∀ (i : Nat) d, σd[i]? = some (some d) → ∃ v, σ[i]? = some (some v) ∧ Rep Γ ι H d v
theorem EnvOk.ext {Γ : Gx} {ι ι1 : List Addr} {H H1 : Hp} {σ : L2.St} {σd : Sg} (e : Ext ι ι1 H H1) (h : EnvOk Γ ι H σ σd) : EnvOk Γ ι1 H1 σ σd :=
  ⟨h.len, fun i d q => let ⟨v, a, b⟩ := h.var i d q; ⟨v, a, b.ext e⟩⟩

/-! ### outcomes -/
abbrev XW := Str → Store → List Addr → Hp → Prop
noncomputable def Out {α : Type} (Γ : Gx) (xw : XW) (ι : List Addr) (H : Hp) (r : Res α) (k : α → Store → List Addr → Hp → Prop) : Prop := match r with
  | .ok a S' => ∀ ι' H', Ext ι ι' H H' → StOk Γ ι' H' S' → k a S' ι' H'
  | .exc c S' => ∀ ι' H', Ext ι ι' H H' → StOk Γ ι' H' S' → xw c S' ι' H'
  | .bad => False
section
variable {Γ : Gx} {xw : XW} {ι ι1 : List Addr} {H H1 : Hp} {α β : Type}
theorem Out.step {r : Res α} {k : α → Store → List Addr → Hp → Prop} (h : Out Γ xw ι H r k) (e : Ext ι ι1 H H1) : Out Γ xw ι1 H1 r k := by
  cases r with
  | ok a S' => exact fun ι' H' e' s' => h ι' H' (e.trans e') s'
  | exc c S' => exact fun ι' H' e' s' => h ι' H' (e.trans e') s'
  | bad => exact h
theorem Out.mono {r : Res α} {k k' : α → Store → List Addr → Hp → Prop} (h : Out Γ xw ι H r k) (f : ∀ a S' ι' H', Ext ι ι' H H' → StOk Γ ι' H' S' → k a S' ι' H' → k' a S' ι' H') : Out Γ xw ι H r k' := by
  cases r with
  | ok a S' => exact fun ι' H' e' s' => f _ _ _ _ e' s' (h ι' H' e' s')
  | exc c S' => exact h
  | bad => exact h
theorem Out.bind {m : M α} {f : α → M β} {S : Store} {k : β → Store → List Addr → Hp → Prop} (h : Out Γ xw ι H ((m >>= f) S) k) :
    Out Γ xw ι H (m S) (fun a S' ι' H' => StOk Γ ι' H' S' ∧ Ext ι ι' H H' ∧ Out Γ xw ι' H' (f a S') k) := by
  rw [bind_ap] at h
  cases q : m S with
  | ok a S' => rw [q] at h; exact fun ι' H' e' s' => ⟨s', e', Out.step h e'⟩
  | exc c S' => rw [q] at h; exact h
  | bad => rw [q] at h; exact h
theorem Out.here {a : α} {S : Store} {k : α → Store → List Addr → Hp → Prop} (h : Out Γ xw ι H (.ok a S) k) (s : StOk Γ ι H S) : k a S ι H := h ι H .refl s
/-- what may be raised in it matters not: nothing is -/
theorem Out.quiet {m : M α} {S : Store} {k : α → Store → List Addr → Hp → Prop} (h : Out Γ xw ι H (quiet m S) k) (xw' : XW) : Out Γ xw' ι H (m S) k := by
  unfold EV.quiet at h
  cases q : m S with
  | ok a S' => rw [q] at h; exact h
  | exc c S' => rw [q] at h; exact h.elim
  | bad => rw [q] at h; exact h.elim
end

/-! ### readings -/
noncomputable def tM (Γ : Gx) (xw : XW) (m : Sg → M D) : TE := fun σ H Q => ∃ σd ι S, EnvOk Γ ι H σ σd ∧ StOk Γ ι H S ∧ Out Γ xw ι H (m σd S) fun d _ ι' H' => ∀ v, Rep Γ ι' H' d v → Q v H'
noncomputable def tMT (Γ : Gx) (xw : XW) (m : Sg → M Bool) : TT := fun σ H Q => ∃ σd ι S, EnvOk Γ ι H σ σd ∧ StOk Γ ι H S ∧ Out Γ xw ι H (m σd S) fun b _ _ H' => Q b H'
noncomputable def tMA (Γ : Gx) (xw : XW) (m : Sg → M (List D)) : TA := fun σ H Q => ∃ σd ι S, EnvOk Γ ι H σ σd ∧ StOk Γ ι H S ∧ Out Γ xw ι H (m σd S) fun ds _ ι' H' => ∀ vs, Reps Γ ι' H' ds vs → Q vs H'

theorem PE.imp {X : Cx} {e : Expr} {t t' : TE} (h : PE X e t) (f : ∀ σ H Q, t' σ H Q → t σ H Q) : PE X e t' := fun pins s σ H Q I q => h pins s σ H Q I (f σ H Q q)
theorem PT.imp {X : Cx} {e : Expr} {t t' : TT} (h : PT X e t) (f : ∀ σ H Q, t' σ H Q → t σ H Q) : PT X e t' := fun pins s σ H Q I q => h pins s σ H Q I (f σ H Q q)
theorem PW.imp {X : Cx} {e : Expr} {t t' : TT} (h : PW X e t) (f : ∀ σ H Q, t' σ H Q → t σ H Q) : PW X e t' := fun w pins s σ H Q I q => h w pins s σ H Q I (f σ H Q q)
theorem PA.imp {X : Cx} {e : List Expr} {t t' : TA} (h : PA X e t) (f : ∀ σ H Q, t' σ H Q → t σ H Q) : PA X e t' := fun p pins s σ H Q I q => h p pins s σ H Q I (f σ H Q q)
theorem PS.imp {X : Cx} {e : Stmt} {t t' : TS} (h : PS X e t) (f : ∀ D σ H, t' D σ H → t D σ H) : PS X e t' := fun pins s σ H D I q => h pins s σ H D I (f D σ H q)
theorem PSs.imp {X : Cx} {e : List Stmt} {t t' : TS} (h : PSs X e t) (f : ∀ D σ H, t' D σ H → t D σ H) : PSs X e t' := fun pins s σ H D I q => h pins s σ H D I (f D σ H q)

section
variable {Γ : Gx} {xw : XW} {σ : L2.St} {H : Hp}
/-- what is left of a reading once its operands are there -/
noncomputable def Left1 (Γ : Gx) (xw : XW) (f : D → M D) (x : V) (H : Hp) (Q : VK) : Prop := ∃ ι S dx, StOk Γ ι H S ∧ Rep Γ ι H dx x ∧ Out Γ xw ι H (f dx S) fun d _ ι' H' => ∀ v, Rep Γ ι' H' d v → Q v H'
noncomputable def Left2 (Γ : Gx) (xw : XW) (f : D → D → M D) (x y : V) (H : Hp) (Q : VK) : Prop :=
  ∃ ι S dx dy, StOk Γ ι H S ∧ Rep Γ ι H dx x ∧ Rep Γ ι H dy y ∧ Out Γ xw ι H (f dx dy S) fun d _ ι' H' => ∀ v, Rep Γ ι' H' d v → Q v H'
noncomputable def LeftN (Γ : Gx) (xw : XW) (f : List D → M D) (xs : List V) (H : Hp) (Q : VK) : Prop := ∃ ι S ds, StOk Γ ι H S ∧ Reps Γ ι H ds xs ∧ Out Γ xw ι H (f ds S) fun d _ ι' H' => ∀ v, Rep Γ ι' H' d v → Q v H'
theorem two_of {ma mb : Sg → M D} {f : D → D → M D} {Q : VK} (h : tM Γ xw (fun σ => ma σ >>= fun x => mb σ >>= fun y => f x y) σ H Q) :
    tM Γ xw ma σ H fun x H1 => tM Γ xw mb σ H1 fun y H2 => Left2 Γ xw f x y H2 Q := by
  obtain ⟨σd, ι, S, he, hs, ho⟩ := h
  exact ⟨σd, ι, S, he, hs, ho.bind.mono fun d S' ι' H' _ _ ⟨s', e', o'⟩ v r => ⟨σd, ι', S', he.ext e', s', o'.bind.mono fun d2 S2 ι2 H2 _ _ ⟨s2, e2, o2⟩ v2 r2 => ⟨ι2, S2, d, d2, s2, r.ext e2, r2, o2⟩⟩⟩
theorem args_of {ma : Sg → M (List D)} {f : List D → M D} {Q : VK} (h : tM Γ xw (fun σ => ma σ >>= f) σ H Q) : tMA Γ xw ma σ H fun xs H1 => LeftN Γ xw f xs H1 Q := by
  obtain ⟨σd, ι, S, he, hs, ho⟩ := h
  exact ⟨σd, ι, S, he, hs, ho.bind.mono fun d S' ι' H' _ _ ⟨s', e', o'⟩ v r => ⟨ι', S', d, s', r, o'⟩⟩
end
end EV

set_option Elab.async false
set_option linter.all false
set_option maxRecDepth 100000
namespace EV
open PySem PySem.Spec PyProof.Rows L2
open PySem.SeqAt (EqAt RcAt)

section
variable {X : Cx} {Γ : Gx} {xw : XW} {pins : List (Addr × Obj)} {σ : L2.St} {H : Hp} {s : Shared} {ι : List Addr} {S : Store}

theorem StOk.list (hS : StOk Γ ι H S) {d : D} {v : V} {ds : List D} (r : Rep Γ ι H d v) (h : asL S d = some ds) : ∃ a xs, v = .ref a ∧ SqL Γ.K H a xs ∧ Reps Γ ι H ds xs := by
  cases d with
  | loc l =>
    cases r with
    | loc q =>
      have h' : listAt S l = some ds := h
      unfold listAt at h'
      split at h'
      · rename_i es e
        cases h'
        obtain ⟨a, ha, xs, hx, r⟩ := hS.cell l _ e
        rw [q] at ha; cases ha
        exact ⟨_, xs, rfl, .of hx, r⟩
      · cases h'
  | fro es =>
    cases h
    obtain ⟨a, xs, rfl, hf, rs⟩ := r.fro_inv
    exact ⟨a, xs, rfl, hf.sq, rs⟩
  | _ => cases h
theorem StOk.lst (hS : StOk Γ ι H S) {l : Nat} {ds : List D} (h : S[l]? = some (.lst ds)) : ∃ a xs, ι[l]? = some a ∧ H a = some (.lst xs) ∧ Reps Γ ι H ds xs := by
  obtain ⟨a, ha, xs, hx, r⟩ := hS.cell l _ h
  exact ⟨a, xs, ha, hx, r⟩
theorem items_of {l : Nat} : items (.loc l) S = match listAt S l with | some ds => .ok ds S | none => .bad := rfl
/-- one datum stands at one place -/
theorem nodup_get {α : Type} : ∀ {xs : List α} {i j : Nat} {x : α}, xs.Nodup → xs[i]? = some x → xs[j]? = some x → i = j
  | [], _, _, _, _, h, _ => by simp at h
  | y :: r, 0, 0, _, _, _, _ => rfl
  | y :: r, 0, j + 1, x, nd, h1, h2 => by
    simp at h1 h2
    subst h1
    exact absurd (List.mem_of_getElem? h2) (List.nodup_cons.mp nd).1
  | y :: r, i + 1, 0, x, nd, h1, h2 => by
    simp at h1 h2
    subst h2
    exact absurd (List.mem_of_getElem? h1) (List.nodup_cons.mp nd).1
  | y :: r, i + 1, j + 1, x, nd, h1, h2 => by
    exact congrArg (· + 1) (nodup_get (i := i) (j := j) (List.nodup_cons.mp nd).2 (by simpa using h1) (by simpa using h2))

theorem eqDs_all {f : D → D → Option Bool} : ∀ {xs ys : List D} {k : Bool}, eqDs f xs ys = some k → ∃ e : Nat → Bool, (∀ (j : Nat) x y, xs[j]? = some x → ys[j]? = some y → f x y = some (e j)) ∧ k = (List.range (min xs.length ys.length)).all e
  | [], ys, k, h => ⟨fun _ => true, fun j x y e1 e2 => by simp at e1, by simp only [eqDs] at h; cases h; simp⟩
  | _ :: _, [], k, h => ⟨fun _ => true, fun j x y e1 e2 => by simp at e2, by simp only [eqDs] at h; cases h; simp⟩
  | x :: xs, y :: ys, k, h => by
    simp only [eqDs] at h
    split at h
    · rename_i a b e1 e2
      cases h
      obtain ⟨e, he, hk⟩ := eqDs_all e2
      refine ⟨fun j => match j with | 0 => a | j + 1 => e j, fun j u v q1 q2 => ?_, ?_⟩
      · cases j with
        | zero => simp at q1 q2; subst q1; subst q2; exact e1
        | succ j => exact he j u v (by simpa using q1) (by simpa using q2)
      · rw [show min (x :: xs).length (y :: ys).length = min xs.length ys.length + 1 by simp only [List.length_cons]; omega, List.range_succ_eq_map, List.all_cons, List.all_map]
        rw [hk]
        rfl
    · cases h

theorem Rep.kd_flat {d1 d2 : D} {x : V} (q1 : Rep Γ ι H d1 x) (q2 : Rep Γ ι H d2 x) (e : d1.kd = .flat) : d2.kd = .flat := by
  have h1 : flatV x = true := by cases q1 <;> first | rfl | cases e
  cases q2 <;> first | rfl | cases h1
theorem Rep.flat_eq {d1 d2 : D} {x : V} (q1 : Rep Γ ι H d1 x) (q2 : Rep Γ ι H d2 x) (e : d1.kd = .flat) : d1 = d2 := by
  cases q1 <;> first | (cases e; done) | (cases q2; rfl)
theorem eqFlat_self {d : D} {k : Bool} (h : eqFlat d d = some k) : k = true := by
  cases d <;> first | (cases h; done) | (simp [eqFlat] at h; exact h)
/-- == of what stands for data is == of the data -/
theorem eq_same (hK : Γ.K = X.K) (I : Inv X pins σ H s) (hS : StOk Γ ι H S) : ∀ (m : Nat) (d1 d2 : D) (k : Bool) (x : V), eqD m S d1 d2 = some k → Rep Γ ι H d1 x → Rep Γ ι H d2 x → k = true := by
  obtain ⟨K⟩ := Γ
  have hK' : K = X.K := hK
  subst hK'
  have all : ∀ (m : Nat), (∀ (d1 d2 : D) (k : Bool) (x : V), eqD m S d1 d2 = some k → Rep ⟨X.K⟩ ι H d1 x → Rep ⟨X.K⟩ ι H d2 x → k = true) →
      ∀ (ds es : List D) (xs : List V) (r : Bool), Reps ⟨X.K⟩ ι H ds xs → Reps ⟨X.K⟩ ι H es xs → eqDs (eqD m S) ds es = some r → r = true := by
    intro m ihm ds es xs r p1 p2 hr
    obtain ⟨e, he, hk2⟩ := eqDs_all hr
    have l1 := p1.length
    have l2 := p2.length
    rw [hk2, List.all_eq_true]
    intro j hj
    rw [List.mem_range] at hj
    have hj1 : j < ds.length := by omega
    have hj2 : j < es.length := by omega
    obtain ⟨y1, a1, a2⟩ := Paired.get p1 (List.getElem?_eq_getElem hj1)
    obtain ⟨y2, a3, a4⟩ := Paired.get p2 (List.getElem?_eq_getElem hj2)
    rw [a1] at a3; cases a3
    exact ihm _ _ _ y1 (he j _ _ (List.getElem?_eq_getElem hj1) (List.getElem?_eq_getElem hj2)) a2 a4
  intro m
  induction m with
  | zero => intro d1 d2 k x h; simp [eqD] at h
  | succ m ihm =>
    intro d1 d2 k x h q1 q2
    have hall := all m ihm
    have tl : ∀ {es : List D} {a : Addr} {d : D}, (∃ xs, SqT X.K H a xs) → ∀ {z}, asL S d = some z → Rep ⟨X.K⟩ ι H d (.ref a) → False := fun {es a d} ht {z} hz hr => by
      obtain ⟨xs, ht⟩ := ht
      obtain ⟨b, ys, e, sb, _⟩ := hS.list hr hz
      cases e
      obtain ⟨its, _, pl, _⟩ := I.list sb
      obtain ⟨its2, _, pt, _⟩ := I.tuple ht
      exact absurd rfl (SeqAt.ne_of_list_tuple pl.isList pt)
    cases e1 : d1.kd <;> cases e2 : d2.kd <;> simp only [eqD, e1, e2] at h
    · have e := Rep.flat_eq q1 q2 e1
      rw [← e] at h
      exact eqFlat_self h
    · rw [Rep.kd_flat q1 q2 e1] at e2; cases e2
    · rw [Rep.kd_flat q1 q2 e1] at e2; cases e2
    · cases h
    · rw [Rep.kd_flat q2 q1 e2] at e1; cases e1
    · cases d1 <;> first | (cases e1; done) | skip
      cases d2 <;> first | (cases e2; done) | skip
      obtain ⟨a, xs, rfl, t1, p1⟩ := q1.tup_inv
      obtain ⟨b, ys, eb, t2, p2⟩ := q2.tup_inv
      cases eb
      have e : xs = ys := I.tuple_inj t1 t2
      subst e
      simp only [Option.map_eq_some_iff] at h
      obtain ⟨r, hr, hk⟩ := h
      have hl : (D.its (D.tup _)).length = (D.its (D.tup _)).length := (p1.length).trans p2.length.symm
      rw [← hk, hall _ _ xs r p1 p2 hr, hl]; simp
    · simp only [Option.map_eq_some_iff] at h
      obtain ⟨z, hz, _⟩ := h
      cases d1 <;> first | (cases e1; done) | skip
      obtain ⟨a, xs, rfl, t1, p1⟩ := q1.tup_inv
      exact (tl (es := []) ⟨xs, t1⟩ hz q2).elim
    · cases h
    · rw [Rep.kd_flat q2 q1 e2] at e1; cases e1
    · simp only [Option.map_eq_some_iff] at h
      obtain ⟨z, hz, _⟩ := h
      cases d2 <;> first | (cases e2; done) | skip
      obtain ⟨a, xs, rfl, t1, p1⟩ := q2.tup_inv
      exact (tl (es := []) ⟨xs, t1⟩ hz q1).elim
    · split at h
      · rename_i ds es hd he
        obtain ⟨a, xs, rfl, s1, p1⟩ := hS.list q1 hd
        obtain ⟨b, ys, eb, s2, p2⟩ := hS.list q2 he
        cases eb
        have e : xs = ys := I.list_inj s1 s2
        subst e
        rw [if_pos (p1.length.trans p2.length.symm)] at h
        exact hall _ _ xs k p1 p2 h
      · cases h
    · cases h
    · cases h
    · cases h
    · cases h
    · cases h

theorem flat_flat {A : Around} {d1 d2 : D} {k : Bool} {x1 x2 : V} {u1 u2 : Value} (h : eqFlat d1 d2 = some k) (r1 : Rep Γ ι H d1 x1) (r2 : Rep Γ ι H d2 x2) (v1 : RelV x1 u1) (v2 : RelV x2 u2) (e1 : d1.kd = .flat) (e2 : d2.kd = .flat) : RcAt A s u1 u2 k ∧ EqAt A s u1 u2 k := by
  cases r1 <;> first | (cases e1; done) | skip
  all_goals (cases r2 <;> first | (cases e2; done) | skip)
  · cases v1; cases v2; simp [eqFlat] at h; subst h; exact ⟨RcAt.none_none, EqAt.same _⟩
  · cases v1; cases v2; simp [eqFlat] at h; subst h; exact ⟨.none_bool _, .none_bool _⟩
  · cases v1; obtain ⟨t, rfl⟩ := v2; simp [eqFlat] at h; subst h; exact ⟨.none_int _ t, .none_int _ t⟩
  · cases v1; obtain ⟨t, rfl⟩ := v2; simp [eqFlat] at h; subst h; exact ⟨.none_str _ t, .none_str _ t⟩
  · cases v1; cases v2; simp [eqFlat] at h; subst h; exact ⟨.bool_none _, .bool_none _⟩
  · cases v1; cases v2; simp [eqFlat] at h; subst h; exact ⟨.bool_bool _ _, .bool_bool _ _⟩
  · cases v1; obtain ⟨t, rfl⟩ := v2; simp [eqFlat] at h; subst h; exact ⟨.bool_int _ _ t, .bool_int _ _ t⟩
  · cases v1; obtain ⟨t, rfl⟩ := v2; simp [eqFlat] at h; subst h; exact ⟨.bool_str _ _ t, .bool_str _ _ t⟩
  · obtain ⟨ta, rfl⟩ := v1; cases v2; simp [eqFlat] at h; subst h; exact ⟨.int_none _ ta, .int_none _ ta⟩
  · obtain ⟨ta, rfl⟩ := v1; cases v2; simp [eqFlat] at h; subst h; exact ⟨.int_bool _ ta _, .int_bool _ ta _⟩
  · obtain ⟨ta, rfl⟩ := v1; obtain ⟨t, rfl⟩ := v2; simp [eqFlat] at h; subst h; exact ⟨.int_int _ ta _ t, .int_int _ ta _ t⟩
  · obtain ⟨ta, rfl⟩ := v1; obtain ⟨t, rfl⟩ := v2; simp [eqFlat] at h; subst h; exact ⟨.int_str _ ta _ t, .int_str _ ta _ t⟩
  · obtain ⟨ta, rfl⟩ := v1; cases v2; simp [eqFlat] at h; subst h; exact ⟨.str_none _ ta, .str_none _ ta⟩
  · obtain ⟨ta, rfl⟩ := v1; cases v2; simp [eqFlat] at h; subst h; exact ⟨.str_bool _ ta _, .str_bool _ ta _⟩
  · obtain ⟨ta, rfl⟩ := v1; obtain ⟨t, rfl⟩ := v2; simp [eqFlat] at h; subst h; exact ⟨.str_int _ ta _ t, .str_int _ ta _ t⟩
  · obtain ⟨ta, rfl⟩ := v1; obtain ⟨t, rfl⟩ := v2; simp [eqFlat] at h; subst h; exact ⟨.str_str _ ta _ t, .str_str _ ta _ t⟩
theorem eq_deep (hK : Γ.K = X.K) (I : Inv X pins σ H s) (hS : StOk Γ ι H S) : ∀ (n : Nat) (A : Around) (d1 d2 : D) (k : Bool) (x1 x2 : V) (u1 u2 : Value), eqD n S d1 d2 = some k → Rep Γ ι H d1 x1 → Rep Γ ι H d2 x2 → RelV x1 u1 → RelV x2 u2 → A.units + n < cLine →
    RcAt A s u1 u2 k ∧ EqAt A s u1 u2 k := by
  have same := eq_same hK I hS
  obtain ⟨K⟩ := Γ
  have hK' : K = X.K := hK
  subst hK'
  intro n
  induction n with
  | zero => intro A d1 d2 k x1 x2 u1 u2 h; simp [eqD] at h
  | succ n ih =>
    intro A d1 d2 k x1 x2 u1 u2 h r1 r2 v1 v2 hu
    have hu0 : A.units < cLine := by omega
    have hu1 : A.in1.units + n < cLine := by show A.units + 1 + n < cLine; omega
    have h0 := h
    -- the items, one by one
    have each : ∀ {ds es : List D} {xs ys : List V} {its1 its2 : List Value} {e : Nat → Bool}, Reps ⟨X.K⟩ ι H ds xs → Reps ⟨X.K⟩ ι H es ys → Vals xs its1 → Vals ys its2 →
        (∀ (j : Nat) x y, ds[j]? = some x → es[j]? = some y → eqD n S x y = some (e j)) → ∀ (j : Nat) (h1 : j < its1.toArray.size) (h2 : j < its2.toArray.size), EqAt A.in1 s its1.toArray[j] its2.toArray[j] (e j) := by
      intro ds es xs ys its1 its2 e rp1 rp2 rv1 rv2 he j h1 h2
      rw [List.size_toArray] at h1 h2
      have l1 := rp1.length
      have l2 := rp2.length
      have l3 := rv1.length
      have l4 := rv2.length
      have j1 : j < ds.length := by omega
      have j2 : j < es.length := by omega
      obtain ⟨y1, a1, a2⟩ := Paired.get rp1 (List.getElem?_eq_getElem j1)
      obtain ⟨y2, a3, a4⟩ := Paired.get rp2 (List.getElem?_eq_getElem j2)
      obtain ⟨w1, z1, z2⟩ := rv1.get a1
      obtain ⟨w2, z3, z4⟩ := rv2.get a3
      have := (ih A.in1 ds[j] es[j] (e j) y1 y2 w1 w2 (he j _ _ (List.getElem?_eq_getElem j1) (List.getElem?_eq_getElem j2)) a2 a4 z2 z4 hu1).2
      have q1 : its1.toArray[j]'(by rw [List.size_toArray]; exact h1) = w1 := by
        have : its1[j]? = some its1[j] := List.getElem?_eq_getElem h1
        rw [z1] at this; cases this; rfl
      have q2 : its2.toArray[j]'(by rw [List.size_toArray]; exact h2) = w2 := by
        have : its2[j]? = some its2[j] := List.getElem?_eq_getElem h2
        rw [z3] at this; cases this; rfl
      rw [q1, q2]; exact this
    have lst : ∀ {d : D} {x : V} {u : Value} {zs : List D}, Rep ⟨X.K⟩ ι H d x → RelV x u → asL S d = some zs → ∃ a xs its, x = .ref a ∧ u = .ref a ∧ Reps ⟨X.K⟩ ι H zs xs ∧ Vals xs its ∧ s.heap.IsList a its.toArray := fun {d x u zs} r rv hz => by
      obtain ⟨b, ys, e, sb, rp⟩ := hS.list r hz
      subst e
      cases rv
      obtain ⟨its, rv, p, _⟩ := I.list sb
      exact ⟨b, ys, its, rfl, rfl, rp, rv, p.isList⟩
    have tpl : ∀ {ds : List D} {x : V} {u : Value}, Rep ⟨X.K⟩ ι H (.tup ds) x → RelV x u → ∃ a xs its, x = .ref a ∧ u = .ref a ∧ Reps ⟨X.K⟩ ι H ds xs ∧ Vals xs its ∧ s.heap.IsTuple a its.toArray := fun {ds x u} r rv => by
      obtain ⟨a, xs, e, t, p⟩ := r.tup_inv
      subst e
      cases rv
      obtain ⟨its, rv, p2, _⟩ := I.tuple t
      exact ⟨a, xs, its, rfl, rfl, p, rv, p2⟩
    cases e1 : d1.kd <;> cases e2 : d2.kd <;> simp only [eqD, e1, e2] at h
    · exact flat_flat h r1 r2 v1 v2 e1 e2
    · cases h
      cases d2 <;> first | (cases e2; done) | skip
      obtain ⟨a, xs, its, rfl, rfl, _, _, p⟩ := tpl r2 v2
      cases r1 <;> first | (cases e1; done) | skip
      · cases v1; exact ⟨.none_tuple p hu0, .none_tuple p hu0⟩
      · cases v1; exact ⟨.bool_tuple _ p hu0, .bool_tuple _ p hu0⟩
      · obtain ⟨ta, rfl⟩ := v1; exact ⟨.int_tuple _ ta p hu0, .int_tuple _ ta p hu0⟩
      · obtain ⟨ta, rfl⟩ := v1; exact ⟨.str_tuple _ ta p hu0, .str_tuple _ ta p hu0⟩
    · simp only [Option.map_eq_some_iff] at h
      obtain ⟨z, hz, rfl⟩ := h
      obtain ⟨a, xs, its, rfl, rfl, _, _, p⟩ := lst r2 v2 hz
      cases r1 <;> first | (cases e1; done) | skip
      · cases v1; exact ⟨.none_list p hu0, .none_list p hu0⟩
      · cases v1; exact ⟨.bool_list _ p hu0, .bool_list _ p hu0⟩
      · obtain ⟨ta, rfl⟩ := v1; exact ⟨.int_list _ ta p hu0, .int_list _ ta p hu0⟩
      · obtain ⟨ta, rfl⟩ := v1; exact ⟨.str_list _ ta p hu0, .str_list _ ta p hu0⟩
    · cases h
    · cases h
      cases d1 <;> first | (cases e1; done) | skip
      obtain ⟨a, xs, its, rfl, rfl, _, _, p⟩ := tpl r1 v1
      cases r2 <;> first | (cases e2; done) | skip
      · cases v2; exact ⟨.tuple_none p hu0, .tuple_none p hu0⟩
      · cases v2; exact ⟨.tuple_bool _ p hu0, .tuple_bool _ p hu0⟩
      · obtain ⟨ta, rfl⟩ := v2; exact ⟨.tuple_int _ ta p hu0, .tuple_int _ ta p hu0⟩
      · obtain ⟨ta, rfl⟩ := v2; exact ⟨.tuple_str _ ta p hu0, .tuple_str _ ta p hu0⟩
    · cases d1 <;> first | (cases e1; done) | skip
      cases d2 <;> first | (cases e2; done) | skip
      obtain ⟨a, xs, its1, rfl, rfl, rp1, rv1, p1⟩ := tpl r1 v1
      obtain ⟨b, ys, its2, rfl, rfl, rp2, rv2, p2⟩ := tpl r2 v2
      simp only [Option.map_eq_some_iff] at h
      obtain ⟨r, hr, hk⟩ := h
      obtain ⟨e, he, hk2⟩ := eqDs_all hr
      have rc : RcAt A s (.ref a) (.ref b) k := by
        have := RcAt.tuples (A := A) (e := e) p1 p2 hu0 (each rp1 rp2 rv1 rv2 he)
        rw [List.size_toArray, List.size_toArray, ← rv1.length, ← rv2.length, ← rp1.length, ← rp2.length] at this
        rw [← hk, hk2]; exact this
      refine ⟨rc, ?_⟩
      by_cases hab : a = b
      · subst hab
        rw [same _ _ _ k _ h0 r1 r2]; exact EqAt.same _
      · exact .of_refs hab rc
    · simp only [Option.map_eq_some_iff] at h
      obtain ⟨z, hz, rfl⟩ := h
      cases d1 <;> first | (cases e1; done) | skip
      obtain ⟨a, xs, its1, rfl, rfl, rp1, rv1, p1⟩ := tpl r1 v1
      obtain ⟨b, ys, its2, rfl, rfl, rp2, rv2, p2⟩ := lst r2 v2 hz
      exact ⟨.tuple_list p1 p2 hu0, .tuple_list p1 p2 hu0⟩
    · cases h
    · simp only [Option.map_eq_some_iff] at h
      obtain ⟨z, hz, rfl⟩ := h
      obtain ⟨a, xs, its, rfl, rfl, _, _, p⟩ := lst r1 v1 hz
      cases r2 <;> first | (cases e2; done) | skip
      · cases v2; exact ⟨.list_none p hu0, .list_none p hu0⟩
      · cases v2; exact ⟨.list_bool _ p hu0, .list_bool _ p hu0⟩
      · obtain ⟨ta, rfl⟩ := v2; exact ⟨.list_int _ ta p hu0, .list_int _ ta p hu0⟩
      · obtain ⟨ta, rfl⟩ := v2; exact ⟨.list_str _ ta p hu0, .list_str _ ta p hu0⟩
    · simp only [Option.map_eq_some_iff] at h
      obtain ⟨z, hz, rfl⟩ := h
      cases d2 <;> first | (cases e2; done) | skip
      obtain ⟨a, xs, its1, rfl, rfl, rp1, rv1, p1⟩ := tpl r2 v2
      obtain ⟨b, ys, its2, rfl, rfl, rp2, rv2, p2⟩ := lst r1 v1 hz
      exact ⟨.list_tuple p2 p1 hu0, .list_tuple p2 p1 hu0⟩
    · split at h
      · rename_i ds es hd he
        obtain ⟨a, xs, its1, rfl, rfl, rp1, rv1, p1⟩ := lst r1 v1 hd
        obtain ⟨b, ys, its2, rfl, rfl, rp2, rv2, p2⟩ := lst r2 v2 he
        have e1 : its1.toArray.size = ds.length := by rw [List.size_toArray, ← rv1.length, ← rp1.length]
        have e2 : its2.toArray.size = es.length := by rw [List.size_toArray, ← rv2.length, ← rp2.length]
        have rc : RcAt A s (.ref a) (.ref b) k := by
          by_cases hlen : ds.length = es.length
          · rw [if_pos hlen] at h
            obtain ⟨e, he', hk2⟩ := eqDs_all h
            have := RcAt.lists (A := A) (e := e) p1 p2 (by omega) hu0 (each rp1 rp2 rv1 rv2 he')
            rw [e1] at this; rw [hk2, ← hlen, Nat.min_self]; exact this
          · rw [if_neg hlen] at h
            cases h
            exact RcAt.lists_lengths p1 p2 (by rw [e1, e2]; simpa using hlen) hu0
        refine ⟨rc, ?_⟩
        by_cases hab : a = b
        · subst hab
          rw [same _ _ _ k _ h0 r1 r2]; exact EqAt.same _
        · exact .of_refs hab rc
      · cases h
    · cases h
    · cases h
    · cases h
    · cases h
    · cases h
end
end EV

set_option Elab.async false
set_option linter.all false
set_option maxRecDepth 100000
namespace HT
open PySem PyProof.Rows
section
variable {prog : Program} {w : World} {A : Around} {E : Value → Shared → Prop} {s : Shared}
/-- t[lo:hi], the whole of it -/
theorem getItem_tuple_whole {t sl : Addr} {items : Array Value} {vl vu : Value} {lo hi : Option Int} {Q : Value → Shared → Prop} (ht : IsTup s.heap t items) (hs : s.heap.IsSliceOf sl vl vu .none) (pl : IsPart vl lo) (pu : IsPart vu hi)
    (hw : sIx items.size 0 lo = 0 ∧ sIx items.size items.size hi = items.size) (h : Q (.ref t) s) : wpAny (model prog w) A (getItem (.ref t) (.ref sl)) Q E s := by
  obtain ⟨os, hos, hcs, hds⟩ := id hs
  have hTs : s.TypeIs (.ref sl) "slice" := ⟨os, hos, hcs⟩
  unfold getItem
  try with_reducible refine wpAny_holding ?_
  first | refine wpAny_bind (wpAny_pure ?_) | skip
  refine wpAny_bind (wpAny_sequenceKey ht.typeIs (by decide) ?_)
  refine wpAny_bind (wpAny_callSpecial?_slot (name := Str.ofString "__getitem__") ht.typeIs PyProof.Rows.slot_tuple_getitem
    (wpAny_call_entry PyProof.Rows.slot_tuple_getitem ht.typeIs entry_tuple_getitem ?_ (args_tuple_getitem _ _)))
  show wpAny _ _ (Builtin.Tuple.tupleItemsOf (.ref t) >>= _) _ _ s
  refine wpAny_bind (tupleItemsOf_ ht ?_)
  refine wpAny_bind (wpAny_typeOf hTs ?_)
  rw [if_pos (by decide)]
  refine wpAny_bind (sliceApplied_gen hs pl pu ?_)
  have hyes : (((sIx items.size 0 lo : Nat) : Int) == 0 && (1 : Int) == 1 && (sIx items.size items.size hi - sIx items.size 0 lo) == items.size) = true := by
    rw [hw.1, hw.2]; simp
  show wpAny _ _ (if (((sIx items.size 0 lo : Nat) : Int) == 0 && (1 : Int) == 1 && (sIx items.size items.size hi - sIx items.size 0 lo) == items.size) = true then _ else _) _ _ s
  rw [if_pos hyes]
  have hx : ∀ {P : Bool → Shared → Prop}, P true s → wpAny (model prog w) A.in1 (Builtin.Tuple.tupleIsExact (.ref t)) P E s := fun {P} hp => by
    unfold Builtin.Tuple.tupleIsExact
    refine wpAny_bind (wpAny_typeOf ht.typeIs (wpAny_pure ?_))
    simpa using hp
  refine wpAny_bind (hx ?_)
  rw [if_pos rfl]
  exact wpAny_bind (wpAny_rule (wpAny_pure ⟨_, rfl, wpAny_pure h⟩))
end
end HT

namespace EV
open PySem PySem.Spec PyProof.Rows L2
open PySem.SeqAt (EqAt RcAt)
section
variable {X : Cx} {Γ : Gx} {xw : XW} {pins : List (Addr × Obj)} {σ : L2.St} {H : Hp} {s : Shared} {ι : List Addr} {S : Store}
theorem StOk.new (hS : StOk Γ ι H S) {p : Addr} (hp : H p = none) : p ∉ ι := fun m => by
  obtain ⟨l, e⟩ := List.getElem?_of_mem m
  have hl : l < S.length := by rw [← hS.len]; exact (List.getElem?_eq_some_iff.mp e).1
  obtain ⟨a, ha, c⟩ := hS.cell l S[l] (List.getElem?_eq_getElem hl)
  rw [e] at ha; cases ha
  cases q : S[l] with
  | lst ds => rw [q] at c; obtain ⟨xs, hx, _⟩ := c; rw [hp] at hx; cases hx
  | dct kvs => rw [q] at c; exact c
theorem CellOk.ext {ι1 : List Addr} {H1 : Hp} (e : Ext ι ι1 H H1) {a : Addr} {c : Cell} (h : CellOk Γ ι H a c) (hl : ∀ xs, H a = some (.lst xs) → H1 a = some (.lst xs)) : CellOk Γ ι1 H1 a c := by
  cases c with
  | lst ds => obtain ⟨xs, hx, r⟩ := h; exact ⟨xs, hl xs hx, Reps.ext e r⟩
  | dct kvs => exact h
/-- a new list -/
theorem StOk.more (hS : StOk Γ ι H S) {p : Addr} (hp : H p = none) {ds : List D} {xs : List V} (r : Reps Γ ι H ds xs) : StOk Γ (ι ++ [p]) (upd H p (.lst xs)) (S ++ [.lst ds]) := by
  have e : Ext ι (ι ++ [p]) H (upd H p (.lst xs)) := Ext.more hp
  refine ⟨by simp [hS.len], List.nodup_append.mpr ⟨hS.nd, by simp, ?_⟩, fun l c h => ?_⟩
  · intro a ha b hb
    have : b = p := by simpa using hb
    subst this
    exact fun z => hS.new hp (z ▸ ha)
  · by_cases hl : l < S.length
    · rw [List.getElem?_append_left hl] at h
      obtain ⟨a, ha, c1⟩ := hS.cell l c h
      exact ⟨a, prefix_get e.pre ha, c1.ext e fun ys hy => by rw [upd_ne (ne_of_none hy hp)]; exact hy⟩
    · rw [List.getElem?_append_right (by omega)] at h
      have hl2 : l - S.length = 0 := by
        have := (List.getElem?_eq_some_iff.mp h).1
        simp at this; omega
      rw [hl2] at h
      have h' : (Cell.lst ds) = c := by simpa using h
      subst h'
      have e1 : l = ι.length := by rw [hS.len]; omega
      subst e1
      exact ⟨p, by simp, xs, upd_same, Reps.ext e r⟩
/-- a new object that is no list of ours -/
theorem StOk.laid (hS : StOk Γ ι H S) {p : Addr} (hp : H p = none) (o : HO) : StOk Γ ι (upd H p o) S :=
  ⟨hS.len, hS.nd, fun l c h => let ⟨a, ha, c1⟩ := hS.cell l c h; ⟨a, ha, c1.ext (Ext.laid hp) fun ys hy => by rw [upd_ne (ne_of_none hy hp)]; exact hy⟩⟩
theorem Out.alloc {Q : VK} {ds : List D} {xs : List V} {p : Addr} (ho : Out Γ xw ι H (alloc (.lst ds) S) fun d _ ι' H' => ∀ v, Rep Γ ι' H' d v → Q v H') (hS : StOk Γ ι H S) (hp : H p = none) (r : Reps Γ ι H ds xs) : Q (.ref p) (upd H p (.lst xs)) :=
  ho (ι ++ [p]) _ (Ext.more hp) (hS.more hp r) _ (.loc (by rw [← hS.len]; simp))
theorem Out.tup {Q : VK} {ds : List D} {xs : List V} {p : Addr} (ho : Out Γ xw ι H (.ok (.tup ds) S) fun d _ ι' H' => ∀ v, Rep Γ ι' H' d v → Q v H') (hS : StOk Γ ι H S) (hp : H p = none) (r : Reps Γ ι H ds xs) : Q (.ref p) (upd H p (.tup xs)) :=
  ho ι _ (Ext.laid hp) (hS.laid hp _) _ (.tup' (.of upd_same) (Reps.ext (Ext.laid hp) r))
theorem Out.val {Q : VK} {d : D} {v : V} (ho : Out Γ xw ι H (.ok d S) fun d _ ι' H' => ∀ v, Rep Γ ι' H' d v → Q v H') (hS : StOk Γ ι H S) (r : Rep Γ ι H d v) : Q v H := ho.here hS v r

/-- () + t -/
theorem op_catT0 : OpR X (binaryOp .Add) (fun x y H Q => ∃ a b ys, x = .ref a ∧ y = .ref b ∧ SqT X.K H a [] ∧ SqT X.K H b ys ∧ Q (.ref b) H) := by
  intro pins s σ H x y v u Q I rx ry h
  obtain ⟨a, b, ys, rfl, rfl, ha, hb, q⟩ := h
  cases rx
  cases ry
  obtain ⟨its, r1, p1, _⟩ := I.tuple ha
  obtain ⟨its2, r2, p2, _⟩ := I.tuple hb
  cases r1
  obtain ⟨⟨cls, dd, data, sl⟩, ho, hc, n, hd⟩ := id p1
  obtain ⟨⟨cls2, dd2, data2, sl2⟩, ho2, hc2, n2, hd2⟩ := id p2
  simp only at hc hd hc2 hd2
  subst hc hd hc2 hd2
  exact concat_meets ⟨_, ho, rfl⟩ ⟨_, ho2, rfl⟩ noFill_tuple_add seq_tuple_add PySem.F.slot_tuple_add PySem.F.entry_tuple_add (PySem.F.args_tuple_add_2 _ _)
    (tuple_addW0 a b _ its2.toArray n n2 dd dd2 sl sl2 rfl) ⟨ho, ho2, ⟨.ref b, H, I, rfl, q⟩⟩

theorem Out.guard {α : Type} {b : Bool} {m : M α} {k : α → Store → List Addr → Hp → Prop} (h : Out Γ xw ι H (EV.guard b m S) k) : b = true ∧ Out Γ xw ι H (m S) k := by
  cases b with
  | true => exact ⟨rfl, h⟩
  | false => exact h.elim
theorem fits_le {n : Nat} (h : fits n = true) : n ≤ sizeLine := of_decide_eq_true h
theorem fits1_lt {n : Nat} (h : fits1 n = true) : n < sizeLine := of_decide_eq_true h
theorem Out.opt {α β : Type} {o : Option α} {f : α → M β} {k : β → Store → List Addr → Hp → Prop} (h : Out Γ xw ι H ((EV.opt o >>= f) S) k) : ∃ a, o = some a ∧ Out Γ xw ι H (f a S) k := by
  cases o with
  | none => exact h.elim
  | some a => exact ⟨a, rfl, h⟩

theorem Out.onLst {l : Nat} {f : List D → M D} {k : D → Store → List Addr → Hp → Prop} (h : Out Γ xw ι H (EV.onLst l f S) k) : ∃ ds, S[l]? = some (.lst ds) ∧ Out Γ xw ι H (f ds S) k := by
  have e : EV.onLst l f S = match S[l]? with | some (.lst ds) => f ds S | _ => .bad := rfl
  rw [e] at h
  cases q : S[l]? with
  | none => rw [q] at h; exact h.elim
  | some c =>
    rw [q] at h
    cases c with
    | lst ds => exact ⟨ds, rfl, h⟩
    | dct kvs => exact h.elim
theorem s_add (hK : Γ.K = X.K) : OpR X (binaryOp .Add) (Left2 Γ xw (opD .add)) := by
  intro pins s σ H x y v u Q I rx ry h
  obtain ⟨ι, S, dx, dy, hS, r1, r2, ho⟩ := h
  cases dx with
  | int i =>
    cases dy with
    | int j => cases r1; cases r2; exact op_add pins s σ H _ _ v u Q I rx ry ⟨i, j, rfl, rfl, Out.val ho hS (.int _)⟩
    | _ => exact ho.elim
  | str a =>
    cases dy with
    | str b =>
      cases r1; cases r2
      obtain ⟨hz, ho⟩ := Out.guard ho
      exact op_add_str pins s σ H _ _ v u Q I rx ry ⟨a, b, rfl, rfl, fits_le hz, Out.val ho hS (.str _)⟩
    | _ => exact ho.elim
  | tup ds =>
    cases dy with
    | tup es =>
      obtain ⟨a, xs, rfl, t1, p1⟩ := r1.tup_inv
      obtain ⟨b, ys, rfl, t2, p2⟩ := r2.tup_inv
      have l1 := p1.length
      have l2 := p2.length
      rw [hK] at t1 t2
      obtain ⟨hz, ho⟩ := Out.guard ho
      have hz := fits_le hz
      cases xs with
      | nil =>
        have e : ds = [] := List.length_eq_zero_iff.mp l1
        subst e
        exact op_catT0 pins s σ H _ _ v u Q I rx ry ⟨a, b, ys, rfl, rfl, t1, t2, Out.val ho hS r2⟩
      | cons z zs =>
        refine op_catT pins s σ H _ _ v u Q I rx ry ⟨a, b, z :: zs, ys, rfl, rfl, t1, t2, by simp, by rw [← l1, ← l2]; exact hz, fun e => ?_, fun _ p hp => ?_⟩
        · subst e
          have e : es = [] := List.length_eq_zero_iff.mp l2
          subst e
          rw [List.append_nil] at ho
          exact Out.val ho hS r1
        · exact Out.tup ho hS hp (Paired.app p1 p2)
    | _ => exact ho.elim
  | loc l =>
    cases dy with
    | loc m =>
      obtain ⟨ds, e1, ho⟩ := Out.onLst ho
      obtain ⟨es, e2, ho⟩ := Out.onLst ho
      obtain ⟨hz, ho⟩ := Out.guard ho
      obtain ⟨a, xs, ha, hx, p1⟩ := hS.lst e1
      obtain ⟨b, ys, hb, hy, p2⟩ := hS.lst e2
      cases r1 with
      | loc q1 =>
        cases r2 with
        | loc q2 =>
          rw [ha] at q1; cases q1
          rw [hb] at q2; cases q2
          exact op_cat pins s σ H _ _ v u Q I rx ry ⟨a, b, xs, ys, rfl, rfl, hx, hy, by rw [← p1.length, ← p2.length]; exact fits_le hz, fun p hp => Out.alloc ho hS hp (Paired.app p1 p2)⟩
    | _ => exact ho.elim
  | _ => exact ho.elim
theorem s_sub : OpR X (binaryOp .Sub) (Left2 Γ xw (opD .sub)) := by
  intro pins s σ H x y v u Q I rx ry h
  obtain ⟨ι, S, dx, dy, hS, r1, r2, ho⟩ := h
  cases dx with
  | int i =>
    cases dy with
    | int j => cases r1; cases r2; exact op_sub pins s σ H _ _ v u Q I rx ry ⟨i, j, rfl, rfl, Out.val ho hS (.int _)⟩
    | _ => exact ho.elim
  | _ => exact ho.elim
theorem s_mul (hK : Γ.K = X.K) : OpR X (binaryOp .Mult) (Left2 Γ xw (opD .mul)) := by
  intro pins s σ H x y v u Q I rx ry h
  obtain ⟨ι, S, dx, dy, hS, r1, r2, ho⟩ := h
  cases dx with
  | int i =>
    cases dy with
    | int j =>
      cases r1; cases r2
      obtain ⟨hz, ho⟩ := Out.guard ho
      refine op_mul pins s σ H _ _ v u Q I rx ry ⟨i, j, rfl, rfl, ?_, Out.val ho hS (.int _)⟩
      rcases Bool.or_eq_true_iff.mp hz with hz | hz
      · exact .inl (of_decide_eq_true hz)
      · exact .inr (of_decide_eq_true hz)
    | _ => exact ho.elim

  | _ => exact ho.elim
theorem s_fdiv : OpR X (binaryOp .FloorDiv) (Left2 Γ xw (opD .fdiv)) := by
  intro pins s σ H x y v u Q I rx ry h
  obtain ⟨ι, S, dx, dy, hS, r1, r2, ho⟩ := h
  cases dx with
  | int i =>
    cases dy with
    | int j =>
      cases r1; cases r2
      obtain ⟨hz, ho⟩ := Out.guard ho
      rw [Bool.and_eq_true] at hz
      exact op_fdiv pins s σ H _ _ v u Q I rx ry ⟨i, j, rfl, rfl, ⟨of_decide_eq_true hz.1, of_decide_eq_true hz.2⟩, Out.val ho hS (.int _)⟩
    | _ => exact ho.elim
  | _ => exact ho.elim
theorem s_mod : OpR X (binaryOp .Mod) (Left2 Γ xw (opD .mod)) := by
  intro pins s σ H x y v u Q I rx ry h
  obtain ⟨ι, S, dx, dy, hS, r1, r2, ho⟩ := h
  cases dx with
  | int i =>
    cases dy with
    | int j =>
      cases r1; cases r2
      obtain ⟨hz, ho⟩ := Out.guard ho
      exact op_mod pins s σ H _ _ v u Q I rx ry ⟨i, j, rfl, rfl, of_decide_eq_true hz, Out.val ho hS (.int _)⟩
    | _ => exact ho.elim
  | _ => exact ho.elim
theorem s_pow : OpR X (binaryOp .Pow) (Left2 Γ xw (opD .pow)) := by
  intro pins s σ H x y v u Q I rx ry h
  obtain ⟨ι, S, dx, dy, hS, r1, r2, ho⟩ := h
  cases dx with
  | int i =>
    cases dy with
    | int j =>
      cases r1; cases r2
      obtain ⟨hz, ho⟩ := Out.guard ho
      rw [Bool.and_eq_true, Bool.and_eq_true] at hz
      have h2 : j ≤ 1000 := of_decide_eq_true hz.1.2
      exact op_pow pins s σ H _ _ v u Q I rx ry ⟨i, j, rfl, rfl, ⟨of_decide_eq_true hz.1.1, by omega, of_decide_eq_true hz.2⟩, Out.val ho hS (.int _)⟩
    | _ => exact ho.elim
  | _ => exact ho.elim

/-! ### comparisons -/
theorem s_int {op : CmpOp} {p : Int → Int → Bool} (h0 : OpR X (compareOp op) (rI0 fun i j => .bl (p i j))) : OpR X (compareOp op) (Left2 Γ xw (intCm p)) := by
  intro pins s σ H x y v u Q I rx ry h
  obtain ⟨ι, S, dx, dy, hS, r1, r2, ho⟩ := h
  cases dx with
  | int i =>
    cases dy with
    | int j => cases r1; cases r2; exact h0 pins s σ H _ _ v u Q I rx ry ⟨i, j, rfl, rfl, Out.val ho hS (.bl _)⟩
    | _ => exact ho.elim
  | _ => exact ho.elim
theorem s_lt : OpR X (compareOp .Lt) (Left2 Γ xw (cmD .lt)) := s_int op_lt
theorem s_le : OpR X (compareOp .LtE) (Left2 Γ xw (cmD .le)) := s_int op_le
theorem s_gt : OpR X (compareOp .Gt) (Left2 Γ xw (cmD .gt)) := s_int op_gt
theorem s_ge : OpR X (compareOp .GtE) (Left2 Γ xw (cmD .ge)) := s_int op_ge
theorem eqM_out {dx dy : D} {f : Bool → M D} {k : D → Store → List Addr → Hp → Prop} (ho : Out Γ xw ι H ((eqM dx dy >>= f) S) k) : ∃ b, eqD deep S dx dy = some b ∧ Out Γ xw ι H (f b S) k := by
  rw [bind_ap] at ho
  unfold eqM at ho
  cases q : eqD deep S dx dy with
  | none => rw [q] at ho; exact ho.elim
  | some b => rw [q] at ho; exact ⟨b, rfl, ho⟩
theorem s_eq (hK : Γ.K = X.K) (hu : X.A.units + 64 < cLine) : OpR X (compareOp .Eq) (Left2 Γ xw (cmD .eq)) := by
  intro pins s σ H x y v u Q I rx ry h
  obtain ⟨ι, S, dx, dy, hS, r1, r2, ho⟩ := h
  obtain ⟨k, q, ho⟩ := eqM_out ho
  have := (eq_deep hK I hS deep X.A dx dy k x y v u q r1 r2 rx ry (by unfold deep; omega)).1
  exact this X.prog X.w X.xe _ ⟨.bl k, H, I, rfl, Out.val ho hS (.bl _)⟩
end
end EV

set_option Elab.async false
set_option linter.all false
set_option maxRecDepth 100000
namespace EV
open PySem PySem.Spec PyProof.Rows L2
open PySem.SeqAt (EqAt RcAt)
section
variable {X : Cx} {Γ : Gx} {xw : XW} {pins : List (Addr × Obj)} {σ : L2.St} {H : Hp} {s : Shared} {ι : List Addr} {S : Store}

/-- the items of two lists, one by one -/
theorem eq_each (hK : Γ.K = X.K) (I : Inv X pins σ H s) (hS : StOk Γ ι H S) {n : Nat} {A : Around} (hu : A.units + n < cLine) {ds es : List D} {xs ys : List V} {its1 its2 : List Value} {e : Nat → Bool} (rp1 : Reps Γ ι H ds xs) (rp2 : Reps Γ ι H es ys)
    (rv1 : Vals xs its1) (rv2 : Vals ys its2) (he : ∀ (j : Nat) x y, ds[j]? = some x → es[j]? = some y → eqD n S x y = some (e j)) (j : Nat) (h1 : j < its1.toArray.size) (h2 : j < its2.toArray.size) : EqAt A s its1.toArray[j] its2.toArray[j] (e j) := by
  rw [List.size_toArray] at h1 h2
  have l1 := rp1.length
  have l2 := rp2.length
  have l3 := rv1.length
  have l4 := rv2.length
  have j1 : j < ds.length := by omega
  have j2 : j < es.length := by omega
  obtain ⟨y1, a1, a2⟩ := Paired.get rp1 (List.getElem?_eq_getElem j1)
  obtain ⟨y2, a3, a4⟩ := Paired.get rp2 (List.getElem?_eq_getElem j2)
  obtain ⟨w1, z1, z2⟩ := rv1.get a1
  obtain ⟨w2, z3, z4⟩ := rv2.get a3
  have := (eq_deep hK I hS n A ds[j] es[j] (e j) y1 y2 w1 w2 (he j _ _ (List.getElem?_eq_getElem j1) (List.getElem?_eq_getElem j2)) a2 a4 z2 z4 hu).2
  have q1 : its1.toArray[j]'(by rw [List.size_toArray]; exact h1) = w1 := by
    have : its1[j]? = some its1[j] := List.getElem?_eq_getElem h1
    rw [z1] at this; cases this; rfl
  have q2 : its2.toArray[j]'(by rw [List.size_toArray]; exact h2) = w2 := by
    have : its2[j]? = some its2[j] := List.getElem?_eq_getElem h2
    rw [z3] at this; cases this; rfl
  rw [q1, q2]; exact this

theorem eqD_tup (n : Nat) (S : Store) (xs ys : List D) : eqD (n + 1) S (.tup xs) (.tup ys) = (eqDs (eqD n S) xs ys).map fun r => r && (xs.length == ys.length) := rfl
theorem eqD_list (n : Nat) (S : Store) (a b : D) (h1 : a.kd = .list) (h2 : b.kd = .list) : eqD (n + 1) S a b = match asL S a, asL S b with
    | some xs, some ys => if xs.length = ys.length then eqDs (eqD n S) xs ys else some false
    | _, _ => none := by simp only [eqD, h1, h2] <;> rfl
theorem neOk_kinds {a b : D} (h : neOk a b = true) : (a.kd = .flat ∧ b.kd = .flat) ∨ (a.kd = .tup ∧ b.kd = .tup) ∨ (a.kd = .list ∧ b.kd = .list) := by
  cases a <;> cases b <;> first | exact .inl ⟨rfl, rfl⟩ | exact .inr (.inl ⟨rfl, rfl⟩) | exact .inr (.inr ⟨rfl, rfl⟩) | cases h
theorem flat_eqD {S : Store} {a b : D} (e1 : a.kd = .flat) (e2 : b.kd = .flat) : eqD deep S a b = eqFlat a b := by
  show eqD (11 + 1) S a b = _
  simp only [eqD, e1, e2]
theorem ne_flat {S : Store} {a b : D} {x y : V} {k : Bool} (hn : neOk a b = true) (q : eqD deep S a b = some k) (r1 : Rep Γ ι H a x) (r2 : Rep Γ ι H b y) (e1 : a.kd = .flat) (e2 : b.kd = .flat) : scal x y = true ∧ (decide (x = y)) = k := by
  rw [flat_eqD e1 e2] at q
  clear S
  cases r1 <;> first | (cases e1; done) | skip
  all_goals (cases r2 <;> first | (cases e2; done) | (cases hn; done) | skip)
  all_goals (refine ⟨rfl, ?_⟩; simp [eqFlat] at q; subst q; first | rfl | (rw [show (decide _ : Bool) = _ from dec_int]; done) | (rw [show (decide _ : Bool) = _ from dec_int]) | rw [dec_str] | rw [dec_bl] | simp)
theorem s_ne (hK : Γ.K = X.K) (hu : X.A.units + 64 < cLine) : OpR X (compareOp .NotEq) (Left2 Γ xw (cmD .ne)) := by
  intro pins s σ H x y v u Q I rx ry h
  obtain ⟨ι, S, dx, dy, hS, r1, r2, ho⟩ := h
  obtain ⟨hn, ho⟩ := Out.guard ho
  obtain ⟨k, q, ho⟩ := eqM_out ho
  have fin : Q (.bl (!k)) H := Out.val ho hS (.bl _)
  have hu0 : X.A.units < cLine := by omega
  have hd : deep = 11 + 1 := rfl
  rcases neOk_kinds hn with ⟨e1, e2⟩ | ⟨e1, e2⟩ | ⟨e1, e2⟩
  · obtain ⟨z1, z2⟩ := ne_flat hn q r1 r2 e1 e2
    exact op_ne pins s σ H _ _ v u Q I rx ry ⟨z1, by rw [z2]; exact fin⟩
  · -- tuples
    cases dx <;> first | (cases e1; done) | skip
    cases dy <;> first | (cases e2; done) | skip
    obtain ⟨a, xs, rfl, t1, p1⟩ := r1.tup_inv
    obtain ⟨b, ys, rfl, t2, p2⟩ := r2.tup_inv
    cases rx
    cases ry
    rw [hK] at t1 t2
    obtain ⟨its1, rv1, pt1, _⟩ := I.tuple t1
    obtain ⟨its2, rv2, pt2, _⟩ := I.tuple t2
    rw [hd, eqD_tup, Option.map_eq_some_iff] at q
    obtain ⟨r, hr, hk⟩ := q
    obtain ⟨e, he, hk2⟩ := eqDs_all hr
    refine NEQ.ne_tuples (same := e) pt1 pt2 hu0 (eq_each hK I hS (by show X.A.units + 1 + 11 < _; omega) p1 p2 rv1 rv2 he) ?_
    rw [List.size_toArray, List.size_toArray, ← rv1.length, ← rv2.length, ← p1.length, ← p2.length, ← hk2, hk]
    exact ⟨.bl (!k), H, I, rfl, fin⟩
  · -- lists
    rw [hd, eqD_list _ _ _ _ e1 e2] at q
    split at q
    · rename_i ds es h1 h2
      obtain ⟨a, xs, rfl, s1, p1⟩ := hS.list r1 h1
      obtain ⟨b, ys, rfl, s2, p2⟩ := hS.list r2 h2
      cases rx
      cases ry
      rw [hK] at s1 s2
      obtain ⟨its1, rv1, pl1, _⟩ := I.list s1
      obtain ⟨its2, rv2, pl2, _⟩ := I.list s2
      have z1 : its1.toArray.size = ds.length := by rw [List.size_toArray, ← rv1.length, ← p1.length]
      have z2 : its2.toArray.size = es.length := by rw [List.size_toArray, ← rv2.length, ← p2.length]
      by_cases hlen : ds.length = es.length
      · rw [if_pos hlen] at q
        obtain ⟨e, he, hk2⟩ := eqDs_all q
        refine NEQ.ne_lists (same := e) pl1.isList pl2.isList (by omega) hu0 (eq_each hK I hS (by show X.A.units + 1 + 11 < _; omega) p1 p2 rv1 rv2 he) ?_
        rw [z1, show (List.range ds.length).all e = k by rw [hk2, ← hlen, Nat.min_self]]
        exact ⟨.bl (!k), H, I, rfl, fin⟩
      · rw [if_neg hlen] at q
        cases q
        exact NEQ.ne_lens pl1.isList pl2.isList (by rw [z1, z2]; simpa using hlen) hu0 ⟨.bl true, H, I, rfl, fin⟩
    · cases q

/-- one thing stands for one datum -/
theorem Rep.inj (hK : Γ.K = X.K) (I : Inv X pins σ H s) (hS : StOk Γ ι H S) {d : D} {v : V} (r : Rep Γ ι H d v) : ∀ {d' : D}, Rep Γ ι H d' v → d = d' := by
  obtain ⟨K⟩ := Γ
  have hK' : K = X.K := hK
  subst hK'
  have tl : ∀ {a : Addr} {xs ys : List V}, SqT X.K H a xs → SqL X.K H a ys → False := fun {a xs ys} ht hl => by
    obtain ⟨its, _, pl, _⟩ := I.list hl
    obtain ⟨its2, _, pt, _⟩ := I.tuple ht
    exact absurd rfl (SeqAt.ne_of_list_tuple pl.isList pt)
  have ll : ∀ {l : Nat} {a : Addr}, ι[l]? = some a → ∃ xs, H a = some (.lst xs) := fun {l a} q => by
    have hl : l < S.length := by rw [← hS.len]; exact (List.getElem?_eq_some_iff.mp q).1
    obtain ⟨b, hb, c⟩ := hS.cell l S[l] (List.getElem?_eq_getElem hl)
    rw [q] at hb; cases hb
    cases e : S[l] with
    | lst ds => rw [e] at c; obtain ⟨xs, hx, _⟩ := c; exact ⟨xs, hx⟩
    | dct kvs => rw [e] at c; exact c.elim
  have fl : ∀ {l : Nat} {a : Addr} {xs : List V}, Fro X.K H a xs → ι[l]? = some a → False := fun {l a xs} hf q => by
    obtain ⟨ys, hy⟩ := ll q
    rcases hf with ⟨o, hf⟩ | hf
    · rw [hy] at hf; cases hf
    · rcases hf (fun _ => none) with (z | ⟨_, z⟩) | z
      · cases z
      · cases z
      · obtain ⟨o, _, _, hk, _⟩ := z
        have hb : X.base.get? a = some o := I.ok.mod.kin a o hk
        have := (I.bs a o hb).2
        rw [hy] at this; cases this
  induction r with
  | non => intro d' r'; cases r'; rfl
  | bl b => intro d' r'; cases r'; rfl
  | int i => intro d' r'; cases r'; rfl
  | str x => intro d' r'; cases r'; rfl
  | @tup ds a xs t1 l1 p1 ih =>
    intro d' r'
    cases r' with
    | @tup es _ ys t2 l2 p2 =>
      have e : xs = ys := I.tuple_inj t1 t2
      subst e
      congr 1
      refine List.ext_getElem? fun j => ?_
      by_cases hj : j < ds.length
      · have h1 := List.getElem?_eq_getElem hj
        have h2 : es[j]? = some es[j] := List.getElem?_eq_getElem (by omega)
        have h3 : xs[j]? = some xs[j] := List.getElem?_eq_getElem (by omega)
        rw [h1, h2, ih j _ _ h1 h3 (p2 j _ _ h2 h3)]
      · rw [List.getElem?_eq_none (by omega), List.getElem?_eq_none (by omega)]
    | fro f2 _ _ => exact (tl t1 f2.sq).elim
    | loc q => obtain ⟨ys, hy⟩ := ll q; exact (tl t1 (.of hy)).elim
  | @fro ds a xs f1 l1 p1 ih =>
    intro d' r'
    cases r' with
    | tup t2 _ _ => exact (tl t2 f1.sq).elim
    | @fro es _ ys f2 l2 p2 =>
      have e : xs = ys := I.list_inj f1.sq f2.sq
      subst e
      congr 1
      refine List.ext_getElem? fun j => ?_
      by_cases hj : j < ds.length
      · have h1 := List.getElem?_eq_getElem hj
        have h2 : es[j]? = some es[j] := List.getElem?_eq_getElem (by omega)
        have h3 : xs[j]? = some xs[j] := List.getElem?_eq_getElem (by omega)
        rw [h1, h2, ih j _ _ h1 h3 (p2 j _ _ h2 h3)]
      · rw [List.getElem?_eq_none (by omega), List.getElem?_eq_none (by omega)]
    | loc q => exact (fl f1 q).elim
  | @loc l a q =>
    intro d' r'
    cases r' with
    | tup t2 _ _ => obtain ⟨ys, hy⟩ := ll q; exact (tl t2 (.of hy)).elim
    | fro f2 _ _ => exact (fl f2 q).elim
    | loc q' => rw [nodup_get hS.nd q q']

theorem inL_any {x : D} : ∀ {ys : List D} {k : Bool}, inL S x ys = some k → (∀ y ∈ ys, eqD deep S y x = some ((eqD deep S y x).getD false)) ∧ k = ys.any fun y => (eqD deep S y x).getD false
  | [], k, h => ⟨fun y hy => absurd hy (by simp), by cases h; rfl⟩
  | y :: ys, k, h => by
    simp only [inL] at h
    split at h
    · rename_i a b e1 e2
      cases h
      obtain ⟨he, hk⟩ := inL_any e2
      refine ⟨fun z hz => ?_, ?_⟩
      · rcases List.mem_cons.mp hz with rfl | hz
        · simp [e1]
        · exact he z hz
      · rw [List.any_cons, ← hk]; simp [e1]
    · cases h
/-- among the items, by what they stand for -/
theorem in_items (hK : Γ.K = X.K) (I : Inv X pins σ H s) (hS : StOk Γ ι H S) {A : Around} (hu : A.units + deep < cLine) {dx : D} {x : V} {v : Value} (r1 : Rep Γ ι H dx x) (rx : RelV x v) {ds : List D} {xs : List V} {its : List Value} {k : Bool} (h : inL S dx ds = some k)
    (p : Reps Γ ι H ds xs) (rv : Vals xs its) : ∃ e : Value → Bool, (∀ y, y ∈ its.toArray → EqAt A s y v (e y)) ∧ its.toArray.any e = k := by
  classical
  obtain ⟨h1, h2⟩ := inL_any h
  have key : ∀ (d : D) (w : V) (u : Value), d ∈ ds → Rep Γ ι H d w → RelV w u → ∀ (d' : D) (w' : V), Rep Γ ι H d' w' → RelV w' u → d' = d := fun d w u _ r q d' w' r' q' => by
    have e : w' = w := q'.inj q
    subst e
    exact (Rep.inj hK I hS r' r)
  refine ⟨fun u => decide (∃ d w, d ∈ ds ∧ Rep Γ ι H d w ∧ RelV w u ∧ (eqD deep S d dx).getD false = true), fun u hu' => ?_, ?_⟩
  · have hm : u ∈ its := by simpa using hu'
    obtain ⟨j, hj⟩ := List.getElem?_of_mem hm
    obtain ⟨w, hw, q⟩ := Paired.get' rv hj
    obtain ⟨d, hd, r⟩ := Paired.get' p hw
    have hd' := List.mem_of_getElem? hd
    have e := (eq_deep hK I hS deep A d dx _ w x u v (h1 d hd') r r1 q rx hu).2
    have : decide (∃ d w, d ∈ ds ∧ Rep Γ ι H d w ∧ RelV w u ∧ (eqD deep S d dx).getD false = true) = (eqD deep S d dx).getD false := by
      cases z : (eqD deep S d dx).getD false with
      | true => exact decide_eq_true ⟨d, w, hd', r, q, z⟩
      | false =>
        refine decide_eq_false ?_
        rintro ⟨d', w', _, r', q', z'⟩
        rw [key d w u hd' r q d' w' r' q', z] at z'
        cases z'
    show EqAt A s u v (decide (∃ d w, d ∈ ds ∧ Rep Γ ι H d w ∧ RelV w u ∧ (eqD deep S d dx).getD false = true))
    rw [this]; exact e
  · rw [h2]
    rw [Bool.eq_iff_iff]
    simp only [Array.any_eq_true', List.any_eq_true, decide_eq_true_eq]
    constructor
    · rintro ⟨u, hu', d, w, hd, r, q, z⟩
      exact ⟨d, hd, z⟩
    · rintro ⟨d, hd, z⟩
      obtain ⟨j, hj⟩ := List.getElem?_of_mem hd
      obtain ⟨w, hw, r⟩ := Paired.get p hj
      obtain ⟨u, hu', q⟩ := rv.get hw
      exact ⟨u, by simpa using List.mem_of_getElem? hu', d, w, hd, r, q, z⟩
theorem items_res (d : D) (S : Store) : (∃ ds, items d S = .ok ds S) ∨ items d S = .bad := by
  cases d with
  | tup ds => exact .inl ⟨ds, rfl⟩
  | fro ds => exact .inl ⟨ds, rfl⟩
  | loc l =>
    rw [items_of]
    cases listAt S l with
    | none => exact .inr rfl
    | some ds => exact .inl ⟨ds, rfl⟩
  | _ => exact .inr rfl
theorem Out.items {α : Type} {d : D} {f : List D → M α} {k : α → Store → List Addr → Hp → Prop} (ho : Out Γ xw ι H ((EV.items d >>= f) S) k) : ∃ ds, EV.items d S = .ok ds S ∧ Out Γ xw ι H (f ds S) k := by
  rcases items_res d S with ⟨ds, e⟩ | e
  · rw [bind_ok e] at ho; exact ⟨ds, e, ho⟩
  · rw [bind_bad e] at ho; exact ho.elim
theorem Out.opt' {α : Type} {o : Option α} {k : α → Store → List Addr → Hp → Prop} (ho : Out Γ xw ι H (EV.opt o S) k) : ∃ a, o = some a ∧ Out Γ xw ι H (.ok a S) k := by
  cases o with
  | none => exact ho.elim
  | some a => exact ⟨a, rfl, ho⟩
theorem inM_out {neg : Bool} {a b : D} {k : D → Store → List Addr → Hp → Prop} (ho : Out Γ xw ι H (inM neg a b S) k) : ∃ ds c, items b S = .ok ds S ∧ inL S a ds = some c ∧ Out Γ xw ι H (.ok (.bl (c != neg)) S) k := by
  obtain ⟨ds, e, ho⟩ := Out.items ho
  unfold inA at ho
  cases q : inL S a ds with
  | none => rw [q] at ho; exact ho.elim
  | some c => rw [q] at ho; exact ⟨ds, c, e, q, ho⟩
/-- the items of a datum, by what it stands for -/
theorem items_sq (hS : StOk Γ ι H S) {d : D} {v : V} {ds : List D} {S' : Store} (r : Rep Γ ι H d v) (h : items d S = .ok ds S') : S' = S ∧ ∃ a xs, v = .ref a ∧ (SqL Γ.K H a xs ∨ SqT Γ.K H a xs) ∧ Reps Γ ι H ds xs ∧ (∀ l, d = .loc l → SqL Γ.K H a xs) := by
  cases d with
  | tup es => cases h; obtain ⟨a, xs, e, t, p⟩ := r.tup_inv; exact ⟨rfl, a, xs, e, .inr t, p, fun l e => by cases e⟩
  | fro es => cases h; obtain ⟨a, xs, e, f, p⟩ := r.fro_inv; exact ⟨rfl, a, xs, e, .inl f.sq, p, fun l e => by cases e⟩
  | loc l =>
    have h' : (match listAt S l with | some ds => Res.ok ds S | none => .bad) = .ok ds S' := h
    cases q : listAt S l with
    | none => rw [q] at h'; cases h'
    | some es =>
      rw [q] at h'
      cases h'
      obtain ⟨a, xs, e, t, p⟩ := hS.list r (show asL S (.loc l) = some ds from q)
      exact ⟨rfl, a, xs, e, .inl t, p, fun _ _ => t⟩
  | _ => cases h
theorem s_inM (hK : Γ.K = X.K) (hu : X.A.units + 64 < cLine) : OpR X (compareOp .In) (Left2 Γ xw (inM false)) := by
  intro pins s σ H x y v u Q I rx ry h
  obtain ⟨ι, S, dx, dy, hS, r1, r2, ho⟩ := h
  obtain ⟨ds, c, h1, h2, ho⟩ := inM_out ho
  have fin : Q (.bl c) H := by have := Out.val ho hS (.bl _); simpa using this
  obtain ⟨_, a, xs, rfl, sq, p, _⟩ := items_sq hS r2 h1
  cases ry
  rw [hK] at sq
  rcases sq with sq | sq
  · obtain ⟨its, rv, pl, _⟩ := I.list sq
    obtain ⟨e, he, hk⟩ := in_items hK I hS (A := X.A.in1) (by show X.A.units + 1 + 12 < cLine; omega) r1 rx h2 p rv
    exact SeqAt.in_listAt e pl.isList he (by rw [hk]; exact ⟨.bl c, H, I, rfl, fin⟩)
  · obtain ⟨its, rv, pl, _⟩ := I.tuple sq
    obtain ⟨e, he, hk⟩ := in_items hK I hS (A := X.A.in1) (by show X.A.units + 1 + 12 < cLine; omega) r1 rx h2 p rv
    exact SeqAt.in_tupleAt e pl he (by rw [hk]; exact ⟨.bl c, H, I, rfl, fin⟩)
theorem s_notinM (hK : Γ.K = X.K) (hu : X.A.units + 64 < cLine) : OpR X (compareOp .NotIn) (Left2 Γ xw (inM true)) := by
  intro pins s σ H x y v u Q I rx ry h
  obtain ⟨ι, S, dx, dy, hS, r1, r2, ho⟩ := h
  obtain ⟨ds, c, h1, h2, ho⟩ := inM_out ho
  have fin : Q (.bl (!c)) H := by have := Out.val ho hS (.bl _); simpa using this
  obtain ⟨_, a, xs, rfl, sq, p, _⟩ := items_sq hS r2 h1
  cases ry
  rw [hK] at sq
  rcases sq with sq | sq
  · obtain ⟨its, rv, pl, _⟩ := I.list sq
    obtain ⟨e, he, hk⟩ := in_items hK I hS (A := X.A.in1) (by show X.A.units + 1 + 12 < cLine; omega) r1 rx h2 p rv
    exact SeqAt.notIn_listAt e pl.isList he (by rw [hk]; exact ⟨.bl (!c), H, I, rfl, fin⟩)
  · obtain ⟨its, rv, pl, _⟩ := I.tuple sq
    obtain ⟨e, he, hk⟩ := in_items hK I hS (A := X.A.in1) (by show X.A.units + 1 + 12 < cLine; omega) r1 rx h2 p rv
    exact SeqAt.notIn_tupleAt e pl he (by rw [hk]; exact ⟨.bl (!c), H, I, rfl, fin⟩)

/-! ### truth -/
theorem s_truth (hK : Γ.K = X.K) : TruR X (fun x H Q => ∃ ι S d, StOk Γ ι H S ∧ Rep Γ ι H d x ∧ Out Γ xw ι H (truth d S) fun b _ _ H' => Q b H') := by
  intro pins s σ H x v Q I rx h
  obtain ⟨ι, S, d, hS, r, ho⟩ := h
  refine tru_ok pins s σ H x v Q I rx ?_
  cases d with
  | bl b => cases r; exact ⟨b, rfl, ho.here hS⟩
  | non => cases r; exact ⟨false, rfl, ho.here hS⟩
  | int i => cases r; exact ⟨_, rfl, ho.here hS⟩
  | tup ds =>
    obtain ⟨a, xs, rfl, t, p⟩ := r.tup_inv
    rw [hK] at t
    refine ⟨!ds.isEmpty, .inr (.inl ⟨xs, t, ?_⟩), ho.here hS⟩
    cases p <;> rfl
  | fro ds =>
    obtain ⟨a, xs, rfl, t, p⟩ := r.fro_inv
    have t := t.sq
    rw [hK] at t
    refine ⟨!ds.isEmpty, .inl ⟨xs, t, ?_⟩, ho.here hS⟩
    cases p <;> rfl
  | loc l =>
    obtain ⟨ds, q, ho'⟩ := Out.items ho
    obtain ⟨_, a, xs, rfl, _, p, t⟩ := items_sq hS r q
    · have t := t l rfl
      rw [hK] at t
      refine ⟨!ds.isEmpty, .inl ⟨xs, t, ?_⟩, ho'.here hS⟩
      cases p <;> rfl
  | _ => exact ho.elim

/-! ### places -/
theorem atI_reps {ds : List D} {xs : List V} {i : Int} {d : D} (p : Reps Γ ι H ds xs) (h : EV.atI ds i = some d) : ∃ v, L2.atI xs i = some v ∧ Rep Γ ι H d v := by
  unfold EV.atI at h
  cases e : EV.ixN ds.length i with
  | none => rw [e] at h; cases h
  | some j =>
    rw [e] at h
    obtain ⟨v, hv, r⟩ := Paired.get p h
    refine ⟨v, ?_, r⟩
    have e' : L2.ixN xs.length i = some j := by rw [← p.length]; exact e
    unfold L2.atI
    rw [e']
    exact hv
theorem s_ix (hK : Γ.K = X.K) : IxR X (Left2 Γ xw ixD) := by
  intro value slice pins s σ H x y v u Q I rx ry h hsub
  obtain ⟨ι, S, dx, dy, hS, r1, r2, ho⟩ := h
  cases dy with
  | int j =>
    cases r2
    obtain ⟨ds, q, ho'⟩ := Out.items ho
    obtain ⟨d, q2, ho'⟩ := Out.opt' ho'
    obtain ⟨_, a, xs, rfl, sq, p, _⟩ := items_sq hS r1 q
    · rw [hK] at sq
      · obtain ⟨w, hw, rw'⟩ := atI_reps p q2
        have fin := Out.val ho' hS rw'
        rcases sq with sq | sq
        · exact ix_list value slice pins s σ H _ _ v u Q I rx ry ⟨a, xs, j, w, rfl, rfl, sq, hw, fin⟩ hsub
        · exact ix_tup value slice pins s σ H _ _ v u Q I rx ry ⟨a, xs, j, w, rfl, rfl, sq, hw, fin⟩ hsub
  | _ => exact ho.elim
/-- a slice -/
theorem sl_whole : SlR X (fun x lo hi H Q => ∃ a xs, x = .ref a ∧ SqT X.K H a xs ∧ (HT.sIx xs.length 0 lo = 0 ∧ HT.sIx xs.length xs.length hi = xs.length) ∧ Q (.ref a) H) := by
  intro pins s σ H x v vl vu lo hi sl Q I rx hs pl pu h
  obtain ⟨a, xs, rfl, hx, hw, q⟩ := h
  cases rx
  obtain ⟨its, r, ht, hz⟩ := I.tuple hx
  have hlen : its.toArray.size = xs.length := by rw [List.size_toArray]; exact r.length.symm
  exact ⟨"tuple", _, PyProof.Rows.slot_tuple_getitem.lookup, ht.typeIs, HT.getItem_tuple_whole ht hs pl pu (by rw [hlen]; exact hw) ⟨.ref a, H, I, rfl, q⟩⟩
theorem cut_reps {ds : List D} {xs : List V} (p : Reps Γ ι H ds xs) (lo hi : Option Int) : Reps Γ ι H (cut ds lo hi) (cutV xs lo hi) := by
  have e : ∀ n d o, EV.sIx n d o = HT.sIx n d o := fun n d o => by cases o <;> rfl
  unfold cut cutV
  rw [e, e, p.length]
  exact Paired.tak _ (Paired.drp _ p)
theorem s_sl (hK : Γ.K = X.K) : SlR X (fun x lo hi H Q => ∃ ι S d, StOk Γ ι H S ∧ Rep Γ ι H d x ∧ Out Γ xw ι H (slD d lo hi S) fun d _ ι' H' => ∀ v, Rep Γ ι' H' d v → Q v H') := by
  intro pins s σ H x v vl vu lo hi sl Q I rx hs pl pu h
  obtain ⟨ι, S, d, hS, r, ho⟩ := h
  cases d with
  | tup ds =>
    obtain ⟨a, xs, rfl, t, p⟩ := r.tup_inv
    rw [hK] at t
    have pc := cut_reps p lo hi
    by_cases hw : HT.sIx xs.length 0 lo = 0 ∧ HT.sIx xs.length xs.length hi = xs.length
    · have e : cutV xs lo hi = xs := by unfold cutV; rw [hw.1, hw.2]; simp
      rw [e] at pc
      refine sl_whole pins s σ H _ v vl vu lo hi sl Q I rx hs pl pu ⟨a, xs, rfl, t, hw, Out.val ho hS (.tup' (by rw [hK]; exact t) pc)⟩
    · exact sl_tup pins s σ H _ v vl vu lo hi sl Q I rx hs pl pu ⟨a, xs, rfl, t, hw, fun q hq => Out.tup ho hS hq pc⟩
  | fro ds =>
    obtain ⟨a, xs, rfl, t, p⟩ := r.fro_inv
    have t := t.sq
    rw [hK] at t
    exact sl_list pins s σ H _ v vl vu lo hi sl Q I rx hs pl pu ⟨a, xs, rfl, t, fun q hq => Out.alloc ho hS hq (cut_reps p lo hi)⟩
  | loc l =>
    obtain ⟨ds, q, ho'⟩ := Out.items ho
    obtain ⟨_, a, xs, rfl, _, p, t⟩ := items_sq hS r q
    · have t := t l rfl
      rw [hK] at t
      exact sl_list pins s σ H _ v vl vu lo hi sl Q I rx hs pl pu ⟨a, xs, rfl, t, fun q hq => Out.alloc ho' hS hq (cut_reps p lo hi)⟩
  | _ => exact ho.elim
end
end EV

set_option Elab.async false
set_option linter.all false
set_option maxRecDepth 100000
namespace EV
open PySem PySem.Spec PyProof.Rows L2

/-! ### lists of ints -/
theorem ints_map : ∀ {ds : List D} {is : List Int}, allInts ds = some is → ds = is.map D.int
  | [], is, h => by cases h; rfl
  | d :: r, is, h => by
    cases d with
    | int i =>
      simp only [allInts, Option.map_eq_some_iff] at h
      obtain ⟨js, e, rfl⟩ := h
      rw [ints_map e]; rfl
    | _ => cases h
theorem bools_map : ∀ {ds : List D} {is : List Bool}, allBools ds = some is → ds = is.map D.bl
  | [], is, h => by cases h; rfl
  | d :: r, is, h => by
    cases d with
    | bl i =>
      simp only [allBools, Option.map_eq_some_iff] at h
      obtain ⟨js, e, rfl⟩ := h
      rw [bools_map e]; rfl
    | _ => cases h
theorem reps_ints {Γ : Gx} {ι : List Addr} {H : Hp} : ∀ {is : List Int} {xs : List V}, Reps Γ ι H (is.map D.int) xs → xs = is.map V.int
  | [], _, .nil => rfl
  | i :: r, _, .cons (b := y) h t => by
    cases h
    rw [reps_ints t]; rfl
theorem reps_bools {Γ : Gx} {ι : List Addr} {H : Hp} : ∀ {is : List Bool} {xs : List V}, Reps Γ ι H (is.map D.bl) xs → xs = is.map V.bl
  | [], _, .nil => rfl
  | i :: r, _, .cons (b := y) h t => by
    cases h
    rw [reps_bools t]; rfl
theorem ints_reps {Γ : Gx} {ι : List Addr} {H : Hp} : ∀ (is : List Int), Reps Γ ι H (is.map D.int) (is.map V.int)
  | [] => .nil
  | i :: r => .cons (.int i) (ints_reps r)
theorem preSum_take (is : List Int) : ∀ k, preSum (fun i => is.getD i 0) k = (is.take k).sum
  | 0 => by simp [preSum]
  | k + 1 => by
    rw [preSum, preSum_take is k, List.take_add_one, List.sum_append]
    congr 1
    rw [List.getD_eq_getElem?_getD]
    cases is[k]? <;> simp
theorem range_all (bs : List Bool) : (List.range bs.length).all (fun i => bs.getD i false) = bs.all id := by
  rw [Bool.eq_iff_iff, List.all_eq_true, List.all_eq_true]
  constructor
  · intro h b hb
    obtain ⟨i, e⟩ := List.getElem?_of_mem hb
    have := h i (by rw [List.mem_range]; exact (List.getElem?_eq_some_iff.mp e).1)
    rw [List.getD_eq_getElem?_getD, e] at this
    exact this
  · intro h i hi
    rw [List.mem_range] at hi
    rw [List.getD_eq_getElem?_getD, List.getElem?_eq_getElem hi]
    exact h _ (List.getElem_mem hi)
theorem foldl_min_le : ∀ (r : List Int) (i : Int), r.foldl min i ≤ i ∧ ∀ a ∈ r, r.foldl min i ≤ a
  | [], i => ⟨Int.le_refl _, fun a h => absurd h (by simp)⟩
  | b :: r, i => by
    obtain ⟨h1, h2⟩ := foldl_min_le r (min i b)
    simp only [List.foldl_cons]
    refine ⟨by omega, fun a ha => ?_⟩
    rcases List.mem_cons.mp ha with rfl | ha
    · omega
    · exact h2 a ha
theorem foldl_min_mem : ∀ (r : List Int) (i : Int), r.foldl min i = i ∨ r.foldl min i ∈ r
  | [], i => .inl rfl
  | b :: r, i => by
    simp only [List.foldl_cons]
    rcases foldl_min_mem r (min i b) with h | h
    · rw [h]
      by_cases hb : i ≤ b
      · exact .inl (by omega)
      · exact .inr (by rw [show min i b = b by omega]; exact List.mem_cons_self)
    · exact .inr (List.mem_cons_of_mem _ h)
theorem foldl_max_le : ∀ (r : List Int) (i : Int), i ≤ r.foldl max i ∧ ∀ a ∈ r, a ≤ r.foldl max i
  | [], i => ⟨Int.le_refl _, fun a h => absurd h (by simp)⟩
  | b :: r, i => by
    obtain ⟨h1, h2⟩ := foldl_max_le r (max i b)
    simp only [List.foldl_cons]
    refine ⟨by omega, fun a ha => ?_⟩
    rcases List.mem_cons.mp ha with rfl | ha
    · omega
    · exact h2 a ha
theorem foldl_max_mem : ∀ (r : List Int) (i : Int), r.foldl max i = i ∨ r.foldl max i ∈ r
  | [], i => .inl rfl
  | b :: r, i => by
    simp only [List.foldl_cons]
    rcases foldl_max_mem r (max i b) with h | h
    · rw [h]
      by_cases hb : b ≤ i
      · exact .inl (by omega)
      · exact .inr (by rw [show max i b = b by omega]; exact List.mem_cons_self)
    · exact .inr (List.mem_cons_of_mem _ h)

section
variable {X : Cx} {Γ : Gx} {xw : XW} {pins : List (Addr × Obj)} {σ : L2.St} {H : Hp} {s : Shared} {ι : List Addr} {S : Store} {sub : Sub}

theorem left_one {b : Bi} {xs : List V} {Q : VK} (hb : b.isR = false) (hb2 : ∀ a c S, bi2 b a c S = .bad) (h : LeftN Γ xw (biD sub b) xs H Q) :
    ∃ ι S a x, xs = [x] ∧ StOk Γ ι H S ∧ Rep Γ ι H a x ∧ Out Γ xw ι H (bi1 sub b a S) fun d _ ι' H' => ∀ v, Rep Γ ι' H' d v → Q v H' := by
  obtain ⟨ι, S, ds, hS, r, ho⟩ := h
  unfold biD at ho
  rw [hb] at ho
  match ds, r with
  | [], .nil => exact ho.elim
  | [a], .cons (b := x) ra .nil => exact ⟨ι, S, a, x, rfl, hS, ra, ho⟩
  | [a, c], _ =>
    have ho' : Out Γ xw ι H (bi2 b a c S) _ := ho
    rw [hb2] at ho'
    exact ho'.elim
  | _ :: _ :: _ :: _, _ => exact ho.elim

/-- an iterator over a list or a tuple, and what is left of the heap behind it -/
theorem walk_at (hK : Γ.K = X.K) (I : Inv X pins σ H s) {a : Addr} {xs : List V} (sq : SqL Γ.K H a xs ∨ SqT Γ.K H a xs) : ∃ its : List Value, Vals xs its ∧ ∀ (A : Around) (E : Value → Shared → Prop) (Q : Value → Shared → Prop), A.handled = none →
    (∀ (I0 : Addr) (fp : List Addr) (St : Nat → Heap → Prop) (s2 : Shared), Walks X.prog X.w A I0 fp [I0] its.toArray.size (fun i v => its.toArray[i]? = some v) St → St 0 s2.heap → (∀ b ∈ fp, b < s2.heap.objs.size) →
      (∀ h' tk, (∀ b o, b ∉ [I0] → s2.heap.get? b = some o → h'.get? b = some o) → Inv X pins σ H { s2 with heap := h', toks := tk }) → Q (.ref I0) s2) → wpAny (model X.prog X.w) A (pyIter (.ref a)) Q E s := by
  rw [hK] at sq
  rcases sq with sq | sq
  · obtain ⟨its, rv, pl, _⟩ := I.list sq
    refine ⟨its, rv, fun A E Q hh hQ => wpAny_pyIter_list pl.isList ?_⟩
    obtain ⟨o, ho, _⟩ := id pl.isList
    have hlt := Heap.lt_size ho
    refine hQ s.heap.objs.size _ _ _ (Walks.list hh _ a (Nat.ne_of_lt hlt) its.toArray) ⟨⟨_, Heap.get?_push_size _ rfl, rfl, rfl⟩, pl.isList.at fun o e => Heap.get?_push_of_some _ e⟩ (fun b hb => ?_) fun h' tk hk => ?_
    · rw [Heap.size_push]
      rcases List.mem_cons.mp hb with rfl | hb
      · exact Nat.lt_succ_self _
      · have : b = a := by simpa using hb
        subst this; exact Nat.lt_succ_of_lt hlt
    · exact I.kept fun b u e => hk b u (by simpa using Nat.ne_of_lt (Heap.lt_size e)) (Heap.get?_push_of_some _ e)
  · obtain ⟨its, rv, pl, _⟩ := I.tuple sq
    refine ⟨its, rv, fun A E Q hh hQ => wpAny_pyIter_tuple (show s.heap.IsTuple a its.toArray from pl) ?_⟩
    obtain ⟨o, ho, hc, hd⟩ := id pl
    have hlt := Heap.lt_size ho
    refine hQ s.heap.objs.size _ _ _ (Walks.tuple hh _ a (Nat.ne_of_lt hlt) its.toArray) ⟨⟨_, Heap.get?_push_size _ rfl, rfl, rfl⟩, ⟨o, Heap.get?_push_of_some _ ho, hc, hd⟩⟩ (fun b hb => ?_) fun h' tk hk => ?_
    · rw [Heap.size_push]
      rcases List.mem_cons.mp hb with rfl | hb
      · exact Nat.lt_succ_self _
      · have : b = a := by simpa using hb
        subst this; exact Nat.lt_succ_of_lt hlt
    · exact I.kept fun b u e => hk b u (by simpa using Nat.ne_of_lt (Heap.lt_size e)) (Heap.get?_push_of_some _ e)

theorem vals_at {is : List Int} {its : List Value} (rv : Vals (is.map V.int) its) {i : Nat} {v : Value} (h : its.toArray[i]? = some v) : ∃ t, v = .int (is.getD i 0) t := by
  have h' : its[i]? = some v := by simpa using h
  obtain ⟨x, hx, r⟩ := Paired.get' rv h'
  rw [List.getElem?_map, Option.map_eq_some_iff] at hx
  obtain ⟨j, hj, rfl⟩ := hx
  obtain ⟨t, rfl⟩ := r
  exact ⟨t, by rw [List.getD_eq_getElem?_getD, hj]; rfl⟩
theorem valb_at {is : List Bool} {its : List Value} (rv : Vals (is.map V.bl) its) {i : Nat} {v : Value} (h : its.toArray[i]? = some v) : v = .bool (is.getD i false) := by
  have h' : its[i]? = some v := by simpa using h
  obtain ⟨x, hx, r⟩ := Paired.get' rv h'
  rw [List.getElem?_map, Option.map_eq_some_iff] at hx
  obtain ⟨j, hj, rfl⟩ := hx
  cases r
  rw [List.getD_eq_getElem?_getD, hj]; rfl

theorem b_len (hK : Γ.K = X.K) : CallR X (.builtin "len") (LeftN Γ xw (biD sub .len)) := by
  intro pins s σ H xs us Q I rs h
  obtain ⟨ι, S, a, x, rfl, hS, r, ho⟩ := left_one rfl (fun _ _ _ => rfl) h
  obtain ⟨ds, q, ho⟩ := Out.items ho
  obtain ⟨_, p, ys, rfl, sq, rp, _⟩ := items_sq hS r q
  rw [hK] at sq
  refine call_len_seq pins s σ H _ us Q I rs ⟨p, ys, rfl, sq, ?_⟩
  rw [← rp.length]
  exact Out.val ho hS (.int _)
theorem b_all (hK : Γ.K = X.K) (hc : X.calm = true) : CallR X (.builtin "all") (LeftN Γ xw (biD sub .all)) := by
  intro pins s σ H xs us Q I rs h
  obtain ⟨ι, S, a, x, rfl, hS, r, ho⟩ := left_one rfl (fun _ _ _ => rfl) h
  obtain ⟨ds, q, ho⟩ := Out.items ho
  obtain ⟨bs, q2, ho⟩ := Out.opt ho
  obtain ⟨_, p, ys, rfl, sq, rp, _⟩ := items_sq hS r q
  rw [bools_map q2] at rp
  have e := reps_bools rp
  subst e
  obtain ⟨u, rfl, ru⟩ := rs.one
  cases ru
  obtain ⟨its, rv, wk⟩ := walk_at hK I sq
  refine call_all_walk (wk X.A.in1 _ _ (I.ok.hd hc) fun I0 fp St s2 W st fl inv => ⟨I0, fp, [I0], _, _, St, fun i => bs.getD i false, rfl, W, st, fun i v s' Q' E' hv hq => ?_, fun h' tk hk => ?_⟩)
  · rw [valb_at rv hv]; exact wpAny_truthy_bool hq
  · have hl : its.toArray.size = bs.length := by rw [List.size_toArray, ← rv.length, List.length_map]
    rw [hl, range_all]
    exact ⟨.bl _, H, inv h' tk hk, rfl, Out.val ho hS (.bl _)⟩
theorem b_sum (hK : Γ.K = X.K) (hc : X.calm = true) : CallR X (.builtin "sum") (LeftN Γ xw (biD sub .sum)) := by
  intro pins s σ H xs us Q I rs h
  obtain ⟨ι, S, a, x, rfl, hS, r, ho⟩ := left_one rfl (fun _ _ _ => rfl) h
  obtain ⟨ds, q, ho⟩ := Out.items ho
  obtain ⟨is, q2, ho⟩ := Out.opt ho
  obtain ⟨_, p, ys, rfl, sq, rp, _⟩ := items_sq hS r q
  rw [ints_map q2] at rp
  have e := reps_ints rp
  subst e
  obtain ⟨u, rfl, ru⟩ := rs.one
  cases ru
  obtain ⟨its, rv, wk⟩ := walk_at hK I sq
  refine call_sum_walkG (wk X.A.in1 _ _ (I.ok.hd hc) fun I0 fp St s2 W st fl inv => ⟨I0, fp, [I0], _, _, St, fun i => is.getD i 0, rfl, W, st, fl, fun i v hv => vals_at rv hv, fun h' tk t' hk => ?_⟩)
  have hl : its.toArray.size = is.length := by rw [List.size_toArray, ← rv.length, List.length_map]
  rw [hl, preSum_take, List.take_length]
  exact ⟨.int _, H, inv h' tk hk, ⟨_, rfl⟩, Out.val ho hS (.int _)⟩
end
end EV

set_option Elab.async false
set_option linter.all false
set_option maxRecDepth 100000
namespace EV
open PySem PySem.Spec PyProof.Rows L2
section
variable {X : Cx} {Γ : Gx} {xw : XW} {pins : List (Addr × Obj)} {σ : L2.St} {H : Hp} {s : Shared} {ι : List Addr} {S : Store} {sub : Sub}

theorem left_any {b : Bi} {xs : List V} {Q : VK} (hb : b.isR = false) (h : LeftN Γ xw (biD sub b) xs H Q) :
    (∃ ι S a x, xs = [x] ∧ StOk Γ ι H S ∧ Rep Γ ι H a x ∧ Out Γ xw ι H (bi1 sub b a S) fun d _ ι' H' => ∀ v, Rep Γ ι' H' d v → Q v H') ∨
    (∃ ι S a c x y, xs = [x, y] ∧ StOk Γ ι H S ∧ Rep Γ ι H a x ∧ Rep Γ ι H c y ∧ Out Γ xw ι H (bi2 b a c S) fun d _ ι' H' => ∀ v, Rep Γ ι' H' d v → Q v H') := by
  obtain ⟨ι, S, ds, hS, r, ho⟩ := h
  unfold biD at ho
  rw [hb] at ho
  have hl : ds.length = 1 ∨ ds.length = 2 ∨ ds = [] ∨ ∃ a c e q, ds = a :: c :: e :: q := by
    rcases ds with _ | ⟨a, _ | ⟨c, _ | ⟨e, q⟩⟩⟩
    · exact .inr (.inr (.inl rfl))
    · exact .inl rfl
    · exact .inr (.inl rfl)
    · exact .inr (.inr (.inr ⟨_, _, _, _, rfl⟩))
  rcases hl with hl | hl | rfl | ⟨_, _, _, _, rfl⟩
  · obtain ⟨a, _, x, _, rfl, rfl, ra, r, hl⟩ := Paired.step r hl
    obtain ⟨rfl, rfl⟩ := Paired.last r hl
    exact .inl ⟨ι, S, a, x, rfl, hS, ra, ho⟩
  · obtain ⟨a, _, x, _, rfl, rfl, ra, r, hl⟩ := Paired.step r hl
    obtain ⟨c, _, y, _, rfl, rfl, rc, r, hl⟩ := Paired.step r hl
    obtain ⟨rfl, rfl⟩ := Paired.last r hl
    exact .inr ⟨ι, S, a, c, x, y, rfl, hS, ra, rc, ho⟩
  · exact ho.elim
  · exact ho.elim

theorem best_eq {is : List Int} {i : Int} {r : List Int} (h : is = i :: r) {M : Int} (hm : M ∈ is) (hle : ∀ a ∈ is, M ≤ a) : M = r.foldl min i := by
  subst h
  obtain ⟨h1, h2⟩ := foldl_min_le r i
  have e1 : r.foldl min i ≤ M := by
    rcases List.mem_cons.mp hm with rfl | hm
    · exact h1
    · exact h2 M hm
  have e2 : M ≤ r.foldl min i := by
    rcases foldl_min_mem r i with h | h
    · rw [h]; exact hle i List.mem_cons_self
    · exact hle _ (List.mem_cons_of_mem _ h)
  omega
theorem best_eq' {is : List Int} {i : Int} {r : List Int} (h : is = i :: r) {M : Int} (hm : M ∈ is) (hle : ∀ a ∈ is, a ≤ M) : M = r.foldl max i := by
  subst h
  obtain ⟨h1, h2⟩ := foldl_max_le r i
  have e1 : M ≤ r.foldl max i := by
    rcases List.mem_cons.mp hm with rfl | hm
    · exact h1
    · exact h2 M hm
  have e2 : r.foldl max i ≤ M := by
    rcases foldl_max_mem r i with h | h
    · rw [h]; exact hle i List.mem_cons_self
    · exact hle _ (List.mem_cons_of_mem _ h)
  omega
theorem getD_in {is : List Int} {j : Nat} (h : j < is.length) : is.getD j 0 ∈ is := by
  rw [List.getD_eq_getElem?_getD, List.getElem?_eq_getElem h]
  exact List.getElem_mem h
theorem b_min (hK : Γ.K = X.K) (hc : X.calm = true) : CallR X (.builtin "min") (LeftN Γ xw (biD sub .min)) := by
  intro pins s σ H xs us Q I rs h
  rcases left_any rfl h with ⟨ι, S, a, x, rfl, hS, r, ho⟩ | ⟨ι, S, a, c, x, y, rfl, hS, r1, r2, ho⟩
  · obtain ⟨ds, q, ho⟩ := Out.items ho
    obtain ⟨is, q2, ho⟩ := Out.opt ho
    obtain ⟨_, p, ys, rfl, sq, rp, _⟩ := items_sq hS r q
    rw [ints_map q2] at rp
    have e := reps_ints rp
    subst e
    obtain ⟨u, rfl, ru⟩ := rs.one
    cases ru
    cases hi : is with
    | nil => rw [hi] at ho; exact ho.elim
    | cons i0 r0 =>
      rw [hi] at ho
      have fin : Q (.int (r0.foldl min i0)) H := Out.val ho hS (.int _)
      obtain ⟨its, rv, wk⟩ := walk_at hK I sq
      have hl : its.toArray.size = is.length := by rw [List.size_toArray, ← rv.length, List.length_map]
      refine call_min_walk (wk X.A.in1 _ _ (I.ok.hd hc) fun I0 fp St s2 W st fl inv => ⟨I0, fp, [I0], _, _, St, fun i j => decide (is.getD i 0 < is.getD j 0), rfl, W, st, fl, by rw [hl, hi]; simp, CmpOf.ints_lt (fun i => is.getD i 0) fun i v hv => vals_at rv hv, fun v h' tk hv hk => ?_⟩)
      obtain ⟨t, rfl⟩ := vals_at rv hv
      obtain ⟨h1, h2⟩ := argBest_lt (fun i => is.getD i 0) (its.toArray.size - 1)
      have hpos : 0 < is.length := by rw [hi]; simp
      have e : is.getD (argBest (fun i j => decide (is.getD i 0 < is.getD j 0)) (its.toArray.size - 1)) 0 = r0.foldl min i0 := best_eq hi (getD_in (by omega)) fun b hb => by
        obtain ⟨j, ej⟩ := List.getElem?_of_mem hb
        have hj := (List.getElem?_eq_some_iff.mp ej).1
        have := h2 j (by omega)
        rw [show is.getD j 0 = b by rw [List.getD_eq_getElem?_getD, ej]; rfl] at this
        exact this
      rw [e]
      exact ⟨.int _, H, inv h' tk hk, ⟨_, rfl⟩, fin⟩
  · cases a with
    | int i =>
      cases c with
      | int j => cases r1; cases r2; exact call_min2 hc pins s σ H _ us Q I rs ⟨i, j, rfl, Out.val ho hS (.int _)⟩
      | _ => exact ho.elim
    | _ => exact ho.elim
theorem b_max (hK : Γ.K = X.K) (hc : X.calm = true) : CallR X (.builtin "max") (LeftN Γ xw (biD sub .max)) := by
  intro pins s σ H xs us Q I rs h
  rcases left_any rfl h with ⟨ι, S, a, x, rfl, hS, r, ho⟩ | ⟨ι, S, a, c, x, y, rfl, hS, r1, r2, ho⟩
  · obtain ⟨ds, q, ho⟩ := Out.items ho
    obtain ⟨is, q2, ho⟩ := Out.opt ho
    obtain ⟨_, p, ys, rfl, sq, rp, _⟩ := items_sq hS r q
    rw [ints_map q2] at rp
    have e := reps_ints rp
    subst e
    obtain ⟨u, rfl, ru⟩ := rs.one
    cases ru
    cases hi : is with
    | nil => rw [hi] at ho; exact ho.elim
    | cons i0 r0 =>
      rw [hi] at ho
      have fin : Q (.int (r0.foldl max i0)) H := Out.val ho hS (.int _)
      obtain ⟨its, rv, wk⟩ := walk_at hK I sq
      have hl : its.toArray.size = is.length := by rw [List.size_toArray, ← rv.length, List.length_map]
      refine call_max_walk (wk X.A.in1 _ _ (I.ok.hd hc) fun I0 fp St s2 W st fl inv => ⟨I0, fp, [I0], _, _, St, fun i j => decide (is.getD i 0 > is.getD j 0), rfl, W, st, fl, by rw [hl, hi]; simp, CmpOf.ints_gt (fun i => is.getD i 0) fun i v hv => vals_at rv hv, fun v h' tk hv hk => ?_⟩)
      obtain ⟨t, rfl⟩ := vals_at rv hv
      obtain ⟨h1, h2⟩ := argBest_gt (fun i => is.getD i 0) (its.toArray.size - 1)
      have hpos : 0 < is.length := by rw [hi]; simp
      have e : is.getD (argBest (fun i j => decide (is.getD i 0 > is.getD j 0)) (its.toArray.size - 1)) 0 = r0.foldl max i0 := best_eq' hi (getD_in (by omega)) fun b hb => by
        obtain ⟨j, ej⟩ := List.getElem?_of_mem hb
        have hj := (List.getElem?_eq_some_iff.mp ej).1
        have := h2 j (by omega)
        rw [show is.getD j 0 = b by rw [List.getD_eq_getElem?_getD, ej]; rfl] at this
        exact this
      rw [e]
      exact ⟨.int _, H, inv h' tk hk, ⟨_, rfl⟩, fin⟩
  · cases a with
    | int i =>
      cases c with
      | int j => cases r1; cases r2; exact call_max2 hc pins s σ H _ us Q I rs ⟨i, j, rfl, Out.val ho hS (.int _)⟩
      | _ => exact ho.elim
    | _ => exact ho.elim
theorem b_tuple (hK : Γ.K = X.K) : CallR X (.type "tuple") (LeftN Γ xw (biD sub .tuple)) := by
  intro pins s σ H xs us Q I rs h
  obtain ⟨ι, S, a, x, rfl, hS, r, ho⟩ := left_one rfl (fun _ _ _ => rfl) h
  obtain ⟨ds, q, ho⟩ := Out.items ho
  obtain ⟨_, p, ys, rfl, sq, rp, _⟩ := items_sq hS r q
  rw [hK] at sq
  rcases sq with sq | sq
  · exact call_tuple_of pins s σ H _ us Q I rs ⟨p, ys, rfl, .inl ⟨sq, fun l hl => Out.tup ho hS hl rp⟩⟩
  · exact call_tuple_of pins s σ H _ us Q I rs ⟨p, ys, rfl, .inr ⟨sq, Out.val ho hS (.tup' (by rw [hK]; exact sq) rp)⟩⟩

/-! ### isinstance -/
noncomputable def Ty.name : Ty → Option String
  | .int => some "int" | .bool => some "bool" | .str => some "str" | .list => some "list" | .tuple => some "tuple" | .dict => some "dict" | .cls _ => none
theorem inst_any (hK : Γ.K = X.K) (I : Inv X pins σ H s) (hS : StOk Γ ι H S) {t : Ty} {T : String} (ht : t.name = some T) {d : D} {x : V} {v : Value} (r : Rep Γ ι H d x) (rx : RelV x v) {k : Bool} (h : tyOf sub S d t = some k) {A : Around} {E : Value → Shared → Prop} {Q : Value → Shared → Prop}
    (hq : ∀ tk, Q (.bool k) { s with toks := tk }) : wpAny (model X.prog X.w) A (call (.builtin "isinstance") [v, .type T]) Q E s := by
  have seqL : ∀ {a : Addr} {xs : List V}, SqL X.K H a xs → ∀ {b : Bool}, PySem.W.kitOne X.K (.type "list") (.type T) = some b → (∀ tk, Q (.bool b) { s with toks := tk }) → wpAny (model X.prog X.w) A (call (.builtin "isinstance") [.ref a, .type T]) Q E s := fun {a xs} sq {b} e hq => by
    obtain ⟨its, _, pl, _⟩ := I.list sq
    obtain ⟨o, h1, h2, _⟩ := pl.isList
    exact PySem.W.kia_one PySem.W.kitx_list I.kIn ⟨o, h1, h2⟩ e (fun z => nomatch z) hq
  cases d with
  | non => cases r; cases rx; cases t <;> cases ht <;> cases h <;> exact PySem.W.kia_one PySem.W.kitx_none I.kIn True.intro (by rfl) (fun z => nomatch z) hq
  | bl b => cases r; cases rx; cases t <;> cases ht <;> cases h <;> exact PySem.W.kia_one PySem.W.kitx_bool I.kIn True.intro (by rfl) (fun z => nomatch z) hq
  | int b => cases r; obtain ⟨tk, rfl⟩ := rx; cases t <;> cases ht <;> cases h <;> exact PySem.W.kia_one PySem.W.kitx_int I.kIn True.intro (by rfl) (fun z => nomatch z) hq
  | str b => cases r; obtain ⟨tk, rfl⟩ := rx; cases t <;> cases ht <;> cases h <;> exact PySem.W.kia_one PySem.W.kitx_str I.kIn True.intro (by rfl) (fun z => nomatch z) hq
  | tup ds =>
    obtain ⟨a, xs, rfl, sq, _⟩ := r.tup_inv
    cases rx
    rw [hK] at sq
    obtain ⟨its, _, pl, _⟩ := I.tuple sq
    obtain ⟨o, h1, h2, _⟩ := pl
    cases t <;> cases ht <;> cases h <;> exact PySem.W.kia_one PySem.W.kitx_tuple I.kIn ⟨o, h1, h2⟩ (by rfl) (fun z => nomatch z) hq
  | fro ds =>
    obtain ⟨a, xs, rfl, sq, _⟩ := r.fro_inv
    cases rx
    have sq := sq.sq
    rw [hK] at sq
    cases t <;> cases ht <;> cases h <;> exact seqL sq (by rfl) hq
  | loc l =>
    cases r with
    | loc ql =>
      cases rx
      simp only [tyOf] at h
      cases q : S[l]? with
      | none => rw [q] at h; cases t <;> cases ht <;> cases h
      | some c =>
        rw [q] at h
        cases c with
        | lst ds =>
          obtain ⟨a, xs, ha, hx, _⟩ := hS.lst q
          rw [ql] at ha; cases ha
          cases t <;> cases ht <;> cases h <;> exact seqL (.of hx) (by rfl) hq
        | dct kvs => obtain ⟨a, _, c⟩ := hS.cell l _ q; exact c.elim
  | exn c => cases r
end
end EV

set_option Elab.async false
set_option linter.all false
set_option maxRecDepth 100000
namespace EV
open PySem PySem.Spec PyProof.Rows L2
section
variable {X : Cx} {Γ : Gx} {xw : XW} {a b c : Expr} {ma mb mc : Sg → M D} {pos : Pos}

/-! ### leaves -/
theorem n_var {i : Nat} {x : Str} (hN : X.N[i]? = some x) (hv : Vis X.env.scope x) (hd : (x == ("__debug__" : Str)) = false) (hcd : (x == ("__classdict__" : Str)) = false) : PE X (.Name x pos) (tM Γ xw fun σ => varD σ i) :=
  PE.imp (pe_var hN hv hd hcd) fun σ H Q h => by
    obtain ⟨σd, ι, S, he, hs, ho⟩ := h
    have ho : Out Γ xw ι H (varD σd i S) fun d _ ι' H' => ∀ v, Rep Γ ι' H' d v → Q v H' := ho
    cases q : σd[i]? with
    | none => rw [show varD σd i S = .bad by unfold varD; rw [q]; rfl] at ho; exact ho.elim
    | some o =>
      cases o with
      | none => rw [show varD σd i S = .bad by unfold varD; rw [q]; rfl] at ho; exact ho.elim
      | some d =>
        rw [show varD σd i S = .ok d S by unfold varD; rw [q]; rfl] at ho
        obtain ⟨v, hv, r⟩ := he.var i d q
        exact ⟨v, hv, ho.here hs v r⟩
theorem n_val {e : Expr} {d : D} {v : V} (h : PE X e (tC v)) (r : ∀ ι H, Rep Γ ι H d v) : PE X e (tM Γ xw fun _ => pure d) :=
  PE.imp h fun σ H Q h => by
    obtain ⟨σd, ι, S, he, hs, ho⟩ := h
    exact ho.here hs v (r _ _)

/-! ### operations -/
theorem n_op {op : Operator} {f : D → D → M D} (ho : OpR X (binaryOp op) (Left2 Γ xw f)) (ha : PE X a (tM Γ xw ma)) (hb : PE X b (tM Γ xw mb)) : PE X (.BinOp a op b pos) (tM Γ xw fun σ => ma σ >>= fun x => mb σ >>= fun y => f x y) :=
  PE.imp (pe_op ho ha hb) fun _ _ _ h => two_of h
theorem n_cmp {op : CmpOp} {f : D → D → M D} (ho : OpR X (compareOp op) (Left2 Γ xw f)) (ha : PE X a (tM Γ xw ma)) (hb : PE X b (tM Γ xw mb)) (hm : behindInMarks op b = false) : PE X (.Compare a [op] [b] pos) (tM Γ xw fun σ => ma σ >>= fun x => mb σ >>= fun y => f x y) :=
  PE.imp (pe_cmpR ho ha hb hm) fun _ _ _ h => two_of h
theorem n_and {rest : List Expr} (ha : PE X a (tM Γ xw ma)) (hb : PE X (.BoolOp .And (b :: rest) pos) (tM Γ xw mb)) : PE X (.BoolOp .And (a :: b :: rest) pos) (tM Γ xw fun σ => ma σ >>= fun x => match x with | .bl true => mb σ | .bl false => pure (.bl false) | _ => bad) :=
  PE.imp (pe_and ha hb) fun σ H Q h => by
    obtain ⟨σd, ι, S, he, hs, ho⟩ := h
    refine ⟨σd, ι, S, he, hs, ho.bind.mono fun d S' ι' H' _ _ ⟨s', e', o'⟩ v r => ?_⟩
    cases d with
    | bl k =>
      cases r
      refine ⟨k, rfl, ?_⟩
      cases k with
      | true => rw [if_pos rfl]; exact ⟨σd, ι', S', he.ext e', s', o'⟩
      | false => rw [if_neg Bool.false_ne_true]; exact o'.here s' _ (.bl _)
    | _ => exact o'.elim
theorem n_or {rest : List Expr} (ha : PE X a (tM Γ xw ma)) (hb : PE X (.BoolOp .Or (b :: rest) pos) (tM Γ xw mb)) : PE X (.BoolOp .Or (a :: b :: rest) pos) (tM Γ xw fun σ => ma σ >>= fun x => match x with | .bl true => pure (.bl true) | .bl false => mb σ | _ => bad) :=
  PE.imp (pe_or ha hb) fun σ H Q h => by
    obtain ⟨σd, ι, S, he, hs, ho⟩ := h
    refine ⟨σd, ι, S, he, hs, ho.bind.mono fun d S' ι' H' _ _ ⟨s', e', o'⟩ v r => ?_⟩
    cases d with
    | bl k =>
      cases r
      refine ⟨k, rfl, ?_⟩
      cases k with
      | false => rw [if_neg Bool.false_ne_true]; exact ⟨σd, ι', S', he.ext e', s', o'⟩
      | true => rw [if_pos rfl]; exact o'.here s' _ (.bl _)
    | _ => exact o'.elim
theorem n_not (ha : PE X a (tM Γ xw ma)) : PE X (.UnaryOp .Not a pos) (tM Γ xw fun σ => ma σ >>= fun x => match x with | .bl b => pure (.bl (!b)) | _ => bad) :=
  PE.imp (pe_not ha) fun σ H Q h => by
    obtain ⟨σd, ι, S, he, hs, ho⟩ := h
    refine ⟨σd, ι, S, he, hs, ho.bind.mono fun d S' ι' H' _ _ ⟨s', e', o'⟩ v r => ?_⟩
    cases d with
    | bl k => cases r; exact ⟨k, rfl, o'.here s' _ (.bl _)⟩
    | _ => exact o'.elim
theorem n_neg (ha : PE X a (tM Γ xw ma)) : PE X (.UnaryOp .USub a pos) (tM Γ xw fun σ => ma σ >>= fun x => match x with | .int i => pure (.int (-i)) | _ => bad) :=
  PE.imp (pe_un un_neg ha) fun σ H Q h => by
    obtain ⟨σd, ι, S, he, hs, ho⟩ := h
    refine ⟨σd, ι, S, he, hs, ho.bind.mono fun d S' ι' H' _ _ ⟨s', e', o'⟩ v r => ?_⟩
    cases d with
    | int k => cases r; exact ⟨k, rfl, o'.here s' _ (.int _)⟩
    | _ => exact o'.elim
theorem n_chain {op op' : CmpOp} {f f' : D → D → M D} (ho : OpR X (compareOp op) (Left2 Γ xw f)) (ho' : OpR X (compareOp op') (Left2 Γ xw f')) (ha : PE X a (tM Γ xw ma)) (hb : PE X b (tM Γ xw mb)) (hc : PE X c (tM Γ xw mc)) (hm : lastMarks [op, op'] [b, c] = false) :
    PE X (.Compare a [op, op'] [b, c] pos) (tM Γ xw fun σ => ma σ >>= fun x => mb σ >>= fun y => f x y >>= fun r => match r with | .bl true => mc σ >>= fun z => f' y z | .bl false => pure (.bl false) | _ => bad) :=
  PE.imp (pe_chain ho ho' ha hb hc hm) fun σ H Q h => by
    obtain ⟨σd, ι, S, he, hs, ho⟩ := h
    refine ⟨σd, ι, S, he, hs, ho.bind.mono fun d S' ι' H' _ _ ⟨s', e', o'⟩ v r => ⟨σd, ι', S', he.ext e', s', o'.bind.mono fun d2 S2 ι2 H2 _ _ ⟨s2, e2, o2⟩ v2 r2 => ⟨ι2, S2, d, d2, s2, r.ext e2, r2, o2.bind.mono fun d3 S3 ι3 H3 _ _ ⟨s3, e3, o3⟩ v3 r3 => ?_⟩⟩⟩
    cases d3 with
    | bl k =>
      cases r3
      refine ⟨k, rfl, ?_⟩
      cases k with
      | true =>
        rw [if_pos rfl]
        exact ⟨σd, ι3, S3, (he.ext (e'.trans e2)).ext e3, s3, o3.bind.mono fun d4 S4 ι4 H4 _ _ ⟨s4, e4, o4⟩ v4 r4 => ⟨ι4, S4, d2, d4, s4, (r2.ext e3).ext e4, r4, o4⟩⟩
      | false => rw [if_neg Bool.false_ne_true]; exact o3.here s3 _ (.bl _)
    | _ => exact o3.elim

/-! ### tests -/
theorem t_truth {e : Expr} {m : Sg → M D} (hK : Γ.K = X.K) (h : PE X e (tM Γ xw m)) (he : ∀ whole, isTrue e X.env whole = (do let v ← whole; standAt e.pos; holding [v] (truthy v))) : PT X e (tMT Γ xw fun σ => m σ >>= truth) := by
  intro pins s σ H Q I hw
  obtain ⟨σd, ι, S, hE, hs, ho⟩ := hw
  refine isTrue_plain (thn (h pins s σ H (fun x H' => ∃ ι S d, StOk Γ ι H' S ∧ Rep Γ ι H' d x ∧ Out Γ xw ι H' (truth d S) fun b _ _ H' => Q b H') I ⟨σd, ι, S, hE, hs, ho.bind.mono fun d S' ι' H' _ _ ⟨s', e', o'⟩ v r => ⟨ι', S', d, s', r, o'⟩⟩) fun v s1 ⟨x, H1, I1, r1, q1⟩ => ?_) (he _)
  exact s_truth hK pins s1 σ H1 x v Q I1 r1 q1
theorem t_cmp {op : CmpOp} {f : D → D → M D} (hbl : ∀ x y S d S', f x y S = .ok d S' → ∃ k, d = .bl k) (ho : OpR X (compareOp op) (Left2 Γ xw f)) (ha : PE X a (tM Γ xw ma)) (hb : PE X b (tM Γ xw mb)) (hm : behindInMarks op b = false) :
    PT X (.Compare a [op] [b] pos) (tMT Γ xw fun σ => ma σ >>= fun x => mb σ >>= fun y => f x y >>= fun r => truth r) :=
  PT.imp (pt_cmpR ho ha hb hm) fun σ H Q h => by
    obtain ⟨σd, ι, S, he, hs, ho⟩ := h
    refine ⟨σd, ι, S, he, hs, ho.bind.mono fun d S' ι' H' _ _ ⟨s', e', o'⟩ v r => ⟨σd, ι', S', he.ext e', s', o'.bind.mono fun d2 S2 ι2 H2 _ _ ⟨s2, e2, o2⟩ v2 r2 => ⟨ι2, S2, d, d2, s2, r.ext e2, r2, ?_⟩⟩⟩
    cases q : f d d2 S2 with
    | bad => rw [bind_bad q] at o2; exact o2.elim
    | exc c S3 => rw [bind_exc q] at o2; exact o2
    | ok d3 S3 =>
      rw [bind_ok q] at o2
      obtain ⟨k, rfl⟩ := hbl _ _ _ _ _ q
      intro ι3 H3 e3 s3 v3 r3
      cases r3
      exact ⟨k, rfl, (o2.step e3).here s3⟩
theorem t_chain {op op' : CmpOp} {f f' : D → D → M D} (hbl : ∀ x y S d S', f x y S = .ok d S' → ∃ k, d = .bl k) (hbl' : ∀ x y S d S', f' x y S = .ok d S' → ∃ k, d = .bl k) (ho : OpR X (compareOp op) (Left2 Γ xw f)) (ho' : OpR X (compareOp op') (Left2 Γ xw f')) (ha : PE X a (tM Γ xw ma)) (hb : PE X b (tM Γ xw mb)) (hc : PE X c (tM Γ xw mc)) (hm : lastMarks [op, op'] [b, c] = false) :
    PT X (.Compare a [op, op'] [b, c] pos) (tMT Γ xw fun σ => ma σ >>= fun x => mb σ >>= fun y => f x y >>= fun r => truth r >>= fun k => if k = true then mc σ >>= fun z => f' y z >>= fun q => truth q else pure false) :=
  PT.imp (pt_chain ho ho' ha hb hc hm) fun σ H Q h => by
    obtain ⟨σd, ι, S, he, hs, ho⟩ := h
    refine ⟨σd, ι, S, he, hs, ho.bind.mono fun d S' ι' H' _ _ ⟨s', e', o'⟩ v r => ⟨σd, ι', S', he.ext e', s', o'.bind.mono fun d2 S2 ι2 H2 _ _ ⟨s2, e2, o2⟩ v2 r2 => ⟨ι2, S2, d, d2, s2, r.ext e2, r2, ?_⟩⟩⟩
    cases q : f d d2 S2 with
    | bad => rw [bind_bad q] at o2; exact o2.elim
    | exc c S3 => rw [bind_exc q] at o2; exact o2
    | ok d3 S3 =>
      rw [bind_ok q] at o2
      obtain ⟨k, rfl⟩ := hbl _ _ _ _ _ q
      intro ι3 H3 e3 s3 v3 r3
      cases r3
      refine ⟨k, rfl, ?_⟩
      have o3 := o2.step e3
      cases k with
      | false => rw [if_neg Bool.false_ne_true]; exact ⟨false, rfl, o3.here s3⟩
      | true =>
        rw [if_pos rfl]
        have o3 : Out Γ xw ι3 H3 ((mc σd >>= fun z => f' d2 z >>= fun q => truth q) S3) _ := o3
        refine ⟨σd, ι3, S3, (he.ext (e'.trans e2)).ext e3, s3, o3.bind.mono fun d4 S4 ι4 H4 _ _ ⟨s4, e4, o4⟩ v4 r4 => ⟨ι4, S4, d2, d4, s4, (r2.ext e3).ext e4, r4, ?_⟩⟩
        cases q4 : f' d2 d4 S4 with
        | bad => rw [bind_bad q4] at o4; exact o4.elim
        | exc c S5 => rw [bind_exc q4] at o4; exact o4
        | ok d5 S5 =>
          rw [bind_ok q4] at o4
          obtain ⟨k5, rfl⟩ := hbl' _ _ _ _ _ q4
          intro ι5 H5 e5 s5 v5 r5
          cases r5
          exact ⟨k5, rfl, (o4.step e5).here s5⟩
variable {na nb : Sg → M Bool}
theorem t_and {rest : List Expr} (ha : PT X a (tMT Γ xw na)) (hb : PW X (.BoolOp .And (b :: rest) pos) (tMT Γ xw nb)) : PW X (.BoolOp .And (a :: b :: rest) pos) (tMT Γ xw fun σ => na σ >>= fun k => if k = true then nb σ else pure false) :=
  PW.imp (pw_and ha hb) fun σ H Q h => by
    obtain ⟨σd, ι, S, he, hs, ho⟩ := h
    refine ⟨σd, ι, S, he, hs, ho.bind.mono fun k S' ι' H' _ _ ⟨s', e', o'⟩ => ?_⟩
    cases k with
    | true => rw [if_pos rfl]; exact ⟨σd, ι', S', he.ext e', s', o'⟩
    | false => rw [if_neg Bool.false_ne_true]; exact o'.here s'
theorem t_or {rest : List Expr} (ha : PT X a (tMT Γ xw na)) (hb : PW X (.BoolOp .Or (b :: rest) pos) (tMT Γ xw nb)) : PW X (.BoolOp .Or (a :: b :: rest) pos) (tMT Γ xw fun σ => na σ >>= fun k => if k = true then pure true else nb σ) :=
  PW.imp (pw_or ha hb) fun σ H Q h => by
    obtain ⟨σd, ι, S, he, hs, ho⟩ := h
    refine ⟨σd, ι, S, he, hs, ho.bind.mono fun k S' ι' H' _ _ ⟨s', e', o'⟩ => ?_⟩
    cases k with
    | false => rw [if_neg Bool.false_ne_true]; exact ⟨σd, ι', S', he.ext e', s', o'⟩
    | true => rw [if_pos rfl]; exact o'.here s'
theorem t_not (ha : PT X a (tMT Γ xw na)) : PT X (.UnaryOp .Not a pos) (tMT Γ xw fun σ => na σ >>= fun k => pure (!k)) :=
  PT.imp (pt_not ha) fun σ H Q h => by
    obtain ⟨σd, ι, S, he, hs, ho⟩ := h
    exact ⟨σd, ι, S, he, hs, ho.bind.mono fun k S' ι' H' _ _ ⟨s', e', o'⟩ => o'.here s'⟩
theorem n_ite (hc : PT X c (tMT Γ xw na)) (ha : PE X a (tM Γ xw ma)) (hb : PE X b (tM Γ xw mb)) : PE X (.IfExp c a b pos) (tM Γ xw fun σ => na σ >>= fun k => if k = true then ma σ else mb σ) :=
  PE.imp (pe_ifExp hc ha hb) fun σ H Q h => by
    obtain ⟨σd, ι, S, he, hs, ho⟩ := h
    refine ⟨σd, ι, S, he, hs, ho.bind.mono fun k S' ι' H' _ _ ⟨s', e', o'⟩ => ?_⟩
    cases k with
    | true => rw [if_pos rfl]; exact ⟨σd, ι', S', he.ext e', s', o'⟩
    | false => rw [if_neg Bool.false_ne_true]; exact ⟨σd, ι', S', he.ext e', s', o'⟩

/-! ### lists of expressions -/
theorem a_nil : PA X [] (tMA Γ xw fun _ => pure []) :=
  PA.imp pa_nil fun σ H Q h => by
    obtain ⟨σd, ι, S, he, hs, ho⟩ := h
    exact ho.here hs [] .nil
theorem a_cons {es : List Expr} {m : Sg → M (List D)} (ha : PE X a (tM Γ xw ma)) (hr : PA X es (tMA Γ xw m)) (hs : starEach (a :: es) X.env = (false, eval a X.env) :: starEach es X.env) : PA X (a :: es) (tMA Γ xw fun σ => ma σ >>= fun x => m σ >>= fun xs => pure (x :: xs)) :=
  PA.imp (pa_cons ha hr hs) fun σ H Q h => by
    obtain ⟨σd, ι, S, he, hs, ho⟩ := h
    exact ⟨σd, ι, S, he, hs, ho.bind.mono fun d S' ι' H' _ _ ⟨s', e', o'⟩ v r => ⟨σd, ι', S', he.ext e', s', o'.bind.mono fun ds S2 ι2 H2 _ _ ⟨s2, e2, o2⟩ vs rs => o2.here s2 _ (.cons (r.ext e2) rs)⟩⟩
theorem n_tup {es : List Expr} {k : Nat} {m : Sg → M (List D)} (h : PA X es (tMA Γ xw m)) : PE X (.Tuple es k pos) (tM Γ xw fun σ => m σ >>= fun ds => guard (fits ds.length) (pure (.tup ds))) :=
  PE.imp (pe_tup h) fun σ H Q h => by
    obtain ⟨σd, ι, S, he, hs, ho⟩ := h
    refine ⟨σd, ι, S, he, hs, ho.bind.mono fun ds S' ι' H' _ _ ⟨s', e', o'⟩ vs rs => ?_⟩
    obtain ⟨hz, o'⟩ := Out.guard o'
    exact ⟨by rw [← rs.length]; exact fits_le hz, fun p hp => Out.tup o' s' hp rs⟩
theorem n_lst {es : List Expr} {m : Sg → M (List D)} (h : PA X es (tMA Γ xw m)) : PE X (.List es pos) (tM Γ xw fun σ => m σ >>= fun ds => guard (fits ds.length) (alloc (.lst ds))) :=
  PE.imp (pe_lst h) fun σ H Q h => by
    obtain ⟨σd, ι, S, he, hs, ho⟩ := h
    refine ⟨σd, ι, S, he, hs, ho.bind.mono fun ds S' ι' H' _ _ ⟨s', e', o'⟩ vs rs => ?_⟩
    obtain ⟨hz, o'⟩ := Out.guard o'
    exact ⟨by rw [← rs.length]; exact fits_le hz, fun p hp => Out.alloc o' s' hp rs⟩
theorem n_ix (hK : Γ.K = X.K) (ha : PE X a (tM Γ xw ma)) (hb : PE X b (tM Γ xw mb)) (hs : PlainIx b) : PE X (.Subscript a b pos) (tM Γ xw fun σ => ma σ >>= fun x => mb σ >>= fun y => ixD x y) :=
  PE.imp (pe_ix (s_ix hK) ha hb hs) fun _ _ _ h => two_of h
/-- a part of a slice -/
noncomputable def tMO (Γ : Gx) (xw : XW) (m : Sg → M (Option Int)) : TO := fun σ H Q => ∃ σd ι S, EnvOk Γ ι H σ σd ∧ StOk Γ ι H S ∧ Out Γ xw ι H (m σd S) fun o _ _ H' => Q o H'
theorem PO.imp {e : Option Expr} {t t' : TO} (h : PO X e t) (f : ∀ σ H Q, t' σ H Q → t σ H Q) : PO X e t' := fun pins s σ H Q I q => h pins s σ H Q I (f σ H Q q)
theorem o_none : PO X none (tMO Γ xw fun _ => pure none) := PO.imp po_none fun σ H Q h => by
  obtain ⟨σd, ι, S, he, hs, ho⟩ := h
  exact ho.here hs
theorem o_some (ha : PE X a (tM Γ xw ma)) : PO X (some a) (tMO Γ xw fun σ => ma σ >>= partOf) := PO.imp (po_some ha) fun σ H Q h => by
  obtain ⟨σd, ι, S, he, hs, ho⟩ := h
  refine ⟨σd, ι, S, he, hs, ho.bind.mono fun d S' ι' H' _ _ ⟨s', e', o'⟩ v r => ?_⟩
  cases d with
  | int i => cases r; exact ⟨i, rfl, o'.here s'⟩
  | _ => exact o'.elim
theorem n_sl {lo hi : Option Expr} {ml mh : Sg → M (Option Int)} {p2 : Pos} (hK : Γ.K = X.K) (ha : PE X a (tM Γ xw ma)) (hl : PO X lo (tMO Γ xw ml)) (hh : PO X hi (tMO Γ xw mh)) :
    PE X (.Subscript a (.Slice lo hi none p2) pos) (tM Γ xw fun σ => ma σ >>= fun x => ml σ >>= fun l => mh σ >>= fun h => slD x l h) :=
  PE.imp (pe_slice (s_sl hK) ha hl hh) fun σ H Q h => by
    obtain ⟨σd, ι, S, he, hs, ho⟩ := h
    exact ⟨σd, ι, S, he, hs, ho.bind.mono fun d S' ι' H' _ _ ⟨s', e', o'⟩ v r => ⟨σd, ι', S', he.ext e', s', o'.bind.mono fun l S2 ι2 H2 _ _ ⟨s2, e2, o2⟩ => ⟨σd, ι2, S2, (he.ext e').ext e2, s2, o2.bind.mono fun u S3 ι3 H3 _ _ ⟨s3, e3, o3⟩ => ⟨ι3, S3, d, s3, (r.ext e2).ext e3, o3⟩⟩⟩⟩

/-! ### calls -/
theorem n_bi {id : String} {x : Str} {p : Pos} {es : List Expr} {m : Sg → M (List D)} {f : List D → M D} (hc : CallR X (.builtin id) (LeftN Γ xw f)) (hg : Gl X x) (hm : X.mg x = none) (hv : bootBuiltins x = some (.builtin id)) (ha : PA X (a :: es) (tMA Γ xw m)) (hn : x ≠ "__name__") (hdb : (x == ("__debug__" : Str)) = false)
    (he : starEach (a :: es) X.env = (false, eval a X.env) :: starEach es X.env) (hpl : (backTo pos (starEach es X.env)).any (·.1) = false) : PE X (.Call (.Name x p) (a :: es) [] pos) (tM Γ xw fun σ => m σ >>= f) :=
  PE.imp (pe_callB hc hg hm hv ha hn hdb he hpl) fun _ _ _ h => args_of h
theorem n_ty {T : String} {x : Str} {p : Pos} {es : List Expr} {m : Sg → M (List D)} {f : List D → M D} (hc : CallR X (.type T) (LeftN Γ xw f)) (hg : Gl X x) (hm : X.mg x = none) (hv : bootBuiltins x = some (.type T)) (ha : PA X (a :: es) (tMA Γ xw m)) (hn : x ≠ "__name__") (hdb : (x == ("__debug__" : Str)) = false)
    (he : starEach (a :: es) X.env = (false, eval a X.env) :: starEach es X.env) (hpl : (backTo pos (starEach es X.env)).any (·.1) = false) : PE X (.Call (.Name x p) (a :: es) [] pos) (tM Γ xw fun σ => m σ >>= f) :=
  PE.imp (pe_callTy hc hg hm hv ha hn hdb he hpl) fun _ _ _ h => args_of h
/-- isinstance(e, T) -/
theorem n_inst {sub : Sub} {t : Ty} {T : String} {x y : Str} {p p' : Pos} (hK : Γ.K = X.K) (ht : t.name = some T) (hg : Gl X x) (hm : X.mg x = none) (hv : bootBuiltins x = some (.builtin "isinstance")) (hg' : Gl X y) (hm' : X.mg y = none) (hv' : bootBuiltins y = some (.type T)) (ha : PE X a (tM Γ xw ma))
    (hn : x ≠ "__name__") (hdb : (x == ("__debug__" : Str)) = false) (hn' : y ≠ "__name__") (hdb' : (y == ("__debug__" : Str)) = false) (hst : starEach [a, .Name y p'] X.env = (false, eval a X.env) :: starEach [.Name y p'] X.env) :
    PE X (.Call (.Name x p) [a, .Name y p'] [] pos) (tM Γ xw fun σ => ma σ >>= fun d => instM sub t d) := by
  have hy : PE X (.Name y p') (tC (.ty T)) := pe_bltn hg' hm' hv' rfl hn' hdb'
  have hc : CallR X (.builtin "isinstance") (fun xs H Q => ∃ x, xs = [x, .ty T] ∧ Left1 Γ xw (instM sub t) x H Q) := by
    intro pins s σ H xs us Q I rs h
    obtain ⟨x, rfl, ι, S, d, hS, r, ho⟩ := h
    obtain ⟨u1, u2, rfl, r1, r2⟩ := rs.two
    cases r2
    unfold instM at ho
    cases q : tyOf sub S d t with
    | none => rw [q] at ho; exact ho.elim
    | some k =>
      rw [q] at ho
      exact inst_any hK I hS ht r r1 q fun tk => ⟨.bl k, H, I.tok _, rfl, Out.val ho hS (.bl _)⟩
  refine PE.imp (pe_callB hc hg hm hv (pa_cons ha (pa_cons hy pa_nil rfl) hst) hn hdb hst rfl) fun σ H Q h => ?_
  obtain ⟨σd, ι, S, he, hs, ho⟩ := h
  exact ⟨σd, ι, S, he, hs, ho.bind.mono fun d S' ι' H' _ _ ⟨s', e', o'⟩ v r => ⟨v, rfl, ι', S', d, s', r, o'⟩⟩
end
end EV

set_option Elab.async false
set_option linter.all false
set_option maxRecDepth 100000
namespace EV
open PySem PySem.Spec PyProof.Rows L2
section
variable {X : Cx} {Γ : Gx} {xw : XW} {ι ι' : List Addr} {H H' : Hp} {S : Store} {σ : L2.St}

theorem Rep.move (hp : ι <+: ι') (ht : ∀ a xs, H a = some (.tup xs) → H' a = some (.tup xs)) (hf : ∀ a o u, H a = some (.frz o u) → H' a = some (.frz o u)) {d : D} {v : V} (h : Rep Γ ι H d v) : Rep Γ ι' H' d v := by
  induction h with
  | non => exact .non
  | bl b => exact .bl b
  | int i => exact .int i
  | str x => exact .str x
  | tup h1 h2 h3 ih =>
    refine .tup ?_ h2 ih
    rcases h1 with (h | ⟨o, h⟩) | h
    · exact .inl (.inl (ht _ _ h))
    · exact .inl (.inr ⟨o, hf _ _ _ h⟩)
    · exact .inr h
  | fro h1 h2 h3 ih =>
    refine .fro ?_ h2 ih
    rcases h1 with ⟨o, h⟩ | h
    · exact .inl ⟨o, hf _ _ _ h⟩
    · exact .inr h
  | loc h => exact .loc (prefix_get hp h)
/-- a list is written -/
theorem kp_tup {a : Addr} {xs ys : List V} (h : H a = some (.lst xs)) : ∀ b zs, H b = some (.tup zs) → upd H a (.lst ys) b = some (.tup zs) := fun b zs e => by
  rw [upd_ne (ne_of e h (by intro z; cases z))]; exact e
theorem kp_frz {a : Addr} {xs ys : List V} (h : H a = some (.lst xs)) : ∀ b o u, H b = some (.frz o u) → upd H a (.lst ys) b = some (.frz o u) := fun b o u e => by
  rw [upd_ne (ne_of e h (by intro z; cases z))]; exact e
theorem Rep.write {a : Addr} {xs ys : List V} (h : H a = some (.lst xs)) {d : D} {v : V} (r : Rep Γ ι H d v) : Rep Γ ι (upd H a (.lst ys)) d v := r.move (List.prefix_refl _) (kp_tup h) (kp_frz h)
theorem Reps.write {a : Addr} {xs ys : List V} (h : H a = some (.lst xs)) {ds : List D} {vs : List V} (r : Reps Γ ι H ds vs) : Reps Γ ι (upd H a (.lst ys)) ds vs := Paired.imp (fun _ _ r => Rep.write h r) r
theorem EnvOk.write {a : Addr} {xs ys : List V} (h : H a = some (.lst xs)) {σd : Sg} (e : EnvOk Γ ι H σ σd) : EnvOk Γ ι (upd H a (.lst ys)) σ σd := ⟨e.len, fun i d q => let ⟨v, e1, r⟩ := e.var i d q; ⟨v, e1, r.write h⟩⟩
theorem Ext.write {a : Addr} {xs ys : List V} (h : H a = some (.lst xs)) (hm : a ∈ ι) : Ext ι ι H (upd H a (.lst ys)) :=
  ⟨List.prefix_refl _, kp_tup h, kp_frz h, fun b o e n => by rw [upd_ne (fun z => n (by rw [z]; exact hm))]; exact e, fun _ h n => absurd h n⟩
theorem StOk.write (hS : StOk Γ ι H S) {l : Nat} {a : Addr} {xs ys : List V} {es ds : List D} (hl : S[l]? = some (.lst es)) (ha : ι[l]? = some a) (h : H a = some (.lst xs)) (r : Reps Γ ι H ds ys) : StOk Γ ι (upd H a (.lst ys)) (S.set l (.lst ds)) := by
  refine ⟨by rw [List.length_set]; exact hS.len, hS.nd, fun m c hm => ?_⟩
  by_cases e : m = l
  · subst e
    rw [List.getElem?_set_self (List.getElem?_eq_some_iff.mp hl).1] at hm
    cases hm
    exact ⟨a, ha, ys, upd_same, Reps.write h r⟩
  · rw [List.getElem?_set_ne (Ne.symm e)] at hm
    obtain ⟨b, hb, c1⟩ := hS.cell m c hm
    have hne : b ≠ a := fun z => e (nodup_get hS.nd hb (z ▸ ha))
    refine ⟨b, hb, ?_⟩
    cases c with
    | lst zs => obtain ⟨ws, hw, rw'⟩ := c1; exact ⟨ws, by rw [upd_ne hne]; exact hw, Reps.write h rw'⟩
    | dct kvs => exact c1
/-- a list that is none of ours is written -/
theorem StOk.other (hS : StOk Γ ι H S) {a : Addr} {xs ys : List V} (h : H a = some (.lst xs)) (hn : a ∉ ι) : StOk Γ ι (upd H a (.lst ys)) S :=
  ⟨hS.len, hS.nd, fun m c hm => by
    obtain ⟨b, hb, c1⟩ := hS.cell m c hm
    have hne : b ≠ a := fun z => hn (z ▸ List.mem_of_getElem? hb)
    refine ⟨b, hb, ?_⟩
    cases c with
    | lst zs => obtain ⟨ws, hw, rw'⟩ := c1; exact ⟨ws, by rw [upd_ne hne]; exact hw, Reps.write h rw'⟩
    | dct kvs => exact c1⟩
theorem EnvOk.set {σd : Sg} (e : EnvOk Γ ι H σ σd) (i : Nat) {d : D} {v : V} (r : Rep Γ ι H d v) : EnvOk Γ ι H (σ.set i (some v)) (σd.set i (some d)) := by
  refine ⟨by rw [List.length_set, List.length_set]; exact e.len, fun j d' h => ?_⟩
  by_cases hij : j = i
  · subst hij
    have hj : j < σd.length := by
      have := (List.getElem?_eq_some_iff.mp h).1
      rw [List.length_set] at this; exact this
    rw [List.getElem?_set_self hj] at h
    cases h
    exact ⟨v, by rw [List.getElem?_set_self (by rw [e.len]; exact hj)], r⟩
  · rw [List.getElem?_set_ne (Ne.symm hij)] at h
    obtain ⟨w, hw, rw'⟩ := e.var j d' h
    exact ⟨w, by rw [List.getElem?_set_ne (Ne.symm hij)]; exact hw, rw'⟩
theorem EnvOk.more {σd : Sg} (e : EnvOk Γ ι H σ σd) (k : Nat) : EnvOk Γ ι H (σ ++ List.replicate k none) (σd ++ List.replicate k none) := by
  refine ⟨by simp [e.len], fun j d h => ?_⟩
  by_cases hj : j < σd.length
  · rw [List.getElem?_append_left hj] at h
    obtain ⟨w, hw, r⟩ := e.var j d h
    exact ⟨w, by rw [List.getElem?_append_left (by rw [e.len]; exact hj)]; exact hw, r⟩
  · rw [List.getElem?_append_right (by omega), List.getElem?_replicate] at h
    split at h <;> cases h

/-! ### append, extend -/
theorem m_append : MtR X "list.append" (fun x xs H Q => ∃ ι S dx ds, StOk Γ ι H S ∧ Rep Γ ι H dx x ∧ Reps Γ ι H ds xs ∧ Out Γ xw ι H (meD .append dx ds S) fun d _ ι' H' => ∀ v, Rep Γ ι' H' d v → Q v H') := by
  intro pins s σ H x xs v us Q I rx rs h
  obtain ⟨ι, S, dx, ds, hS, r1, r2, ho⟩ := h
  match ds, r2 with
  | [], _ => exact ho.elim
  | _ :: _ :: _, _ => exact ho.elim
  | [d], .cons (b := y) rd .nil =>
    cases dx with
    | loc l =>
      obtain ⟨es, e, ho⟩ := Out.onLst ho
      obtain ⟨hz, ho⟩ := Out.guard ho
      obtain ⟨a, ws, ha, hx, p⟩ := hS.lst e
      cases r1 with
      | loc q =>
        rw [ha] at q; cases q
        refine mt_append pins s σ H _ _ v us Q I rx rs ⟨a, ws, y, rfl, rfl, hx, by rw [← p.length]; exact fits1_lt hz, ?_⟩
        exact ho ι _ (Ext.write hx (List.mem_of_getElem? ha)) (hS.write e ha hx (Paired.app p (.cons rd .nil))) _ .non
    | _ => exact ho.elim
theorem n_me {o a : Expr} {es : List Expr} {me : Me} {name : Str} {apos cpos : Pos} {id : String} {mo : Sg → M D} {m : Sg → M (List D)} (hK : Γ.K = X.K) (pa : PlainAttrs "list") (slot : Slot "list" name id) (hty : typeOf (.builtin id) = pure (.type "method_descriptor"))
    (hm : MtR X id (fun x xs H Q => ∃ ι S dx ds, StOk Γ ι H S ∧ Rep Γ ι H dx x ∧ Reps Γ ι H ds xs ∧ Out Γ xw ι H (meD me dx ds S) fun d _ ι' H' => ∀ v, Rep Γ ι' H' d v → Q v H')) (ho : PE X o (tM Γ xw mo)) (ha : PA X (a :: es) (tMA Γ xw m))
    (hbase : attributeBase o name X.env (eval o X.env) = eval o X.env)
    (hfew : ((backTo cpos (starEach (a :: es) X.env)).all (fun x => !x.1) && (backToKw cpos (keywordEach [] X.env)).all (fun x => x.1.isSome) && decide ((a :: es).length + ([] : List Keyword).length + (if ([] : List Keyword).isEmpty then 0 else 1) < 30)) = true)
    (hline : (apos.endLine == cpos.line) = true) (hs : starEach (a :: es) X.env = (false, eval a X.env) :: starEach es X.env) (hplain : (backTo cpos (starEach es X.env)).any (·.1) = false) :
    PE X (.Call (.Attribute o name apos) (a :: es) [] cpos) (tM Γ xw fun σ => mo σ >>= fun x => guard x.isLoc (m σ >>= fun ds => meD me x ds)) :=
  PE.imp (pe_bm pa slot hty hm ho ha hbase hfew hline hs hplain) fun σ H Q h => by
    obtain ⟨σd, ι, S, he, hs, ho⟩ := h
    refine ⟨σd, ι, S, he, hs, ho.bind.mono fun d S' ι' H' _ _ ⟨s', e', o'⟩ v r => ?_⟩
    obtain ⟨hl, o'⟩ := Out.guard o'
    cases d with
    | loc l =>
      have r0 := r
      cases r with
      | loc q =>
        have hlt : l < S'.length := by rw [← s'.len]; exact (List.getElem?_eq_some_iff.mp q).1
        obtain ⟨b, hb, c⟩ := s'.cell l S'[l] (List.getElem?_eq_getElem hlt)
        rw [q] at hb; cases hb
        cases e : S'[l] with
        | lst ds =>
          rw [e] at c
          obtain ⟨xs, hx, _⟩ := c
          refine ⟨.inl ⟨rfl, xs, .of hx⟩, σd, ι', S', he.ext e', s', o'.bind.mono fun ds S2 ι2 H2 _ _ ⟨s2, e2, o2⟩ vs rs => ⟨ι2, S2, .loc l, ds, s2, r0.ext e2, rs, o2⟩⟩
        | dct kvs => rw [e] at c; exact c.elim
    | _ => exact absurd hl Bool.false_ne_true
end
end EV

set_option Elab.async false
set_option linter.all false
set_option maxRecDepth 100000
namespace EV
open PySem PySem.Spec PyProof.Rows L2

/-! ### what is walked -/
noncomputable def SrcOk (Γ : Gx) (src : Src) (J : It) (ι0 : List Addr) (H0 : Hp) : Prop := ∀ ι H S, Ext ι0 ι H0 H → StOk Γ ι H S → still src S = .ok () S →
  (∀ (i : Nat) d, src.its[i]? = some d → J.go i H ∧ ∀ x H', J.yld i H x H' → Ext ι ι H H' ∧ StOk Γ ι H' S ∧ Rep Γ ι H' d x) ∧ J.stop src.its.length H
noncomputable def tMI (Γ : Gx) (xw : XW) (m : Sg → M Src) : TI := fun σ H R => ∃ σd ι S, EnvOk Γ ι H σ σd ∧ StOk Γ ι H S ∧ Out Γ xw ι H (m σd S) fun src _ ι' H' => ∀ J, SrcOk Γ src J ι' H' → R J H'
theorem still_res (src : Src) (S : Store) : still src S = .ok () S ∨ still src S = .bad := by
  unfold still
  cases src.l with
  | none => exact .inl rfl
  | some l =>
    dsimp only
    cases listAt S l with
    | none => exact .inr rfl
    | some ds =>
      by_cases h : ds = src.raw
      · exact .inl (by simp only [h, decide_true]; rfl)
      · exact .inr (by simp only [h, decide_false]; rfl)
section
variable {X : Cx} {Γ : Gx} {xw : XW} {tg a : Expr} {ma : Sg → M D} {pos : Pos}
theorem PI.imp {iter : Expr} {t t' : TI} (h : PI X tg iter t) (f : ∀ σ H R, t' σ H R → t σ H R) : PI X tg iter t' := fun pins s σ H R I q => h pins s σ H R I (f σ H R q)
noncomputable def iSq (K : PySem.W.Frag) (tl : TE) : TI := fun σ H R => tl σ H fun x H1 => ∃ a, x = .ref a ∧ (((∃ xs, SqL K H1 a xs) ∧ R (Itl K a) H1) ∨ ((∃ xs, SqT K H1 a xs) ∧ R (Itt K a) H1))
theorem pi_sq {l : Expr} {tl : TE} (hl : PE X l tl) : PI X tg l (iSq X.K tl) := by
  intro pins s σ H R I h
  refine thn (hl pins s σ H _ I h) fun v s1 ⟨x, H1, I1, r1, q1⟩ => ?_
  obtain ⟨a, e, q1⟩ := q1
  subst e
  cases r1
  rcases q1 with ⟨⟨xs, hq⟩, q⟩ | ⟨⟨xs, hq⟩, q⟩
  · have hc : PE X l (fun σ H Q => True → True → tl σ H Q) := fun pins s σ H Q I h => hl pins s σ H Q I (h trivial trivial)
    obtain ⟨its, rv, p, hz⟩ := I1.list hq
    refine wpAny_pyIter_list p.isList ?_
    refine ⟨s1.heap.objs.size, [s1.heap.objs.size], _, _, H1, rfl, I1.kept (t' := s1.toks) fun b o e => Heap.get?_push_of_some _ e, turn_list a _, ⟨_, Heap.get?_push_size _ rfl, rfl, rfl⟩, fun b hb => ?_, q⟩
    have e : b = s1.heap.objs.size := by simpa using hb
    subst e
    exact I1.fpOk (Nat.le_refl _) (I1.hok.fresh (Nat.le_refl _))
  · obtain ⟨its, rv, p, hz⟩ := I1.tuple hq
    refine wpAny_pyIter_tuple (show s1.heap.IsTuple a its.toArray from p) ?_
    refine ⟨s1.heap.objs.size, [s1.heap.objs.size], _, _, H1, rfl, I1.kept (t' := s1.toks) fun b o e => Heap.get?_push_of_some _ e, turn_tuple a _, ⟨_, Heap.get?_push_size _ rfl, rfl, rfl⟩, fun b hb => ?_, q⟩
    have e : b = s1.heap.objs.size := by simpa using hb
    subst e
    exact I1.fpOk (Nat.le_refl _) (I1.hok.fresh (Nat.le_refl _))
/-- a list's items as they stand -/
theorem sq_still {ι : List Addr} {H : Hp} {S : Store} {d : D} {v : V} {src : Src} {S' : Store} (hS : StOk Γ ι H S) (r : Rep Γ ι H d v) (h : srcOf d S = .ok src S') : S' = S ∧ src.its = src.raw ∧ still src S = .ok () S ∧ ∃ a tup, v = .ref a ∧ (∃ xs, SqB Γ.K H tup a xs) ∧
    ∀ ι1 H1 S1, Ext ι ι1 H H1 → StOk Γ ι1 H1 S1 → still src S1 = .ok () S1 → ∃ xs, SqB Γ.K H1 tup a xs ∧ Reps Γ ι1 H1 src.raw xs := by
  cases d with
  | tup ds =>
    cases h
    obtain ⟨a, xs, e, t, p⟩ := r.tup_inv
    exact ⟨rfl, rfl, rfl, a, true, e, ⟨xs, t⟩, fun ι1 H1 S1 e1 _ _ => ⟨xs, e1.sqT t, Reps.ext e1 p⟩⟩
  | fro ds =>
    cases h
    obtain ⟨a, xs, e, t, p⟩ := r.fro_inv
    exact ⟨rfl, rfl, rfl, a, false, e, ⟨xs, t.sq⟩, fun ι1 H1 S1 e1 _ _ => ⟨xs, (e1.fro t).sq, Reps.ext e1 p⟩⟩
  | loc l =>
    have h : (items (.loc l) >>= fun ds => pure (⟨ds, some l, ds⟩ : Src)) S = .ok src S' := h
    rcases items_res (.loc l) S with ⟨ds, e⟩ | e
    · rw [bind_ok e] at h
      cases h
      obtain ⟨_, a, xs, e2, _, p, t⟩ := items_sq hS r e
      subst e2
      have hl : listAt S l = some ds := by
        rw [items_of] at e
        cases q : listAt S l with
        | none => rw [q] at e; cases e
        | some es => rw [q] at e; cases e; rfl
      refine ⟨rfl, rfl, ?_, a, false, rfl, ⟨xs, t l rfl⟩, fun ι1 H1 S1 e1 s1 st => ?_⟩
      · unfold still; simp only [hl, decide_true]; rfl
      · have hl1 : listAt S1 l = some ds := by
          unfold still at st
          dsimp only at st
          cases q : listAt S1 l with
          | none => rw [q] at st; cases st
          | some es =>
            rw [q] at st
            by_cases h : es = ds
            · rw [h]
            · simp only [h, decide_false] at st; cases st
        obtain ⟨b, ys, e3, sb, p1⟩ := s1.list (r.ext e1) (show asL S1 (.loc l) = some ds from hl1)
        cases e3
        exact ⟨ys, sb, p1⟩
    · rw [bind_bad e] at h; cases h
  | _ => cases h
theorem srcOf_res (d : D) (S : Store) : (∃ src, srcOf d S = .ok src S) ∨ srcOf d S = .bad := by
  cases d with
  | tup ds => exact .inl ⟨_, rfl⟩
  | fro ds => exact .inl ⟨_, rfl⟩
  | loc l =>
    show (∃ src, (items (.loc l) >>= fun ds => pure (⟨ds, some l, ds⟩ : Src)) S = .ok src S) ∨ (items (.loc l) >>= fun ds => pure (⟨ds, some l, ds⟩ : Src)) S = .bad
    rcases items_res (.loc l) S with ⟨ds, e⟩ | e
    · rw [bind_ok e]; exact .inl ⟨_, rfl⟩
    · rw [bind_bad e]; exact .inr rfl
  | _ => exact .inr rfl
theorem i_seq (hK : Γ.K = X.K) (ha : PE X a (tM Γ xw ma)) : PI X tg a (tMI Γ xw fun σ => ma σ >>= srcOf) :=
  PI.imp (pi_sq ha) fun σ H R h => by
    obtain ⟨σd, ι, S, he, hs, ho⟩ := h
    refine ⟨σd, ι, S, he, hs, ho.bind.mono fun d S' ι' H' _ _ ⟨s', e', o'⟩ v r => ?_⟩
    rcases srcOf_res d S' with ⟨src, q⟩ | q
    · rw [q] at o'
      obtain ⟨_, e1, st, a, tup, rfl, ⟨xs, sq⟩, hall⟩ := sq_still s' r q
      refine ⟨a, rfl, ?_⟩
      have fin := o'.here s'
      cases tup with
      | true =>
        refine .inr ⟨⟨xs, by rw [← hK]; exact sq⟩, fin _ fun ι1 H1 S1 e2 s1 st1 => ?_⟩
        obtain ⟨ys, sq1, p1⟩ := hall ι1 H1 S1 e2 s1 st1
        have sq1 : SqT X.K H1 a ys := by rw [← hK]; exact sq1
        rw [e1]
        refine ⟨fun i d hd => ?_, ys, sq1, by rw [p1.length]; exact Nat.le_refl _⟩
        obtain ⟨y, hy, r1⟩ := Paired.get p1 hd
        exact ⟨⟨ys, y, sq1, hy⟩, fun x H' ⟨e3, hx⟩ => by
          subst e3
          have := hx ys sq1
          rw [hy] at this; cases this
          exact ⟨.refl, s1, r1⟩⟩
      | false =>
        refine .inl ⟨⟨xs, by rw [← hK]; exact sq⟩, fin _ fun ι1 H1 S1 e2 s1 st1 => ?_⟩
        obtain ⟨ys, sq1, p1⟩ := hall ι1 H1 S1 e2 s1 st1
        have sq1 : SqL X.K H1 a ys := by rw [← hK]; exact sq1
        rw [e1]
        refine ⟨fun i d hd => ?_, ys, sq1, by rw [p1.length]; exact Nat.le_refl _⟩
        obtain ⟨y, hy, r1⟩ := Paired.get p1 hd
        exact ⟨⟨ys, y, sq1, hy⟩, fun x H' ⟨e3, hx⟩ => by
          subst e3
          have := hx ys sq1
          rw [hy] at this; cases this
          exact ⟨.refl, s1, r1⟩⟩
    · rw [q] at o'; exact o'.elim
theorem num_get : ∀ {ds : List D} {k i : Nat} {d : D}, (num k ds)[i]? = some d → ∃ e, ds[i]? = some e ∧ d = .tup [.int ((k + i : Nat) : Int), e]
  | [], k, i, d, h => by simp [num] at h
  | x :: r, k, 0, d, h => by simp [num] at h; exact ⟨x, rfl, by rw [← h]; simp⟩
  | x :: r, k, i + 1, d, h => by
    have h : (num (k + 1) r)[i]? = some d := by simpa [num] using h
    obtain ⟨e, h1, h2⟩ := num_get h
    exact ⟨e, by simpa using h1, by rw [h2]; congr 3; omega⟩
theorem num_length : ∀ (ds : List D) (k : Nat), (num k ds).length = ds.length
  | [], _ => rfl
  | _ :: r, k => by simp [num, num_length r]
theorem i_enum {p : Pos} {elts : List Expr} {k1 : Nat} {tp : Pos} (hK : Γ.K = X.K) (hg : Gl X "enumerate") (hm : X.mg "enumerate" = none) (hv : bootBuiltins "enumerate" = some (.type "enumerate")) (ha : PE X a (tM Γ xw ma)) (hs : starEach [a] X.env = [(false, eval a X.env)]) :
    PI X (.Tuple elts k1 tp) (.Call (.Name "enumerate" p) [a] [] pos) (tMI Γ xw fun σ => ma σ >>= fun d => srcOf d >>= fun s => pure { s with its := num 0 s.its }) :=
  PI.imp (pi_enum hg hm hv (pa_cons ha pa_nil (by rw [hs]; rfl)) hs) fun σ H R h => by
    obtain ⟨σd, ι, S, he, hs, ho⟩ := h
    refine ⟨σd, ι, S, he, hs, ho.bind.mono fun d S' ι' H' _ _ ⟨s', e', o'⟩ v r => ?_⟩
    rcases srcOf_res d S' with ⟨src, q⟩ | q
    · rw [bind_ok q] at o'
      obtain ⟨_, e1, st, a, tup, rfl, ⟨xs, sq⟩, hall⟩ := sq_still s' r q
      have fin := o'.here s'
      refine ⟨tup, a, rfl, ⟨xs, by rw [← hK]; exact sq⟩, fin _ fun ι1 H1 S1 e2 s1 st1 => ?_⟩
      obtain ⟨ys, sq1, p1⟩ := hall ι1 H1 S1 e2 s1 st1
      have sq1 : SqB X.K H1 tup a ys := by rw [← hK]; exact sq1
      refine ⟨fun i d hd => ?_, ys, sq1, by show ys.length ≤ (num 0 src.its).length; rw [num_length, e1, p1.length]; exact Nat.le_refl _⟩
      obtain ⟨e, he', rfl⟩ := num_get hd
      rw [e1] at he'
      obtain ⟨y, hy, r1⟩ := Paired.get p1 he'
      refine ⟨⟨ys, y, sq1, hy⟩, ?_⟩
      rintro x H' ⟨z, p, hz, hp, rfl, rfl⟩
      have hz := hz ys sq1
      rw [hy] at hz; cases hz
      refine ⟨Ext.laid hp, s1.laid hp _, .tup' (.of upd_same) (.cons ?_ (.cons (r1.ext (Ext.laid hp)) .nil))⟩
      rw [Nat.zero_add]; exact .int _
    · rw [bind_bad q] at o'; exact o'.elim

theorem rng_up (lo hi : Int) : rng lo hi 1 = (List.range (hi - lo).toNat).map fun (k : Nat) => lo + k := by
  unfold rng
  rw [if_pos (by decide)]
  have : (hi - lo + 1 - 1) / 1 = hi - lo := by rw [Int.ediv_one]; omega
  rw [this]
  simp
theorem rng_down (lo hi : Int) : rng lo hi (-1) = (List.range (lo - hi).toNat).map fun (k : Nat) => lo - k := by
  unfold rng
  rw [if_neg (by decide), if_pos (by decide)]
  have : (lo - hi - -1 - 1) / -(-1) = lo - hi := by rw [show (-(-1) : Int) = 1 from rfl, Int.ediv_one]; omega
  rw [this]
  refine List.map_congr_left fun k _ => ?_
  omega
theorem range_get {n i k : Nat} (h : (List.range n)[i]? = some k) : k = i ∧ i < n := by
  obtain ⟨h1, h2⟩ := List.getElem?_eq_some_iff.mp h
  rw [List.getElem_range] at h2
  rw [List.length_range] at h1
  exact ⟨h2.symm, h1⟩
theorem src_up {ι : List Addr} {H : Hp} (lo hi : Int) : SrcOk Γ ⟨(rng lo hi 1).map .int, none, []⟩ (Itr lo (hi - lo).toNat) ι H := fun ι1 H1 S1 e s1 st => by
  rw [rng_up, List.map_map]
  refine ⟨fun i d hd => ?_, by show (hi - lo).toNat ≤ _; simp⟩
  have hd : ((List.range (hi - lo).toNat).map (D.int ∘ fun (k : Nat) => lo + k))[i]? = some d := hd
  rw [List.getElem?_map, Option.map_eq_some_iff] at hd
  obtain ⟨k, hk, rfl⟩ := hd
  obtain ⟨rfl, hlt⟩ := range_get hk
  exact ⟨hlt, fun x H' ⟨e1, e2⟩ => by subst e1; subst e2; exact ⟨.refl, s1, .int _⟩⟩
theorem src_down {ι : List Addr} {H : Hp} (lo hi : Int) : SrcOk Γ ⟨(rng lo hi (-1)).map .int, none, []⟩ (ItrD lo (lo - hi).toNat) ι H := fun ι1 H1 S1 e s1 st => by
  rw [rng_down, List.map_map]
  refine ⟨fun i d hd => ?_, by show (lo - hi).toNat ≤ _; simp⟩
  have hd : ((List.range (lo - hi).toNat).map (D.int ∘ fun (k : Nat) => lo - k))[i]? = some d := hd
  rw [List.getElem?_map, Option.map_eq_some_iff] at hd
  obtain ⟨k, hk, rfl⟩ := hd
  obtain ⟨rfl, hlt⟩ := range_get hk
  exact ⟨hlt, fun x H' ⟨e1, e2⟩ => by subst e1; subst e2; exact ⟨.refl, s1, .int _⟩⟩
theorem near_iff {i : Int} (h : near i = true) : -(2 ^ 62) ≤ i ∧ i < 2 ^ 62 := of_decide_eq_true h
variable {b c : Expr} {m : Sg → M (List D)} {p : Pos}
theorem Out.monoE {α : Type} {r : Res α} {ι : List Addr} {H : Hp} {k k' : α → Store → List Addr → Hp → Prop} (h : Out Γ xw ι H r k) (f : ∀ a S' ι' H', r = .ok a S' → Ext ι ι' H H' → StOk Γ ι' H' S' → k a S' ι' H' → k' a S' ι' H') : Out Γ xw ι H r k' := by
  cases r with
  | ok a S' => exact fun ι' H' e' s' => f _ _ _ _ rfl e' s' (h ι' H' e' s')
  | exc c S' => exact h
  | bad => exact h
theorem i_rng1 (hg : Gl X "range") (hm : X.mg "range" = none) (ha : PA X [a] (tMA Γ xw m)) (hs : starEach [a] X.env = [(false, eval a X.env)]) (hlen : ∀ σ S ds S', m σ S = .ok ds S' → ds.length = 1) :
    PI X tg (.Call (.Name "range" p) [a] [] pos) (tMI Γ xw fun σ => m σ >>= fun ds => opt (rngOf ds) >>= fun is => pure ⟨is.map .int, none, []⟩) :=
  PI.imp (pi_range1 hg hm ha hs) fun σ H R h => by
    obtain ⟨σd, ι, S, he, hs, ho⟩ := h
    refine ⟨σd, ι, S, he, hs, Out.monoE ho.bind fun ds S' ι' H' eq _ _ ⟨s', e', o'⟩ vs rs => ?_⟩
    have hl := hlen _ _ _ _ eq
    obtain ⟨is, q, o'⟩ := Out.opt o'
    have fin := o'.here s'
    obtain ⟨d, _, _, _, rfl, rfl, r, rs, hl⟩ := Paired.step rs hl
    obtain ⟨rfl, rfl⟩ := Paired.last rs hl
    (
      cases r with
      | int j =>
        simp only [rngOf] at q
        split at q
        · rename_i hn
          cases q
          have hn := near_iff hn
          refine ⟨j, rfl, hn.1, hn.2, fin _ ?_⟩
          have := src_up (Γ := Γ) (ι := ι') (H := H') 0 j
          rw [Int.sub_zero] at this
          exact this
        · cases q
      | _ => cases q)
theorem i_rng2 (hg : Gl X "range") (hm : X.mg "range" = none) (ha : PA X [a, b] (tMA Γ xw m)) (hs : starEach [a, b] X.env = [(false, eval a X.env), (false, eval b X.env)]) (hs2 : starEach [b] X.env = [(false, eval b X.env)]) (hlen : ∀ σ S ds S', m σ S = .ok ds S' → ds.length = 2) :
    PI X tg (.Call (.Name "range" p) [a, b] [] pos) (tMI Γ xw fun σ => m σ >>= fun ds => opt (rngOf ds) >>= fun is => pure ⟨is.map .int, none, []⟩) :=
  PI.imp (pi_range2 hg hm ha hs hs2) fun σ H R h => by
    obtain ⟨σd, ι, S, he, hs, ho⟩ := h
    refine ⟨σd, ι, S, he, hs, Out.monoE ho.bind fun ds S' ι' H' eq _ _ ⟨s', e', o'⟩ vs rs => ?_⟩
    have hl := hlen _ _ _ _ eq
    obtain ⟨is, q, o'⟩ := Out.opt o'
    have fin := o'.here s'
    obtain ⟨d, _, _, _, rfl, rfl, r, rs, hl⟩ := Paired.step rs hl
    obtain ⟨e, _, _, _, rfl, rfl, r2, rs, hl⟩ := Paired.step rs hl
    obtain ⟨rfl, rfl⟩ := Paired.last rs hl
    (
      cases r with
      | int i =>
        cases r2 with
        | int j =>
          simp only [rngOf] at q
          split at q
          · rename_i hn
            cases q
            rw [Bool.and_eq_true] at hn
            have h1 := near_iff hn.1
            have h2 := near_iff hn.2
            exact ⟨i, j, rfl, ⟨h1.1, h1.2, h2.1, h2.2⟩, fin _ (src_up i j)⟩
          · cases q
        | _ => cases q
      | _ => cases q)
theorem i_rng3 (hg : Gl X "range") (hm : X.mg "range" = none) (ha : PA X [a, b, c] (tMA Γ xw m)) (hs : starEach [a, b, c] X.env = [(false, eval a X.env), (false, eval b X.env), (false, eval c X.env)]) (hs2 : starEach [b, c] X.env = [(false, eval b X.env), (false, eval c X.env)]) (hlen : ∀ σ S ds S', m σ S = .ok ds S' → ds.length = 3) :
    PI X tg (.Call (.Name "range" p) [a, b, c] [] pos) (tMI Γ xw fun σ => m σ >>= fun ds => opt (rngOf ds) >>= fun is => pure ⟨is.map .int, none, []⟩) :=
  PI.imp (pi_range3 hg hm ha hs hs2) fun σ H R h => by
    obtain ⟨σd, ι, S, he, hs, ho⟩ := h
    refine ⟨σd, ι, S, he, hs, Out.monoE ho.bind fun ds S' ι' H' eq _ _ ⟨s', e', o'⟩ vs rs => ?_⟩
    have hl := hlen _ _ _ _ eq
    obtain ⟨is, q, o'⟩ := Out.opt o'
    have fin := o'.here s'
    obtain ⟨d, _, _, _, rfl, rfl, r, rs, hl⟩ := Paired.step rs hl
    obtain ⟨e, _, _, _, rfl, rfl, r2, rs, hl⟩ := Paired.step rs hl
    obtain ⟨f, _, _, _, rfl, rfl, r3, rs, hl⟩ := Paired.step rs hl
    obtain ⟨rfl, rfl⟩ := Paired.last rs hl
    (
      cases r with
      | int i =>
        cases r2 with
        | int j =>
          cases r3 with
          | int k =>
            simp only [rngOf] at q
            split at q
            · rename_i hn
              cases q
              rw [Bool.and_eq_true, Bool.and_eq_true] at hn
              have h1 := near_iff hn.1.1
              have h2 := near_iff hn.1.2
              have h3 : k = -1 := of_decide_eq_true hn.2
              subst h3
              exact ⟨i, j, rfl, ⟨h1.1, h1.2, h2.1, h2.2⟩, fin _ (src_down i j)⟩
            · cases q
          | _ => cases q
        | _ => cases q
      | _ => cases q)
/-! ### targets -/
noncomputable def tMG (Γ : Gx) (t : Tg) : TG := fun v σ H Q => ∃ σd ι S d σd', EnvOk Γ ι H σ σd ∧ StOk Γ ι H S ∧ Rep Γ ι H d v ∧ bindT t d σd S = .ok σd' S ∧ ∀ σ', EnvOk Γ ι H σ' σd' → (∀ j, t.has j = false → σ'[j]? = σ[j]?) → Q σ' H
theorem PG.imp {target : Expr} {t t' : TG} (h : PG X target t) (f : ∀ v σ H Q, t' v σ H Q → t v σ H Q) : PG X target t' := fun pins s σ H v u Q I r q => h pins s σ H v u Q I r (f v σ H Q q)
theorem g_one {i : Nat} {x : Str} (hN : X.N.Nodup) (hi : X.N[i]? = some x) (hx : Loc X.env.scope x) (hf : X.fn x = true ∨ X.env.scope.names.lookup x = some .local) : PG X (.Name x pos) (tMG Γ (.one i)) :=
  PG.imp (pg_name hN hi hx hf) fun v σ H Q h => by
    obtain ⟨σd, ι, S, d, σd', he, hs, r, hb, q⟩ := h
    cases hb
    exact q _ (he.set i r) fun j hj => by rw [List.getElem?_set_ne (by intro z; subst z; simp [Tg.has] at hj)]
/-- several names -/
noncomputable def gNames : List Nat → TGs
  | [] => gNil
  | i :: r => gCons (gName i) (gNames r)
noncomputable def NamesAre (X : Cx) : List Expr → List Nat → Prop := Paired fun e i => ∃ x p, e = .Name x p ∧ X.N[i]? = some x ∧ Loc X.env.scope x ∧ (X.fn x = true ∨ X.env.scope.names.lookup x = some .local)
theorem gs_names (hN : X.N.Nodup) : ∀ {es : List Expr} {is : List Nat}, NamesAre X es is → PGs X es (gNames is)
  | _, _, .nil => pgs_nil
  | _, _, .cons ⟨x, p, e, h1, h2, h3⟩ r => by
    subst e
    exact pgs_cons (pg_name hN h1 h2 h3) (gs_names hN r) rfl
theorem names_each : ∀ {es : List Expr} {is : List Nat}, NamesAre X es is → (assignEach es X.env).length = is.length ∧ (assignEach es X.env).findIdx? (·.1) = none
  | _, _, .nil => ⟨rfl, rfl⟩
  | _, _, .cons ⟨x, p, e, h1, h2, h3⟩ r => by
    subst e
    obtain ⟨a, b⟩ := names_each r
    refine ⟨congrArg (· + 1) a, ?_⟩
    show List.findIdx? (·.1) ((false, _) :: assignEach _ X.env) = none
    rw [List.findIdx?_cons]
    simp only [Bool.false_eq_true, if_false]
    rw [b]; rfl
theorem names_set {ι : List Addr} {H : Hp} {Q : L2.St → Hp → Prop} : ∀ {is : List Nat} {ds : List D} {xs : List V} {σ : L2.St} {σd : Sg}, ds.length = is.length → Reps Γ ι H ds xs → EnvOk Γ ι H σ σd → (∀ σ', EnvOk Γ ι H σ' (setAll is ds σd) → (∀ j, is.contains j = false → σ'[j]? = σ[j]?) → Q σ' H) → gNames is xs σ H Q
  | [], [], _, σ, σd, _, .nil, he, q => ⟨rfl, q _ he fun _ _ => rfl⟩
  | i :: is, d :: ds, _, σ, σd, hl, .cons (b := v) r rr, he, q => ⟨v, _, rfl, names_set (by simpa using hl) rr (he.set i r) fun σ' h' hl' => q σ' h' fun j hj => by
      rw [List.contains_cons, Bool.or_eq_false_iff] at hj
      rw [hl' j hj.2, List.getElem?_set_ne (by intro z; subst z; simp at hj)]⟩
  | [], _ :: _, _, _, _, hl, _, _, _ => by simp at hl
  | _ :: _, [], _, _, _, hl, _, _, _ => by simp at hl
theorem g_many {es : List Expr} {is : List Nat} {k : Nat} (hK : Γ.K = X.K) (hc : X.calm = true) (hN : X.N.Nodup) (hn : NamesAre X es is) : PG X (.Tuple es k pos) (tMG Γ (.many is)) :=
  PG.imp (pg_tup hc (gs_names hN hn) (names_each hn).1 (names_each hn).2) fun v σ H Q h => by
    obtain ⟨σd, ι, S, d, σd', he, hs, r, hb, q⟩ := h
    cases d with
    | tup ds =>
      obtain ⟨a, xs, rfl, t, p⟩ := r.tup_inv
      have hb : guard (decide (ds.length = is.length)) (pure (setAll is ds σd) : M Sg) S = .ok σd' S := hb
      by_cases hl : ds.length = is.length
      · rw [show decide (ds.length = is.length) = true from decide_eq_true hl] at hb
        cases hb
        exact ⟨a, xs, rfl, by rw [← hK]; exact t, by rw [← p.length]; exact hl, names_set hl p he q⟩
      · rw [show decide (ds.length = is.length) = false from decide_eq_false hl] at hb
        cases hb
    | _ => cases hb
theorem bindT_res (t : Tg) (d : D) (σ : Sg) (S : Store) : (∃ σ', bindT t d σ S = .ok σ' S ∧ σ'.length = σ.length) ∨ bindT t d σ S = .bad := by
  have hlen : ∀ (is : List Nat) (ds : List D) (σ : Sg), (setAll is ds σ).length = σ.length := by
    intro is
    induction is with
    | nil => intro ds σ; cases ds <;> rfl
    | cons i r ih => intro ds σ; cases ds with
      | nil => rfl
      | cons d ds => show (setAll r ds (σ.set i (some d))).length = _; rw [ih, List.length_set]
  cases t with
  | one i => exact .inl ⟨_, rfl, by rw [List.length_set]⟩
  | many is =>
    cases d with
    | tup ds =>
      show (∃ σ', guard (decide (ds.length = is.length)) (pure (setAll is ds σ) : M Sg) S = .ok σ' S ∧ _) ∨ guard (decide (ds.length = is.length)) (pure (setAll is ds σ) : M Sg) S = .bad
      by_cases hl : ds.length = is.length
      · rw [show decide (ds.length = is.length) = true from decide_eq_true hl]
        exact .inl ⟨_, rfl, hlen _ _ _⟩
      · rw [show decide (ds.length = is.length) = false from decide_eq_false hl]
        exact .inr rfl
    | _ => exact .inr rfl
theorem Out.bindT {α : Type} {t : Tg} {d : D} {σd : Sg} {ι : List Addr} {H : Hp} {S : Store} {f : Sg → M α} {k : α → Store → List Addr → Hp → Prop} (ho : Out Γ xw ι H ((EV.bindT t d σd >>= f) S) k) : ∃ σd', EV.bindT t d σd S = .ok σd' S ∧ σd'.length = σd.length ∧ Out Γ xw ι H (f σd' S) k := by
  rcases bindT_res t d σd S with ⟨σ', e, l⟩ | e
  · rw [bind_ok e] at ho; exact ⟨σ', e, l, ho⟩
  · rw [bind_bad e] at ho; exact ho.elim
end
end EV

set_option Elab.async false
set_option linter.all false
set_option maxRecDepth 100000
namespace EV
open PySem PySem.Spec PyProof.Rows L2
noncomputable def XF : XW := fun _ _ _ _ => False
section
variable {Γ : Gx} {xw : XW} {ι ι' : List Addr} {H H' : Hp} {S : Store} {σ : L2.St}
/-- a list that was laid by the way is taken in -/
theorem StOk.take (hS : StOk Γ ι H S) {l : Addr} {xs : List V} {ds : List D} (hn : l ∉ ι) (h : H l = some (.lst xs)) (r : Reps Γ ι H ds xs) : StOk Γ (ι ++ [l]) H (S ++ [.lst ds]) := by
  have mv : ∀ {d : D} {v : V}, Rep Γ ι H d v → Rep Γ (ι ++ [l]) H d v := fun r => r.move (List.prefix_append _ _) (fun _ _ e => e) fun _ _ _ e => e
  refine ⟨by simp [hS.len], List.nodup_append.mpr ⟨hS.nd, by simp, ?_⟩, fun m c hm => ?_⟩
  · intro a ha b hb
    have : b = l := by simpa using hb
    subst this
    exact fun z => hn (z ▸ ha)
  · by_cases hl : m < S.length
    · rw [List.getElem?_append_left hl] at hm
      obtain ⟨a, ha, c1⟩ := hS.cell m c hm
      refine ⟨a, prefix_get (List.prefix_append _ _) ha, ?_⟩
      cases c with
      | lst zs => obtain ⟨ws, hw, rw'⟩ := c1; exact ⟨ws, hw, Paired.imp (fun _ _ r => mv r) rw'⟩
      | dct kvs => exact c1
    · rw [List.getElem?_append_right (by omega)] at hm
      have hl2 : m - S.length = 0 := by
        have := (List.getElem?_eq_some_iff.mp hm).1
        simp at this; omega
      rw [hl2] at hm
      have h' : (Cell.lst ds) = c := by simpa using hm
      subst h'
      have e1 : m = ι.length := by rw [hS.len]; omega
      subst e1
      exact ⟨l, by simp, xs, h, Paired.imp (fun _ _ r => mv r) r⟩
theorem Ext.past (e : Ext ι ι' H H') {l : Addr} {ys : List V} (hl : H l = none) : Ext ι ι' H (upd H' l (.lst ys)) :=
  ⟨e.pre, fun a xs h => by rw [upd_ne (ne_of_none h hl)]; exact e.tup a xs h, fun a o u h => by rw [upd_ne (ne_of_none h hl)]; exact e.frz a o u h, fun a o h n => by rw [upd_ne (ne_of_none h hl)]; exact e.oth a o h n, e.fresh⟩
theorem Ext.notin (e : Ext ι ι' H H') {l : Addr} {o : HO} (h : H l = some o) (hn : l ∉ ι) : H' l = some o ∧ l ∉ ι' := ⟨e.oth l o h hn, fun m => by have := e.fresh l m hn; rw [h] at this; cases this⟩
theorem compL_nil {src : Src} {f : D → M (Option D)} {post : List D} {S2 : Store} (h : compL src f [] S = .ok post S2) : still src S = .ok () S ∧ post = [] ∧ S2 = S := by
  have h : (still src >>= fun _ => pure []) S = .ok post S2 := h
  rcases still_res src S with e | e
  · rw [bind_ok e] at h; cases h; exact ⟨e, rfl, rfl⟩
  · rw [bind_bad e] at h; cases h
theorem compL_cons {src : Src} {f : D → M (Option D)} {d : D} {rest post : List D} {S2 : Store} (h : compL src f (d :: rest) S = .ok post S2) :
    still src S = .ok () S ∧ ∃ y S3 post', f d S = .ok y S3 ∧ compL src f rest S3 = .ok post' S2 ∧ post = (match y with | some y => y :: post' | none => post') := by
  have h : (still src >>= fun _ => f d >>= fun y => compL src f rest >>= fun ys => pure (match y with | some y => y :: ys | none => ys)) S = .ok post S2 := h
  rcases still_res src S with e | e
  · rw [bind_ok e] at h
    cases q : f d S with
    | bad => rw [bind_bad q] at h; cases h
    | exc c S3 => rw [bind_exc q] at h; cases h
    | ok y S3 =>
      rw [bind_ok q] at h
      cases q2 : compL src f rest S3 with
      | bad => rw [bind_bad q2] at h; cases h
      | exc c S4 => rw [bind_exc q2] at h; cases h
      | ok ys S4 => rw [bind_ok q2] at h; cases h; exact ⟨e, y, S3, ys, rfl, q2, rfl⟩
  · rw [bind_bad e] at h; cases h
end
section
variable {X : Cx} {Γ : Gx} {xw : XW} {scope : Scope} {N' : List Str} {k : Nat} {elt iter tg : Expr} {ifs : List Expr} {pos : Pos} {mi : Sg → M Src} {t : Tg} {nt : Sg → M Bool} {me : Sg → M D}
noncomputable def compM (k : Nat) (mi : Sg → M Src) (t : Tg) (nt : Sg → M Bool) (me : Sg → M D) : Sg → M D := fun σ => mi σ >>= fun s =>
  quiet (compL s (fun d => bindT t d (σ ++ List.replicate k none) >>= fun σ' => nt σ' >>= fun b => if b = true then me σ' >>= fun y => pure (some y) else pure none) s.its) >>= fun ys => guard (fits ys.length) (alloc (.lst ys))
theorem comp_read (hslot : ∀ j, j < X.N.length → t.has j = false) {σ : L2.St} (hσ : σ.length = X.N.length) {H : Hp} {Q : VK} (h : tM Γ xw (compM k mi t nt me) σ H Q) : tComp k (tMI Γ xw mi) (tMG Γ t) (tMT Γ XF nt) (tM Γ XF me) σ H Q := by
  obtain ⟨σd, ι, S, hE, hS, ho⟩ := h
  refine ⟨σd, ι, S, hE, hS, ho.bind.mono fun src S1 ι1 H1 _ _ ⟨s1, e1, o1⟩ J hJ l hl => ?_⟩
  generalize hf : (fun d => bindT t d (σd ++ List.replicate k none) >>= fun σ' => nt σ' >>= fun b => if b = true then me σ' >>= fun y => pure (some y) else pure none) = f at o1
  cases q : compL src f src.its S1 with
  | bad => rw [bind_bad (show quiet (compL src f src.its) S1 = .bad by unfold quiet; rw [q])] at o1; exact o1.elim
  | exc c S2 => rw [bind_bad (show quiet (compL src f src.its) S1 = .bad by unfold quiet; rw [q])] at o1; exact o1.elim
  | ok ys S2 =>
    rw [bind_ok (show quiet (compL src f src.its) S1 = .ok ys S2 by unfold quiet; rw [q])] at o1
    obtain ⟨hz, o1⟩ := Out.guard o1
    have hz := fits_le hz
    refine ⟨fun i m H => ∃ ι' S' pre post xs, i ≤ src.its.length ∧ m = src.its.length - i ∧ Ext ι1 ι' H1 H ∧ StOk Γ ι' H S' ∧ l ∉ ι' ∧ H l = some (.lst xs) ∧ Reps Γ ι' H pre xs ∧ compL src f (src.its.drop i) S' = .ok post S2 ∧ ys = pre ++ post ∧ EnvOk Γ ι' H σ σd,
      ⟨src.its.length, ι1, S1, [], ys, [], Nat.zero_le _, rfl, Ext.laid hl, s1.laid hl _, s1.new hl, upd_same, .nil, q, rfl, (hE.ext e1).ext (Ext.laid hl)⟩, ?_⟩
    rintro i m H ⟨ι', S', pre, post, xs, hi, rfl, eH, sH, ln, hH, rp, hc, hys, eE⟩
    by_cases hlt : i < src.its.length
    · rw [List.drop_eq_getElem_cons hlt] at hc
      obtain ⟨st, y, S3, post', hfd, hc', hpost⟩ := compL_cons hc
      obtain ⟨jgo, jyld⟩ := (hJ ι' H S' eH sH st).1 i src.its[i] (List.getElem?_eq_getElem hlt)
      refine .inr ⟨jgo, fun x H' yl => ?_⟩
      obtain ⟨eX, sX, rX⟩ := jyld x H' yl
      obtain ⟨hH', _⟩ := eX.notin hH ln
      rw [← hf] at hfd
      have hfd : (bindT t src.its[i] (σd ++ List.replicate k none) >>= fun σ' => nt σ' >>= fun b => if b = true then me σ' >>= fun y => pure (some y) else pure none) S' = .ok y S3 := hfd
      obtain ⟨σd', hb⟩ : ∃ σd', bindT t src.its[i] (σd ++ List.replicate k none) S' = .ok σd' S' := by
        rcases bindT_res t src.its[i] (σd ++ List.replicate k none) S' with ⟨σd', hb, _⟩ | hb
        · exact ⟨σd', hb⟩
        · rw [bind_bad hb] at hfd; cases hfd
      rw [bind_ok hb] at hfd
      refine ⟨σd ++ List.replicate k none, ι', S', src.its[i], σd', (eE.ext eX).more k, sX, rX, hb, fun σ' hE' hK => ⟨fun j v hj => ?_, ?_⟩⟩
      · rw [hK j (hslot j ?_)]; exact hj
        by_cases hjl : j < σ.length
        · omega
        · rw [List.getElem?_append_right (by omega), List.getElem?_replicate] at hj
          split at hj <;> cases hj
      · cases qn : nt σd' S' with
        | bad => rw [bind_bad qn] at hfd; cases hfd
        | exc c S4 => rw [bind_exc qn] at hfd; cases hfd
        | ok b S4 =>
          rw [bind_ok qn] at hfd
          refine ⟨σd', ι', S', hE', sX, ?_⟩
          rw [qn]
          intro ι3 H3 e3 s3
          obtain ⟨hH3, ln3⟩ := e3.notin hH' ln
          have eA : Ext ι1 ι3 H1 H3 := (eH.trans eX).trans e3
          cases b with
          | false =>
            rw [if_neg Bool.false_ne_true] at hfd ⊢
            cases hfd
            exact ⟨src.its.length - (i + 1), by omega, ι3, _, pre, post', xs, hlt, rfl, eA, s3, ln3, hH3, Reps.ext e3 (Reps.ext eX rp), hc', by rw [hys, hpost], (eE.ext eX).ext e3⟩
          | true =>
            rw [if_pos rfl] at hfd ⊢
            refine ⟨σd', ι3, S4, hE'.ext e3, s3, ?_⟩
            cases qe : me σd' S4 with
            | bad => rw [bind_bad qe] at hfd; cases hfd
            | exc c S5 => rw [bind_exc qe] at hfd; cases hfd
            | ok yd S5 =>
              rw [bind_ok qe] at hfd
              cases hfd
              intro ι4 H4 e4 s4 v rv
              obtain ⟨hH4, ln4⟩ := e4.notin hH3 ln3
              have rp4 : Reps Γ ι4 H4 pre xs := Reps.ext e4 (Reps.ext e3 (Reps.ext eX rp))
              refine ⟨xs, hH4, ?_, src.its.length - (i + 1), by omega, ι4, _, pre ++ [yd], post', xs ++ [v], hlt, rfl, (eA.trans e4).past hl, s4.other hH4 ln4, ln4, upd_same, Reps.write hH4 (Paired.app rp4 (.cons rv .nil)), hc', by rw [hys, hpost]; simp, (((eE.ext eX).ext e3).ext e4).write hH4⟩
              have := rp4.length
              rw [hys, hpost, List.length_append, List.length_cons] at hz
              omega
    · have ei : i = src.its.length := by omega
      subst ei
      rw [List.drop_length] at hc
      obtain ⟨st, rfl, rfl⟩ := compL_nil hc
      refine .inl ⟨(hJ ι' H S2 eH sH st).2, ?_⟩
      rw [List.append_nil] at hys
      subst hys
      refine o1 (ι' ++ [l]) H ⟨eH.pre.trans (List.prefix_append _ _), eH.tup, eH.frz, eH.oth, fun a ha hn => ?_⟩ (sH.take ln hH rp) _ (.loc (by rw [← sH.len]; simp))
      rcases List.mem_append.mp ha with z | z
      · exact eH.fresh a z hn
      · have : a = l := by simpa using z
        rw [this]; exact hl
theorem n_comp (C : CompOk X scope N' k) (hc : X.calm = true) (hslot : ∀ j, j < X.N.length → t.has j = false) (hi : PI X tg iter (tMI Γ xw mi)) (hg : ∀ cl fp s3 H3, PG (cxComp X scope cl N' fp s3 H3) tg (tMG Γ t)) (htt : ∀ cl fp s3 H3, PF (cxComp X scope cl N' fp s3 H3) ifs (tMT Γ XF nt)) (hte : ∀ cl fp s3 H3, PE (cxComp X scope cl N' fp s3 H3) elt (tM Γ XF me))
    (hs : ∀ x, foldedSetIterable iter X.env x = pure x) : PE X (.ListComp elt [⟨tg, iter, ifs, 0⟩] scope pos) (tM Γ xw (compM k mi t nt me)) := by
  intro pins s σ H Q I h
  exact pe_comp C hc hi hg htt hte hs pins s σ H Q I (comp_read hslot I.len h)

/-! ### statements -/
noncomputable def FlK (Γ : Gx) (D : Ends) : Fl → Store → List Addr → Hp → Prop
  | .nx σ', _, ι', H' => ∀ σv, EnvOk Γ ι' H' σv σ' → D.nx σv H'
  | .rt d, _, ι', H' => ∀ v, Rep Γ ι' H' d v → D.rt v H'
  | .bk σ', _, ι', H' => ∀ σv, EnvOk Γ ι' H' σv σ' → D.bk σv H'
  | .ct σ', _, ι', H' => ∀ σv, EnvOk Γ ι' H' σv σ' → D.ct σv H'
noncomputable def tMS (Γ : Gx) (xw : XW) (m : Sg → M Fl) : TS := fun D σ H => ∃ σd ι S, EnvOk Γ ι H σ σd ∧ StOk Γ ι H S ∧ Out Γ xw ι H (m σd S) (FlK Γ D)
variable {e : Expr} {ma : Sg → M D} {na : Sg → M Bool} {ms ms2 : Sg → M Fl} {st : Stmt} {sts sts2 : List Stmt}
theorem s_ret (he : PE X e (tM Γ xw ma)) : PS X (.Return (some e) pos) (tMS Γ xw fun σ => ma σ >>= fun d => pure (.rt d)) :=
  PS.imp (ps_ret he) fun D σ H h => by
    obtain ⟨σd, ι, S, hE, hs, ho⟩ := h
    exact ⟨σd, ι, S, hE, hs, ho.bind.mono fun d S' ι' H' _ _ ⟨s', e', o'⟩ v r => o'.here s' v r⟩
theorem s_retN : PS X (.Return none pos) (tMS Γ xw fun _ => pure (.rt .non)) :=
  PS.imp ps_retN fun D σ H h => by
    obtain ⟨σd, ι, S, hE, hs, ho⟩ := h
    exact ho.here hs _ .non
theorem s_ex (he : PE X e (tM Γ xw ma)) (hs : swapsWith e none pos.line X.env = pure false) : PS X (.Expr e pos) (tMS Γ xw fun σ => ma σ >>= fun _ => pure (.nx σ)) :=
  PS.imp (ps_expr he hs) fun D σ H h => by
    obtain ⟨σd, ι, S, hE, hs, ho⟩ := h
    exact ⟨σd, ι, S, hE, hs, ho.bind.mono fun d S' ι' H' _ _ ⟨s', e', o'⟩ v r => o'.here s' _ (hE.ext e')⟩
theorem s_skip : PS X (.Pass pos) (tMS Γ xw fun σ => pure (.nx σ)) :=
  PS.imp ps_pass fun D σ H h => by
    obtain ⟨σd, ι, S, hE, hs, ho⟩ := h
    exact ho.here hs _ hE
theorem s_doc {x j p2} : PS X (.Expr (.Constant (.str x) j p2) pos) (tMS Γ xw fun σ => pure (.nx σ)) :=
  PS.imp ps_doc fun D σ H h => by
    obtain ⟨σd, ι, S, hE, hs, ho⟩ := h
    exact ho.here hs _ hE
theorem asg_read {D : Ends} {σ : L2.St} {H : Hp} (h : tMS Γ xw (fun σ => ma σ >>= fun d => bindT t d σ >>= fun σ' => pure (.nx σ')) D σ H) : tAsg (tM Γ xw ma) (tMG Γ t) D σ H := by
  obtain ⟨σd, ι, S, hE, hs, ho⟩ := h
  refine ⟨σd, ι, S, hE, hs, ho.bind.mono fun d S' ι' H' _ _ ⟨s', e', o'⟩ v r => ?_⟩
  obtain ⟨σd', hb, _, o'⟩ := Out.bindT o'
  exact ⟨σd, ι', S', d, σd', hE.ext e', s', r, hb, fun σ' hE' _ => o'.here s' _ hE'⟩
theorem s_asg (he : PE X e (tM Γ xw ma)) (hg : PG X tg (tMG Γ t)) (hs : swapsWithSole [tg] e pos.line X.env = pure false) (hw : swappedStores [tg] e X.env = pure none) (h1 : (assignEach [tg] X.env).map (·.2) = [assign tg X.env]) :
    PS X (.Assign [tg] e pos) (tMS Γ xw fun σ => ma σ >>= fun d => bindT t d σ >>= fun σ' => pure (.nx σ')) := PS.imp (ps_asg he hg hs hw h1) fun D σ H h => asg_read h
theorem s_compSet {j : Nat} {y : Str} {py spos : Pos} (C : CompOk X scope N' k) (hc : X.calm = true) (hslot : ∀ j, j < X.N.length → t.has j = false) (hi : PI X tg iter (tMI Γ xw mi)) (hg : ∀ cl fp s3 H3, PG (cxComp X scope cl N' fp s3 H3) tg (tMG Γ t)) (htt : ∀ cl fp s3 H3, PF (cxComp X scope cl N' fp s3 H3) ifs (tMT Γ XF nt)) (hte : ∀ cl fp s3 H3, PE (cxComp X scope cl N' fp s3 H3) elt (tM Γ XF me))
    (hN : X.N.Nodup) (hj : X.N[j]? = some y) (hy : X.env.scope.names.lookup y = some .local) (hsw : swapsWith (.ListComp elt [⟨tg, iter, ifs, 0⟩] scope pos) (some (.Name y py)) spos.line X.env = pure true) (hs : ∀ x, foldedSetIterable iter X.env x = pure x) :
    PS X (.Assign [.Name y py] (.ListComp elt [⟨tg, iter, ifs, 0⟩] scope pos) spos) (tMS Γ xw fun σ => compM k mi t nt me σ >>= fun d => bindT (.one j) d σ >>= fun σ' => pure (.nx σ')) := by
  intro pins s σ H D I h
  refine ps_compSet C hc hi hg htt hte hN hj hy hsw hs pins s σ H D I ?_
  have h1 : tM Γ xw (compM k mi t nt me) σ H (fun x H1 => gName j x σ H1 D.nx) := by
    obtain ⟨σd, ι, S, hE, hS, ho⟩ := h
    refine ⟨σd, ι, S, hE, hS, ho.bind.mono fun d S' ι' H' _ _ ⟨s', e', o'⟩ v r => ?_⟩
    exact o'.here s' _ ((hE.ext e').set j r)
  exact comp_read hslot I.len h1
theorem s_if {c : Expr} (hc : PT X c (tMT Γ xw na)) (ha : PSs X sts (tMS Γ xw ms)) (hb : PSs X sts2 (tMS Γ xw ms2)) : PS X (.If c sts sts2 pos) (tMS Γ xw fun σ => na σ >>= fun k => if k = true then ms σ else ms2 σ) :=
  PS.imp (ps_if hc ha hb) fun D σ H h => by
    obtain ⟨σd, ι, S, hE, hs, ho⟩ := h
    refine ⟨σd, ι, S, hE, hs, ho.bind.mono fun k S' ι' H' _ _ ⟨s', e', o'⟩ => ?_⟩
    cases k with
    | true => rw [if_pos rfl]; exact ⟨σd, ι', S', hE.ext e', s', o'⟩
    | false => rw [if_neg Bool.false_ne_true]; exact ⟨σd, ι', S', hE.ext e', s', o'⟩
theorem ss_nil : PSs X [] (tMS Γ xw fun σ => pure (.nx σ)) :=
  PSs.imp pss_nil fun D σ H h => by
    obtain ⟨σd, ι, S, hE, hs, ho⟩ := h
    exact ho.here hs _ hE
theorem ss_one (h1 : PS X st (tMS Γ xw ms)) : PSs X [st] (tMS Γ xw ms) := pss_one h1
theorem ss_cons (h1 : PS X st (tMS Γ xw ms)) (h2 : PSs X sts (tMS Γ xw ms2)) : PSs X (st :: sts) (tMS Γ xw fun σ => ms σ >>= fun f => match f with | .nx σ' => ms2 σ' | f => pure f) :=
  PSs.imp (pss_cons h1 h2) fun D σ H h => by
    obtain ⟨σd, ι, S, hE, hs, ho⟩ := h
    refine ⟨σd, ι, S, hE, hs, ho.bind.mono fun f S' ι' H' _ _ ⟨s', e', o'⟩ => ?_⟩
    cases f with
    | nx σ' => exact fun σv hv => ⟨σ', ι', S', hv, s', o'⟩
    | rt d => exact fun v r => o'.here s' v r
    | bk σ' => exact fun σv hv => o'.here s' σv hv
    | ct σ' => exact fun σv hv => o'.here s' σv hv
end
end EV

set_option Elab.async false
set_option linter.all false
set_option maxRecDepth 100000
namespace EV
open PySem PySem.Spec PyProof.Rows L2
section
variable {X : Cx} {Γ : Gx} {xw : XW} {iter tg c : Expr} {pos : Pos} {mi : Sg → M Src} {t : Tg} {mb : Sg → M Fl} {na : Sg → M Bool} {body : List Stmt}
theorem PS.nox {st : Stmt} {t : TS} (h : PS X.nox st t) : PS X st t := fun pins s σ H D I hw =>
  wpAny_mono (h pins s σ H D (I.wish _) hw) (fun f s' q => q.unwish) fun _ _ e => e.elim
theorem for_read {D : Ends} {σ : L2.St} {H : Hp} (h : tMS Γ XF (fun σ => mi σ >>= fun s => forL s (fun d σ => bindT t d σ >>= fun σ' => mb σ') s.its σ) D σ H) : tFor (tMI Γ XF mi) (tMG Γ t) (tMS Γ XF mb) D σ H := by
  obtain ⟨σd, ι, S, hE, hS, ho⟩ := h
  refine ⟨σd, ι, S, hE, hS, ho.bind.mono fun src S1 ι1 H1 _ _ ⟨s1, e1, o1⟩ J hJ => ?_⟩
  generalize hf : (fun d σ => bindT t d σ >>= fun σ' => mb σ') = f at o1
  generalize hR : forL src f src.its σd S1 = R0 at o1
  refine ⟨fun i m σ H => ∃ ι' S' σd', i ≤ src.its.length ∧ m = src.its.length - i ∧ Ext ι1 ι' H1 H ∧ StOk Γ ι' H S' ∧ EnvOk Γ ι' H σ σd' ∧ forL src f (src.its.drop i) σd' S' = R0,
    ⟨src.its.length, ι1, S1, σd, Nat.zero_le _, rfl, .refl, s1, hE.ext e1, hR⟩, ?_⟩
  rintro i m σ H ⟨ι', S', σd', hi, rfl, eH, sH, eE, hc⟩
  by_cases hlt : i < src.its.length
  · rw [List.drop_eq_getElem_cons hlt] at hc
    have hc : (still src >>= fun _ => f src.its[i] σd' >>= fun fl => match fl with | .nx σ' => forL src f (src.its.drop (i + 1)) σ' | .ct σ' => forL src f (src.its.drop (i + 1)) σ' | .bk σ' => pure (.nx σ') | .rt d => pure (.rt d)) S' = R0 := hc
    rcases still_res src S' with st | st
    · rw [bind_ok st] at hc
      obtain ⟨jgo, jyld⟩ := (hJ ι' H S' eH sH st).1 i src.its[i] (List.getElem?_eq_getElem hlt)
      refine .inr ⟨jgo, fun σ' H' => ∃ m', m' < src.its.length - i ∧ ∃ ι' S' σd', i + 1 ≤ src.its.length ∧ m' = src.its.length - (i + 1) ∧ Ext ι1 ι' H1 H' ∧ StOk Γ ι' H' S' ∧ EnvOk Γ ι' H' σ' σd' ∧ forL src f (src.its.drop (i + 1)) σd' S' = R0, fun σ' H' h => h, fun x H' yl => ?_⟩
      obtain ⟨eX, sX, rX⟩ := jyld x H' yl
      have hfd : f src.its[i] σd' S' = (bindT t src.its[i] σd' >>= fun σ' => mb σ') S' := by rw [← hf]
      rcases bindT_res t src.its[i] σd' S' with ⟨σd2, hb, _⟩ | hb
      · rw [bind_ok hb] at hfd
        refine ⟨σd', ι', S', src.its[i], σd2, eE.ext eX, sX, rX, hb, fun σ2 hE2 _ => ⟨σd2, ι', S', hE2, sX, ?_⟩⟩
        have eA := eH.trans eX
        cases qb : mb σd2 S' with
        | bad => rw [qb] at hfd; rw [bind_bad hfd] at hc; rw [← hc] at o1; exact o1.elim
        | exc c S3 => rw [qb] at hfd; rw [bind_exc hfd] at hc; rw [← hc] at o1; exact fun ι3 H3 e3 s3 => o1 ι3 H3 (eA.trans e3) s3
        | ok fl S3 =>
          rw [qb] at hfd
          rw [bind_ok hfd] at hc
          intro ι3 H3 e3 s3
          cases fl with
          | nx σ' => exact fun σv hv => ⟨src.its.length - (i + 1), by omega, ι3, S3, σ', hlt, rfl, eA.trans e3, s3, hv, hc⟩
          | ct σ' => exact fun σv hv => ⟨src.its.length - (i + 1), by omega, ι3, S3, σ', hlt, rfl, eA.trans e3, s3, hv, hc⟩
          | bk σ' => rw [← hc] at o1; exact fun σv hv => o1 ι3 H3 (eA.trans e3) s3 σv hv
          | rt d => rw [← hc] at o1; exact fun v r => o1 ι3 H3 (eA.trans e3) s3 v r
      · rw [bind_bad hb] at hfd; rw [bind_bad hfd] at hc; rw [← hc] at o1; exact o1.elim
    · rw [bind_bad st] at hc; rw [← hc] at o1; exact o1.elim
  · have ei : i = src.its.length := by omega
    subst ei
    rw [List.drop_length] at hc
    have hc : (still src >>= fun _ => pure (.nx σd')) S' = R0 := hc
    rcases still_res src S' with st | st
    · rw [bind_ok st] at hc
      rw [← hc] at o1
      exact .inl ⟨(hJ ι' H S' eH sH st).2, o1 ι' H eH sH σ eE⟩
    · rw [bind_bad st] at hc; rw [← hc] at o1; exact o1.elim
theorem s_for (hcalm : X.calm = true) (hi : PI X.nox tg iter (tMI Γ XF mi)) (hg : PG X.nox tg (tMG Γ t)) (hb : PSs X.nox body (tMS Γ XF mb)) (hs : ∀ x, foldedSetIterable iter X.env x = pure x) :
    PS X (.For tg iter body [] pos) (tMS Γ xw fun σ => quiet (mi σ >>= fun s => forL s (fun d σ => bindT t d σ >>= fun σ' => mb σ') s.its σ)) :=
  PS.nox (PS.imp (ps_for (X := X.nox) PassesOwn.never hcalm hi hg hb hs) fun D σ H h => by
    obtain ⟨σd, ι, S, hE, hS, ho⟩ := h
    exact for_read ⟨σd, ι, S, hE, hS, Out.quiet ho XF⟩)
end

/-! ### what is left behind a call -/
section
variable {Γ : Gx} {ι ι' : List Addr} {H H' : Hp} {S S' : Store}
theorem lows_iff : ∀ {ds : List D} {n : Nat}, D.lows n ds = true ↔ ∀ (i : Nat) d, ds[i]? = some d → d.low n = true
  | [], n => ⟨fun _ i d h => by simp at h, fun _ => rfl⟩
  | d :: r, n => by
    simp only [D.lows, Bool.and_eq_true]
    constructor
    · rintro ⟨h1, h2⟩ i e h
      cases i with
      | zero => simp at h; subst h; exact h1
      | succ i => exact lows_iff.mp h2 i e (by simpa using h)
    · intro h
      exact ⟨h 0 d rfl, lows_iff.mpr fun i e q => h (i + 1) e (by simpa using q)⟩
theorem Rep.low {d : D} {v : V} (r : Rep Γ ι H d v) : d.low ι.length = true := by
  induction r with
  | tup h1 h2 h3 ih =>
    show D.lows _ _ = true
    refine lows_iff.mpr fun i d e => ?_
    have hi : i < _ := (List.getElem?_eq_some_iff.mp e).1
    exact ih i d _ e (List.getElem?_eq_getElem (by omega))
  | fro h1 h2 h3 ih =>
    show D.lows _ _ = true
    refine lows_iff.mpr fun i d e => ?_
    have hi : i < _ := (List.getElem?_eq_some_iff.mp e).1
    exact ih i d _ e (List.getElem?_eq_getElem (by omega))
  | loc h => exact decide_eq_true (List.getElem?_eq_some_iff.mp h).1
  | _ => rfl
theorem Rep.cut (hp : ι <+: ι') {d : D} {v : V} (r : Rep Γ ι' H d v) (hl : d.low ι.length = true) : Rep Γ ι H d v := by
  induction r with
  | non => exact .non
  | bl b => exact .bl b
  | int i => exact .int i
  | str x => exact .str x
  | tup h1 h2 h3 ih => exact .tup h1 h2 fun i d v e1 e2 => ih i d v e1 e2 (lows_iff.mp hl i d e1)
  | fro h1 h2 h3 ih => exact .fro h1 h2 fun i d v e1 e2 => ih i d v e1 e2 (lows_iff.mp hl i d e1)
  | @loc l a h =>
    have hlt : l < ι.length := of_decide_eq_true hl
    obtain ⟨t, rfl⟩ := hp
    rw [List.getElem?_append_left hlt] at h
    exact .loc h
theorem Reps.low {ds : List D} {vs : List V} (r : Reps Γ ι H ds vs) : D.lows ι.length ds = true := lows_iff.mpr fun i d e => let ⟨_, _, r'⟩ := Paired.get r e; r'.low
theorem Reps.cut (hp : ι <+: ι') : ∀ {ds : List D} {vs : List V}, Reps Γ ι' H ds vs → D.lows ι.length ds = true → Reps Γ ι H ds vs
  | _, _, .nil, _ => .nil
  | _, _, .cons r t, h => by
    rw [D.lows, Bool.and_eq_true] at h
    exact .cons (r.cut hp h.1) (Reps.cut hp t h.2)
theorem Ext.back (e : Ext ι ι' H H') : Ext ι ι H H' := ⟨List.prefix_refl _, e.tup, e.frz, e.oth, fun _ h n => absurd h n⟩
theorem StOk.back (e : Ext ι ι' H H') (h0 : StOk Γ ι H S) (h1 : StOk Γ ι' H' S') (ht : S'.take S.length = S) : StOk Γ ι H' S := by
  refine ⟨h0.len, h0.nd, fun l c hc => ?_⟩
  have hl : l < S.length := (List.getElem?_eq_some_iff.mp hc).1
  have hc' : S'[l]? = some c := by rw [← ht, List.getElem?_take_of_lt hl] at hc; exact hc
  obtain ⟨a, ha, c1⟩ := h1.cell l c hc'
  obtain ⟨b, hb, c0⟩ := h0.cell l c hc
  have := prefix_get e.pre hb
  rw [ha] at this; cases this
  refine ⟨a, hb, ?_⟩
  cases c with
  | lst ds => obtain ⟨xs, hx, r⟩ := c1; obtain ⟨ys, _, r0⟩ := c0; exact ⟨xs, hx, Reps.cut e.pre r r0.low⟩
  | dct kvs => exact c0
theorem leave_ok {xw : XW} {d : D} {v : V} {Q : VK} (h0 : StOk Γ ι H S) (e : Ext ι ι' H H') (h1 : StOk Γ ι' H' S') (r : Rep Γ ι' H' d v) (ho : Out Γ xw ι H (leave S d S') fun d _ ι' H' => ∀ v, Rep Γ ι' H' d v → Q v H') : Q v H' := by
  unfold leave at ho
  by_cases ht : S'.take S.length = S
  · rw [if_pos ht] at ho
    by_cases hl : d.low S.length = true
    · rw [if_pos hl] at ho
      exact ho ι H' e.back (StOk.back e h0 h1 ht) v (r.cut e.pre (by rw [h0.len]; exact hl))
    · rw [if_neg hl] at ho
      have dflt : Out Γ xw ι H (.ok d S') (fun d _ ι' H' => ∀ v, Rep Γ ι' H' d v → Q v H') → Q v H' := fun ho => ho ι' H' e h1 v r
      cases d with
      | loc l =>
        dsimp only at ho
        cases q : S'[l]? with
        | none => rw [q] at ho; exact dflt ho
        | some c =>
          rw [q] at ho
          dsimp only at ho
          by_cases hc : c.low S.length = true
          · rw [if_pos hc] at ho
            cases r with
            | @loc _ a hla =>
              have hge : ¬ l < S.length := fun z => hl (decide_eq_true z)
              have hna : a ∉ ι := fun z => by
                obtain ⟨j, hj⟩ := List.getElem?_of_mem z
                have hj1 := (List.getElem?_eq_some_iff.mp hj).1
                have := nodup_get h1.nd hla (prefix_get e.pre hj)
                rw [h0.len] at hj1
                omega
              have hHa : H a = none := e.fresh a (List.mem_of_getElem? hla) hna
              have pre2 : ι <+: ι ++ [a] := List.prefix_append _ _
              refine ho (ι ++ [a]) H' ⟨pre2, e.tup, e.frz, e.oth, fun b hb hn => ?_⟩ ?_ _ (.loc (by rw [← h0.len]; simp))
              · rcases List.mem_append.mp hb with z | z
                · exact absurd z hn
                · have : b = a := by simpa using z
                  rw [this]; exact hHa
              · have hb := StOk.back e h0 h1 ht
                obtain ⟨b, hb2, c1⟩ := h1.cell l c q
                rw [hla] at hb2; cases hb2
                cases c with
                | lst ds =>
                  obtain ⟨xs, hx, rr⟩ := c1
                  exact hb.take hna hx (Reps.cut e.pre rr (by rw [h0.len]; exact hc))
                | dct kvs => exact c1.elim
          · rw [if_neg hc] at ho; exact dflt ho
      | _ => exact dflt ho
  · rw [if_neg ht] at ho
    exact ho ι' H' e h1 v r
end
end EV

set_option Elab.async false
set_option linter.all false
set_option maxRecDepth 100000
namespace PySem
open Sem (wp)
open AutoSeq1 (wpAny_loadPart')
section
variable {prog : Program} {w : World} {A : Around} {E : Value → Shared → Prop} {s : Shared}
theorem wpAny_collect_range {Q : List Value → Shared → Prop} {r : Addr} {a b c : Int} {t u v : Tok} {n : Nat} (hh : A.handled = none) (hr : IsRange s.heap r a b c t u v) (hsmall : Builtin.Range.small a b c = true)
    (hn : Builtin.Range.rangeSize a b c = n) (hlen : n ≤ 2 ^ 24)
    (hQ : ∀ (h' : Heap) (tk : Nat) (acc : Array Value), (∀ b o', s.heap.get? b = some o' → h'.get? b = some o') → ItemsOf (fun i v => ∃ t, v = .int (a + i * c) t) acc n → Q acc.toList { s with heap := h', toks := tk }) :
    wpAny (model prog w) A (collect (.ref r)) Q E s := by
  unfold collect
  refine wpAny_bind (wpAny_runValue (codeAny_builtin F.entry_proto_collect ?_))
  rw [Around.under_plainId F.plain_proto_collect _]
  show wpAny _ A.in1 (newList [] >>= fun l => again (.builtin "list.__iadd__" ⟨[l, .ref r], []⟩)) _ _ s
  refine wpAny_bind (wpAny_newObj_type ?_)
  refine wpAny_pure ⟨plainId_quiet F.plain_list_iadd _, codeAny_builtin F.entry_list_iadd ?_⟩
  rw [Around.under_plainId F.plain_list_iadd _]
  show wpAny _ A.in1 (Builtin.List.listExtendWith (.ref s.heap.objs.size) (.ref r) (.ref s.heap.objs.size)) _ _ _
  have hS : (s.heap.push { cls := .type "list", data := .seq ([] : List Value).toArray }).get? s.heap.objs.size = some { cls := .type "list", data := .seq #[] 0 } := Heap.get?_push_size _ rfl
  refine wpAny_mono (wpAny_extend_range (A := A) (R := fun r' s' => r' = .ok (.ret (.ref s.heap.objs.size)) ∧ ∃ h' tk acc c', (∀ b o', s.heap.get? b = some o' → h'.get? b = some o') ∧ h'.get? s.heap.objs.size = some { cls := .type "list", dict := none, data := .seq acc c', slots := #[] } ∧ ItemsOf (fun i v => ∃ t, v = .int (a + i * c) t) acc n ∧ s' = { s with heap := h', toks := tk })
    (s := { s with heap := s.heap.push { cls := .type "list", data := .seq ([] : List Value).toArray } }) hh (Heap.get?_push_of_some _ hr) hsmall hn hlen _ _ 0 hS fun h' tk acc' c' hk hS' hacc => ⟨rfl, h', tk, acc', c', fun b o' hb => hk b o' (Nat.ne_of_lt (Heap.lt_size hb)) (Heap.get?_push_of_some _ hb), hS', hacc, rfl⟩) (fun fin s' h => ?_) (fun e s' h => ?_)
  · have fin' : ∀ s', (∃ h' tk acc c', (∀ b o', s.heap.get? b = some o' → h'.get? b = some o') ∧ h'.get? s.heap.objs.size = some { cls := .type "list", dict := none, data := .seq acc c', slots := #[] } ∧ ItemsOf (fun i v => ∃ t, v = .int (a + i * c) t) acc n ∧ s' = { s with heap := h', toks := tk }) →
        wpAny (model prog w) A (match Value.ref s.heap.objs.size with
          | Value.ref a => do
            match (← load a).data with
              | Data.seq xs _ => pure xs.toList
              | _ => unsupported "internal:collect"
          | _ => unsupported "internal:collect") Q E s' := by
      rintro s' ⟨h', tk, acc, c', hk, hS', hacc, rfl⟩
      show wpAny _ A (load s.heap.objs.size >>= _) _ _ _
      exact wpAny_bind (wpAny_load hS' (wpAny_pure (hQ h' tk acc hk hacc)))
    cases fin with
    | done f =>
      obtain ⟨e, h⟩ := h
      cases e
      exact fin' s' h
    | again c' => exact ⟨h.1, codeAny_mono h.2 fun r s'' hr => by obtain ⟨rfl, h⟩ := hr; exact fin' s'' h⟩
  · exact absurd h.1 (by simp)
end
theorem meets_tuple_new_range (r : Addr) (a b c : Int) (t u v : Tok) (n : Nat) (hsmall : Builtin.Range.small a b c = true) (hn : Builtin.Range.rangeSize a b c = n) (hlen : n ≤ 2 ^ 24) :
    Meets (Builtin.«tuple.__new__» ⟨[.type "tuple", .ref r], []⟩)
      (fun A R s => A.handled = none ∧ IsRange s.heap r a b c t u v ∧ ∀ (h' : Heap) (tk : Nat) (acc : Array Value), (∀ b o', s.heap.get? b = some o' → h'.get? b = some o') → ItemsOf (fun i v => ∃ t, v = .int (a + i * c) t) acc n → R (.ok (.ret (.ref h'.objs.size))) { s with heap := h'.push { cls := .type "tuple", data := .seq acc }, toks := tk }) :=
  .of_wp fun prog w A R s h => by
    obtain ⟨hp, g, d, tk, os⟩ := s; obtain ⟨hh, ht, h⟩ := h
    have hsub := sub_tuple_self
    have hinit := init_tuple_lookup
    have hmh := madeHere_tuple
    have hT : Shared.TypeIs ⟨hp, g, d, tk, os⟩ (.ref r) "range" := ⟨_, ht, rfl⟩
    have hh1 : A.in1.handled = none := hh
    wp_walk using wpAny_loadPart' ht, wpAny_typeOf hT, wpAny_collect_range hh1 ht hsmall hn hlen
    intro h' tk' acc hk hacc
    show wpAny _ _ (Builtin.Tuple.tupleExact acc.toList.toArray >>= fun v => ret v) _ _ _
    unfold Builtin.Tuple.tupleExact
    refine wpAny_bind (wpAny_newObj_type ?_ (show acc.toList.toArray.size ≤ sizeLine by simp only [Array.toArray_toList]; rw [hacc.1, sizeLine_eq]; omega))
    refine wpAny_pure ⟨_, rfl, ?_⟩
    have e : acc.toList.toArray = acc := by simp
    rw [e]
    exact h h' tk' acc hk hacc
section
variable {prog : Program} {w : World} {A : Around} {E : Value → Shared → Prop} {s : Shared}
theorem call_tuple_range {Q : Value → Shared → Prop} {r : Addr} {a b c : Int} {t u v : Tok} {n : Nat} (hh : A.handled = none) (hr : IsRange s.heap r a b c t u v) (hsmall : Builtin.Range.small a b c = true)
    (hn : Builtin.Range.rangeSize a b c = n) (hlen : n ≤ 2 ^ 24)
    (h : ∀ (h' : Heap) (tk : Nat) (acc : Array Value), (∀ b o', s.heap.get? b = some o' → h'.get? b = some o') → ItemsOf (fun i v => ∃ t, v = .int (a + i * c) t) acc n → Q (.ref h'.objs.size) { s with heap := h'.push { cls := .type "tuple", data := .seq acc }, toks := tk }) :
    wpAny (model prog w) A (call (.type "tuple") [.ref r]) Q E s :=
  callType_new F.called_tuple (by decide) (F.typeCall_tuple_1 _) (F.newCall_tuple_1 _) (fun obj => F.args_object_init_2 obj _) F.entry_tuple_new
    (meets_tuple_new_range r a b c t u v n hsmall hn hlen) ⟨hh, hr, fun h' tk acc hk hacc => ⟨⟨_, Heap.get?_push_size _ rfl, rfl⟩, h h' tk acc hk hacc⟩⟩
end
end PySem
namespace EV
open PySem PySem.Spec PyProof.Rows L2
section
variable {X : Cx} {Γ : Gx} {xw : XW} {sub : Sub} {a b : PySem.Expr} {ta : TA} {p pos : Pos}
noncomputable def tRange (ta : TA) : TE := fun σ H Q => ta σ H fun vs H1 => ∃ lo hi : Int, ((vs = [.int hi] ∧ lo = 0) ∨ vs = [.int lo, .int hi]) ∧ ∀ p, H1 p = none → Q (.ref p) (upd H1 p (.rng lo hi))
theorem pe_range1 (hg : Gl X "range") (hm : X.mg "range" = none) (ha : PA X [a] ta) (hs : starEach [a] X.env = [(false, eval a X.env)]) (hl : ∀ σ H Q, ta σ H Q → ta σ H fun vs H1 => vs.length = 1 ∧ Q vs H1) : PE X (.Call (.Name "range" p) [a] [] pos) (tRange ta) := by
  intro pins s σ H Q I h
  refine Call_ (ld_blt I hg hm boot_range (PyProof.Rows.callWith_type1 (thn (ha pos pins s σ H _ I (hl _ _ _ h)) fun us s1 ⟨vs, H1, I1, r1, hlen, q1⟩ => ?_) hs rfl))
  obtain ⟨lo, hi, e, q⟩ := q1
  rcases e with ⟨e, rfl⟩ | e
  · subst e
    obtain ⟨u, rfl, t, rfl⟩ := vals1 r1
    exact call_range_1 ⟨.ref _, _, I1.laid (o := .rng 0 hi) (fun b o e => Heap.get?_push_of_some _ e) (Nat.le_refl _) (show ∃ t u v, _ from ⟨_, _, _, Heap.get?_push_size _ rfl⟩), rfl, q _ (I1.hok.fresh (Nat.le_refl _))⟩
  · subst e; cases hlen
theorem pe_range2 (hg : Gl X "range") (hm : X.mg "range" = none) (ha : PA X [a, b] ta) (hs : starEach [a, b] X.env = [(false, eval a X.env), (false, eval b X.env)]) (hs2 : starEach [b] X.env = [(false, eval b X.env)]) (hl : ∀ σ H Q, ta σ H Q → ta σ H fun vs H1 => vs.length = 2 ∧ Q vs H1) : PE X (.Call (.Name "range" p) [a, b] [] pos) (tRange ta) := by
  intro pins s σ H Q I h
  refine Call_ (ld_blt I hg hm boot_range (PyProof.Rows.callWith_type1 (thn (ha pos pins s σ H _ I (hl _ _ _ h)) fun us s1 ⟨vs, H1, I1, r1, hlen, q1⟩ => ?_) (by rw [hs, hs2]) (by rw [hs2]; rfl)))
  obtain ⟨lo, hi, e, q⟩ := q1
  rcases e with ⟨e, rfl⟩ | e
  · subst e; cases hlen
  · subst e
    obtain ⟨u, v, rfl, ⟨t, rfl⟩, ⟨t', rfl⟩⟩ := vals2 r1
    exact call_range_2 ⟨.ref _, _, I1.laid (o := .rng lo hi) (fun b o e => Heap.get?_push_of_some _ e) (Nat.le_refl _) (show ∃ t u v, _ from ⟨_, _, _, Heap.get?_push_size _ rfl⟩), rfl, q _ (I1.hok.fresh (Nat.le_refl _))⟩
theorem items_vals {lo : Int} {n : Nat} {acc : Array Value} (h : ItemsOf (fun i v => ∃ t, v = .int (lo + i * 1) t) acc n) : Vals ((List.range n).map fun (k : Nat) => V.int (lo + k)) acc.toList := by
  obtain ⟨h1, h2⟩ := h
  refine Paired.of_get (by simp [h1]) fun i x y e1 e2 => ?_
  rw [List.getElem?_map] at e1
  have hi : i < n := by
    have := (List.getElem?_eq_some_iff.mp e2).1
    simpa [h1] using this
  rw [List.getElem?_range hi] at e1
  cases e1
  have e3 : acc[i]? = some y := by rw [← Array.getElem?_toList]; exact e2
  obtain ⟨t, rfl⟩ := h2 i y e3
  exact ⟨t, by simp⟩
theorem size_up {lo hi : Int} : Builtin.Range.rangeSize lo hi 1 = ((hi - lo).toNat : Nat) := by rw [rangeSize_one]; split <;> omega
theorem call_tuple_rng (hc : X.calm = true) : CallR X (.type "tuple") (fun xs H Q => ∃ p lo hi, xs = [.ref p] ∧ H p = some (.rng lo hi) ∧ (near lo = true ∧ near hi = true) ∧ (hi - lo).toNat ≤ sizeMax ∧ ∀ l, H l = none → Q (.ref l) (upd H l (.tup ((List.range (hi - lo).toNat).map fun (k : Nat) => V.int (lo + k))))) := by
  intro pins s σ H xs us Q I r h
  obtain ⟨p, lo, hi, rfl, hp, ⟨n1, n2⟩, hz, q⟩ := h
  obtain ⟨u, rfl, rx⟩ := vals1 r
  cases rx
  obtain ⟨t, u, v, hr⟩ := I.hok p _ hp
  have n1 := near_iff n1
  have n2 := near_iff n2
  refine call_tuple_range (I.ok.hd hc) hr (small_one n1.1 n1.2 n2.1 n2.2) size_up hz fun h' tk acc hk hacc => ?_
  have hv := items_vals hacc
  have I1 : Inv X pins σ H { s with heap := h', toks := tk } := I.kept hk
  have hl : ((List.range (hi - lo).toNat).map fun (k : Nat) => V.int (lo + k)).length ≤ sizeLine := by rw [List.length_map, List.length_range]; exact hz
  have I2 : Inv X pins σ (upd H h'.objs.size (.tup ((List.range (hi - lo).toNat).map fun (k : Nat) => V.int (lo + k)))) { s with heap := h'.push { cls := .type "tuple", data := .seq acc }, toks := tk } :=
    I1.laid (t' := tk) (fun b o e => Heap.get?_push_of_some _ e) (Nat.le_refl _) (show ObjOk X.prog X.w _ _ _ (.tup _) from ⟨hl, acc.toList, hv, by simpa using IsTup.new _ _⟩)
  exact ⟨.ref h'.objs.size, _, I2, rfl, q _ (I1.hok.fresh (Nat.le_refl _))⟩
/-- the ints of a range of one or two arguments -/
theorem rngOf_two {ds : List D} {is : List Int} (h : rngOf ds = some is) (hl : ds.length = 1 ∨ ds.length = 2) : ∃ lo hi : Int, ((ds = [.int hi] ∧ lo = 0) ∨ ds = [.int lo, .int hi]) ∧ near lo = true ∧ near hi = true ∧ is = (List.range (hi - lo).toNat).map fun (k : Nat) => lo + k := by
  match ds, h, hl with
  | [d], h, _ =>
    cases d with
    | int j =>
      simp only [rngOf] at h
      split at h
      · rename_i hn
        cases h
        exact ⟨0, j, .inl ⟨rfl, rfl⟩, by decide, hn, rng_up 0 j⟩
      · cases h
    | _ => cases h
  | [d, e], h, _ =>
    cases d with
    | int i =>
      cases e with
      | int j =>
        simp only [rngOf] at h
        split at h
        · rename_i hn
          cases h
          rw [Bool.and_eq_true] at hn
          exact ⟨i, j, .inr rfl, hn.1, hn.2, rng_up i j⟩
        · cases h
      | _ => cases h
    | _ => cases h
  | [], _, hl => rcases hl with hl | hl <;> cases hl
  | _ :: _ :: _ :: _, _, hl => simp at hl
theorem rng_read {m : Sg → M (List D)} {mk : List Int → M D} {mkV : List V → HO} {k : Nat} (hk : k = 1 ∨ k = 2) (hlen : ∀ σ S ds S', m σ S = .ok ds S' → ds.length = k)
    (hmk : ∀ {ι H S} {Q : VK} {is : List Int} {p : Addr}, Out Γ xw ι H (mk is S) (fun d _ ι' H' => ∀ v, Rep Γ ι' H' d v → Q v H') → StOk Γ ι H S → H p = none → Q (.ref p) (upd H p (mkV (is.map .int))))
    {σ : L2.St} {H : Hp} {Q : VK} (h : tM Γ xw (fun σ => m σ >>= fun ds => opt (rngOf ds) >>= fun is => guard (fits is.length) (mk is)) σ H Q) :
    tRange (tMA Γ xw m) σ H fun x H1 => ∃ p lo hi, [x] = [V.ref p] ∧ H1 p = some (.rng lo hi) ∧ (near lo = true ∧ near hi = true) ∧ (hi - lo).toNat ≤ sizeMax ∧ ∀ l, H1 l = none → Q (.ref l) (upd H1 l (mkV ((List.range (hi - lo).toNat).map fun (k : Nat) => V.int (lo + k)))) := by
  obtain ⟨σd, ι, S, he, hs, ho⟩ := h
  refine ⟨σd, ι, S, he, hs, Out.monoE ho.bind fun ds S' ι' H' eq _ _ ⟨s', e', o'⟩ vs rs => ?_⟩
  have hl := hlen _ _ _ _ eq
  obtain ⟨is, q, o'⟩ := Out.opt o'
  obtain ⟨hz, o'⟩ := Out.guard o'
  obtain ⟨lo, hi, e, n1, n2, rfl⟩ := rngOf_two q (by rw [hl]; exact hk)
  refine ⟨lo, hi, ?_, fun p hp => ⟨p, lo, hi, rfl, upd_same, ⟨n1, n2⟩, by simpa using of_decide_eq_true hz, fun l hl => ?_⟩⟩
  · rcases e with ⟨rfl, rfl⟩ | rfl
    · exact .inl ⟨reps_ints (is := [hi]) rs, rfl⟩
    · exact .inr (reps_ints (is := [lo, hi]) rs)
  · have := hmk (Out.step o' (Ext.laid hp (o := .rng lo hi))) (s'.laid hp _) hl
    rw [List.map_map] at this
    exact this
theorem len_up {m : Sg → M (List D)} {k : Nat} (hlen : ∀ σ S ds S', m σ S = .ok ds S' → ds.length = k) : ∀ σ H Q, tMA Γ xw m σ H Q → tMA Γ xw m σ H fun vs H1 => vs.length = k ∧ Q vs H1 := fun σ H Q h => by
  obtain ⟨σd, ι, S, he, hs, ho⟩ := h
  exact ⟨σd, ι, S, he, hs, Out.monoE ho fun ds S' ι' H' eq _ _ q vs rs => ⟨by rw [← rs.length]; exact hlen _ _ _ _ eq, q vs rs⟩⟩
/-- tuple(range(..)), list(range(..)) -/
theorem n_rangeT {e : PySem.Expr} {m : Sg → M (List D)} {k : Nat} (hk : k = 1 ∨ k = 2) (hc : X.calm = true) (hlen : ∀ σ S ds S', m σ S = .ok ds S' → ds.length = k) (hr : PE X e (tRange (tMA Γ xw m))) (hs : starEach [e] X.env = [(false, eval e X.env)]) (hg : Gl X "tuple") (hm : X.mg "tuple" = none) :
    PE X (.Call (.Name "tuple" p) [e] [] pos) (tM Γ xw fun σ => m σ >>= biD sub .rangeT) := by
  refine PE.imp (pe_callTy (call_tuple_rng hc) hg hm PyProof.Rows.boot_tuple (pa_cons hr pa_nil (by rw [hs]; rfl)) (by decide +kernel) (by decide +kernel) (by rw [hs]; rfl) rfl) fun σ H Q h => ?_
  exact rng_read (mk := fun is => pure (.tup (is.map .int))) (mkV := .tup) hk hlen (fun ho hS hp => Out.tup ho hS hp (ints_reps _)) h
end
end EV

set_option linter.all false
/-! From a program's text to data programs. -/
namespace EV
open PySem

inductive GE where | fn | val (d : D) | cls
structure TC where
  sc : Scope
  N : List Str
  inF : Bool
  gt : List (Str × GE)

noncomputable def idx : List Str → Str → Option Nat
  | [], _ => none
  | y :: r, x => if y = x then some 0 else (idx r x).map (· + 1)
noncomputable def visB (sc : Scope) (x : Str) : Bool := match sc.names.lookup x with
  | some .local => true
  | some .cell => true
  | some .free => true
  | _ => false
noncomputable def locB (c : TC) (x : Str) : Bool := match c.sc.names.lookup x with
  | some .local => true
  | some .cell => c.inF
  | _ => false
noncomputable def glB (c : TC) (x : Str) : Bool := decide (c.sc.names.lookup x = some .globalImplicit)
noncomputable def okName (x : Str) : Bool := !(x == ("__debug__" : Str)) && !(x == ("__classdict__" : Str))
noncomputable def op2 : Operator → Option Op2
  | .Add => some .add
  | .Sub => some .sub
  | .Mult => some .mul
  | .FloorDiv => some .fdiv
  | .Mod => some .mod
  | .Pow => some .pow
  | _ => none
noncomputable def cmO : CmpOp → Option Cm
  | .Lt => some .lt
  | .LtE => some .le
  | .Gt => some .gt
  | .GtE => some .ge
  | .Eq => some .eq
  | .NotEq => some .ne
  | .In => some .isin
  | .NotIn => some .notin
  | _ => none
noncomputable def trConst : Const → Option E
  | .none => some (.c .non)
  | .bool b => some (.c (.bl b))
  | .int i => some (.c (.int i))
  | .str s => some (.c (.str s))
  | _ => none
noncomputable def trName (c : TC) (x : Str) : Option E :=
  if okName x then
    if visB c.sc x then (idx c.N x).map .v
    else if glB c x then match c.gt.lookup x with
      | some (.val d) => some (.c d)
      | _ => none
    else none
  else none
noncomputable def bltB (c : TC) (x : Str) : Bool := glB c x && (c.gt.lookup x).isNone
noncomputable def biOf (x : Str) : Option Bi :=
  if x = "len" then some .len else if x = "all" then some .all else if x = "sum" then some .sum else if x = "min" then some .min
  else if x = "max" then some .max else if x = "tuple" then some .tuple else none
noncomputable def tyOfN (x : Str) : Option Ty :=
  if x = "int" then some .int else if x = "bool" then some .bool else if x = "str" then some .str else if x = "list" then some .list else if x = "tuple" then some .tuple else if x = "dict" then some .dict else none
noncomputable def meOf (x : Str) : Option Me := if x = "append" then some .append else none

noncomputable def trEs (f : PySem.Expr → Option E) : List PySem.Expr → Option E
  | [] => some .nl
  | e :: r => match f e, trEs f r with
    | some a, some b => some (.cs a b)
    | _, _ => none
noncomputable def trO (f : PySem.Expr → Option E) : Option PySem.Expr → Option E
  | none => some .nl
  | some e => match f e with
    | some .nl => none
    | o => o
noncomputable def trNames (c : TC) : List PySem.Expr → Option (List Nat)
  | [] => some []
  | .Name x _ :: r => if locB c x then match idx c.N x, trNames c r with
      | some i, some is => some (i :: is)
      | _, _ => none
    else none
  | _ => none
noncomputable def trTg (c : TC) : PySem.Expr → Option Tg
  | .Name x _ => if locB c x then (idx c.N x).map .one else none
  | .Tuple es _ _ => (trNames c es).map .many
  | _ => none
noncomputable def isTup : PySem.Expr → Bool
  | .Tuple _ _ _ => true
  | _ => false
noncomputable def isRange (c : TC) (x : Str) : Bool := bltB c x && decide (x = "range")
noncomputable def isEnumr (c : TC) (x : Str) : Bool := bltB c x && decide (x = "enumerate")
noncomputable def few (es : List PySem.Expr) : Bool := decide (1 ≤ es.length) && decide (es.length ≤ 3)
noncomputable def notSet : PySem.Expr → Bool
  | .Set _ _ _ => false
  | _ => true
noncomputable def trI (f : PySem.Expr → Option E) (c : TC) (tg : PySem.Expr) (e : PySem.Expr) : Option E :=
  if notSet e then match e with
    | .Call (.Name x _) args [] _ =>
      if isRange c x then (if few args then (trEs f args).map .iRng else none)
      else if isEnumr c x then match isTup tg, args with
        | true, [a] => (f a).map .iEnum
        | _, _ => none
      else (f e).map .iSeq
    | _ => (f e).map .iSeq
  else none
/-- a name that nobody bears -/
noncomputable def mangle (x : Str) : Str := ⟨#[0] ++ x.cps⟩
noncomputable def relabS (scope sc : Scope) : Scope :=
  { scope with names := scope.names.map fun (n, k) => if (k == .free && sc.kind == .function && sc.names.lookup n == some .cell) then (n, .cell) else (n, k) }
noncomputable def isFree (scope : Scope) (x : Str) : Bool := scope.names.any fun y => decide (y.1 = x) && decide (y.2 = .free)
noncomputable def own (scope : Scope) : List Str := (scope.names.filter fun y => decide (y.2 = .local)).map (·.1)
noncomputable def oldN (scope : Scope) (x : Str) : Str := if isFree scope x then x else mangle x
noncomputable def inComp (c : TC) (scope : Scope) : TC := { c with sc := relabS scope c.sc, N := c.N.map (oldN scope) ++ own scope, inF := false }
noncomputable def nodupB : List Str → Bool
  | [] => true
  | x :: r => !(r.any fun y => decide (y = x)) && nodupB r
noncomputable def compOkB (c : TC) (scope : Scope) : Bool :=
  scope.names.all (fun y => !decide (y.2 = .free) || (match c.sc.names.lookup y.1 with | some .cell => true | some .free => true | _ => false)) &&
  scope.names.all (fun y => !decide (y.2 = .cell)) && decide (scope.kind = .function) &&
  scope.names.all (fun y => !decide (y.2 = .local) || decide (scope.names.lookup y.1 = some .local)) &&
  nodupB (c.N.map (oldN scope) ++ own scope) &&
  c.N.all (fun x => if isFree scope x then !decide ((relabS scope c.sc).names.lookup x = some .local) else !visB (relabS scope c.sc) (mangle x))
noncomputable def Tg.allGe (n : Nat) : Tg → Bool
  | .one i => decide (n ≤ i)
  | .many is => is.all fun i => decide (n ≤ i)
noncomputable def notCall0 : PySem.Expr → Bool
  | .Call _ [] [] _ => false
  | _ => true

noncomputable def two (es : List PySem.Expr) : Bool := decide (es.length = 1) || decide (es.length = 2)
/-- tuple(range(..)), list(range(..)) -/
noncomputable def rngB (c : TC) (x : Str) : List PySem.Expr → Option (Bi × List PySem.Expr)
  | [.Call (.Name r _) ra [] _] => if isRange c r && two ra then (if x = "tuple" then some (.rangeT, ra) else none) else none
  | _ => none
noncomputable def isIs : CmpOp → Option Bool
  | .Is => some true
  | .IsNot => some false
  | _ => none
noncomputable def isNoneK : PySem.Expr → Bool
  | .Constant k _ _ => (match k with
    | .none => true
    | _ => false)
  | _ => false
noncomputable def isDoc : PySem.Expr → Bool
  | .Constant k _ _ => (match k with
    | .str _ => true
    | _ => false)
  | _ => false
noncomputable def isText1 : List PySem.Expr → Bool
  | [e] => isDoc e
  | _ => false
noncomputable def trE : Nat → TC → PySem.Expr → Option E
  | 0, _, _ => none
  | n + 1, c, e => match e with
    | .Name x _ => trName c x
    | .Constant k _ _ => trConst k
    | .BinOp a op b _ => match op2 op, trE n c a, trE n c b with
      | some o, some a', some b' => some (.bin o a' b')
      | _, _, _ => none
    | .UnaryOp op a _ => match op, trE n c a with
      | .Not, some a' => some (.not a')
      | .USub, some a' => some (.neg a')
      | _, _ => none
    | .BoolOp op vs p => match vs with
      | [] => none
      | [a] => trE n c a
      | a :: b :: r => match op, trE n c a, trE n c (.BoolOp op (b :: r) p) with
        | .And, some a', some b' => some (.and a' b')
        | .Or, some a', some b' => some (.or a' b')
        | _, _, _ => none
    | .IfExp t a b _ => match trE n c t, trE n c a, trE n c b with
      | some t', some a', some b' => some (.ite t' a' b')
      | _, _, _ => none
    | .Compare a ops cs _ => match ops, cs with
      | [op], [b] => match cmO op, trE n c a, trE n c b, behindInMarks op b with
          | some o, some a', some b', false => some (.cmp o a' b')
          | _, _, _, _ => none
      | [op, op'], [b, d] => match cmO op, cmO op', trE n c a, trE n c b, trE n c d, lastMarks [op, op'] [b, d] with
        | some o, some o', some a', some b', some d', false => some (.chn o o' a' b' d')
        | _, _, _, _, _, _ => none
      | _, _ => none
    | .Tuple es _ _ => (trEs (trE n c) es).map .tup
    | .List es _ => (trEs (trE n c) es).map .lst
    | .Subscript a i _ => match i with
      | .Slice lo hi none _ => match trE n c a, trO (trE n c) lo, trO (trE n c) hi with
        | some a', some l, some h => some (.sl a' l h)
        | _, _, _ => none
      | .Slice _ _ (some _) _ => none
      | i => match trE n c a, trE n c i with
        | some a', some i' => some (.ix a' i')
        | _, _ => none
    | .Call f args kws cpos => match f, kws with
      | .Name x _, [] =>
        if okName x && glB c x then match c.gt.lookup x with
          | some .fn => (trEs (trE n c) args).map (.call x)
          | some _ => none
          | none =>
            if x = "isinstance" then match args with
              | [a, .Name y _] => if okName y && bltB c y then match tyOfN y, trE n c a with
                  | some t, some a' => some (.bi (.inst t) (.cs a' .nl))
                  | _, _ => none
                else none
              | _ => none
            else match rngB c x args with
              | some (b, ra) => (trEs (trE n c) ra).map (.bi b)
              | none => match args with
                | [] => none
                | a :: r => match biOf x, trEs (trE n c) (a :: r) with
                  | some b, some es => some (.bi b es)
                  | _, _ => none
        else none
      | .Attribute o name apos, [] => match args with
        | [] => none
        | a :: r => if notCall0 o && (apos.endLine == cpos.line) && decide (args.length < 20) then match meOf name, trE n c o, trEs (trE n c) (a :: r) with
            | some m, some o', some es => some (.me m o' es)
            | _, _, _ => none
          else none
      | _, _ => none
    | .ListComp elt gens scope _ => match gens with
      | [⟨tg, iter, ifs, asy⟩] => if asy = 0 && compOkB c scope then
          match trI (trE n c) c tg iter, trTg (inComp c scope) tg, trE n (inComp c scope) elt, (match ifs with | [] => some .nl | [t] => trO (trE n (inComp c scope)) (some t) | _ => none) with
          | some it, some t, some el, some tt => if t.allGe c.N.length then some (.comp (own scope).length el t it tt) else none
          | _, _, _, _ => none
        else none
      | _ => none
    | _ => none

noncomputable def notComp : PySem.Expr → Bool
  | .ListComp _ _ _ _ => false
  | .SetComp _ _ _ _ => false
  | .DictComp _ _ _ _ _ => false
  | _ => true
noncomputable def asgOk : PySem.Expr → PySem.Expr → Bool
  | .Name _ _, _ => true
  | .Tuple _ _ _, v => !isTup v && notComp v
  | _, _ => false
noncomputable def trSs (f : Stmt → Option S) : List Stmt → Option S
  | [] => some .skip
  | [s] => f s
  | s :: r => match f s, trSs f r with
    | some a, some b => some (.seq a b)
    | _, _ => none
noncomputable def trRaise (c : TC) : PySem.Expr → Option S
  | .Call f args kws _ => match f, kws with
    | .Name x _, [] => if isText1 args && (okName x && glB c x) then match c.gt.lookup x with
        | some .cls => some (.rais x)
        | _ => none
      else none
    | _, _ => none
  | _ => none
/-- m: how deep expressions are -/
noncomputable def trS (m : Nat) : Nat → TC → Stmt → Option S
  | 0, _, _ => none
  | n + 1, c, s => match s with
    | .Return none _ => some .retN
    | .Return (some e) _ => (trE m c e).map .ret
    | .Expr e _ => if isDoc e then some .skip else if notComp e then (trE m c e).map .ex else none
    | .Pass _ => some .skip
    | .Assign ts e _ => match ts with
      | [tg] => if asgOk tg e then match trTg c tg, trE m c e with
          | some t, some e' => some (.set t e')
          | _, _ => none
        else none
      | _ => none
    | .If t a b _ => match trE m c t, trSs (trS m n c) a, trSs (trS m n c) b with
      | some t', some a', some b' => some (.ite t' a' b')
      | _, _, _ => none
    | .For tg it body els _ => match els, trTg c tg, trI (trE m c) c tg it, trSs (trS m n c) body with
      | [], some t, some i, some b => some (.forS t i b)
      | _, _, _, _ => none
    | .Raise (some e) none _ => trRaise c e
    | _ => none
noncomputable def depth : Nat := 60
noncomputable def argNames (a : Arguments) : List Str := a.args.map (·.arg)
noncomputable def plainArgs (a : Arguments) : Bool := a.posonlyargs.isEmpty && a.vararg.isNone && a.kwonlyargs.isEmpty && a.kw_defaults.isEmpty && a.kwarg.isNone && a.defaults.isEmpty
/-- the names of a def: the parameters, then the others -/
noncomputable def namesOf (a : Arguments) (sc : Scope) : List Str := argNames a ++ (sc.names.filter fun y => (decide (y.2 = .local) || decide (y.2 = .cell)) && !((argNames a).any fun x => decide (x = y.1))).map (·.1)
noncomputable def tcOf (gt : List (Str × GE)) (a : Arguments) (sc : Scope) : TC := ⟨sc, namesOf a sc, true, gt⟩
noncomputable def scopeOkB (a : Arguments) (sc : Scope) : Bool :=
  plainArgs a && decide (sc.kind = .function) && !sc.isCoroutine && !sc.isGenerator && nodupB (namesOf a sc) && (argNames a).all (fun x => match sc.names.lookup x with | some .local => true | some .cell => true | _ => false) && sc.names.all fun y => !decide (y.2 = .free)
noncomputable def trF (gt : List (Str × GE)) : Stmt → Option Fn
  | .FunctionDef _ a body _ _ _ sc _ _ _ => if scopeOkB a sc then (trSs (trS depth depth (tcOf gt a sc)) body).map fun b => ⟨(argNames a).length, (namesOf a sc).length, b⟩ else none
  | _ => none
end EV

set_option Elab.async false
set_option linter.all false
set_option maxRecDepth 100000
namespace EV
open PySem PySem.Spec PyProof.Rows L2

/-! ### what the translator's checks say -/
theorem idx_get : ∀ {l : List Str} {x : Str} {i : Nat}, idx l x = some i → l[i]? = some x
  | [], _, _, h => by cases h
  | y :: r, x, i, h => by
    unfold idx at h
    by_cases e : y = x
    · rw [if_pos e] at h; cases h; subst e; rfl
    · rw [if_neg e] at h
      cases q : idx r x with
      | none => rw [q] at h; cases h
      | some j => rw [q] at h; cases h; show r[j]? = some x; exact idx_get q
theorem nodupB_ok : ∀ {l : List Str}, nodupB l = true → l.Nodup
  | [], _ => List.nodup_nil
  | x :: r, h => by
    rw [nodupB, Bool.and_eq_true] at h
    refine List.nodup_cons.mpr ⟨fun m => ?_, nodupB_ok h.2⟩
    have : (r.any fun y => decide (y = x)) = true := List.any_eq_true.mpr ⟨x, m, decide_eq_true rfl⟩
    rw [this] at h; exact absurd h.1 (by simp)
theorem visB_ok {sc : Scope} {x : Str} (h : visB sc x = true) : Vis sc x := by
  unfold visB at h
  unfold Vis
  cases q : sc.names.lookup x with
  | none => rw [q] at h; cases h
  | some k => rw [q] at h; cases k <;> first | exact .inl rfl | exact .inr (.inl rfl) | exact .inr (.inr rfl) | cases h
theorem of_vis {sc : Scope} {x : Str} (h : Vis sc x) : visB sc x = true := by
  unfold visB
  rcases h with h | h | h <;> rw [h]
theorem okName_ok {x : Str} (h : okName x = true) : (x == ("__debug__" : Str)) = false ∧ (x == ("__classdict__" : Str)) = false := by
  unfold okName at h
  rw [Bool.and_eq_true] at h
  exact ⟨by simpa using h.1, by simpa using h.2⟩

/-- the context of the text -/
structure Cok (c : TC) (X : Cx) : Prop where
  sc : X.env.scope = c.sc
  N : X.N = c.N
  nd : X.N.Nodup
  kind : c.sc.kind = .function
  fn : c.inF = true → ∀ x, X.fn x = true
theorem Cok.gl {c : TC} {X : Cx} (C : Cok c X) {x : Str} (h : glB c x = true) : Gl X x := by
  show X.env.scope.names.lookup x = _
  rw [C.sc]; exact of_decide_eq_true h
theorem Cok.loc {c : TC} {X : Cx} (C : Cok c X) {x : Str} (h : locB c x = true) : L2.Loc X.env.scope x ∧ (X.fn x = true ∨ X.env.scope.names.lookup x = some .local) := by
  unfold locB at h
  unfold L2.Loc
  rw [C.sc]
  cases q : c.sc.names.lookup x with
  | none => rw [q] at h; cases h
  | some k =>
    rw [q] at h
    cases k with
    | «local» => exact ⟨.inl rfl, .inr rfl⟩
    | cell => exact ⟨.inr rfl, .inl (C.fn h x)⟩
    | _ => cases h
theorem relab_eq {scope : Scope} {env : Env} : relabel scope env = relabS scope env.scope := rfl

/-! ### names that Python itself gives -/
noncomputable def bltNames : List Str := ["len", "all", "any", "sum", "min", "max", "sorted", "abs", "list", "tuple", "int", "bool", "str", "dict", "range", "enumerate", "isinstance", "set"]

/-! ### what is known where a body runs -/
section
variable (Γ : Gx) (W : XW → Prop) (CX : CXT) (EW : XW → XK)
noncomputable def spF (g : List D → M D) (n : Nat) : Sp := fun vs H Q E => vs.length = n ∧ ∃ xw, W xw ∧ E = EW xw ∧ ∃ ι S ds, StOk Γ ι H S ∧ Reps Γ ι H ds vs ∧ Out Γ xw ι H (g ds S) fun d _ ι' H' => ∀ v, Rep Γ ι' H' d v → Q v H'
structure Fam (gt : List (Str × GE)) (cf : Str → List D → M D) (X : Cx) (xw : XW) : Prop where
  hK : Γ.K = X.K
  calm : X.calm = true
  un : X.A.units + 64 < cLine
  blt : ∀ x ∈ bltNames, gt.lookup x = none → X.mg x = none
  val : ∀ x d, gt.lookup x = some (.val d) → ∃ u v, X.mg x = some u ∧ RelV v u ∧ ∀ ι H, Rep Γ ι H d v
  fn : ∀ x, gt.lookup x = some .fn → ∃ k f fd ps, FnOk X.prog X.w X.K X.mg X.base CX k f fd ps (spF Γ W EW (cf x) ps.length) ∧ Room k X.A ∧ X.mg x = some (.ref f) ∧ PySem.W.keepIn X.K (.ref f) = true ∧ Binds X.K fd ps [] ∧ ∀ ds S, ds.length ≠ ps.length → cf x ds S = .bad
  pass : Passes CX X (EW xw)
  noF : ∀ outer H s e s', ¬ CX outer H s (EW XF) e s'
  ok : W xw
  okF : W XF
end
section
variable {Γ : Gx} {W : XW → Prop} {CX : CXT} {EW : XW → XK} {gt : List (Str × GE)} {cf : Str → List D → M D} {X : Cx} {xw : XW}
theorem Fam.nox (F : Fam Γ W CX EW gt cf X xw) : Fam Γ W CX EW gt cf X.nox XF :=
  ⟨F.hK, F.calm, F.un, F.blt, F.val, F.fn, fun _ _ _ _ _ _ _ h => (F.noF _ _ _ _ _ h).elim, F.noF, F.okF, F.okF⟩
theorem Fam.comp (F : Fam Γ W CX EW gt cf X xw) (scope : Scope) (cl : List (Str × Addr)) (N' : List Str) (fp : List Addr) (s3 : Shared) (H3 : Hp) : Fam Γ W CX EW gt cf (cxComp X scope cl N' fp s3 H3) XF :=
  ⟨F.hK, F.calm, F.un, F.blt, F.val, F.fn, fun _ _ _ _ _ _ _ h => (F.noF _ _ _ _ _ h).elim, F.noF, F.okF, F.okF⟩
theorem Cok.nox {c : TC} (C : Cok c X) : Cok c X.nox := ⟨C.sc, C.N, C.nd, C.kind, C.fn⟩
end

/-! ### the names of a comprehension's block -/
theorem isFree_ok {scope : Scope} {x : Str} (h : isFree scope x = true) : (x, NameKind.free) ∈ scope.names := by
  obtain ⟨⟨n, k⟩, m, e⟩ := List.any_eq_true.mp h
  rw [Bool.and_eq_true] at e
  obtain ⟨e1, e2⟩ := e
  have e1 : n = x := of_decide_eq_true e1
  have e2 : k = .free := of_decide_eq_true e2
  subst e1; subst e2; exact m
theorem compOk {c : TC} {X : Cx} {scope : Scope} (C : Cok c X) (h : compOkB c scope = true) : CompOk X scope (inComp c scope).N (own scope).length ∧
    ∀ cl fp s3 H3, Cok (inComp c scope) (cxComp X scope cl (inComp c scope).N fp s3 H3) := by
  unfold compOkB at h
  simp only [Bool.and_eq_true] at h
  obtain ⟨⟨⟨⟨⟨h1, h2⟩, h3⟩, h4⟩, h5⟩, h6⟩ := h
  rw [List.all_eq_true] at h1 h2 h4 h6
  have hrel : relabel scope X.env = relabS scope c.sc := by rw [relab_eq, C.sc]
  refine ⟨⟨fun y hy hf => ?_, fun y hy hc => ?_, of_decide_eq_true h3, fun y hy hl => ?_, ?_, fun i x hi hx hv => ?_⟩, fun cl fp s3 H3 => ⟨hrel, rfl, nodupB_ok h5, ?_, fun h => by cases h⟩⟩
  · have := h1 y hy
    rw [Bool.or_eq_true] at this
    rcases this with z | z
    · rw [hf] at z; simp at z
    · show X.env.scope.names.lookup y.1 = _ ∨ X.env.scope.names.lookup y.1 = _
      rw [C.sc]
      cases q : c.sc.names.lookup y.1 with
      | none => rw [q] at z; cases z
      | some k => rw [q] at z; cases k <;> first | exact .inl rfl | exact .inr rfl | cases z
  · have := h2 y hy
    rw [hc] at this; simp at this
  · have := h4 y hy
    rw [Bool.or_eq_true] at this
    rcases this with z | z
    · rw [hl] at z; simp at z
    · exact of_decide_eq_true z
  · show (c.N.map (oldN scope) ++ own scope).length = _
    rw [List.length_append, List.length_map, C.N]
  · have hx : (c.N.map (oldN scope) ++ own scope)[i]? = some x := hx
    have hi' : i < c.N.length := by rw [← C.N]; exact hi
    rw [List.getElem?_append_left (by rw [List.length_map]; exact hi'), List.getElem?_map, List.getElem?_eq_getElem hi'] at hx
    have hx : oldN scope c.N[i] = x := Option.some.inj hx
    have hm := h6 c.N[i] (List.getElem_mem hi')
    rw [hrel] at hv ⊢
    unfold oldN at hx
    by_cases hf : isFree scope c.N[i] = true
    · rw [if_pos hf] at hx hm
      subst hx
      refine ⟨by rw [C.N]; exact List.getElem?_eq_getElem hi', isFree_ok hf, fun z => ?_⟩
      rw [z] at hm; simp at hm
    · rw [if_neg hf] at hx hm
      subst hx
      rw [of_vis hv] at hm; simp at hm
  · exact of_decide_eq_true h3
end EV

set_option Elab.async false
set_option linter.all false
set_option maxRecDepth 100000
namespace EV
open PySem PySem.Spec PyProof.Rows L2

/-! ### no stars -/
theorem tr_star {n : Nat} {c : TC} {a : PySem.Expr} {a' : E} (h : trE n c a = some a') : ∀ es env, starEach (a :: es) env = (false, eval a env) :: starEach es env := by
  cases n with
  | zero => cases h
  | succ n => cases a <;> first | (intro _ _; rfl) | cases h
theorem trEs_cons {f : PySem.Expr → Option E} {e : PySem.Expr} {r : List PySem.Expr} {es : E} (h : trEs f (e :: r) = some es) : ∃ a b, f e = some a ∧ trEs f r = some b ∧ es = .cs a b := by
  unfold trEs at h
  cases q : f e with
  | none => rw [q] at h; cases h
  | some a =>
    rw [q] at h
    cases q2 : trEs f r with
    | none => rw [q2] at h; cases h
    | some b => rw [q2] at h; cases h; exact ⟨a, b, rfl, rfl, rfl⟩
theorem tr_stars {n : Nat} {c : TC} : ∀ {es : List PySem.Expr} {es' : E}, trEs (trE n c) es = some es' → ∀ env pos, (backTo pos (starEach es env)).any (·.1) = false ∧ (backTo pos (starEach es env)).all (fun x => !x.1) = true
  | [], _, _, _, _ => ⟨rfl, rfl⟩
  | e :: r, _, h, env, pos => by
    obtain ⟨a, b, h1, h2, _⟩ := trEs_cons h
    rw [tr_star h1]
    obtain ⟨z1, z2⟩ := tr_stars h2 env pos
    constructor
    · show (List.map _ ((false, eval e env) :: starEach r env)).any _ = false
      rw [List.map_cons, List.any_cons]
      have : (List.map (fun x : Bool × Sem Value => (x.1, if x.1 = true then do let v ← x.2; standAt pos; pure v else x.2)) (starEach r env)).any (·.1) = false := z1
      simpa using this
    · show (List.map _ ((false, eval e env) :: starEach r env)).all _ = true
      rw [List.map_cons, List.all_cons]
      have : (List.map (fun x : Bool × Sem Value => (x.1, if x.1 = true then do let v ← x.2; standAt pos; pure v else x.2)) (starEach r env)).all (fun x => !x.1) = true := z2
      simpa using this

section
variable {Γ : Gx} {W : XW → Prop} {CX : CXT} {EW : XW → XK} {gt : List (Str × GE)} {cf : Str → List D → M D} {sub : Sub} {X : Cx} {xw : XW}

/-! ### calls of the program's own defs -/
theorem call_read (hw : W xw) {ps : List Str} {m : Sg → M (List D)} {i : Str} (hb : ∀ ds S, ds.length ≠ ps.length → cf i ds S = .bad) {σ : L2.St} {H : Hp} {Q : VK} (h : tM Γ xw (fun σ => m σ >>= cf i) σ H Q) :
    tCall (spF Γ W EW (cf i) ps.length) [] (EW xw) (tMA Γ xw m) σ H Q := by
  obtain ⟨σd, ι, S, he, hs, ho⟩ := h
  refine ⟨σd, ι, S, he, hs, ho.bind.mono fun ds S' ι' H' _ _ ⟨s', e', o'⟩ vs rs => ?_⟩
  show spF Γ W EW (cf i) ps.length (vs ++ []) H' Q (EW xw)
  rw [List.append_nil]
  refine ⟨?_, xw, hw, rfl, ι', S', ds, s', rs, o'⟩
  by_cases hl : ds.length = ps.length
  · rw [← rs.length]; exact hl
  · rw [hb ds S' hl] at o'; exact o'.elim
theorem n_call (F : Fam Γ W CX EW gt cf X xw) {x : Str} (hx : gt.lookup x = some .fn) (hg : Gl X x) (hdb : (x == ("__debug__" : Str)) = false) {a : PySem.Expr} {es : List PySem.Expr} {m : Sg → M (List D)} {p pos : Pos}
    (ha : PA X (a :: es) (tMA Γ xw m)) (he : starEach (a :: es) X.env = (false, eval a X.env) :: starEach es X.env) (hpl : (backTo pos (starEach es X.env)).any (·.1) = false) :
    PE X (.Call (.Name x p) (a :: es) [] pos) (tM Γ xw fun σ => m σ >>= cf x) := by
  obtain ⟨k, f, fd, ps, hf, hr, hm, hk, hb, hl⟩ := F.fn x hx
  exact PE.imp (pe_call hf hr hg hm hk hb .nil F.pass ha hdb he hpl) fun σ H Q h => call_read F.ok hl h
theorem n_call0 (F : Fam Γ W CX EW gt cf X xw) {x : Str} (hx : gt.lookup x = some .fn) (hg : Gl X x) (hdb : (x == ("__debug__" : Str)) = false) {p pos : Pos} :
    PE X (.Call (.Name x p) [] [] pos) (tM Γ xw fun _ => cf x []) := by
  obtain ⟨k, f, fd, ps, hf, hr, hm, hk, hb, hl⟩ := F.fn x hx
  refine PE.imp (pe_call0 hf hr hg hm hk hb .nil F.pass hdb) fun σ H Q h => ?_
  obtain ⟨σd, ι, S, he, hs, ho⟩ := h
  have ho : Out Γ xw ι H (cf x [] S) fun d x ι' H' => ∀ (v : V), Rep Γ ι' H' d v → Q v H' := ho
  refine ⟨?_, xw, F.ok, rfl, ι, S, [], hs, .nil, ho⟩
  by_cases hz : ([] : List D).length = ps.length
  · exact hz
  · rw [hl [] S hz] at ho; exact ho.elim

/-! ### Python's own -/
theorem blt_none (F : Fam Γ W CX EW gt cf X xw) {x : Str} (h : gt.lookup x = none) (hm : x ∈ bltNames) : X.mg x = none := F.blt x hm h
theorem bi_ok (F : Fam Γ W CX EW gt cf X xw) {x : Str} {b : Bi} (hb : biOf x = some b) (hn : gt.lookup x = none) (hg : Gl X x) {a : PySem.Expr} {es : List PySem.Expr} {m : Sg → M (List D)} {p pos : Pos}
    (ha : PA X (a :: es) (tMA Γ xw m)) (he : starEach (a :: es) X.env = (false, eval a X.env) :: starEach es X.env) (hpl : (backTo pos (starEach es X.env)).any (·.1) = false) :
    PE X (.Call (.Name x p) (a :: es) [] pos) (tM Γ xw fun σ => m σ >>= biD sub b) := by
  have hm : x ∈ bltNames → X.mg x = none := blt_none F hn
  unfold biOf at hb
  by_cases e : x = "len"
  · subst e; rw [if_pos rfl] at hb; cases hb
    exact n_bi (b_len F.hK) hg (hm (by decide +kernel)) PySem.boot_len ha (by decide +kernel) (by decide +kernel) he hpl
  rw [if_neg e] at hb; clear e
  by_cases e : x = "all"
  · subst e; rw [if_pos rfl] at hb; cases hb
    exact n_bi (b_all F.hK F.calm) hg (hm (by decide +kernel)) boot_all ha (by decide +kernel) (by decide +kernel) he hpl
  rw [if_neg e] at hb; clear e
  by_cases e : x = "sum"
  · subst e; rw [if_pos rfl] at hb; cases hb
    exact n_bi (b_sum F.hK F.calm) hg (hm (by decide +kernel)) boot_sum ha (by decide +kernel) (by decide +kernel) he hpl
  rw [if_neg e] at hb; clear e
  by_cases e : x = "min"
  · subst e; rw [if_pos rfl] at hb; cases hb
    exact n_bi (b_min F.hK F.calm) hg (hm (by decide +kernel)) boot_min ha (by decide +kernel) (by decide +kernel) he hpl
  rw [if_neg e] at hb; clear e
  by_cases e : x = "max"
  · subst e; rw [if_pos rfl] at hb; cases hb
    exact n_bi (b_max F.hK F.calm) hg (hm (by decide +kernel)) boot_max ha (by decide +kernel) (by decide +kernel) he hpl
  rw [if_neg e] at hb; clear e
  by_cases e : x = "tuple"
  · subst e; rw [if_pos rfl] at hb; cases hb
    exact n_ty (b_tuple F.hK) hg (hm (by decide +kernel)) PyProof.Rows.boot_tuple ha (by decide +kernel) (by decide +kernel) he hpl
  rw [if_neg e] at hb; clear e
  cases hb
theorem ty_ok (F : Fam Γ W CX EW gt cf X xw) {y : Str} {t : Ty} (hb : tyOfN y = some t) (hn : gt.lookup y = none) : ∃ T, t.name = some T ∧ bootBuiltins y = some (.type T) ∧ X.mg y = none ∧ y ≠ "__name__" ∧ (y == ("__debug__" : Str)) = false := by
  have hm : y ∈ bltNames → X.mg y = none := blt_none F hn
  unfold tyOfN at hb
  by_cases e : y = "int"
  · subst e; rw [if_pos rfl] at hb; cases hb
    exact ⟨_, rfl, PyProof.Rows.boot_int, hm (by decide +kernel), by decide +kernel, by decide +kernel⟩
  rw [if_neg e] at hb; clear e
  by_cases e : y = "bool"
  · subst e; rw [if_pos rfl] at hb; cases hb
    exact ⟨_, rfl, PyProof.Rows.boot_bool, hm (by decide +kernel), by decide +kernel, by decide +kernel⟩
  rw [if_neg e] at hb; clear e
  by_cases e : y = "str"
  · subst e; rw [if_pos rfl] at hb; cases hb
    exact ⟨_, rfl, PyProof.Rows.boot_str, hm (by decide +kernel), by decide +kernel, by decide +kernel⟩
  rw [if_neg e] at hb; clear e
  by_cases e : y = "list"
  · subst e; rw [if_pos rfl] at hb; cases hb
    exact ⟨_, rfl, PyProof.Rows.boot_list, hm (by decide +kernel), by decide +kernel, by decide +kernel⟩
  rw [if_neg e] at hb; clear e
  by_cases e : y = "tuple"
  · subst e; rw [if_pos rfl] at hb; cases hb
    exact ⟨_, rfl, PyProof.Rows.boot_tuple, hm (by decide +kernel), by decide +kernel, by decide +kernel⟩
  rw [if_neg e] at hb; clear e
  by_cases e : y = "dict"
  · subst e; rw [if_pos rfl] at hb; cases hb
    exact ⟨_, rfl, PyProof.Rows.boot_dict, hm (by decide +kernel), by decide +kernel, by decide +kernel⟩
  rw [if_neg e] at hb; cases hb
theorem me_ok (F : Fam Γ W CX EW gt cf X xw) {name : Str} {me : Me} (hb : meOf name = some me) {o a : PySem.Expr} {es : List PySem.Expr} {apos cpos : Pos} {mo : Sg → M D} {m : Sg → M (List D)}
    (ho : PE X o (tM Γ xw mo)) (ha : PA X (a :: es) (tMA Γ xw m)) (hc0 : notCall0 o = true) (hlen : (a :: es).length < 20) (hall : (backTo cpos (starEach (a :: es) X.env)).all (fun x => !x.1) = true)
    (hline : (apos.endLine == cpos.line) = true) (hs : starEach (a :: es) X.env = (false, eval a X.env) :: starEach es X.env) (hplain : (backTo cpos (starEach es X.env)).any (·.1) = false) :
    PE X (.Call (.Attribute o name apos) (a :: es) [] cpos) (tM Γ xw fun σ => mo σ >>= fun x => guard x.isLoc (m σ >>= fun ds => meD me x ds)) := by
  have hbase : attributeBase o name X.env (eval o X.env) = eval o X.env := by
    unfold attributeBase
    cases o with
    | Call f as ks p =>
      cases as with
      | cons _ _ => cases f <;> rfl
      | nil =>
        cases ks with
        | nil => cases hc0
        | cons _ _ => cases f <;> rfl
    | _ => rfl
  have hfew : ((backTo cpos (starEach (a :: es) X.env)).all (fun x => !x.1) && (backToKw cpos (keywordEach [] X.env)).all (fun x => x.1.isSome) && decide ((a :: es).length + ([] : List Keyword).length + (if ([] : List Keyword).isEmpty then 0 else 1) < 30)) = true := by
    rw [hall]
    show (true && true && decide ((a :: es).length + 0 + 0 < 30)) = true
    rw [decide_eq_true (show (a :: es).length + 0 + 0 < 30 by omega)]
    rfl
  unfold meOf at hb
  by_cases e : name = "append"
  · subst e; rw [if_pos rfl] at hb; cases hb
    exact n_me F.hK PySem.F.plainAttrs_list PySem.F.slot_list_append PySem.F.type_list_append m_append ho ha hbase hfew hline hs hplain
  rw [if_neg e] at hb; clear e
  cases hb
end
end EV

set_option Elab.async false
set_option linter.all false
set_option maxRecDepth 100000
namespace EV
open PySem PySem.Spec PyProof.Rows L2

section
variable (Γ : Gx) (sub : Sub) (cf : Str → List D → M D)
/-- what is shown of an expression and its translation -/
structure ClE (X : Cx) (xw : XW) (e : PySem.Expr) (e' : E) : Prop where
  pe : PE X e (tM Γ xw (ev sub cf e'))
  pt : PT X e (tMT Γ xw (evT sub cf e'))
  pw : (∃ op vs p, e = .BoolOp op vs p) → PW X e (tMT Γ xw (evT sub cf e'))
end
section
variable {Γ : Gx} {W : XW → Prop} {CX : CXT} {EW : XW → XK} {gt : List (Str × GE)} {cf : Str → List D → M D} {sub : Sub} {X : Cx} {xw : XW}
theorem pt_bad {e : PySem.Expr} : PT X e (tMT Γ xw fun _ => bad) := fun _ _ _ _ _ _ h => by
  obtain ⟨_, _, _, _, _, ho⟩ := h
  exact ho.elim
theorem noBool {e : PySem.Expr} (h : ∀ op vs p, e ≠ .BoolOp op vs p) {P : Prop} : (∃ op vs p, e = .BoolOp op vs p) → P := fun ⟨op, vs, p, q⟩ => (h op vs p q).elim
/-- a test of a value's truth -/
theorem cl_val {e : PySem.Expr} {e' : E} (hK : Γ.K = X.K) (h : PE X e (tM Γ xw (ev sub cf e'))) (he : ∀ whole, isTrue e X.env whole = (do let v ← whole; standAt e.pos; holding [v] (truthy v)))
    (hb : (evT sub cf e' = fun σ => ev sub cf e' σ >>= truth) ∨ evT sub cf e' = fun _ => bad) (hn : ∀ op vs p, e ≠ .BoolOp op vs p) : ClE Γ sub cf X xw e e' := by
  refine ⟨h, ?_, noBool hn⟩
  rcases hb with q | q
  · rw [q]; exact t_truth hK h he
  · rw [q]; exact pt_bad
theorem cl_name {c : TC} {x : Str} {p : Pos} {e' : E} (F : Fam Γ W CX EW c.gt cf X xw) (C : Cok c X) (h : trName c x = some e') : ClE Γ sub cf X xw (.Name x p) e' := by
  unfold trName at h
  by_cases h1 : okName x = true
  · rw [if_pos h1] at h
    obtain ⟨d1, d2⟩ := okName_ok h1
    by_cases h2 : visB c.sc x = true
    · rw [if_pos h2] at h
      cases q : idx c.N x with
      | none => rw [q] at h; cases h
      | some i =>
        rw [q] at h; cases h
        exact cl_val F.hK (n_var (by rw [C.N]; exact idx_get q) (by rw [C.sc]; exact visB_ok h2) d1 d2) (fun _ => rfl) (.inl rfl) (fun _ _ _ z => nomatch z)
    · rw [if_neg h2] at h
      by_cases h3 : glB c x = true
      · rw [if_pos h3] at h
        cases q : c.gt.lookup x with
        | none => rw [q] at h; cases h
        | some g =>
          rw [q] at h
          cases g with
          | val d =>
            cases h
            obtain ⟨u, v, hm, r, hv⟩ := F.val x d q
            exact cl_val F.hK (n_val (pe_glob (C.gl h3) hm r d1) hv) (fun _ => rfl) (.inl rfl) (fun _ _ _ z => nomatch z)
          | _ => cases h
      · rw [if_neg h3] at h; cases h
  · rw [if_neg h1] at h; cases h
theorem cl_const {k : Const} {j : Nat} {p : Pos} {e' : E} (hK : Γ.K = X.K) (h : trConst k = some e') : ClE Γ sub cf X xw (.Constant k j p) e' := by
  cases k <;> first | (cases h; done) | skip
  · cases h; exact cl_val hK (n_val pe_non fun _ _ => .non) (fun _ => rfl) (.inl rfl) (fun _ _ _ z => nomatch z)
  · cases h; exact cl_val hK (n_val pe_bl fun _ _ => .bl _) (fun _ => rfl) (.inl rfl) (fun _ _ _ z => nomatch z)
  · cases h; exact cl_val hK (n_val pe_int fun _ _ => .int _) (fun _ => rfl) (.inl rfl) (fun _ _ _ z => nomatch z)
  · cases h; exact cl_val hK (n_val pe_str fun _ _ => .str _) (fun _ => rfl) (.inl rfl) (fun _ _ _ z => nomatch z)
theorem op_ok (hK : Γ.K = X.K) {op : Operator} {o : Op2} (h : op2 op = some o) : OpR X (binaryOp op) (Left2 Γ xw (opD o)) := by
  cases op <;> cases h
  · exact s_add hK
  · exact s_sub
  · exact s_mul hK
  · exact s_mod
  · exact s_pow
  · exact s_fdiv
theorem cm_ok (F : Fam Γ W CX EW gt cf X xw) {op : CmpOp} {o : Cm} (h : cmO op = some o) : OpR X (compareOp op) (Left2 Γ xw (cmD o)) := by
  cases op <;> cases h
  · exact s_eq F.hK F.un
  · exact s_ne F.hK F.un
  · exact s_lt
  · exact s_le
  · exact s_gt
  · exact s_ge
  · exact s_inM F.hK F.un
  · exact s_notinM F.hK F.un
theorem cm_bl {o : Cm} : ∀ (x y : D) (S : Store) (d : D) (S' : Store), cmD o x y S = .ok d S' → ∃ k, d = .bl k := by
  intro x y S d S' h
  have intc : ∀ p : Int → Int → Bool, intCm p x y S = .ok d S' → ∃ k, d = .bl k := fun p h => by
    cases x <;> first | (cases h; done) | skip
    cases y <;> first | (cases h; done) | skip
    cases h; exact ⟨_, rfl⟩
  have inc : ∀ neg, inM neg x y S = .ok d S' → ∃ k, d = .bl k := fun neg h => by
    unfold inM at h
    rcases items_res y S with ⟨ds, e⟩ | e
    · rw [bind_ok e] at h
      unfold inA at h
      cases q : inL S x ds with
      | none => rw [q] at h; cases h
      | some k => rw [q] at h; cases h; exact ⟨_, rfl⟩
    · rw [bind_bad e] at h; cases h
  cases o with
  | lt => exact intc _ h
  | le => exact intc _ h
  | gt => exact intc _ h
  | ge => exact intc _ h
  | eq =>
    have h : (eqM x y >>= fun b => pure (.bl b)) S = .ok d S' := h
    rw [bind_ap] at h
    unfold eqM at h
    cases q : eqD deep S x y with
    | none => rw [q] at h; cases h
    | some k => rw [q] at h; cases h; exact ⟨_, rfl⟩
  | ne =>
    have h : guard (neOk x y) (eqM x y >>= fun b => pure (.bl (!b))) S = .ok d S' := h
    cases q : neOk x y with
    | false => rw [q] at h; cases h
    | true =>
      rw [q] at h
      have h : (eqM x y >>= fun b => pure (.bl (!b))) S = .ok d S' := h
      rw [bind_ap] at h
      unfold eqM at h
      cases q : eqD deep S x y with
      | none => rw [q] at h; cases h
      | some k => rw [q] at h; cases h; exact ⟨_, rfl⟩
  | isin => exact inc _ h
  | notin => exact inc _ h
theorem args_ok {c : TC} {n : Nat} (F : Fam Γ W CX EW c.gt cf X xw) (C : Cok c X) (ih : ∀ e e', trE n c e = some e' → ClE Γ sub cf X xw e e') : ∀ {es : List PySem.Expr} {es' : E}, trEs (trE n c) es = some es' → PA X es (tMA Γ xw (evs sub cf es'))
  | [], _, h => by cases h; exact a_nil
  | e :: r, _, h => by
    obtain ⟨a, b, h1, h2, rfl⟩ := trEs_cons h
    exact a_cons (ih e a h1).pe (args_ok F C ih h2) (tr_star h1 r X.env)
theorem part_ok {c : TC} {n : Nat} (ih : ∀ e e', trE n c e = some e' → ClE Γ sub cf X xw e e') {o : Option PySem.Expr} {e' : E} (h : trO (trE n c) o = some e') : PO X o (tMO Γ xw fun σ => if e'.isNl = true then pure none else ev sub cf e' σ >>= partOf) := by
  cases o with
  | none => cases h; exact o_none
  | some e =>
    have h : (match trE n c e with | some .nl => none | o => o) = some e' := h
    cases q : trE n c e with
    | none => rw [q] at h; cases h
    | some f =>
      rw [q] at h
      have hf : f = e' ∧ f.isNl = false := by
        cases f <;> first | (cases h; done) | (cases h; exact ⟨rfl, rfl⟩)
      obtain ⟨rfl, hn⟩ := hf
      rw [hn]
      simp only [Bool.false_eq_true, if_false]
      exact o_some (ih e f q).pe
theorem tg_ok {c : TC} (hK : Γ.K = X.K) (hc : X.calm = true) (C : Cok c X) {tg : PySem.Expr} {t : Tg} (h : trTg c tg = some t) : PG X tg (tMG Γ t) := by
  have names : ∀ (es : List PySem.Expr) (is : List Nat), trNames c es = some is → NamesAre X es is := by
    intro es
    induction es with
    | nil => intro is h; cases h; exact .nil
    | cons e r ih =>
      intro is h
      cases e with
      | Name x p =>
        unfold trNames at h
        by_cases hl : locB c x = true
        · rw [if_pos hl] at h
          cases q : idx c.N x with
          | none => rw [q] at h; cases h
          | some i =>
            rw [q] at h
            cases q2 : trNames c r with
            | none => rw [q2] at h; cases h
            | some js =>
              rw [q2] at h; cases h
              exact .cons ⟨x, p, rfl, by rw [C.N]; exact idx_get q, (C.loc hl).1, (C.loc hl).2⟩ (ih js q2)
        · rw [if_neg hl] at h; cases h
      | _ => cases h
  cases tg with
  | Name x p =>
    have h : (if locB c x = true then (idx c.N x).map Tg.one else none) = some t := h
    by_cases hl : locB c x = true
    · rw [if_pos hl] at h
      cases q : idx c.N x with
      | none => rw [q] at h; cases h
      | some i =>
        rw [q] at h; cases h
        exact g_one C.nd (by rw [C.N]; exact idx_get q) (C.loc hl).1 (C.loc hl).2
    · rw [if_neg hl] at h; cases h
  | Tuple es k p =>
    have h : (trNames c es).map Tg.many = some t := h
    cases q : trNames c es with
    | none => rw [q] at h; cases h
    | some is =>
      rw [q] at h; cases h
      exact g_many hK hc C.nd (names es is q)
  | _ => cases h
theorem notSet_ok {e : PySem.Expr} (h : notSet e = true) (env : Env) : ∀ x, foldedSetIterable e env x = pure x := by
  intro x
  cases e <;> first | rfl | cases h
theorem bltB_ok {c : TC} (C : Cok c X) {x : Str} (h : bltB c x = true) : Gl X x ∧ c.gt.lookup x = none := by
  unfold bltB at h
  rw [Bool.and_eq_true] at h
  exact ⟨C.gl h.1, by simpa using h.2⟩
theorem evs_len {f : PySem.Expr → Option E} : ∀ {es : List PySem.Expr} {es' : E}, trEs f es = some es' → ∀ (σ : Sg) (S : Store) (ds : List D) (S' : Store), evs sub cf es' σ S = .ok ds S' → ds.length = es.length
  | [], _, h, σ, S, ds, S', q => by
    cases h
    have q : (Res.ok [] S : Res (List D)) = .ok ds S' := q
    cases q; rfl
  | e :: r, _, h, σ, S, ds, S', q => by
    obtain ⟨a, b, h1, h2, rfl⟩ := trEs_cons h
    have q : (ev sub cf a σ >>= fun x => evs sub cf b σ >>= fun xs => pure (x :: xs)) S = .ok ds S' := q
    cases q1 : ev sub cf a σ S with
    | ok d S1 =>
      rw [bind_ok q1] at q
      cases q2 : evs sub cf b σ S1 with
      | ok xs S2 =>
        rw [bind_ok q2] at q
        cases q
        show xs.length + 1 = r.length + 1
        rw [evs_len h2 σ S1 xs _ q2]
      | exc k S2 => rw [bind_exc q2] at q; cases q
      | bad => rw [bind_bad q2] at q; cases q
    | exc k S2 => rw [bind_exc q1] at q; cases q
    | bad => rw [bind_bad q1] at q; cases q
theorem iter_ok {c : TC} {n : Nat} (F : Fam Γ W CX EW c.gt cf X xw) (C : Cok c X) (ih : ∀ e e', trE n c e = some e' → ClE Γ sub cf X xw e e') {tg e : PySem.Expr} {e' : E} (h : trI (trE n c) c tg e = some e') :
    PI X tg e (tMI Γ xw (evI sub cf e')) ∧ ∀ x, foldedSetIterable e X.env x = pure x := by
  unfold trI at h
  by_cases hs : notSet e = true
  · rw [if_pos hs] at h
    refine ⟨?_, notSet_ok hs X.env⟩
    have seq : (trE n c e).map E.iSeq = some e' → PI X tg e (tMI Γ xw (evI sub cf e')) := fun h => by
      cases q : trE n c e with
      | none => rw [q] at h; cases h
      | some a => rw [q] at h; cases h; exact i_seq F.hK (ih e a q).pe
    split at h
    · rename_i x p args pos
      by_cases hr : isRange c x = true
      · rw [if_pos hr] at h
        unfold isRange at hr
        rw [Bool.and_eq_true] at hr
        have hx : x = "range" := of_decide_eq_true hr.2
        subst hx
        obtain ⟨hg, hn⟩ := bltB_ok C hr.1
        have hm : X.mg "range" = none := F.blt _ (by decide +kernel) hn
        by_cases hf : few args = true
        · rw [if_pos hf] at h
          cases q : trEs (trE n c) args with
          | none => rw [q] at h; cases h
          | some es =>
            rw [q] at h; cases h
            have ha := args_ok F C ih q
            have hl := evs_len (sub := sub) (cf := cf) q
            match args, q, ha, hl, hf with
            | [], _, _, _, hf => exact absurd hf (by decide)
            | [a], q, ha, hl, _ =>
              obtain ⟨a', b', q1, q2, _⟩ := trEs_cons q
              exact i_rng1 hg hm ha (tr_star q1 [] X.env) hl
            | [a, b], q, ha, hl, _ =>
              obtain ⟨a', r', q1, q2, _⟩ := trEs_cons q
              obtain ⟨b', r2, q3, q4, _⟩ := trEs_cons q2
              exact i_rng2 hg hm ha (by rw [tr_star q1, tr_star q3]; rfl) (tr_star q3 [] X.env) hl
            | [a, b, d], q, ha, hl, _ =>
              obtain ⟨a', r', q1, q2, _⟩ := trEs_cons q
              obtain ⟨b', r2, q3, q4, _⟩ := trEs_cons q2
              obtain ⟨d', r3, q5, q6, _⟩ := trEs_cons q4
              exact i_rng3 hg hm ha (by rw [tr_star q1, tr_star q3, tr_star q5]; rfl) (by rw [tr_star q3, tr_star q5]; rfl) hl
            | _ :: _ :: _ :: _ :: r, _, _, _, hf =>
              unfold few at hf
              rw [Bool.and_eq_true] at hf
              have := of_decide_eq_true hf.2
              simp at this
        · rw [if_neg hf] at h; cases h
      · rw [if_neg hr] at h
        by_cases he : isEnumr c x = true
        · rw [if_pos he] at h
          unfold isEnumr at he
          rw [Bool.and_eq_true] at he
          have hx : x = "enumerate" := of_decide_eq_true he.2
          subst hx
          obtain ⟨hg, hn⟩ := bltB_ok C he.1
          have hm : X.mg "enumerate" = none := F.blt _ (by decide +kernel) hn
          cases tg with
          | Tuple es k tp =>
            match args, h with
            | [a], h =>
              have h : (trE n c a).map E.iEnum = some e' := h
              cases q : trE n c a with
              | none => rw [q] at h; cases h
              | some a' => rw [q] at h; cases h; exact i_enum F.hK hg hm boot_enumerate (ih a a' q).pe (tr_star q [] X.env)
            | [], h => cases h
            | _ :: _ :: _, h => cases h
          | _ => cases h
        · rw [if_neg he] at h; exact seq h
    · exact seq h
  · rw [if_neg hs] at h; cases h
end
end EV

set_option Elab.async false
set_option linter.all false
set_option maxRecDepth 100000
namespace EV
open PySem PySem.Spec PyProof.Rows L2
section
variable {Γ : Gx} {W : XW → Prop} {CX : CXT} {EW : XW → XK} {cf : Str → List D → M D} {sub : Sub}
theorem M_ext {α : Type} {m m' : M α} (h : ∀ S, m S = m' S) : m = m' := funext h
theorem bind_pure_cons (m : M D) (f : List D → M D) : ((m >>= fun x => (pure [] : M (List D)) >>= fun xs => pure (x :: xs)) >>= f) = (m >>= fun x => f [x]) := by
  refine M_ext fun S => ?_
  rw [bind_ap, bind_ap, bind_ap]
  cases m S <;> rfl
theorem map1 {α β : Type} {o : Option α} {f : α → β} {d : β} (h : o.map f = some d) : ∃ a, o = some a ∧ d = f a := by
  cases o with
  | none => cases h
  | some a => cases h; exact ⟨a, rfl, rfl⟩
theorem allGe_ok {t : Tg} {n : Nat} (h : t.allGe n = true) : ∀ j, j < n → t.has j = false := by
  intro j hj
  cases t with
  | one i =>
    have : n ≤ i := of_decide_eq_true h
    show (i == j) = false
    simp; omega
  | many is =>
    show is.contains j = false
    have h : (is.all fun i => decide (n ≤ i)) = true := h
    rw [List.all_eq_true] at h
    cases q : is.contains j with
    | false => rfl
    | true =>
      have hm : j ∈ is := List.contains_iff_mem.mp q
      have := of_decide_eq_true (h j hm)
      omega

theorem rng_ok {c : TC} {n : Nat} {X : Cx} {xw : XW} (F : Fam Γ W CX EW c.gt cf X xw) (C : Cok c X) (ih : ∀ e e', trE n c e = some e' → ClE Γ sub cf X xw e e') {x : Str} {args ra : List PySem.Expr} {b : Bi} {es : E} {p pos : Pos} (hn : c.gt.lookup x = none) (hg : Gl X x)
    (h : rngB c x args = some (b, ra)) (h1 : trEs (trE n c) ra = some es) : PE X (.Call (.Name x p) args [] pos) (tM Γ xw (ev sub cf (.bi b es))) := by
  unfold rngB at h
  split at h
  · rename_i r p1 ra' p2
    split at h
    · rename_i hr
      rw [Bool.and_eq_true] at hr
      obtain ⟨hr1, hr2⟩ := hr
      unfold isRange at hr1
      rw [Bool.and_eq_true] at hr1
      have hx : r = "range" := of_decide_eq_true hr1.2
      subst hx
      obtain ⟨hgr, hnr⟩ := bltB_ok C hr1.1
      have hmr : X.mg "range" = none := F.blt _ (by decide +kernel) hnr
      have hra : ra' = ra := by
        split at h
        · cases h; rfl
        · cases h
      subst hra
      have ha := args_ok F C ih h1
      have hl := evs_len (sub := sub) (cf := cf) h1
      have hk : ra'.length = 1 ∨ ra'.length = 2 := by
        unfold two at hr2
        rcases Bool.or_eq_true_iff.mp hr2 with z | z
        · exact .inl (of_decide_eq_true z)
        · exact .inr (of_decide_eq_true z)
      have hr : PE X (.Call (.Name "range" p1) ra' [] p2) (tRange (tMA Γ xw (evs sub cf es))) := by
        match ra', h1, ha, hl, hk with
        | [a], h1, ha, hl, _ =>
          obtain ⟨a', b', q1, q2, _⟩ := trEs_cons h1
          exact pe_range1 hgr hmr ha (tr_star q1 [] X.env) (len_up hl)
        | [a, b], h1, ha, hl, _ =>
          obtain ⟨a', r', q1, q2, _⟩ := trEs_cons h1
          obtain ⟨b', r2, q3, q4, _⟩ := trEs_cons q2
          exact pe_range2 hgr hmr ha (by rw [tr_star q1, tr_star q3]; rfl) (tr_star q3 [] X.env) (len_up hl)
        | [], _, _, _, hk => rcases hk with hk | hk <;> cases hk
        | _ :: _ :: _ :: _, _, _, _, hk => simp at hk
      by_cases e : x = "tuple"
      · subst e; rw [if_pos rfl] at h; cases h
        exact n_rangeT hk F.calm hl hr rfl hg (F.blt _ (by decide +kernel) hn)
      rw [if_neg e] at h; cases h
    · cases h
  · cases h
theorem isDoc_ok {b : PySem.Expr} (h : isDoc b = true) : ∃ x j p, b = .Constant (.str x) j p := by
  cases b with
  | Constant k j p => cases k <;> first | exact ⟨_, _, _, rfl⟩ | cases h
  | _ => cases h
theorem trE_ok : ∀ (n : Nat) (c : TC) (e : PySem.Expr) (e' : E), trE n c e = some e' → ∀ (X : Cx) (xw : XW), Fam Γ W CX EW c.gt cf X xw → Cok c X → ClE Γ sub cf X xw e e' := by
  intro n
  induction n with
  | zero => intro c e e' h; cases h
  | succ n ihn =>
    intro c e e' h X xw F C
    have ih : ∀ e e', trE n c e = some e' → ClE Γ sub cf X xw e e' := fun e e' h => ihn c e e' h X xw F C
    cases e with
    | Name x p => exact cl_name F C h
    | Constant k j p => exact cl_const F.hK h
    | BinOp a op b p =>
      simp only [trE] at h
      split at h
      rotate_left
      · cases h
      rename_i o a' b' h1 h2 h3
      cases h
      exact cl_val F.hK (n_op (op_ok F.hK h1) (ih a a' h2).pe (ih b b' h3).pe) (fun _ => rfl) (.inr rfl) (fun _ _ _ z => nomatch z)
    | UnaryOp op a p =>
      cases op with
      | Not =>
        obtain ⟨a', h1, rfl⟩ : ∃ a', trE n c a = some a' ∧ e' = .not a' := by
          cases q : trE n c a with
          | none => simp only [trE, q] at h; cases h
          | some a' => simp only [trE, q] at h; cases h; exact ⟨a', rfl, rfl⟩
        exact ⟨n_not (ih a a' h1).pe, t_not (ih a a' h1).pt, fun ⟨_, _, _, z⟩ => by cases z⟩
      | USub =>
        obtain ⟨a', h1, rfl⟩ : ∃ a', trE n c a = some a' ∧ e' = .neg a' := by
          cases q : trE n c a with
          | none => simp only [trE, q] at h; cases h
          | some a' => simp only [trE, q] at h; cases h; exact ⟨a', rfl, rfl⟩
        exact cl_val F.hK (n_neg (ih a a' h1).pe) (fun _ => rfl) (.inr rfl) (fun _ _ _ z => nomatch z)
      | _ =>
        exfalso
        cases q : trE n c a with
        | none => simp only [trE, q] at h; cases h
        | some a' => simp only [trE, q] at h; cases h
    | BoolOp op vs p =>
      match vs, h with
      | [], h => cases h
      | [a], h =>
        have h : trE n c a = some e' := h
        have ca := ih a e' h
        cases op with
        | And => exact ⟨fun pins s σ H Q I hw => pe_one ca.pe pins s σ H Q I hw, (pw_and1 ca.pt).pt, fun _ => pw_and1 ca.pt⟩
        | Or => exact ⟨fun pins s σ H Q I hw => pe_one ca.pe pins s σ H Q I hw, (pw_or1 ca.pt).pt, fun _ => pw_or1 ca.pt⟩
      | a :: b :: r, h =>
        cases op with
        | And =>
          obtain ⟨a', b', h1, h2, rfl⟩ : ∃ a' b', trE n c a = some a' ∧ trE n c (.BoolOp .And (b :: r) p) = some b' ∧ e' = .and a' b' := by
            cases q : trE n c a with
            | none => simp only [trE, q] at h; cases h
            | some a' =>
              cases q2 : trE n c (.BoolOp .And (b :: r) p) with
              | none => simp only [trE, q, q2] at h; cases h
              | some b' => simp only [trE, q, q2] at h; cases h; exact ⟨a', b', rfl, rfl, rfl⟩
          have ca := ih _ _ h1
          have cb := ih _ _ h2
          exact ⟨n_and ca.pe cb.pe, (t_and ca.pt (cb.pw ⟨_, _, _, rfl⟩)).pt, fun _ => t_and ca.pt (cb.pw ⟨_, _, _, rfl⟩)⟩
        | Or =>
          obtain ⟨a', b', h1, h2, rfl⟩ : ∃ a' b', trE n c a = some a' ∧ trE n c (.BoolOp .Or (b :: r) p) = some b' ∧ e' = .or a' b' := by
            cases q : trE n c a with
            | none => simp only [trE, q] at h; cases h
            | some a' =>
              cases q2 : trE n c (.BoolOp .Or (b :: r) p) with
              | none => simp only [trE, q, q2] at h; cases h
              | some b' => simp only [trE, q, q2] at h; cases h; exact ⟨a', b', rfl, rfl, rfl⟩
          have ca := ih _ _ h1
          have cb := ih _ _ h2
          exact ⟨n_or ca.pe cb.pe, (t_or ca.pt (cb.pw ⟨_, _, _, rfl⟩)).pt, fun _ => t_or ca.pt (cb.pw ⟨_, _, _, rfl⟩)⟩
    | IfExp t a b p =>
      simp only [trE] at h
      split at h
      rotate_left
      · cases h
      rename_i t' a' b' h1 h2 h3
      cases h
      refine ⟨n_ite (ih t t' h1).pt (ih a a' h2).pe (ih b b' h3).pe, pt_bad, fun ⟨_, _, _, z⟩ => by cases z⟩
    | Tuple es k p =>
      obtain ⟨es', h1, rfl⟩ := map1 (f := E.tup) h
      exact cl_val F.hK (n_tup (args_ok F C ih h1)) (fun _ => rfl) (.inr rfl) (fun _ _ _ z => nomatch z)
    | List es p =>
      obtain ⟨es', h1, rfl⟩ := map1 (f := E.lst) h
      exact cl_val F.hK (n_lst (args_ok F C ih h1)) (fun _ => rfl) (.inr rfl) (fun _ _ _ z => nomatch z)
    | Compare a ops cs p =>
      simp only [trE] at h
      split at h
      · rename_i op b
        split at h
        · rename_i o a' b' h1 h2 h3 h4
          cases h
          exact ⟨n_cmp (cm_ok F h1) (ih a a' h2).pe (ih b b' h3).pe h4, t_cmp cm_bl (cm_ok F h1) (ih a a' h2).pe (ih b b' h3).pe h4, fun ⟨_, _, _, z⟩ => by cases z⟩
        · cases h
      · rename_i op op' b d
        split at h
        · rename_i o o' a' b' d' h1 h2 h3 h4 h5 h6
          cases h
          exact ⟨n_chain (cm_ok F h1) (cm_ok F h2) (ih a a' h3).pe (ih b b' h4).pe (ih d d' h5).pe h6, t_chain cm_bl cm_bl (cm_ok F h1) (cm_ok F h2) (ih a a' h3).pe (ih b b' h4).pe (ih d d' h5).pe h6, fun ⟨_, _, _, z⟩ => by cases z⟩
        · cases h
      · cases h
    | Subscript a i p =>
      simp only [trE] at h
      split at h
      · rename_i lo hi p2
        split at h
        · rename_i a' l u h1 h2 h3
          cases h
          exact cl_val F.hK (n_sl F.hK (ih a a' h1).pe (part_ok ih h2) (part_ok ih h3)) (fun _ => rfl) (.inr rfl) (fun _ _ _ z => nomatch z)
        · cases h
      · cases h
      · rename_i hs1 hs2
        split at h
        · rename_i a' i' h1 h2
          cases h
          have hp : PlainIx i := by
            intro o j
            cases i with
            | Slice lo hi st p2 =>
              cases st with
              | none => exact (hs1 lo hi p2 rfl).elim
              | some x => exact (hs2 lo hi x p2 rfl).elim
            | _ => rfl
          exact cl_val F.hK (n_ix F.hK (ih a a' h1).pe (ih i i' h2).pe hp) (fun _ => rfl) (.inl rfl) (fun _ _ _ z => nomatch z)
        · cases h
    | Call f args kws cpos =>
      simp only [trE] at h
      split at h
      · rename_i x p
        by_cases hx : (okName x && glB c x) = true
        · rw [if_pos hx] at h
          rw [Bool.and_eq_true] at hx
          have hd := (okName_ok hx.1).1
          have hg := C.gl hx.2
          split at h
          · rename_i hi
            obtain ⟨es', h1, rfl⟩ := map1 (f := E.call x) h
            cases args with
            | nil =>
              cases h1
              refine cl_val F.hK ?_ (fun _ => rfl) (.inl rfl) (fun _ _ _ z => nomatch z)
              exact n_call0 F hi hg hd
            | cons a r =>
              obtain ⟨a', b', q1, q2, _⟩ := trEs_cons h1
              exact cl_val F.hK (n_call F hi hg hd (args_ok F C ih h1) (tr_star q1 r X.env) (tr_stars q2 X.env cpos).1) (fun _ => rfl) (.inl rfl) (fun _ _ _ z => nomatch z)
          · cases h
          · rename_i hn
            by_cases hi : x = "isinstance"
            · rw [if_pos hi] at h
              subst hi
              split at h
              · rename_i a y p2
                by_cases hy : (okName y && bltB c y) = true
                · rw [if_pos hy] at h
                  rw [Bool.and_eq_true] at hy
                  split at h
                  · rename_i t a' h1 h2
                    cases h
                    obtain ⟨hg2, hn2⟩ := bltB_ok C hy.2
                    obtain ⟨T, t1, t2, t3, t4, t5⟩ := ty_ok F h1 hn2
                    have hm : X.mg "isinstance" = none := F.blt _ (by decide +kernel) hn
                    have key : (fun σ => ev sub cf (.bi (.inst t) (.cs a' .nl)) σ) = fun σ => ev sub cf a' σ >>= fun d => instM sub t d := by
                      funext σ
                      exact bind_pure_cons (ev sub cf a' σ) (biD sub (.inst t))
                    refine cl_val F.hK ?_ (fun _ => rfl) (.inl rfl) (fun _ _ _ z => nomatch z)
                    show PE X _ (tM Γ xw (fun σ => ev sub cf (.bi (.inst t) (.cs a' .nl)) σ))
                    rw [key]
                    exact n_inst F.hK t1 hg hm boot_isinstance hg2 t3 t2 (ih a a' h2).pe (by decide +kernel) (by decide +kernel) t4 t5 (tr_star h2 _ X.env)
                  · cases h
                · rw [if_neg hy] at h; cases h
              · cases h
            · rw [if_neg hi] at h
              split at h
              · rename_i b ra hr
                obtain ⟨es, h1, rfl⟩ := map1 (f := E.bi b) h
                exact cl_val F.hK (rng_ok F C ih hn hg hr h1) (fun _ => rfl) (.inl rfl) (fun _ _ _ z => nomatch z)
              · split at h
                · cases h
                · rename_i a r hrn
                  split at h
                  · rename_i b es h1 h2
                    cases h
                    obtain ⟨a', b', q1, q2, _⟩ := trEs_cons h2
                    exact cl_val F.hK (bi_ok F h1 hn hg (args_ok F C ih h2) (tr_star q1 r X.env) (tr_stars q2 X.env cpos).1) (fun _ => rfl) (.inl rfl) (fun _ _ _ z => nomatch z)
                  · cases h
        · rw [if_neg hx] at h; cases h
      · rename_i o name apos
        split at h
        · cases h
        · rename_i a r
          split at h
          · rename_i hx
            simp only [Bool.and_eq_true] at hx
            obtain ⟨⟨x1, x2⟩, x3⟩ := hx
            split at h
            · rename_i m o' es h1 h2 h3
              cases h
              obtain ⟨a', b', q1, q2, _⟩ := trEs_cons h3
              exact cl_val F.hK (me_ok F h1 (ih o o' h2).pe (args_ok F C ih h3) x1 (of_decide_eq_true x3) (tr_stars h3 X.env cpos).2 x2 (tr_star q1 r X.env) (tr_stars q2 X.env cpos).1) (fun _ => rfl) (.inr rfl) (fun _ _ _ z => nomatch z)
            · cases h
          · cases h
      · cases h
    | ListComp elt gens scope p =>
      simp only [trE] at h
      split at h
      · rename_i tg iter ifs asy
        split at h
        · rename_i hx
          rw [Bool.and_eq_true] at hx
          have ha : asy = 0 := of_decide_eq_true hx.1
          subst ha
          obtain ⟨CO, CK⟩ := compOk C hx.2
          split at h
          · rename_i it t el tt h1 h2 h3 h4
            split at h
            · rename_i hge
              cases h
              obtain ⟨PI1, hs⟩ := iter_ok F C ih h1
              have ihc : ∀ cl fp s3 H3 e e', trE n (inComp c scope) e = some e' → ClE Γ sub cf (cxComp X scope cl (inComp c scope).N fp s3 H3) XF e e' :=
                fun cl fp s3 H3 e e' h => ihn (inComp c scope) e e' h _ XF (F.comp scope cl _ fp s3 H3) (CK cl fp s3 H3)
              have htt : ∀ cl fp s3 H3, PF (cxComp X scope cl (inComp c scope).N fp s3 H3) ifs (tMT Γ XF fun σ => if tt.isNl = true then pure true else evT sub cf tt σ) := fun cl fp s3 H3 => by
                match ifs, h4 with
                | [], h4 =>
                  cases h4
                  exact fun pins s σ H Q I h => pf_nil pins s σ H Q I (by
                    obtain ⟨σd, ι, S, he, hs, ho⟩ := h
                    exact ho.here hs)
                | [t0], h4 =>
                  have h4 : (match trE n (inComp c scope) t0 with | some .nl => none | o => o) = some tt := h4
                  cases q : trE n (inComp c scope) t0 with
                  | none => rw [q] at h4; cases h4
                  | some f =>
                    rw [q] at h4
                    have hf : f = tt ∧ f.isNl = false := by
                      cases f <;> first | (cases h4; done) | (cases h4; exact ⟨rfl, rfl⟩)
                    obtain ⟨rfl, hn⟩ := hf
                    rw [hn]
                    simp only [Bool.false_eq_true, if_false]
                    exact pf_one (ihc cl fp s3 H3 t0 f q).pt
                | _ :: _ :: _, h4 => cases h4
              refine cl_val F.hK ?_ (fun _ => rfl) (.inr rfl) (fun _ _ _ z => nomatch z)
              exact n_comp CO F.calm (by rw [C.N]; exact allGe_ok hge) PI1 (fun cl fp s3 H3 => tg_ok (X := cxComp X scope cl (inComp c scope).N fp s3 H3) F.hK F.calm (CK cl fp s3 H3) h2) htt (fun cl fp s3 H3 => (ihc cl fp s3 H3 elt el h3).pe) hs
            · cases h
          · cases h
        · cases h
      · cases h
    | _ => cases h
end
end EV

set_option Elab.async false
set_option linter.all false
set_option maxRecDepth 100000
namespace EV
open PySem PySem.Spec PyProof.Rows L2
section
variable {Γ : Gx} {W : XW → Prop} {CX : CXT} {EW : XW → XK} {cf : Str → List D → M D} {sub : Sub}
/-- a comprehension's parts -/
theorem comp_inv {n : Nat} {c : TC} {elt : PySem.Expr} {gens : List Comprehension} {scope : Scope} {p : Pos} {e' : E} (h : trE n c (.ListComp elt gens scope p) = some e') {X : Cx} {xw : XW} (F : Fam Γ W CX EW c.gt cf X xw) (C : Cok c X) :
    ∃ tg iter ifs it t el tt, gens = [⟨tg, iter, ifs, 0⟩] ∧ e' = .comp (own scope).length el t it tt ∧ CompOk X scope (inComp c scope).N (own scope).length ∧ (∀ j, j < X.N.length → t.has j = false) ∧ PI X tg iter (tMI Γ xw (evI sub cf it)) ∧
      (∀ cl fp s3 H3, PG (cxComp X scope cl (inComp c scope).N fp s3 H3) tg (tMG Γ t)) ∧ (∀ cl fp s3 H3, PF (cxComp X scope cl (inComp c scope).N fp s3 H3) ifs (tMT Γ XF fun σ => if tt.isNl = true then pure true else evT sub cf tt σ)) ∧
      (∀ cl fp s3 H3, PE (cxComp X scope cl (inComp c scope).N fp s3 H3) elt (tM Γ XF (ev sub cf el))) ∧ ∀ x, foldedSetIterable iter X.env x = pure x := by
  cases n with
  | zero => cases h
  | succ n =>
    have ih : ∀ e e', trE n c e = some e' → ClE Γ sub cf X xw e e' := fun e e' h => trE_ok n c e e' h X xw F C
    simp only [trE] at h
    split at h
    · rename_i tg iter ifs asy
      split at h
      · rename_i hx
        rw [Bool.and_eq_true] at hx
        have ha : asy = 0 := of_decide_eq_true hx.1
        subst ha
        obtain ⟨CO, CK⟩ := compOk C hx.2
        split at h
        · rename_i it t el tt h1 h2 h3 h4
          split at h
          · rename_i hge
            cases h
            obtain ⟨PI1, hs⟩ := iter_ok F C ih h1
            have ihc : ∀ cl fp s3 H3 e e', trE n (inComp c scope) e = some e' → ClE Γ sub cf (cxComp X scope cl (inComp c scope).N fp s3 H3) XF e e' :=
              fun cl fp s3 H3 e e' h => trE_ok n (inComp c scope) e e' h _ XF (F.comp scope cl _ fp s3 H3) (CK cl fp s3 H3)
            have htt : ∀ cl fp s3 H3, PF (cxComp X scope cl (inComp c scope).N fp s3 H3) ifs (tMT Γ XF fun σ => if tt.isNl = true then pure true else evT sub cf tt σ) := fun cl fp s3 H3 => by
              match ifs, h4 with
              | [], h4 =>
                cases h4
                exact fun pins s σ H Q I h => pf_nil pins s σ H Q I (by
                  obtain ⟨σd, ι, S, he, hs, ho⟩ := h
                  exact ho.here hs)
              | [t0], h4 =>
                have h4 : (match trE n (inComp c scope) t0 with | some .nl => none | o => o) = some tt := h4
                cases q : trE n (inComp c scope) t0 with
                | none => rw [q] at h4; cases h4
                | some f =>
                  rw [q] at h4
                  have hf : f = tt ∧ f.isNl = false := by
                    cases f <;> first | (cases h4; done) | (cases h4; exact ⟨rfl, rfl⟩)
                  obtain ⟨rfl, hn⟩ := hf
                  rw [hn]
                  simp only [Bool.false_eq_true, if_false]
                  exact pf_one (ihc cl fp s3 H3 t0 f q).pt
              | _ :: _ :: _, h4 => cases h4
            exact ⟨tg, iter, ifs, it, t, el, tt, rfl, rfl, CO, by rw [C.N]; exact allGe_ok hge, PI1, fun cl fp s3 H3 => tg_ok (X := cxComp X scope cl (inComp c scope).N fp s3 H3) F.hK F.calm (CK cl fp s3 H3) h2, htt, fun cl fp s3 H3 => (ihc cl fp s3 H3 elt el h3).pe, hs⟩
          · cases h
        · cases h
      · cases h
    · cases h
theorem no_swap {e : PySem.Expr} (h : notComp e = true) (t : Option PySem.Expr) (l : Nat) (env : Env) : swapsWith e t l env = pure false := by
  cases e <;> first | rfl | cases h
/-- an assignment -/
theorem asg_ok {m : Nat} {c : TC} {X : Cx} {xw : XW} (F : Fam Γ W CX EW c.gt cf X xw) (C : Cok c X) {tg e : PySem.Expr} {t : Tg} {e' : E} {pos : Pos} (ha : asgOk tg e = true) (h1 : trTg c tg = some t) (h2 : trE m c e = some e') :
    PS X (.Assign [tg] e pos) (tMS Γ xw (exec sub cf (.set t e'))) := by
  have hg : PG X tg (tMG Γ t) := tg_ok F.hK F.calm C h1
  have he := (trE_ok (sub := sub) m c e e' h2 X xw F C).pe
  cases tg with
  | Name y py =>
    by_cases hc : notComp e = true
    · exact s_asg he hg (show swapsWithSole [.Name y py] e pos.line X.env = pure false from no_swap hc (some (.Name y py)) pos.line X.env) rfl rfl
    · cases e with
      | ListComp elt gens scope p =>
        obtain ⟨tg, iter, ifs, it, t2, el, tt, rfl, rfl, CO, hslot, PI1, PG1, PF1, PE1, hs⟩ := comp_inv (sub := sub) h2 F C
        have h1' : (if locB c y = true then (idx c.N y).map Tg.one else none) = some t := h1
        by_cases hl : locB c y = true
        · rw [if_pos hl] at h1'
          obtain ⟨j, hj, rfl⟩ := map1 h1'
          have sw : swapsWith (.ListComp elt [⟨tg, iter, ifs, 0⟩] scope p) (some (.Name y py)) pos.line X.env = pure (X.env.blockKind == .function && X.env.kindOf y == some .local && py.line == p.line
              && !(scope.names.any fun (n, k) => n == y && (k == .local || k == .cell))) := rfl
          cases q : (X.env.blockKind == .function && X.env.kindOf y == some .local && py.line == p.line && !(scope.names.any fun (n, k) => n == y && (k == .local || k == .cell))) with
          | true =>
            rw [q] at sw
            simp only [Bool.and_eq_true] at q
            have hy : X.env.scope.names.lookup y = some .local := eq_of_beq q.1.1.2
            exact s_compSet CO F.calm hslot PI1 PG1 PF1 PE1 C.nd (by rw [C.N]; exact idx_get hj) hy sw hs
          | false =>
            rw [q] at sw
            exact s_asg he hg sw rfl rfl
        · rw [if_neg hl] at h1'; cases h1'
      | SetComp _ _ _ _ => cases m <;> cases h2
      | DictComp _ _ _ _ _ => cases m <;> cases h2
      | _ => exact absurd rfl hc
  | Tuple es k p =>
    have ha : (!isTup e && notComp e) = true := ha
    rw [Bool.and_eq_true] at ha
    refine s_asg he hg (show swapsWithSole [.Tuple es k p] e pos.line X.env = pure false from no_swap ha.2 (some (.Tuple es k p)) pos.line X.env) ?_ rfl
    cases e <;> first | rfl | exact absurd ha.1 (by simp [isTup])
  | _ => cases ha
theorem ss_ok {f : Stmt → Option S} {X : Cx} {xw : XW} (ih : ∀ s s', f s = some s' → PS X s (tMS Γ xw (exec sub cf s'))) : ∀ {ss : List Stmt} {s' : S}, trSs f ss = some s' → PSs X ss (tMS Γ xw (exec sub cf s'))
  | [], _, h => by cases h; exact ss_nil
  | [s], _, h => ss_one (ih _ _ h)
  | s :: s2 :: r, s', h => by
    have h : (match f s, trSs f (s2 :: r) with | some a, some b => some (.seq a b) | _, _ => none) = some s' := h
    split at h
    · rename_i a b h1 h2
      cases h
      exact ss_cons (ih s a h1) (ss_ok ih h2)
    · cases h
/-- what is asked of a raise -/
noncomputable def RaiseOk (Γ : Gx) (W : XW → Prop) (CX : CXT) (EW : XW → XK) (cf : Str → List D → M D) (sub : Sub) : Prop :=
  ∀ (c : TC) (X : Cx) (xw : XW) (e : PySem.Expr) (s' : S) (pos : Pos), Fam Γ W CX EW c.gt cf X xw → Cok c X → trRaise c e = some s' → PS X (.Raise (some e) none pos) (tMS Γ xw (exec sub cf s'))
theorem trS_ok (m : Nat) (hR : RaiseOk Γ W CX EW cf sub) : ∀ (n : Nat) (c : TC) (s : Stmt) (s' : S), trS m n c s = some s' → ∀ (X : Cx) (xw : XW), Fam Γ W CX EW c.gt cf X xw → Cok c X → PS X s (tMS Γ xw (exec sub cf s')) := by
  intro n
  induction n with
  | zero => intro c s s' h; cases h
  | succ n ihn =>
    intro c s s' h X xw F C
    have ih : ∀ s s', trS m n c s = some s' → PS X s (tMS Γ xw (exec sub cf s')) := fun s s' h => ihn c s s' h X xw F C
    have ihx : ∀ s s', trS m n c s = some s' → PS X.nox s (tMS Γ XF (exec sub cf s')) := fun s s' h => ihn c s s' h X.nox XF F.nox C.nox
    have ce : ∀ {e e'}, trE m c e = some e' → ClE Γ sub cf X xw e e' := fun {e e'} h => trE_ok m c e e' h X xw F C
    have cx : ∀ {e e'}, trE m c e = some e' → ClE Γ sub cf X.nox XF e e' := fun {e e'} h => trE_ok m c e e' h X.nox XF F.nox C.nox
    cases s with
    | Return v p =>
      cases v with
      | none => cases h; exact s_retN
      | some e =>
        obtain ⟨e', h1, rfl⟩ := map1 (f := S.ret) h
        exact s_ret (ce h1).pe
    | Expr e p =>
      simp only [trS] at h
      split at h
      · rename_i hd
        obtain ⟨x, j, q, rfl⟩ := isDoc_ok hd
        cases h; exact s_doc
      · split at h
        · rename_i hn
          obtain ⟨e', h1, rfl⟩ := map1 (f := S.ex) h
          exact s_ex (ce h1).pe (no_swap hn _ _ _)
        · cases h
    | Pass p => cases h; exact s_skip
    | Assign ts e p =>
      simp only [trS] at h
      split at h
      · rename_i tg
        split at h
        · rename_i ha
          split at h
          · rename_i t e' h1 h2
            cases h
            exact asg_ok F C ha h1 h2
          · cases h
        · cases h
      · cases h
    | If t a b p =>
      simp only [trS] at h
      split at h
      · rename_i t' a' b' h1 h2 h3
        cases h
        exact s_if (ce h1).pt (ss_ok ih h2) (ss_ok ih h3)
      · cases h
    | For tg it body els p =>
      simp only [trS] at h
      split at h
      · rename_i t i b h1 h2 h3
        cases h
        obtain ⟨PI1, hs⟩ := iter_ok (X := X.nox) (xw := XF) F.nox C.nox (fun e e' h => cx h) h2
        exact s_for F.calm PI1 (tg_ok (X := X.nox) F.hK F.calm C.nox h1) (ss_ok ihx h3) hs
      · cases h
    | Raise e cause p =>
      cases e with
      | none => cases cause <;> cases h
      | some e =>
        cases cause with
        | none => exact hR c X xw e s' p F C h
        | some _ => cases h
    | _ => cases h
end
end EV

set_option Elab.async false
set_option linter.all false
set_option maxRecDepth 100000
namespace EV
open PySem PySem.Spec PyProof.Rows L2
/-! ### how arguments bind -/
theorem lookup_zip : ∀ {ns : List Str} {us : List Value} {i : Nat} {x : Str} {u : Value}, ns.Nodup → ns[i]? = some x → us[i]? = some u → (ns.zip us).lookup x = some u
  | [], _, _, _, _, _, h, _ => by simp at h
  | _ :: _, [], _, _, _, _, _, h => by simp at h
  | y :: ns, v :: us, 0, x, u, _, h1, h2 => by
    simp at h1 h2; subst h1; subst h2
    simp [List.lookup]
  | y :: ns, v :: us, i + 1, x, u, nd, h1, h2 => by
    have h1' : ns[i]? = some x := by simpa using h1
    have hne : ¬ x = y := fun e => by
      subst e; exact (List.nodup_cons.mp nd).1 (List.mem_of_getElem? h1')
    have hb : (x == y) = false := by simpa using hne
    show List.lookup x ((y, v) :: ns.zip us) = some u
    rw [List.lookup_cons, hb]
    exact lookup_zip (List.nodup_cons.mp nd).2 h1' (by simpa using h2)
theorem zip_back {ns : List Str} {us : List Value} (nd : ns.Nodup) (hl : us.length = ns.length) : ns.filterMap (fun n => ((ns.zip us).lookup n).map (n, ·)) = ns.zip us := by
  have all : ∀ (ms : List Str) (vs : List Value), vs.length = ms.length → (∀ (i : Nat) x u, ms[i]? = some x → vs[i]? = some u → (ns.zip us).lookup x = some u) → ms.filterMap (fun n => ((ns.zip us).lookup n).map (n, ·)) = ms.zip vs := by
    intro ms
    induction ms with
    | nil => intro vs _ _; rfl
    | cons m ms ih =>
      intro vs hl h
      cases vs with
      | nil => simp at hl
      | cons v vs =>
        rw [List.filterMap_cons, h 0 m v rfl rfl]
        show (m, v) :: _ = (m, v) :: ms.zip vs
        rw [ih vs (by simpa using hl) fun i x u h1 h2 => h (i + 1) x u (by simpa using h1) (by simpa using h2)]
  exact all ns us hl fun i x u h1 h2 => lookup_zip nd h1 h2
theorem binds_plain {x qual : Str} {a : Arguments} {body : List Stmt} {sc : Scope} {kV doc pm cdv ct : Value} {an : Option Addr} (hp : plainArgs a = true) (nd : (argNames a).Nodup) {us : List Value} (hl : us.length = (argNames a).length) :
    bindArgs (PySem.W.fnOf x qual a body sc .none kV doc pm an cdv ct) ⟨us, []⟩ = pure ((argNames a).zip us) := by
  obtain ⟨po, as, va, ko, kd, kw, df⟩ := a
  unfold plainArgs at hp
  simp only [Bool.and_eq_true, List.isEmpty_iff, Option.isNone_iff_eq_none] at hp
  obtain ⟨⟨⟨⟨⟨rfl, rfl⟩, rfl⟩, rfl⟩, rfl⟩, rfl⟩ := hp
  have nd : (as.map (·.arg)).Nodup := nd
  have hl : us.length = (as.map (·.arg)).length := hl
  show bindArgs _ _ = pure ((as.map (·.arg)).zip us)
  unfold bindArgs
  simp only [PySem.W.fnOf, List.map_nil, List.nil_append, List.append_nil]
  generalize as.map (·.arg) = ns at nd hl
  have hnot : ¬ us.length > ns.length := by rw [hl]; exact Nat.lt_irrefl _
  have hmiss : (List.take ns.length ns).filter (fun n => ((ns.zip us).lookup n).isNone) = [] := by
    rw [List.filter_eq_nil_iff]
    intro n hn
    obtain ⟨i, hi⟩ := List.getElem?_of_mem (List.mem_of_mem_take hn)
    have hi' : i < us.length := by rw [hl]; exact (List.getElem?_eq_some_iff.mp hi).1
    rw [lookup_zip nd hi (List.getElem?_eq_getElem hi')]
    simp
  have hb := zip_back nd hl
  have hd : seqItems? .none = pure none := rfl
  rw [hd]
  have hz : (#[] : Array Value).toList = [] := rfl
  have hdec : decide (us.length > ns.length) = false := decide_eq_false hnot
  simp only [List.forIn_nil, pure_bind, Option.getD_none, hz, List.length_nil, Nat.zero_sub, List.drop_nil, Nat.sub_zero, hmiss, hdec, Bool.false_and, Bool.false_eq_true, if_false, List.isEmpty_nil, Bool.not_true, List.zip_nil_right, hb]

/-! ### defs -/
/-- whatever the store -/
noncomputable def anyX (xw : XW) : XW := fun c _ _ H => ∃ S ι, xw c S ι H
structure Txt (K : PySem.W.Frag) (mg : Str → Option Value) (gt : List (Str × GE)) (defs : List (Str × Stmt)) : Prop where
  fn : ∀ x, gt.lookup x = some .fn → ∃ st f fd, defs.lookup x = some st ∧ mg x = some (.ref f) ∧ Fun K x x st f fd
  blt : ∀ x ∈ bltNames, gt.lookup x = none → mg x = none
  val : ∀ x d, gt.lookup x = some (.val d) → ∃ u v, mg x = some u ∧ RelV v u ∧ ∀ ι H, Rep ⟨K⟩ ι H d v
/-- what is asked of exceptions -/
structure Xok (P : Program) (w : World) (K : PySem.W.Frag) (mg : Str → Option Value) (base : Heap) (W : XW → Prop) (CX : CXT) (EW : XW → XK) (sub : Sub) : Prop where
  noF : ∀ outer H s e s', ¬ CX outer H s (EW XF) e s'
  okF : W XF
  any : ∀ xw, W xw → W (anyX xw)
  pass : ∀ xw N qual scope f cd A outer s H, W xw → Passes CX (cxOf CX P w K mg base N qual scope f cd A outer s H (EW xw)) (EW (anyX xw))
  rais : ∀ cf, RaiseOk ⟨K⟩ W CX EW cf sub
theorem env_start {Γ : Gx} {ι : List Addr} {H : Hp} {ds : List D} {vs : List V} (rs : Reps Γ ι H ds vs) (N : List Str) {k : Nat} (hk : k = N.length) : EnvOk Γ ι H (L2.start N vs) (ds.map some ++ List.replicate (k - ds.length) none) := by
  have hl := rs.length
  refine ⟨by unfold L2.start; simp [hl, hk], fun i d h => ?_⟩
  by_cases hi : i < ds.length
  · rw [List.getElem?_append_left (by simpa using hi), List.getElem?_map] at h
    have h : ds[i]? = some d := by
      rw [List.getElem?_eq_getElem hi] at h ⊢
      simpa using h
    obtain ⟨v, hv, r⟩ := Paired.get rs h
    refine ⟨v, ?_, r⟩
    unfold L2.start
    rw [List.getElem?_append_left (by rw [List.length_map, ← hl]; exact hi), List.getElem?_map, hv]
    rfl
  · rw [List.getElem?_append_right (by simpa using hi), List.getElem?_replicate] at h
    split at h <;> cases h
theorem fnScope {a : Arguments} {sc : Scope} (h : scopeOkB a sc = true) : FnScope (namesOf a sc) (argNames a) sc ∧ plainArgs a = true := by
  unfold scopeOkB at h
  simp only [Bool.and_eq_true] at h
  obtain ⟨⟨⟨⟨⟨⟨h1, h2⟩, h3⟩, h4⟩, h5⟩, h6⟩, h7⟩ := h
  rw [List.all_eq_true] at h6 h7
  refine ⟨⟨of_decide_eq_true h2, by simpa using h3, by simpa using h4, nodupB_ok h5, ?_, fun x hx => ?_, fun y hy hf => ?_⟩, h1⟩
  · unfold namesOf; rw [List.take_append_of_le_length (Nat.le_refl _), List.take_length]
  · have := h6 x hx
    cases q : sc.names.lookup x with
    | none => rw [q] at this; cases this
    | some k => rw [q] at this; cases k <;> first | exact .inl rfl | exact .inr rfl | cases this
  · have := h7 y hy
    rw [hf] at this; simp at this
section
variable {P : Program} {w : World} {K : PySem.W.Frag} {mg : Str → Option Value} {base : Heap} {W : XW → Prop} {CX : CXT} {EW : XW → XK} {sub : Sub} {gt : List (Str × GE)} {defs : List (Str × Stmt)} {Pd : Prg}
theorem fns_ok (T : Txt K mg gt defs) (O : Xok P w K mg base W CX EW sub) (hP : ∀ x st, defs.lookup x = some st → ∃ F, trF gt st = some F ∧ Pd.lookup x = some F) :
    ∀ (n : Nat) (x : Str) (st : Stmt) (f : Addr) (fd : FuncData), defs.lookup x = some st → Fun K x x st f fd → FnOk P w K mg base CX n f fd (argNames (defArgs st)) (spF ⟨K⟩ W EW (callF sub Pd n x) (argNames (defArgs st)).length) := by
  intro n
  induction n with
  | zero =>
    intro x st f fd _ _
    refine ⟨fun vs H Q E h => h.1, fun A outer s H args us vs Q E _ _ _ _ h => ?_⟩
    obtain ⟨_, _, _, _, _, _, _, _, _, ho⟩ := h
    exact ho.elim
  | succ n ih =>
    intro x st f fd hst Fu
    obtain ⟨F, hF, hPi⟩ := hP x st hst
    cases st with
    | FunctionDef x0 a body d1 d2 d3 sc d4 d5 d6 =>
      have hF : (if scopeOkB a sc = true then (trSs (trS depth depth (tcOf gt a sc)) body).map fun b => (⟨(argNames a).length, (namesOf a sc).length, b⟩ : Fn) else none) = some F := hF
      by_cases hs : scopeOkB a sc = true
      · rw [if_pos hs] at hF
        obtain ⟨b, hb, rfl⟩ := map1 hF
        obtain ⟨SC, hpl⟩ := fnScope hs
        obtain ⟨oc, od, kV, doc, pm, an, cdv, ct, osl, rfl, lk, hcd⟩ := Fu.ex
        refine fn_of (N := namesOf a sc) lk hcd SC (fun vs H Q E h => h.1) fun A outer s H vs Q E hr hsp => ?_
        obtain ⟨hl, xw, hw, rfl, ι, S, ds, hS, rs, ho⟩ := hsp
        have FM : Fam ⟨K⟩ W CX EW gt (callF sub Pd n) (cxOf CX P w K mg base (namesOf a sc) x sc f cdv A outer s H (EW xw)) (anyX xw) := by
          refine ⟨rfl, rfl, hr.units, T.blt, T.val, fun y hy => ?_, O.pass xw _ _ _ _ _ _ _ _ _ hw, O.noF, O.any xw hw, O.okF⟩
          obtain ⟨st2, f2, fd2, h1, h2, h3⟩ := T.fn y hy
          obtain ⟨F2, hF2, hPj⟩ := hP y st2 h1
          have hb2 : Binds K fd2 (argNames (defArgs st2)) [] := by
            cases st2 with
            | FunctionDef x1 a1 body1 e1 e2 e3 sc1 e4 e5 e6 =>
              have hF2 : (if scopeOkB a1 sc1 = true then (trSs (trS depth depth (tcOf gt a1 sc1)) body1).map fun b => (⟨(argNames a1).length, (namesOf a1 sc1).length, b⟩ : Fn) else none) = some F2 := hF2
              by_cases hs1 : scopeOkB a1 sc1 = true
              · obtain ⟨SC1, hpl1⟩ := fnScope hs1
                refine h3.binds fun _ _ _ _ _ _ us hl => ?_
                have nd1 : (argNames a1).Nodup := by rw [← SC1.pre]; exact SC1.nd.sublist (List.take_sublist _ _)
                exact binds_plain hpl1 nd1 hl
              · rw [if_neg hs1] at hF2; cases hF2
            | _ => cases hF2
          refine ⟨n, f2, fd2, argNames (defArgs st2), ih y st2 f2 fd2 h1 h3, hr, h2, h3.kp, hb2, fun ds S hne => ?_⟩
          cases n with
          | zero => rfl
          | succ n =>
            have hpar : F2.par = (argNames (defArgs st2)).length := by
              cases st2 with
              | FunctionDef x1 a1 body1 e1 e2 e3 sc1 e4 e5 e6 =>
                have hF2 : (if scopeOkB a1 sc1 = true then (trSs (trS depth depth (tcOf gt a1 sc1)) body1).map fun b => (⟨(argNames a1).length, (namesOf a1 sc1).length, b⟩ : Fn) else none) = some F2 := hF2
                by_cases hs1 : scopeOkB a1 sc1 = true
                · rw [if_pos hs1] at hF2
                  obtain ⟨b1, _, rfl⟩ := map1 hF2
                  rfl
                · rw [if_neg hs1] at hF2; cases hF2
              | _ => cases hF2
            exact callF_bad hPj (by rw [hpar]; exact hne)
        have CK : Cok (tcOf gt a sc) (cxOf CX P w K mg base (namesOf a sc) x sc f cdv A outer s H (EW xw)) := ⟨rfl, rfl, SC.nd, SC.kind, fun _ _ => rfl⟩
        refine ⟨tMS ⟨K⟩ (anyX xw) (exec sub (callF sub Pd n) b), ss_ok (fun s s' h => trS_ok depth (O.rais _) depth (tcOf gt a sc) s s' h _ _ FM CK) hb, ?_⟩
        have hdl : ds.length = (argNames a).length := rs.length.trans hl
        refine ⟨ds.map some ++ List.replicate ((namesOf a sc).length - ds.length) none, ι, S, env_start rs _ rfl, hS, ?_⟩
        have ho : Out ⟨K⟩ xw ι H (callF sub Pd (n + 1) x ds S) _ := ho
        rw [callF_ok hPi hdl] at ho
        unfold frame at ho
        cases q : exec sub (callF sub Pd n) b (ds.map some ++ List.replicate ((namesOf a sc).length - ds.length) none) S with
        | bad => rw [q] at ho; exact ho.elim
        | exc k S' =>
          rw [q] at ho
          intro ι' H' e' s'
          have ho : Out ⟨K⟩ xw ι H (if S'.take S.length = S then .exc k S else .exc k S') _ := ho
          by_cases ht : S'.take S.length = S
          · rw [if_pos ht] at ho
            exact ⟨S, ι, ho ι H' e'.back (StOk.back e' hS s' ht)⟩
          · rw [if_neg ht] at ho
            exact ⟨S', ι', ho ι' H' e' s'⟩
        | ok fl S' =>
          rw [q] at ho
          intro ι' H' e' s'
          cases fl with
          | nx σ' => exact fun σv hv => leave_ok hS e' s' .non ho
          | rt d => exact fun v r => leave_ok hS e' s' r ho
          | bk σ' => exact ho.elim
          | ct σ' => exact ho.elim
      · rw [if_neg hs] at hF; cases hF
    | _ => cases hF
end
end EV

set_option Elab.async false
set_option linter.all false
set_option maxRecDepth 100000
namespace EV
open PySem PySem.Spec PyProof.Rows L2

/-! ### what the top has written -/
inductive DefsAt (K : PySem.W.Frag) : List (Str × Stmt) → Prop
  | nil : DefsAt K []
  | cons {x : Str} {st : Stmt} {r : List (Str × Stmt)} {f : Addr} {oc : Value} {od an : Option Addr} {osl : Array (Option Value)} {kV doc pm cdv ct : Value} :
      PySem.W.nsIn K mainGlobals x = some (some (.ref f)) →
      K.lookup f = some ⟨oc, od, .func (PySem.W.fnOf x x (defArgs st) (defBody st) (defScope st) .none kV doc pm an cdv ct), osl⟩ →
      PySem.W.codeIn K cdv x = true → PySem.W.keepIn K (.ref f) = true → DefsAt K r → DefsAt K ((x, st) :: r)
inductive FlatAt : D → Value → Prop
  | non : FlatAt .non .none
  | bl (b : Bool) : FlatAt (.bl b) (.bool b)
  | int (i : Int) (t : Tok) : FlatAt (.int i) (.int i t)
  | str (x : Str) (t : Tok) : FlatAt (.str x) (.str x t)
inductive FlatsAt : List D → List Value → Prop
  | nil : FlatsAt [] []
  | cons {d : D} {u : Value} {ds : List D} {us : List Value} : FlatAt d u → FlatsAt ds us → FlatsAt (d :: ds) (u :: us)
inductive ValsAt (K : PySem.W.Frag) : List (Str × D) → Prop
  | nil : ValsAt K []
  | flat {x : Str} {d : D} {u : Value} {r : List (Str × D)} : PySem.W.nsIn K mainGlobals x = some (some u) → FlatAt d u → ValsAt K r → ValsAt K ((x, d) :: r)
  | tup {x : Str} {ds : List D} {a : Addr} {od : Option Addr} {us : List Value} {n : Nat} {sl : Array (Option Value)} {r : List (Str × D)} : PySem.W.nsIn K mainGlobals x = some (some (.ref a)) →
      K.lookup a = some ⟨.type "tuple", od, .seq us.toArray n, sl⟩ → us.length ≤ 1000 → FlatsAt ds us → ValsAt K r → ValsAt K ((x, .tup ds) :: r)
inductive NoneAt (K : PySem.W.Frag) : List Str → Prop
  | nil : NoneAt K []
  | cons {x : Str} {r : List Str} : PySem.W.nsIn K mainGlobals x = some none → NoneAt K r → NoneAt K (x :: r)

noncomputable def flatV' : D → V
  | .bl b => .bl b
  | .int i => .int i
  | .str x => .str x
  | _ => .non
theorem FlatAt.rel {d : D} {u : Value} (h : FlatAt d u) : RelV (flatV' d) u ∧ ∀ Γ ι H, Rep Γ ι H d (flatV' d) := by
  cases h with
  | non => exact ⟨rfl, fun _ _ _ => .non⟩
  | bl b => exact ⟨rfl, fun _ _ _ => .bl b⟩
  | int i t => exact ⟨⟨t, rfl⟩, fun _ _ _ => .int i⟩
  | str x t => exact ⟨⟨t, rfl⟩, fun _ _ _ => .str x⟩
theorem FlatsAt.rel : ∀ {ds : List D} {us : List Value}, FlatsAt ds us → Vals (ds.map flatV') us ∧ ∀ Γ ι H, Reps Γ ι H ds (ds.map flatV')
  | _, _, .nil => ⟨.nil, fun _ _ _ => .nil⟩
  | _, _, .cons h r => ⟨.cons h.rel.1 (FlatsAt.rel r).1, fun Γ ι H => .cons (h.rel.2 Γ ι H) ((FlatsAt.rel r).2 Γ ι H)⟩
theorem DefsAt.get {K : PySem.W.Frag} : ∀ {fns : List (Str × Stmt)} {x : Str} {st : Stmt}, DefsAt K fns → (x, st) ∈ fns → ∃ f fd, PySem.W.nsIn K mainGlobals x = some (some (.ref f)) ∧ Fun K x x st f fd
  | _, _, _, .nil, h => by simp at h
  | _, _, _, .cons a l c k r, h => by
    rcases List.mem_cons.mp h with e | h
    · cases e; exact ⟨_, _, a, fun_mk l c k⟩
    · exact DefsAt.get r h
theorem ValsAt.get {K : PySem.W.Frag} : ∀ {vals : List (Str × D)} {x : Str} {d : D}, ValsAt K vals → (x, d) ∈ vals → ∃ u v, PySem.W.nsIn K mainGlobals x = some (some u) ∧ RelV v u ∧ ∀ ι H, Rep ⟨K⟩ ι H d v
  | _, _, _, .nil, h => by simp at h
  | _, x, d, .flat a f r, h => by
    rcases List.mem_cons.mp h with e | h
    · cases e; exact ⟨_, _, a, f.rel.1, fun ι H => f.rel.2 _ ι H⟩
    · exact ValsAt.get r h
  | _, x, d, .tup a l z f r, h => by
    rcases List.mem_cons.mp h with e | h
    · cases e
      refine ⟨_, .ref _, a, rfl, fun ι H => ?_⟩
      have hz : ∀ {us : List Value}, us.length ≤ 1000 → us.toArray.size ≤ sizeLine := fun {us} h => by rw [List.size_toArray, sizeLine_eq]; omega
      exact .tup' (.inr ⟨_, _, _, l, rfl, rfl, hz z, by simpa using f.rel.1⟩) (f.rel.2 _ ι H)
    · exact ValsAt.get r h
theorem NoneAt.get {K : PySem.W.Frag} : ∀ {l : List Str} {x : Str}, NoneAt K l → x ∈ l → PySem.W.nsIn K mainGlobals x = some none
  | _, _, .nil, h => by simp at h
  | _, _, .cons a r, h => by
    rcases List.mem_cons.mp h with rfl | h
    · exact a
    · exact NoneAt.get r h
/-- the table of names -/
noncomputable def gtOf (fns : List (Str × Stmt)) (vals : List (Str × D)) (cls : List Str) : List (Str × GE) := (fns.map fun p => (p.1, .fn)) ++ (vals.map fun p => (p.1, .val p.2)) ++ cls.map fun x => (x, .cls)
theorem look_map {α β γ : Type} {f : Str × α → Str × β} (hf : ∀ p, (f p).1 = p.1) {g : Str × α → γ} : ∀ {l : List (Str × α)} {x : Str} {b : β}, (l.map f).lookup x = some b → ∃ p ∈ l, p.1 = x ∧ (f p).2 = b ∧ l.lookup x = some p.2
  | [], _, _, h => by simp at h
  | p :: r, x, b, h => by
    have e : f p = (p.1, (f p).2) := by rw [← hf p]
    rw [List.map_cons, e, List.lookup_cons] at h
    obtain ⟨y, a⟩ := p
    cases q : x == y with
    | true =>
      simp only [q] at h
      have e : x = y := by simpa using q
      subst e
      exact ⟨(x, a), List.mem_cons_self, rfl, by simpa using h, by rw [List.lookup_cons, q]⟩
    | false =>
      simp only [q] at h
      obtain ⟨p, h1, h2, h3, h4⟩ := look_map hf (g := g) h
      exact ⟨p, List.mem_cons_of_mem _ h1, h2, h3, by rw [List.lookup_cons, q]; exact h4⟩
theorem look_app {β : Type} : ∀ {l m : List (Str × β)} {x : Str}, (l ++ m).lookup x = (match l.lookup x with | some b => some b | none => m.lookup x)
  | [], m, x => by simp
  | (y, a) :: r, m, x => by
    rw [List.cons_append, List.lookup_cons, List.lookup_cons]
    cases x == y with
    | true => rfl
    | false => exact look_app
theorem mem_of_lookup' {α : Type} : ∀ {l : List (Str × α)} {x : Str} {a : α}, l.lookup x = some a → (x, a) ∈ l
  | [], _, _, h => by simp at h
  | (y, b) :: r, x, a, h => by
    rw [List.lookup_cons] at h
    cases q : x == y with
    | true =>
      rw [q] at h
      have e : x = y := by simpa using q
      subst e
      have e : b = a := by simpa using h
      subst e
      exact List.mem_cons_self
    | false => rw [q] at h; exact List.mem_cons_of_mem _ (mem_of_lookup' h)
theorem txt_of {K : PySem.W.Frag} {h : Heap} {mg : Str → Option Value} {fns : List (Str × Stmt)} {vals : List (Str × D)} {cls : List Str} (X : K.In h) (G : h.Ns mainGlobals mg) (hd : DefsAt K fns) (hv : ValsAt K vals)
    (hb : ∀ x ∈ bltNames, (gtOf fns vals cls).lookup x = none → PySem.W.nsIn K mainGlobals x = some none) : Txt K mg (gtOf fns vals cls) fns where
  fn := fun x hx => by
    unfold gtOf at hx
    rw [look_app, look_app] at hx
    cases q : (fns.map fun p => (p.1, GE.fn)).lookup x with
    | some b =>
      obtain ⟨p, h1, h2, _, h4⟩ := look_map (g := fun _ => ()) (f := fun p => (p.1, GE.fn)) (fun _ => rfl) q
      obtain ⟨y, st⟩ := p
      have h2 : y = x := h2
      subst h2
      obtain ⟨f, fd, a, F⟩ := hd.get h1
      exact ⟨st, f, fd, h4, PySem.W.mg_of X G a, F⟩
    | none =>
      rw [q] at hx
      cases q2 : (vals.map fun p => (p.1, GE.val p.2)).lookup x with
      | some b =>
        rw [q2] at hx
        obtain ⟨p, h1, h2, h3, _⟩ := look_map (g := fun _ => ()) (f := fun p => (p.1, GE.val p.2)) (fun _ => rfl) q2
        have hx : b = .fn := by simpa using hx
        rw [hx] at h3; cases h3
      | none =>
        rw [q2] at hx
        have hm := mem_of_lookup' hx
        obtain ⟨p, _, e⟩ := List.mem_map.mp hm; cases e
  blt := fun x hx hn => PySem.W.mg_none_of X G (hb x hx hn)
  val := fun x d hx => by
    have hm := mem_of_lookup' hx
    unfold gtOf at hm
    rcases List.mem_append.mp hm with hm | hm
    · rcases List.mem_append.mp hm with hm | hm
      · obtain ⟨p, hp, e⟩ := List.mem_map.mp hm; cases e
      · obtain ⟨p, hp, e⟩ := List.mem_map.mp hm
        cases e
        obtain ⟨u, v, a, r, q⟩ := hv.get hp
        exact ⟨u, v, PySem.W.mg_of X G a, r, q⟩
    · obtain ⟨p, _, e⟩ := List.mem_map.mp hm; cases e

/-! ### without exceptions -/
noncomputable def W0 : XW → Prop := fun xw => xw = XF
noncomputable def EW0 : XW → XK := fun _ => E0
theorem anyX_F : anyX XF = XF := by
  funext c S ι H
  exact propext ⟨fun ⟨_, _, h⟩ => h, fun h => h.elim⟩
theorem xok0 {P : Program} {w : World} {K : PySem.W.Frag} {mg : Str → Option Value} {base : Heap} {sub : Sub} : Xok P w K mg base W0 CX0 EW0 sub where
  noF := fun _ _ _ _ _ h => h
  okF := rfl
  any := fun xw h => by rw [show xw = XF from h]; exact anyX_F
  pass := fun _ _ _ _ _ _ _ _ _ _ _ _ _ _ _ _ _ _ h => h.elim
  rais := fun cf c X xw e s' pos F C h => by
    have hw : xw = XF := F.ok
    subst hw
    have hs : ∃ k, s' = .rais k := by
      unfold trRaise at h
      repeat' split at h
      all_goals first | (cases h; done) | (cases h; exact ⟨_, rfl⟩)
    obtain ⟨k, rfl⟩ := hs
    refine PS.imp ps_never fun D σ H h => ?_
    obtain ⟨σd, ι, S, _, hS, ho⟩ := h
    exact ho ι H .refl hS
/-- the law's call -/
theorem law_in {K : PySem.W.Frag} {H : Hp} {a : Addr} {ns : List Int} (hO : Only H) (hS : SqL K H a (ns.map V.int)) : StOk ⟨K⟩ [] H [] ∧ Reps ⟨K⟩ [] H [.fro (ns.map .int)] [.ref a] := by
  refine ⟨⟨rfl, List.nodup_nil, fun l c h => by simp at h⟩, .cons ?_ .nil⟩
  have hp : Reps ⟨K⟩ [] H (ns.map D.int) (ns.map V.int) := ints_reps ns
  have hf : Fro K H a (ns.map V.int) := by
    rcases hS with (h | ⟨o, h⟩) | h
    · rcases hO a with z | ⟨o, xs, z⟩
      · rw [h] at z; cases z
      · rw [h] at z; cases z
    · exact .inl ⟨o, h⟩
    · exact .inr fun H => .inr h
  exact .fro hf (by simp) fun i d v e1 e2 => by
    obtain ⟨y, e, f⟩ := Paired.get hp e1
    rw [e2] at e; cases e; exact f
theorem hP_of {fns : List (Str × Stmt)} {gt : List (Str × GE)} {Pd : Prg} (hP : fns.map (fun p => (p.1, trF gt p.2)) = Pd.map fun p => (p.1, some p.2)) : ∀ x st, fns.lookup x = some st → ∃ F, trF gt st = some F ∧ Pd.lookup x = some F := by
  have all : ∀ (fns : List (Str × Stmt)) (Pd : Prg), (fns.map (fun p => (p.1, trF gt p.2)) = Pd.map fun p => (p.1, some p.2)) → ∀ x st, fns.lookup x = some st → ∃ F, trF gt st = some F ∧ Pd.lookup x = some F := by
    intro fns
    induction fns with
    | nil => intro Pd _ x st h; simp at h
    | cons p r ih =>
      intro Pd hP x st h
      cases Pd with
      | nil => simp at hP
      | cons F Pd =>
        obtain ⟨y, st0⟩ := p
        obtain ⟨y2, F⟩ := F
        rw [List.map_cons, List.map_cons] at hP
        injection hP with e1 e2
        have e1a : y = y2 := congrArg Prod.fst e1
        have e1b : trF gt st0 = some F := congrArg Prod.snd e1
        subst e1a
        rw [List.lookup_cons] at h
        rw [List.lookup_cons]
        cases q : x == y with
        | true =>
          rw [q] at h
          have h : st0 = st := by simpa using h
          subst h
          exact ⟨F, e1b, rfl⟩
        | false => rw [q] at h; exact ih Pd e2 x st h
  exact all fns Pd hP
/-- the goal that the head leaves, from a run over data -/
theorem walk_ev {l : PySem.W.OpenLaw} {q : Program} {loose : List Str} {XP : (Str → Option Value) → Heap → Prop} {YP : World → Heap → Prop} {d : DefRec} {K : Params → PySem.W.Frag} {fns : List (Str × Stmt)} {vals : List (Str × D)} {cls : List Str} {Pd : Prg} {sub : Sub} {n : Nat} {st : Stmt} {x : Str}
    (hn : l.most = some 63) (hdf : d.params.defaults = []) (hr : Room n callerA) (hY : ∀ (w : World) (h : Heap), YP w h → (K w.params).In h)
    (hP : fns.map (fun p => (p.1, trF (gtOf fns vals cls) p.2)) = Pd.map fun p => (p.1, some p.2)) (hL : fns.lookup d.name = some st) (hx : argNames (defArgs st) = [x])
    (hT : ∀ w : World, ∀ h : Heap, (K w.params).In h → DefsAt (K w.params) fns ∧ ValsAt (K w.params) vals ∧ ∀ x ∈ bltNames, (gtOf fns vals cls).lookup x = none → PySem.W.nsIn (K w.params) mainGlobals x = some none)
    (hmain : ∀ ns : List Int, ns.length ≤ 63 → ∃ S', callF sub Pd n d.name [.fro (ns.map .int)] [] = .ok (.bl true) S') :
    PySem.W.WalkO q loose XP YP l.row.toRowW d [] (fun f vs => PySem.call f vs) := by
  have hP' := hP_of hP
  refine L2.walk_of (n := 63) (k := n) (x := x) (CX := fun _ => CX0) (sp := fun w => spF ⟨K w.params⟩ W0 EW0 (callF sub Pd n d.name) 1) hn (by decide) hdf hr hY (fun w mg fa h KX G hmg => ?_) (fun w H a ns hl hO hS => ?_) fun _ _ _ _ _ z => z
  · obtain ⟨h1, h2, h3⟩ := hT w h KX
    have T := txt_of KX G h1 h2 h3
    obtain ⟨f, fd, a, F⟩ := h1.get (mem_of_lookup' hL)
    have e := hmg.symm.trans (PySem.W.mg_of KX G a)
    cases e
    refine ⟨fd, fun s u => ?_, fun base kb nb => ?_⟩
    · obtain ⟨F2, hF2, _⟩ := hP' d.name st hL
      obtain ⟨oc, od, kV, doc, pm, an, cdv, ct, osl, rfl, lk, hcd⟩ := F.ex
      cases st with
      | FunctionDef x1 a1 body1 e1 e2 e3 sc1 e4 e5 e6 =>
        have hF2 : (if scopeOkB a1 sc1 = true then (trSs (trS depth depth (tcOf (gtOf fns vals cls) a1 sc1)) body1).map fun b => (⟨(argNames a1).length, (namesOf a1 sc1).length, b⟩ : Fn) else none) = some F2 := hF2
        by_cases hs1 : scopeOkB a1 sc1 = true
        · obtain ⟨SC1, hpl1⟩ := fnScope hs1
          have nd1 : (argNames a1).Nodup := by rw [← SC1.pre]; exact SC1.nd.sublist (List.take_sublist _ _)
          have hx : argNames a1 = [x] := hx
          have := binds_plain (x := d.name) (qual := d.name) (body := body1) (sc := sc1) (kV := kV) (doc := doc) (pm := pm) (cdv := cdv) (ct := ct) (an := an) hpl1 nd1 (us := [u]) (by rw [hx]; rfl)
          rw [hx] at this
          exact .of_eq this
        · rw [if_neg hs1] at hF2; cases hF2
      | _ => cases hF2
    · have T' := txt_of kb nb h1 h2 h3
      have := fns_ok (sub := sub) (P := l.prog) (w := w) (base := base) T' xok0 hP' n d.name st fa fd hL F
      rw [hx] at this
      exact this
  · obtain ⟨hs, rs⟩ := law_in hO hS
    obtain ⟨S', hm⟩ := hmain ns hl
    refine ⟨rfl, XF, rfl, rfl, [], [], [.fro (ns.map .int)], hs, rs, ?_⟩
    rw [hm]
    intro ι' H' _ _ v r
    cases r
    rfl
end EV

set_option linter.all false
/-! How programs over data are run: equations for simp. -/
namespace EV
open PySem
variable {α β : Type}
noncomputable def Res.bind (r : Res α) (f : α → Store → Res β) : Res β := match r with
  | .ok a S => f a S
  | .exc c S => .exc c S
  | .bad => .bad
@[simp] theorem Res.bind_ok (a : α) (S : Store) (f : α → Store → Res β) : (Res.ok a S).bind f = f a S := id rfl
@[simp] theorem Res.bind_exc (c : Str) (S : Store) (f : α → Store → Res β) : (Res.exc c S : Res α).bind f = .exc c S := id rfl
@[simp] theorem Res.bind_bad (f : α → Store → Res β) : (Res.bad : Res α).bind f = .bad := id rfl
theorem Res.bind_ite {c : Prop} [Decidable c] (a b : Res α) (f : α → Store → Res β) : (if c then a else b).bind f = if c then a.bind f else b.bind f := by split <;> rfl
theorem bindM_ap (m : M α) (f : α → M β) (S : Store) : (m >>= f) S = (m S).bind fun a S' => f a S' := by
  rw [bind_ap]; cases m S <;> rfl
@[simp] theorem pureM_ap (a : α) (S : Store) : (pure a : M α) S = .ok a S := id rfl
@[simp] theorem bad_ap (S : Store) : (bad : M α) S = .bad := id rfl
@[simp] theorem guard_ap (b : Bool) (m : M α) (S : Store) : guard b m S = if b = true then m S else .bad := by cases b <;> rfl
@[simp] theorem opt_some (a : α) (S : Store) : opt (some a) S = .ok a S := id rfl
@[simp] theorem opt_none (S : Store) : (opt none : M α) S = .bad := id rfl
@[simp] theorem alloc_ap (c : Cell) (S : Store) : alloc c S = .ok (.loc S.length) (S ++ [c]) := id rfl
theorem quiet_ap (m : M α) (S : Store) : quiet m S = match m S with | .ok a S' => .ok a S' | _ => .bad := rfl
theorem quiet_ok {m : M α} {S S' : Store} {a : α} (h : m S = .ok a S') : quiet m S = .ok a S' := by rw [quiet_ap, h]
section
variable (sub : Sub) (cf : Str → List D → M D) (σ : Sg) (S : Store)
@[simp] theorem ev_v (i : Nat) : ev sub cf (.v i) σ S = varD σ i S := id rfl
@[simp] theorem ev_c (d : D) : ev sub cf (.c d) σ S = .ok d S := id rfl
@[simp] theorem ev_bin (o : Op2) (a b : E) : ev sub cf (.bin o a b) σ S = (ev sub cf a σ S).bind fun x S1 => (ev sub cf b σ S1).bind fun y S2 => opD o x y S2 := by
  show (ev sub cf a σ >>= fun x => ev sub cf b σ >>= fun y => opD o x y) S = _
  simp only [bindM_ap]
@[simp] theorem ev_cmp (o : Cm) (a b : E) : ev sub cf (.cmp o a b) σ S = (ev sub cf a σ S).bind fun x S1 => (ev sub cf b σ S1).bind fun y S2 => cmD o x y S2 := by
  show (ev sub cf a σ >>= fun x => ev sub cf b σ >>= fun y => cmD o x y) S = _
  simp only [bindM_ap]
@[simp] theorem ev_chn (o o' : Cm) (a b c : E) : ev sub cf (.chn o o' a b c) σ S = (ev sub cf a σ S).bind fun x S1 => (ev sub cf b σ S1).bind fun y S2 => (cmD o x y S2).bind fun r S3 => match r with
    | .bl true => (ev sub cf c σ S3).bind fun z S4 => cmD o' y z S4
    | .bl false => .ok (.bl false) S3
    | _ => .bad := by
  show (ev sub cf a σ >>= fun x => ev sub cf b σ >>= fun y => cmD o x y >>= fun r => match r with | .bl true => ev sub cf c σ >>= fun z => cmD o' y z | .bl false => pure (D.bl false) | _ => bad) S = _
  simp only [bindM_ap]
  congr 1; funext x S1; congr 1; funext y S2; congr 1; funext r S3
  cases r <;> first | rfl | (rename_i b; cases b <;> simp [bindM_ap])
@[simp] theorem ev_and (a b : E) : ev sub cf (.and a b) σ S = (ev sub cf a σ S).bind fun r S1 => match r with | .bl true => ev sub cf b σ S1 | .bl false => .ok (.bl false) S1 | _ => .bad := by
  show (ev sub cf a σ >>= fun r => match r with | .bl true => ev sub cf b σ | .bl false => pure (D.bl false) | _ => bad) S = _
  rw [bindM_ap]; congr 1; funext r S1
  cases r <;> first | rfl | (rename_i b; cases b <;> rfl)
@[simp] theorem ev_or (a b : E) : ev sub cf (.or a b) σ S = (ev sub cf a σ S).bind fun r S1 => match r with | .bl true => .ok (.bl true) S1 | .bl false => ev sub cf b σ S1 | _ => .bad := by
  show (ev sub cf a σ >>= fun r => match r with | .bl true => pure (D.bl true) | .bl false => ev sub cf b σ | _ => bad) S = _
  rw [bindM_ap]; congr 1; funext r S1
  cases r <;> first | rfl | (rename_i b; cases b <;> rfl)
@[simp] theorem ev_not (a : E) : ev sub cf (.not a) σ S = (ev sub cf a σ S).bind fun r S1 => match r with | .bl b => .ok (.bl (!b)) S1 | _ => .bad := by
  show (ev sub cf a σ >>= fun r => match r with | .bl b => pure (D.bl (!b)) | _ => bad) S = _
  rw [bindM_ap]; congr 1; funext r S1; cases r <;> rfl
@[simp] theorem ev_neg (a : E) : ev sub cf (.neg a) σ S = (ev sub cf a σ S).bind fun r S1 => match r with | .int i => .ok (.int (-i)) S1 | _ => .bad := by
  show (ev sub cf a σ >>= fun r => match r with | .int i => pure (D.int (-i)) | _ => bad) S = _
  rw [bindM_ap]; congr 1; funext r S1; cases r <;> rfl
@[simp] theorem ev_ite (c a b : E) : ev sub cf (.ite c a b) σ S = (evT sub cf c σ S).bind fun k S1 => if k = true then ev sub cf a σ S1 else ev sub cf b σ S1 := by
  show (evT sub cf c σ >>= fun k => if k = true then ev sub cf a σ else ev sub cf b σ) S = _
  rw [bindM_ap]; congr 1; funext k S1; cases k <;> rfl
@[simp] theorem evs_nl : evs sub cf .nl σ S = .ok [] S := id rfl
@[simp] theorem evs_cs (a r : E) : evs sub cf (.cs a r) σ S = (ev sub cf a σ S).bind fun x S1 => (evs sub cf r σ S1).bind fun xs S2 => .ok (x :: xs) S2 := by
  show (ev sub cf a σ >>= fun x => evs sub cf r σ >>= fun xs => pure (x :: xs)) S = _
  simp only [bindM_ap]; rfl
@[simp] theorem ev_tup (es : E) : ev sub cf (.tup es) σ S = (evs sub cf es σ S).bind fun ds S1 => if fits ds.length = true then .ok (.tup ds) S1 else .bad := by
  show (evs sub cf es σ >>= fun ds => guard (fits ds.length) (pure (D.tup ds))) S = _
  rw [bindM_ap]; simp only [guard_ap, pureM_ap]
@[simp] theorem ev_lst (es : E) : ev sub cf (.lst es) σ S = (evs sub cf es σ S).bind fun ds S1 => if fits ds.length = true then .ok (.loc S1.length) (S1 ++ [.lst ds]) else .bad := by
  show (evs sub cf es σ >>= fun ds => guard (fits ds.length) (alloc (.lst ds))) S = _
  rw [bindM_ap]; simp only [guard_ap, alloc_ap]
@[simp] theorem ev_ix (a i : E) : ev sub cf (.ix a i) σ S = (ev sub cf a σ S).bind fun x S1 => (ev sub cf i σ S1).bind fun y S2 => ixD x y S2 := by
  show (ev sub cf a σ >>= fun x => ev sub cf i σ >>= fun y => ixD x y) S = _
  simp only [bindM_ap]
/-- a part of a slice -/
noncomputable def partE (e : E) (S : Store) : Res (Option Int) := if e.isNl = true then .ok none S else (ev sub cf e σ S).bind fun d S1 => partOf d S1
@[simp] theorem ev_sl (a lo hi : E) : ev sub cf (.sl a lo hi) σ S = (ev sub cf a σ S).bind fun x S1 => (partE sub cf σ lo S1).bind fun l S2 => (partE sub cf σ hi S2).bind fun h S3 => slD x l h S3 := by
  show (ev sub cf a σ >>= fun x => (if lo.isNl = true then pure none else ev sub cf lo σ >>= partOf) >>= fun l => (if hi.isNl = true then pure none else ev sub cf hi σ >>= partOf) >>= fun h => slD x l h) S = _
  simp only [bindM_ap]
  congr 1; funext x S1
  unfold partE
  cases lo.isNl <;> cases hi.isNl <;> simp [bindM_ap]
@[simp] theorem ev_call (f : Str) (es : E) : ev sub cf (.call f es) σ S = (evs sub cf es σ S).bind fun ds S1 => cf f ds S1 := by
  show (evs sub cf es σ >>= fun ds => cf f ds) S = _
  rw [bindM_ap]
@[simp] theorem ev_bi (b : Bi) (es : E) : ev sub cf (.bi b es) σ S = (evs sub cf es σ S).bind fun ds S1 => biD sub b ds S1 := by
  show (evs sub cf es σ >>= fun ds => biD sub b ds) S = _
  rw [bindM_ap]
@[simp] theorem ev_me (m : Me) (o es : E) : ev sub cf (.me m o es) σ S = (ev sub cf o σ S).bind fun x S1 => if x.isLoc = true then (evs sub cf es σ S1).bind fun ds S2 => meD m x ds S2 else .bad := by
  show (ev sub cf o σ >>= fun x => guard x.isLoc (evs sub cf es σ >>= fun ds => meD m x ds)) S = _
  simp only [bindM_ap, guard_ap]
theorem ev_comp (k : Nat) (el : E) (t : Tg) (it tt : E) : ev sub cf (.comp k el t it tt) σ S = (evI sub cf it σ S).bind fun s S1 => (quiet (compL s (fun d => bindT t d (σ ++ List.replicate k none) >>= fun σ' => (if tt.isNl = true then pure true else evT sub cf tt σ') >>= fun b => if b = true then ev sub cf el σ' >>= fun y => pure (some y) else pure none) s.its) S1).bind fun ys S2 => if fits ys.length = true then .ok (.loc S2.length) (S2 ++ [.lst ys]) else .bad := by
  show (evI sub cf it σ >>= fun s => quiet (compL s (fun d => bindT t d (σ ++ List.replicate k none) >>= fun σ' => (if tt.isNl = true then pure true else evT sub cf tt σ') >>= fun b => if b = true then ev sub cf el σ' >>= fun y => pure (some y) else pure none) s.its) >>= fun ys => guard (fits ys.length) (alloc (.lst ys))) S = _
  simp only [bindM_ap, guard_ap, alloc_ap]
@[simp] theorem evT_v (i : Nat) : evT sub cf (.v i) σ S = (varD σ i S).bind fun d S1 => truth d S1 := by
  show (varD σ i >>= truth) S = _
  rw [bindM_ap]
@[simp] theorem evT_c (d : D) : evT sub cf (.c d) σ S = truth d S := id rfl
@[simp] theorem evT_and (a b : E) : evT sub cf (.and a b) σ S = (evT sub cf a σ S).bind fun k S1 => if k = true then evT sub cf b σ S1 else .ok false S1 := by
  show (evT sub cf a σ >>= fun k => if k = true then evT sub cf b σ else pure false) S = _
  rw [bindM_ap]; congr 1; funext k S1; cases k <;> rfl
@[simp] theorem evT_or (a b : E) : evT sub cf (.or a b) σ S = (evT sub cf a σ S).bind fun k S1 => if k = true then .ok true S1 else evT sub cf b σ S1 := by
  show (evT sub cf a σ >>= fun k => if k = true then pure true else evT sub cf b σ) S = _
  rw [bindM_ap]; congr 1; funext k S1; cases k <;> rfl
@[simp] theorem evT_not (a : E) : evT sub cf (.not a) σ S = (evT sub cf a σ S).bind fun k S1 => .ok (!k) S1 := by
  show (evT sub cf a σ >>= fun k => pure (!k)) S = _
  rw [bindM_ap]; rfl
@[simp] theorem evT_cmp (o : Cm) (a b : E) : evT sub cf (.cmp o a b) σ S = (ev sub cf a σ S).bind fun x S1 => (ev sub cf b σ S1).bind fun y S2 => (cmD o x y S2).bind fun r S3 => truth r S3 := by
  show (ev sub cf a σ >>= fun x => ev sub cf b σ >>= fun y => cmD o x y >>= fun r => truth r) S = _
  simp only [bindM_ap]
@[simp] theorem evT_chn (o o' : Cm) (a b c : E) : evT sub cf (.chn o o' a b c) σ S = (ev sub cf a σ S).bind fun x S1 => (ev sub cf b σ S1).bind fun y S2 => (cmD o x y S2).bind fun r S3 => (truth r S3).bind fun k S4 => if k = true then (ev sub cf c σ S4).bind fun z S5 => (cmD o' y z S5).bind fun r S6 => truth r S6 else .ok false S4 := by
  show (ev sub cf a σ >>= fun x => ev sub cf b σ >>= fun y => cmD o x y >>= fun r => truth r >>= fun k => if k = true then ev sub cf c σ >>= fun z => cmD o' y z >>= fun r => truth r else pure false) S = _
  simp only [bindM_ap]
  congr 1; funext x S1; congr 1; funext y S2; congr 1; funext r S3; congr 1; funext k S4
  cases k <;> simp [bindM_ap]
@[simp] theorem evT_ix (a i : E) : evT sub cf (.ix a i) σ S = (ev sub cf (.ix a i) σ S).bind fun d S1 => truth d S1 := by
  show (ev sub cf (.ix a i) σ >>= truth) S = _
  rw [bindM_ap]
@[simp] theorem evT_call (f : Str) (es : E) : evT sub cf (.call f es) σ S = (ev sub cf (.call f es) σ S).bind fun d S1 => truth d S1 := by
  show (ev sub cf (.call f es) σ >>= truth) S = _
  rw [bindM_ap]
@[simp] theorem evT_bi (b : Bi) (es : E) : evT sub cf (.bi b es) σ S = (ev sub cf (.bi b es) σ S).bind fun d S1 => truth d S1 := by
  show (ev sub cf (.bi b es) σ >>= truth) S = _
  rw [bindM_ap]
@[simp] theorem evI_seq (a : E) : evI sub cf (.iSeq a) σ S = (ev sub cf a σ S).bind fun d S1 => srcOf d S1 := by
  show (ev sub cf a σ >>= srcOf) S = _
  rw [bindM_ap]
@[simp] theorem evI_enum (a : E) : evI sub cf (.iEnum a) σ S = (ev sub cf a σ S).bind fun d S1 => (srcOf d S1).bind fun s S2 => .ok { s with its := num 0 s.its } S2 := by
  show (ev sub cf a σ >>= fun d => srcOf d >>= fun s => pure { s with its := num 0 s.its }) S = _
  simp only [bindM_ap]; rfl
@[simp] theorem evI_rng (es : E) : evI sub cf (.iRng es) σ S = (evs sub cf es σ S).bind fun ds S1 => (opt (rngOf ds) S1).bind fun is S2 => .ok ⟨is.map .int, none, []⟩ S2 := by
  show (evs sub cf es σ >>= fun ds => opt (rngOf ds) >>= fun is => pure (⟨is.map .int, none, []⟩ : Src)) S = _
  simp only [bindM_ap]; rfl
@[simp] theorem exec_ret (e : E) : exec sub cf (.ret e) σ S = (ev sub cf e σ S).bind fun d S1 => .ok (.rt d) S1 := by
  show (ev sub cf e σ >>= fun d => pure (Fl.rt d)) S = _
  rw [bindM_ap]; rfl
@[simp] theorem exec_retN : exec sub cf .retN σ S = .ok (.rt .non) S := id rfl
@[simp] theorem exec_set (t : Tg) (e : E) : exec sub cf (.set t e) σ S = (ev sub cf e σ S).bind fun d S1 => (bindT t d σ S1).bind fun σ' S2 => .ok (.nx σ') S2 := by
  show (ev sub cf e σ >>= fun d => bindT t d σ >>= fun σ' => pure (Fl.nx σ')) S = _
  simp only [bindM_ap]; rfl
@[simp] theorem exec_ex (e : E) : exec sub cf (.ex e) σ S = (ev sub cf e σ S).bind fun _ S1 => .ok (.nx σ) S1 := by
  show (ev sub cf e σ >>= fun _ => pure (Fl.nx σ)) S = _
  rw [bindM_ap]; rfl
@[simp] theorem exec_ite (c : E) (a b : EV.S) : exec sub cf (.ite c a b) σ S = (evT sub cf c σ S).bind fun k S1 => if k = true then exec sub cf a σ S1 else exec sub cf b σ S1 := by
  show (evT sub cf c σ >>= fun k => if k = true then exec sub cf a σ else exec sub cf b σ) S = _
  rw [bindM_ap]; congr 1; funext k S1; cases k <;> rfl
theorem exec_for (t : Tg) (it : E) (b : EV.S) : exec sub cf (.forS t it b) σ S = quiet (evI sub cf it σ >>= fun s => forL s (fun d σ => bindT t d σ >>= fun σ' => exec sub cf b σ') s.its σ) S := rfl
@[simp] theorem exec_rais (c : Str) : exec sub cf (.rais c) σ S = .exc c S := id rfl
@[simp] theorem exec_skip : exec sub cf .skip σ S = .ok (.nx σ) S := id rfl
/-- behind a statement -/
noncomputable def thenS (b : EV.S) (r : Res Fl) : Res Fl := r.bind fun f S1 => match f with | .nx σ' => exec sub cf b σ' S1 | f => .ok f S1
@[simp] theorem thenS_nx (b : EV.S) (σ' : Sg) (S1 : Store) : thenS sub cf b (.ok (.nx σ') S1) = exec sub cf b σ' S1 := id rfl
@[simp] theorem thenS_rt (b : EV.S) (d : D) (S1 : Store) : thenS sub cf b (.ok (.rt d) S1) = .ok (.rt d) S1 := id rfl
@[simp] theorem thenS_bk (b : EV.S) (σ' : Sg) (S1 : Store) : thenS sub cf b (.ok (.bk σ') S1) = .ok (.bk σ') S1 := id rfl
@[simp] theorem thenS_ct (b : EV.S) (σ' : Sg) (S1 : Store) : thenS sub cf b (.ok (.ct σ') S1) = .ok (.ct σ') S1 := id rfl
@[simp] theorem thenS_exc (b : EV.S) (c : Str) (S1 : Store) : thenS sub cf b (.exc c S1) = .exc c S1 := id rfl
@[simp] theorem thenS_bad (b : EV.S) : thenS sub cf b .bad = .bad := id rfl
theorem thenS_ite {c : Prop} [Decidable c] (b : EV.S) (x y : Res Fl) : thenS sub cf b (if c then x else y) = if c then thenS sub cf b x else thenS sub cf b y := by split <;> rfl
@[simp] theorem exec_seq (a b : EV.S) : exec sub cf (.seq a b) σ S = thenS sub cf b (exec sub cf a σ S) := by
  show (exec sub cf a σ >>= fun f => match f with | .nx σ' => exec sub cf b σ' | f => pure f) S = _
  rw [bindM_ap]; unfold thenS; congr 1; funext f S1; cases f <;> rfl
end
theorem exec_gT {sub : Sub} {cf : Str → List D → M D} {σ : Sg} {S : Store} {c e : E} {r : EV.S} (h : evT sub cf c σ S = .ok true S) : exec sub cf (.seq (.ite c (.ret e) .skip) r) σ S = exec sub cf (.ret e) σ S := by
  rw [exec_seq, exec_ite, h, exec_ret]
  show thenS sub cf r (exec sub cf (.ret e) σ S) = _
  rw [exec_ret]
  cases ev sub cf e σ S <;> rfl
theorem exec_gF {sub : Sub} {cf : Str → List D → M D} {σ : Sg} {S : Store} {c : E} {a r : EV.S} (h : evT sub cf c σ S = .ok false S) : exec sub cf (.seq (.ite c a .skip) r) σ S = exec sub cf r σ S := by
  rw [exec_seq, exec_ite, h]
  show thenS sub cf r (exec sub cf .skip σ S) = _
  rw [exec_skip, thenS_nx]
theorem exec_q1 {sub : Sub} {cf : Str → List D → M D} {σ σ' : Sg} {S S' : Store} {a r : EV.S} (h : exec sub cf a σ S = .ok (.nx σ') S') : exec sub cf (.seq a r) σ S = exec sub cf r σ' S' := by
  rw [exec_seq, h, thenS_nx]
theorem exec_s1 {sub : Sub} {cf : Str → List D → M D} {σ : Sg} {S : Store} {i : Nat} {e : E} {r : EV.S} {d : D} {S' : Store} (h : ev sub cf e σ S = .ok d S') : exec sub cf (.seq (.set (.one i) e) r) σ S = exec sub cf r (σ.set i (some d)) S' := by
  rw [exec_seq, exec_set, h]
  show thenS sub cf r ((bindT (.one i) d σ S').bind fun σ' S2 => .ok (.nx σ') S2) = _
  rfl
/-! ### names -/
theorem varD_ap (σ : Sg) (i : Nat) (S : Store) : varD σ i S = match σ[i]? with | some (some d) => .ok d S | _ => .bad := by
  unfold varD
  cases σ[i]? with
  | none => rfl
  | some x => cases x <;> rfl
@[simp] theorem varD_0 (d : D) (σ : Sg) (S : Store) : varD (some d :: σ) 0 S = .ok d S := id rfl
@[simp] theorem varD_s (x : Option D) (σ : Sg) (i : Nat) (S : Store) : varD (x :: σ) (i + 1) S = varD σ i S := id rfl
@[simp] theorem bindT_one (i : Nat) (d : D) (σ : Sg) (S : Store) : bindT (.one i) d σ S = .ok (σ.set i (some d)) S := id rfl
@[simp] theorem bindT_many (is : List Nat) (ds : List D) (σ : Sg) (S : Store) : bindT (.many is) (.tup ds) σ S = if ds.length = is.length then .ok (setAll is ds σ) S else .bad := by
  show guard (decide (ds.length = is.length)) (pure (setAll is ds σ)) S = _
  simp
/-! ### operations -/
@[simp] theorem op_add_ii (i j : Int) (S : Store) : opD .add (.int i) (.int j) S = .ok (.int (i + j)) S := id rfl
@[simp] theorem op_add_tt (xs ys : List D) (S : Store) : opD .add (.tup xs) (.tup ys) S = if fits (xs.length + ys.length) = true then .ok (.tup (xs ++ ys)) S else .bad := by
  show guard _ _ S = _
  simp
@[simp] theorem op_sub_ii (i j : Int) (S : Store) : opD .sub (.int i) (.int j) S = .ok (.int (i - j)) S := id rfl
@[simp] theorem op_mul_ii (i j : Int) (S : Store) : opD .mul (.int i) (.int j) S = if (small i || small j) = true then .ok (.int (i * j)) S else .bad := by
  show guard _ _ S = _
  simp
@[simp] theorem op_fdiv_ii (i j : Int) (S : Store) : opD .fdiv (.int i) (.int j) S = if (decide (0 < j) && decide (j < 1073741824)) = true then .ok (.int (i / j)) S else .bad := by
  show guard _ _ S = _
  simp
theorem op_pow_ii (i j : Int) (S : Store) : opD .pow (.int i) (.int j) S = if (decide (0 ≤ j) && decide (j ≤ 1000) && decide (i.natAbs < 2 ^ 64)) = true then .ok (.int (i ^ j.toNat)) S else .bad := by
  show guard _ _ S = _
  simp
@[simp] theorem op_mod_ii (i j : Int) (S : Store) : opD .mod (.int i) (.int j) S = if 0 < j then .ok (.int (i % j)) S else .bad := by
  show guard _ _ S = _
  simp
@[simp] theorem fits_le' {n : Nat} (h : n ≤ 1000) : fits n = true := decide_eq_true (by unfold sizeMax; omega)
@[simp] theorem cm_lt (i j : Int) (S : Store) : cmD .lt (.int i) (.int j) S = .ok (.bl (decide (i < j))) S := id rfl
@[simp] theorem cm_le (i j : Int) (S : Store) : cmD .le (.int i) (.int j) S = .ok (.bl (decide (i ≤ j))) S := id rfl
@[simp] theorem cm_gt (i j : Int) (S : Store) : cmD .gt (.int i) (.int j) S = .ok (.bl (decide (j < i))) S := id rfl
@[simp] theorem cm_ge (i j : Int) (S : Store) : cmD .ge (.int i) (.int j) S = .ok (.bl (decide (j ≤ i))) S := id rfl
theorem cm_eq (x y : D) (S : Store) : cmD .eq x y S = match eqD deep S x y with | some k => .ok (.bl k) S | none => .bad := by
  show (eqM x y >>= fun b => pure (D.bl b)) S = _
  rw [bindM_ap]
  unfold eqM
  cases eqD deep S x y <;> rfl
theorem cm_ne (x y : D) (S : Store) : cmD .ne x y S = if neOk x y = true then (match eqD deep S x y with | some k => .ok (.bl (!k)) S | none => .bad) else .bad := by
  show guard (neOk x y) (eqM x y >>= fun b => pure (D.bl (!b))) S = _
  rw [guard_ap, bindM_ap]
  unfold eqM
  cases eqD deep S x y <;> rfl
@[simp] theorem cm_eq_ii (i j : Int) (S : Store) : cmD .eq (.int i) (.int j) S = .ok (.bl (i == j)) S := id rfl
@[simp] theorem cm_eq_ss (i j : Str) (S : Store) : cmD .eq (.str i) (.str j) S = .ok (.bl (i == j)) S := id rfl
@[simp] theorem cm_ne_ii (i j : Int) (S : Store) : cmD .ne (.int i) (.int j) S = .ok (.bl (!(i == j))) S := id rfl
@[simp] theorem truth_bl (b : Bool) (S : Store) : truth (.bl b) S = .ok b S := id rfl
@[simp] theorem items_tup (ds : List D) (S : Store) : items (.tup ds) S = .ok ds S := id rfl
@[simp] theorem items_fro (ds : List D) (S : Store) : items (.fro ds) S = .ok ds S := id rfl
theorem items_loc {l : Nat} {ds : List D} {S : Store} (h : S[l]? = some (.lst ds)) : items (.loc l) S = .ok ds S := by
  show (match listAt S l with | some ds => Res.ok ds S | none => .bad) = _
  unfold listAt; rw [h]
theorem ixD_ap (a : D) (j : Int) (S : Store) : ixD a (.int j) S = (items a S).bind fun xs S1 => opt (atI xs j) S1 := by
  show (items a >>= fun xs => opt (atI xs j)) S = _
  rw [bindM_ap]
@[simp] theorem ixD_tup (xs : List D) (j : Int) (S : Store) : ixD (.tup xs) (.int j) S = opt (atI xs j) S := by rw [ixD_ap]; rfl
@[simp] theorem ixD_fro (xs : List D) (j : Int) (S : Store) : ixD (.fro xs) (.int j) S = opt (atI xs j) S := by rw [ixD_ap]; rfl
theorem ixD_loc {l : Nat} {xs : List D} {j : Int} {S : Store} (h : S[l]? = some (.lst xs)) : ixD (.loc l) (.int j) S = opt (atI xs j) S := by rw [ixD_ap, items_loc h]; rfl
theorem atI_nat' {xs : List D} {j : Nat} : atI xs (j : Int) = xs[j]? := by
  unfold atI ixN
  rw [if_pos (by omega)]
  by_cases h : j < xs.length
  · rw [if_pos (by omega)]; simp
  · rw [if_neg (by omega)]; rw [List.getElem?_eq_none (by omega)]; rfl
@[simp] theorem atI_l0 (xs : List D) : atI xs 0 = xs[0]? := atI_nat' (j := 0)
@[simp] theorem atI_l1 (xs : List D) : atI xs 1 = xs[1]? := atI_nat' (j := 1)
@[simp] theorem atI_l2 (xs : List D) : atI xs 2 = xs[2]? := atI_nat' (j := 2)
@[simp] theorem atI_l3 (xs : List D) : atI xs 3 = xs[3]? := atI_nat' (j := 3)
@[simp] theorem atI_l4 (xs : List D) : atI xs 4 = xs[4]? := atI_nat' (j := 4)
@[simp] theorem atI_l5 (xs : List D) : atI xs 5 = xs[5]? := atI_nat' (j := 5)
@[simp] theorem bi_len (sub : Sub) (d : D) (S : Store) : biD sub .len [d] S = (items d S).bind fun ds S1 => .ok (.int ds.length) S1 := by
  show (items d >>= fun ds => pure (D.int ds.length)) S = _
  rw [bindM_ap]; rfl
@[simp] theorem bi_inst (sub : Sub) (t : Ty) (d : D) (S : Store) : biD sub (.inst t) [d] S = match tyOf sub S d t with | some k => .ok (.bl k) S | none => .bad := id rfl
@[simp] theorem bi_tuple (sub : Sub) (d : D) (S : Store) : biD sub .tuple [d] S = (items d S).bind fun ds S1 => .ok (.tup ds) S1 := by
  show (items d >>= fun ds => pure (D.tup ds)) S = _
  rw [bindM_ap]; rfl
@[simp] theorem bi_list (sub : Sub) (d : D) (S : Store) : biD sub .list [d] S = (items d S).bind fun ds S1 => .ok (.loc S1.length) (S1 ++ [.lst ds]) := by
  show (items d >>= fun ds => alloc (.lst ds)) S = _
  rw [bindM_ap]; rfl
theorem bi_all (sub : Sub) (d : D) (S : Store) : biD sub .all [d] S = (items d S).bind fun ds S1 => (opt (allBools ds) S1).bind fun bs S2 => .ok (.bl (bs.all id)) S2 := by
  show (items d >>= fun ds => opt (allBools ds) >>= fun bs => pure (D.bl (bs.all id))) S = _
  simp only [bindM_ap]; rfl
theorem bi_any (sub : Sub) (d : D) (S : Store) : biD sub .any [d] S = (items d S).bind fun ds S1 => (opt (allBools ds) S1).bind fun bs S2 => .ok (.bl (bs.any id)) S2 := by
  show (items d >>= fun ds => opt (allBools ds) >>= fun bs => pure (D.bl (bs.any id))) S = _
  simp only [bindM_ap]; rfl
theorem bi_sum (sub : Sub) (d : D) (S : Store) : biD sub .sum [d] S = (items d S).bind fun ds S1 => (opt (allInts ds) S1).bind fun is S2 => .ok (.int is.sum) S2 := by
  show (items d >>= fun ds => opt (allInts ds) >>= fun is => pure (D.int is.sum)) S = _
  simp only [bindM_ap]; rfl
theorem bi_min (sub : Sub) (d : D) (S : Store) : biD sub .min [d] S = (items d S).bind fun ds S1 => (opt (allInts ds) S1).bind fun is S2 => minL is S2 := by
  show (items d >>= fun ds => opt (allInts ds) >>= fun is => minL is) S = _
  simp only [bindM_ap]
theorem bi_max (sub : Sub) (d : D) (S : Store) : biD sub .max [d] S = (items d S).bind fun ds S1 => (opt (allInts ds) S1).bind fun is S2 => maxL is S2 := by
  show (items d >>= fun ds => opt (allInts ds) >>= fun is => maxL is) S = _
  simp only [bindM_ap]
theorem me_append {l : Nat} {ds : List D} {d : D} {S : Store} (h : S[l]? = some (.lst ds)) (hz : ds.length < sizeMax) : meD .append (.loc l) [d] S = .ok .non (S.set l (.lst (ds ++ [d]))) := by
  show onLst l (fun ds => guard (fits1 ds.length) (put l (.lst (ds ++ [d])))) S = _
  unfold onLst
  rw [h]
  simp [fits1, hz, put]
theorem me_extend {l k : Nat} {ds es : List D} {S : Store} (h : S[l]? = some (.lst ds)) (h2 : S[k]? = some (.lst es)) (hz : ds.length + es.length ≤ sizeMax) : meD .extend (.loc l) [.loc k] S = .ok .non (S.set l (.lst (ds ++ es))) := by
  show onLst l (fun ds => onLst k fun es => guard (fits (ds.length + es.length)) (put l (.lst (ds ++ es)))) S = _
  unfold onLst
  rw [h]
  simp only
  rw [h2]
  simp [fits, hz, put]
/-! ### stores -/
@[simp] theorem get_app0 (S T : Store) (c : Cell) : (S ++ c :: T)[S.length]? = some c := by simp
@[simp] theorem get_appk (S T : Store) (k : Nat) : (S ++ T)[S.length + k]? = T[k]? := by
  rw [List.getElem?_append_right (by omega)]; congr 1; omega
@[simp] theorem set_app0 (S T : Store) (c d : Cell) : (S ++ c :: T).set S.length d = S ++ d :: T := by simp
theorem set_appL {α : Type} : ∀ (S T : List α) (k : Nat) (d : α), (S ++ T).set (S.length + k) d = S ++ T.set k d
  | [], T, k, d => by simp
  | x :: S, T, k, d => by
    rw [List.length_cons, show S.length + 1 + k = S.length + k + 1 by omega, List.cons_append, List.set_cons_succ, set_appL S T k d]
    rfl
@[simp] theorem set_appk (S T : Store) (k : Nat) (d : Cell) : (S ++ T).set (S.length + k) d = S ++ T.set k d := set_appL S T k d
@[simp] theorem take_app (S T : Store) : (S ++ T).take S.length = S := by simp
theorem me_app0 {S T : Store} {xs : List D} {d : D} (h : xs.length ≤ 1000000) : meD .append (.loc S.length) [d] (S ++ .lst xs :: T) = .ok .non (S ++ .lst (xs ++ [d]) :: T) := by
  rw [me_append (ds := xs) (get_app0 S T _) (by unfold sizeMax; omega), set_app0]
theorem me_appk {S T : Store} {k : Nat} {xs : List D} {d : D} (hk : T[k]? = some (.lst xs)) (h : xs.length ≤ 1000000) : meD .append (.loc (S.length + k)) [d] (S ++ T) = .ok .non (S ++ T.set k (.lst (xs ++ [d]))) := by
  rw [me_append (ds := xs) (by rw [get_appk]; exact hk) (by unfold sizeMax; omega), set_appk]
@[simp] theorem items_app0 (S T : Store) (xs : List D) : items (.loc S.length) (S ++ .lst xs :: T) = .ok xs (S ++ .lst xs :: T) := items_loc (by simp)
@[simp] theorem items_app1 (S T : Store) (a : Cell) (xs : List D) : items (.loc (S.length + 1)) (S ++ a :: .lst xs :: T) = .ok xs (S ++ a :: .lst xs :: T) := items_loc (by simp)
@[simp] theorem items_app2 (S T : Store) (a b : Cell) (xs : List D) : items (.loc (S.length + 2)) (S ++ a :: b :: .lst xs :: T) = .ok xs (S ++ a :: b :: .lst xs :: T) := items_loc (by simp)
@[simp] theorem items_app3 (S T : Store) (a b c : Cell) (xs : List D) : items (.loc (S.length + 3)) (S ++ a :: b :: c :: .lst xs :: T) = .ok xs (S ++ a :: b :: c :: .lst xs :: T) := items_loc (by simp)
@[simp] theorem items_app4 (S T : Store) (a b c d : Cell) (xs : List D) : items (.loc (S.length + 4)) (S ++ a :: b :: c :: d :: .lst xs :: T) = .ok xs (S ++ a :: b :: c :: d :: .lst xs :: T) := items_loc (by simp)
@[simp] theorem items_app5 (S T : Store) (a b c d e : Cell) (xs : List D) : items (.loc (S.length + 5)) (S ++ a :: b :: c :: d :: e :: .lst xs :: T) = .ok xs (S ++ a :: b :: c :: d :: e :: .lst xs :: T) := items_loc (by simp)
@[simp] theorem ixD_loc' (l : Nat) (j : Int) (S : Store) : ixD (.loc l) (.int j) S = (items (.loc l) S).bind fun xs S1 => opt (atI xs j) S1 := ixD_ap _ _ _
/-! ### loops -/
theorem still_none (its raw : List D) (S : Store) : still ⟨its, none, raw⟩ S = .ok () S := rfl
theorem still_ok {s : Src} {S : Store} (h : s.l = none ∨ ∃ l, s.l = some l ∧ S[l]? = some (.lst s.raw)) : still s S = .ok () S := by
  unfold still
  rcases h with h | ⟨l, h, h2⟩
  · rw [h]; rfl
  · rw [h]; unfold listAt; simp [h2]
theorem forL_nil (s : Src) (f : D → Sg → M Fl) (σ : Sg) (S : Store) : forL s f [] σ S = (still s S).bind fun _ S1 => .ok (.nx σ) S1 := by
  show (still s >>= fun _ => pure (Fl.nx σ)) S = _
  rw [bindM_ap]; rfl
theorem forL_cons (s : Src) (f : D → Sg → M Fl) (d : D) (ds : List D) (σ : Sg) (S : Store) : forL s f (d :: ds) σ S = (still s S).bind fun _ S1 => (f d σ S1).bind fun fl S2 => match fl with
    | .nx σ' => forL s f ds σ' S2 | .ct σ' => forL s f ds σ' S2 | .bk σ' => .ok (.nx σ') S2 | .rt d => .ok (.rt d) S2 := by
  show (still s >>= fun _ => f d σ >>= fun fl => match fl with | .nx σ' => forL s f ds σ' | .ct σ' => forL s f ds σ' | .bk σ' => pure (Fl.nx σ') | .rt d => pure (Fl.rt d)) S = _
  simp only [bindM_ap]
  congr 1; funext _ S1; congr 1; funext fl S2; cases fl <;> rfl
/-- a loop that runs through: the states between the turns -/
theorem forL_run {s : Src} {f : D → Sg → M Fl} : ∀ {its : List D} {σ : Nat → Sg} {T : Nat → Store}, (∀ i, i ≤ its.length → still s (T i) = .ok () (T i)) → (∀ i (h : i < its.length), f its[i] (σ i) (T i) = .ok (.nx (σ (i + 1))) (T (i + 1))) →
    forL s f its (σ 0) (T 0) = .ok (.nx (σ its.length)) (T its.length)
  | [], σ, T, h1, _ => by rw [forL_nil, h1 0 (Nat.le_refl _)]; rfl
  | d :: ds, σ, T, h1, h2 => by
    rw [forL_cons, h1 0 (Nat.zero_le _)]
    have e := h2 0 (by simp)
    simp only [Res.bind_ok]
    rw [show f d (σ 0) (T 0) = .ok (.nx (σ 1)) (T 1) from e]
    simp only [Res.bind_ok]
    exact forL_run (its := ds) (σ := fun i => σ (i + 1)) (T := fun i => T (i + 1)) (fun i hi => h1 (i + 1) (by simpa using hi)) fun i hi => h2 (i + 1) (by simpa using hi)
/-- .. that is left at turn j -/
theorem forL_ret {s : Src} {f : D → Sg → M Fl} : ∀ {its : List D} {σ : Nat → Sg} {T : Nat → Store} {j : Nat} {d : D} {S' : Store} (hj : j < its.length), (∀ i, i ≤ j → still s (T i) = .ok () (T i)) → (∀ i (h : i < j), f (its[i]'(by omega)) (σ i) (T i) = .ok (.nx (σ (i + 1))) (T (i + 1))) →
    f its[j] (σ j) (T j) = .ok (.rt d) S' → forL s f its (σ 0) (T 0) = .ok (.rt d) S'
  | [], _, _, _, _, _, hj, _, _, _ => by simp at hj
  | e :: ds, σ, T, 0, d, S', _, h1, _, h3 => by
    rw [forL_cons, h1 0 (Nat.le_refl _)]
    simp only [Res.bind_ok]
    rw [show f e (σ 0) (T 0) = .ok (.rt d) S' from h3]
    rfl
  | e :: ds, σ, T, j + 1, d, S', hj, h1, h2, h3 => by
    rw [forL_cons, h1 0 (Nat.zero_le _)]
    have q := h2 0 (by omega)
    simp only [Res.bind_ok]
    rw [show f e (σ 0) (T 0) = .ok (.nx (σ 1)) (T 1) from q]
    simp only [Res.bind_ok]
    exact forL_ret (its := ds) (σ := fun i => σ (i + 1)) (T := fun i => T (i + 1)) (j := j) (by simpa using hj) (fun i hi => h1 (i + 1) (by omega)) (fun i hi => h2 (i + 1) (by omega)) h3
theorem compL_nil' (s : Src) (f : D → M (Option D)) (S : Store) : compL s f [] S = (still s S).bind fun _ S1 => .ok [] S1 := by
  show (still s >>= fun _ => pure []) S = _
  rw [bindM_ap]; rfl
theorem compL_cons' (s : Src) (f : D → M (Option D)) (d : D) (ds : List D) (S : Store) : compL s f (d :: ds) S = (still s S).bind fun _ S1 => (f d S1).bind fun y S2 => (compL s f ds S2).bind fun ys S3 => .ok (match y with | some y => y :: ys | none => ys) S3 := by
  show (still s >>= fun _ => f d >>= fun y => compL s f ds >>= fun ys => pure (match y with | some y => y :: ys | none => ys)) S = _
  simp only [bindM_ap]; rfl
/-- a comprehension whose turns leave the store as it is -/
theorem compL_run {s : Src} {f : D → M (Option D)} {g : D → Option D} {S : Store} (hs : still s S = .ok () S) : ∀ {its : List D}, (∀ d ∈ its, f d S = .ok (g d) S) → compL s f its S = .ok (its.filterMap g) S
  | [], _ => by rw [compL_nil', hs]; rfl
  | d :: ds, h => by
    rw [compL_cons', hs]
    simp only [Res.bind_ok]
    rw [h d List.mem_cons_self]
    simp only [Res.bind_ok]
    rw [compL_run hs fun e he => h e (List.mem_cons_of_mem _ he)]
    simp only [Res.bind_ok, List.filterMap_cons]
    cases g d <;> rfl
/-! ### the end of a def -/
theorem endF_rt (S S' : Store) (d : D) : endF S (.ok (.rt d) S') = leave S d S' := rfl
theorem endF_nx (S S' : Store) (σ : Sg) : endF S (.ok (.nx σ) S') = leave S .non S' := rfl
mutual
theorem low_mono : ∀ {d : D} {n m : Nat}, n ≤ m → d.low n = true → d.low m = true
  | .tup ds, n, m, h, q => lows_mono h q
  | .fro ds, n, m, h, q => lows_mono h q
  | .loc l, n, m, h, q => decide_eq_true (Nat.lt_of_lt_of_le (of_decide_eq_true q) h)
  | .non, _, _, _, _ => rfl
  | .bl _, _, _, _, _ => rfl
  | .int _, _, _, _, _ => rfl
  | .str _, _, _, _, _ => rfl
  | .exn _, _, _, _, _ => rfl
theorem lows_mono : ∀ {ds : List D} {n m : Nat}, n ≤ m → D.lows n ds = true → D.lows m ds = true
  | [], _, _, _, _ => rfl
  | d :: r, n, m, h, q => by
    rw [D.lows, Bool.and_eq_true] at q ⊢
    exact ⟨low_mono h q.1, lows_mono h q.2⟩
end
/-- data without lists -/
abbrev D.cl (d : D) : Prop := d.low 0 = true
theorem leave_cl {S S' : Store} {d : D} (h : d.cl) (ht : S'.take S.length = S) : leave S d S' = .ok d S := by
  unfold leave
  rw [if_pos ht, if_pos (low_mono (Nat.zero_le _) h)]
theorem leave_flat_int {S T : Store} {i : Int} : leave S (.int i) (S ++ T) = .ok (.int i) S := leave_cl rfl (by simp)
theorem leave_new {S T : Store} {ds : List D} {k : Nat} (h : T[k]? = some (.lst ds)) (hc : D.lows 0 ds = true) : leave S (.loc (S.length + k)) (S ++ T) = .ok (.loc S.length) (S ++ [.lst ds]) := by
  unfold leave
  rw [if_pos (by simp)]
  rw [if_neg (by show ¬ decide (S.length + k < S.length) = true; simp)]
  simp only
  rw [get_appk, h]
  simp only
  rw [if_pos (show Cell.low S.length (.lst ds) = true from lows_mono (Nat.zero_le _) hc)]
theorem lows_app {n : Nat} : ∀ {a b : List D}, D.lows n (a ++ b) = (D.lows n a && D.lows n b)
  | [], b => by simp [D.lows]
  | d :: a, b => by rw [List.cons_append, D.lows, D.lows, lows_app, Bool.and_assoc]
theorem lows_all {n : Nat} : ∀ {ds : List D}, D.lows n ds = true ↔ ∀ d ∈ ds, d.low n = true
  | [] => by simp [D.lows]
  | d :: r => by rw [D.lows, Bool.and_eq_true, lows_all]; simp
theorem lows_ints {n : Nat} (is : List Int) : D.lows n (is.map .int) = true := lows_all.mpr fun d h => by
  obtain ⟨i, _, rfl⟩ := List.mem_map.mp h; rfl
theorem lows_map {α : Type} {n : Nat} {f : α → D} (hf : ∀ a, (f a).low n = true) (l : List α) : D.lows n (l.map f) = true := lows_all.mpr fun d h => by
  obtain ⟨i, _, rfl⟩ := List.mem_map.mp h; exact hf i
theorem allInts_map (is : List Int) : allInts (is.map .int) = some is := by
  induction is with
  | nil => rfl
  | cons i r ih => simp [allInts, ih]
theorem allBools_map (is : List Bool) : allBools (is.map .bl) = some is := by
  induction is with
  | nil => rfl
  | cons i r ih => simp [allBools, ih]
/-! ### comprehensions -/
section
variable {sub : Sub} {cf : Str → List D → M D} {σ : Sg} {S S1 : Store} {k i : Nat} {el it tt : E} {s : Src}
theorem comp_map {g : D → D} (hi : evI sub cf it σ S = .ok s S1) (hs : still s S1 = .ok () S1) (hg : ∀ d ∈ s.its, ev sub cf el ((σ ++ List.replicate k none).set i (some d)) S1 = .ok (g d) S1) (hz : s.its.length ≤ sizeMax) :
    ev sub cf (.comp k el (.one i) it .nl) σ S = .ok (.loc S1.length) (S1 ++ [.lst (s.its.map g)]) := by
  rw [ev_comp, hi]
  simp only [Res.bind_ok]
  have := compL_run (s := s) (f := fun d => bindT (.one i) d (σ ++ List.replicate k none) >>= fun σ' => (if E.isNl .nl = true then pure true else evT sub cf .nl σ') >>= fun b => if b = true then ev sub cf el σ' >>= fun y => pure (some y) else pure none) (g := fun d => some (g d)) (S := S1) hs (its := s.its) (fun d hd => by
    simp only [bindM_ap, bindT_one, Res.bind_ok]
    show (ev sub cf el ((σ ++ List.replicate k none).set i (some d)) >>= fun y => pure (some y)) S1 = _
    rw [bindM_ap, hg d hd]; rfl)
  rw [quiet_ok this]
  have e : s.its.filterMap (fun d => some (g d)) = s.its.map g := by rw [← List.filterMap_eq_map]; rfl
  rw [e]
  simp [fits, hz]
theorem comp_filter {g : D → D} {p : D → Bool} (hn : tt.isNl = false) (hi : evI sub cf it σ S = .ok s S1) (hs : still s S1 = .ok () S1) (hp : ∀ d ∈ s.its, evT sub cf tt ((σ ++ List.replicate k none).set i (some d)) S1 = .ok (p d) S1)
    (hg : ∀ d ∈ s.its, p d = true → ev sub cf el ((σ ++ List.replicate k none).set i (some d)) S1 = .ok (g d) S1) (hz : s.its.length ≤ sizeMax) :
    ev sub cf (.comp k el (.one i) it tt) σ S = .ok (.loc S1.length) (S1 ++ [.lst ((s.its.filter p).map g)]) := by
  rw [ev_comp, hi]
  simp only [Res.bind_ok]
  have := compL_run (s := s) (f := fun d => bindT (.one i) d (σ ++ List.replicate k none) >>= fun σ' => (if tt.isNl = true then pure true else evT sub cf tt σ') >>= fun b => if b = true then ev sub cf el σ' >>= fun y => pure (some y) else pure none) (g := fun d => if p d = true then some (g d) else none) (S := S1) hs (its := s.its) (fun d hd => by
    simp only [bindM_ap, bindT_one, Res.bind_ok, hn, Bool.false_eq_true, if_false]
    rw [hp d hd]
    cases q : p d with
    | false => simp
    | true => simp [bindM_ap, hg d hd q])
  rw [quiet_ok this]
  have e : s.its.filterMap (fun d => if p d = true then some (g d) else none) = (s.its.filter p).map g := by
    induction s.its with
    | nil => rfl
    | cons a r ih => cases q : p a <;> simp [q, ih]
  rw [e]
  have hz' : ((s.its.filter p).map g).length ≤ sizeMax := by
    rw [List.length_map]; exact Nat.le_trans (List.length_filter_le _ _) hz
  simp only [Res.bind_ok]
  rw [if_pos (show fits ((s.its.filter p).map g).length = true from decide_eq_true hz')]
theorem comp_map2 {is : List Nat} {g : D → D} (hi : evI sub cf it σ S = .ok s S1) (hs : still s S1 = .ok () S1) (hg : ∀ d ∈ s.its, ∃ ds, d = .tup ds ∧ ds.length = is.length ∧ ev sub cf el (setAll is ds (σ ++ List.replicate k none)) S1 = .ok (g d) S1) (hz : s.its.length ≤ sizeMax) :
    ev sub cf (.comp k el (.many is) it .nl) σ S = .ok (.loc S1.length) (S1 ++ [.lst (s.its.map g)]) := by
  rw [ev_comp, hi]
  simp only [Res.bind_ok]
  have := compL_run (s := s) (f := fun d => bindT (.many is) d (σ ++ List.replicate k none) >>= fun σ' => (if E.isNl .nl = true then pure true else evT sub cf .nl σ') >>= fun b => if b = true then ev sub cf el σ' >>= fun y => pure (some y) else pure none) (g := fun d => some (g d)) (S := S1) hs (its := s.its) (fun d hd => by
    obtain ⟨ds, rfl, hl, hd⟩ := hg d hd
    simp only [bindM_ap, bindT_many, hl, if_true, Res.bind_ok]
    show (ev sub cf el (setAll is ds (σ ++ List.replicate k none)) >>= fun y => pure (some y)) S1 = _
    rw [bindM_ap, hd]; rfl)
  rw [quiet_ok this]
  have e : s.its.filterMap (fun d => some (g d)) = s.its.map g := by rw [← List.filterMap_eq_map]; rfl
  rw [e]
  simp [fits, hz]
end
@[simp] theorem srcOf_tup (ds : List D) (S : Store) : srcOf (.tup ds) S = .ok ⟨ds, none, ds⟩ S := id rfl
@[simp] theorem srcOf_fro (ds : List D) (S : Store) : srcOf (.fro ds) S = .ok ⟨ds, none, ds⟩ S := id rfl
theorem srcOf_loc {l : Nat} {ds : List D} {S : Store} (h : S[l]? = some (.lst ds)) : srcOf (.loc l) S = .ok ⟨ds, some l, ds⟩ S := by
  show (items (.loc l) >>= fun ds => pure (⟨ds, some l, ds⟩ : Src)) S = _
  rw [bindM_ap, items_loc h]; rfl
/-- all([..]) -/
theorem all_new {sub : Sub} {S : Store} {α : Type} (l : List α) (g : α → Bool) : biD sub .all [.loc S.length] (S ++ [.lst (l.map fun a => .bl (g a))]) = .ok (.bl (l.all g)) (S ++ [.lst (l.map fun a => .bl (g a))]) := by
  rw [bi_all, items_loc (ds := l.map fun a => D.bl (g a)) (get_app0 S [] _)]
  simp only [Res.bind_ok]
  rw [show allBools (l.map fun a => D.bl (g a)) = some (l.map g) from by rw [← allBools_map, List.map_map]; rfl]
  simp [List.all_map]
/-! ### for -/
section
variable {sub : Sub} {cf : Str → List D → M D} {σ : Sg} {S S1 S2 : Store} {t : Tg} {it : E} {b : EV.S} {s : Src} {fl : Fl}
noncomputable def bodyF (sub : Sub) (cf : Str → List D → M D) (t : Tg) (b : EV.S) : D → Sg → M Fl := fun d σ => bindT t d σ >>= fun σ' => exec sub cf b σ'
theorem body_one (i : Nat) (b : EV.S) (d : D) (σ : Sg) (S : Store) : bodyF sub cf (.one i) b d σ S = exec sub cf b (σ.set i (some d)) S := by
  unfold bodyF; rw [bindM_ap]; rfl
theorem body_many (is : List Nat) (b : EV.S) (ds : List D) (σ : Sg) (S : Store) (h : ds.length = is.length) : bodyF sub cf (.many is) b (.tup ds) σ S = exec sub cf b (setAll is ds σ) S := by
  unfold bodyF; rw [bindM_ap, bindT_many, if_pos h]; rfl
theorem for_ok (hi : evI sub cf it σ S = .ok s S1) (hf : forL s (bodyF sub cf t b) s.its σ S1 = .ok fl S2) : exec sub cf (.forS t it b) σ S = .ok fl S2 := by
  rw [exec_for]
  apply quiet_ok
  rw [bindM_ap, hi]
  exact hf
end
/-! ### loops that append -/
section
variable {sub : Sub} {cf : Str → List D → M D} {s : Src} {i j l : Nat} {e : E} {g : D → D}
noncomputable def lastSet (i : Nat) (its : List D) (σ : Sg) : Sg := match its.getLast? with
  | some d => σ.set i (some d)
  | none => σ
@[simp] theorem lastSet_nil (i : Nat) (σ : Sg) : lastSet i [] σ = σ := id rfl
theorem lastSet_cons (i : Nat) (d : D) (its : List D) (σ : Sg) : lastSet i (d :: its) σ = lastSet i its (σ.set i (some d)) := by
  unfold lastSet
  rw [List.getLast?_cons]
  cases q : its.getLast? with
  | none => rfl
  | some e => simp [List.set_set]
theorem set_self {α : Type} {S : List α} {l : Nat} {c : α} (h : S[l]? = some c) : S.set l c = S := by
  apply List.ext_getElem?
  intro k
  rw [List.getElem?_set]
  split
  · rename_i e; subst e
    split
    · exact h.symm
    · rename_i h2; exact absurd (List.getElem?_eq_some_iff.mp h).1 h2
  · rfl
theorem get_set {α : Type} {S : List α} {l : Nat} {c d : α} (h : S[l]? = some c) : (S.set l d)[l]? = some d := by
  rw [List.getElem?_set_self (List.getElem?_eq_some_iff.mp h).1]
theorem append_turn {σ : Sg} {S : Store} {xs : List D} {d : D} (hj : σ[j]? = some (some (.loc l))) (hS : S[l]? = some (.lst xs)) (he : ev sub cf e σ S = .ok d S) (hz : xs.length < sizeMax) :
    exec sub cf (.ex (.me .append (.v j) (.cs e .nl))) σ S = .ok (.nx σ) (S.set l (.lst (xs ++ [d]))) := by
  have hv : varD σ j S = .ok (.loc l) S := by rw [varD_ap, hj]
  simp only [exec_ex, ev_me, ev_v, hv, Res.bind_ok, D.isLoc, if_true, evs_cs, he, evs_nl, me_append hS hz]
theorem forL_append {α : Type} {f g : α → D} (hij : i ≠ j) : ∀ {ks : List α} {σ : Sg} {S : Store} {xs : List D}, σ[j]? = some (some (.loc l)) → S[l]? = some (.lst xs) → (∀ ys, still s (S.set l (.lst ys)) = .ok () (S.set l (.lst ys))) →
    (∀ a ∈ ks, ∀ ys, ev sub cf e (σ.set i (some (f a))) (S.set l (.lst ys)) = .ok (g a) (S.set l (.lst ys))) → xs.length + ks.length ≤ sizeMax →
    forL s (bodyF sub cf (.one i) (.ex (.me .append (.v j) (.cs e .nl)))) (ks.map f) σ S = .ok (.nx (lastSet i (ks.map f) σ)) (S.set l (.lst (xs ++ ks.map g)))
  | [], σ, S, xs, h1, h2, h3, h4, h5 => by
    have := h3 xs
    rw [set_self h2] at this
    rw [List.map_nil, forL_nil, this]
    simp [set_self h2]
  | d :: ks, σ, S, xs, h1, h2, h3, h4, h5 => by
    have hst := h3 xs
    rw [set_self h2] at hst
    rw [List.map_cons, forL_cons, hst]
    simp only [Res.bind_ok, body_one]
    have h1' : (σ.set i (some (f d)))[j]? = some (some (.loc l)) := by rw [List.getElem?_set_ne hij]; exact h1
    have hd := h4 d List.mem_cons_self xs
    rw [set_self h2] at hd
    rw [append_turn h1' h2 hd (by simp at h5; omega)]
    simp only [Res.bind_ok]
    rw [forL_append hij (xs := xs ++ [g d]) h1' (get_set h2) (fun ys => by rw [List.set_set]; exact h3 ys)
      (fun a ha ys => by rw [List.set_set, List.set_set]; exact h4 a (List.mem_cons_of_mem _ ha) ys) (by simp at h5 ⊢; omega)]
    rw [lastSet_cons, List.set_set, List.map_cons, List.append_assoc]
    rfl
end
theorem lastSet_ex {i : Nat} {its : List D} {σ : Sg} (h : i < σ.length) : ∃ x, lastSet i its σ = σ.set i x := by
  unfold lastSet
  cases its.getLast? with
  | some d => exact ⟨_, rfl⟩
  | none => exact ⟨σ[i], (set_self (List.getElem?_eq_getElem h)).symm⟩
theorem near_small {i : Int} (h1 : -1000000000 ≤ i) (h2 : i ≤ 1000000000) : near i = true := decide_eq_true ⟨by omega, by omega⟩
theorem rng1 (j : Int) : rng 0 j 1 = (List.range j.toNat).map fun (k : Nat) => (k : Int) := by
  unfold rng
  rw [if_pos (by decide)]
  have : (j - 0 + 1 - 1) / 1 = j := by rw [Int.ediv_one]; omega
  rw [this]
  simp
theorem rng2 (i j : Int) : rng i j 1 = (List.range (j - i).toNat).map fun (k : Nat) => i + (k : Int) := by
  unfold rng
  rw [if_pos (by decide)]
  have : (j - i + 1 - 1) / 1 = j - i := by rw [Int.ediv_one]; omega
  rw [this]
  simp
theorem rngOf1 {j : Int} (h1 : -1000000000 ≤ j) (h2 : j ≤ 1000000000) : rngOf [.int j] = some ((List.range j.toNat).map fun (k : Nat) => (k : Int)) := by
  show (if near j = true then some (rng 0 j 1) else none) = _
  rw [if_pos (near_small h1 h2), rng1]
theorem rngOf2 {i j : Int} (h1 : -1000000000 ≤ i) (h2 : i ≤ 1000000000) (h3 : -1000000000 ≤ j) (h4 : j ≤ 1000000000) : rngOf [.int i, .int j] = some ((List.range (j - i).toNat).map fun (k : Nat) => i + (k : Int)) := by
  show (if (near i && near j) = true then some (rng i j 1) else none) = _
  rw [near_small h1 h2, near_small h3 h4, rng2]; rfl
/-- for v in ..: xs.append(e) -/
theorem for_app {sub : Sub} {cf : Str → List D → M D} {i j l : Nat} {it e : E} {σ : Sg} {S S1 : Store} {xs : List D} {α : Type} {ks : List α} {f g : α → D} {o : Option Nat} {raw : List D}
    (hit : evI sub cf it σ S = .ok ⟨ks.map f, o, raw⟩ S1) (hj : σ[j]? = some (some (.loc l))) (hS : S1[l]? = some (.lst xs)) (hij : i ≠ j) (hi : i < σ.length) (hst : ∀ ys, still ⟨ks.map f, o, raw⟩ (S1.set l (.lst ys)) = .ok () (S1.set l (.lst ys)))
    (he : ∀ a ∈ ks, ∀ ys, ev sub cf e (σ.set i (some (f a))) (S1.set l (.lst ys)) = .ok (g a) (S1.set l (.lst ys))) (hz : xs.length + ks.length ≤ sizeMax) :
    ∃ x, exec sub cf (.forS (.one i) it (.ex (.me .append (.v j) (.cs e .nl)))) σ S = .ok (.nx (σ.set i x)) (S1.set l (.lst (xs ++ ks.map g))) := by
  obtain ⟨x, hx⟩ := lastSet_ex (i := i) (its := ks.map f) (σ := σ) hi
  refine ⟨x, ?_⟩
  rw [← hx]
  exact for_ok hit (forL_append hij hj hS hst he hz)
/-- == of two lists -/
theorem eq_lists {S : Store} {a b : Nat} {xs ys : List D} (ha : S[a]? = some (.lst xs)) (hb : S[b]? = some (.lst ys)) : eqD deep S (.loc a) (.loc b) = if xs.length = ys.length then eqDs (eqD 11 S) xs ys else some false := by
  have e1 : listAt S a = some xs := by unfold listAt; rw [ha]
  have e2 : listAt S b = some ys := by unfold listAt; rw [hb]
  show (match listAt S a, listAt S b with | some xs, some ys => if xs.length = ys.length then eqDs (eqD 11 S) xs ys else some false | _, _ => none) = _
  rw [e1, e2]
theorem cm_eq_empty {S : Store} {a b : Nat} {xs : List D} (ha : S[a]? = some (.lst xs)) (hb : S[b]? = some (.lst [])) : cmD .eq (.loc a) (.loc b) S = .ok (.bl xs.isEmpty) S := by
  rw [cm_eq, eq_lists ha hb]
  cases xs <;> simp [eqDs]
/-- a loop by an invariant -/
theorem forL_inv {s : Src} {f : D → Sg → M Fl} : ∀ {its : List D} (I : Nat → Sg → Store → Prop) {σ : Sg} {S : Store}, I 0 σ S → (∀ i σ T, I i σ T → still s T = .ok () T) →
    (∀ i (h : i < its.length) σ T, I i σ T → ∃ σ' T', f its[i] σ T = .ok (.nx σ') T' ∧ I (i + 1) σ' T') → ∃ σ' T', forL s f its σ S = .ok (.nx σ') T' ∧ I its.length σ' T'
  | [], I, σ, S, h0, h1, _ => ⟨σ, S, by rw [forL_nil, h1 0 σ S h0]; rfl, h0⟩
  | d :: ds, I, σ, S, h0, h1, h2 => by
    obtain ⟨σ1, T1, e1, i1⟩ := h2 0 (by simp) σ S h0
    obtain ⟨σ2, T2, e2, i2⟩ := forL_inv (its := ds) (fun i => I (i + 1)) i1 (fun i => h1 (i + 1)) fun i hi => h2 (i + 1) (by simpa using hi)
    refine ⟨σ2, T2, ?_, i2⟩
    rw [forL_cons, h1 0 σ S h0]
    simp only [Res.bind_ok]
    rw [show f d σ S = .ok (.nx σ1) T1 from e1]
    exact e2
theorem for_inv {sub : Sub} {cf : Str → List D → M D} {t : Tg} {it : E} {b : EV.S} {σ : Sg} {S S1 : Store} {s : Src} (I : Nat → Sg → Store → Prop) (hi : evI sub cf it σ S = .ok s S1) (h0 : I 0 σ S1) (h1 : ∀ i σ T, I i σ T → still s T = .ok () T)
    (h2 : ∀ i (h : i < s.its.length) σ T, I i σ T → ∃ σ' T', bodyF sub cf t b s.its[i] σ T = .ok (.nx σ') T' ∧ I (i + 1) σ' T') : ∃ σ' T', exec sub cf (.forS t it b) σ S = .ok (.nx σ') T' ∧ I s.its.length σ' T' := by
  obtain ⟨σ', T', e, i⟩ := forL_inv I h0 h1 h2
  exact ⟨σ', T', for_ok hi e, i⟩
/-! ### comprehensions over what stands for things -/
theorem compL_runA {α : Type} {s : Src} {fn : D → M (Option D)} {f : α → D} {g : α → Option D} {S : Store} (hs : still s S = .ok () S) : ∀ {ks : List α}, (∀ a ∈ ks, fn (f a) S = .ok (g a) S) → compL s fn (ks.map f) S = .ok (ks.filterMap g) S
  | [], _ => by rw [List.map_nil, compL_nil', hs]; rfl
  | d :: ds, h => by
    rw [List.map_cons, compL_cons', hs]
    simp only [Res.bind_ok]
    rw [h d List.mem_cons_self]
    simp only [Res.bind_ok]
    rw [compL_runA hs fun e he => h e (List.mem_cons_of_mem _ he)]
    simp only [Res.bind_ok, List.filterMap_cons]
    cases g d <;> rfl
theorem comp_mapA {sub : Sub} {cf : Str → List D → M D} {σ : Sg} {S S1 : Store} {k i : Nat} {el it : E} {α : Type} {ks : List α} {f g : α → D} {o : Option Nat} {raw : List D} (hi : evI sub cf it σ S = .ok ⟨ks.map f, o, raw⟩ S1) (hs : still ⟨ks.map f, o, raw⟩ S1 = .ok () S1)
    (hg : ∀ a ∈ ks, ev sub cf el ((σ ++ List.replicate k none).set i (some (f a))) S1 = .ok (g a) S1) (hz : ks.length ≤ sizeMax) :
    ev sub cf (.comp k el (.one i) it .nl) σ S = .ok (.loc S1.length) (S1 ++ [.lst (ks.map g)]) := by
  rw [ev_comp, hi]
  simp only [Res.bind_ok]
  have := compL_runA (s := ⟨ks.map f, o, raw⟩) (f := f) (fn := fun d => bindT (.one i) d (σ ++ List.replicate k none) >>= fun σ' => (if E.isNl .nl = true then pure true else evT sub cf .nl σ') >>= fun b => if b = true then ev sub cf el σ' >>= fun y => pure (some y) else pure none) (g := fun a => some (g a)) (S := S1) hs (ks := ks) (fun d hd => by
    simp only [bindM_ap, bindT_one, Res.bind_ok]
    show (ev sub cf el ((σ ++ List.replicate k none).set i (some (f d))) >>= fun y => pure (some y)) S1 = _
    rw [bindM_ap, hg d hd]; rfl)
  rw [quiet_ok this]
  have e : ks.filterMap (fun d => some (g d)) = ks.map g := by rw [← List.filterMap_eq_map]; rfl
  rw [e]
  simp only [Res.bind_ok]
  rw [if_pos (show fits (ks.map g).length = true from decide_eq_true (by rw [List.length_map]; exact hz))]
/-! ### slices -/
section
variable {sub : Sub} {cf : Str → List D → M D} {σ : Sg} {S : Store}
@[simp] theorem partE_nl : partE sub cf σ .nl S = .ok none S := id rfl
@[simp] theorem partE_c (i : Int) : partE sub cf σ (.c (.int i)) S = .ok (some i) S := id rfl
theorem partE_v {k : Nat} {i : Int} (h : varD σ k S = .ok (.int i) S) : partE sub cf σ (.v k) S = .ok (some i) S := by
  unfold partE
  simp only [E.isNl, Bool.false_eq_true, if_false, ev_v, h, Res.bind_ok]
  rfl
theorem sIx_nat' (n d m : Nat) : sIx n d (some (m : Int)) = min m n := by
  show (if (m : Int) < 0 then ((m : Int) + (n : Int)).toNat else min (m : Int).toNat n) = _
  rw [if_neg (by omega)]; simp
theorem sIx_none' (n d : Nat) : sIx n d none = d := rfl
theorem cut_to (xs : List D) (m : Nat) : cut xs none (some (m : Int)) = xs.take m := by
  unfold cut
  rw [sIx_nat', sIx_none', List.drop_zero, Nat.sub_zero]
  by_cases h : m ≤ xs.length
  · rw [Nat.min_eq_left h]
  · rw [Nat.min_eq_right (by omega), List.take_of_length_le (Nat.le_refl _), List.take_of_length_le (by omega)]
theorem cut_from (xs : List D) (m : Nat) : cut xs (some (m : Int)) none = xs.drop m := by
  unfold cut
  rw [sIx_nat', sIx_none']
  by_cases h : m ≤ xs.length
  · rw [Nat.min_eq_left h, List.take_of_length_le (by simp)]
  · rw [Nat.min_eq_right (by omega), List.drop_eq_nil_of_le (Nat.le_refl _), List.drop_eq_nil_of_le (by omega)]
    simp
theorem slD_to {a m : Nat} {xs : List D} (h : S[a]? = some (.lst xs)) : slD (.loc a) none (some (m : Int)) S = .ok (.loc S.length) (S ++ [.lst (xs.take m)]) := by
  show (items (.loc a) >>= fun xs => alloc (.lst (cut xs none (some (m : Int))))) S = _
  rw [bindM_ap, items_loc h]
  simp [cut_to]
theorem slD_from {a m : Nat} {xs : List D} (h : S[a]? = some (.lst xs)) : slD (.loc a) (some (m : Int)) none S = .ok (.loc S.length) (S ++ [.lst (xs.drop m)]) := by
  show (items (.loc a) >>= fun xs => alloc (.lst (cut xs (some (m : Int)) none))) S = _
  rw [bindM_ap, items_loc h]
  simp [cut_from]
@[simp] theorem slD_tup (xs : List D) (lo hi : Option Int) : slD (.tup xs) lo hi S = .ok (.tup (cut xs lo hi)) S := id rfl
theorem bi_rangeT {k : Nat} (h : k ≤ 1000) : biD sub .rangeT [.int (k : Int)] S = .ok (.tup ((List.range k).map fun (i : Nat) => .int (i : Int))) S := by
  have e : biD sub .rangeT [.int (k : Int)] = (opt (rngOf [.int (k : Int)]) >>= fun is => guard (fits is.length) (pure (.tup (is.map .int)))) := rfl
  rw [e, bindM_ap, rngOf1 (by omega) (by omega)]
  have : fits ((List.range k).map fun (i : Nat) => (i : Int)).length = true := fits_le' (by simp; omega)
  simp only [opt_some, Res.bind_ok, guard_ap, Int.toNat_natCast]
  rw [if_pos this, pureM_ap, List.map_map]
  rfl
/-- != of two equal lists -/
theorem ne_same {a b : Nat} {xs : List D} (ha : S[a]? = some (.lst xs)) (hb : S[b]? = some (.lst xs)) (h : eqDs (eqD 11 S) xs xs = some true) : cmD .ne (.loc a) (.loc b) S = .ok (.bl false) S := by
  rw [cm_ne, if_pos (show neOk (.loc a) (.loc b) = true from rfl), eq_lists ha hb, if_pos rfl, h]
  rfl
theorem eqDs_self {f : D → D → Option Bool} : ∀ {xs : List D}, (∀ x ∈ xs, f x x = some true) → eqDs f xs xs = some true
  | [], _ => rfl
  | x :: r, h => by
    show (match f x x, eqDs f r r with | some a, some b => some (a && b) | _, _ => none) = _
    rw [h x List.mem_cons_self, eqDs_self fun y hy => h y (List.mem_cons_of_mem _ hy)]
    rfl
theorem eqD_int (n : Nat) (i : Int) : eqD (n + 1) S (.int i) (.int i) = some true := by
  show some (i == i) = _
  simp
theorem eqD_ints (n : Nat) (is : List Int) : eqD (n + 2) S (.tup (is.map .int)) (.tup (is.map .int)) = some true := by
  show (eqDs (eqD (n + 1) S) (is.map .int) (is.map .int)).map (fun r => r && ((is.map D.int).length == (is.map D.int).length)) = _
  rw [eqDs_self fun x hx => by obtain ⟨i, _, rfl⟩ := List.mem_map.mp hx; exact eqD_int n i]
  simp
end
theorem num_getE (ds : List D) : ∀ (k i : Nat) (h : i < (num k ds).length), (num k ds)[i] = .tup [.int ((k + i : Nat) : Int), ds[i]'(by have : (num k ds).length = ds.length := (by clear h; induction ds generalizing k with | nil => rfl | cons _ _ ih => simp [num, ih]); omega)] := by
  induction ds with
  | nil => intro k i h; simp [num] at h
  | cons d r ih =>
    intro k i h
    cases i with
    | zero => simp [num]
    | succ i =>
      simp only [num, List.getElem_cons_succ]
      rw [ih (k + 1) i (by simpa [num] using h)]
      congr 3
      omega
theorem num_length' : ∀ (ds : List D) (k : Nat), (num k ds).length = ds.length
  | [], _ => rfl
  | _ :: r, k => by simp [num, num_length' r]
end EV

set_option linter.all false
/-! Runs step by step: a lemma for each kind of step, so that a run's proof is about as long as the text that runs. -/
namespace GO
open PySem EV
section
variable {sub : Sub} {cf : Str → List D → M D} {σ σ1 : Sg} {S S1 S2 S3 : Store} {R : Res D} {RF : Res Fl} {x y z d : D} {ds : List D} {a b c r es : E} {u v w : EV.S}
theorem r_v {i : Nat} (h : varD σ i S = .ok d S) : ev sub cf (.v i) σ S = .ok d S := h
theorem r_c : ev sub cf (.c d) σ S = .ok d S := id rfl
theorem r_bin {o : Op2} (ha : ev sub cf a σ S = .ok x S1) (hb : ev sub cf b σ S1 = .ok y S2) (h : opD o x y S2 = R) : ev sub cf (.bin o a b) σ S = R := by rw [ev_bin, ha, Res.bind_ok, hb, Res.bind_ok, h]
theorem r_cmp {o : Cm} (ha : ev sub cf a σ S = .ok x S1) (hb : ev sub cf b σ S1 = .ok y S2) (h : cmD o x y S2 = R) : ev sub cf (.cmp o a b) σ S = R := by rw [ev_cmp, ha, Res.bind_ok, hb, Res.bind_ok, h]
theorem r_andT (ha : ev sub cf a σ S = .ok (.bl true) S1) (hb : ev sub cf b σ S1 = R) : ev sub cf (.and a b) σ S = R := by rw [ev_and, ha]; exact hb
theorem r_andF (ha : ev sub cf a σ S = .ok (.bl false) S1) : ev sub cf (.and a b) σ S = .ok (.bl false) S1 := by rw [ev_and, ha]; rfl
theorem r_orT (ha : ev sub cf a σ S = .ok (.bl true) S1) : ev sub cf (.or a b) σ S = .ok (.bl true) S1 := by rw [ev_or, ha]; rfl
theorem r_orF (ha : ev sub cf a σ S = .ok (.bl false) S1) (hb : ev sub cf b σ S1 = R) : ev sub cf (.or a b) σ S = R := by rw [ev_or, ha]; exact hb
theorem r_not {k : Bool} (ha : ev sub cf a σ S = .ok (.bl k) S1) : ev sub cf (.not a) σ S = .ok (.bl (!k)) S1 := by rw [ev_not, ha]; rfl
theorem r_neg {i : Int} (ha : ev sub cf a σ S = .ok (.int i) S1) : ev sub cf (.neg a) σ S = .ok (.int (-i)) S1 := by rw [ev_neg, ha]; rfl
theorem r_iteT (hc : evT sub cf c σ S = .ok true S1) (ha : ev sub cf a σ S1 = R) : ev sub cf (.ite c a b) σ S = R := by rw [ev_ite, hc, Res.bind_ok, if_pos rfl, ha]
theorem r_iteF (hc : evT sub cf c σ S = .ok false S1) (hb : ev sub cf b σ S1 = R) : ev sub cf (.ite c a b) σ S = R := by rw [ev_ite, hc, Res.bind_ok, if_neg (by decide), hb]
theorem r_nl : evs sub cf .nl σ S = .ok [] S := id rfl
theorem r_cs (ha : ev sub cf a σ S = .ok x S1) (hr : evs sub cf r σ S1 = .ok ds S2) : evs sub cf (.cs a r) σ S = .ok (x :: ds) S2 := by rw [evs_cs, ha, Res.bind_ok, hr, Res.bind_ok]
theorem r_tup (hs : evs sub cf es σ S = .ok ds S1) (hz : fits ds.length = true) : ev sub cf (.tup es) σ S = .ok (.tup ds) S1 := by rw [ev_tup, hs, Res.bind_ok, if_pos hz]
theorem r_lst (hs : evs sub cf es σ S = .ok ds S1) (hz : fits ds.length = true) : ev sub cf (.lst es) σ S = .ok (.loc S1.length) (S1 ++ [.lst ds]) := by rw [ev_lst, hs, Res.bind_ok, if_pos hz]
theorem r_ix (ha : ev sub cf a σ S = .ok x S1) (hb : ev sub cf b σ S1 = .ok y S2) (h : ixD x y S2 = R) : ev sub cf (.ix a b) σ S = R := by rw [ev_ix, ha, Res.bind_ok, hb, Res.bind_ok, h]
theorem r_sl {lo hi : E} {p q : Option Int} (ha : ev sub cf a σ S = .ok x S1) (hl : partE sub cf σ lo S1 = .ok p S2) (hh : partE sub cf σ hi S2 = .ok q S3) (h : slD x p q S3 = R) : ev sub cf (.sl a lo hi) σ S = R := by
  rw [ev_sl, ha, Res.bind_ok, hl, Res.bind_ok, hh, Res.bind_ok, h]
theorem r_call {f : Str} (hs : evs sub cf es σ S = .ok ds S1) (h : cf f ds S1 = R) : ev sub cf (.call f es) σ S = R := by rw [ev_call, hs, Res.bind_ok, h]
theorem r_bi {o : Bi} (hs : evs sub cf es σ S = .ok ds S1) (h : biD sub o ds S1 = R) : ev sub cf (.bi o es) σ S = R := by rw [ev_bi, hs, Res.bind_ok, h]
theorem r_me {m : Me} {l : Nat} (ha : ev sub cf a σ S = .ok (.loc l) S1) (hs : evs sub cf es σ S1 = .ok ds S2) (h : meD m (.loc l) ds S2 = R) : ev sub cf (.me m a es) σ S = R := by
  rw [ev_me, ha, Res.bind_ok, if_pos (show (D.loc l).isLoc = true from rfl), hs, Res.bind_ok, h]
/-! tests -/
theorem t_ev {k : Bool} (h : ev sub cf a σ S = .ok (.bl k) S1) (ht : evT sub cf a σ S = (ev sub cf a σ S).bind fun d S1 => truth d S1) : evT sub cf a σ S = .ok k S1 := by rw [ht, h]; rfl
theorem t_v {i : Nat} {k : Bool} (h : varD σ i S = .ok (.bl k) S) : evT sub cf (.v i) σ S = .ok k S := by rw [evT_v, h]; rfl
theorem t_call {f : Str} {k : Bool} (h : ev sub cf (.call f es) σ S = .ok (.bl k) S1) : evT sub cf (.call f es) σ S = .ok k S1 := t_ev h (evT_call _ _ _ _ _ _)
theorem t_bi {o : Bi} {k : Bool} (h : ev sub cf (.bi o es) σ S = .ok (.bl k) S1) : evT sub cf (.bi o es) σ S = .ok k S1 := t_ev h (evT_bi _ _ _ _ _ _)
theorem t_ix {k : Bool} (h : ev sub cf (.ix a b) σ S = .ok (.bl k) S1) : evT sub cf (.ix a b) σ S = .ok k S1 := t_ev h (evT_ix _ _ _ _ _ _)
theorem g_cmp {o : Cm} {k : Bool} (h : ev sub cf (.cmp o a b) σ S = .ok (.bl k) S1) : evT sub cf (.cmp o a b) σ S = .ok k S1 := t_ev h (by
  rw [evT_cmp, ev_cmp]; cases ev sub cf a σ S <;> simp [Res.bind]; rename_i q Q; cases ev sub cf b σ Q <;> simp [Res.bind])
theorem t_andT {k : Bool} (ha : evT sub cf a σ S = .ok true S1) (hb : evT sub cf b σ S1 = .ok k S2) : evT sub cf (.and a b) σ S = .ok k S2 := by rw [evT_and, ha, Res.bind_ok, if_pos rfl, hb]
theorem t_andF (ha : evT sub cf a σ S = .ok false S1) : evT sub cf (.and a b) σ S = .ok false S1 := by rw [evT_and, ha, Res.bind_ok, if_neg (by decide)]
theorem t_orT (ha : evT sub cf a σ S = .ok true S1) : evT sub cf (.or a b) σ S = .ok true S1 := by rw [evT_or, ha, Res.bind_ok, if_pos rfl]
theorem t_orF {k : Bool} (ha : evT sub cf a σ S = .ok false S1) (hb : evT sub cf b σ S1 = .ok k S2) : evT sub cf (.or a b) σ S = .ok k S2 := by rw [evT_or, ha, Res.bind_ok, if_neg (by decide), hb]
theorem g_not {k : Bool} (ha : evT sub cf a σ S = .ok k S1) : evT sub cf (.not a) σ S = .ok (!k) S1 := by rw [evT_not, ha, Res.bind_ok]
theorem t_k {k k' : Bool} (h : evT sub cf a σ S = .ok k' S1) (e : k' = k) : evT sub cf a σ S = .ok k S1 := by rw [h, e]
theorem fits_small (h : Nat.ble ds.length 1000 = true) : fits ds.length = true := fits_le' (Nat.le_of_ble_eq_true h)
/-! operations -/
theorem o_mod {i j : Int} (h : 0 < j) : opD .mod (.int i) (.int j) S = .ok (.int (i % j)) S := by rw [op_mod_ii, if_pos h]
theorem o_mul {i j : Int} (h : (small i || small j) = true) : opD .mul (.int i) (.int j) S = .ok (.int (i * j)) S := by rw [op_mul_ii, if_pos h]
theorem small_lit {i : Int} (h : -1000000000000 < i ∧ i < 1000000000000) : small i = true := decide_eq_true ⟨by omega, by omega⟩
theorem o_mulL {i j : Int} (h : -1000000000000 < i ∧ i < 1000000000000) : opD .mul (.int i) (.int j) S = .ok (.int (i * j)) S := o_mul (by rw [small_lit h, Bool.true_or])
theorem o_mulR {i j : Int} (h : -1000000000000 < j ∧ j < 1000000000000) : opD .mul (.int i) (.int j) S = .ok (.int (i * j)) S := o_mul (by rw [small_lit h, Bool.or_true])
theorem o_fdiv {i j : Int} (h : 0 < j ∧ j < 1073741824) : opD .fdiv (.int i) (.int j) S = .ok (.int (i / j)) S := by rw [op_fdiv_ii, if_pos (by rw [decide_eq_true h.1, decide_eq_true h.2]; rfl)]
theorem o_addT {xs ys : List D} (h : fits (xs.length + ys.length) = true) : opD .add (.tup xs) (.tup ys) S = .ok (.tup (xs ++ ys)) S := by rw [op_add_tt, if_pos h]
theorem o_at {xs : List D} {j : Int} (h : atI xs j = some d) : ixD (.tup xs) (.int j) S = .ok d S := by rw [ixD_tup, h, opt_some]
theorem o_atF {xs : List D} {j : Int} (h : atI xs j = some d) : ixD (.fro xs) (.int j) S = .ok d S := by rw [ixD_fro, h, opt_some]
theorem o_atL {xs : List D} {j : Int} {l : Nat} (hl : S[l]? = some (.lst xs)) (h : atI xs j = some d) : ixD (.loc l) (.int j) S = .ok d S := by rw [ixD_loc hl, h, opt_some]
theorem o_lenT {xs : List D} : biD sub .len [.tup xs] S = .ok (.int xs.length) S := by rw [bi_len]; rfl
theorem o_lenF {xs : List D} : biD sub .len [.fro xs] S = .ok (.int xs.length) S := by rw [bi_len]; rfl
theorem o_lenL {xs : List D} {l : Nat} (hl : S[l]? = some (.lst xs)) : biD sub .len [.loc l] S = .ok (.int xs.length) S := by rw [bi_len, items_loc hl]; rfl
theorem o_tupL {xs : List D} {l : Nat} (hl : S[l]? = some (.lst xs)) : biD sub .tuple [.loc l] S = .ok (.tup xs) S := by rw [bi_tuple, items_loc hl]; rfl
theorem o_inst {t : Ty} {k : Bool} (h : tyOf sub S x t = some k) : biD sub (.inst t) [x] S = .ok (.bl k) S := by rw [bi_inst, h]
theorem get_last {α : Type} (T : List α) (c : α) : (T ++ [c])[T.length]? = some c := by simp
theorem o_atN {T : Store} {xs : List D} {j : Int} (h : atI xs j = some d) : ixD (.loc T.length) (.int j) (T ++ [.lst xs]) = .ok d (T ++ [.lst xs]) := o_atL (get_last T _) h
theorem o_tupN {T : Store} {xs : List D} : biD sub .tuple [.loc T.length] (T ++ [.lst xs]) = .ok (.tup xs) (T ++ [.lst xs]) := o_tupL (get_last T _)
theorem o_lenN {T : Store} {xs : List D} : biD sub .len [.loc T.length] (T ++ [.lst xs]) = .ok (.int xs.length) (T ++ [.lst xs]) := o_lenL (get_last T _)
theorem g_seq {s : Src} (ha : ev sub cf a σ S = .ok x S1) (h : srcOf x S1 = .ok s S2) : evI sub cf (.iSeq a) σ S = .ok s S2 := by rw [evI_seq, ha, Res.bind_ok, h]
theorem g_rng {is : List Int} (hs : evs sub cf es σ S = .ok ds S1) (h : rngOf ds = some is) : evI sub cf (.iRng es) σ S = .ok ⟨is.map .int, none, []⟩ S1 := by rw [evI_rng, hs, Res.bind_ok, h, opt_some, Res.bind_ok]
theorem g_rng1 {j : Int} {k : Nat} {f : Nat → D} (hs : evs sub cf es σ S = .ok [.int j] S1) (hj : j = (k : Int)) (hk : k ≤ 1000000) (hf : ∀ i : Nat, f i = .int (i : Int)) : evI sub cf (.iRng es) σ S = .ok ⟨(List.range k).map f, none, []⟩ S1 := by
  subst hj
  rw [g_rng hs (rngOf1 (by omega) (by omega)), Int.toNat_natCast, List.map_map, show (D.int ∘ fun k : Nat => (k : Int)) = f from funext fun i => (hf i).symm]
/-! statements -/
theorem x_set {i : Nat} (h : ev sub cf a σ S = .ok d S1) : exec sub cf (.set (.one i) a) σ S = .ok (.nx (σ.set i (some d))) S1 := by rw [exec_set, h, Res.bind_ok, bindT_one, Res.bind_ok]
theorem x_setM {is : List Nat} (h : ev sub cf a σ S = .ok (.tup ds) S1) (hl : ds.length = is.length) : exec sub cf (.set (.many is) a) σ S = .ok (.nx (setAll is ds σ)) S1 := by rw [exec_set, h, Res.bind_ok, bindT_many, if_pos hl, Res.bind_ok]
theorem x_ex (h : ev sub cf a σ S = .ok d S1) : exec sub cf (.ex a) σ S = .ok (.nx σ) S1 := by rw [exec_ex, h, Res.bind_ok]
theorem x_ret (h : ev sub cf a σ S = .ok d S1) : exec sub cf (.ret a) σ S = .ok (.rt d) S1 := by rw [exec_ret, h, Res.bind_ok]
theorem x_iteT (hc : evT sub cf c σ S = .ok true S1) (h : exec sub cf u σ S1 = RF) : exec sub cf (.ite c u v) σ S = RF := by rw [exec_ite, hc, Res.bind_ok, if_pos rfl, h]
theorem x_iteF (hc : evT sub cf c σ S = .ok false S1) (h : exec sub cf v σ S1 = RF) : exec sub cf (.ite c u v) σ S = RF := by rw [exec_ite, hc, Res.bind_ok, if_neg (by decide), h]
theorem x_seq (hu : exec sub cf u σ S = .ok (.nx σ1) S1) (h : exec sub cf v σ1 S1 = RF) : exec sub cf (.seq u v) σ S = RF := (exec_q1 hu).trans h
theorem x_seqR (hu : exec sub cf u σ S = .ok (.rt d) S1) : exec sub cf (.seq u v) σ S = .ok (.rt d) S1 := by rw [exec_seq, hu, thenS_rt]
theorem x_skip : exec sub cf .skip σ S = .ok (.nx σ) S := id rfl
/-- a call whose body hands back a datum -/
theorem x_call {P : Prg} {n : Nat} {f : Str} {F : Fn} (hP : P.lookup f = some F) (hl : ds.length = F.par) (hb : exec sub (callF sub P n) F.body (frame F ds) S = .ok (.rt d) S1) (h : leave S d S1 = R) : callF sub P (n + 1) f ds S = R := by
  rw [callF_ok hP hl, hb, endF_rt, h]
theorem forL_step {s : Src} {f : D → Sg → M Fl} {ds : List D} (hs : still s S = .ok () S) (hb : f d σ S = .ok (.nx σ1) S1) (h : forL s f ds σ1 S1 = RF) : forL s f (d :: ds) σ S = RF := by
  rw [forL_cons, hs, Res.bind_ok, hb]; exact h
theorem body_run {i : Nat} (h : exec sub cf u (σ.set i (some d)) S = RF) : bodyF sub cf (.one i) u d σ S = RF := (body_one i u d σ S).trans h
theorem body_runM {is : List Nat} (hl : ds.length = is.length) (h : exec sub cf u (setAll is ds σ) S = RF) : bodyF sub cf (.many is) u (.tup ds) σ S = RF := (body_many is u ds σ S hl).trans h
/-- .. in two parts: a beginning, then what is known of its end alone -/
theorem x_fin {P : Prg} {n : Nat} {f : Str} {F : Fn} (hP : P.lookup f = some F) (hl : ds.length = F.par) (hb : exec sub (callF sub P n) F.body (frame F ds) S = RF) (h : ∃ S', RF = .ok (.rt d) S' ∧ S'.take S.length = S) (hc : d.cl) : callF sub P (n + 1) f ds S = .ok d S := by
  obtain ⟨S', e, ht⟩ := h
  exact x_call hP hl (hb.trans e) (leave_cl hc ht)
end
end GO

set_option linter.all false
set_option maxRecDepth 100000
/-! roundlap.loops over loops that are ones -/
namespace RL
open PySem EV GO
noncomputable def f_is_whole : Fn := ⟨3, 3, (.seq (.ite (.or (.not (.bi (.inst .int) (.cs (.v 0) .nl))) (.bi (.inst .bool) (.cs (.v 0) .nl)))
    (.ret (.c (.bl false)))
    .skip)
  (.ret (.chn .le .le (.v 1) (.v 0) (.v 2))))⟩
noncomputable def f_is_value : Fn := ⟨1, 1, (.ret (.call "is_whole" (.cs (.v 0) (.cs (.c (.int 0)) (.cs (.bin .sub (.c (.int 9973)) (.c (.int 1))) .nl)))))⟩
noncomputable def f_is_row : Fn := ⟨3, 3, (.ret (.and (.bi (.inst .tuple) (.cs (.v 0) .nl)) (.chn .le .le (.v 1) (.bi .len (.cs (.v 0) .nl)) (.v 2))))⟩
noncomputable def f_is_crew : Fn := ⟨1, 1, (.ret (.and (.call "is_row" (.cs (.v 0) (.cs (.c (.int 2)) (.cs (.c (.int 2)) .nl)))) (.and (.call "is_whole" (.cs (.ix (.v 0) (.c (.int 0))) (.cs (.c (.int 1)) (.cs (.c (.int 3)) .nl)))) (.call "is_whole" (.cs (.ix (.v 0) (.c (.int 1))) (.cs (.c (.int 1)) (.cs (.c (.int 4)) .nl)))))))⟩
noncomputable def f_are_crews : Fn := ⟨1, 1, (.ret (.and (.call "is_row" (.cs (.v 0) (.cs (.c (.int 1)) (.cs (.c (.int 3)) .nl)))) (.bi .all (.cs (.comp 2 (.call "is_crew" (.cs (.v 2) .nl)) (.one 2) (.iSeq (.v 0)) .nl) .nl))))⟩
noncomputable def f_is_work_source : Fn := ⟨3, 4, (.seq (.ite (.or (.not (.call "is_row" (.cs (.v 0) (.cs (.c (.int 3)) (.cs (.c (.int 3)) .nl))))) (.not (.call "is_whole" (.cs (.ix (.v 0) (.c (.int 2))) (.cs (.c (.int 0)) (.cs (.c (.int 3)) .nl))))))
    (.ret (.c (.bl false)))
    .skip)
  (.seq (.set (.one 3) (.ite (.cmp .eq (.ix (.v 0) (.c (.int 2))) (.c (.int 0))) (.v 1) (.v 2)))
  (.ret (.call "is_whole" (.cs (.ix (.v 0) (.c (.int 1))) (.cs (.c (.int 0)) (.cs (.bin .sub (.v 3) (.c (.int 1))) .nl)))))))⟩
noncomputable def f_is_source : Fn := ⟨4, 4, (.seq (.ite (.or (.not (.call "is_row" (.cs (.v 0) (.cs (.c (.int 2)) (.cs (.c (.int 3)) .nl))))) (.not (.bi (.inst .str) (.cs (.ix (.v 0) (.c (.int 0))) .nl))))
    (.ret (.c (.bl false)))
    .skip)
  (.seq (.ite (.cmp .eq (.ix (.v 0) (.c (.int 0))) (.c (.str "work")))
    (.ret (.call "is_work_source" (.cs (.v 0) (.cs (.v 1) (.cs (.v 2) .nl)))))
    .skip)
  (.seq (.ite (.cmp .ne (.bi .len (.cs (.v 0) .nl)) (.c (.int 2)))
    (.ret (.c (.bl false)))
    .skip)
  (.seq (.ite (.cmp .eq (.ix (.v 0) (.c (.int 0))) (.c (.str "input")))
    (.ret (.call "is_whole" (.cs (.ix (.v 0) (.c (.int 1))) (.cs (.c (.int 0)) (.cs (.bin .sub (.v 3) (.c (.int 1))) .nl)))))
    .skip)
  (.ret (.and (.cmp .eq (.ix (.v 0) (.c (.int 0))) (.c (.str "value"))) (.call "is_value" (.cs (.ix (.v 0) (.c (.int 1))) .nl))))))))⟩
noncomputable def f_are_starts : Fn := ⟨1, 1, (.ret (.and (.call "is_row" (.cs (.v 0) (.cs (.c (.int 3)) (.cs (.c (.int 3)) .nl)))) (.bi .all (.cs (.comp 2 (.call "is_value" (.cs (.v 2) .nl)) (.one 2) (.iSeq (.v 0)) .nl) .nl))))⟩
noncomputable def f_is_work : Fn := ⟨5, 6, (.seq (.ite (.not (.call "is_row" (.cs (.v 0) (.cs (.c (.int 5)) (.cs (.c (.int 5)) .nl)))))
    (.ret (.c (.bl false)))
    .skip)
  (.seq (.ite (.or (.not (.call "is_whole" (.cs (.ix (.v 0) (.c (.int 0))) (.cs (.c (.int 0)) (.cs (.bin .sub (.v 4) (.c (.int 1))) .nl))))) (.not (.call "is_whole" (.cs (.ix (.v 0) (.c (.int 1))) (.cs (.c (.int 1)) (.cs (.c (.int 8)) .nl))))))
    (.ret (.c (.bl false)))
    .skip)
  (.seq (.ite (.or (.not (.bi (.inst .str) (.cs (.ix (.v 0) (.c (.int 2))) .nl))) (.cmp .notin (.ix (.v 0) (.c (.int 2))) (.c (.tup [(.str "plus"), (.str "less"), (.str "times"), (.str "least"), (.str "greatest")]))))
    (.ret (.c (.bl false)))
    .skip)
  (.seq (.set (.one 5) (.ix (.v 0) (.c (.int 3))))
  (.seq (.ite (.or (.not (.call "is_row" (.cs (.v 5) (.cs (.c (.int 1)) (.cs (.c (.int 3)) .nl))))) (.not (.call "are_starts" (.cs (.ix (.v 0) (.c (.int 4))) .nl))))
    (.ret (.c (.bl false)))
    .skip)
  (.ret (.bi .all (.cs (.comp 2 (.call "is_source" (.cs (.v 7) (.cs (.v 1) (.cs (.v 2) (.cs (.v 3) .nl))))) (.one 7) (.iSeq (.v 5)) .nl) .nl))))))))⟩
noncomputable def f_are_works : Fn := ⟨3, 4, (.seq (.ite (.not (.call "is_row" (.cs (.v 0) (.cs (.c (.int 1)) (.cs (.c (.int 8)) .nl)))))
    (.ret (.c (.bl false)))
    .skip)
  (.seq (.set (.one 3) (.bi .len (.cs (.v 0) .nl)))
  (.ret (.bi .all (.cs (.comp 3 (.call "is_work" (.cs (.v 6) (.cs (.v 5) (.cs (.v 3) (.cs (.v 1) (.cs (.v 2) .nl)))))) (.many [5, 6]) (.iEnum (.v 0)) .nl) .nl)))))⟩
noncomputable def f_are_outs : Fn := ⟨2, 4, (.seq (.ite (.not (.call "is_row" (.cs (.v 0) (.cs (.c (.int 1)) (.cs (.v 1) .nl)))))
    (.ret (.c (.bl false)))
    .skip)
  (.seq (.set (.one 2) (.c (.int 0)))
  (.seq (.forS (.one 3) (.iSeq (.v 0))
    (.seq (.ite (.not (.call "is_whole" (.cs (.v 3) (.cs (.v 2) (.cs (.bin .sub (.v 1) (.c (.int 1))) .nl)))))
    (.ret (.c (.bl false)))
    .skip)
  (.set (.one 2) (.bin .add (.v 3) (.c (.int 1))))))
  (.ret (.c (.bl true))))))⟩
noncomputable def f_is_loop : Fn := ⟨1, 1, (.seq (.ite (.not (.call "is_row" (.cs (.v 0) (.cs (.c (.int 4)) (.cs (.c (.int 4)) .nl)))))
    (.ret (.c (.bl false)))
    .skip)
  (.seq (.ite (.or (.not (.call "is_whole" (.cs (.ix (.v 0) (.c (.int 0))) (.cs (.c (.int 0)) (.cs (.c (.int 6)) .nl))))) (.not (.call "are_crews" (.cs (.ix (.v 0) (.c (.int 1))) .nl))))
    (.ret (.c (.bl false)))
    .skip)
  (.ret (.and (.call "are_works" (.cs (.ix (.v 0) (.c (.int 2))) (.cs (.ix (.v 0) (.c (.int 0))) (.cs (.bi .len (.cs (.ix (.v 0) (.c (.int 1))) .nl)) .nl)))) (.call "are_outs" (.cs (.ix (.v 0) (.c (.int 3))) (.cs (.bi .len (.cs (.ix (.v 0) (.c (.int 2))) .nl)) .nl)))))))⟩
noncomputable def f_checked : Fn := ⟨1, 1, (.seq (.ite (.not (.call "is_loop" (.cs (.v 0) .nl)))
    (.rais "NoLoop")
    .skip)
  (.ret (.v 0)))⟩

noncomputable def wordsL : List Str := ["plus", "less", "times", "least", "greatest"]
/-- the store has lists alone -/
noncomputable def Lists (S : Store) : Prop := ∀ (l : Nat) c, S[l]? = some c → ∃ ds, c = .lst ds
noncomputable def Has (P : Prg) (x : String) (F : Fn) : Prop := P.lookup (Str.ofString x) = some F
/-! ### loops -/
inductive Srs where | val (v : Int) | inp (k : Nat) | wrk (w b : Nat)
noncomputable def Srs.toD : Srs → D
  | .val v => .tup [.str "value", .int v]
  | .inp k => .tup [.str "input", .int k]
  | .wrk w b => .tup [.str "work", .int w, .int b]
structure Wk where
  crew : Nat
  long : Nat
  doing : Str
  srcs : List Srs
  starts : List Int
noncomputable def Wk.toD (w : Wk) : D := .tup [.int w.crew, .int w.long, .str w.doing, .tup (w.srcs.map Srs.toD), .tup (w.starts.map .int)]
structure Lp where
  streams : Nat
  crews : List (Nat × Nat)
  works : List Wk
  outs : List Nat
noncomputable def crewD (c : Nat × Nat) : D := .tup [.int c.1, .int c.2]
noncomputable def natD (k : Nat) : D := .int k
noncomputable def Lp.toD (l : Lp) : D := .tup [.int l.streams, .tup (l.crews.map crewD), .tup (l.works.map Wk.toD), .tup (l.outs.map natD)]
noncomputable def Srs.WF (own many streams : Nat) : Srs → Prop
  | .val v => 0 ≤ v ∧ v ≤ 9972
  | .inp k => k < streams
  | .wrk w b => b ≤ 3 ∧ w < (if b = 0 then own else many)
structure Wk.WF (own many streams ncrews : Nat) (w : Wk) : Prop where
  crew : w.crew < ncrews
  long : 1 ≤ w.long ∧ w.long ≤ 8
  doing : w.doing ∈ wordsL
  some : 1 ≤ w.srcs.length ∧ w.srcs.length ≤ 3
  srcs : ∀ s ∈ w.srcs, s.WF own many streams
  three : w.starts.length = 3
  starts : ∀ v ∈ w.starts, 0 ≤ v ∧ v ≤ 9972
noncomputable def Rising : Nat → Nat → List Nat → Prop
  | _, _, [] => True
  | many, least, k :: r => least ≤ k ∧ k < many ∧ Rising many (k + 1) r
structure Lp.WF (l : Lp) : Prop where
  streams : l.streams ≤ 6
  ncrews : 1 ≤ l.crews.length ∧ l.crews.length ≤ 3
  crews : ∀ c ∈ l.crews, (1 ≤ c.1 ∧ c.1 ≤ 3) ∧ (1 ≤ c.2 ∧ c.2 ≤ 4)
  nworks : 1 ≤ l.works.length ∧ l.works.length ≤ 8
  works : ∀ (i : Nat) w, l.works[i]? = some w → w.WF i l.works.length l.streams l.crews.length
  nouts : 1 ≤ l.outs.length
  outs : Rising l.works.length 0 l.outs
structure HB (P : Prg) : Prop where
  whole : Has P "is_whole" f_is_whole
  value : Has P "is_value" f_is_value
  row : Has P "is_row" f_is_row
  crew : Has P "is_crew" f_is_crew
  crews : Has P "are_crews" f_are_crews
  worksource : Has P "is_work_source" f_is_work_source
  source : Has P "is_source" f_is_source
  starts : Has P "are_starts" f_are_starts
  work : Has P "is_work" f_is_work
  works : Has P "are_works" f_are_works
  outs : Has P "are_outs" f_are_outs
  loop : Has P "is_loop" f_is_loop
  checked : Has P "checked" f_checked
variable {sub : Sub} {P : Prg} {n : Nat} {S : Store}
@[simp] theorem leave_bl (S T : Store) (b : Bool) : leave S (.bl b) (S ++ T) = .ok (.bl b) S := leave_cl rfl (take_app _ _)
@[simp] theorem leave_bl0 (S : Store) (b : Bool) : leave S (.bl b) S = .ok (.bl b) S := leave_cl rfl (List.take_length)
@[simp] theorem leave_int (S T : Store) (b : Int) : leave S (.int b) (S ++ T) = .ok (.int b) S := leave_cl rfl (take_app _ _)
@[simp] theorem leave_int0 (S : Store) (b : Int) : leave S (.int b) S = .ok (.int b) S := leave_cl rfl (List.take_length)
@[simp] theorem endF_rt' (S S' : Store) (d : D) : endF S (.ok (.rt d) S') = leave S d S' := id rfl
@[simp] theorem endF_nx' (S S' : Store) (σ : Sg) : endF S (.ok (.nx σ) S') = leave S .non S' := id rfl
theorem short {ds : List D} {k : Int} (h : (ds.length : Int) ≤ k) (hk : k ≤ 1000) : ds.length ≤ sizeMax := by unfold sizeMax; omega
theorem le_chain {σ : Sg} {cf : Str → List D → M D} {a b c : E} {i j k : Int} (ha : ev sub cf a σ S = .ok (.int i) S) (hb : ev sub cf b σ S = .ok (.int j) S) (hc : ev sub cf c σ S = .ok (.int k) S) (h1 : i ≤ j) (h2 : j ≤ k) :
    ev sub cf (.chn .le .le a b c) σ S = .ok (.bl true) S := by
  rw [ev_chn, ha, Res.bind_ok, hb, Res.bind_ok, cm_le, Res.bind_ok, decide_eq_true h1]
  show (ev sub cf c σ S).bind _ = _
  rw [hc, Res.bind_ok, cm_le, decide_eq_true h2]
theorem whole_t (h : Has P "is_whole" f_is_whole) {i lo hi : Int} (h1 : lo ≤ i) (h2 : i ≤ hi) : callF sub P (n + 1) "is_whole" [.int i, .int lo, .int hi] S = .ok (.bl true) S :=
  x_call h rfl (x_seq (x_iteF (t_orF (g_not (k := true) (t_bi (r_bi (r_cs (r_v rfl) r_nl) (o_inst rfl)))) (k := false) (t_bi (r_bi (r_cs (r_v rfl) r_nl) (o_inst rfl)))) x_skip) (x_ret (le_chain (r_v rfl) (r_v rfl) (r_v rfl) h1 h2))) (leave_bl0 _ _)
theorem value_t (h : HB P) {v : Int} (h1 : 0 ≤ v) (h2 : v ≤ 9972) : callF sub P (n + 2) "is_value" [.int v] S = .ok (.bl true) S :=
  x_call h.value rfl (x_ret (r_call (r_cs (r_v rfl) (r_cs r_c (r_cs (r_bin r_c r_c (op_sub_ii _ _ _)) r_nl))) (whole_t h.whole h1 h2))) (leave_bl0 _ _)
theorem row_t (h : Has P "is_row" f_is_row) {ds : List D} {lo hi : Int} (h1 : lo ≤ (ds.length : Int)) (h2 : (ds.length : Int) ≤ hi) : callF sub P (n + 1) "is_row" [.tup ds, .int lo, .int hi] S = .ok (.bl true) S :=
  x_call h rfl (x_ret (r_andT (r_bi (r_cs (r_v rfl) r_nl) (o_inst rfl)) (le_chain (r_v rfl) (r_bi (r_cs (r_v rfl) r_nl) o_lenT) (r_v rfl) h1 h2))) (leave_bl0 _ _)
theorem row_l (h : Has P "is_row" f_is_row) {ds : List D} {lo hi : Int} (m : Nat) (hm : ds.length = m) (h1 : lo ≤ (m : Int)) (h2 : (m : Int) ≤ hi) : callF sub P (n + 1) "is_row" [.tup ds, .int lo, .int hi] S = .ok (.bl true) S :=
  row_t h (by rw [hm]; exact h1) (by rw [hm]; exact h2)
theorem crew_t (h : HB P) {c : Nat × Nat} (hc : (1 ≤ c.1 ∧ c.1 ≤ 3) ∧ (1 ≤ c.2 ∧ c.2 ≤ 4)) : callF sub P (n + 2) "is_crew" [crewD c] S = .ok (.bl true) S :=
  x_call h.crew rfl (x_ret (r_andT (r_call (r_cs (r_v rfl) (r_cs r_c (r_cs r_c r_nl))) (row_l h.row 2 rfl (by decide) (by decide)))
    (r_andT (r_call (r_cs (r_ix (r_v rfl) r_c (o_at rfl)) (r_cs r_c (r_cs r_c r_nl))) (whole_t h.whole (Int.ofNat_le.mpr hc.1.1) (Int.ofNat_le.mpr hc.1.2)))
      (r_call (r_cs (r_ix (r_v rfl) r_c (o_at rfl)) (r_cs r_c (r_cs r_c r_nl))) (whole_t h.whole (Int.ofNat_le.mpr hc.2.1) (Int.ofNat_le.mpr hc.2.2)))))) (leave_bl0 _ _)
/-- a comprehension all of whose items are true -/
theorem all_t {cf : Str → List D → M D} {σ : Sg} {i k : Nat} {el a : E} {α : Type} {l : List α} {f : α → D} (ha : ev sub cf a σ S = .ok (.tup (l.map f)) S) (hn : l.length ≤ 1000) (h : ∀ x ∈ l, ev sub cf el ((σ ++ List.replicate k none).set i (some (f x))) S = .ok (.bl true) S) :
    ∃ T, ev sub cf (.bi .all (.cs (.comp k el (.one i) (.iSeq a) .nl) .nl)) σ S = .ok (.bl true) (S ++ T) := by
  have hc := comp_mapA (sub := sub) (cf := cf) (k := k) (i := i) (el := el) (it := .iSeq a) (σ := σ) (S := S) (S1 := S) (ks := l) (f := f) (g := fun _ => .bl true) (o := none) (raw := l.map f) (g_seq ha rfl) rfl h (by unfold sizeMax; omega)
  refine ⟨[.lst (l.map fun _ => .bl true)], r_bi (R := .ok (.bl true) _) (r_cs hc r_nl) ((all_new l fun _ => true).trans ?_)⟩
  rw [List.all_eq_true.mpr fun _ _ => rfl]
theorem crews_t (h : HB P) {cs : List (Nat × Nat)} (h1 : 1 ≤ cs.length) (h2 : cs.length ≤ 3) (hc : ∀ c ∈ cs, (1 ≤ c.1 ∧ c.1 ≤ 3) ∧ (1 ≤ c.2 ∧ c.2 ≤ 4)) : callF sub P (n + 3) "are_crews" [.tup (cs.map crewD)] S = .ok (.bl true) S := by
  obtain ⟨T, e⟩ := all_t (sub := sub) (cf := callF sub P (n + 2)) (σ := [some (.tup (cs.map crewD))]) (S := S) (i := 2) (k := 2) (el := .call "is_crew" (.cs (.v 2) .nl)) (a := .v 0) (l := cs) (f := crewD) (r_v rfl) (by omega) (fun c hm => r_call (r_cs (r_v rfl) r_nl) (crew_t h (hc c hm)))
  exact x_call h.crews rfl (x_ret (r_andT (r_call (r_cs (r_v rfl) (r_cs r_c (r_cs r_c r_nl))) (row_t h.row (by rw [List.length_map]; omega) (by rw [List.length_map]; omega))) e)) (leave_bl _ _ _)
theorem starts_t (h : HB P) {vs : List Int} (h1 : vs.length = 3) (hv : ∀ v ∈ vs, 0 ≤ v ∧ v ≤ 9972) : callF sub P (n + 3) "are_starts" [.tup (vs.map .int)] S = .ok (.bl true) S := by
  obtain ⟨T, e⟩ := all_t (sub := sub) (cf := callF sub P (n + 2)) (σ := [some (.tup (vs.map .int))]) (S := S) (i := 2) (k := 2) (el := .call "is_value" (.cs (.v 2) .nl)) (a := .v 0) (l := vs) (f := .int) (r_v rfl) (by omega) (fun c hm => r_call (r_cs (r_v rfl) r_nl) (value_t h (hv c hm).1 (hv c hm).2))
  exact x_call h.starts rfl (x_ret (r_andT (r_call (r_cs (r_v rfl) (r_cs r_c (r_cs r_c r_nl))) (row_t h.row (by rw [List.length_map, h1]; decide) (by rw [List.length_map, h1]; decide))) e)) (leave_bl _ _ _)
theorem wsource_t (h : HB P) {x : D} {w b own many : Nat} (hb : b ≤ 3) (hw : w < (if b = 0 then own else many)) : callF sub P (n + 2) "is_work_source" [.tup [x, .int w, .int b], .int own, .int many] S = .ok (.bl true) S := by
  have h0 : ∀ k : Nat, (0 : Int) ≤ (k : Int) := fun k => Int.natCast_nonneg k
  refine x_call h.worksource rfl (x_seq (x_iteF (t_orF (g_not (k := true) (t_call (r_call (r_cs (r_v rfl) (r_cs r_c (r_cs r_c r_nl))) (row_l h.row 3 rfl (by decide) (by decide)))))
    (k := false) (g_not (k := true) (t_call (r_call (r_cs (r_ix (r_v rfl) r_c (o_at rfl)) (r_cs r_c (r_cs r_c r_nl))) (whole_t h.whole (h0 b) (Int.ofNat_le.mpr hb)))))) x_skip)
    (x_seq (x_set (d := .int ((if b = 0 then own else many : Nat) : Int)) (S1 := S) ?_) (x_ret (r_call (r_cs (r_ix (r_v rfl) r_c (o_at rfl)) (r_cs r_c (r_cs (r_bin (r_v rfl) r_c (op_sub_ii _ _ _)) r_nl))) (whole_t h.whole (h0 w) (by omega)))))) (leave_bl0 _ _)
  by_cases z : b = 0
  · rw [if_pos z]; subst z
    exact r_iteT (S1 := S) (g_cmp (r_cmp (r_ix (r_v rfl) r_c (o_at rfl)) r_c (cm_eq_ii _ _ _))) (r_v rfl)
  · rw [if_neg z]
    exact r_iteF (S1 := S) (t_k (g_cmp (r_cmp (r_ix (r_v rfl) r_c (o_at rfl)) r_c (cm_eq_ii _ _ _))) (beq_false_of_ne (by omega))) (r_v rfl)
theorem source_t (h : HB P) {s : Srs} {own many streams : Nat} (hs : s.WF own many streams) : callF sub P (n + 3) "is_source" [s.toD, .int own, .int many, .int streams] S = .ok (.bl true) S := by
  have first : ∀ {x : Str} {r : List D} {σ : Sg} (e : varD σ 0 S = .ok (.tup (.str x :: r)) S) (m : Nat) (hm : (D.str x :: r).length = m) (h1 : 2 ≤ (m : Int)) (h2 : (m : Int) ≤ 3), evT sub (callF sub P (n + 2)) (.or (.not (.call "is_row" (.cs (.v 0) (.cs (.c (.int 2)) (.cs (.c (.int 3)) .nl))))) (.not (.bi (.inst .str) (.cs (.ix (.v 0) (.c (.int 0))) .nl)))) σ S = .ok false S := fun {x r σ} e m hm h1 h2 =>
    t_orF (g_not (k := true) (t_call (r_call (r_cs (r_v e) (r_cs r_c (r_cs r_c r_nl))) (row_l h.row m hm h1 h2)))) (k := false) (g_not (k := true) (t_bi (r_bi (r_cs (r_ix (r_v e) r_c (o_at (d := .str x) (atI_l0 _))) r_nl) (o_inst rfl))))
  have word : ∀ {x : Str} {r : List D} {σ : Sg} (y : Str) {k : Bool} (e : varD σ 0 S = .ok (.tup (.str x :: r)) S) (hk : (x == y) = k), ev sub (callF sub P (n + 2)) (.cmp .eq (.ix (.v 0) (.c (.int 0))) (.c (.str y))) σ S = .ok (.bl k) S := fun y k e hk => by
    rw [← hk]; exact r_cmp (r_ix (r_v e) r_c (o_at (atI_l0 _))) r_c (cm_eq_ss _ _ _)
  have two : ∀ {x y : D} {σ : Sg} (e : varD σ 0 S = .ok (.tup [x, y]) S), evT sub (callF sub P (n + 2)) (.cmp .ne (.bi .len (.cs (.v 0) .nl)) (.c (.int 2))) σ S = .ok false S := fun e =>
    g_cmp (r_cmp (r_bi (r_cs (r_v e) r_nl) o_lenT) r_c (cm_ne_ii _ _ _))
  cases s with
  | val v =>
    exact x_call h.source rfl (x_seq (x_iteF (first (x := "value") rfl 2 rfl (by decide) (by decide)) x_skip) (x_seq (x_iteF (g_cmp (word "work" (x := "value") rfl (by decide +kernel))) x_skip) (x_seq (x_iteF (two rfl) x_skip) (x_seq (x_iteF (g_cmp (word "input" (x := "value") rfl (by decide +kernel))) x_skip)
      (x_ret (r_andT (word "value" (x := "value") rfl (by decide +kernel)) (r_call (r_cs (r_ix (r_v rfl) r_c (o_at rfl)) r_nl) (value_t h hs.1 hs.2)))))))) (leave_bl0 _ _)
  | inp k =>
    have hk : k < streams := hs
    exact x_call h.source rfl (x_seq (x_iteF (first (x := "input") rfl 2 rfl (by decide) (by decide)) x_skip) (x_seq (x_iteF (g_cmp (word "work" (x := "input") rfl (by decide +kernel))) x_skip) (x_seq (x_iteF (two rfl) x_skip) (x_seqR (x_iteT (g_cmp (word "input" (x := "input") rfl (by decide +kernel)))
      (x_ret (r_call (r_cs (r_ix (r_v rfl) r_c (o_at rfl)) (r_cs r_c (r_cs (r_bin (r_v rfl) r_c (op_sub_ii _ _ _)) r_nl))) (whole_t h.whole (Int.natCast_nonneg k) (by omega))))))))) (leave_bl0 _ _)
  | wrk w b =>
    exact x_call h.source rfl (x_seq (x_iteF (first (x := "work") rfl 3 rfl (by decide) (by decide)) x_skip) (x_seqR (x_iteT (g_cmp (word "work" (x := "work") rfl (by decide +kernel))) (x_ret (r_call (r_cs (r_v rfl) (r_cs (r_v rfl) (r_cs (r_v rfl) r_nl))) (wsource_t h hs.1 hs.2)))))) (leave_bl0 _ _)
theorem words_t {x : Str} (h : x ∈ wordsL) : cmD .notin (.str x) (.tup [(.str "plus"), (.str "less"), (.str "times"), (.str "least"), (.str "greatest")]) S = .ok (.bl false) S := by
  have h : x = "plus" ∨ x = "less" ∨ x = "times" ∨ x = "least" ∨ x = "greatest" := by simpa [wordsL] using h
  rcases h with rfl | rfl | rfl | rfl | rfl <;> rfl
theorem work_t (h : HB P) {w : Wk} {own many streams ncrews : Nat} (hw : w.WF own many streams ncrews) : callF sub P (n + 4) "is_work" [w.toD, .int own, .int many, .int streams, .int ncrews] S = .ok (.bl true) S := by
  have hc := hw.crew
  obtain ⟨T, e⟩ := all_t (sub := sub) (cf := callF sub P (n + 3)) (σ := [some w.toD, some (.int own), some (.int many), some (.int streams), some (.int ncrews), some (.tup (w.srcs.map Srs.toD))]) (S := S) (i := 7) (k := 2) (el := .call "is_source" (.cs (.v 7) (.cs (.v 1) (.cs (.v 2) (.cs (.v 3) .nl))))) (a := .v 5) (l := w.srcs) (f := Srs.toD) (r_v rfl) (by have := hw.some; omega) (fun s hm => r_call (r_cs (r_v rfl) (r_cs (r_v rfl) (r_cs (r_v rfl) (r_cs (r_v rfl) r_nl)))) (source_t h (hw.srcs s hm)))
  refine x_call h.work rfl (x_seq (x_iteF (g_not (k := true) (t_call (r_call (r_cs (r_v rfl) (r_cs r_c (r_cs r_c r_nl))) (row_l h.row 5 rfl (by decide) (by decide))))) x_skip)
    (x_seq (x_iteF (t_orF (g_not (k := true) (t_call (r_call (r_cs (r_ix (r_v rfl) r_c (o_at rfl)) (r_cs r_c (r_cs (r_bin (r_v rfl) r_c (op_sub_ii _ _ _)) r_nl))) (whole_t h.whole (Int.natCast_nonneg _) (by omega))))) (k := false)
      (g_not (k := true) (t_call (r_call (r_cs (r_ix (r_v rfl) r_c (o_at rfl)) (r_cs r_c (r_cs r_c r_nl))) (whole_t h.whole (Int.ofNat_le.mpr hw.long.1) (Int.ofNat_le.mpr hw.long.2)))))) x_skip)
    (x_seq (x_iteF (t_orF (g_not (k := true) (t_bi (r_bi (r_cs (r_ix (r_v rfl) r_c (o_at rfl)) r_nl) (o_inst rfl)))) (g_cmp (r_cmp (r_ix (r_v rfl) r_c (o_at rfl)) r_c (words_t hw.doing)))) x_skip)
    (x_seq (x_set (r_ix (r_v rfl) r_c (o_at rfl)))
    (x_seq (x_iteF (t_orF (g_not (k := true) (t_call (r_call (r_cs (r_v rfl) (r_cs r_c (r_cs r_c r_nl))) (row_t h.row (ds := w.srcs.map Srs.toD) ?_ ?_)))) (k := false) (g_not (k := true) (t_call (r_call (r_cs (r_ix (r_v rfl) r_c (o_at rfl)) r_nl) (starts_t h hw.three hw.starts))))) x_skip)
    (x_ret e)))))) (leave_bl _ _ _)
  · rw [List.length_map]; have := hw.some; omega
  · rw [List.length_map]; have := hw.some; omega
theorem works_t (h : HB P) {ws : List Wk} {streams ncrews : Nat} (h1 : 1 ≤ ws.length) (h2 : ws.length ≤ 8) (hw : ∀ (i : Nat) w, ws[i]? = some w → w.WF i ws.length streams ncrews) : callF sub P (n + 5) "are_works" [.tup (ws.map Wk.toD), .int streams, .int ncrews] S = .ok (.bl true) S := by
  have hc := comp_map2 (sub := sub) (cf := callF sub P (n + 4)) (k := 3) (is := [5, 6]) (el := .call "is_work" (.cs (.v 6) (.cs (.v 5) (.cs (.v 3) (.cs (.v 1) (.cs (.v 2) .nl)))))) (it := .iEnum (.v 0))
    (σ := [some (.tup (ws.map Wk.toD)), some (.int streams), some (.int ncrews), some (.int ws.length)]) (S := S) (S1 := S) (s := ⟨num 0 (ws.map Wk.toD), none, ws.map Wk.toD⟩) (g := fun _ => .bl true) rfl rfl (fun d hd => by
      obtain ⟨i, hi, rfl⟩ := List.mem_iff_getElem.mp hd
      have hi' : i < ws.length := by rw [num_length', List.length_map] at hi; exact hi
      refine ⟨_, num_getE _ 0 i hi, rfl, ?_⟩
      rw [List.getElem_map, Nat.zero_add]
      exact r_call (r_cs (r_v rfl) (r_cs (r_v rfl) (r_cs (r_v rfl) (r_cs (r_v rfl) (r_cs (r_v rfl) r_nl))))) (work_t h (hw i _ (List.getElem?_eq_getElem hi')))) (by unfold sizeMax; rw [num_length', List.length_map]; omega)
  have ha : ev sub (callF sub P (n + 4)) (.bi .all (.cs (.comp 3 (.call "is_work" (.cs (.v 6) (.cs (.v 5) (.cs (.v 3) (.cs (.v 1) (.cs (.v 2) .nl)))))) (.many [5, 6]) (.iEnum (.v 0)) .nl) .nl)) [some (.tup (ws.map Wk.toD)), some (.int streams), some (.int ncrews), some (.int ws.length)] S = .ok (.bl true) (S ++ [.lst ((num 0 (ws.map Wk.toD)).map fun _ => .bl true)]) :=
    r_bi (r_cs hc r_nl) ((all_new _ fun _ => true).trans (by rw [List.all_eq_true.mpr fun _ _ => rfl]))
  refine x_call h.works rfl (x_seq (x_iteF (g_not (k := true) (t_call (r_call (r_cs (r_v rfl) (r_cs r_c (r_cs r_c r_nl))) (row_t h.row (ds := ws.map Wk.toD) ?_ ?_)))) x_skip)
    (x_seq (x_set (d := .int ws.length) (S1 := S) ?_) (x_ret ha))) (leave_bl _ _ _)
  · rw [List.length_map]; omega
  · rw [List.length_map]; omega
  · have := o_lenT (sub := sub) (S := S) (xs := ws.map Wk.toD)
    rw [List.length_map] at this
    exact r_bi (r_cs (r_v rfl) r_nl) this
theorem outs_for (h : HB P) {d0 : D} {many : Nat} {s : Src} (hs : ∀ T, still s T = .ok () T) : ∀ (l : List Nat) (least : Nat) (x : Option D), Rising many least l → ∃ σ', forL s (bodyF sub (callF sub P (n + 1)) (.one 3) (.seq (.ite (.not (.call "is_whole" (.cs (.v 3) (.cs (.v 2) (.cs (.bin .sub (.v 1) (.c (.int 1))) .nl))))) (.ret (.c (.bl false))) .skip) (.set (.one 2) (.bin .add (.v 3) (.c (.int 1))))))
      (l.map natD) [some d0, some (.int many), some (.int least), x] S = .ok (.nx σ') S
  | [], least, x, _ => ⟨_, by rw [List.map_nil, forL_nil, hs, Res.bind_ok]⟩
  | k :: r, least, x, ⟨h1, h2, h3⟩ => by
    obtain ⟨σ', e⟩ := outs_for h hs r (k + 1) (some (natD k)) h3
    refine ⟨σ', ?_⟩
    rw [List.map_cons, forL_cons, hs, Res.bind_ok, body_one, x_seq (x_iteF (g_not (k := true) (t_call (r_call (r_cs (r_v rfl) (r_cs (r_v rfl) (r_cs (r_bin (r_v rfl) r_c (op_sub_ii _ _ _)) r_nl))) (whole_t h.whole (Int.ofNat_le.mpr h1) (by omega))))) x_skip) (x_set (r_bin (r_v rfl) r_c (op_add_ii _ _ _)))]
    exact e
theorem rising_len {many : Nat} : ∀ {l : List Nat} {least : Nat}, Rising many least l → least ≤ many → l.length + least ≤ many
  | [], _, _, h => by simpa using h
  | k :: r, least, ⟨h1, h2, h3⟩, _ => by
    have := rising_len h3 (by omega)
    simp only [List.length_cons]; omega
theorem outs_t (h : HB P) {os : List Nat} {many : Nat} (h1 : 1 ≤ os.length) (hr : Rising many 0 os) : callF sub P (n + 2) "are_outs" [.tup (os.map natD), .int many] S = .ok (.bl true) S := by
  have hl := rising_len hr (Nat.zero_le _)
  obtain ⟨σ', e⟩ := outs_for (sub := sub) (n := n) (S := S) (d0 := .tup (os.map natD)) (s := ⟨os.map natD, none, os.map natD⟩) h (fun _ => rfl) os 0 none hr
  exact x_call h.outs rfl (x_seq (x_iteF (g_not (k := true) (t_call (r_call (r_cs (r_v rfl) (r_cs r_c (r_cs (r_v rfl) r_nl))) (row_t h.row (ds := os.map natD) (by rw [List.length_map]; omega) (by rw [List.length_map]; omega))))) x_skip)
    (x_seq (x_set r_c) (x_seq (for_ok (g_seq (r_v rfl) rfl) e) (x_ret r_c)))) (leave_bl0 _ _)
theorem loop_t (h : HB P) {l : Lp} (hl : l.WF) : callF sub P (n + 6) "is_loop" [l.toD] S = .ok (.bl true) S := by
  have e1 := o_lenT (sub := sub) (S := S) (xs := l.crews.map crewD)
  have e2 := o_lenT (sub := sub) (S := S) (xs := l.works.map Wk.toD)
  rw [List.length_map] at e1 e2
  exact x_call h.loop rfl (x_seq (x_iteF (g_not (k := true) (t_call (r_call (r_cs (r_v rfl) (r_cs r_c (r_cs r_c r_nl))) (row_l h.row 4 rfl (by decide) (by decide))))) x_skip)
    (x_seq (x_iteF (t_orF (g_not (k := true) (t_call (r_call (r_cs (r_ix (r_v rfl) r_c (o_at rfl)) (r_cs r_c (r_cs r_c r_nl))) (whole_t h.whole (Int.natCast_nonneg _) (Int.ofNat_le.mpr hl.streams))))) (k := false)
      (g_not (k := true) (t_call (r_call (r_cs (r_ix (r_v rfl) r_c (o_at rfl)) r_nl) (crews_t h hl.ncrews.1 hl.ncrews.2 hl.crews))))) x_skip)
    (x_ret (r_andT (r_call (r_cs (r_ix (r_v rfl) r_c (o_at rfl)) (r_cs (r_ix (r_v rfl) r_c (o_at rfl)) (r_cs (r_bi (r_cs (r_ix (r_v rfl) r_c (o_at rfl)) r_nl) e1) r_nl))) (works_t h hl.nworks.1 hl.nworks.2 hl.works))
      (r_call (r_cs (r_ix (r_v rfl) r_c (o_at rfl)) (r_cs (r_bi (r_cs (r_ix (r_v rfl) r_c (o_at rfl)) r_nl) e2) r_nl)) (outs_t h hl.nouts hl.outs)))))) (leave_bl0 _ _)
end RL

set_option linter.all false
set_option maxRecDepth 100000
/-! what the laws draw, over data -/
namespace RL
open PySem EV GO
noncomputable def f__law_cell_at : Fn := ⟨2, 2, (.seq (.ite (.cmp .lt (.v 1) (.bi .len (.cs (.v 0) .nl)))
    (.ret (.ix (.v 0) (.v 1)))
    .skip)
  (.seq (.ite (.cmp .eq (.v 0) (.lst .nl))
    (.ret (.c (.int 0)))
    .skip)
  (.ret (.bin .add (.bin .mul (.ix (.v 0) (.bin .mod (.v 1) (.bi .len (.cs (.v 0) .nl)))) (.c (.int 31))) (.v 1)))))⟩
noncomputable def f__law_mixed : Fn := ⟨3, 4, (.seq (.set (.one 3) (.bin .mod (.bin .mul (.bin .add (.bin .add (.call "_law_cell_at" (.cs (.v 0) (.cs (.v 1) .nl))) (.bin .mul (.c (.int 7919)) (.v 1))) (.c (.int 1))) (.c (.int 48271))) (.c (.int 2147483647))))
  (.ret (.bin .mod (.bin .mod (.bin .add (.bin .add (.bin .mul (.v 3) (.v 3)) (.bin .mul (.c (.int 7)) (.v 3))) (.v 1)) (.c (.int 2147483629))) (.v 2))))⟩
noncomputable def f__law_source : Fn := ⟨5, 7, (.seq (.set (.one 5) (.call "_law_mixed" (.cs (.v 0) (.cs (.v 1) (.cs (.c (.int 7)) .nl)))))
  (.seq (.ite (.or (.cmp .eq (.v 5) (.c (.int 0))) (.and (.cmp .eq (.v 5) (.c (.int 1))) (.cmp .eq (.v 2) (.c (.int 0)))))
    (.ret (.tup (.cs (.c (.str "value")) (.cs (.call "_law_mixed" (.cs (.v 0) (.cs (.bin .add (.v 1) (.c (.int 1))) (.cs (.c (.int 9973)) .nl)))) .nl))))
    .skip)
  (.seq (.ite (.cmp .eq (.v 5) (.c (.int 1)))
    (.ret (.tup (.cs (.c (.str "input")) (.cs (.call "_law_mixed" (.cs (.v 0) (.cs (.bin .add (.v 1) (.c (.int 1))) (.cs (.v 2) .nl)))) .nl))))
    .skip)
  (.seq (.set (.one 6) (.call "_law_mixed" (.cs (.v 0) (.cs (.bin .add (.v 1) (.c (.int 1))) (.cs (.v 3) .nl)))))
  (.seq (.ite (.and (.cmp .lt (.v 6) (.v 4)) (.cmp .lt (.v 5) (.c (.int 5))))
    (.ret (.tup (.cs (.c (.str "work")) (.cs (.v 6) (.cs (.c (.int 0)) .nl)))))
    .skip)
  (.ret (.tup (.cs (.c (.str "work")) (.cs (.v 6) (.cs (.bin .add (.c (.int 1)) (.call "_law_mixed" (.cs (.v 0) (.cs (.bin .add (.v 1) (.c (.int 2))) (.cs (.c (.int 3)) .nl))))) .nl))))))))))⟩
noncomputable def f__law_work : Fn := ⟨4, 12, (.seq (.set (.many [4, 5, 6]) (.v 2))
  (.seq (.set (.one 7) (.lst .nl))
  (.seq (.forS (.one 8) (.iRng (.cs (.bin .add (.c (.int 1)) (.call "_law_mixed" (.cs (.v 0) (.cs (.bin .add (.v 1) (.c (.int 2))) (.cs (.c (.int 2)) .nl))))) .nl))
    (.ex (.me .append (.v 7) (.cs (.call "_law_source" (.cs (.v 0) (.cs (.bin .add (.bin .add (.v 1) (.c (.int 3))) (.bin .mul (.c (.int 3)) (.v 8))) (.cs (.v 4) (.cs (.v 6) (.cs (.v 3) .nl)))))) .nl))))
  (.seq (.set (.one 9) (.ix (.lst (.cs (.c (.str "plus")) (.cs (.c (.str "less")) (.cs (.c (.str "times")) (.cs (.c (.str "least")) (.cs (.c (.str "greatest")) .nl)))))) (.call "_law_mixed" (.cs (.v 0) (.cs (.v 1) (.cs (.c (.int 5)) .nl))))))
  (.seq (.set (.one 10) (.bin .add (.c (.int 1)) (.call "_law_mixed" (.cs (.v 0) (.cs (.bin .add (.v 1) (.c (.int 1))) (.cs (.ix (.lst (.cs (.c (.int 2)) (.cs (.c (.int 5)) .nl))) (.call "_law_mixed" (.cs (.v 0) (.cs (.bin .add (.v 1) (.c (.int 2))) (.cs (.c (.int 2)) .nl))))) .nl))))))
  (.seq (.set (.one 11) (.bi .tuple (.cs (.comp 2 (.call "_law_mixed" (.cs (.v 0) (.cs (.bin .add (.v 1) (.v 13)) (.cs (.c (.int 9973)) .nl)))) (.one 13) (.iSeq (.tup (.cs (.c (.int 0)) (.cs (.c (.int 5)) (.cs (.c (.int 6)) .nl))))) .nl) .nl)))
  (.ret (.tup (.cs (.call "_law_mixed" (.cs (.v 0) (.cs (.bin .add (.v 1) (.c (.int 7))) (.cs (.v 5) .nl)))) (.cs (.v 10) (.cs (.v 9) (.cs (.bi .tuple (.cs (.v 7) .nl)) (.cs (.v 11) .nl)))))))))))))⟩
noncomputable def f__law_loop : Fn := ⟨3, 9, (.seq (.set (.one 3) (.call "_law_mixed" (.cs (.v 0) (.cs (.v 1) (.cs (.c (.int 3)) .nl)))))
  (.seq (.set (.one 4) (.bin .add (.c (.int 1)) (.call "_law_mixed" (.cs (.v 0) (.cs (.bin .add (.v 1) (.c (.int 1))) (.cs (.v 2) .nl))))))
  (.seq (.set (.one 5) (.lst .nl))
  (.seq (.forS (.one 6) (.iRng (.cs (.bin .add (.c (.int 1)) (.call "_law_mixed" (.cs (.v 0) (.cs (.bin .add (.v 1) (.c (.int 2))) (.cs (.c (.int 2)) .nl))))) .nl))
    (.ex (.me .append (.v 5) (.cs (.tup (.cs (.bin .add (.c (.int 1)) (.call "_law_mixed" (.cs (.v 0) (.cs (.bin .add (.bin .add (.v 1) (.c (.int 3))) (.v 6)) (.cs (.c (.int 2)) .nl))))) (.cs (.bin .add (.c (.int 1)) (.bin .fdiv (.call "_law_mixed" (.cs (.v 0) (.cs (.bin .add (.bin .add (.v 1) (.c (.int 5))) (.v 6)) (.cs (.c (.int 5)) .nl)))) (.c (.int 2)))) .nl))) .nl))))
  (.seq (.set (.one 7) (.lst .nl))
  (.seq (.forS (.one 6) (.iRng (.cs (.v 4) .nl))
    (.ex (.me .append (.v 7) (.cs (.call "_law_work" (.cs (.v 0) (.cs (.bin .add (.bin .add (.v 1) (.c (.int 7))) (.bin .mul (.c (.int 9)) (.v 6))) (.cs (.tup (.cs (.v 3) (.cs (.bi .len (.cs (.v 5) .nl)) (.cs (.v 4) .nl)))) (.cs (.v 6) .nl))))) .nl))))
  (.seq (.set (.one 8) (.comp 2 (.v 10) (.one 10) (.iRng (.cs (.v 4) .nl)) (.cmp .gt (.call "_law_mixed" (.cs (.v 0) (.cs (.bin .add (.bin .add (.v 1) (.c (.int 7))) (.v 10)) (.cs (.c (.int 3)) .nl)))) (.c (.int 0)))))
  (.seq (.ite (.cmp .eq (.v 8) (.lst .nl))
    (.set (.one 8) (.lst (.cs (.bin .sub (.v 4) (.c (.int 1))) .nl)))
    .skip)
  (.ret (.tup (.cs (.v 3) (.cs (.bi .tuple (.cs (.v 5) .nl)) (.cs (.bi .tuple (.cs (.v 7) .nl)) (.cs (.bi .tuple (.cs (.v 8) .nl)) .nl))))))))))))))⟩
noncomputable def f__law_inputs : Fn := ⟨4, 10, (.seq (.set (.one 4) (.call "_law_mixed" (.cs (.v 0) (.cs (.v 1) (.cs (.bin .pow (.c (.int 10)) (.c (.int 9))) .nl)))))
  (.seq (.set (.one 5) (.lst .nl))
  (.seq (.forS (.one 6) (.iRng (.cs (.call "_law_mixed" (.cs (.v 0) (.cs (.bin .add (.v 1) (.c (.int 1))) (.cs (.bin .add (.v 3) (.c (.int 1))) .nl)))) .nl))
    (.seq (.set (.one 7) (.lst .nl))
  (.seq (.forS (.one 8) (.iRng (.cs (.v 2) .nl))
    (.seq (.set (.one 9) (.bin .mod (.bin .mul (.bin .add (.bin .add (.bin .add (.v 4) (.bin .mul (.bin .mul (.c (.int 104729)) (.v 6)) (.v 6))) (.bin .mul (.c (.int 7919)) (.v 6))) (.bin .mul (.c (.int 31)) (.v 8))) (.c (.int 48271))) (.c (.int 2147483647))))
  (.ex (.me .append (.v 7) (.cs (.ix (.lst (.cs (.bin .mod (.bin .fdiv (.v 9) (.c (.int 7))) (.c (.int 9973))) (.cs (.bin .mod (.bin .fdiv (.v 9) (.c (.int 7))) (.c (.int 4))) .nl))) (.bin .mod (.v 9) (.c (.int 2)))) .nl)))))
  (.ex (.me .append (.v 5) (.cs (.bi .tuple (.cs (.v 7) .nl)) .nl))))))
  (.ret (.v 5)))))⟩

/-! loops are data without lists -/
theorem Srs.cl (s : Srs) : s.toD.cl := by cases s <;> rfl
theorem Wk.cl (w : Wk) : w.toD.cl := by
  show (true && (true && (true && (D.lows 0 (w.srcs.map Srs.toD) && (D.lows 0 (w.starts.map .int) && true))))) = true
  rw [lows_map Srs.cl, lows_ints]; rfl
theorem Lp.cl (l : Lp) : l.toD.cl := by
  show (true && (D.lows 0 (l.crews.map crewD) && (D.lows 0 (l.works.map Wk.toD) && (D.lows 0 (l.outs.map natD) && true)))) = true
  rw [lows_map (f := crewD) fun _ => rfl, lows_map Wk.cl, lows_map (f := natD) fun _ => rfl]; rfl
theorem checked_wf {sub : Sub} {P : Prg} {n : Nat} {S : Store} (h : HB P) {l : Lp} (hw : l.WF) : callF sub P (n + 7) "checked" [l.toD] S = .ok l.toD S :=
  x_call h.checked rfl (x_seq (x_iteF (g_not (k := true) (t_call (r_call (r_cs (r_v rfl) r_nl) (loop_t h hw)))) x_skip) (x_ret (r_v rfl))) (leave_cl l.cl List.take_length)

/-! ### draws -/
noncomputable def cellAt (ns : List Int) (k : Int) : Int := if k < ns.length then ns.getD k.toNat 0 else if ns.length = 0 then 0 else ns.getD (k % (ns.length : Int)).toNat 0 * 31 + k
noncomputable def drawn (ns : List Int) (k : Int) : Int := (cellAt ns k + 7919 * k + 1) * 48271 % 2147483647
noncomputable def mixed (ns : List Int) (k m : Int) : Int := (drawn ns k * drawn ns k + 7 * drawn ns k + k) % 2147483629 % m
theorem mixed_range (ns : List Int) (k : Int) {m : Int} (h : 0 < m) : 0 ≤ mixed ns k m ∧ mixed ns k m < m := ⟨Int.emod_nonneg _ (by omega), Int.emod_lt_of_pos _ h⟩
structure HG (P : Prg) : Prop where
  cell : Has P "_law_cell_at" f__law_cell_at
  mix : Has P "_law_mixed" f__law_mixed
  source : Has P "_law_source" f__law_source
  work : Has P "_law_work" f__law_work
  loop : Has P "_law_loop" f__law_loop
variable {sub : Sub} {P : Prg} {n : Nat} {S : Store}
theorem atI_int {ns : List Int} {k : Int} (h0 : 0 ≤ k) (h : k < ns.length) : atI (ns.map D.int) k = some (.int (ns.getD k.toNat 0)) := by
  obtain ⟨j, rfl⟩ := Int.eq_ofNat_of_zero_le h0
  rw [atI_nat']
  have hj : j < ns.length := by omega
  simp [hj]
theorem eq_empty (ns : List Int) (S : Store) : cmD .eq (.fro (ns.map .int)) (.loc S.length) (S ++ [.lst []]) = .ok (.bl (decide (ns.length = 0))) (S ++ [.lst []]) := by
  rw [cm_eq]
  have : eqD deep (S ++ [.lst []]) (.fro (ns.map .int)) (.loc S.length) = some (decide (ns.length = 0)) := by
    show (match some (ns.map D.int), listAt (S ++ [.lst []]) S.length with | some xs, some ys => if xs.length = ys.length then eqDs _ xs ys else some false | _, _ => none) = _
    have e : listAt (S ++ [.lst []]) S.length = some [] := by unfold listAt; simp
    rw [e]
    cases ns <;> simp [eqDs]
  rw [this]
theorem cell_ok (h : HG P) (ns : List Int) {k : Int} (hk : 0 ≤ k) : callF sub P (n + 1) "_law_cell_at" [.fro (ns.map .int), .int k] S = .ok (.int (cellAt ns k)) S := by
  have hl : ∀ S : Store, biD sub .len [.fro (ns.map .int)] S = .ok (.int ns.length) S := fun S => by
    have := o_lenF (sub := sub) (S := S) (xs := ns.map .int)
    rw [List.length_map] at this
    exact this
  have e1 : ∀ {b : Bool}, decide (k < (ns.length : Int)) = b → evT sub (callF sub P n) (.cmp .lt (.v 1) (.bi .len (.cs (.v 0) .nl))) [some (.fro (ns.map .int)), some (.int k)] S = .ok b S := fun e => t_k (g_cmp (r_cmp (r_v rfl) (r_bi (r_cs (r_v rfl) r_nl) (hl _)) (cm_lt _ _ _))) e
  have e2 : ∀ {b : Bool}, decide (ns.length = 0) = b → evT sub (callF sub P n) (.cmp .eq (.v 0) (.lst .nl)) [some (.fro (ns.map .int)), some (.int k)] S = .ok b (S ++ [.lst []]) := fun e => t_k (g_cmp (r_cmp (r_v rfl) (r_lst r_nl rfl) (eq_empty ns S))) e
  unfold cellAt
  by_cases h1 : k < ns.length
  · rw [if_pos h1]
    exact x_call h.cell rfl (x_seqR (x_iteT (e1 (decide_eq_true h1)) (x_ret (r_ix (r_v rfl) (r_v rfl) (o_atF (atI_int hk h1)))))) (leave_int0 _ _)
  rw [if_neg h1]
  by_cases h2 : ns.length = 0
  · rw [if_pos h2]
    exact x_call h.cell rfl (x_seq (x_iteF (e1 (decide_eq_false h1)) x_skip) (x_seqR (x_iteT (e2 (decide_eq_true h2)) (x_ret r_c)))) (leave_int _ _ _)
  · rw [if_neg h2]
    have h3 : 0 < (ns.length : Int) := by omega
    exact x_call h.cell rfl (x_seq (x_iteF (e1 (decide_eq_false h1)) x_skip) (x_seq (x_iteF (e2 (decide_eq_false h2)) x_skip) (x_ret (r_bin (r_bin (r_ix (r_v rfl) (r_bin (r_v rfl) (r_bi (r_cs (r_v rfl) r_nl) (hl _)) (o_mod h3)) (o_atF (atI_int (Int.emod_nonneg k (by omega)) (Int.emod_lt_of_pos k h3)))) r_c (o_mulR (by decide))) (r_v rfl) (op_add_ii _ _ _))))) (leave_int _ _ _)
theorem mixed_ok (h : HG P) (ns : List Int) {k m : Int} (hk : 0 ≤ k) (hm : 0 < m) : callF sub P (n + 2) "_law_mixed" [.fro (ns.map .int), .int k, .int m] S = .ok (.int (mixed ns k m)) S := by
  have hc := cell_ok (sub := sub) (n := n) (S := S) h ns hk
  have h1 : 0 ≤ drawn ns k := Int.emod_nonneg _ (by decide)
  have h2 : drawn ns k < 2147483647 := Int.emod_lt_of_pos _ (by decide)
  refine x_call h.mix rfl (x_seq (x_set (d := .int (drawn ns k)) (S1 := S) ?_) (x_ret (d := .int (mixed ns k m)) (S1 := S) ?_)) (leave_cl rfl (by simp)) <;> (repeat' (first | with_reducible exact r_c | ((with_reducible apply r_v); exact rfl) | with_reducible apply r_bin | with_reducible apply r_cmp | with_reducible apply r_ix | with_reducible apply r_call | with_reducible exact r_nl | with_reducible apply r_cs | with_reducible apply r_bi | with_reducible apply r_me | with_reducible apply r_tup | with_reducible apply r_lst | ((with_reducible apply fits_small); exact rfl) | with_reducible apply r_neg | with_reducible apply t_call | with_reducible apply t_bi | with_reducible apply g_cmp | with_reducible exact op_add_ii _ _ _ | with_reducible exact op_sub_ii _ _ _ | ((with_reducible apply o_mod); first | decide | assumption | omega) | ((with_reducible apply o_mulL); first | decide | omega) | ((with_reducible apply o_mulR); first | decide | omega) | ((with_reducible apply o_fdiv); decide) | with_reducible exact cm_lt _ _ _ | with_reducible exact cm_le _ _ _ | with_reducible exact cm_gt _ _ _ | with_reducible exact cm_ge _ _ _ | with_reducible exact cm_eq_ii _ _ _ | with_reducible exact cm_eq_ss _ _ _ | ((with_reducible apply o_atN); assumption) | with_reducible exact o_tupN | with_reducible exact o_lenN | with_reducible exact o_lenT | with_reducible exact o_lenF | ((with_reducible apply o_at); exact rfl) | with_reducible assumption | ((apply o_mod); first | decide | assumption) | apply cm_eq_ii | apply cm_eq_ss))
/-- the draws, whatever they are -/
structure Mix (P : Prg) (mx : List Int → Int → Int → Int) : Prop where
  ok : ∀ {sub : Sub} {n : Nat} {S : Store} (ns : List Int) {k m : Int}, 0 ≤ k → 0 < m → callF sub P (n + 2) "_law_mixed" [.fro (ns.map .int), .int k, .int m] S = .ok (.int (mx ns k m)) S
  rng : ∀ (ns : List Int) (k : Int) {m : Int}, 0 < m → 0 ≤ mx ns k m ∧ mx ns k m < m
theorem mix_ex (h : HG P) : ∃ mx, Mix P mx := ⟨mixed, fun ns _ _ hk hm => mixed_ok h ns hk hm, fun ns k _ h => mixed_range ns k h⟩
variable {mx : List Int → Int → Int → Int}
noncomputable def srcM (mx : List Int → Int → Int → Int) (ns : List Int) (at' : Int) (streams many own : Nat) : Srs :=
  if mx ns at' 7 = 0 ∨ (mx ns at' 7 = 1 ∧ streams = 0) then .val (mx ns (at' + 1) 9973)
  else if mx ns at' 7 = 1 then .inp (mx ns (at' + 1) streams).toNat
  else if (mx ns (at' + 1) many).toNat < own ∧ mx ns at' 7 < 5 then .wrk (mx ns (at' + 1) many).toNat 0
  else .wrk (mx ns (at' + 1) many).toNat (1 + mx ns (at' + 2) 3).toNat
theorem leave_src (S : Store) (s : Srs) : leave S s.toD S = .ok s.toD S := leave_cl s.cl (by simp)
theorem toNat_cast {i : Int} (h : 0 ≤ i) : ((i.toNat : Nat) : Int) = i := Int.toNat_of_nonneg h
theorem source_draw (h : HG P) (M : Mix P mx) (ns : List Int) {at' : Int} {streams many own : Nat} (hat : 0 ≤ at') (hm : 0 < many) : callF sub P (n + 3) "_law_source" [.fro (ns.map .int), .int at', .int streams, .int many, .int own] S = .ok (srcM mx ns at' streams many own).toD S := by
  have hm' : (0 : Int) < many := by omega
  have a1 : 0 ≤ at' + 1 := by omega
  have a2 : 0 ≤ at' + 2 := by omega
  have m0 := M.ok (sub := sub) (n := n) (S := S) ns (k := at') (m := 7) hat (by decide)
  have r3 := M.rng ns (at' + 1) hm'
  have m1 := M.ok (sub := sub) (n := n) (S := S) ns (k := at' + 1) (m := 9973) a1 (by decide)
  have m3 := M.ok (sub := sub) (n := n) (S := S) ns (k := at' + 1) (m := many) a1 hm'
  have m4 := M.ok (sub := sub) (n := n) (S := S) ns (k := at' + 2) (m := 3) a2 (by decide)
  have r4 := M.rng ns (at' + 2) (show (0 : Int) < 3 by decide)
  unfold srcM
  generalize hw : mx ns at' 7 = w at m0
  refine x_call (S1 := S) h.source rfl (x_seq (x_set (d := .int w) (S1 := S) (by (repeat' (first | with_reducible exact r_c | ((with_reducible apply r_v); exact rfl) | with_reducible apply r_bin | with_reducible apply r_cmp | with_reducible apply r_ix | with_reducible apply r_call | with_reducible exact r_nl | with_reducible apply r_cs | with_reducible apply r_bi | with_reducible apply r_me | with_reducible apply r_tup | with_reducible apply r_lst | ((with_reducible apply fits_small); exact rfl) | with_reducible apply r_neg | with_reducible apply t_call | with_reducible apply t_bi | with_reducible apply g_cmp | with_reducible exact op_add_ii _ _ _ | with_reducible exact op_sub_ii _ _ _ | ((with_reducible apply o_mod); first | decide | assumption | omega) | ((with_reducible apply o_mulL); first | decide | omega) | ((with_reducible apply o_mulR); first | decide | omega) | ((with_reducible apply o_fdiv); decide) | with_reducible exact cm_lt _ _ _ | with_reducible exact cm_le _ _ _ | with_reducible exact cm_gt _ _ _ | with_reducible exact cm_ge _ _ _ | with_reducible exact cm_eq_ii _ _ _ | with_reducible exact cm_eq_ss _ _ _ | ((with_reducible apply o_atN); assumption) | with_reducible exact o_tupN | with_reducible exact o_lenN | with_reducible exact o_lenT | with_reducible exact o_lenF | ((with_reducible apply o_at); exact rfl) | with_reducible assumption | ((apply o_mod); first | decide | assumption) | apply cm_eq_ii | apply cm_eq_ss)))) ?_) (leave_src S _)
  by_cases w0 : w = 0 ∨ (w = 1 ∧ streams = 0)
  · rw [if_pos w0]
    refine x_seqR (x_iteT (S1 := S) ?_ (show _ = Res.ok (Fl.rt (.tup [.str "value", .int _])) S from x_ret (by (repeat' (first | with_reducible exact r_c | ((with_reducible apply r_v); exact rfl) | with_reducible apply r_bin | with_reducible apply r_cmp | with_reducible apply r_ix | with_reducible apply r_call | with_reducible exact r_nl | with_reducible apply r_cs | with_reducible apply r_bi | with_reducible apply r_me | with_reducible apply r_tup | with_reducible apply r_lst | ((with_reducible apply fits_small); exact rfl) | with_reducible apply r_neg | with_reducible apply t_call | with_reducible apply t_bi | with_reducible apply g_cmp | with_reducible exact op_add_ii _ _ _ | with_reducible exact op_sub_ii _ _ _ | ((with_reducible apply o_mod); first | decide | assumption | omega) | ((with_reducible apply o_mulL); first | decide | omega) | ((with_reducible apply o_mulR); first | decide | omega) | ((with_reducible apply o_fdiv); decide) | with_reducible exact cm_lt _ _ _ | with_reducible exact cm_le _ _ _ | with_reducible exact cm_gt _ _ _ | with_reducible exact cm_ge _ _ _ | with_reducible exact cm_eq_ii _ _ _ | with_reducible exact cm_eq_ss _ _ _ | ((with_reducible apply o_atN); assumption) | with_reducible exact o_tupN | with_reducible exact o_lenN | with_reducible exact o_lenT | with_reducible exact o_lenF | ((with_reducible apply o_at); exact rfl) | with_reducible assumption | ((apply o_mod); first | decide | assumption) | apply cm_eq_ii | apply cm_eq_ss)))))
    rcases w0 with rfl | ⟨rfl, rfl⟩
    · exact t_orT (t_k (by (repeat' (first | with_reducible exact r_c | ((with_reducible apply r_v); exact rfl) | with_reducible apply r_bin | with_reducible apply r_cmp | with_reducible apply r_ix | with_reducible apply r_call | with_reducible exact r_nl | with_reducible apply r_cs | with_reducible apply r_bi | with_reducible apply r_me | with_reducible apply r_tup | with_reducible apply r_lst | ((with_reducible apply fits_small); exact rfl) | with_reducible apply r_neg | with_reducible apply t_call | with_reducible apply t_bi | with_reducible apply g_cmp | with_reducible exact op_add_ii _ _ _ | with_reducible exact op_sub_ii _ _ _ | ((with_reducible apply o_mod); first | decide | assumption | omega) | ((with_reducible apply o_mulL); first | decide | omega) | ((with_reducible apply o_mulR); first | decide | omega) | ((with_reducible apply o_fdiv); decide) | with_reducible exact cm_lt _ _ _ | with_reducible exact cm_le _ _ _ | with_reducible exact cm_gt _ _ _ | with_reducible exact cm_ge _ _ _ | with_reducible exact cm_eq_ii _ _ _ | with_reducible exact cm_eq_ss _ _ _ | ((with_reducible apply o_atN); assumption) | with_reducible exact o_tupN | with_reducible exact o_lenN | with_reducible exact o_lenT | with_reducible exact o_lenF | ((with_reducible apply o_at); exact rfl) | with_reducible assumption | ((apply o_mod); first | decide | assumption) | apply cm_eq_ii | apply cm_eq_ss))) rfl)
    · exact t_orF (t_k (S1 := S) (by (repeat' (first | with_reducible exact r_c | ((with_reducible apply r_v); exact rfl) | with_reducible apply r_bin | with_reducible apply r_cmp | with_reducible apply r_ix | with_reducible apply r_call | with_reducible exact r_nl | with_reducible apply r_cs | with_reducible apply r_bi | with_reducible apply r_me | with_reducible apply r_tup | with_reducible apply r_lst | ((with_reducible apply fits_small); exact rfl) | with_reducible apply r_neg | with_reducible apply t_call | with_reducible apply t_bi | with_reducible apply g_cmp | with_reducible exact op_add_ii _ _ _ | with_reducible exact op_sub_ii _ _ _ | ((with_reducible apply o_mod); first | decide | assumption | omega) | ((with_reducible apply o_mulL); first | decide | omega) | ((with_reducible apply o_mulR); first | decide | omega) | ((with_reducible apply o_fdiv); decide) | with_reducible exact cm_lt _ _ _ | with_reducible exact cm_le _ _ _ | with_reducible exact cm_gt _ _ _ | with_reducible exact cm_ge _ _ _ | with_reducible exact cm_eq_ii _ _ _ | with_reducible exact cm_eq_ss _ _ _ | ((with_reducible apply o_atN); assumption) | with_reducible exact o_tupN | with_reducible exact o_lenN | with_reducible exact o_lenT | with_reducible exact o_lenF | ((with_reducible apply o_at); exact rfl) | with_reducible assumption | ((apply o_mod); first | decide | assumption) | apply cm_eq_ii | apply cm_eq_ss))) rfl) (t_andT (t_k (S1 := S) (by (repeat' (first | with_reducible exact r_c | ((with_reducible apply r_v); exact rfl) | with_reducible apply r_bin | with_reducible apply r_cmp | with_reducible apply r_ix | with_reducible apply r_call | with_reducible exact r_nl | with_reducible apply r_cs | with_reducible apply r_bi | with_reducible apply r_me | with_reducible apply r_tup | with_reducible apply r_lst | ((with_reducible apply fits_small); exact rfl) | with_reducible apply r_neg | with_reducible apply t_call | with_reducible apply t_bi | with_reducible apply g_cmp | with_reducible exact op_add_ii _ _ _ | with_reducible exact op_sub_ii _ _ _ | ((with_reducible apply o_mod); first | decide | assumption | omega) | ((with_reducible apply o_mulL); first | decide | omega) | ((with_reducible apply o_mulR); first | decide | omega) | ((with_reducible apply o_fdiv); decide) | with_reducible exact cm_lt _ _ _ | with_reducible exact cm_le _ _ _ | with_reducible exact cm_gt _ _ _ | with_reducible exact cm_ge _ _ _ | with_reducible exact cm_eq_ii _ _ _ | with_reducible exact cm_eq_ss _ _ _ | ((with_reducible apply o_atN); assumption) | with_reducible exact o_tupN | with_reducible exact o_lenN | with_reducible exact o_lenT | with_reducible exact o_lenF | ((with_reducible apply o_at); exact rfl) | with_reducible assumption | ((apply o_mod); first | decide | assumption) | apply cm_eq_ii | apply cm_eq_ss))) rfl) (t_k (by (repeat' (first | with_reducible exact r_c | ((with_reducible apply r_v); exact rfl) | with_reducible apply r_bin | with_reducible apply r_cmp | with_reducible apply r_ix | with_reducible apply r_call | with_reducible exact r_nl | with_reducible apply r_cs | with_reducible apply r_bi | with_reducible apply r_me | with_reducible apply r_tup | with_reducible apply r_lst | ((with_reducible apply fits_small); exact rfl) | with_reducible apply r_neg | with_reducible apply t_call | with_reducible apply t_bi | with_reducible apply g_cmp | with_reducible exact op_add_ii _ _ _ | with_reducible exact op_sub_ii _ _ _ | ((with_reducible apply o_mod); first | decide | assumption | omega) | ((with_reducible apply o_mulL); first | decide | omega) | ((with_reducible apply o_mulR); first | decide | omega) | ((with_reducible apply o_fdiv); decide) | with_reducible exact cm_lt _ _ _ | with_reducible exact cm_le _ _ _ | with_reducible exact cm_gt _ _ _ | with_reducible exact cm_ge _ _ _ | with_reducible exact cm_eq_ii _ _ _ | with_reducible exact cm_eq_ss _ _ _ | ((with_reducible apply o_atN); assumption) | with_reducible exact o_tupN | with_reducible exact o_lenN | with_reducible exact o_lenT | with_reducible exact o_lenF | ((with_reducible apply o_at); exact rfl) | with_reducible assumption | ((apply o_mod); first | decide | assumption) | apply cm_eq_ii | apply cm_eq_ss))) rfl))
  · rw [if_neg w0]
    refine x_seq (x_iteF (S1 := S) ?_ x_skip) ?_
    · by_cases z : w = 0
      · exact (w0 (.inl z)).elim
      · by_cases z1 : w = 1
        · have hs2 : ¬ (streams = 0) := fun q => w0 (.inr ⟨z1, q⟩)
          exact t_orF (t_k (S1 := S) (by (repeat' (first | with_reducible exact r_c | ((with_reducible apply r_v); exact rfl) | with_reducible apply r_bin | with_reducible apply r_cmp | with_reducible apply r_ix | with_reducible apply r_call | with_reducible exact r_nl | with_reducible apply r_cs | with_reducible apply r_bi | with_reducible apply r_me | with_reducible apply r_tup | with_reducible apply r_lst | ((with_reducible apply fits_small); exact rfl) | with_reducible apply r_neg | with_reducible apply t_call | with_reducible apply t_bi | with_reducible apply g_cmp | with_reducible exact op_add_ii _ _ _ | with_reducible exact op_sub_ii _ _ _ | ((with_reducible apply o_mod); first | decide | assumption | omega) | ((with_reducible apply o_mulL); first | decide | omega) | ((with_reducible apply o_mulR); first | decide | omega) | ((with_reducible apply o_fdiv); decide) | with_reducible exact cm_lt _ _ _ | with_reducible exact cm_le _ _ _ | with_reducible exact cm_gt _ _ _ | with_reducible exact cm_ge _ _ _ | with_reducible exact cm_eq_ii _ _ _ | with_reducible exact cm_eq_ss _ _ _ | ((with_reducible apply o_atN); assumption) | with_reducible exact o_tupN | with_reducible exact o_lenN | with_reducible exact o_lenT | with_reducible exact o_lenF | ((with_reducible apply o_at); exact rfl) | with_reducible assumption | ((apply o_mod); first | decide | assumption) | apply cm_eq_ii | apply cm_eq_ss))) (beq_false_of_ne z)) (t_andT (t_k (S1 := S) (by (repeat' (first | with_reducible exact r_c | ((with_reducible apply r_v); exact rfl) | with_reducible apply r_bin | with_reducible apply r_cmp | with_reducible apply r_ix | with_reducible apply r_call | with_reducible exact r_nl | with_reducible apply r_cs | with_reducible apply r_bi | with_reducible apply r_me | with_reducible apply r_tup | with_reducible apply r_lst | ((with_reducible apply fits_small); exact rfl) | with_reducible apply r_neg | with_reducible apply t_call | with_reducible apply t_bi | with_reducible apply g_cmp | with_reducible exact op_add_ii _ _ _ | with_reducible exact op_sub_ii _ _ _ | ((with_reducible apply o_mod); first | decide | assumption | omega) | ((with_reducible apply o_mulL); first | decide | omega) | ((with_reducible apply o_mulR); first | decide | omega) | ((with_reducible apply o_fdiv); decide) | with_reducible exact cm_lt _ _ _ | with_reducible exact cm_le _ _ _ | with_reducible exact cm_gt _ _ _ | with_reducible exact cm_ge _ _ _ | with_reducible exact cm_eq_ii _ _ _ | with_reducible exact cm_eq_ss _ _ _ | ((with_reducible apply o_atN); assumption) | with_reducible exact o_tupN | with_reducible exact o_lenN | with_reducible exact o_lenT | with_reducible exact o_lenF | ((with_reducible apply o_at); exact rfl) | with_reducible assumption | ((apply o_mod); first | decide | assumption) | apply cm_eq_ii | apply cm_eq_ss))) (beq_iff_eq.mpr z1)) (t_k (by (repeat' (first | with_reducible exact r_c | ((with_reducible apply r_v); exact rfl) | with_reducible apply r_bin | with_reducible apply r_cmp | with_reducible apply r_ix | with_reducible apply r_call | with_reducible exact r_nl | with_reducible apply r_cs | with_reducible apply r_bi | with_reducible apply r_me | with_reducible apply r_tup | with_reducible apply r_lst | ((with_reducible apply fits_small); exact rfl) | with_reducible apply r_neg | with_reducible apply t_call | with_reducible apply t_bi | with_reducible apply g_cmp | with_reducible exact op_add_ii _ _ _ | with_reducible exact op_sub_ii _ _ _ | ((with_reducible apply o_mod); first | decide | assumption | omega) | ((with_reducible apply o_mulL); first | decide | omega) | ((with_reducible apply o_mulR); first | decide | omega) | ((with_reducible apply o_fdiv); decide) | with_reducible exact cm_lt _ _ _ | with_reducible exact cm_le _ _ _ | with_reducible exact cm_gt _ _ _ | with_reducible exact cm_ge _ _ _ | with_reducible exact cm_eq_ii _ _ _ | with_reducible exact cm_eq_ss _ _ _ | ((with_reducible apply o_atN); assumption) | with_reducible exact o_tupN | with_reducible exact o_lenN | with_reducible exact o_lenT | with_reducible exact o_lenF | ((with_reducible apply o_at); exact rfl) | with_reducible assumption | ((apply o_mod); first | decide | assumption) | apply cm_eq_ii | apply cm_eq_ss))) (by simp [hs2])))
        · exact t_orF (t_k (S1 := S) (by (repeat' (first | with_reducible exact r_c | ((with_reducible apply r_v); exact rfl) | with_reducible apply r_bin | with_reducible apply r_cmp | with_reducible apply r_ix | with_reducible apply r_call | with_reducible exact r_nl | with_reducible apply r_cs | with_reducible apply r_bi | with_reducible apply r_me | with_reducible apply r_tup | with_reducible apply r_lst | ((with_reducible apply fits_small); exact rfl) | with_reducible apply r_neg | with_reducible apply t_call | with_reducible apply t_bi | with_reducible apply g_cmp | with_reducible exact op_add_ii _ _ _ | with_reducible exact op_sub_ii _ _ _ | ((with_reducible apply o_mod); first | decide | assumption | omega) | ((with_reducible apply o_mulL); first | decide | omega) | ((with_reducible apply o_mulR); first | decide | omega) | ((with_reducible apply o_fdiv); decide) | with_reducible exact cm_lt _ _ _ | with_reducible exact cm_le _ _ _ | with_reducible exact cm_gt _ _ _ | with_reducible exact cm_ge _ _ _ | with_reducible exact cm_eq_ii _ _ _ | with_reducible exact cm_eq_ss _ _ _ | ((with_reducible apply o_atN); assumption) | with_reducible exact o_tupN | with_reducible exact o_lenN | with_reducible exact o_lenT | with_reducible exact o_lenF | ((with_reducible apply o_at); exact rfl) | with_reducible assumption | ((apply o_mod); first | decide | assumption) | apply cm_eq_ii | apply cm_eq_ss))) (beq_false_of_ne z)) (t_andF (t_k (by (repeat' (first | with_reducible exact r_c | ((with_reducible apply r_v); exact rfl) | with_reducible apply r_bin | with_reducible apply r_cmp | with_reducible apply r_ix | with_reducible apply r_call | with_reducible exact r_nl | with_reducible apply r_cs | with_reducible apply r_bi | with_reducible apply r_me | with_reducible apply r_tup | with_reducible apply r_lst | ((with_reducible apply fits_small); exact rfl) | with_reducible apply r_neg | with_reducible apply t_call | with_reducible apply t_bi | with_reducible apply g_cmp | with_reducible exact op_add_ii _ _ _ | with_reducible exact op_sub_ii _ _ _ | ((with_reducible apply o_mod); first | decide | assumption | omega) | ((with_reducible apply o_mulL); first | decide | omega) | ((with_reducible apply o_mulR); first | decide | omega) | ((with_reducible apply o_fdiv); decide) | with_reducible exact cm_lt _ _ _ | with_reducible exact cm_le _ _ _ | with_reducible exact cm_gt _ _ _ | with_reducible exact cm_ge _ _ _ | with_reducible exact cm_eq_ii _ _ _ | with_reducible exact cm_eq_ss _ _ _ | ((with_reducible apply o_atN); assumption) | with_reducible exact o_tupN | with_reducible exact o_lenN | with_reducible exact o_lenT | with_reducible exact o_lenF | ((with_reducible apply o_at); exact rfl) | with_reducible assumption | ((apply o_mod); first | decide | assumption) | apply cm_eq_ii | apply cm_eq_ss))) (beq_false_of_ne z1)))
    · by_cases w1 : w = 1
      · have hs' : (0 : Int) < streams := by have : ¬ streams = 0 := fun q => w0 (.inr ⟨w1, q⟩); omega
        have m2 := M.ok (sub := sub) (n := n) (S := S) ns (k := at' + 1) (m := streams) a1 hs'
        have r2 := toNat_cast (M.rng ns (at' + 1) hs').1
        rw [if_pos w1]
        refine x_seqR (x_iteT (S1 := S) (t_k (by (repeat' (first | with_reducible exact r_c | ((with_reducible apply r_v); exact rfl) | with_reducible apply r_bin | with_reducible apply r_cmp | with_reducible apply r_ix | with_reducible apply r_call | with_reducible exact r_nl | with_reducible apply r_cs | with_reducible apply r_bi | with_reducible apply r_me | with_reducible apply r_tup | with_reducible apply r_lst | ((with_reducible apply fits_small); exact rfl) | with_reducible apply r_neg | with_reducible apply t_call | with_reducible apply t_bi | with_reducible apply g_cmp | with_reducible exact op_add_ii _ _ _ | with_reducible exact op_sub_ii _ _ _ | ((with_reducible apply o_mod); first | decide | assumption | omega) | ((with_reducible apply o_mulL); first | decide | omega) | ((with_reducible apply o_mulR); first | decide | omega) | ((with_reducible apply o_fdiv); decide) | with_reducible exact cm_lt _ _ _ | with_reducible exact cm_le _ _ _ | with_reducible exact cm_gt _ _ _ | with_reducible exact cm_ge _ _ _ | with_reducible exact cm_eq_ii _ _ _ | with_reducible exact cm_eq_ss _ _ _ | ((with_reducible apply o_atN); assumption) | with_reducible exact o_tupN | with_reducible exact o_lenN | with_reducible exact o_lenT | with_reducible exact o_lenF | ((with_reducible apply o_at); exact rfl) | with_reducible assumption | ((apply o_mod); first | decide | assumption) | apply cm_eq_ii | apply cm_eq_ss))) (beq_iff_eq.mpr w1)) ?_)
        show _ = Res.ok (Fl.rt (.tup [.str "input", .int _])) S
        rw [r2]
        exact x_ret (by (repeat' (first | with_reducible exact r_c | ((with_reducible apply r_v); exact rfl) | with_reducible apply r_bin | with_reducible apply r_cmp | with_reducible apply r_ix | with_reducible apply r_call | with_reducible exact r_nl | with_reducible apply r_cs | with_reducible apply r_bi | with_reducible apply r_me | with_reducible apply r_tup | with_reducible apply r_lst | ((with_reducible apply fits_small); exact rfl) | with_reducible apply r_neg | with_reducible apply t_call | with_reducible apply t_bi | with_reducible apply g_cmp | with_reducible exact op_add_ii _ _ _ | with_reducible exact op_sub_ii _ _ _ | ((with_reducible apply o_mod); first | decide | assumption | omega) | ((with_reducible apply o_mulL); first | decide | omega) | ((with_reducible apply o_mulR); first | decide | omega) | ((with_reducible apply o_fdiv); decide) | with_reducible exact cm_lt _ _ _ | with_reducible exact cm_le _ _ _ | with_reducible exact cm_gt _ _ _ | with_reducible exact cm_ge _ _ _ | with_reducible exact cm_eq_ii _ _ _ | with_reducible exact cm_eq_ss _ _ _ | ((with_reducible apply o_atN); assumption) | with_reducible exact o_tupN | with_reducible exact o_lenN | with_reducible exact o_lenT | with_reducible exact o_lenF | ((with_reducible apply o_at); exact rfl) | with_reducible assumption | ((apply o_mod); first | decide | assumption) | apply cm_eq_ii | apply cm_eq_ss)))
      · rw [if_neg w1]
        have t3 := toNat_cast r3.1
        generalize hv : mx ns (at' + 1) many = v at m3 r3 t3
        refine x_seq (x_iteF (S1 := S) (t_k (by (repeat' (first | with_reducible exact r_c | ((with_reducible apply r_v); exact rfl) | with_reducible apply r_bin | with_reducible apply r_cmp | with_reducible apply r_ix | with_reducible apply r_call | with_reducible exact r_nl | with_reducible apply r_cs | with_reducible apply r_bi | with_reducible apply r_me | with_reducible apply r_tup | with_reducible apply r_lst | ((with_reducible apply fits_small); exact rfl) | with_reducible apply r_neg | with_reducible apply t_call | with_reducible apply t_bi | with_reducible apply g_cmp | with_reducible exact op_add_ii _ _ _ | with_reducible exact op_sub_ii _ _ _ | ((with_reducible apply o_mod); first | decide | assumption | omega) | ((with_reducible apply o_mulL); first | decide | omega) | ((with_reducible apply o_mulR); first | decide | omega) | ((with_reducible apply o_fdiv); decide) | with_reducible exact cm_lt _ _ _ | with_reducible exact cm_le _ _ _ | with_reducible exact cm_gt _ _ _ | with_reducible exact cm_ge _ _ _ | with_reducible exact cm_eq_ii _ _ _ | with_reducible exact cm_eq_ss _ _ _ | ((with_reducible apply o_atN); assumption) | with_reducible exact o_tupN | with_reducible exact o_lenN | with_reducible exact o_lenT | with_reducible exact o_lenF | ((with_reducible apply o_at); exact rfl) | with_reducible assumption | ((apply o_mod); first | decide | assumption) | apply cm_eq_ii | apply cm_eq_ss))) (beq_false_of_ne w1)) x_skip) (x_seq (x_set (d := .int v) (S1 := S) (by (repeat' (first | with_reducible exact r_c | ((with_reducible apply r_v); exact rfl) | with_reducible apply r_bin | with_reducible apply r_cmp | with_reducible apply r_ix | with_reducible apply r_call | with_reducible exact r_nl | with_reducible apply r_cs | with_reducible apply r_bi | with_reducible apply r_me | with_reducible apply r_tup | with_reducible apply r_lst | ((with_reducible apply fits_small); exact rfl) | with_reducible apply r_neg | with_reducible apply t_call | with_reducible apply t_bi | with_reducible apply g_cmp | with_reducible exact op_add_ii _ _ _ | with_reducible exact op_sub_ii _ _ _ | ((with_reducible apply o_mod); first | decide | assumption | omega) | ((with_reducible apply o_mulL); first | decide | omega) | ((with_reducible apply o_mulR); first | decide | omega) | ((with_reducible apply o_fdiv); decide) | with_reducible exact cm_lt _ _ _ | with_reducible exact cm_le _ _ _ | with_reducible exact cm_gt _ _ _ | with_reducible exact cm_ge _ _ _ | with_reducible exact cm_eq_ii _ _ _ | with_reducible exact cm_eq_ss _ _ _ | ((with_reducible apply o_atN); assumption) | with_reducible exact o_tupN | with_reducible exact o_lenN | with_reducible exact o_lenT | with_reducible exact o_lenF | ((with_reducible apply o_at); exact rfl) | with_reducible assumption | ((apply o_mod); first | decide | assumption) | apply cm_eq_ii | apply cm_eq_ss)))) ?_)
        by_cases w2 : v.toNat < own ∧ w < 5
        · rw [if_pos w2]
          refine x_seqR (x_iteT (S1 := S) (t_andT (t_k (S1 := S) (by (repeat' (first | with_reducible exact r_c | ((with_reducible apply r_v); exact rfl) | with_reducible apply r_bin | with_reducible apply r_cmp | with_reducible apply r_ix | with_reducible apply r_call | with_reducible exact r_nl | with_reducible apply r_cs | with_reducible apply r_bi | with_reducible apply r_me | with_reducible apply r_tup | with_reducible apply r_lst | ((with_reducible apply fits_small); exact rfl) | with_reducible apply r_neg | with_reducible apply t_call | with_reducible apply t_bi | with_reducible apply g_cmp | with_reducible exact op_add_ii _ _ _ | with_reducible exact op_sub_ii _ _ _ | ((with_reducible apply o_mod); first | decide | assumption | omega) | ((with_reducible apply o_mulL); first | decide | omega) | ((with_reducible apply o_mulR); first | decide | omega) | ((with_reducible apply o_fdiv); decide) | with_reducible exact cm_lt _ _ _ | with_reducible exact cm_le _ _ _ | with_reducible exact cm_gt _ _ _ | with_reducible exact cm_ge _ _ _ | with_reducible exact cm_eq_ii _ _ _ | with_reducible exact cm_eq_ss _ _ _ | ((with_reducible apply o_atN); assumption) | with_reducible exact o_tupN | with_reducible exact o_lenN | with_reducible exact o_lenT | with_reducible exact o_lenF | ((with_reducible apply o_at); exact rfl) | with_reducible assumption | ((apply o_mod); first | decide | assumption) | apply cm_eq_ii | apply cm_eq_ss))) (decide_eq_true (by omega))) (t_k (by (repeat' (first | with_reducible exact r_c | ((with_reducible apply r_v); exact rfl) | with_reducible apply r_bin | with_reducible apply r_cmp | with_reducible apply r_ix | with_reducible apply r_call | with_reducible exact r_nl | with_reducible apply r_cs | with_reducible apply r_bi | with_reducible apply r_me | with_reducible apply r_tup | with_reducible apply r_lst | ((with_reducible apply fits_small); exact rfl) | with_reducible apply r_neg | with_reducible apply t_call | with_reducible apply t_bi | with_reducible apply g_cmp | with_reducible exact op_add_ii _ _ _ | with_reducible exact op_sub_ii _ _ _ | ((with_reducible apply o_mod); first | decide | assumption | omega) | ((with_reducible apply o_mulL); first | decide | omega) | ((with_reducible apply o_mulR); first | decide | omega) | ((with_reducible apply o_fdiv); decide) | with_reducible exact cm_lt _ _ _ | with_reducible exact cm_le _ _ _ | with_reducible exact cm_gt _ _ _ | with_reducible exact cm_ge _ _ _ | with_reducible exact cm_eq_ii _ _ _ | with_reducible exact cm_eq_ss _ _ _ | ((with_reducible apply o_atN); assumption) | with_reducible exact o_tupN | with_reducible exact o_lenN | with_reducible exact o_lenT | with_reducible exact o_lenF | ((with_reducible apply o_at); exact rfl) | with_reducible assumption | ((apply o_mod); first | decide | assumption) | apply cm_eq_ii | apply cm_eq_ss))) (decide_eq_true w2.2))) ?_)
          show _ = Res.ok (Fl.rt (.tup [.str "work", .int _, .int 0])) S
          rw [t3]
          exact x_ret (by (repeat' (first | with_reducible exact r_c | ((with_reducible apply r_v); exact rfl) | with_reducible apply r_bin | with_reducible apply r_cmp | with_reducible apply r_ix | with_reducible apply r_call | with_reducible exact r_nl | with_reducible apply r_cs | with_reducible apply r_bi | with_reducible apply r_me | with_reducible apply r_tup | with_reducible apply r_lst | ((with_reducible apply fits_small); exact rfl) | with_reducible apply r_neg | with_reducible apply t_call | with_reducible apply t_bi | with_reducible apply g_cmp | with_reducible exact op_add_ii _ _ _ | with_reducible exact op_sub_ii _ _ _ | ((with_reducible apply o_mod); first | decide | assumption | omega) | ((with_reducible apply o_mulL); first | decide | omega) | ((with_reducible apply o_mulR); first | decide | omega) | ((with_reducible apply o_fdiv); decide) | with_reducible exact cm_lt _ _ _ | with_reducible exact cm_le _ _ _ | with_reducible exact cm_gt _ _ _ | with_reducible exact cm_ge _ _ _ | with_reducible exact cm_eq_ii _ _ _ | with_reducible exact cm_eq_ss _ _ _ | ((with_reducible apply o_atN); assumption) | with_reducible exact o_tupN | with_reducible exact o_lenN | with_reducible exact o_lenT | with_reducible exact o_lenF | ((with_reducible apply o_at); exact rfl) | with_reducible assumption | ((apply o_mod); first | decide | assumption) | apply cm_eq_ii | apply cm_eq_ss)))
        · rw [if_neg w2]
          refine x_seq (x_iteF (S1 := S) ?_ x_skip) ?_
          · by_cases w3 : v < own
            · exact t_andT (t_k (S1 := S) (by (repeat' (first | with_reducible exact r_c | ((with_reducible apply r_v); exact rfl) | with_reducible apply r_bin | with_reducible apply r_cmp | with_reducible apply r_ix | with_reducible apply r_call | with_reducible exact r_nl | with_reducible apply r_cs | with_reducible apply r_bi | with_reducible apply r_me | with_reducible apply r_tup | with_reducible apply r_lst | ((with_reducible apply fits_small); exact rfl) | with_reducible apply r_neg | with_reducible apply t_call | with_reducible apply t_bi | with_reducible apply g_cmp | with_reducible exact op_add_ii _ _ _ | with_reducible exact op_sub_ii _ _ _ | ((with_reducible apply o_mod); first | decide | assumption | omega) | ((with_reducible apply o_mulL); first | decide | omega) | ((with_reducible apply o_mulR); first | decide | omega) | ((with_reducible apply o_fdiv); decide) | with_reducible exact cm_lt _ _ _ | with_reducible exact cm_le _ _ _ | with_reducible exact cm_gt _ _ _ | with_reducible exact cm_ge _ _ _ | with_reducible exact cm_eq_ii _ _ _ | with_reducible exact cm_eq_ss _ _ _ | ((with_reducible apply o_atN); assumption) | with_reducible exact o_tupN | with_reducible exact o_lenN | with_reducible exact o_lenT | with_reducible exact o_lenF | ((with_reducible apply o_at); exact rfl) | with_reducible assumption | ((apply o_mod); first | decide | assumption) | apply cm_eq_ii | apply cm_eq_ss))) (decide_eq_true w3)) (t_k (by (repeat' (first | with_reducible exact r_c | ((with_reducible apply r_v); exact rfl) | with_reducible apply r_bin | with_reducible apply r_cmp | with_reducible apply r_ix | with_reducible apply r_call | with_reducible exact r_nl | with_reducible apply r_cs | with_reducible apply r_bi | with_reducible apply r_me | with_reducible apply r_tup | with_reducible apply r_lst | ((with_reducible apply fits_small); exact rfl) | with_reducible apply r_neg | with_reducible apply t_call | with_reducible apply t_bi | with_reducible apply g_cmp | with_reducible exact op_add_ii _ _ _ | with_reducible exact op_sub_ii _ _ _ | ((with_reducible apply o_mod); first | decide | assumption | omega) | ((with_reducible apply o_mulL); first | decide | omega) | ((with_reducible apply o_mulR); first | decide | omega) | ((with_reducible apply o_fdiv); decide) | with_reducible exact cm_lt _ _ _ | with_reducible exact cm_le _ _ _ | with_reducible exact cm_gt _ _ _ | with_reducible exact cm_ge _ _ _ | with_reducible exact cm_eq_ii _ _ _ | with_reducible exact cm_eq_ss _ _ _ | ((with_reducible apply o_atN); assumption) | with_reducible exact o_tupN | with_reducible exact o_lenN | with_reducible exact o_lenT | with_reducible exact o_lenF | ((with_reducible apply o_at); exact rfl) | with_reducible assumption | ((apply o_mod); first | decide | assumption) | apply cm_eq_ii | apply cm_eq_ss))) (decide_eq_false fun z => w2 ⟨by omega, z⟩))
            · exact t_andF (t_k (by (repeat' (first | with_reducible exact r_c | ((with_reducible apply r_v); exact rfl) | with_reducible apply r_bin | with_reducible apply r_cmp | with_reducible apply r_ix | with_reducible apply r_call | with_reducible exact r_nl | with_reducible apply r_cs | with_reducible apply r_bi | with_reducible apply r_me | with_reducible apply r_tup | with_reducible apply r_lst | ((with_reducible apply fits_small); exact rfl) | with_reducible apply r_neg | with_reducible apply t_call | with_reducible apply t_bi | with_reducible apply g_cmp | with_reducible exact op_add_ii _ _ _ | with_reducible exact op_sub_ii _ _ _ | ((with_reducible apply o_mod); first | decide | assumption | omega) | ((with_reducible apply o_mulL); first | decide | omega) | ((with_reducible apply o_mulR); first | decide | omega) | ((with_reducible apply o_fdiv); decide) | with_reducible exact cm_lt _ _ _ | with_reducible exact cm_le _ _ _ | with_reducible exact cm_gt _ _ _ | with_reducible exact cm_ge _ _ _ | with_reducible exact cm_eq_ii _ _ _ | with_reducible exact cm_eq_ss _ _ _ | ((with_reducible apply o_atN); assumption) | with_reducible exact o_tupN | with_reducible exact o_lenN | with_reducible exact o_lenT | with_reducible exact o_lenF | ((with_reducible apply o_at); exact rfl) | with_reducible assumption | ((apply o_mod); first | decide | assumption) | apply cm_eq_ii | apply cm_eq_ss))) (decide_eq_false w3))
          · show _ = Res.ok (Fl.rt (.tup [.str "work", .int _, .int _])) S
            rw [t3, toNat_cast (show 0 ≤ 1 + mx ns (at' + 2) 3 by omega)]
            exact x_ret (by (repeat' (first | with_reducible exact r_c | ((with_reducible apply r_v); exact rfl) | with_reducible apply r_bin | with_reducible apply r_cmp | with_reducible apply r_ix | with_reducible apply r_call | with_reducible exact r_nl | with_reducible apply r_cs | with_reducible apply r_bi | with_reducible apply r_me | with_reducible apply r_tup | with_reducible apply r_lst | ((with_reducible apply fits_small); exact rfl) | with_reducible apply r_neg | with_reducible apply t_call | with_reducible apply t_bi | with_reducible apply g_cmp | with_reducible exact op_add_ii _ _ _ | with_reducible exact op_sub_ii _ _ _ | ((with_reducible apply o_mod); first | decide | assumption | omega) | ((with_reducible apply o_mulL); first | decide | omega) | ((with_reducible apply o_mulR); first | decide | omega) | ((with_reducible apply o_fdiv); decide) | with_reducible exact cm_lt _ _ _ | with_reducible exact cm_le _ _ _ | with_reducible exact cm_gt _ _ _ | with_reducible exact cm_ge _ _ _ | with_reducible exact cm_eq_ii _ _ _ | with_reducible exact cm_eq_ss _ _ _ | ((with_reducible apply o_atN); assumption) | with_reducible exact o_tupN | with_reducible exact o_lenN | with_reducible exact o_lenT | with_reducible exact o_lenF | ((with_reducible apply o_at); exact rfl) | with_reducible assumption | ((apply o_mod); first | decide | assumption) | apply cm_eq_ii | apply cm_eq_ss)))
theorem srcM_wf (M : Mix P mx) (ns : List Int) (at' : Int) {streams many own : Nat} (hm : 0 < many) : (srcM mx ns at' streams many own).WF own many streams := by
  have r1 := M.rng ns (at' + 1) (show (0 : Int) < 9973 by decide)
  have r3 := M.rng ns (at' + 1) (show (0 : Int) < many by omega)
  have r4 := M.rng ns (at' + 2) (show (0 : Int) < 3 by decide)
  unfold srcM
  by_cases w0 : mx ns at' 7 = 0 ∨ (mx ns at' 7 = 1 ∧ streams = 0)
  · rw [if_pos w0]; exact ⟨r1.1, by omega⟩
  · rw [if_neg w0]
    by_cases w1 : mx ns at' 7 = 1
    · rw [if_pos w1]
      have hs : streams ≠ 0 := fun z => w0 (.inr ⟨w1, z⟩)
      have r2 := M.rng ns (at' + 1) (show (0 : Int) < streams by omega)
      show _ < streams
      omega
    · rw [if_neg w1]
      split
      · rename_i h; exact ⟨by omega, by simpa using h.1⟩
      · refine ⟨by omega, ?_⟩
        rw [if_neg (by omega)]
        omega

noncomputable def two5 (i : Int) : Int := if i = 0 then 2 else 5
noncomputable def workM (mx : List Int → Int → Int → Int) (ns : List Int) (at' : Int) (streams ncrews many own : Nat) : Wk where
  crew := (mx ns (at' + 7) ncrews).toNat
  long := (1 + mx ns (at' + 1) (two5 (mx ns (at' + 2) 2))).toNat
  doing := wordsL.getD (mx ns at' 5).toNat "plus"
  srcs := (List.range (1 + mx ns (at' + 2) 2).toNat).map fun (k : Nat) => srcM mx ns (at' + 3 + 3 * (k : Int)) streams many own
  starts := [mx ns (at' + 0) 9973, mx ns (at' + 5) 9973, mx ns (at' + 6) 9973]
theorem natInt (k : Nat) : natD k = .int (k : Int) := rfl
theorem pick2 {i : Int} (h : 0 ≤ i ∧ i < 2) : atI [D.int 2, D.int 5] i = some (.int (two5 i)) := by
  rcases (show i = 0 ∨ i = 1 by omega) with rfl | rfl <;> rfl
theorem pick5 {i : Int} (h : 0 ≤ i ∧ i < 5) : atI [D.str "plus", D.str "less", D.str "times", D.str "least", D.str "greatest"] i = some (.str (wordsL.getD i.toNat "plus")) := by
  obtain ⟨k, rfl⟩ := Int.eq_ofNat_of_zero_le h.1
  rw [atI_nat']
  have hk : k < 5 := by omega
  exact (by decide : ∀ k : Fin 5, [D.str "plus", D.str "less", D.str "times", D.str "least", D.str "greatest"][k.1]? = some (.str (wordsL.getD ((k.1 : Nat) : Int).toNat "plus"))) ⟨k, hk⟩
theorem work_draw (h : HG P) (M : Mix P mx) (ns : List Int) {at' : Int} {streams ncrews many own : Nat} (hat : 0 ≤ at') (hm : 0 < many) (hc : 0 < ncrews) :
    callF sub P (n + 4) "_law_work" [.fro (ns.map .int), .int at', .tup [.int streams, .int ncrews, .int many], .int own] S = .ok (workM mx ns at' streams ncrews many own).toD S := by
  have r2 := M.rng ns (at' + 2) (show (0 : Int) < 2 by decide)
  have rl : 0 < two5 (mx ns (at' + 2) 2) := by unfold two5; split <;> decide
  have hn : (0 : Int) < ncrews := by omega
  have m (k m : Int) (hk : 0 ≤ k) (hm : 0 < m) (S : Store) : callF sub P (n + 3) "_law_mixed" [.fro (ns.map .int), .int k, .int m] S = .ok (.int (mx ns k m)) S := M.ok ns hk hm
  have m2 := m (at' + 2) 2 (by omega) (by decide)
  have m0 := m at' 5 hat (by decide)
  have m7 := m (at' + 7) ncrews (by omega) hn
  have m1 := m (at' + 1) (two5 (mx ns (at' + 2) 2)) (by omega) rl
  have hw := pick5 (M.rng ns at' (show (0 : Int) < 5 by decide))
  have h25 := pick2 r2
  have val : (workM mx ns at' streams ncrews many own).toD = .tup [.int (mx ns (at' + 7) ncrews), .int (1 + mx ns (at' + 1) (two5 (mx ns (at' + 2) 2))), .str (wordsL.getD (mx ns at' 5).toNat "plus"),
      .tup ((List.range (1 + mx ns (at' + 2) 2).toNat).map fun (k : Nat) => (srcM mx ns (at' + 3 + 3 * (k : Int)) streams many own).toD), .tup [.int (mx ns (at' + 0) 9973), .int (mx ns (at' + 5) 9973), .int (mx ns (at' + 6) 9973)]] := by
    have e1 := toNat_cast (M.rng ns (at' + 7) hn).1
    have e2 := toNat_cast (i := 1 + mx ns (at' + 1) (two5 (mx ns (at' + 2) 2))) (by have := M.rng ns (at' + 1) rl; omega)
    unfold workM Wk.toD
    rw [e1, e2, List.map_map]; rfl
  have hcl := (workM mx ns at' streams ncrews many own).cl
  rw [val] at hcl ⊢
  generalize hq : (1 + mx ns (at' + 2) 2).toNat = q at hcl
  have hq' : (1 + mx ns (at' + 2) 2) = (q : Int) := by omega
  obtain ⟨x, loop⟩ := for_app (sub := sub) (cf := callF sub P (n + 3)) (i := 8) (j := 7) (l := S.length)
      (it := .iRng (.cs (.bin .add (.c (.int 1)) (.call "_law_mixed" (.cs (.v 0) (.cs (.bin .add (.v 1) (.c (.int 2))) (.cs (.c (.int 2)) .nl))))) .nl))
      (e := .call "_law_source" (.cs (.v 0) (.cs (.bin .add (.bin .add (.v 1) (.c (.int 3))) (.bin .mul (.c (.int 3)) (.v 8))) (.cs (.v 4) (.cs (.v 6) (.cs (.v 3) .nl))))))
      (σ := [some (.fro (ns.map .int)), some (.int at'), some (.tup [.int streams, .int ncrews, .int many]), some (.int own), some (.int streams), some (.int ncrews), some (.int many), some (.loc S.length), none, none, none, none])
      (S := S ++ [.lst []]) (S1 := S ++ [.lst []]) (xs := []) (ks := List.range q) (f := natD) (g := fun (k : Nat) => (srcM mx ns (at' + 3 + 3 * (k : Int)) streams many own).toD) (o := none) (raw := [])
      (g_rng1 (by (repeat' (first | with_reducible exact r_c | ((with_reducible apply r_v); exact rfl) | with_reducible apply r_bin | with_reducible apply r_cmp | with_reducible apply r_ix | with_reducible apply r_call | with_reducible exact r_nl | with_reducible apply r_cs | with_reducible apply r_bi | with_reducible apply r_me | with_reducible apply r_tup | with_reducible apply r_lst | ((with_reducible apply fits_small); exact rfl) | with_reducible apply r_neg | with_reducible apply t_call | with_reducible apply t_bi | with_reducible apply g_cmp | with_reducible exact op_add_ii _ _ _ | with_reducible exact op_sub_ii _ _ _ | ((with_reducible apply o_mod); first | decide | assumption | omega) | ((with_reducible apply o_mulL); first | decide | omega) | ((with_reducible apply o_mulR); first | decide | omega) | ((with_reducible apply o_fdiv); decide) | with_reducible exact cm_lt _ _ _ | with_reducible exact cm_le _ _ _ | with_reducible exact cm_gt _ _ _ | with_reducible exact cm_ge _ _ _ | with_reducible exact cm_eq_ii _ _ _ | with_reducible exact cm_eq_ss _ _ _ | ((with_reducible apply o_atN); assumption) | with_reducible exact o_tupN | with_reducible exact o_lenN | with_reducible exact o_lenT | with_reducible exact o_lenF | ((with_reducible apply o_at); exact rfl) | with_reducible assumption | ((apply o_mod); first | decide | assumption) | apply cm_eq_ii | apply cm_eq_ss | with_reducible exact m2 _))) hq' (by omega) natInt) rfl (get_last _ _) (by decide) (Nat.lt_of_sub_pos (by exact Nat.succ_pos 3)) (fun _ => rfl)
      (fun k _ ys => by
        have := source_draw (sub := sub) (n := n) (S := List.set (S ++ [.lst []]) S.length (.lst ys)) h M ns (at' := at' + 3 + 3 * (k : Int)) (streams := streams) (many := many) (own := own) (by omega) hm
        rw [natInt]
        (repeat' (first | with_reducible exact r_c | ((with_reducible apply r_v); exact rfl) | with_reducible apply r_bin | with_reducible apply r_cmp | with_reducible apply r_ix | with_reducible apply r_call | with_reducible exact r_nl | with_reducible apply r_cs | with_reducible apply r_bi | with_reducible apply r_me | with_reducible apply r_tup | with_reducible apply r_lst | ((with_reducible apply fits_small); exact rfl) | with_reducible apply r_neg | with_reducible apply t_call | with_reducible apply t_bi | with_reducible apply g_cmp | with_reducible exact op_add_ii _ _ _ | with_reducible exact op_sub_ii _ _ _ | ((with_reducible apply o_mod); first | decide | assumption | omega) | ((with_reducible apply o_mulL); first | decide | omega) | ((with_reducible apply o_mulR); first | decide | omega) | ((with_reducible apply o_fdiv); decide) | with_reducible exact cm_lt _ _ _ | with_reducible exact cm_le _ _ _ | with_reducible exact cm_gt _ _ _ | with_reducible exact cm_ge _ _ _ | with_reducible exact cm_eq_ii _ _ _ | with_reducible exact cm_eq_ss _ _ _ | ((with_reducible apply o_atN); assumption) | with_reducible exact o_tupN | with_reducible exact o_lenN | with_reducible exact o_lenT | with_reducible exact o_lenF | ((with_reducible apply o_at); exact rfl) | with_reducible assumption | ((apply o_mod); first | decide | assumption) | apply cm_eq_ii | apply cm_eq_ss))) (by unfold sizeMax; rw [List.length_range, List.length_nil]; omega)
  rw [set_app0, List.nil_append] at loop
  have comp : ∀ (y : Option D) (d1 d2 : D) (T : Store), ev sub (callF sub P (n + 3)) (.comp 2 (.call "_law_mixed" (.cs (.v 0) (.cs (.bin .add (.v 1) (.v 13)) (.cs (.c (.int 9973)) .nl)))) (.one 13) (.iSeq (.tup (.cs (.c (.int 0)) (.cs (.c (.int 5)) (.cs (.c (.int 6)) .nl))))) .nl)
      [some (.fro (ns.map .int)), some (.int at'), some (.tup [.int streams, .int ncrews, .int many]), some (.int own), some (.int streams), some (.int ncrews), some (.int many), some (.loc S.length), y, some d1, some d2, none] T =
      .ok (.loc T.length) (T ++ [.lst [.int (mx ns (at' + 0) 9973), .int (mx ns (at' + 5) 9973), .int (mx ns (at' + 6) 9973)]]) := fun y d1 d2 T =>
    comp_mapA (ks := [0, 5, 6]) (f := D.int) (g := fun k => .int (mx ns (at' + k) 9973)) (g_seq (x := .tup [.int 0, .int 5, .int 6]) (by (repeat' (first | with_reducible exact r_c | ((with_reducible apply r_v); exact rfl) | with_reducible apply r_bin | with_reducible apply r_cmp | with_reducible apply r_ix | with_reducible apply r_call | with_reducible exact r_nl | with_reducible apply r_cs | with_reducible apply r_bi | with_reducible apply r_me | with_reducible apply r_tup | with_reducible apply r_lst | ((with_reducible apply fits_small); exact rfl) | with_reducible apply r_neg | with_reducible apply t_call | with_reducible apply t_bi | with_reducible apply g_cmp | with_reducible exact op_add_ii _ _ _ | with_reducible exact op_sub_ii _ _ _ | ((with_reducible apply o_mod); first | decide | assumption | omega) | ((with_reducible apply o_mulL); first | decide | omega) | ((with_reducible apply o_mulR); first | decide | omega) | ((with_reducible apply o_fdiv); decide) | with_reducible exact cm_lt _ _ _ | with_reducible exact cm_le _ _ _ | with_reducible exact cm_gt _ _ _ | with_reducible exact cm_ge _ _ _ | with_reducible exact cm_eq_ii _ _ _ | with_reducible exact cm_eq_ss _ _ _ | ((with_reducible apply o_atN); assumption) | with_reducible exact o_tupN | with_reducible exact o_lenN | with_reducible exact o_lenT | with_reducible exact o_lenF | ((with_reducible apply o_at); exact rfl) | with_reducible assumption | ((apply o_mod); first | decide | assumption) | apply cm_eq_ii | apply cm_eq_ss))) rfl) rfl (fun k hk => by
      have hk : 0 ≤ k := by
        have : k = 0 ∨ k = 5 ∨ k = 6 := by simpa using hk
        omega
      have := m (at' + k) 9973 (by omega) (by decide) T
      (repeat' (first | with_reducible exact r_c | ((with_reducible apply r_v); exact rfl) | with_reducible apply r_bin | with_reducible apply r_cmp | with_reducible apply r_ix | with_reducible apply r_call | with_reducible exact r_nl | with_reducible apply r_cs | with_reducible apply r_bi | with_reducible apply r_me | with_reducible apply r_tup | with_reducible apply r_lst | ((with_reducible apply fits_small); exact rfl) | with_reducible apply r_neg | with_reducible apply t_call | with_reducible apply t_bi | with_reducible apply g_cmp | with_reducible exact op_add_ii _ _ _ | with_reducible exact op_sub_ii _ _ _ | ((with_reducible apply o_mod); first | decide | assumption | omega) | ((with_reducible apply o_mulL); first | decide | omega) | ((with_reducible apply o_mulR); first | decide | omega) | ((with_reducible apply o_fdiv); decide) | with_reducible exact cm_lt _ _ _ | with_reducible exact cm_le _ _ _ | with_reducible exact cm_gt _ _ _ | with_reducible exact cm_ge _ _ _ | with_reducible exact cm_eq_ii _ _ _ | with_reducible exact cm_eq_ss _ _ _ | ((with_reducible apply o_atN); assumption) | with_reducible exact o_tupN | with_reducible exact o_lenN | with_reducible exact o_lenT | with_reducible exact o_lenF | ((with_reducible apply o_at); exact rfl) | with_reducible assumption | ((apply o_mod); first | decide | assumption) | apply cm_eq_ii | apply cm_eq_ss))) (by decide)
  have go : ∀ (T : Store), (S ++ .lst ((List.range q).map fun (k : Nat) => (srcM mx ns (at' + 3 + 3 * (k : Int)) streams many own).toD) :: T)[S.length]? = some (.lst ((List.range q).map fun (k : Nat) => (srcM mx ns (at' + 3 + 3 * (k : Int)) streams many own).toD)) := fun T => get_app0 S T _
  refine x_call h.work rfl (x_seq (x_setM (ds := [.int streams, .int ncrews, .int many]) (r_v rfl) rfl) (x_seq (x_set (r_lst r_nl rfl)) (x_seq loop (x_seq (x_set (by (repeat' (first | with_reducible exact r_c | ((with_reducible apply r_v); exact rfl) | with_reducible apply r_bin | with_reducible apply r_cmp | with_reducible apply r_ix | with_reducible apply r_call | with_reducible exact r_nl | with_reducible apply r_cs | with_reducible apply r_bi | with_reducible apply r_me | with_reducible apply r_tup | with_reducible apply r_lst | ((with_reducible apply fits_small); exact rfl) | with_reducible apply r_neg | with_reducible apply t_call | with_reducible apply t_bi | with_reducible apply g_cmp | with_reducible exact op_add_ii _ _ _ | with_reducible exact op_sub_ii _ _ _ | ((with_reducible apply o_mod); first | decide | assumption | omega) | ((with_reducible apply o_mulL); first | decide | omega) | ((with_reducible apply o_mulR); first | decide | omega) | ((with_reducible apply o_fdiv); decide) | with_reducible exact cm_lt _ _ _ | with_reducible exact cm_le _ _ _ | with_reducible exact cm_gt _ _ _ | with_reducible exact cm_ge _ _ _ | with_reducible exact cm_eq_ii _ _ _ | with_reducible exact cm_eq_ss _ _ _ | ((with_reducible apply o_atN); assumption) | with_reducible exact o_tupN | with_reducible exact o_lenN | with_reducible exact o_lenT | with_reducible exact o_lenF | ((with_reducible apply o_at); exact rfl) | with_reducible assumption | ((apply o_mod); first | decide | assumption) | apply cm_eq_ii | apply cm_eq_ss | with_reducible exact m0 _))))
    (x_seq (x_set (by (repeat' (first | with_reducible exact r_c | ((with_reducible apply r_v); exact rfl) | with_reducible apply r_bin | with_reducible apply r_cmp | with_reducible apply r_ix | with_reducible apply r_call | with_reducible exact r_nl | with_reducible apply r_cs | with_reducible apply r_bi | with_reducible apply r_me | with_reducible apply r_tup | with_reducible apply r_lst | ((with_reducible apply fits_small); exact rfl) | with_reducible apply r_neg | with_reducible apply t_call | with_reducible apply t_bi | with_reducible apply g_cmp | with_reducible exact op_add_ii _ _ _ | with_reducible exact op_sub_ii _ _ _ | ((with_reducible apply o_mod); first | decide | assumption | omega) | ((with_reducible apply o_mulL); first | decide | omega) | ((with_reducible apply o_mulR); first | decide | omega) | ((with_reducible apply o_fdiv); decide) | with_reducible exact cm_lt _ _ _ | with_reducible exact cm_le _ _ _ | with_reducible exact cm_gt _ _ _ | with_reducible exact cm_ge _ _ _ | with_reducible exact cm_eq_ii _ _ _ | with_reducible exact cm_eq_ss _ _ _ | ((with_reducible apply o_atN); assumption) | with_reducible exact o_tupN | with_reducible exact o_lenN | with_reducible exact o_lenT | with_reducible exact o_lenF | ((with_reducible apply o_at); exact rfl) | with_reducible assumption | ((apply o_mod); first | decide | assumption) | apply cm_eq_ii | apply cm_eq_ss | with_reducible exact m2 _ | with_reducible exact m1 _)))) (x_seq (x_set (r_bi (r_cs (comp _ _ _ _) r_nl) o_tupN)) (x_ret (r_tup (r_cs (by (repeat' (first | with_reducible exact r_c | ((with_reducible apply r_v); exact rfl) | with_reducible apply r_bin | with_reducible apply r_cmp | with_reducible apply r_ix | with_reducible apply r_call | with_reducible exact r_nl | with_reducible apply r_cs | with_reducible apply r_bi | with_reducible apply r_me | with_reducible apply r_tup | with_reducible apply r_lst | ((with_reducible apply fits_small); exact rfl) | with_reducible apply r_neg | with_reducible apply t_call | with_reducible apply t_bi | with_reducible apply g_cmp | with_reducible exact op_add_ii _ _ _ | with_reducible exact op_sub_ii _ _ _ | ((with_reducible apply o_mod); first | decide | assumption | omega) | ((with_reducible apply o_mulL); first | decide | omega) | ((with_reducible apply o_mulR); first | decide | omega) | ((with_reducible apply o_fdiv); decide) | with_reducible exact cm_lt _ _ _ | with_reducible exact cm_le _ _ _ | with_reducible exact cm_gt _ _ _ | with_reducible exact cm_ge _ _ _ | with_reducible exact cm_eq_ii _ _ _ | with_reducible exact cm_eq_ss _ _ _ | ((with_reducible apply o_atN); assumption) | with_reducible exact o_tupN | with_reducible exact o_lenN | with_reducible exact o_lenT | with_reducible exact o_lenF | ((with_reducible apply o_at); exact rfl) | with_reducible assumption | ((apply o_mod); first | decide | assumption) | apply cm_eq_ii | apply cm_eq_ss | with_reducible exact m7 _))) (r_cs (r_v rfl) (r_cs (r_v rfl) (r_cs (r_bi (r_cs (r_v rfl) r_nl) (o_tupL (by rw [List.append_assoc, List.append_assoc, List.append_assoc]; exact go _))) (r_cs (r_v rfl) r_nl))))) rfl)))))))) (leave_cl hcl (by rw [List.append_assoc, List.append_assoc, List.append_assoc]; exact take_app _ _))
theorem workM_wf (M : Mix P mx) (ns : List Int) (at' : Int) {streams ncrews many own : Nat} (hm : 0 < many) (hc : 0 < ncrews) : (workM mx ns at' streams ncrews many own).WF own many streams ncrews := by
  have r2 := M.rng ns (at' + 2) (show (0 : Int) < 2 by decide)
  have r5 := M.rng ns at' (show (0 : Int) < 5 by decide)
  have rl : 0 < two5 (mx ns (at' + 2) 2) ∧ two5 (mx ns (at' + 2) 2) ≤ 5 := by unfold two5; split <;> decide
  have r1 := M.rng ns (at' + 1) rl.1
  have r7 := M.rng ns (at' + 7) (show (0 : Int) < ncrews by omega)
  refine ⟨?_, ⟨?_, ?_⟩, ?_, ⟨?_, ?_⟩, fun s hs => ?_, rfl, fun v hv => ?_⟩
  · show (mx ns (at' + 7) ncrews).toNat < ncrews; omega
  · show 1 ≤ (1 + mx ns (at' + 1) (two5 (mx ns (at' + 2) 2))).toNat; omega
  · show (1 + mx ns (at' + 1) (two5 (mx ns (at' + 2) 2))).toNat ≤ 8; omega
  · show wordsL.getD (mx ns at' 5).toNat "plus" ∈ wordsL
    rw [List.getD_eq_getElem?_getD, List.getElem?_eq_getElem (show (mx ns at' 5).toNat < wordsL.length by show _ < 5; omega)]
    exact List.getElem_mem _
  · show 1 ≤ ((List.range (1 + mx ns (at' + 2) 2).toNat).map _).length
    rw [List.length_map, List.length_range]; omega
  · show ((List.range (1 + mx ns (at' + 2) 2).toNat).map _).length ≤ 3
    rw [List.length_map, List.length_range]; omega
  · obtain ⟨k, _, rfl⟩ := List.mem_map.mp hs
    exact srcM_wf M ns _ hm
  · have : ∀ k, 0 ≤ mx ns k 9973 ∧ mx ns k 9973 ≤ 9972 := fun k => by have := M.rng ns k (show (0 : Int) < 9973 by decide); omega
    have hv : v ∈ [mx ns (at' + 0) 9973, mx ns (at' + 5) 9973, mx ns (at' + 6) 9973] := hv
    simp at hv
    rcases hv with rfl | rfl | rfl <;> exact this _

noncomputable def crewM (mx : List Int → Int → Int → Int) (ns : List Int) (at' : Int) (k : Nat) : Nat × Nat := ((1 + mx ns (at' + 3 + (k : Int)) 2).toNat, (1 + mx ns (at' + 5 + (k : Int)) 5 / 2).toNat)
noncomputable def outsM (mx : List Int → Int → Int → Int) (ns : List Int) (at' : Int) (many : Nat) : List Nat := (List.range many).filter fun k => decide (0 < mx ns (at' + 7 + (k : Int)) 3)
noncomputable def loopM (mx : List Int → Int → Int → Int) (ns : List Int) (at' most : Int) : Lp where
  streams := (mx ns at' 3).toNat
  crews := (List.range (1 + mx ns (at' + 2) 2).toNat).map (crewM mx ns at')
  works := (List.range (1 + mx ns (at' + 1) most).toNat).map fun (k : Nat) => workM mx ns (at' + 7 + 9 * (k : Int)) (mx ns at' 3).toNat (1 + mx ns (at' + 2) 2).toNat (1 + mx ns (at' + 1) most).toNat k
  outs := if outsM mx ns at' (1 + mx ns (at' + 1) most).toNat = [] then [(1 + mx ns (at' + 1) most).toNat - 1] else outsM mx ns at' (1 + mx ns (at' + 1) most).toNat
theorem loop_val (M : Mix P mx) (ns : List Int) {at' most : Int} {nc many : Nat} {os : List Nat} (hq : (1 + mx ns (at' + 2) 2).toNat = nc) (hw : (1 + mx ns (at' + 1) most).toNat = many) (ho : (if outsM mx ns at' many = [] then [many - 1] else outsM mx ns at' many) = os) : (loopM mx ns at' most).toD =
    .tup [.int (mx ns at' 3), .tup ((List.range nc).map fun (k : Nat) => crewD (crewM mx ns at' k)), .tup ((List.range many).map fun (k : Nat) => (workM mx ns (at' + 7 + 9 * (k : Int)) (mx ns at' 3).toNat nc many k).toD), .tup (os.map natD)] := by
  have e0 := toNat_cast (M.rng ns at' (show (0 : Int) < 3 by decide)).1
  unfold loopM Lp.toD
  simp only [hq, hw, ho, e0, List.map_map]
  rfl
theorem loop_draw (h : HG P) (M : Mix P mx) (ns : List Int) {at' most : Int} (hat : 0 ≤ at') (hmo : 0 < most) (hmo2 : most ≤ 8) :
    callF sub P (n + 5) "_law_loop" [.fro (ns.map .int), .int at', .int most] S = .ok (loopM mx ns at' most).toD S := by
  have r1 := M.rng ns (at' + 1) hmo
  have r2 := M.rng ns (at' + 2) (show (0 : Int) < 2 by decide)
  have m (k m : Int) (hk : 0 ≤ k) (hm : 0 < m) (S : Store) : callF sub P (n + 4) "_law_mixed" [.fro (ns.map .int), .int k, .int m] S = .ok (.int (mx ns k m)) S := M.ok ns hk hm
  have m0 := m at' 3 hat (by decide)
  have m1 := m (at' + 1) most (by omega) hmo
  have m2 := m (at' + 2) 2 (by omega) (by decide)
  have e0 := toNat_cast (M.rng ns at' (show (0 : Int) < 3 by decide)).1
  generalize hq : (1 + mx ns (at' + 2) 2).toNat = nc
  generalize hw : (1 + mx ns (at' + 1) most).toNat = many
  have hq' : (1 + mx ns (at' + 2) 2) = (nc : Int) := by omega
  have hw' : (1 + mx ns (at' + 1) most) = (many : Int) := by omega
  have hcl := (loopM mx ns at' most).cl
  generalize ho : (if outsM mx ns at' many = [] then [many - 1] else outsM mx ns at' many) = os
  rw [loop_val M ns hq hw ho] at hcl ⊢
  generalize hs : (mx ns at' 3).toNat = streams at e0 hcl ⊢
  -- the crews
  obtain ⟨x, loop1⟩ := for_app (sub := sub) (cf := callF sub P (n + 4)) (i := 6) (j := 5) (l := S.length) (it := .iRng (.cs (.bin .add (.c (.int 1)) (.call "_law_mixed" (.cs (.v 0) (.cs (.bin .add (.v 1) (.c (.int 2))) (.cs (.c (.int 2)) .nl))))) .nl))
      (e := .tup (.cs (.bin .add (.c (.int 1)) (.call "_law_mixed" (.cs (.v 0) (.cs (.bin .add (.bin .add (.v 1) (.c (.int 3))) (.v 6)) (.cs (.c (.int 2)) .nl))))) (.cs (.bin .add (.c (.int 1)) (.bin .fdiv (.call "_law_mixed" (.cs (.v 0) (.cs (.bin .add (.bin .add (.v 1) (.c (.int 5))) (.v 6)) (.cs (.c (.int 5)) .nl)))) (.c (.int 2)))) .nl)))
      (σ := [some (.fro (ns.map .int)), some (.int at'), some (.int most), some (.int (mx ns at' 3)), some (.int (1 + mx ns (at' + 1) most)), some (.loc S.length), none, none, none])
      (S := S ++ [.lst []]) (S1 := S ++ [.lst []]) (xs := []) (ks := List.range nc) (f := natD) (g := fun (k : Nat) => crewD (crewM mx ns at' k)) (o := none) (raw := [])
      (g_rng1 (by (repeat' (first | with_reducible exact r_c | ((with_reducible apply r_v); exact rfl) | with_reducible apply r_bin | with_reducible apply r_cmp | with_reducible apply r_ix | with_reducible apply r_call | with_reducible exact r_nl | with_reducible apply r_cs | with_reducible apply r_bi | with_reducible apply r_me | with_reducible apply r_tup | with_reducible apply r_lst | ((with_reducible apply fits_small); exact rfl) | with_reducible apply r_neg | with_reducible apply t_call | with_reducible apply t_bi | with_reducible apply g_cmp | with_reducible exact op_add_ii _ _ _ | with_reducible exact op_sub_ii _ _ _ | ((with_reducible apply o_mod); first | decide | assumption | omega) | ((with_reducible apply o_mulL); first | decide | omega) | ((with_reducible apply o_mulR); first | decide | omega) | ((with_reducible apply o_fdiv); decide) | with_reducible exact cm_lt _ _ _ | with_reducible exact cm_le _ _ _ | with_reducible exact cm_gt _ _ _ | with_reducible exact cm_ge _ _ _ | with_reducible exact cm_eq_ii _ _ _ | with_reducible exact cm_eq_ss _ _ _ | ((with_reducible apply o_atN); assumption) | with_reducible exact o_tupN | with_reducible exact o_lenN | with_reducible exact o_lenT | with_reducible exact o_lenF | ((with_reducible apply o_at); exact rfl) | with_reducible assumption | ((apply o_mod); first | decide | assumption) | apply cm_eq_ii | apply cm_eq_ss | with_reducible exact m2 _))) hq' (by omega) natInt) rfl (get_last _ _) (by decide) (Nat.lt_of_sub_pos (by exact Nat.succ_pos 2)) (fun _ => rfl)
      (fun k _ ys => by
        have q1 := m (at' + 3 + (k : Int)) 2 (by omega) (by decide)
        have q2 := m (at' + 5 + (k : Int)) 5 (by omega) (by decide)
        have g1 := M.rng ns (at' + 3 + (k : Int)) (show (0 : Int) < 2 by decide)
        have g2 := M.rng ns (at' + 5 + (k : Int)) (show (0 : Int) < 5 by decide)
        have t1 := toNat_cast (i := 1 + mx ns (at' + 3 + (k : Int)) 2) (by omega)
        have t2 := toNat_cast (i := 1 + mx ns (at' + 5 + (k : Int)) 5 / 2) (by omega)
        rw [natInt]
        unfold crewD crewM
        rw [t1, t2]
        (repeat' (first | with_reducible exact r_c | ((with_reducible apply r_v); exact rfl) | with_reducible apply r_bin | with_reducible apply r_cmp | with_reducible apply r_ix | with_reducible apply r_call | with_reducible exact r_nl | with_reducible apply r_cs | with_reducible apply r_bi | with_reducible apply r_me | with_reducible apply r_tup | with_reducible apply r_lst | ((with_reducible apply fits_small); exact rfl) | with_reducible apply r_neg | with_reducible apply t_call | with_reducible apply t_bi | with_reducible apply g_cmp | with_reducible exact op_add_ii _ _ _ | with_reducible exact op_sub_ii _ _ _ | ((with_reducible apply o_mod); first | decide | assumption | omega) | ((with_reducible apply o_mulL); first | decide | omega) | ((with_reducible apply o_mulR); first | decide | omega) | ((with_reducible apply o_fdiv); decide) | with_reducible exact cm_lt _ _ _ | with_reducible exact cm_le _ _ _ | with_reducible exact cm_gt _ _ _ | with_reducible exact cm_ge _ _ _ | with_reducible exact cm_eq_ii _ _ _ | with_reducible exact cm_eq_ss _ _ _ | ((with_reducible apply o_atN); assumption) | with_reducible exact o_tupN | with_reducible exact o_lenN | with_reducible exact o_lenT | with_reducible exact o_lenF | ((with_reducible apply o_at); exact rfl) | with_reducible assumption | ((apply o_mod); first | decide | assumption) | apply cm_eq_ii | apply cm_eq_ss | with_reducible exact q1 _ | with_reducible exact q2 _))) (by unfold sizeMax; rw [List.length_range, List.length_nil]; omega)
  rw [set_app0, List.nil_append] at loop1
  -- the works
  generalize hcr : ((List.range nc).map fun (k : Nat) => crewD (crewM mx ns at' k)) = cr at loop1 hcl ⊢
  have hcrl : cr.length = nc := by rw [← hcr, List.length_map, List.length_range]
  obtain ⟨y, loop2⟩ := for_app (sub := sub) (cf := callF sub P (n + 4)) (i := 6) (j := 7) (l := (S ++ [Cell.lst cr]).length) (it := .iRng (.cs (.v 4) .nl))
      (e := .call "_law_work" (.cs (.v 0) (.cs (.bin .add (.bin .add (.v 1) (.c (.int 7))) (.bin .mul (.c (.int 9)) (.v 6))) (.cs (.tup (.cs (.v 3) (.cs (.bi .len (.cs (.v 5) .nl)) (.cs (.v 4) .nl)))) (.cs (.v 6) .nl)))))
      (σ := [some (.fro (ns.map .int)), some (.int at'), some (.int most), some (.int (mx ns at' 3)), some (.int (1 + mx ns (at' + 1) most)), some (.loc S.length), x, some (.loc (S ++ [Cell.lst cr]).length), none])
      (S := (S ++ [.lst cr]) ++ [.lst []]) (S1 := (S ++ [.lst cr]) ++ [.lst []]) (xs := []) (ks := List.range many) (f := natD)
      (g := fun (k : Nat) => (workM mx ns (at' + 7 + 9 * (k : Int)) streams nc many k).toD) (o := none) (raw := [])
      (g_rng1 (by (repeat' (first | with_reducible exact r_c | ((with_reducible apply r_v); exact rfl) | with_reducible apply r_bin | with_reducible apply r_cmp | with_reducible apply r_ix | with_reducible apply r_call | with_reducible exact r_nl | with_reducible apply r_cs | with_reducible apply r_bi | with_reducible apply r_me | with_reducible apply r_tup | with_reducible apply r_lst | ((with_reducible apply fits_small); exact rfl) | with_reducible apply r_neg | with_reducible apply t_call | with_reducible apply t_bi | with_reducible apply g_cmp | with_reducible exact op_add_ii _ _ _ | with_reducible exact op_sub_ii _ _ _ | ((with_reducible apply o_mod); first | decide | assumption | omega) | ((with_reducible apply o_mulL); first | decide | omega) | ((with_reducible apply o_mulR); first | decide | omega) | ((with_reducible apply o_fdiv); decide) | with_reducible exact cm_lt _ _ _ | with_reducible exact cm_le _ _ _ | with_reducible exact cm_gt _ _ _ | with_reducible exact cm_ge _ _ _ | with_reducible exact cm_eq_ii _ _ _ | with_reducible exact cm_eq_ss _ _ _ | ((with_reducible apply o_atN); assumption) | with_reducible exact o_tupN | with_reducible exact o_lenN | with_reducible exact o_lenT | with_reducible exact o_lenF | ((with_reducible apply o_at); exact rfl) | with_reducible assumption | ((apply o_mod); first | decide | assumption) | apply cm_eq_ii | apply cm_eq_ss))) hw' (by omega) natInt) rfl (get_last _ _) (by decide) (Nat.lt_of_sub_pos (by exact Nat.succ_pos 2)) (fun _ => rfl)
      (fun k _ ys => by
        rw [set_app0, natInt]
        have hd := work_draw (sub := sub) (n := n) (S := (S ++ [.lst cr]) ++ [.lst ys]) h M ns (at' := at' + 7 + 9 * (k : Int)) (streams := streams) (ncrews := nc) (many := many) (own := k) (by omega) (by omega) (by omega)
        rw [e0, ← hw'] at hd
        have hl : biD sub .len [.loc S.length] ((S ++ [.lst cr]) ++ [.lst ys]) = .ok (.int (nc : Int)) ((S ++ [.lst cr]) ++ [.lst ys]) := by
          rw [← hcrl]; exact o_lenL (by rw [List.append_assoc]; exact get_app0 _ _ _)
        (repeat' (first | with_reducible exact r_c | ((with_reducible apply r_v); exact rfl) | with_reducible apply r_bin | with_reducible apply r_cmp | with_reducible apply r_ix | with_reducible apply r_call | with_reducible exact r_nl | with_reducible apply r_cs | with_reducible apply r_bi | with_reducible apply r_me | with_reducible apply r_tup | with_reducible apply r_lst | ((with_reducible apply fits_small); exact rfl) | with_reducible apply r_neg | with_reducible apply t_call | with_reducible apply t_bi | with_reducible apply g_cmp | with_reducible exact op_add_ii _ _ _ | with_reducible exact op_sub_ii _ _ _ | ((with_reducible apply o_mod); first | decide | assumption | omega) | ((with_reducible apply o_mulL); first | decide | omega) | ((with_reducible apply o_mulR); first | decide | omega) | ((with_reducible apply o_fdiv); decide) | with_reducible exact cm_lt _ _ _ | with_reducible exact cm_le _ _ _ | with_reducible exact cm_gt _ _ _ | with_reducible exact cm_ge _ _ _ | with_reducible exact cm_eq_ii _ _ _ | with_reducible exact cm_eq_ss _ _ _ | ((with_reducible apply o_atN); assumption) | with_reducible exact o_tupN | with_reducible exact o_lenN | with_reducible exact o_lenT | with_reducible exact o_lenF | ((with_reducible apply o_at); exact rfl) | with_reducible assumption | ((apply o_mod); first | decide | assumption) | apply cm_eq_ii | apply cm_eq_ss))) (by unfold sizeMax; rw [List.length_range, List.length_nil]; omega)
  rw [set_app0, List.nil_append] at loop2
  generalize hwk : ((List.range many).map fun (k : Nat) => (workM mx ns (at' + 7 + 9 * (k : Int)) streams nc many k).toD) = wk at loop2 hcl ⊢
  generalize hT : (S ++ [Cell.lst cr]) ++ [Cell.lst wk] = T at loop2
  have gc : ∀ U : Store, (T ++ U)[S.length]? = some (.lst cr) := fun U => by rw [← hT, List.append_assoc, List.append_assoc]; exact get_app0 _ _ _
  have gw : ∀ U : Store, (T ++ U)[(S ++ [Cell.lst cr]).length]? = some (.lst wk) := fun U => by rw [← hT, List.append_assoc]; exact get_app0 _ _ _
  have tk : ∀ U : Store, (T ++ U).take S.length = S := fun U => by rw [← hT, List.append_assoc, List.append_assoc]; exact take_app _ _
  -- the outs
  have comp := comp_filter (sub := sub) (cf := callF sub P (n + 4)) (k := 2) (i := 10) (el := .v 10) (it := .iRng (.cs (.v 4) .nl)) (tt := .cmp .gt (.call "_law_mixed" (.cs (.v 0) (.cs (.bin .add (.bin .add (.v 1) (.c (.int 7))) (.v 10)) (.cs (.c (.int 3)) .nl)))) (.c (.int 0)))
      (σ := [some (.fro (ns.map .int)), some (.int at'), some (.int most), some (.int (mx ns at' 3)), some (.int (1 + mx ns (at' + 1) most)), some (.loc S.length), y, some (.loc (S ++ [Cell.lst cr]).length), none]) (S := T) (S1 := T) (s := ⟨(List.range many).map natD, none, []⟩) (g := id) (p := fun d => match d with | .int k => decide (0 < mx ns (at' + 7 + k) 3) | _ => false) rfl
      (g_rng1 (by (repeat' (first | with_reducible exact r_c | ((with_reducible apply r_v); exact rfl) | with_reducible apply r_bin | with_reducible apply r_cmp | with_reducible apply r_ix | with_reducible apply r_call | with_reducible exact r_nl | with_reducible apply r_cs | with_reducible apply r_bi | with_reducible apply r_me | with_reducible apply r_tup | with_reducible apply r_lst | ((with_reducible apply fits_small); exact rfl) | with_reducible apply r_neg | with_reducible apply t_call | with_reducible apply t_bi | with_reducible apply g_cmp | with_reducible exact op_add_ii _ _ _ | with_reducible exact op_sub_ii _ _ _ | ((with_reducible apply o_mod); first | decide | assumption | omega) | ((with_reducible apply o_mulL); first | decide | omega) | ((with_reducible apply o_mulR); first | decide | omega) | ((with_reducible apply o_fdiv); decide) | with_reducible exact cm_lt _ _ _ | with_reducible exact cm_le _ _ _ | with_reducible exact cm_gt _ _ _ | with_reducible exact cm_ge _ _ _ | with_reducible exact cm_eq_ii _ _ _ | with_reducible exact cm_eq_ss _ _ _ | ((with_reducible apply o_atN); assumption) | with_reducible exact o_tupN | with_reducible exact o_lenN | with_reducible exact o_lenT | with_reducible exact o_lenF | ((with_reducible apply o_at); exact rfl) | with_reducible assumption | ((apply o_mod); first | decide | assumption) | apply cm_eq_ii | apply cm_eq_ss))) hw' (by omega) natInt) rfl
      (fun d hd => by
        obtain ⟨k, _, rfl⟩ := List.mem_map.mp hd
        have := m (at' + 7 + (k : Int)) 3 (by omega) (by decide) T
        rw [natInt]
        (repeat' (first | with_reducible exact r_c | ((with_reducible apply r_v); exact rfl) | with_reducible apply r_bin | with_reducible apply r_cmp | with_reducible apply r_ix | with_reducible apply r_call | with_reducible exact r_nl | with_reducible apply r_cs | with_reducible apply r_bi | with_reducible apply r_me | with_reducible apply r_tup | with_reducible apply r_lst | ((with_reducible apply fits_small); exact rfl) | with_reducible apply r_neg | with_reducible apply t_call | with_reducible apply t_bi | with_reducible apply g_cmp | with_reducible exact op_add_ii _ _ _ | with_reducible exact op_sub_ii _ _ _ | ((with_reducible apply o_mod); first | decide | assumption | omega) | ((with_reducible apply o_mulL); first | decide | omega) | ((with_reducible apply o_mulR); first | decide | omega) | ((with_reducible apply o_fdiv); decide) | with_reducible exact cm_lt _ _ _ | with_reducible exact cm_le _ _ _ | with_reducible exact cm_gt _ _ _ | with_reducible exact cm_ge _ _ _ | with_reducible exact cm_eq_ii _ _ _ | with_reducible exact cm_eq_ss _ _ _ | ((with_reducible apply o_atN); assumption) | with_reducible exact o_tupN | with_reducible exact o_lenN | with_reducible exact o_lenT | with_reducible exact o_lenF | ((with_reducible apply o_at); exact rfl) | with_reducible assumption | ((apply o_mod); first | decide | assumption) | apply cm_eq_ii | apply cm_eq_ss)))
      (fun d hd _ => r_v rfl) (by unfold sizeMax; rw [List.length_map, List.length_range]; omega)
  rw [List.map_id, List.filter_map, show List.filter ((fun d => match d with | .int k => decide (0 < mx ns (at' + 7 + k) 3) | _ => false) ∘ natD) (List.range many) = outsM mx ns at' many from rfl] at comp
  refine x_fin h.loop rfl (x_seq (x_set (by (repeat' (first | with_reducible exact r_c | ((with_reducible apply r_v); exact rfl) | with_reducible apply r_bin | with_reducible apply r_cmp | with_reducible apply r_ix | with_reducible apply r_call | with_reducible exact r_nl | with_reducible apply r_cs | with_reducible apply r_bi | with_reducible apply r_me | with_reducible apply r_tup | with_reducible apply r_lst | ((with_reducible apply fits_small); exact rfl) | with_reducible apply r_neg | with_reducible apply t_call | with_reducible apply t_bi | with_reducible apply g_cmp | with_reducible exact op_add_ii _ _ _ | with_reducible exact op_sub_ii _ _ _ | ((with_reducible apply o_mod); first | decide | assumption | omega) | ((with_reducible apply o_mulL); first | decide | omega) | ((with_reducible apply o_mulR); first | decide | omega) | ((with_reducible apply o_fdiv); decide) | with_reducible exact cm_lt _ _ _ | with_reducible exact cm_le _ _ _ | with_reducible exact cm_gt _ _ _ | with_reducible exact cm_ge _ _ _ | with_reducible exact cm_eq_ii _ _ _ | with_reducible exact cm_eq_ss _ _ _ | ((with_reducible apply o_atN); assumption) | with_reducible exact o_tupN | with_reducible exact o_lenN | with_reducible exact o_lenT | with_reducible exact o_lenF | ((with_reducible apply o_at); exact rfl) | with_reducible assumption | ((apply o_mod); first | decide | assumption) | apply cm_eq_ii | apply cm_eq_ss | with_reducible exact m0 _)))) (x_seq (x_set (by (repeat' (first | with_reducible exact r_c | ((with_reducible apply r_v); exact rfl) | with_reducible apply r_bin | with_reducible apply r_cmp | with_reducible apply r_ix | with_reducible apply r_call | with_reducible exact r_nl | with_reducible apply r_cs | with_reducible apply r_bi | with_reducible apply r_me | with_reducible apply r_tup | with_reducible apply r_lst | ((with_reducible apply fits_small); exact rfl) | with_reducible apply r_neg | with_reducible apply t_call | with_reducible apply t_bi | with_reducible apply g_cmp | with_reducible exact op_add_ii _ _ _ | with_reducible exact op_sub_ii _ _ _ | ((with_reducible apply o_mod); first | decide | assumption | omega) | ((with_reducible apply o_mulL); first | decide | omega) | ((with_reducible apply o_mulR); first | decide | omega) | ((with_reducible apply o_fdiv); decide) | with_reducible exact cm_lt _ _ _ | with_reducible exact cm_le _ _ _ | with_reducible exact cm_gt _ _ _ | with_reducible exact cm_ge _ _ _ | with_reducible exact cm_eq_ii _ _ _ | with_reducible exact cm_eq_ss _ _ _ | ((with_reducible apply o_atN); assumption) | with_reducible exact o_tupN | with_reducible exact o_lenN | with_reducible exact o_lenT | with_reducible exact o_lenF | ((with_reducible apply o_at); exact rfl) | with_reducible assumption | ((apply o_mod); first | decide | assumption) | apply cm_eq_ii | apply cm_eq_ss | with_reducible exact m1 _)))) (x_seq (x_set (r_lst r_nl rfl)) (x_seq loop1 (x_seq (x_set (r_lst r_nl rfl)) (x_seq loop2 (x_seq (x_set comp) rfl))))))) ?_ hcl
  cases hu : outsM mx ns at' many with
  | nil =>
    rw [hu, if_pos rfl] at ho
    subst ho
    have t3 : ((many - 1 : Nat) : Int) = 1 + mx ns (at' + 1) most - 1 := by omega
    have hE : cmD .eq (.loc T.length) (.loc (T ++ [Cell.lst []]).length) ((T ++ [.lst []]) ++ [.lst []]) = .ok (.bl true) ((T ++ [.lst []]) ++ [.lst []]) := cm_eq_empty (xs := []) (by rw [List.append_assoc]; exact get_app0 _ _ _) (get_last _ _)
    refine ⟨_, x_seq (x_iteT (g_cmp (r_cmp (r_v rfl) (r_lst r_nl rfl) hE)) (x_set (by (repeat' (first | with_reducible exact r_c | ((with_reducible apply r_v); exact rfl) | with_reducible apply r_bin | with_reducible apply r_cmp | with_reducible apply r_ix | with_reducible apply r_call | with_reducible exact r_nl | with_reducible apply r_cs | with_reducible apply r_bi | with_reducible apply r_me | with_reducible apply r_tup | with_reducible apply r_lst | ((with_reducible apply fits_small); exact rfl) | with_reducible apply r_neg | with_reducible apply t_call | with_reducible apply t_bi | with_reducible apply g_cmp | with_reducible exact op_add_ii _ _ _ | with_reducible exact op_sub_ii _ _ _ | ((with_reducible apply o_mod); first | decide | assumption | omega) | ((with_reducible apply o_mulL); first | decide | omega) | ((with_reducible apply o_mulR); first | decide | omega) | ((with_reducible apply o_fdiv); decide) | with_reducible exact cm_lt _ _ _ | with_reducible exact cm_le _ _ _ | with_reducible exact cm_gt _ _ _ | with_reducible exact cm_ge _ _ _ | with_reducible exact cm_eq_ii _ _ _ | with_reducible exact cm_eq_ss _ _ _ | ((with_reducible apply o_atN); assumption) | with_reducible exact o_tupN | with_reducible exact o_lenN | with_reducible exact o_lenT | with_reducible exact o_lenF | ((with_reducible apply o_at); exact rfl) | with_reducible assumption | ((apply o_mod); first | decide | assumption) | apply cm_eq_ii | apply cm_eq_ss))))) (x_ret (r_tup (r_cs (r_v rfl) (r_cs (r_bi (r_cs (r_v rfl) r_nl) (o_tupL ?_)) (r_cs (r_bi (r_cs (r_v rfl) r_nl) (o_tupL ?_)) (r_cs (r_bi (r_cs (r_v rfl) r_nl) (o_tupL ?_)) r_nl)))) rfl)), ?_⟩
    · rw [List.append_assoc, List.append_assoc]; exact gc _
    · rw [List.append_assoc, List.append_assoc]; exact gw _
    · rw [List.map_cons, natInt, t3]; exact get_last _ _
    · rw [List.append_assoc, List.append_assoc]; exact tk _
  | cons a r =>
    rw [hu, if_neg (by intro z; cases z)] at ho
    subst ho
    have hE : cmD .eq (.loc T.length) (.loc (T ++ [Cell.lst ((a :: r).map natD)]).length) ((T ++ [.lst ((a :: r).map natD)]) ++ [.lst []]) = .ok (.bl false) ((T ++ [.lst ((a :: r).map natD)]) ++ [.lst []]) := cm_eq_empty (xs := (a :: r).map natD) (by rw [List.append_assoc]; exact get_app0 _ _ _) (get_last _ _)
    refine ⟨_, x_seq (x_iteF (g_cmp (r_cmp (r_v rfl) (r_lst r_nl rfl) hE)) x_skip) (x_ret (r_tup (r_cs (r_v rfl) (r_cs (r_bi (r_cs (r_v rfl) r_nl) (o_tupL ?_)) (r_cs (r_bi (r_cs (r_v rfl) r_nl) (o_tupL ?_)) (r_cs (r_bi (r_cs (r_v rfl) r_nl) (o_tupL ?_)) r_nl)))) rfl)), ?_⟩
    · rw [List.append_assoc]; exact gc _
    · rw [List.append_assoc]; exact gw _
    · rw [List.append_assoc]; exact get_app0 _ _ _
    · rw [List.append_assoc]; exact tk _
theorem rising_filter (p : Nat → Bool) (many : Nat) : ∀ (k c : Nat), k + c ≤ many → Rising many k ((List.range' k c).filter p)
  | k, 0, _ => trivial
  | k, c + 1, h => by
    rw [List.range'_succ, List.filter_cons]
    have := rising_filter p many (k + 1) c (by omega)
    split
    · exact ⟨Nat.le_refl _, by omega, this⟩
    · have low : ∀ (l : List Nat) (a b : Nat), a ≤ b → Rising many b l → Rising many a l := by
        intro l
        cases l with
        | nil => intros; trivial
        | cons x r => intro a b hab ⟨h1, h2, h3⟩; exact ⟨by omega, h2, h3⟩
      exact low _ _ _ (Nat.le_succ _) this
theorem loopM_wf (M : Mix P mx) (ns : List Int) {at' most : Int} (hmo : 0 < most) (hmo2 : most ≤ 8) : (loopM mx ns at' most).WF := by
  have r0 := M.rng ns at' (show (0 : Int) < 3 by decide)
  have r1 := M.rng ns (at' + 1) hmo
  have r2 := M.rng ns (at' + 2) (show (0 : Int) < 2 by decide)
  have hw : (loopM mx ns at' most).works.length = (1 + mx ns (at' + 1) most).toNat := by simp [loopM]
  have hc : (loopM mx ns at' most).crews.length = (1 + mx ns (at' + 2) 2).toNat := by simp [loopM]
  refine ⟨?_, ?_, fun c hcm => ?_, ?_, fun i w hi => ?_, ?_, ?_⟩
  · show (mx ns at' 3).toNat ≤ 6; omega
  · rw [hc]; omega
  · obtain ⟨k, _, rfl⟩ := List.mem_map.mp hcm
    have q1 := M.rng ns (at' + 3 + (k : Int)) (show (0 : Int) < 2 by decide)
    have q2 := M.rng ns (at' + 5 + (k : Int)) (show (0 : Int) < 5 by decide)
    simp only [crewM]
    omega
  · rw [hw]; omega
  · rw [hw, hc]
    have hi' : i < (1 + mx ns (at' + 1) most).toNat := by rw [← hw]; exact (List.getElem?_eq_some_iff.mp hi).1
    have hi : ((List.range (1 + mx ns (at' + 1) most).toNat).map fun (k : Nat) => workM mx ns (at' + 7 + 9 * (k : Int)) (mx ns at' 3).toNat (1 + mx ns (at' + 2) 2).toNat (1 + mx ns (at' + 1) most).toNat k)[i]? = some w := hi
    rw [List.getElem?_map, List.getElem?_range hi'] at hi
    cases hi
    exact workM_wf M ns _ (by omega) (by omega)
  · show 1 ≤ (if outsM mx ns at' (1 + mx ns (at' + 1) most).toNat = [] then [(1 + mx ns (at' + 1) most).toNat - 1] else outsM mx ns at' (1 + mx ns (at' + 1) most).toNat).length
    split
    · simp
    · rename_i h; exact List.length_pos_iff.mpr h
  · rw [hw]
    show Rising _ 0 (if outsM mx ns at' (1 + mx ns (at' + 1) most).toNat = [] then [(1 + mx ns (at' + 1) most).toNat - 1] else outsM mx ns at' (1 + mx ns (at' + 1) most).toNat)
    split
    · exact ⟨Nat.zero_le _, by omega, trivial⟩
    · unfold outsM
      rw [List.range_eq_range']
      exact rising_filter _ _ 0 _ (by omega)

/-! ### inputs -/
noncomputable def rowD (r : List Int) : D := .tup (r.map .int)
structure InpWF (streams : Nat) (rows : List (List Int)) : Prop where
  len : ∀ r ∈ rows, r.length = streams
  val : ∀ r ∈ rows, ∀ v ∈ r, 0 ≤ v ∧ v ≤ 9972
noncomputable def drawM (seed : Int) (k j : Nat) : Int := (seed + 104729 * (k : Int) * (k : Int) + 7919 * (k : Int) + 31 * (j : Int)) * 48271 % 2147483647
noncomputable def pickM (d : Int) : Int := if d % 2 = 0 then d / 7 % 9973 else d / 7 % 4
noncomputable def inRow (seed : Int) (streams k : Nat) : List Int := (List.range streams).map fun j => pickM (drawM seed k j)
theorem range_snoc (n : Nat) : List.range (n + 1) = List.range n ++ [n] := List.range_succ
theorem pick_d (d : Int) : atI [D.int (d / 7 % 9973), D.int (d / 7 % 4)] (d % 2) = some (.int (pickM d)) := by
  unfold pickM
  rcases Int.emod_two_eq d with e | e <;> rw [e] <;> rfl
theorem inputs_draw (h : HG P) (hi : Has P "_law_inputs" f__law_inputs) (M : Mix P mx) (ns : List Int) {at' : Int} {streams most : Nat} (hat : 0 ≤ at') (hmo : most ≤ 100) (hst : streams ≤ 100) :
    ∃ rows, rows.length ≤ most ∧ InpWF streams rows ∧ callF sub P (n + 3) "_law_inputs" [.fro (ns.map .int), .int at', .int streams, .int most] S = .ok (.loc S.length) (S ++ [.lst (rows.map rowD)]) := by
  have r1 := M.rng ns (at' + 1) (show (0 : Int) < (most : Int) + 1 by omega)
  have m0 : ∀ S, callF sub P (n + 2) "_law_mixed" [.fro (ns.map .int), .int at', .int 1000000000] S = .ok (.int (mx ns at' 1000000000)) S := fun S => M.ok ns hat (by decide)
  have m1 : ∀ S, callF sub P (n + 2) "_law_mixed" [.fro (ns.map .int), .int (at' + 1), .int ((most : Int) + 1)] S = .ok (.int (mx ns (at' + 1) ((most : Int) + 1))) S := fun S => M.ok ns (by omega) (by omega)
  generalize hq : (mx ns (at' + 1) ((most : Int) + 1)).toNat = q
  have hq' : mx ns (at' + 1) ((most : Int) + 1) = (q : Int) := by omega
  generalize mx ns at' 1000000000 = seed at m0
  refine ⟨(List.range q).map (inRow seed streams), by simp; omega, ⟨fun r hr => ?_, fun r hr v hv => ?_⟩, ?_⟩
  · obtain ⟨k, _, rfl⟩ := List.mem_map.mp hr
    simp [inRow]
  · obtain ⟨k, _, rfl⟩ := List.mem_map.mp hr
    obtain ⟨j, _, rfl⟩ := List.mem_map.mp hv
    unfold pickM
    split <;> omega
  · have inner : ∀ (k : Nat) (hk : k < 1000) (d5 : D) (y z : Option D) (S2 : Store), ∃ y' z' G', exec sub (callF sub P (n + 2)) (.forS (.one 8) (.iRng (.cs (.v 2) .nl)) (.seq (.set (.one 9) (.bin .mod (.bin .mul (.bin .add (.bin .add (.bin .add (.v 4) (.bin .mul (.bin .mul (.c (.int 104729)) (.v 6)) (.v 6))) (.bin .mul (.c (.int 7919)) (.v 6))) (.bin .mul (.c (.int 31)) (.v 8))) (.c (.int 48271))) (.c (.int 2147483647))))
          (.ex (.me .append (.v 7) (.cs (.ix (.lst (.cs (.bin .mod (.bin .fdiv (.v 9) (.c (.int 7))) (.c (.int 9973))) (.cs (.bin .mod (.bin .fdiv (.v 9) (.c (.int 7))) (.c (.int 4))) .nl))) (.bin .mod (.v 9) (.c (.int 2)))) .nl)))))
        [some (.fro (ns.map .int)), some (.int at'), some (.int streams), some (.int most), some (.int seed), some d5, some (.int k), some (.loc S2.length), y, z] (S2 ++ [.lst []]) =
        .ok (.nx [some (.fro (ns.map .int)), some (.int at'), some (.int streams), some (.int most), some (.int seed), some d5, some (.int k), some (.loc S2.length), y', z']) (S2 ++ .lst ((inRow seed streams k).map .int) :: G') := by
      intro k hk d5 y z S2
      obtain ⟨σ', T', e, y', z', G', hσ, hT⟩ := for_inv (sub := sub) (cf := callF sub P (n + 2)) (t := .one 8) (it := .iRng (.cs (.v 2) .nl)) (b := .seq (.set (.one 9) (.bin .mod (.bin .mul (.bin .add (.bin .add (.bin .add (.v 4) (.bin .mul (.bin .mul (.c (.int 104729)) (.v 6)) (.v 6))) (.bin .mul (.c (.int 7919)) (.v 6))) (.bin .mul (.c (.int 31)) (.v 8))) (.c (.int 48271))) (.c (.int 2147483647))))
          (.ex (.me .append (.v 7) (.cs (.ix (.lst (.cs (.bin .mod (.bin .fdiv (.v 9) (.c (.int 7))) (.c (.int 9973))) (.cs (.bin .mod (.bin .fdiv (.v 9) (.c (.int 7))) (.c (.int 4))) .nl))) (.bin .mod (.v 9) (.c (.int 2)))) .nl))))
        (σ := [some (.fro (ns.map .int)), some (.int at'), some (.int streams), some (.int most), some (.int seed), some d5, some (.int k), some (.loc S2.length), y, z]) (S := S2 ++ [.lst []]) (S1 := S2 ++ [.lst []]) (s := ⟨(List.range streams).map natD, none, []⟩)
        (fun i σ T => ∃ y' z' G', σ = [some (.fro (ns.map .int)), some (.int at'), some (.int streams), some (.int most), some (.int seed), some d5, some (.int k), some (.loc S2.length), y', z'] ∧ T = S2 ++ .lst ((List.range i).map fun (j : Nat) => .int (pickM (drawM seed k j))) :: G')
        (g_rng1 (by (repeat' (first | with_reducible exact r_c | ((with_reducible apply r_v); exact rfl) | with_reducible apply r_bin | with_reducible apply r_cmp | with_reducible apply r_ix | with_reducible apply r_call | with_reducible exact r_nl | with_reducible apply r_cs | with_reducible apply r_bi | with_reducible apply r_me | with_reducible apply r_tup | with_reducible apply r_lst | ((with_reducible apply fits_small); exact rfl) | with_reducible apply r_neg | with_reducible apply t_call | with_reducible apply t_bi | with_reducible apply g_cmp | with_reducible exact op_add_ii _ _ _ | with_reducible exact op_sub_ii _ _ _ | ((with_reducible apply o_mod); first | decide | assumption | omega) | ((with_reducible apply o_mulL); first | decide | omega) | ((with_reducible apply o_mulR); first | decide | omega) | ((with_reducible apply o_fdiv); decide) | with_reducible exact cm_lt _ _ _ | with_reducible exact cm_le _ _ _ | with_reducible exact cm_gt _ _ _ | with_reducible exact cm_ge _ _ _ | with_reducible exact cm_eq_ii _ _ _ | with_reducible exact cm_eq_ss _ _ _ | ((with_reducible apply o_atN); assumption) | with_reducible exact o_tupN | with_reducible exact o_lenN | with_reducible exact o_lenT | with_reducible exact o_lenF | ((with_reducible apply o_at); exact rfl) | with_reducible assumption | ((apply o_mod); first | decide | assumption) | apply cm_eq_ii | apply cm_eq_ss))) rfl (by omega) natInt) ⟨y, z, [], rfl, rfl⟩ (fun _ _ _ _ => rfl) (fun i hi σ T ⟨y', z', G', hσ, hT⟩ => by
          subst hσ; subst hT
          have hi' : i < streams := by simpa using hi
          rw [body_one, List.getElem_map, List.getElem_range, natInt]
          refine ⟨_, _, ?_, some (.int i), some (.int (drawM seed k i)), G' ++ [.lst [.int (drawM seed k i / 7 % 9973), .int (drawM seed k i / 7 % 4)]], rfl, rfl⟩
          have hap : ∀ c : Cell, meD .append (.loc S2.length) [.int (pickM (drawM seed k i))] ((S2 ++ .lst ((List.range i).map fun (j : Nat) => .int (pickM (drawM seed k j))) :: G') ++ [c]) = .ok .non (S2 ++ .lst ((List.range (i + 1)).map fun (j : Nat) => .int (pickM (drawM seed k j))) :: (G' ++ [c])) := fun c => by
            rw [List.append_assoc, List.cons_append, me_app0 (by rw [List.length_map, List.length_range]; omega), range_snoc, List.map_append]; rfl
          have hat := pick_d (drawM seed k i)
          exact x_seq (x_set (d := .int (drawM seed k i)) (by (repeat' (first | with_reducible exact r_c | ((with_reducible apply r_v); exact rfl) | with_reducible apply r_bin | with_reducible apply r_cmp | with_reducible apply r_ix | with_reducible apply r_call | with_reducible exact r_nl | with_reducible apply r_cs | with_reducible apply r_bi | with_reducible apply r_me | with_reducible apply r_tup | with_reducible apply r_lst | ((with_reducible apply fits_small); exact rfl) | with_reducible apply r_neg | with_reducible apply t_call | with_reducible apply t_bi | with_reducible apply g_cmp | with_reducible exact op_add_ii _ _ _ | with_reducible exact op_sub_ii _ _ _ | ((with_reducible apply o_mod); first | decide | assumption | omega) | ((with_reducible apply o_mulL); first | decide | omega) | ((with_reducible apply o_mulR); first | decide | omega) | ((with_reducible apply o_fdiv); decide) | with_reducible exact cm_lt _ _ _ | with_reducible exact cm_le _ _ _ | with_reducible exact cm_gt _ _ _ | with_reducible exact cm_ge _ _ _ | with_reducible exact cm_eq_ii _ _ _ | with_reducible exact cm_eq_ss _ _ _ | ((with_reducible apply o_atN); assumption) | with_reducible exact o_tupN | with_reducible exact o_lenN | with_reducible exact o_lenT | with_reducible exact o_lenF | ((with_reducible apply o_at); exact rfl) | with_reducible assumption | ((apply o_mod); first | decide | assumption) | apply cm_eq_ii | apply cm_eq_ss)))) (x_ex (r_me (r_v rfl) (by (repeat' (first | with_reducible exact r_c | ((with_reducible apply r_v); exact rfl) | with_reducible apply r_bin | with_reducible apply r_cmp | with_reducible apply r_ix | with_reducible apply r_call | with_reducible exact r_nl | with_reducible apply r_cs | with_reducible apply r_bi | with_reducible apply r_me | with_reducible apply r_tup | with_reducible apply r_lst | ((with_reducible apply fits_small); exact rfl) | with_reducible apply r_neg | with_reducible apply t_call | with_reducible apply t_bi | with_reducible apply g_cmp | with_reducible exact op_add_ii _ _ _ | with_reducible exact op_sub_ii _ _ _ | ((with_reducible apply o_mod); first | decide | assumption | omega) | ((with_reducible apply o_mulL); first | decide | omega) | ((with_reducible apply o_mulR); first | decide | omega) | ((with_reducible apply o_fdiv); decide) | with_reducible exact cm_lt _ _ _ | with_reducible exact cm_le _ _ _ | with_reducible exact cm_gt _ _ _ | with_reducible exact cm_ge _ _ _ | with_reducible exact cm_eq_ii _ _ _ | with_reducible exact cm_eq_ss _ _ _ | ((with_reducible apply o_atN); assumption) | with_reducible exact o_tupN | with_reducible exact o_lenN | with_reducible exact o_lenT | with_reducible exact o_lenF | ((with_reducible apply o_at); exact rfl) | with_reducible assumption | ((apply o_mod); first | decide | assumption) | apply cm_eq_ii | apply cm_eq_ss))) (hap _))))
      subst hσ; subst hT
      refine ⟨y', z', G', ?_⟩
      rw [e]
      simp [inRow]
    obtain ⟨σ', T', e, a, b, c, d, G, hσ, hT⟩ := for_inv (sub := sub) (cf := callF sub P (n + 2)) (t := .one 6) (it := .iRng (.cs (.call "_law_mixed" (.cs (.v 0) (.cs (.bin .add (.v 1) (.c (.int 1))) (.cs (.bin .add (.v 3) (.c (.int 1))) .nl)))) .nl)) (b := .seq (.set (.one 7) (.lst .nl)) (.seq (.forS (.one 8) (.iRng (.cs (.v 2) .nl))
          (.seq (.set (.one 9) (.bin .mod (.bin .mul (.bin .add (.bin .add (.bin .add (.v 4) (.bin .mul (.bin .mul (.c (.int 104729)) (.v 6)) (.v 6))) (.bin .mul (.c (.int 7919)) (.v 6))) (.bin .mul (.c (.int 31)) (.v 8))) (.c (.int 48271))) (.c (.int 2147483647))))
          (.ex (.me .append (.v 7) (.cs (.ix (.lst (.cs (.bin .mod (.bin .fdiv (.v 9) (.c (.int 7))) (.c (.int 9973))) (.cs (.bin .mod (.bin .fdiv (.v 9) (.c (.int 7))) (.c (.int 4))) .nl))) (.bin .mod (.v 9) (.c (.int 2)))) .nl)))))
          (.ex (.me .append (.v 5) (.cs (.bi .tuple (.cs (.v 7) .nl)) .nl)))))
        (σ := [some (.fro (ns.map .int)), some (.int at'), some (.int streams), some (.int most), some (.int seed), some (.loc S.length), none, none, none, none]) (S := S ++ [.lst []]) (S1 := S ++ [.lst []]) (s := ⟨(List.range q).map natD, none, []⟩)
        (fun i σ T => ∃ a b c d G, σ = [some (.fro (ns.map .int)), some (.int at'), some (.int streams), some (.int most), some (.int seed), some (.loc S.length), a, b, c, d] ∧ T = S ++ .lst ((List.range i).map fun (j : Nat) => rowD (inRow seed streams j)) :: G)
        (g_rng1 (by (repeat' (first | with_reducible exact r_c | ((with_reducible apply r_v); exact rfl) | with_reducible apply r_bin | with_reducible apply r_cmp | with_reducible apply r_ix | with_reducible apply r_call | with_reducible exact r_nl | with_reducible apply r_cs | with_reducible apply r_bi | with_reducible apply r_me | with_reducible apply r_tup | with_reducible apply r_lst | ((with_reducible apply fits_small); exact rfl) | with_reducible apply r_neg | with_reducible apply t_call | with_reducible apply t_bi | with_reducible apply g_cmp | with_reducible exact op_add_ii _ _ _ | with_reducible exact op_sub_ii _ _ _ | ((with_reducible apply o_mod); first | decide | assumption | omega) | ((with_reducible apply o_mulL); first | decide | omega) | ((with_reducible apply o_mulR); first | decide | omega) | ((with_reducible apply o_fdiv); decide) | with_reducible exact cm_lt _ _ _ | with_reducible exact cm_le _ _ _ | with_reducible exact cm_gt _ _ _ | with_reducible exact cm_ge _ _ _ | with_reducible exact cm_eq_ii _ _ _ | with_reducible exact cm_eq_ss _ _ _ | ((with_reducible apply o_atN); assumption) | with_reducible exact o_tupN | with_reducible exact o_lenN | with_reducible exact o_lenT | with_reducible exact o_lenF | ((with_reducible apply o_at); exact rfl) | with_reducible assumption | ((apply o_mod); first | decide | assumption) | apply cm_eq_ii | apply cm_eq_ss | with_reducible exact m1 _))) hq' (by omega) natInt) ⟨none, none, none, none, [], rfl, rfl⟩ (fun _ _ _ _ => rfl) (fun i hi σ T ⟨a, b, c, d, G, hσ, hT⟩ => by
          subst hσ; subst hT
          have hi' : i < q := by simpa using hi
          rw [body_one, List.getElem_map, List.getElem_range, natInt]
          obtain ⟨y', z', G', hin⟩ := inner i (by omega) (.loc S.length) c d (S ++ .lst ((List.range i).map fun (j : Nat) => rowD (inRow seed streams j)) :: G)
          have hap : ∀ c : Cell, ∀ U : Store, meD .append (.loc S.length) [rowD (inRow seed streams i)] ((S ++ .lst ((List.range i).map fun (j : Nat) => rowD (inRow seed streams j)) :: G) ++ c :: U) = .ok .non (S ++ .lst ((List.range (i + 1)).map fun (j : Nat) => rowD (inRow seed streams j)) :: (G ++ c :: U)) := fun c U => by
            rw [List.append_assoc, List.cons_append, me_app0 (by rw [List.length_map, List.length_range]; omega), range_snoc, List.map_append]; rfl
          refine ⟨_, _, ?_, some (.int i), some (.loc (S ++ .lst ((List.range i).map fun (j : Nat) => rowD (inRow seed streams j)) :: G).length), y', z', G ++ .lst ((inRow seed streams i).map .int) :: G', rfl, rfl⟩
          exact x_seq (x_set (r_lst r_nl rfl)) (x_seq hin (x_ex (r_me (r_v rfl) (r_cs (r_bi (r_cs (r_v rfl) r_nl) (o_tupL (get_app0 _ _ _))) r_nl) (hap _ _)))))
    subst hσ; subst hT
    have h10 : opD .pow (.int 10) (.int 9) S = .ok (.int 1000000000) S := by rw [op_pow_ii]; rfl
    have hlv := leave_new (S := S) (T := .lst ((List.range q).map fun (j : Nat) => rowD (inRow seed streams j)) :: G) (k := 0) rfl (lows_map (fun j => by show D.lows 0 _ = true; exact lows_ints _) _)
    rw [List.length_map, List.length_range] at e
    rw [List.map_map]
    exact x_call hi rfl (x_seq (x_set (r_call (r_cs (r_v rfl) (r_cs (r_v rfl) (r_cs (r_bin r_c r_c h10) r_nl))) (m0 _))) (x_seq (x_set (r_lst r_nl rfl)) (x_seq e (x_ret (r_v rfl))))) hlv
end RL

set_option linter.all false
set_option maxRecDepth 100000
/-! roundlap.values over data -/
namespace RL
open PySem EV GO
noncomputable def f_is_given : Fn := ⟨2, 2, (.ret (.and (.call "is_row" (.cs (.v 0) (.cs (.v 1) (.cs (.v 1) .nl)))) (.bi .all (.cs (.comp 2 (.call "is_value" (.cs (.v 3) .nl)) (.one 3) (.iSeq (.v 0)) .nl) .nl))))⟩
noncomputable def f_are_inputs : Fn := ⟨2, 2, (.seq (.ite (.or (.not (.bi (.inst .list) (.cs (.v 0) .nl))) (.cmp .gt (.bi .len (.cs (.v 0) .nl)) (.c (.int 40))))
    (.ret (.c (.bl false)))
    .skip)
  (.ret (.bi .all (.cs (.comp 2 (.call "is_given" (.cs (.v 3) (.cs (.v 1) .nl))) (.one 3) (.iSeq (.v 0)) .nl) .nl))))⟩
noncomputable def f_checked_inputs : Fn := ⟨2, 2, (.seq (.ite (.not (.call "are_inputs" (.cs (.v 1) (.cs (.ix (.v 0) (.c (.int 0))) .nl))))
    (.rais "NoInputs")
    .skip)
  (.ret (.v 1)))⟩
noncomputable def f_product : Fn := ⟨1, 3, (.seq (.set (.one 1) (.c (.int 1)))
  (.seq (.forS (.one 2) (.iSeq (.v 0))
    (.set (.one 1) (.bin .mul (.v 1) (.v 2))))
  (.ret (.v 1))))⟩
noncomputable def f_outcome : Fn := ⟨2, 2, (.seq (.ite (.cmp .eq (.v 0) (.c (.str "plus")))
    (.ret (.bin .mod (.bi .sum (.cs (.v 1) .nl)) (.c (.int 9973))))
    .skip)
  (.seq (.ite (.cmp .eq (.v 0) (.c (.str "less")))
    (.ret (.bin .mod (.bin .sub (.ix (.v 1) (.c (.int 0))) (.bi .sum (.cs (.sl (.v 1) (.c (.int 1)) .nl) .nl))) (.c (.int 9973))))
    .skip)
  (.seq (.ite (.cmp .eq (.v 0) (.c (.str "times")))
    (.ret (.bin .mod (.call "product" (.cs (.v 1) .nl)) (.c (.int 9973))))
    .skip)
  (.seq (.ite (.cmp .eq (.v 0) (.c (.str "least")))
    (.ret (.bi .min (.cs (.v 1) .nl)))
    .skip)
  (.ret (.bi .max (.cs (.v 1) .nl)))))))⟩
noncomputable def f_start_rows : Fn := ⟨1, 3, (.seq (.set (.one 1) (.lst .nl))
  (.seq (.forS (.one 2) (.iRng (.cs (.c (.int 3)) (.cs (.c (.int 0)) (.cs (.neg (.c (.int 1))) .nl))))
    (.ex (.me .append (.v 1) (.cs (.comp 2 (.ix (.ix (.v 4) (.c (.int 4))) (.bin .sub (.v 2) (.c (.int 1)))) (.one 4) (.iSeq (.v 0)) .nl) .nl))))
  (.ret (.v 1))))⟩
noncomputable def f_source_value : Fn := ⟨3, 3, (.seq (.ite (.cmp .eq (.ix (.v 0) (.c (.int 0))) (.c (.str "value")))
    (.ret (.ix (.v 0) (.c (.int 1))))
    .skip)
  (.seq (.ite (.cmp .eq (.ix (.v 0) (.c (.int 0))) (.c (.str "input")))
    (.ret (.ix (.v 2) (.ix (.v 0) (.c (.int 1)))))
    .skip)
  (.ret (.ix (.ix (.v 1) (.bin .sub (.neg (.c (.int 1))) (.ix (.v 0) (.c (.int 2))))) (.ix (.v 0) (.c (.int 1)))))))⟩
noncomputable def f_answers : Fn := ⟨2, 8, (.seq (.set (.one 2) (.ix (.call "checked" (.cs (.v 0) .nl)) (.c (.int 2))))
  (.seq (.set (.one 3) (.call "start_rows" (.cs (.v 2) .nl)))
  (.seq (.set (.one 4) (.lst .nl))
  (.seq (.forS (.one 5) (.iSeq (.call "checked_inputs" (.cs (.v 0) (.cs (.v 1) .nl))))
    (.seq (.set (.one 6) (.lst .nl))
  (.seq (.ex (.me .append (.v 3) (.cs (.v 6) .nl)))
  (.seq (.forS (.one 7) (.iSeq (.v 2))
    (.ex (.me .append (.v 6) (.cs (.call "outcome" (.cs (.ix (.v 7) (.c (.int 2))) (.cs (.comp 2 (.call "source_value" (.cs (.v 9) (.cs (.v 3) (.cs (.v 5) .nl)))) (.one 9) (.iSeq (.ix (.v 7) (.c (.int 3)))) .nl) .nl))) .nl))))
  (.ex (.me .append (.v 4) (.cs (.bi .tuple (.cs (.comp 2 (.ix (.v 6) (.v 9)) (.one 9) (.iSeq (.ix (.v 0) (.c (.int 3)))) .nl) .nl)) .nl)))))))
  (.ret (.v 4))))))⟩

structure HV (P : Prg) : Prop where
  given : Has P "is_given" f_is_given
  inputs : Has P "are_inputs" f_are_inputs
  checked : Has P "checked_inputs" f_checked_inputs
  product : Has P "product" f_product
  outcome : Has P "outcome" f_outcome
  startrows : Has P "start_rows" f_start_rows
  sourcevalue : Has P "source_value" f_source_value
  answers : Has P "answers" f_answers
variable {sub : Sub} {P : Prg} {n : Nat} {S : Store}
/-! ### inputs -/
theorem given_ok (h : HB P) (hv : HV P) {r : List Int} {streams : Nat} (hl : r.length = streams) (hs : streams ≤ 1000) (hr : ∀ v ∈ r, 0 ≤ v ∧ v ≤ 9972) : callF sub P (n + 3) "is_given" [rowD r, .int streams] S = .ok (.bl true) S := by
  obtain ⟨T, e⟩ := all_t (sub := sub) (cf := callF sub P (n + 2)) (σ := [some (rowD r), some (.int streams)]) (S := S) (i := 3) (k := 2) (el := .call "is_value" (.cs (.v 3) .nl)) (a := .v 0) (l := r) (f := .int) (r_v rfl) (by omega) (fun v hm => r_call (r_cs (r_v rfl) r_nl) (value_t h (hr v hm).1 (hr v hm).2))
  exact x_call hv.given rfl (x_ret (r_andT (r_call (r_cs (r_v rfl) (r_cs (r_v rfl) (r_cs (r_v rfl) r_nl))) (row_l h.row (ds := r.map .int) streams (by rw [List.length_map, hl]) (Int.le_refl _) (Int.le_refl _))) e)) (leave_bl _ _ _)
theorem inputs_ok (h : HB P) (hv : HV P) {c : Nat} {rows : List (List Int)} {streams : Nat} (hc : S[c]? = some (.lst (rows.map rowD))) (hw : InpWF streams rows) (hs : streams ≤ 1000) (hn : rows.length ≤ 40) : callF sub P (n + 4) "are_inputs" [.loc c, .int streams] S = .ok (.bl true) S := by
  have hcm : ev sub (callF sub P (n + 3)) (.comp 2 (.call "is_given" (.cs (.v 3) (.cs (.v 1) .nl))) (.one 3) (.iSeq (.v 0)) .nl) [some (.loc c), some (.int streams)] S = .ok (.loc S.length) (S ++ [.lst (rows.map fun _ => .bl true)]) :=
    comp_mapA (f := rowD) (o := some c) (raw := rows.map rowD) (g_seq (r_v rfl) (srcOf_loc hc)) (still_ok (.inr ⟨c, rfl, hc⟩)) (fun r hr => r_call (r_cs (r_v rfl) (r_cs (r_v rfl) r_nl)) (given_ok h hv (hw.len r hr) hs (hw.val r hr))) (by unfold sizeMax; omega)
  have ha : ev sub (callF sub P (n + 3)) (.bi .all (.cs (.comp 2 (.call "is_given" (.cs (.v 3) (.cs (.v 1) .nl))) (.one 3) (.iSeq (.v 0)) .nl) .nl)) [some (.loc c), some (.int streams)] S = .ok (.bl true) (S ++ [.lst (rows.map fun _ => .bl true)]) :=
    r_bi (r_cs hcm r_nl) ((all_new _ fun _ => true).trans (by rw [List.all_eq_true.mpr fun _ _ => rfl]))
  have ht : tyOf sub S (.loc c) .list = some true := by simp only [tyOf, hc]
  have hl := o_lenL (sub := sub) hc
  rw [List.length_map] at hl
  exact x_call hv.inputs rfl (x_seq (x_iteF (t_orF (g_not (k := true) (t_bi (r_bi (r_cs (r_v rfl) r_nl) (o_inst ht)))) (t_k (g_cmp (r_cmp (r_bi (r_cs (r_v rfl) r_nl) hl) r_c (cm_gt _ _ _))) (decide_eq_false (by omega)))) x_skip) (x_ret ha)) (leave_bl _ _ _)
theorem checked_inputs_ok (h : HB P) (hv : HV P) {c : Nat} {l : Lp} {rows : List (List Int)} (hc : S[c]? = some (.lst (rows.map rowD))) (hw : InpWF l.streams rows) (hs : l.streams ≤ 1000) (hn : rows.length ≤ 40) : callF sub P (n + 5) "checked_inputs" [l.toD, .loc c] S = .ok (.loc c) S := by
  have hlt : c < S.length := (List.getElem?_eq_some_iff.mp hc).1
  have hl : leave S (.loc c) S = .ok (.loc c) S := by
    unfold leave
    rw [if_pos List.take_length, if_pos (show D.low S.length (.loc c) = true from decide_eq_true hlt)]
  exact x_call hv.checked rfl (x_seq (x_iteF (g_not (k := true) (t_call (r_call (r_cs (r_v rfl) (r_cs (r_ix (r_v rfl) r_c (o_at rfl)) r_nl)) (inputs_ok h hv hc hw hs hn)))) x_skip) (x_ret (r_v rfl))) hl
/-! ### outcomes -/
noncomputable def foldMul : Int → List Int → Int
  | a, [] => a
  | a, v :: r => foldMul (a * v) r
theorem product_ok (hv : HV P) {c : Nat} {vs : List Int} (hc : S[c]? = some (.lst (vs.map .int))) (hs : ∀ v ∈ vs, small v = true) : callF sub P (n + 1) "product" [.loc c] S = .ok (.int (foldMul 1 vs)) S := by
  rw [callF_ok hv.product rfl]
  have loop : ∀ (us : List Int) (a : Int) (x : Option D), (∀ v ∈ us, small v = true) → ∃ x', forL ⟨vs.map .int, some c, vs.map .int⟩ (bodyF sub (callF sub P n) (.one 2) (.set (.one 1) (.bin .mul (.v 1) (.v 2)))) (us.map .int) [some (.loc c), some (.int a), x] S = .ok (.nx [some (.loc c), some (.int (foldMul a us)), x']) S := by
    intro us
    induction us with
    | nil => intro a x _; exact ⟨x, by rw [List.map_nil, forL_nil, still_ok (.inr ⟨c, rfl, hc⟩)]; rfl⟩
    | cons v r ih =>
      intro a x hs
      obtain ⟨x', e⟩ := ih (a * v) (some (.int v)) fun u hu => hs u (List.mem_cons_of_mem _ hu)
      refine ⟨x', ?_⟩
      rw [List.map_cons, forL_cons, still_ok (.inr ⟨c, rfl, hc⟩)]
      simp only [Res.bind_ok, body_one]
      have := hs v List.mem_cons_self
      simp [this]
      exact e
  obtain ⟨x', e⟩ := loop vs 1 none hs
  have := for_ok (sub := sub) (cf := callF sub P n) (t := .one 2) (it := .iSeq (.v 0)) (σ := [some (.loc c), some (.int 1), none]) (S := S) (s := ⟨vs.map .int, some c, vs.map .int⟩) (by simp [srcOf_loc hc]) e
  simp [f_product, frame, this]
noncomputable def outc (doing : Str) (vs : List Int) : Int :=
  if doing = "plus" then vs.sum % 9973 else if doing = "less" then (vs.getD 0 0 - (vs.drop 1).sum) % 9973 else if doing = "times" then foldMul 1 vs % 9973
  else if doing = "least" then (vs.drop 1).foldl min (vs.getD 0 0) else (vs.drop 1).foldl max (vs.getD 0 0)
theorem cut1 (vs : List D) : cut vs (some 1) none = vs.drop 1 := by
  unfold cut sIx
  cases vs with
  | nil => rfl
  | cons a r =>
    have : (if (1 : Int) < 0 then ((1 : Int) + ((a :: r).length : Int)).toNat else min (1 : Int).toNat (a :: r).length) = 1 := by
      rw [if_neg (by decide)]; simp
    simp
theorem o_sum {c : Nat} {vs : List Int} (hc : S[c]? = some (.lst (vs.map .int))) : biD sub .sum [.loc c] S = .ok (.int vs.sum) S := by
  rw [bi_sum, items_loc hc, Res.bind_ok, allInts_map, opt_some, Res.bind_ok]
theorem o_min {c : Nat} {v : Int} {r : List Int} (hc : S[c]? = some (.lst ((v :: r).map .int))) : biD sub .min [.loc c] S = .ok (.int (r.foldl min v)) S := by
  rw [bi_min, items_loc hc, Res.bind_ok, allInts_map, opt_some, Res.bind_ok]; rfl
theorem o_max {c : Nat} {v : Int} {r : List Int} (hc : S[c]? = some (.lst ((v :: r).map .int))) : biD sub .max [.loc c] S = .ok (.int (r.foldl max v)) S := by
  rw [bi_max, items_loc hc, Res.bind_ok, allInts_map, opt_some, Res.bind_ok]; rfl
theorem outcome_ok (hv : HV P) {c : Nat} {vs : List Int} {doing : Str} (hc : S[c]? = some (.lst (vs.map .int))) (hne : vs ≠ []) (hs : ∀ v ∈ vs, small v = true) : callF sub P (n + 2) "outcome" [.str doing, .loc c] S = .ok (.int (outc doing vs)) S := by
  obtain ⟨v, r, rfl⟩ := List.exists_cons_of_ne_nil hne
  have word : ∀ (y : Str) {k : Bool}, (doing == y) = k → evT sub (callF sub P (n + 1)) (.cmp .eq (.v 0) (.c (.str y))) [some (.str doing), some (.loc c)] S = .ok k S := fun y k e => e ▸ g_cmp (r_cmp (r_v rfl) r_c (cm_eq_ss _ _ _))
  have no : ∀ {y : Str}, ¬ doing = y → (doing == y) = false := fun h => beq_false_of_ne h
  have yes : ∀ {y : Str}, doing = y → (doing == y) = true := fun h => beq_iff_eq.mpr h
  unfold outc
  by_cases h1 : doing = "plus"
  · rw [if_pos h1]
    exact x_call hv.outcome rfl (x_seqR (x_iteT (word "plus" (yes h1)) (x_ret (r_bin (r_bi (r_cs (r_v rfl) r_nl) (o_sum hc)) r_c (o_mod (by decide)))))) (leave_int0 _ _)
  rw [if_neg h1]
  by_cases h2 : doing = "less"
  · rw [if_pos h2]
    have hcut : slD (.loc c) (some 1) none S = .ok (.loc S.length) (S ++ [.lst (r.map .int)]) := by
      show (items (.loc c) >>= fun xs => alloc (.lst (cut xs (some 1) none))) S = _
      rw [bindM_ap, items_loc hc, Res.bind_ok, cut1]; rfl
    exact x_call hv.outcome rfl (x_seq (x_iteF (word "plus" (no h1)) x_skip) (x_seqR (x_iteT (word "less" (yes h2)) (x_ret (r_bin (r_bin (r_ix (r_v rfl) r_c (o_atL hc (atI_l0 _))) (r_bi (r_cs (r_sl (r_v rfl) (partE_c _) partE_nl hcut) r_nl) (o_sum (get_last _ _))) (op_sub_ii _ _ _)) r_c (o_mod (by decide))))))) (leave_int _ _ _)
  rw [if_neg h2]
  by_cases h3 : doing = "times"
  · rw [if_pos h3]
    exact x_call hv.outcome rfl (x_seq (x_iteF (word "plus" (no h1)) x_skip) (x_seq (x_iteF (word "less" (no h2)) x_skip) (x_seqR (x_iteT (word "times" (yes h3)) (x_ret (r_bin (r_call (r_cs (r_v rfl) r_nl) (product_ok hv hc hs)) r_c (o_mod (by decide)))))))) (leave_int0 _ _)
  rw [if_neg h3]
  by_cases h4 : doing = "least"
  · rw [if_pos h4]
    exact x_call hv.outcome rfl (x_seq (x_iteF (word "plus" (no h1)) x_skip) (x_seq (x_iteF (word "less" (no h2)) x_skip) (x_seq (x_iteF (word "times" (no h3)) x_skip) (x_seqR (x_iteT (word "least" (yes h4)) (x_ret (r_bi (r_cs (r_v rfl) r_nl) (o_min hc)))))))) (leave_int0 _ _)
  · rw [if_neg h4]
    exact x_call hv.outcome rfl (x_seq (x_iteF (word "plus" (no h1)) x_skip) (x_seq (x_iteF (word "less" (no h2)) x_skip) (x_seq (x_iteF (word "times" (no h3)) x_skip) (x_seq (x_iteF (word "least" (no h4)) x_skip) (x_ret (r_bi (r_cs (r_v rfl) r_nl) (o_max hc))))))) (leave_int0 _ _)
/-! ### rows -/
noncomputable def startRow (works : List Wk) (b : Nat) : List Int := works.map fun w => w.starts.getD b 0
theorem startrows_ok (hv : HV P) {works : List Wk} (hn : works.length ≤ 1000) (hw : ∀ w ∈ works, w.starts.length = 3) : callF sub P (n + 1) "start_rows" [.tup (works.map Wk.toD)] S =
    .ok (.loc S.length) (S ++ [.lst [.loc (S.length + 1), .loc (S.length + 2), .loc (S.length + 3)], .lst ((startRow works 2).map .int), .lst ((startRow works 1).map .int), .lst ((startRow works 0).map .int)]) := by
  have turn : ∀ (b : Nat) (_ : b < 3) (xs : List D) (U : Store) (_ : xs.length ≤ 10), exec sub (callF sub P n) (.ex (.me .append (.v 1) (.cs (.comp 2 (.ix (.ix (.v 4) (.c (.int 4))) (.bin .sub (.v 2) (.c (.int 1)))) (.one 4) (.iSeq (.v 0)) .nl) .nl))) [some (.tup (works.map Wk.toD)), some (.loc S.length), some (.int ((b : Int) + 1))] (S ++ .lst xs :: U) =
      .ok (.nx [some (.tup (works.map Wk.toD)), some (.loc S.length), some (.int ((b : Int) + 1))]) (S ++ .lst (xs ++ [.loc (S.length + (U.length + 1))]) :: (U ++ [.lst ((startRow works b).map .int)])) := fun b hb xs U hx => by
    have c := comp_mapA (sub := sub) (cf := callF sub P n) (k := 2) (i := 4) (el := .ix (.ix (.v 4) (.c (.int 4))) (.bin .sub (.v 2) (.c (.int 1)))) (it := .iSeq (.v 0)) (σ := [some (.tup (works.map Wk.toD)), some (.loc S.length), some (.int ((b : Int) + 1))]) (S := S ++ .lst xs :: U) (S1 := S ++ .lst xs :: U) (ks := works) (f := Wk.toD) (g := fun w => .int (w.starts.getD b 0)) (o := none) (raw := works.map Wk.toD)
      (g_seq (r_v rfl) rfl) rfl (fun w hm => by
        have hb' : b < w.starts.length := (hw w hm).symm ▸ hb
        refine r_ix (r_ix (r_v rfl) r_c (o_at rfl)) (r_bin (r_v rfl) r_c (op_sub_ii _ _ _)) (o_at ?_)
        rw [Int.add_sub_cancel, atI_nat', List.getElem?_map, List.getD_eq_getElem?_getD, List.getElem?_eq_getElem hb']; rfl) (by unfold sizeMax; omega)
    rw [show (works.map fun w => D.int (w.starts.getD b 0)) = (startRow works b).map .int by unfold startRow; rw [List.map_map]; rfl, List.append_assoc, List.cons_append, List.length_append, List.length_cons] at c
    exact x_ex (r_me (r_v rfl) (r_cs c r_nl) (me_app0 (by omega)))
  have loop := for_ok (sub := sub) (cf := callF sub P n) (t := .one 2) (σ := [some (.tup (works.map Wk.toD)), some (.loc S.length), none]) (s := ⟨[.int 3, .int 2, .int 1], none, []⟩) (g_rng (S := S ++ [.lst []]) (is := [3, 2, 1]) (r_cs (r_c (d := .int 3)) (r_cs (r_c (d := .int 0)) (r_cs (r_neg (i := 1) r_c) r_nl))) rfl)
    (forL_step rfl (body_run (turn 2 (by decide) [] [] (by decide))) (forL_step rfl (body_run (turn 1 (by decide) _ _ (by exact Nat.le_of_ble_eq_true rfl))) (forL_step rfl (body_run (turn 0 (by decide) _ _ (by exact Nat.le_of_ble_eq_true rfl))) (forL_nil _ _ _ _))))
  refine x_call hv.startrows rfl (x_seq (x_set (r_lst r_nl rfl)) (x_seq loop (x_ret (r_v rfl)))) ?_
  unfold leave
  rw [if_pos (take_app _ _), if_neg (by show ¬ decide (S.length < S.length) = true; simp)]
  simp only [get_app0]
  rw [if_neg]
  · rfl
  show ¬ (D.lows S.length [.loc (S.length + 1), .loc (S.length + 2), .loc (S.length + 3)]) = true
  simp [D.lows, D.low]
/-- rows of ints, each a list of its own -/
structure RowsAt (T : Store) (locs : List Nat) (rows : List (List Int)) : Prop where
  len : locs.length = rows.length
  row : ∀ (m l : Nat) r, locs[m]? = some l → rows[m]? = some r → T[l]? = some (.lst (r.map .int))
noncomputable def srcV (rows : List (List Int)) (given : List Int) : Srs → Int
  | .val v => v
  | .inp k => given.getD k 0
  | .wrk w b => (rows.getD (rows.length - 1 - b) []).getD w 0
theorem atI_back (xs : List D) (b : Nat) (h : b < xs.length) : atI xs (-1 - (b : Int)) = xs[xs.length - 1 - b]? := by
  unfold atI ixN
  rw [if_neg (by omega), if_pos (by omega)]
  show xs[(-1 - (b : Int) + (xs.length : Int)).toNat]? = _
  congr 1; omega
theorem sourcevalue_ok (hv : HV P) {R : Nat} {locs : List Nat} {rows : List (List Int)} {given : List Int} {s : Srs} (hR : S[R]? = some (.lst (locs.map .loc))) (hA : RowsAt S locs rows)
    (hs : match s with | .val _ => True | .inp k => k < given.length | .wrk w b => b < rows.length ∧ w < (rows.getD (rows.length - 1 - b) []).length) :
    callF sub P (n + 1) "source_value" [s.toD, .loc R, rowD given] S = .ok (.int (srcV rows given s)) S := by
  have word : ∀ {x : Str} {r : List D} {σ : Sg} (y : Str) {k : Bool} (e : varD σ 0 S = .ok (.tup (.str x :: r)) S) (hk : (x == y) = k), evT sub (callF sub P n) (.cmp .eq (.ix (.v 0) (.c (.int 0))) (.c (.str y))) σ S = .ok k S := fun y k e hk => by
    rw [← hk]; exact g_cmp (r_cmp (r_ix (r_v e) r_c (o_at (atI_l0 _))) r_c (cm_eq_ss _ _ _))
  have nth : ∀ {l : List Int} {w : Nat}, w < l.length → atI (l.map D.int) (w : Int) = some (.int (l.getD w 0)) := fun h => by rw [atI_nat']; simp [h]
  cases s with
  | val v => exact x_call hv.sourcevalue rfl (x_seqR (x_iteT (word (x := "value") "value" rfl (by decide +kernel)) (x_ret (r_ix (r_v rfl) r_c (o_at rfl))))) (leave_int0 _ _)
  | inp k => exact x_call hv.sourcevalue rfl (x_seq (x_iteF (word (x := "input") "value" rfl (by decide +kernel)) x_skip) (x_seqR (x_iteT (word (x := "input") "input" rfl (by decide +kernel)) (x_ret (r_ix (r_v rfl) (r_ix (r_v rfl) r_c (o_at rfl)) (o_at (nth hs))))))) (leave_int0 _ _)
  | wrk w b =>
    obtain ⟨h1, h2⟩ := hs
    have hl := hA.len
    have hr : rows.length - 1 - b < rows.length := by omega
    have hm : rows.length - 1 - b < locs.length := hl ▸ hr
    have hrow := hA.row (rows.length - 1 - b) locs[rows.length - 1 - b] rows[rows.length - 1 - b] (List.getElem?_eq_getElem hm) (List.getElem?_eq_getElem hr)
    have hat : atI (locs.map D.loc) (-1 - (b : Int)) = some (.loc locs[rows.length - 1 - b]) := by
      rw [atI_back _ _ (by rw [List.length_map, hl]; exact h1), List.length_map, hl, List.getElem?_map, List.getElem?_eq_getElem hm]; rfl
    have hg : rows.getD (rows.length - 1 - b) [] = rows[rows.length - 1 - b] := by rw [List.getD_eq_getElem?_getD, List.getElem?_eq_getElem hr]; rfl
    have hz : srcV rows given (.wrk w b) = rows[rows.length - 1 - b].getD w 0 := congrArg (fun l => List.getD l w 0) hg
    rw [hg] at h2
    rw [hz]
    exact x_call hv.sourcevalue rfl (x_seq (x_iteF (word (x := "work") "value" rfl (by decide +kernel)) x_skip) (x_seq (x_iteF (word (x := "work") "input" rfl (by decide +kernel)) x_skip) (x_ret (r_ix (r_ix (r_v rfl) (r_bin (r_neg r_c) (r_ix (r_v rfl) r_c (o_at rfl)) (op_sub_ii _ _ _)) (o_atL hR hat)) (r_ix (r_v rfl) r_c (o_at rfl)) (o_atL hrow (nth h2)))))) (leave_int0 _ _)
/-! ### answers -/
abbrev VR (v : Int) : Prop := 0 ≤ v ∧ v ≤ 9972
theorem VR.small {v : Int} (h : VR v) : small v = true := decide_eq_true ⟨by have := h.1; omega, by have := h.2; omega⟩
theorem fold_min_VR : ∀ (r : List Int) (a : Int), VR a → (∀ v ∈ r, VR v) → VR (r.foldl min a)
  | [], a, h, _ => h
  | v :: r, a, h, hr => fold_min_VR r (min a v) (by have := hr v List.mem_cons_self; have := h; unfold VR at *; omega) fun u hu => hr u (List.mem_cons_of_mem _ hu)
theorem fold_max_VR : ∀ (r : List Int) (a : Int), VR a → (∀ v ∈ r, VR v) → VR (r.foldl max a)
  | [], a, h, _ => h
  | v :: r, a, h, hr => fold_max_VR r (max a v) (by have := hr v List.mem_cons_self; have := h; unfold VR at *; omega) fun u hu => hr u (List.mem_cons_of_mem _ hu)
theorem outc_VR {doing : Str} {vs : List Int} (hne : vs ≠ []) (h : ∀ v ∈ vs, VR v) : VR (outc doing vs) := by
  obtain ⟨v, r, rfl⟩ := List.exists_cons_of_ne_nil hne
  have hv := h v List.mem_cons_self
  have hr : ∀ u ∈ r, VR u := fun u hu => h u (List.mem_cons_of_mem _ hu)
  have m : ∀ x : Int, VR (x % 9973) := fun x => ⟨Int.emod_nonneg _ (by decide), by have := Int.emod_lt_of_pos x (show (0 : Int) < 9973 by decide); omega⟩
  unfold outc
  split
  · exact m _
  · split
    · exact m _
    · split
      · exact m _
      · split
        · exact fold_min_VR r v hv hr
        · exact fold_max_VR r v hv hr
noncomputable def rowFrom (rows : List (List Int)) (given : List Int) : List Wk → List Int → List Int
  | [], row => row
  | w :: ws, row => rowFrom rows given ws (row ++ [outc w.doing (w.srcs.map (srcV (rows ++ [row]) given))])
structure AT (S T : Store) (locs : List Nat) (rows : List (List Int)) (told : List D) : Prop where
  pre : T.take S.length = S
  rws : T[S.length]? = some (.lst (locs.map .loc))
  td : T[S.length + 4]? = some (.lst told)
  ra : RowsAt T locs rows
  lo : ∀ l ∈ locs, S.length < l ∧ l ≠ S.length + 4
  nd : locs.Nodup
theorem take_set {α : Type} {T : List α} {k l : Nat} {c : α} (h : k ≤ l) : (T.set l c).take k = T.take k := by
  apply List.ext_getElem?
  intro i
  by_cases hi : i < k
  · rw [List.getElem?_take_of_lt hi, List.getElem?_take_of_lt hi, List.getElem?_set_ne (by omega)]
  · rw [List.getElem?_eq_none (by simp; omega), List.getElem?_eq_none (by simp; omega)]
section
variable {T : Store} {locs : List Nat} {rows : List (List Int)} {told : List D}
theorem AT.len (h : AT S T locs rows told) : S.length + 4 < T.length := (List.getElem?_eq_some_iff.mp h.td).1
theorem AT.lt (h : AT S T locs rows told) {l : Nat} (hl : l ∈ locs) : l < T.length := by
  obtain ⟨m, hm⟩ := List.getElem?_of_mem hl
  have hm' : m < rows.length := by rw [← h.ra.len]; exact (List.getElem?_eq_some_iff.mp hm).1
  exact (List.getElem?_eq_some_iff.mp (h.ra.row m l _ hm (List.getElem?_eq_getElem hm'))).1
theorem AT.more (h : AT S T locs rows told) (c : Cell) : AT S (T ++ [c]) locs rows told := by
  have hl := h.len
  refine ⟨by rw [List.take_append_of_le_length (by omega)]; exact h.pre, by rw [List.getElem?_append_left (by omega)]; exact h.rws, by rw [List.getElem?_append_left (by omega)]; exact h.td, ⟨h.ra.len, fun m l r h1 h2 => ?_⟩, h.lo, h.nd⟩
  rw [List.getElem?_append_left (h.lt (List.mem_of_getElem? h1))]
  exact h.ra.row m l r h1 h2
theorem AT.newrow (h : AT S T locs rows told) : AT S (List.set (T ++ [Cell.lst []]) S.length (Cell.lst ((locs ++ [T.length]).map D.loc))) (locs ++ [T.length]) (rows ++ [[]]) told := by
  have hl := h.len
  refine ⟨by rw [take_set (Nat.le_refl _)]; rw [List.take_append_of_le_length (by omega)]; exact h.pre, by rw [List.getElem?_set_self (by simp; omega)], by rw [List.getElem?_set_ne (by omega), List.getElem?_append_left (by omega)]; exact h.td, ⟨by simp [h.ra.len], fun m l r h1 h2 => ?_⟩, fun l hm => ?_, ?_⟩
  · have hne : S.length ≠ l := by
      intro e
      have hm := List.mem_of_getElem? h1
      rcases List.mem_append.mp hm with z | z
      · have := (h.lo l z).1; omega
      · have : l = T.length := by simpa using z
        omega
    rw [List.getElem?_set_ne hne]
    by_cases hm : m < locs.length
    · rw [List.getElem?_append_left hm] at h1
      rw [List.getElem?_append_left (by rw [← h.ra.len]; exact hm)] at h2
      rw [List.getElem?_append_left (h.lt (List.mem_of_getElem? h1))]
      exact h.ra.row m l r h1 h2
    · rw [List.getElem?_append_right (by omega)] at h1
      rw [List.getElem?_append_right (by rw [← h.ra.len]; omega)] at h2
      have hm2 : m - locs.length = 0 := by
        have := (List.getElem?_eq_some_iff.mp h1).1; simp at this; omega
      rw [hm2] at h1
      rw [← h.ra.len, hm2] at h2
      simp at h1 h2
      subst h1; subst h2
      simp
  · rcases List.mem_append.mp hm with z | z
    · exact h.lo l z
    · have : l = T.length := by simpa using z
      omega
  · rw [List.nodup_append]
    refine ⟨h.nd, by simp, fun a ha b hb => ?_⟩
    have : b = T.length := by simpa using hb
    have := h.lt ha
    omega
theorem AT.push {L : Nat} {row : List Int} (h : AT S T (locs ++ [L]) (rows ++ [row]) told) (v : Int) : AT S (T.set L (.lst ((row ++ [v]).map .int))) (locs ++ [L]) (rows ++ [row ++ [v]]) told := by
  have hL := h.lo L (by simp)
  have hLt := h.lt (l := L) (by simp)
  have hll : locs.length = rows.length := by have := h.ra.len; simpa using this
  refine ⟨by rw [take_set (by omega)]; exact h.pre, by rw [List.getElem?_set_ne (by omega)]; exact h.rws, by rw [List.getElem?_set_ne (by omega)]; exact h.td, ⟨by simp [hll], fun m l r h1 h2 => ?_⟩, h.lo, h.nd⟩
  by_cases hm : m < locs.length
  · have h1' : locs[m]? = some l := by rw [List.getElem?_append_left hm] at h1; exact h1
    have hne : L ≠ l := by
      intro e
      subst e
      exact (List.nodup_append.mp h.nd).2.2 L (List.mem_of_getElem? h1') L (by simp) rfl
    rw [List.getElem?_set_ne hne]
    refine h.ra.row m l r h1 ?_
    rw [List.getElem?_append_left (by omega)] at h2 ⊢
    exact h2
  · rw [List.getElem?_append_right (by omega)] at h1
    rw [List.getElem?_append_right (by omega)] at h2
    have hm2 : m - locs.length = 0 := by
      have := (List.getElem?_eq_some_iff.mp h1).1; simp at this; omega
    rw [hm2] at h1
    rw [← hll, hm2] at h2
    simp at h1 h2
    subst h1; subst h2
    rw [List.getElem?_set_self hLt]
theorem AT.tell (h : AT S T locs rows told) (d : D) : AT S (T.set (S.length + 4) (.lst (told ++ [d]))) locs rows (told ++ [d]) := by
  have hl := h.len
  refine ⟨by rw [take_set (by omega)]; exact h.pre, by rw [List.getElem?_set_ne (by omega)]; exact h.rws, by rw [List.getElem?_set_self hl], ⟨h.ra.len, fun m l r h1 h2 => ?_⟩, h.lo, h.nd⟩
  have := (h.lo l (List.mem_of_getElem? h1)).2
  rw [List.getElem?_set_ne (by omega)]
  exact h.ra.row m l r h1 h2
theorem AT.last {L : Nat} {row : List Int} (h : AT S T (locs ++ [L]) (rows ++ [row]) told) : T[L]? = some (.lst (row.map .int)) := by
  have hll : locs.length = rows.length := by have := h.ra.len; simpa using this
  exact h.ra.row locs.length L row (by simp) (by rw [hll]; simp)
end
structure GoodRows (N : Nat) (rows : List (List Int)) : Prop where
  len : ∀ r ∈ rows, r.length = N
  val : ∀ r ∈ rows, ∀ v ∈ r, VR v
theorem srcV_ok {N streams ncrews : Nat} {w : Wk} {rows : List (List Int)} {row given : List Int} (hw : w.WF row.length N streams ncrews) (hr : GoodRows N rows) (h3 : 3 ≤ rows.length) (hrow : ∀ v ∈ row, VR v) (hg : given.length = streams) (hgv : ∀ v ∈ given, VR v) : ∀ s ∈ w.srcs,
    (match s with | .val _ => True | .inp k => k < given.length | .wrk w b => b < (rows ++ [row]).length ∧ w < ((rows ++ [row]).getD ((rows ++ [row]).length - 1 - b) []).length) ∧ VR (srcV (rows ++ [row]) given s) := by
  intro s hs
  have h := hw.srcs s hs
  cases s with
  | val v => exact ⟨trivial, h⟩
  | inp k =>
    have h : k < streams := h
    refine ⟨by show k < _; omega, ?_⟩
    show VR (given.getD k 0)
    have hk : k < given.length := by omega
    rw [List.getD_eq_getElem?_getD, List.getElem?_eq_getElem hk]
    exact hgv _ (List.getElem_mem hk)
  | wrk u b =>
    obtain ⟨hb, hu⟩ := h
    have hlen : (rows ++ [row]).length = rows.length + 1 := by simp
    have key : ∃ r, (rows ++ [row]).getD ((rows ++ [row]).length - 1 - b) [] = r ∧ u < r.length ∧ ∀ v ∈ r, VR v := by
      by_cases hb0 : b = 0
      · subst hb0
        refine ⟨row, ?_, by simpa using hu, hrow⟩
        rw [hlen]
        simp
      · rw [if_neg hb0] at hu
        have hi : rows.length - b < rows.length := by omega
        refine ⟨rows[rows.length - b], ?_, by rw [hr.len _ (List.getElem_mem hi)]; exact hu, hr.val _ (List.getElem_mem hi)⟩
        rw [hlen, show rows.length + 1 - 1 - b = rows.length - b by omega, List.getD_eq_getElem?_getD, List.getElem?_append_left hi, List.getElem?_eq_getElem hi]
        rfl
    obtain ⟨r, e, hur, hv⟩ := key
    refine ⟨⟨by omega, by rw [e]; exact hur⟩, ?_⟩
    show VR (((rows ++ [row]).getD ((rows ++ [row]).length - 1 - b) []).getD u 0)
    rw [e, List.getD_eq_getElem?_getD, List.getElem?_eq_getElem hur]
    exact hv _ (List.getElem_mem hur)

theorem leave_at {T : Store} {ds : List D} {k : Nat} (ht : T.take S.length = S) (h : T[S.length + k]? = some (.lst ds)) (hc : D.lows 0 ds = true) : leave S (.loc (S.length + k)) T = .ok (.loc S.length) (S ++ [.lst ds]) := by
  unfold leave
  rw [if_pos ht, if_neg (by show ¬ decide (S.length + k < S.length) = true; simp)]
  simp only [h]
  rw [if_pos (show Cell.low S.length (.lst ds) = true from lows_mono (Nat.zero_le _) hc)]
theorem inner_ok (hv : HV P) {locs : List Nat} {L : Nat} {rows : List (List Int)} {told : List D} {given : List Int} {N streams ncrews : Nat} {A0 A1 A2 A4 : D} {W : List D} (hr : GoodRows N rows) (h3 : 3 ≤ rows.length) (hg : given.length = streams) (hgv : ∀ v ∈ given, VR v) :
    ∀ (ws : List Wk) (row : List Int) (T : Store) (x7 : Option D), AT S T (locs ++ [L]) (rows ++ [row]) told → (∀ (j : Nat) w, ws[j]? = some w → w.WF (row.length + j) N streams ncrews) → (∀ v ∈ row, VR v) → row.length + ws.length ≤ 1000 →
    ∃ T' x7', forL ⟨W, none, W⟩ (bodyF sub (callF sub P (n + 2)) (.one 7) (.ex (.me .append (.v 6) (.cs (.call "outcome" (.cs (.ix (.v 7) (.c (.int 2))) (.cs (.comp 2 (.call "source_value" (.cs (.v 9) (.cs (.v 3) (.cs (.v 5) .nl)))) (.one 9) (.iSeq (.ix (.v 7) (.c (.int 3)))) .nl) .nl))) .nl)))) (ws.map Wk.toD)
        [some A0, some A1, some A2, some (.loc S.length), some A4, some (rowD given), some (.loc L), x7] T = .ok (.nx [some A0, some A1, some A2, some (.loc S.length), some A4, some (rowD given), some (.loc L), x7']) T' ∧ AT S T' (locs ++ [L]) (rows ++ [rowFrom rows given ws row]) told ∧ ((∀ v ∈ rowFrom rows given ws row, VR v) ∧ (rowFrom rows given ws row).length = row.length + ws.length)
  | [], row, T, x7, h, _, hrow, _ => ⟨T, x7, by rw [List.map_nil, forL_nil]; rfl, h, hrow, rfl⟩
  | w :: ws, row, T, x7, h, hw, hrow, hn => by
    have hw0 : w.WF row.length N streams ncrews := hw 0 w rfl
    have hsv := srcV_ok hw0 hr h3 hrow hg hgv
    have hcomp : ev sub (callF sub P (n + 2)) (.comp 2 (.call "source_value" (.cs (.v 9) (.cs (.v 3) (.cs (.v 5) .nl)))) (.one 9) (.iSeq (.ix (.v 7) (.c (.int 3)))) .nl) [some A0, some A1, some A2, some (.loc S.length), some A4, some (rowD given), some (.loc L), some w.toD] T =
        .ok (.loc T.length) (T ++ [.lst (w.srcs.map fun s => .int (srcV (rows ++ [row]) given s))]) :=
      comp_mapA (f := Srs.toD) (o := none) (raw := w.srcs.map Srs.toD) (g_seq (r_ix (r_v rfl) r_c (o_at rfl)) rfl) rfl (fun s hs => r_call (r_cs (r_v rfl) (r_cs (r_v rfl) (r_cs (r_v rfl) r_nl))) (sourcevalue_ok hv h.rws h.ra (hsv s hs).1)) (by have := hw0.some.2; unfold sizeMax; omega)
    have hvs : (w.srcs.map fun s => D.int (srcV (rows ++ [row]) given s)) = (w.srcs.map (srcV (rows ++ [row]) given)).map .int := by rw [List.map_map]; rfl
    rw [hvs] at hcomp
    have hne : w.srcs.map (srcV (rows ++ [row]) given) ≠ [] := by
      intro e
      have := hw0.some.1
      rw [List.map_eq_nil_iff] at e
      rw [e] at this; simp at this
    have hall : ∀ v ∈ w.srcs.map (srcV (rows ++ [row]) given), VR v := fun v hm => by
      obtain ⟨s, hs, rfl⟩ := List.mem_map.mp hm
      exact (hsv s hs).2
    have hout := outcome_ok (sub := sub) (n := n) (S := T ++ [.lst ((w.srcs.map (srcV (rows ++ [row]) given)).map .int)]) hv (doing := w.doing) (get_app0 T [] _) hne fun v hm => (hall v hm).small
    have hm := h.more (.lst ((w.srcs.map (srcV (rows ++ [row]) given)).map .int))
    have hlast := hm.last
    have hap := me_append (d := .int (outc w.doing (w.srcs.map (srcV (rows ++ [row]) given)))) hlast (by unfold sizeMax; simp at hn ⊢; omega)
    have hpush := hm.push (outc w.doing (w.srcs.map (srcV (rows ++ [row]) given)))
    rw [List.map_append] at hpush
    obtain ⟨T', x7', e, hA, hV, hL⟩ := inner_ok hv (L := L) (W := W) (A0 := A0) (A1 := A1) (A2 := A2) (A4 := A4) hr h3 hg hgv ws (row ++ [outc w.doing (w.srcs.map (srcV (rows ++ [row]) given))]) _ (some w.toD) hpush
      (fun j u hj => by
        have := hw (j + 1) u (by simpa using hj)
        rw [show row.length + (j + 1) = (row ++ [outc w.doing (w.srcs.map (srcV (rows ++ [row]) given))]).length + j by simp; omega] at this
        exact this)
      (fun v hm => by
        rcases List.mem_append.mp hm with z | z
        · exact hrow v z
        · rw [List.mem_singleton.mp z]; exact outc_VR hne hall) (by simp at hn ⊢; omega)
    refine ⟨T', x7', ?_, hA, hV, by rw [show rowFrom rows given (w :: ws) row = rowFrom rows given ws (row ++ [outc w.doing (w.srcs.map (srcV (rows ++ [row]) given))]) from rfl, hL]; simp; omega⟩
    exact forL_step (still_none _ _ _) (body_run (x_ex (r_me (r_v rfl) (r_cs (r_call (r_cs (r_ix (r_v rfl) r_c (o_at rfl)) (r_cs hcomp r_nl)) hout) r_nl) hap))) e

noncomputable def outD (outs : List Nat) (row : List Int) : D := .tup (outs.map fun k => .int (row.getD k 0))
noncomputable def ansFrom (works : List Wk) (outs : List Nat) : List (List Int) → List (List Int) → List D
  | _, [] => []
  | rows, g :: gs => outD outs (rowFrom rows g works []) :: ansFrom works outs (rows ++ [rowFrom rows g works []]) gs
noncomputable def startRows (works : List Wk) : List (List Int) := [startRow works 2, startRow works 1, startRow works 0]
/-- what answers tells -/
noncomputable def ansD (l : Lp) (inputs : List (List Int)) : List D := ansFrom l.works l.outs (startRows l.works) inputs
theorem ansFrom_cl (works : List Wk) (outs : List Nat) : ∀ (gs rows : List (List Int)), D.lows 0 (ansFrom works outs rows gs) = true
  | [], _ => rfl
  | g :: gs, rows => by
    show (D.low 0 (outD outs _) && D.lows 0 _) = true
    rw [ansFrom_cl works outs gs]
    show (D.lows 0 (outs.map _) && true) = true
    rw [lows_map fun _ => rfl]; rfl
theorem ansFrom_len (works : List Wk) (outs : List Nat) : ∀ (gs rows : List (List Int)), (ansFrom works outs rows gs).length = gs.length
  | [], _ => rfl
  | g :: gs, rows => congrArg (· + 1) (ansFrom_len works outs gs _)
theorem outer_ok (hv : HV P) {l : Lp} {c : Nat} {inputs : List (List Int)} (hc : S[c]? = some (.lst (inputs.map rowD))) (hl : l.WF) (hlen : l.works.length ≤ 100) :
    ∀ (gs : List (List Int)) (rows : List (List Int)) (locs : List Nat) (told : List D) (T : Store) (x5 x6 x7 : Option D), AT S T locs rows told → GoodRows l.works.length rows → 3 ≤ rows.length → InpWF l.streams gs → told.length + gs.length ≤ 1000 → rows.length + gs.length ≤ 1000 →
    ∃ T' σ', forL ⟨inputs.map rowD, some c, inputs.map rowD⟩ (bodyF sub (callF sub P (n + 2)) (.one 5) (.seq (.set (.one 6) (.lst .nl)) (.seq (.ex (.me .append (.v 3) (.cs (.v 6) .nl))) (.seq (.forS (.one 7) (.iSeq (.v 2)) (.ex (.me .append (.v 6) (.cs (.call "outcome" (.cs (.ix (.v 7) (.c (.int 2))) (.cs (.comp 2 (.call "source_value" (.cs (.v 9) (.cs (.v 3) (.cs (.v 5) .nl)))) (.one 9) (.iSeq (.ix (.v 7) (.c (.int 3)))) .nl) .nl))) .nl))))
          (.ex (.me .append (.v 4) (.cs (.bi .tuple (.cs (.comp 2 (.ix (.v 6) (.v 9)) (.one 9) (.iSeq (.ix (.v 0) (.c (.int 3)))) .nl) .nl)) .nl))))))) (gs.map rowD)
        [some l.toD, some (.loc c), some (.tup (l.works.map Wk.toD)), some (.loc S.length), some (.loc (S.length + 4)), x5, x6, x7] T = .ok (.nx σ') T' ∧ T'.take S.length = S ∧ T'[S.length + 4]? = some (.lst (told ++ ansFrom l.works l.outs rows gs)) ∧ σ'[4]? = some (some (.loc (S.length + 4)))
  | [], rows, locs, told, T, x5, x6, x7, h, _, _, _, _, _ => ⟨T, _, by
      have hcS : c < S.length := (List.getElem?_eq_some_iff.mp hc).1
      have hT : T[c]? = some (.lst (inputs.map rowD)) := by rw [← List.getElem?_take_of_lt (j := S.length) hcS, h.pre]; exact hc
      rw [List.map_nil, forL_nil, still_ok (.inr ⟨c, rfl, hT⟩)]; rfl, h.pre, by rw [h.td]; simp [ansFrom], rfl⟩
  | g :: gs, rows, locs, told, T, x5, x6, x7, h, hr, h3, hi, hn, hn2 => by
    have hcS : c < S.length := (List.getElem?_eq_some_iff.mp hc).1
    have hT : T[c]? = some (.lst (inputs.map rowD)) := by rw [← List.getElem?_take_of_lt (j := S.length) hcS, h.pre]; exact hc
    have hgl := hi.len g List.mem_cons_self
    have hgv := hi.val g List.mem_cons_self
    have hrows1 : (T ++ [Cell.lst []])[S.length]? = some (.lst (locs.map .loc)) := (h.more (.lst [])).rws
    have hap1 := me_append (d := .loc T.length) hrows1 (by have := h.ra.len; unfold sizeMax; simp at hn2 ⊢; omega)
    have hnew := h.newrow
    rw [List.map_append] at hnew
    obtain ⟨T1, x7', e1, hA1, hV1, hL1⟩ := inner_ok (sub := sub) (n := n) hv (locs := locs) (L := T.length) (rows := rows) (told := told) (given := g) (N := l.works.length) (streams := l.streams) (ncrews := l.crews.length) (A0 := l.toD) (A1 := .loc c) (A2 := .tup (l.works.map Wk.toD)) (A4 := .loc (S.length + 4)) (W := l.works.map Wk.toD) hr h3 hgl hgv
      l.works [] _ x7 hnew (fun j w hj => by have := hl.works j w hj; simpa using this) (by simp) (by simp; omega)
    have hfor := for_ok (sub := sub) (cf := callF sub P (n + 2)) (t := .one 7) (it := .iSeq (.v 2)) (σ := [some l.toD, some (.loc c), some (.tup (l.works.map Wk.toD)), some (.loc S.length), some (.loc (S.length + 4)), some (rowD g), some (.loc T.length), x7]) (s := ⟨l.works.map Wk.toD, none, l.works.map Wk.toD⟩)
      (S := List.set (T ++ [Cell.lst []]) S.length (Cell.lst (locs.map D.loc ++ [D.loc T.length]))) (g_seq (r_v rfl) rfl) e1
    have hrl : (rowFrom rows g l.works []).length = l.works.length := by rw [hL1]; simp
    have hlast := hA1.last
    have hrise : ∀ (os : List Nat) (least : Nat), Rising l.works.length least os → ∀ k ∈ os, k < l.works.length := by
      intro os
      induction os with
      | nil => intro _ _ k hk; simp at hk
      | cons a r ih =>
        intro least ⟨_, h2, h3⟩ k hk
        rcases List.mem_cons.mp hk with rfl | hk
        · exact h2
        · exact ih _ h3 k hk
    have hcomp : ev sub (callF sub P (n + 2)) (.comp 2 (.ix (.v 6) (.v 9)) (.one 9) (.iSeq (.ix (.v 0) (.c (.int 3)))) .nl) [some l.toD, some (.loc c), some (.tup (l.works.map Wk.toD)), some (.loc S.length), some (.loc (S.length + 4)), some (rowD g), some (.loc T.length), x7'] T1 =
        .ok (.loc T1.length) (T1 ++ [.lst (l.outs.map fun k => .int ((rowFrom rows g l.works []).getD k 0))]) :=
      comp_mapA (f := natD) (o := none) (raw := l.outs.map natD) (g_seq (r_ix (r_v rfl) r_c (o_at rfl)) rfl) rfl (fun k hk => by
        have hkl := hrise l.outs 0 hl.outs k hk
        have hk' : k < (rowFrom rows g l.works []).length := hrl ▸ hkl
        exact r_ix (r_v rfl) (r_v rfl) (o_atL hlast (by rw [atI_nat']; simp [hk']))) (by have := rising_len hl.outs (Nat.zero_le _); unfold sizeMax; omega)
    have hA2 := hA1.more (.lst (l.outs.map fun k => .int ((rowFrom rows g l.works []).getD k 0)))
    have hap2 := me_append (d := outD l.outs (rowFrom rows g l.works [])) hA2.td (by unfold sizeMax; simp at hn; omega)
    have hA3 := hA2.tell (outD l.outs (rowFrom rows g l.works []))
    have hgood : GoodRows l.works.length (rows ++ [rowFrom rows g l.works []]) := ⟨fun r hm => by
      rcases List.mem_append.mp hm with z | z
      · exact hr.len r z
      · rw [List.mem_singleton.mp z]; exact hrl, fun r hm => by
      rcases List.mem_append.mp hm with z | z
      · exact hr.val r z
      · rw [List.mem_singleton.mp z]; exact hV1⟩
    obtain ⟨T', σ', e, hp, ht, hs⟩ := outer_ok hv hc hl hlen gs (rows ++ [rowFrom rows g l.works []]) (locs ++ [T.length]) (told ++ [outD l.outs (rowFrom rows g l.works [])]) _ (some (rowD g)) (some (.loc T.length)) x7' hA3 hgood (by simp; omega)
      ⟨fun r hm => hi.len r (List.mem_cons_of_mem _ hm), fun r hm => hi.val r (List.mem_cons_of_mem _ hm)⟩ (by simp at hn ⊢; omega) (by simp at hn2 ⊢; omega)
    refine ⟨T', σ', ?_, hp, by rw [ht, List.append_assoc]; rfl, hs⟩
    exact forL_step (still_ok (.inr ⟨c, rfl, hT⟩)) (body_run (x_seq (x_set (r_lst r_nl rfl)) (x_seq (x_ex (r_me (r_v rfl) (r_cs (r_v rfl) r_nl) hap1)) (x_seq hfor (x_ex (r_me (r_v rfl) (r_cs (r_bi (r_cs hcomp r_nl) o_tupN) r_nl) hap2)))))) e
theorem startRows_good {l : Lp} (hl : l.WF) : GoodRows l.works.length (startRows l.works) := by
  have one : ∀ b, b < 3 → (startRow l.works b).length = l.works.length ∧ ∀ v ∈ startRow l.works b, VR v := fun b hb => by
    refine ⟨by simp [startRow], fun v hm => ?_⟩
    obtain ⟨w, hw, rfl⟩ := List.mem_map.mp hm
    obtain ⟨i, hi⟩ := List.getElem?_of_mem hw
    have hW := hl.works i w hi
    have hb' : b < w.starts.length := by rw [hW.three]; exact hb
    rw [List.getD_eq_getElem?_getD, List.getElem?_eq_getElem hb']
    exact hW.starts _ (List.getElem_mem hb')
  refine ⟨fun r hr => ?_, fun r hr => ?_⟩
  · simp [startRows] at hr
    rcases hr with rfl | rfl | rfl
    · exact (one 2 (by decide)).1
    · exact (one 1 (by decide)).1
    · exact (one 0 (by decide)).1
  · simp [startRows] at hr
    rcases hr with rfl | rfl | rfl
    · exact (one 2 (by decide)).2
    · exact (one 1 (by decide)).2
    · exact (one 0 (by decide)).2
/-- all works are outs -/
theorem answers_ok (h : HB P) (hv : HV P) (hS : Lists S) {l : Lp} {c : Nat} {inputs : List (List Int)} (hc : S[c]? = some (.lst (inputs.map rowD))) (hl : l.WF) (hi : InpWF l.streams inputs) (hn : inputs.length ≤ 40) :
    callF sub P (n + 8) "answers" [l.toD, .loc c] S = .ok (.loc S.length) (S ++ [.lst (ansD l inputs)]) := by
  have hcS : c < S.length := (List.getElem?_eq_some_iff.mp hc).1
  have hwl := hl.nworks
  have hst : ∀ w ∈ l.works, w.starts.length = 3 := fun w hm => by
    obtain ⟨i, hi⟩ := List.getElem?_of_mem hm
    exact (hl.works i w hi).three
  have hsr := startrows_ok (sub := sub) (n := n + 6) (S := S) hv (works := l.works) (by omega) hst
  have hT : (S ++ [Cell.lst [.loc (S.length + 1), .loc (S.length + 2), .loc (S.length + 3)], .lst ((startRow l.works 2).map .int), .lst ((startRow l.works 1).map .int), .lst ((startRow l.works 0).map .int), .lst []])[c]? = some (.lst (inputs.map rowD)) := by
    rw [List.getElem?_append_left hcS]; exact hc
  have hci := checked_inputs_ok (sub := sub) (n := n + 2) h hv (l := l) hT hi (by have := hl.streams; omega) hn
  have hA : AT S (S ++ [Cell.lst [.loc (S.length + 1), .loc (S.length + 2), .loc (S.length + 3)], .lst ((startRow l.works 2).map .int), .lst ((startRow l.works 1).map .int), .lst ((startRow l.works 0).map .int), .lst []]) [S.length + 1, S.length + 2, S.length + 3] (startRows l.works) [] := by
    refine ⟨by simp, by simp, by simp, ⟨rfl, fun m k r h1 h2 => ?_⟩, fun k hk => ?_, by simp⟩
    · match m, h1, h2 with
      | 0, h1, h2 => simp [startRows] at h1 h2; subst h1; subst h2; simp
      | 1, h1, h2 => simp [startRows] at h1 h2; subst h1; subst h2; simp
      | 2, h1, h2 => simp [startRows] at h1 h2; subst h1; subst h2; simp
      | m + 3, h1, h2 => simp at h1
    · simp at hk
      rcases hk with rfl | rfl | rfl <;> omega
  obtain ⟨T', σ', e, hp, ht, hs⟩ := outer_ok (sub := sub) (n := n + 5) hv hc hl (by omega) inputs (startRows l.works) _ [] _ none none none hA (startRows_good hl) (by simp [startRows]) hi (by simp; omega) (by simp [startRows]; omega)
  have hsrc := srcOf_loc hT
  have hfor := for_ok (sub := sub) (cf := callF sub P (n + 7)) (t := .one 5) (it := .iSeq (.call "checked_inputs" (.cs (.v 0) (.cs (.v 1) .nl)))) (σ := [some l.toD, some (.loc c), some (.tup (l.works.map Wk.toD)), some (.loc S.length), some (.loc (S.length + 4)), none, none, none]) (s := ⟨inputs.map rowD, some c, inputs.map rowD⟩)
    (S := S ++ [Cell.lst [.loc (S.length + 1), .loc (S.length + 2), .loc (S.length + 3)], .lst ((startRow l.works 2).map .int), .lst ((startRow l.works 1).map .int), .lst ((startRow l.works 0).map .int), .lst []]) (g_seq (r_call (r_cs (r_v rfl) (r_cs (r_v rfl) r_nl)) hci) hsrc) e
  have hvar : ∀ T, varD σ' 4 T = .ok (.loc (S.length + 4)) T := fun T => by rw [varD_ap, hs]
  have h4 := fun σ : Sg => x_set (sub := sub) (cf := callF sub P (n + 7)) (σ := σ) (i := 4) (r_lst (S := S ++ [Cell.lst [.loc (S.length + 1), .loc (S.length + 2), .loc (S.length + 3)], .lst ((startRow l.works 2).map .int), .lst ((startRow l.works 1).map .int), .lst ((startRow l.works 0).map .int)]) r_nl rfl)
  rw [List.append_assoc, List.length_append] at h4
  have hlv := leave_at hp ht (ansFrom_cl l.works l.outs inputs _)
  exact x_call (ds := [l.toD, .loc c]) hv.answers rfl (x_seq (x_set (r_ix (r_call (r_cs (r_v rfl) r_nl) (checked_wf h hl)) r_c (o_at rfl))) (x_seq (x_set (r_call (r_cs (r_v rfl) r_nl) hsr)) (x_seq (h4 _) (x_seq hfor (x_ret (r_v (hvar _))))))) hlv

/-! ### rows, one behind the other -/
noncomputable def rowsFrom (works : List Wk) : List (List Int) → List (List Int) → List (List Int)
  | _, [] => []
  | rows, g :: gs => rowFrom rows g works [] :: rowsFrom works (rows ++ [rowFrom rows g works []]) gs
theorem ansFrom_rows (works : List Wk) (outs : List Nat) : ∀ (gs rows : List (List Int)), ansFrom works outs rows gs = (rowsFrom works rows gs).map (outD outs)
  | [], _ => rfl
  | g :: gs, rows => by show _ :: _ = _ :: _; rw [ansFrom_rows works outs gs]
theorem rowsFrom_len (works : List Wk) : ∀ (gs rows : List (List Int)), (rowsFrom works rows gs).length = gs.length
  | [], _ => rfl
  | g :: gs, rows => congrArg (· + 1) (rowsFrom_len works gs _)
theorem rowsFrom_app (works : List Wk) : ∀ (gs hs rows : List (List Int)), rowsFrom works rows (gs ++ hs) = rowsFrom works rows gs ++ rowsFrom works (rows ++ rowsFrom works rows gs) hs
  | [], hs, rows => by simp [rowsFrom]
  | g :: gs, hs, rows => by
    show _ :: rowsFrom works _ (gs ++ hs) = _
    rw [rowsFrom_app works gs hs]
    simp [rowsFrom, List.append_assoc]
theorem rowsFrom_take (works : List Wk) : ∀ (gs rows : List (List Int)) (m : Nat), rowsFrom works rows (gs.take m) = (rowsFrom works rows gs).take m
  | _, _, 0 => by simp [rowsFrom]
  | [], _, m + 1 => rfl
  | g :: gs, rows, m + 1 => by
    show _ :: rowsFrom works _ (gs.take m) = _ :: _
    rw [rowsFrom_take works gs]
theorem rowsFrom_drop (works : List Wk) : ∀ (gs rows : List (List Int)) (m : Nat), rowsFrom works (rows ++ (rowsFrom works rows gs).take m) (gs.drop m) = (rowsFrom works rows gs).drop m
  | gs, rows, 0 => by simp
  | [], rows, m + 1 => by simp [rowsFrom]
  | g :: gs, rows, m + 1 => by
    have := rowsFrom_drop works gs (rows ++ [rowFrom rows g works []]) m
    rw [List.append_assoc] at this
    exact this
/-- what a row is made of: the last three rows -/
theorem srcV_last {a b x y z : List Int} {A B : List (List Int)} {row given : List Int} {s : Srs} {own many streams : Nat} (hs : s.WF own many streams) : srcV (A ++ [x, y, z] ++ [row]) given s = srcV (B ++ [x, y, z] ++ [row]) given s := by
  cases s with
  | val v => rfl
  | inp k => rfl
  | wrk w c =>
    obtain ⟨hc, _⟩ := hs
    simp only [srcV]
    congr 1
    have key : ∀ C : List (List Int), (C ++ [x, y, z] ++ [row]).getD ((C ++ [x, y, z] ++ [row]).length - 1 - c) [] = [x, y, z, row].getD (3 - c) [] := fun C => by
      have e : C ++ [x, y, z] ++ [row] = C ++ [x, y, z, row] := by simp
      rw [e, List.getD_eq_getElem?_getD, List.getD_eq_getElem?_getD, List.getElem?_append_right (by simp; omega)]
      congr 2
      simp; omega
    rw [key, key]
/-- two lists of works that differ in their starts alone -/
noncomputable def SameButStarts : List Wk → List Wk → Prop
  | [], [] => True
  | w :: ws, v :: vs => w.doing = v.doing ∧ w.srcs = v.srcs ∧ SameButStarts ws vs
  | _, _ => False
theorem rowFrom_last {x y z given : List Int} {A B : List (List Int)} {N streams ncrews : Nat} : ∀ (ws vs : List Wk) (row : List Int), SameButStarts ws vs → (∀ w ∈ ws, ∃ own, w.WF own N streams ncrews) → rowFrom (A ++ [x, y, z]) given ws row = rowFrom (B ++ [x, y, z]) given vs row
  | [], [], row, _, _ => rfl
  | w :: ws, v :: vs, row, ⟨h1, h2, h3⟩, hw => by
    obtain ⟨own, hW⟩ := hw w List.mem_cons_self
    have e : w.srcs.map (srcV (A ++ [x, y, z] ++ [row]) given) = v.srcs.map (srcV (B ++ [x, y, z] ++ [row]) given) := by
      rw [← h2]
      exact List.map_congr_left fun s hs => srcV_last (a := x) (b := x) (hW.srcs s hs)
    show rowFrom _ given ws (row ++ [outc w.doing (w.srcs.map (srcV (A ++ [x, y, z] ++ [row]) given))]) = rowFrom _ given vs (row ++ [outc v.doing (v.srcs.map (srcV (B ++ [x, y, z] ++ [row]) given))])
    rw [e, h1]
    exact rowFrom_last ws vs _ h3 fun u hu => hw u (List.mem_cons_of_mem _ hu)
  | [], _ :: _, _, h, _ => h.elim
  | _ :: _, [], _, h, _ => h.elim
theorem rowsFrom_last {N streams ncrews : Nat} {ws vs : List Wk} (hs : SameButStarts ws vs) (hw : ∀ w ∈ ws, ∃ own, w.WF own N streams ncrews) : ∀ (gs : List (List Int)) {x y z : List Int} {A B : List (List Int)}, rowsFrom ws (A ++ [x, y, z]) gs = rowsFrom vs (B ++ [x, y, z]) gs
  | [], _, _, _, _, _ => rfl
  | g :: gs, x, y, z, A, B => by
    have e := rowFrom_last (A := A) (B := B) (x := x) (y := y) (z := z) (given := g) ws vs [] hs hw
    have key : ∀ C : List (List Int), C ++ [x, y, z] ++ [rowFrom (A ++ [x, y, z]) g ws []] = (C ++ [x]) ++ [y, z, rowFrom (A ++ [x, y, z]) g ws []] := fun C => by simp
    show _ :: rowsFrom ws (A ++ [x, y, z] ++ [rowFrom (A ++ [x, y, z]) g ws []]) gs = _ :: rowsFrom vs (B ++ [x, y, z] ++ [rowFrom (B ++ [x, y, z]) g vs []]) gs
    rw [← e, key A, key B]
    congr 1
    exact rowsFrom_last hs hw gs
theorem rowFrom_good {N streams ncrews : Nat} {rows : List (List Int)} {given : List Int} (hr : GoodRows N rows) (h3 : 3 ≤ rows.length) (hg : given.length = streams) (hgv : ∀ v ∈ given, VR v) : ∀ (ws : List Wk) (row : List Int), (∀ (j : Nat) w, ws[j]? = some w → w.WF (row.length + j) N streams ncrews) → (∀ v ∈ row, VR v) → (rowFrom rows given ws row).length = row.length + ws.length ∧ ∀ v ∈ rowFrom rows given ws row, VR v
  | [], row, _, h => ⟨rfl, h⟩
  | w :: ws, row, hw, hrow => by
    have hw0 : w.WF row.length N streams ncrews := hw 0 w rfl
    have hsv := srcV_ok hw0 hr h3 hrow hg hgv
    have hne : w.srcs.map (srcV (rows ++ [row]) given) ≠ [] := by
      intro e
      have := hw0.some.1
      rw [List.map_eq_nil_iff] at e
      rw [e] at this; simp at this
    have hall : ∀ v ∈ w.srcs.map (srcV (rows ++ [row]) given), VR v := fun v hm => by
      obtain ⟨s, hs, rfl⟩ := List.mem_map.mp hm
      exact (hsv s hs).2
    obtain ⟨h1, h2⟩ := rowFrom_good hr h3 hg hgv ws (row ++ [outc w.doing (w.srcs.map (srcV (rows ++ [row]) given))])
      (fun j u hj => by
        have := hw (j + 1) u (by simpa using hj)
        rw [show row.length + (j + 1) = (row ++ [outc w.doing (w.srcs.map (srcV (rows ++ [row]) given))]).length + j by simp; omega] at this
        exact this)
      (fun v hm => by
        rcases List.mem_append.mp hm with z | z
        · exact hrow v z
        · rw [List.mem_singleton.mp z]; exact outc_VR hne hall)
    refine ⟨?_, h2⟩
    show (rowFrom rows given ws _).length = _
    rw [h1]; simp; omega
theorem rowsFrom_good {l : Lp} (hl : l.WF) : ∀ (gs rows : List (List Int)), GoodRows l.works.length rows → 3 ≤ rows.length → InpWF l.streams gs → GoodRows l.works.length (rowsFrom l.works rows gs)
  | [], _, _, _, _ => ⟨fun r h => by simp [rowsFrom] at h, fun r h => by simp [rowsFrom] at h⟩
  | g :: gs, rows, hr, h3, hi => by
    have h := rowFrom_good (ncrews := l.crews.length) hr h3 (hi.len g List.mem_cons_self) (hi.val g List.mem_cons_self) l.works [] (fun j w hj => by have := hl.works j w hj; simpa using this) (by simp)
    have hlen : (rowFrom rows g l.works []).length = l.works.length := by rw [h.1]; simp
    have ih := rowsFrom_good hl gs (rows ++ [rowFrom rows g l.works []]) ⟨fun r hm => by
      rcases List.mem_append.mp hm with z | z
      · exact hr.len r z
      · rw [List.mem_singleton.mp z]; exact hlen, fun r hm => by
      rcases List.mem_append.mp hm with z | z
      · exact hr.val r z
      · rw [List.mem_singleton.mp z]; exact h.2⟩ (by simp; omega) ⟨fun r hm => hi.len r (List.mem_cons_of_mem _ hm), fun r hm => hi.val r (List.mem_cons_of_mem _ hm)⟩
    exact ⟨fun r hm => by
      rcases List.mem_cons.mp hm with rfl | hm
      · exact hlen
      · exact ih.len r hm, fun r hm => by
      rcases List.mem_cons.mp hm with rfl | hm
      · exact h.2
      · exact ih.val r hm⟩
theorem outD_all {row : List Int} {N : Nat} (h : row.length = N) : outD (List.range N) row = rowD row := by
  unfold outD rowD
  congr 1
  apply List.ext_getElem?
  intro i
  rw [List.getElem?_map, List.getElem?_map]
  by_cases hi : i < N
  · rw [List.getElem?_range hi]
    have : i < row.length := by omega
    simp [this]
  · rw [List.getElem?_eq_none (by simp; omega), List.getElem?_eq_none (by omega)]
    rfl
end RL

set_option linter.all false
set_option maxRecDepth 100000
/-! the answers of the first rounds; going on -/
namespace K03
open PySem EV GO RL
noncomputable def f_law : Fn := ⟨1, 9, (.seq (.set (.one 1) (.call "_law_loop" (.cs (.v 0) (.cs (.c (.int 2)) (.cs (.c (.int 4)) .nl)))))
  (.seq (.set (.one 2) (.call "_law_inputs" (.cs (.v 0) (.cs (.c (.int 0)) (.cs (.ix (.v 1) (.c (.int 0))) (.cs (.c (.int 12)) .nl))))))
  (.seq (.set (.one 3) (.bin .add (.sl (.v 1) .nl (.c (.int 3))) (.tup (.cs (.bi .rangeT (.cs (.bi .len (.cs (.ix (.v 1) (.c (.int 2))) .nl)) .nl)) .nl))))
  (.seq (.set (.one 4) (.call "answers" (.cs (.v 3) (.cs (.v 2) .nl))))
  (.seq (.forS (.one 5) (.iRng (.cs (.bin .add (.bi .len (.cs (.v 2) .nl)) (.c (.int 1))) .nl))
    (.seq (.ite (.cmp .ne (.call "answers" (.cs (.v 3) (.cs (.sl (.v 2) .nl (.v 5)) .nl))) (.sl (.v 4) .nl (.v 5)))
    (.ret (.c (.bl false)))
    .skip)
  (.ite (.cmp .gt (.v 5) (.c (.int 2)))
    (.seq (.set (.one 6) (.lst .nl))
  (.seq (.forS (.many [7, 8]) (.iEnum (.ix (.v 1) (.c (.int 2))))
    (.ex (.me .append (.v 6) (.cs (.bin .add (.sl (.v 8) .nl (.c (.int 4))) (.tup (.cs (.bi .tuple (.cs (.comp 2 (.ix (.ix (.v 4) (.bin .sub (.v 5) (.v 10))) (.v 7)) (.one 10) (.iSeq (.tup (.cs (.c (.int 1)) (.cs (.c (.int 2)) (.cs (.c (.int 3)) .nl))))) .nl) .nl)) .nl))) .nl))))
  (.ite (.cmp .ne (.call "answers" (.cs (.tup (.cs (.ix (.v 1) (.c (.int 0))) (.cs (.ix (.v 1) (.c (.int 1))) (.cs (.bi .tuple (.cs (.v 6) .nl)) (.cs (.ix (.v 3) (.c (.int 3))) .nl))))) (.cs (.sl (.v 2) (.v 5) .nl) .nl))) (.sl (.v 4) (.v 5) .nl))
    (.ret (.c (.bl false)))
    .skip)))
    .skip)))
  (.ret (.c (.bl true))))))))⟩
noncomputable def Pd : Prg := [("is_whole", f_is_whole), ("is_value", f_is_value), ("is_row", f_is_row), ("is_crew", f_is_crew), ("are_crews", f_are_crews), ("is_work_source", f_is_work_source), ("is_source", f_is_source), ("are_starts", f_are_starts), ("is_work", f_is_work), ("are_works", f_are_works), ("are_outs", f_are_outs), ("is_loop", f_is_loop), ("checked", f_checked), ("is_given", f_is_given), ("are_inputs", f_are_inputs), ("checked_inputs", f_checked_inputs), ("product", f_product), ("outcome", f_outcome), ("start_rows", f_start_rows), ("source_value", f_source_value), ("answers", f_answers), ("_law_cell_at", f__law_cell_at), ("_law_mixed", f__law_mixed), ("_law_source", f__law_source), ("_law_work", f__law_work), ("_law_loop", f__law_loop), ("_law_inputs", f__law_inputs), ("law", f_law)]

theorem hB : HB Pd := ⟨rfl, rfl, rfl, rfl, rfl, rfl, rfl, rfl, rfl, rfl, rfl, rfl, rfl⟩
theorem hV : HV Pd := ⟨rfl, rfl, rfl, rfl, rfl, rfl, rfl, rfl⟩
theorem hG : HG Pd := ⟨rfl, rfl, rfl, rfl, rfl⟩
theorem hI : Has Pd "_law_inputs" f__law_inputs := rfl
theorem hL : Has Pd "law" f_law := rfl

/-! ### the mathematics -/
/-- all works are outs -/
noncomputable def whole (l : Lp) : Lp := { l with outs := List.range l.works.length }
theorem rising_range : ∀ (c k many : Nat), k + c ≤ many → Rising many k (List.range' k c)
  | 0, _, _, _ => trivial
  | c + 1, k, many, h => by
    rw [List.range'_succ]
    exact ⟨Nat.le_refl _, by omega, rising_range c (k + 1) many (by omega)⟩
theorem whole_wf {l : Lp} (h : l.WF) : (whole l).WF :=
  ⟨h.streams, h.ncrews, h.crews, h.nworks, h.works, by show 1 ≤ (List.range l.works.length).length; rw [List.length_range]; exact h.nworks.1, by
    show Rising l.works.length 0 (List.range l.works.length)
    rw [List.range_eq_range']; exact rising_range _ 0 _ (by omega)⟩
noncomputable def found (l : Lp) (inp : List (List Int)) : List (List Int) := rowsFrom l.works (startRows l.works) inp
theorem found_good {l : Lp} (h : l.WF) {inp : List (List Int)} (hi : InpWF l.streams inp) : GoodRows l.works.length (found l inp) := rowsFrom_good h inp _ (startRows_good h) (by simp [startRows]) hi
theorem ans_whole {l : Lp} (h : l.WF) {inp : List (List Int)} (hi : InpWF l.streams inp) : ansD (whole l) inp = (found l inp).map rowD := by
  unfold ansD
  rw [ansFrom_rows]
  have hg := found_good h hi
  exact List.map_congr_left fun r hr => outD_all (hg.len r hr)
/-- the works, their starts the rows before m -/
noncomputable def onWork (F : List (List Int)) (m j : Nat) (w : Wk) : Wk := { w with starts := [(F.getD (m - 1) []).getD j 0, (F.getD (m - 2) []).getD j 0, (F.getD (m - 3) []).getD j 0] }
noncomputable def onWorks (F : List (List Int)) (m : Nat) : Nat → List Wk → List Wk
  | _, [] => []
  | j, w :: ws => onWork F m j w :: onWorks F m (j + 1) ws
theorem onWorks_len (F : List (List Int)) (m : Nat) : ∀ (ws : List Wk) (j : Nat), (onWorks F m j ws).length = ws.length
  | [], _ => rfl
  | _ :: ws, j => congrArg (· + 1) (onWorks_len F m ws (j + 1))
theorem onWorks_get (F : List (List Int)) (m : Nat) : ∀ (ws : List Wk) (j i : Nat), (onWorks F m j ws)[i]? = (ws[i]?).map (onWork F m (j + i))
  | [], _, _ => by simp [onWorks]
  | w :: ws, j, 0 => by simp [onWorks]
  | w :: ws, j, i + 1 => by
    have := onWorks_get F m ws (j + 1) i
    rw [show j + 1 + i = j + (i + 1) by omega] at this
    simpa [onWorks] using this
theorem onWorks_same (F : List (List Int)) (m : Nat) : ∀ (ws : List Wk) (j : Nat), SameButStarts ws (onWorks F m j ws)
  | [], _ => trivial
  | w :: ws, j => ⟨rfl, rfl, onWorks_same F m ws (j + 1)⟩
noncomputable def onLoop (l : Lp) (F : List (List Int)) (m : Nat) : Lp := { whole l with works := onWorks F m 0 l.works }
theorem getD_VR {F : List (List Int)} {N k j : Nat} (hF : GoodRows N F) (hk : k < F.length) (hj : j < N) : VR ((F.getD k []).getD j 0) := by
  have hm := List.getElem_mem hk
  have hl : j < F[k].length := by rw [hF.len _ hm]; exact hj
  rw [List.getD_eq_getElem?_getD (l := F), List.getElem?_eq_getElem hk]
  show VR (F[k].getD j 0)
  rw [List.getD_eq_getElem?_getD, List.getElem?_eq_getElem hl]
  exact hF.val _ hm _ (List.getElem_mem hl)
theorem onLoop_wf {l : Lp} (h : l.WF) {F : List (List Int)} {m : Nat} (hF : GoodRows l.works.length F) (h3 : 3 ≤ m) (hm : m ≤ F.length) : (onLoop l F m).WF := by
  have hW := whole_wf h
  have hlen : (onLoop l F m).works.length = l.works.length := onWorks_len F m l.works 0
  refine ⟨hW.streams, hW.ncrews, hW.crews, by rw [hlen]; exact h.nworks, fun i w hi => ?_, hW.nouts, by rw [hlen]; exact hW.outs⟩
  rw [hlen]
  have hi : (onWorks F m 0 l.works)[i]? = some w := hi
  rw [onWorks_get] at hi
  cases q : l.works[i]? with
  | none => rw [q] at hi; cases hi
  | some v =>
    rw [q] at hi
    cases hi
    have hv := h.works i v q
    have hil : i < l.works.length := (List.getElem?_eq_some_iff.mp q).1
    refine ⟨hv.crew, hv.long, hv.doing, hv.some, hv.srcs, rfl, fun x hx => ?_⟩
    rw [Nat.zero_add] at hx
    have hx : x ∈ [(F.getD (m - 1) []).getD i 0, (F.getD (m - 2) []).getD i 0, (F.getD (m - 3) []).getD i 0] := hx
    simp only [List.mem_cons, List.not_mem_nil, or_false] at hx
    rcases hx with rfl | rfl | rfl
    · exact getD_VR hF (by omega) hil
    · exact getD_VR hF (by omega) hil
    · exact getD_VR hF (by omega) hil
theorem startRow_on {F : List (List Int)} {N m b : Nat} (hF : GoodRows N F) (hb : b < 3) (h3 : 3 ≤ m) (hm : m ≤ F.length) {ws : List Wk} (hN : ws.length = N) : startRow (onWorks F m 0 ws) b = F.getD (m - 1 - b) [] := by
  have hk : m - 1 - b < F.length := by omega
  have hg : F.getD (m - 1 - b) [] = F[m - 1 - b] := by rw [List.getD_eq_getElem?_getD, List.getElem?_eq_getElem hk]; rfl
  have hl : F[m - 1 - b].length = N := hF.len _ (List.getElem_mem hk)
  rw [hg]
  apply List.ext_getElem?
  intro i
  unfold startRow
  rw [List.getElem?_map, onWorks_get, Nat.zero_add]
  by_cases hi : i < N
  · rw [List.getElem?_eq_getElem (show i < ws.length by omega), List.getElem?_eq_getElem (show i < F[m - 1 - b].length by omega)]
    simp only [Option.map_some]
    congr 1
    have e : (F[m - 1 - b].getD i 0) = F[m - 1 - b][i] := by rw [List.getD_eq_getElem?_getD, List.getElem?_eq_getElem (show i < F[m - 1 - b].length by omega)]; rfl
    rw [← e, ← hg]
    have hb' : b = 0 ∨ b = 1 ∨ b = 2 := by omega
    rcases hb' with rfl | rfl | rfl
    · rfl
    · rw [show m - 1 - 1 = m - 2 by omega]; rfl
    · rw [show m - 1 - 2 = m - 3 by omega]; rfl
  · rw [List.getElem?_eq_none (show ws.length ≤ i by omega), List.getElem?_eq_none (show F[m - 1 - b].length ≤ i by omega)]
    rfl
theorem ans_on {l : Lp} (h : l.WF) {inp : List (List Int)} (hi : InpWF l.streams inp) {m : Nat} (h3 : 3 ≤ m) (hm : m ≤ inp.length) : ansD (onLoop l (found l inp) m) (inp.drop m) = ((found l inp).drop m).map rowD := by
  have hF := found_good h hi
  have hlenF : (found l inp).length = inp.length := rowsFrom_len _ _ _
  generalize hFe : found l inp = F at hF hlenF
  unfold ansD
  rw [ansFrom_rows]
  have e1 : startRows (onLoop l F m).works = [] ++ [F.getD (m - 3) [], F.getD (m - 2) [], F.getD (m - 1) []] := by
    show [startRow (onWorks F m 0 l.works) 2, startRow (onWorks F m 0 l.works) 1, startRow (onWorks F m 0 l.works) 0] = _
    rw [startRow_on hF (by decide) h3 (by omega) rfl, startRow_on hF (by decide) h3 (by omega) rfl, startRow_on hF (by decide) h3 (by omega) rfl]
    rw [show m - 1 - 2 = m - 3 by omega, show m - 1 - 1 = m - 2 by omega]
    rfl
  have e2 : startRows l.works ++ F.take m = (startRows l.works ++ F.take (m - 3)) ++ [F.getD (m - 3) [], F.getD (m - 2) [], F.getD (m - 1) []] := by
    have key : F.take m = F.take (m - 3) ++ [F.getD (m - 3) [], F.getD (m - 2) [], F.getD (m - 1) []] := by
      apply List.ext_getElem?
      intro i
      by_cases hi : i < m
      · rw [List.getElem?_take_of_lt hi]
        by_cases hi2 : i < m - 3
        · rw [List.getElem?_append_left (by simp; omega), List.getElem?_take_of_lt hi2]
        · rw [List.getElem?_append_right (by simp; omega)]
          have hlt : (F.take (m - 3)).length = m - 3 := by simp; omega
          rw [hlt]
          have hg : ∀ k, k < F.length → F.getD k [] = F[k]! := fun k hk => by simp [hk]
          have : i - (m - 3) = 0 ∨ i - (m - 3) = 1 ∨ i - (m - 3) = 2 := by omega
          rcases this with z | z | z
          · rw [z, show i = m - 3 by omega]; simp [show m - 3 < F.length by omega]
          · rw [z, show i = m - 2 by omega]; simp [show m - 2 < F.length by omega]
          · rw [z, show i = m - 1 by omega]; simp [show m - 1 < F.length by omega]
      · rw [List.getElem?_eq_none (by simp; omega), List.getElem?_eq_none (by simp; omega)]
    rw [key, List.append_assoc]
  have hw : ∀ w ∈ l.works, ∃ own, w.WF own l.works.length l.streams l.crews.length := fun w hm => by
    obtain ⟨i, hi⟩ := List.getElem?_of_mem hm
    exact ⟨i, h.works i w hi⟩
  have e3 := rowsFrom_last (onWorks_same F m l.works 0) hw (inp.drop m) (x := F.getD (m - 3) []) (y := F.getD (m - 2) []) (z := F.getD (m - 1) []) (A := startRows l.works ++ F.take (m - 3)) (B := [])
  have e4 : rowsFrom l.works (startRows l.works ++ F.take m) (inp.drop m) = F.drop m := by
    rw [← hFe]; exact rowsFrom_drop l.works inp _ m
  rw [e1]
  show (rowsFrom (onWorks F m 0 l.works) _ _).map (outD (List.range l.works.length)) = _
  rw [← e3, ← e2, e4]
  exact List.map_congr_left fun r hr => outD_all (hF.len r (List.mem_of_mem_drop hr))

/-! ### the law -/
variable {mx : List Int → Int → Int → Int}
theorem lists_app {S T : Store} (h1 : Lists S) (h2 : Lists T) : Lists (S ++ T) := fun l c h => by
  by_cases hl : l < S.length
  · rw [List.getElem?_append_left hl] at h; exact h1 l c h
  · rw [List.getElem?_append_right (by omega)] at h; exact h2 _ c h
theorem lists_one (ds : List D) : Lists [Cell.lst ds] := fun l c h => by
  have := List.mem_of_getElem? h
  exact ⟨ds, by simpa using this⟩
theorem lists_nil : Lists [] := fun l c h => by simp at h
theorem rows_eq {T : Store} (F : List (List Int)) : eqDs (eqD 11 T) (F.map rowD) (F.map rowD) = some true := eqDs_self fun x hx => by
  obtain ⟨r, _, rfl⟩ := List.mem_map.mp hx
  exact eqD_ints 9 r
theorem get_left {T G : Store} {k : Nat} {c : Cell} (h : T[k]? = some c) : (T ++ G)[k]? = some c := by
  rw [List.getElem?_append_left (List.getElem?_eq_some_iff.mp h).1]; exact h
/-- the works that go on -/
theorem works_ok {sub : Sub} {n : Nat} {l : Lp} (hl : l.WF) {F : List (List Int)} (hF : GoodRows l.works.length F) {m : Nat} (h3 : 3 ≤ m) (hm : m ≤ F.length) {B : Store} {A0 A2 A3 : D} {fnd : Nat} (hf : B[fnd]? = some (.lst (F.map rowD))) (x7 x8 : Option D) :
    ∃ x7' x8' G, exec sub (callF sub Pd n) (.forS (.many [7, 8]) (.iEnum (.ix (.v 1) (.c (.int 2)))) (.ex (.me .append (.v 6) (.cs (.bin .add (.sl (.v 8) .nl (.c (.int 4))) (.tup (.cs (.bi .tuple (.cs (.comp 2 (.ix (.ix (.v 4) (.bin .sub (.v 5) (.v 10))) (.v 7)) (.one 10) (.iSeq (.tup (.cs (.c (.int 1)) (.cs (.c (.int 2)) (.cs (.c (.int 3)) .nl))))) .nl) .nl)) .nl))) .nl))))
      [some A0, some l.toD, some A2, some A3, some (.loc fnd), some (.int m), some (.loc B.length), x7, x8] (B ++ [.lst []]) =
      .ok (.nx [some A0, some l.toD, some A2, some A3, some (.loc fnd), some (.int m), some (.loc B.length), x7', x8']) (B ++ .lst ((onWorks F m 0 l.works).map Wk.toD) :: G) ∧ Lists G := by
  have hnum : (num 0 (l.works.map Wk.toD)).length = l.works.length := by rw [num_length', List.length_map]
  have hwl := hl.nworks
  obtain ⟨σ', T', e, x7', x8', G, hσ, hT, hG⟩ := for_inv (sub := sub) (cf := callF sub Pd n) (t := .many [7, 8]) (it := .iEnum (.ix (.v 1) (.c (.int 2)))) (b := .ex (.me .append (.v 6) (.cs (.bin .add (.sl (.v 8) .nl (.c (.int 4))) (.tup (.cs (.bi .tuple (.cs (.comp 2 (.ix (.ix (.v 4) (.bin .sub (.v 5) (.v 10))) (.v 7)) (.one 10) (.iSeq (.tup (.cs (.c (.int 1)) (.cs (.c (.int 2)) (.cs (.c (.int 3)) .nl))))) .nl) .nl)) .nl))) .nl)))
    (σ := [some A0, some l.toD, some A2, some A3, some (.loc fnd), some (.int m), some (.loc B.length), x7, x8]) (S := B ++ [.lst []]) (S1 := B ++ [.lst []]) (s := ⟨num 0 (l.works.map Wk.toD), none, l.works.map Wk.toD⟩)
    (fun i σ T => ∃ x7 x8 G, σ = [some A0, some l.toD, some A2, some A3, some (.loc fnd), some (.int m), some (.loc B.length), x7, x8] ∧ T = B ++ .lst ((onWorks F m 0 (l.works.take i)).map Wk.toD) :: G ∧ Lists G)
    (by simp [Lp.toD]) ⟨x7, x8, [], rfl, rfl, lists_nil⟩ (fun _ _ _ _ => rfl) (fun i hi σ T ⟨x7, x8, G, hσ, hT, hG⟩ => by
      subst hσ; subst hT
      have hi' : i < l.works.length := by rw [← hnum]; exact hi
      have hit : (num 0 (l.works.map Wk.toD))[i] = .tup [.int (i : Int), (l.works[i]).toD] := by
        rw [num_getE]; simp
      show ∃ σ' T', bodyF sub (callF sub Pd n) _ _ (num 0 (l.works.map Wk.toD))[i] _ _ = _ ∧ _
      rw [hit, body_many _ _ _ _ _ rfl]
      simp only [setAll, List.set_cons_succ, List.set_cons_zero]
      have hf2 : ∀ G', (B ++ .lst ((onWorks F m 0 (l.works.take i)).map Wk.toD) :: G')[fnd]? = some (.lst (F.map rowD)) := fun G' => get_left hf
      have hat : ∀ b : Int, 1 ≤ b → b ≤ 3 → atI (F.map rowD) ((m : Int) - b) = some (rowD (F.getD (m - b.toNat) [])) := fun b h1 h2 => by
        rw [show (m : Int) - b = ((m - b.toNat : Nat) : Int) by omega, atI_nat', List.getElem?_map, List.getD_eq_getElem?_getD, List.getElem?_eq_getElem (show m - b.toNat < F.length by omega)]; rfl
      have hat2 : ∀ b : Int, 1 ≤ b → b ≤ 3 → ∀ S : Store, ixD (rowD (F.getD (m - b.toNat) [])) (.int (i : Int)) S = .ok (.int ((F.getD (m - b.toNat) []).getD i 0)) S := fun b h1 h2 S => by
        have hk : m - b.toNat < F.length := by omega
        have hg : F.getD (m - b.toNat) [] = F[m - b.toNat] := by rw [List.getD_eq_getElem?_getD, List.getElem?_eq_getElem hk]; rfl
        have hlr : i < F[m - b.toNat].length := by rw [hF.len _ (List.getElem_mem hk)]; exact hi'
        rw [hg]
        exact o_at (by rw [atI_nat', List.getElem?_map, List.getD_eq_getElem?_getD, List.getElem?_eq_getElem hlr]; rfl)
      have hcomp : ev sub (callF sub Pd n) (.comp 2 (.ix (.ix (.v 4) (.bin .sub (.v 5) (.v 10))) (.v 7)) (.one 10) (.iSeq (.tup (.cs (.c (.int 1)) (.cs (.c (.int 2)) (.cs (.c (.int 3)) .nl))))) .nl)
          [some A0, some l.toD, some A2, some A3, some (.loc fnd), some (.int m), some (.loc B.length), some (.int (i : Int)), some (l.works[i]).toD] (B ++ .lst ((onWorks F m 0 (l.works.take i)).map Wk.toD) :: G) =
          .ok (.loc (B ++ .lst ((onWorks F m 0 (l.works.take i)).map Wk.toD) :: G).length) ((B ++ .lst ((onWorks F m 0 (l.works.take i)).map Wk.toD) :: G) ++ [.lst ([(F.getD (m - 1) []).getD i 0, (F.getD (m - 2) []).getD i 0, (F.getD (m - 3) []).getD i 0].map .int)]) := by
        have := comp_mapA (sub := sub) (cf := callF sub Pd n) (k := 2) (i := 10) (el := .ix (.ix (.v 4) (.bin .sub (.v 5) (.v 10))) (.v 7)) (it := .iSeq (.tup (.cs (.c (.int 1)) (.cs (.c (.int 2)) (.cs (.c (.int 3)) .nl)))))
          (σ := [some A0, some l.toD, some A2, some A3, some (.loc fnd), some (.int m), some (.loc B.length), some (.int (i : Int)), some (l.works[i]).toD]) (S := B ++ .lst ((onWorks F m 0 (l.works.take i)).map Wk.toD) :: G) (S1 := B ++ .lst ((onWorks F m 0 (l.works.take i)).map Wk.toD) :: G)
          (ks := [1, 2, 3]) (f := fun (b : Int) => .int b) (g := fun (b : Int) => .int ((F.getD (m - b.toNat) []).getD i 0)) (o := none) (raw := [.int 1, .int 2, .int 3]) (g_seq (x := .tup [.int 1, .int 2, .int 3]) (r_tup (r_cs r_c (r_cs r_c (r_cs r_c r_nl))) rfl) rfl) rfl (fun b hb => by
            have hb : 1 ≤ b ∧ b ≤ 3 := by
              have : b = 1 ∨ b = 2 ∨ b = 3 := by simpa using hb
              omega
            exact r_ix (r_ix (r_v rfl) (r_bin (r_v rfl) (r_v rfl) (op_sub_ii _ _ _)) (o_atL (hf2 G) (hat b hb.1 hb.2))) (r_v rfl) (hat2 b hb.1 hb.2 _)) (by decide)
        exact this
      have hcut : cut [D.int (l.works[i]).crew, .int (l.works[i]).long, .str (l.works[i]).doing, .tup ((l.works[i]).srcs.map Srs.toD), .tup ((l.works[i]).starts.map .int)] none (some 4) = [D.int (l.works[i]).crew, .int (l.works[i]).long, .str (l.works[i]).doing, .tup ((l.works[i]).srcs.map Srs.toD)] := cut_to _ 4
      have hsl : slD (l.works[i]).toD none (some 4) = fun S => .ok (.tup [D.int (l.works[i]).crew, .int (l.works[i]).long, .str (l.works[i]).doing, .tup ((l.works[i]).srcs.map Srs.toD)]) S := by
        funext S; unfold Wk.toD; rw [slD_tup, hcut]
      have hz : ((onWorks F m 0 (l.works.take i)).map Wk.toD).length ≤ 1000000 := by
        rw [List.length_map, onWorks_len, List.length_take]; omega
      have hit2 := items_app0 (B ++ .lst ((onWorks F m 0 (l.works.take i)).map Wk.toD) :: G) [] ([(F.getD (m - 1) []).getD i 0, (F.getD (m - 2) []).getD i 0, (F.getD (m - 3) []).getD i 0].map .int)
      have hval : D.tup ([D.int (l.works[i]).crew, .int (l.works[i]).long, .str (l.works[i]).doing, .tup ((l.works[i]).srcs.map Srs.toD)] ++ [.tup ([(F.getD (m - 1) []).getD i 0, (F.getD (m - 2) []).getD i 0, (F.getD (m - 3) []).getD i 0].map .int)]) = (onWork F m i l.works[i]).toD := rfl
      refine ⟨_, _, ?_, some (.int (i : Int)), some (l.works[i]).toD, G ++ [.lst ([(F.getD (m - 1) []).getD i 0, (F.getD (m - 2) []).getD i 0, (F.getD (m - 3) []).getD i 0].map .int)], rfl, rfl, lists_app hG (lists_one _)⟩
      have hfit : fits ([D.int (l.works[i]).crew, .int (l.works[i]).long, .str (l.works[i]).doing, .tup ((l.works[i]).srcs.map Srs.toD)].length + [D.tup ([(F.getD (m - 1) []).getD i 0, (F.getD (m - 2) []).getD i 0, (F.getD (m - 3) []).getD i 0].map .int)].length) = true := fits_le' (by show 4 + 1 ≤ 1000; decide)
      have hfit1 : fits [D.tup ([(F.getD (m - 1) []).getD i 0, (F.getD (m - 2) []).getD i 0, (F.getD (m - 3) []).getD i 0].map .int)].length = true := fits_le' (by show 1 ≤ 1000; decide)
      have hap := me_app0 (S := B) (T := G ++ [.lst ([(F.getD (m - 1) []).getD i 0, (F.getD (m - 2) []).getD i 0, (F.getD (m - 3) []).getD i 0].map .int)]) (xs := (onWorks F m 0 (l.works.take i)).map Wk.toD) (d := (onWork F m i l.works[i]).toD) hz
      rw [← List.cons_append, ← List.append_assoc] at hap
      refine (x_ex (r_me (r_v rfl) (r_cs (r_bin (r_sl (r_v rfl) partE_nl (partE_c 4) (congrFun hsl _)) (r_tup (r_cs (r_bi (r_cs hcomp r_nl) o_tupN) r_nl) rfl) (o_addT hfit)) r_nl) hap)).trans ?_
      congr 4
      rw [← List.map_singleton (f := Wk.toD), ← List.map_append]
      congr 1
      apply List.ext_getElem?
      intro k
      rw [onWorks_get, Nat.zero_add]
      by_cases hk : k < i
      · rw [List.getElem?_append_left (by rw [onWorks_len, List.length_take]; omega), onWorks_get, List.getElem?_take_of_lt hk, List.getElem?_take_of_lt (by omega), Nat.zero_add]
      · rw [List.getElem?_append_right (by rw [onWorks_len, List.length_take]; omega), onWorks_len, List.length_take, Nat.min_eq_left (by omega)]
        by_cases hk2 : k = i
        · subst hk2
          rw [List.getElem?_take_of_lt (by omega), List.getElem?_eq_getElem hi']
          simp
        · rw [List.getElem?_eq_none (by simp; omega), List.getElem?_eq_none (by simp; omega)]
          rfl)
  subst hσ; subst hT
  refine ⟨x7', x8', G, ?_, hG⟩
  rw [e]
  congr 4
  show (onWorks F m 0 (l.works.take (num 0 (l.works.map Wk.toD)).length)).map Wk.toD = _
  rw [hnum, List.take_length]

noncomputable def bodyL : EV.S := (.seq (.ite (.cmp .ne (.call "answers" (.cs (.v 3) (.cs (.sl (.v 2) .nl (.v 5)) .nl))) (.sl (.v 4) .nl (.v 5)))
    (.ret (.c (.bl false)))
    .skip)
  (.ite (.cmp .gt (.v 5) (.c (.int 2)))
    (.seq (.set (.one 6) (.lst .nl))
  (.seq (.forS (.many [7, 8]) (.iEnum (.ix (.v 1) (.c (.int 2))))
    (.ex (.me .append (.v 6) (.cs (.bin .add (.sl (.v 8) .nl (.c (.int 4))) (.tup (.cs (.bi .tuple (.cs (.comp 2 (.ix (.ix (.v 4) (.bin .sub (.v 5) (.v 10))) (.v 7)) (.one 10) (.iSeq (.tup (.cs (.c (.int 1)) (.cs (.c (.int 2)) (.cs (.c (.int 3)) .nl))))) .nl) .nl)) .nl))) .nl))))
  (.ite (.cmp .ne (.call "answers" (.cs (.tup (.cs (.ix (.v 1) (.c (.int 0))) (.cs (.ix (.v 1) (.c (.int 1))) (.cs (.bi .tuple (.cs (.v 6) .nl)) (.cs (.ix (.v 3) (.c (.int 3))) .nl))))) (.cs (.sl (.v 2) (.v 5) .nl) .nl))) (.sl (.v 4) (.v 5) .nl))
    (.ret (.c (.bl false)))
    .skip)))
    .skip))
theorem turn_ok {sub : Sub} {n : Nat} {l : Lp} (hl : l.WF) {inp : List (List Int)} (hi : InpWF l.streams inp) (hn : inp.length ≤ 40) {A0 : D} {i : Nat} (him : i ≤ inp.length) {T : Store} (hT : Lists T) (h0 : T[0]? = some (.lst (inp.map rowD))) (h1 : T[1]? = some (.lst ((found l inp).map rowD))) (x6 x7 x8 : Option D) :
    ∃ y6 y7 y8 G, exec sub (callF sub Pd (n + 8)) bodyL [some A0, some l.toD, some (.loc 0), some (whole l).toD, some (.loc 1), some (.int (i : Int)), x6, x7, x8] T =
      .ok (.nx [some A0, some l.toD, some (.loc 0), some (whole l).toD, some (.loc 1), some (.int (i : Int)), y6, y7, y8]) (T ++ G) ∧ Lists G := by
  have hW := whole_wf hl
  have hF := found_good hl hi
  have hlF : (found l inp).length = inp.length := rowsFrom_len _ _ _
  have hit : InpWF l.streams (inp.take i) := ⟨fun r hr => hi.len r (List.mem_of_mem_take hr), fun r hr => hi.val r (List.mem_of_mem_take hr)⟩
  have hid : InpWF l.streams (inp.drop i) := ⟨fun r hr => hi.len r (List.mem_of_mem_drop hr), fun r hr => hi.val r (List.mem_of_mem_drop hr)⟩
  -- answers(whole, inputs[:many]) != found[:many]
  have s1 := slD_to (m := i) h0
  rw [← List.map_take] at s1
  have a1 := answers_ok (sub := sub) (n := n) hB hV (lists_app hT (lists_one ((inp.take i).map rowD))) (l := whole l) (c := T.length) (inputs := inp.take i) (get_app0 T [] _) hW hit (by simp; omega)
  have e1 : ansD (whole l) (inp.take i) = ((found l inp).take i).map rowD := by
    rw [ans_whole hl hit]
    unfold found
    rw [rowsFrom_take]
  rw [e1] at a1
  have h1' : (T ++ [Cell.lst ((inp.take i).map rowD)] ++ [Cell.lst (((found l inp).take i).map rowD)])[1]? = some (.lst ((found l inp).map rowD)) := get_left (get_left h1)
  have s2 := slD_to (m := i) h1'
  rw [← List.map_take] at s2
  have ne1 : cmD .ne (.loc (T ++ [Cell.lst ((inp.take i).map rowD)]).length) (.loc (T ++ [Cell.lst ((inp.take i).map rowD)] ++ [Cell.lst (((found l inp).take i).map rowD)]).length) (T ++ [Cell.lst ((inp.take i).map rowD)] ++ [Cell.lst (((found l inp).take i).map rowD)] ++ [Cell.lst (((found l inp).take i).map rowD)]) = .ok (.bl false) _ :=
    ne_same (get_left (get_app0 _ [] _)) (get_app0 _ [] _) (rows_eq _)
  have p5 : ∀ (σ : Sg) (S : Store), σ[5]? = some (some (.int (i : Int))) → partE sub (callF sub Pd (n + 8)) σ (.v 5) S = .ok (some (i : Int)) S := fun σ S h => partE_v (by rw [varD_ap, h])
  have p5' := p5 [some A0, some l.toD, some (.loc 0), some (whole l).toD, some (.loc 1), some (.int (i : Int)), x6, x7, x8]
  have test1 : ∀ a b : EV.S, exec sub (callF sub Pd (n + 8)) (.ite (.cmp .ne (.call "answers" (.cs (.v 3) (.cs (.sl (.v 2) .nl (.v 5)) .nl))) (.sl (.v 4) .nl (.v 5))) a b) [some A0, some l.toD, some (.loc 0), some (whole l).toD, some (.loc 1), some (.int (i : Int)), x6, x7, x8] T =
      exec sub (callF sub Pd (n + 8)) b [some A0, some l.toD, some (.loc 0), some (whole l).toD, some (.loc 1), some (.int (i : Int)), x6, x7, x8] (T ++ [Cell.lst ((inp.take i).map rowD)] ++ [Cell.lst (((found l inp).take i).map rowD)] ++ [Cell.lst (((found l inp).take i).map rowD)]) := fun a b => by
    exact x_iteF (g_cmp (r_cmp (r_call (r_cs (r_v rfl) (r_cs (r_sl (r_v rfl) partE_nl (p5' _ rfl) s1) r_nl)) a1) (r_sl (r_v rfl) partE_nl (p5' _ rfl) s2) ne1)) rfl
  generalize hB1 : T ++ [Cell.lst ((inp.take i).map rowD)] ++ [Cell.lst (((found l inp).take i).map rowD)] ++ [Cell.lst (((found l inp).take i).map rowD)] = B at test1
  have hBT : ∃ G, B = T ++ G ∧ Lists G := ⟨[Cell.lst ((inp.take i).map rowD)] ++ [Cell.lst (((found l inp).take i).map rowD)] ++ [Cell.lst (((found l inp).take i).map rowD)], by rw [← hB1]; simp, lists_app (lists_app (lists_one _) (lists_one _)) (lists_one _)⟩
  obtain ⟨G0, hG0, hLG0⟩ := hBT
  clear hB1 ne1 s2 h1' a1 e1 s1
  by_cases h2 : 2 < i
  · have hB0 : B[0]? = some (.lst (inp.map rowD)) := by rw [hG0]; exact get_left h0
    have hB1 : B[1]? = some (.lst ((found l inp).map rowD)) := by rw [hG0]; exact get_left h1
    have hLB : Lists B := by rw [hG0]; exact lists_app hT hLG0
    obtain ⟨y7, y8, G, ew, hG⟩ := works_ok (sub := sub) (n := n + 8) hl hF (m := i) (by omega) (by omega) (B := B) (A0 := A0) (A2 := .loc 0) (A3 := (whole l).toD) (fnd := 1) hB1 x7 x8
    have hon := onLoop_wf hl hF (m := i) (by omega) (by omega)
    have hLC : Lists (B ++ .lst ((onWorks (found l inp) i 0 l.works).map Wk.toD) :: G) := lists_app hLB (lists_app (S := [_]) (lists_one _) hG)
    have hC0 : (B ++ .lst ((onWorks (found l inp) i 0 l.works).map Wk.toD) :: G)[0]? = some (.lst (inp.map rowD)) := get_left hB0
    have hC1 : (B ++ .lst ((onWorks (found l inp) i 0 l.works).map Wk.toD) :: G)[1]? = some (.lst ((found l inp).map rowD)) := get_left hB1
    have hCw : (B ++ .lst ((onWorks (found l inp) i 0 l.works).map Wk.toD) :: G)[B.length]? = some (.lst ((onWorks (found l inp) i 0 l.works).map Wk.toD)) := get_app0 B G _
    generalize hCe : B ++ .lst ((onWorks (found l inp) i 0 l.works).map Wk.toD) :: G = C at ew hLC hC0 hC1 hCw
    have s1 := slD_from (m := i) hC0
    rw [← List.map_drop] at s1
    have a1 := answers_ok (sub := sub) (n := n) hB hV (lists_app hLC (lists_one ((inp.drop i).map rowD))) (l := onLoop l (found l inp) i) (c := C.length) (inputs := inp.drop i) (get_app0 C [] _) hon hid (by simp; omega)
    rw [ans_on hl hi (by omega) him] at a1
    have h1' : (C ++ [Cell.lst ((inp.drop i).map rowD)] ++ [Cell.lst (((found l inp).drop i).map rowD)])[1]? = some (.lst ((found l inp).map rowD)) := get_left (get_left hC1)
    have s2 := slD_from (m := i) h1'
    rw [← List.map_drop] at s2
    have ne1 : cmD .ne (.loc (C ++ [Cell.lst ((inp.drop i).map rowD)]).length) (.loc (C ++ [Cell.lst ((inp.drop i).map rowD)] ++ [Cell.lst (((found l inp).drop i).map rowD)]).length) (C ++ [Cell.lst ((inp.drop i).map rowD)] ++ [Cell.lst (((found l inp).drop i).map rowD)] ++ [Cell.lst (((found l inp).drop i).map rowD)]) = .ok (.bl false) _ :=
      ne_same (get_left (get_app0 _ [] _)) (get_app0 _ [] _) (rows_eq _)
    have p5'' := p5 [some A0, some l.toD, some (.loc 0), some (whole l).toD, some (.loc 1), some (.int (i : Int)), some (.loc B.length), y7, y8]
    refine ⟨some (.loc B.length), y7, y8, G0 ++ .lst ((onWorks (found l inp) i 0 l.works).map Wk.toD) :: G ++ [Cell.lst ((inp.drop i).map rowD)] ++ [Cell.lst (((found l inp).drop i).map rowD)] ++ [Cell.lst (((found l inp).drop i).map rowD)], ?_, ?_⟩
    · refine (x_seq ((test1 _ _).trans x_skip) (x_iteT (t_k (g_cmp (r_cmp (r_v rfl) r_c (cm_gt _ _ _))) (decide_eq_true (by omega))) (x_seq (x_set (r_lst r_nl rfl)) (x_seq ew (x_iteF (g_cmp (r_cmp (r_call (r_cs (r_tup (r_cs (r_ix (r_v rfl) r_c (o_at rfl)) (r_cs (r_ix (r_v rfl) r_c (o_at rfl)) (r_cs (r_bi (r_cs (r_v rfl) r_nl) (o_tupL hCw)) (r_cs (r_ix (r_v rfl) r_c (o_at rfl)) r_nl)))) rfl) (r_cs (r_sl (r_v rfl) (p5'' _ rfl) partE_nl s1) r_nl)) a1) (r_sl (r_v rfl) (p5'' _ rfl) partE_nl s2) ne1)) x_skip))))).trans ?_
      congr 1
      rw [← hCe, hG0]
      simp
    · exact lists_app (lists_app (lists_app (lists_app hLG0 (lists_app (S := [_]) (lists_one _) hG)) (lists_one _)) (lists_one _)) (lists_one _)
  · refine ⟨x6, x7, x8, G0, ?_, hLG0⟩
    rw [← hG0]
    exact x_seq ((test1 _ _).trans x_skip) (x_iteF (t_k (g_cmp (r_cmp (r_v rfl) r_c (cm_gt _ _ _))) (decide_eq_false (by omega))) x_skip)
theorem main (ns : List Int) (h : ns.length ≤ 63) : ∃ S', callF (fun _ _ => false) Pd 30 "law" [.fro (ns.map .int)] [] = .ok (.bl true) S' := by
  obtain ⟨mx, M⟩ := mix_ex hG
  have hl0 := loopM_wf M ns (at' := 2) (most := 4) (by decide) (by decide)
  have ed := loop_draw (sub := fun _ _ => false) (n := 24) (S := []) hG M ns (at' := 2) (most := 4) (by decide) (by decide) (by decide)
  generalize loopM mx ns 2 4 = l at hl0 ed
  obtain ⟨inp, hil, hi, ei⟩ := inputs_draw (sub := fun _ _ => false) (n := 26) (S := []) hG hI M ns (at' := 0) (streams := l.streams) (most := 12) (by decide) (by decide) (by have := hl0.streams; omega)
  have hW := whole_wf hl0
  have ea := answers_ok (sub := fun _ _ => false) (n := 21) hB hV (lists_one (inp.map rowD)) (l := whole l) (c := 0) (inputs := inp) rfl hW hi (by omega)
  rw [ans_whole hl0 hi] at ea
  have hcut : cut [D.int l.streams, .tup (l.crews.map crewD), .tup (l.works.map Wk.toD), .tup (l.outs.map natD)] none (some 3) = [D.int l.streams, .tup (l.crews.map crewD), .tup (l.works.map Wk.toD)] := cut_to _ 3
  have hsl : ∀ S : Store, slD l.toD none (some 3) S = .ok (.tup [D.int l.streams, .tup (l.crews.map crewD), .tup (l.works.map Wk.toD)]) S := fun S => by unfold Lp.toD; rw [slD_tup, hcut]
  have hwl := hl0.nworks
  have hrt := bi_rangeT (sub := fun _ _ => false) (S := [Cell.lst (inp.map rowD)]) (k := l.works.length) (by omega)
  have hfit : fits ([D.int l.streams, .tup (l.crews.map crewD), .tup (l.works.map Wk.toD)].length + [D.tup ((List.range l.works.length).map fun (i : Nat) => .int (i : Int))].length) = true := fits_le' (by show 3 + 1 ≤ 1000; decide)
  have hl2 := o_lenL (sub := fun _ _ => false) (S := [Cell.lst (inp.map rowD), Cell.lst ((found l inp).map rowD)]) (l := 0) (xs := inp.map rowD) rfl
  rw [List.length_map] at hl2
  obtain ⟨σ', T', e, x5, x6, x7, x8, G, hσ, hT, hG'⟩ := for_inv (sub := fun _ _ => false) (cf := callF (fun _ _ => false) Pd 29) (t := .one 5) (it := .iRng (.cs (.bin .add (.bi .len (.cs (.v 2) .nl)) (.c (.int 1))) .nl)) (b := bodyL)
    (σ := [some (.fro (ns.map .int)), some l.toD, some (.loc 0), some (whole l).toD, some (.loc 1), none, none, none, none]) (S := [Cell.lst (inp.map rowD), Cell.lst ((found l inp).map rowD)]) (S1 := [Cell.lst (inp.map rowD), Cell.lst ((found l inp).map rowD)]) (s := ⟨(List.range (inp.length + 1)).map natD, none, []⟩)
    (fun i σ T => ∃ x5 x6 x7 x8 G, σ = [some (.fro (ns.map .int)), some l.toD, some (.loc 0), some (whole l).toD, some (.loc 1), x5, x6, x7, x8] ∧ T = Cell.lst (inp.map rowD) :: Cell.lst ((found l inp).map rowD) :: G ∧ Lists G)
    (g_rng1 (r_cs (r_bin (r_bi (r_cs (r_v rfl) r_nl) hl2) r_c (op_add_ii _ _ _)) r_nl) (show (inp.length : Int) + 1 = ((inp.length + 1 : Nat) : Int) by omega) (by omega) natInt) ⟨none, none, none, none, [], rfl, rfl, lists_nil⟩ (fun _ _ _ _ => rfl) (fun i hi' σ T ⟨x5, x6, x7, x8, G, hσ, hT, hG'⟩ => by
      subst hσ; subst hT
      have him : i < inp.length + 1 := by simpa using hi'
      show ∃ σ' T', bodyF _ _ _ _ ((List.range (inp.length + 1)).map natD)[i] _ _ = _ ∧ _
      rw [body_one]
      simp only [List.getElem_map, List.getElem_range, natD, List.set_cons_succ, List.set_cons_zero]
      obtain ⟨y6, y7, y8, G2, et, hG2⟩ := turn_ok (sub := fun _ _ => false) (n := 21) hl0 hi (by omega) (A0 := .fro (ns.map .int)) (i := i) (by omega) (T := Cell.lst (inp.map rowD) :: Cell.lst ((found l inp).map rowD) :: G) (lists_app (S := [_, _]) (lists_app (S := [_]) (lists_one _) (lists_one _)) hG') rfl rfl x6 x7 x8
      exact ⟨_, _, et, some (.int (i : Int)), y6, y7, y8, G ++ G2, rfl, rfl, lists_app hG' hG2⟩)
  subst hσ; subst hT
  refine ⟨[], ?_⟩
  have ei : callF (fun _ _ => false) Pd 29 "_law_inputs" [.fro (ns.map .int), .int 0, .int l.streams, .int 12] [] = .ok (.loc 0) [.lst (inp.map rowD)] := ei
  have ea : callF (fun _ _ => false) Pd 29 "answers" [(whole l).toD, .loc 0] [.lst (inp.map rowD)] = .ok (.loc 1) [.lst (inp.map rowD), .lst ((found l inp).map rowD)] := ea
  have hlen := o_lenT (sub := fun _ _ => false) (S := [Cell.lst (inp.map rowD)]) (xs := l.works.map Wk.toD)
  rw [List.length_map] at hlen
  exact x_call hL rfl (x_seq (x_set (r_call (r_cs (r_v rfl) (r_cs r_c (r_cs r_c r_nl))) ed)) (x_seq (x_set (r_call (r_cs (r_v rfl) (r_cs r_c (r_cs (r_ix (r_v rfl) r_c (o_at rfl)) (r_cs r_c r_nl)))) ei))
    (x_seq (x_set (d := (whole l).toD) (r_bin (r_sl (r_v rfl) partE_nl (partE_c 3) (hsl _)) (r_tup (r_cs (r_bi (r_cs (r_bi (r_cs (r_ix (r_v rfl) r_c (o_at rfl)) r_nl) hlen) r_nl) hrt) r_nl) rfl) (o_addT hfit)))
    (x_seq (x_set (r_call (r_cs (r_v rfl) (r_cs (r_v rfl) r_nl)) ea)) (x_seq e (x_ret r_c)))))) (leave_cl (S := []) (d := .bl true) rfl rfl)
end K03

namespace K03
open PySem EV RL
noncomputable def top (i : Nat) : Stmt := PySem.Challenge.pw_roundlap_k03_whole_any_rounds.main.body.getD i (.Pass ⟨0, 0, 0, 0⟩)
noncomputable def fns : List (Str × Stmt) := [("is_whole", top 15), ("is_value", top 16), ("is_row", top 17), ("is_crew", top 18), ("are_crews", top 19), ("is_work_source", top 20), ("is_source", top 21), ("are_starts", top 22), ("is_work", top 23), ("are_works", top 24), ("are_outs", top 25), ("is_loop", top 26), ("checked", top 27), ("is_given", top 30), ("are_inputs", top 31), ("checked_inputs", top 32), ("product", top 33), ("outcome", top 34), ("start_rows", top 35), ("source_value", top 36), ("answers", top 37), ("_law_cell_at", top 39), ("_law_mixed", top 40), ("_law_source", top 41), ("_law_work", top 42), ("_law_loop", top 43), ("_law_inputs", top 44), ("law", top 45)]
noncomputable def vals : List (Str × D) := [("REST", (.int 9973)), ("MOST_STREAMS", (.int 6)), ("MOST_CREWS", (.int 3)), ("MOST_MACHINES", (.int 3)), ("MOST_BUSY", (.int 4)), ("MOST_WORKS", (.int 8)), ("MOST_LONG", (.int 8)), ("MOST_SOURCES", (.int 3)), ("MOST_BACK", (.int 3)), ("WORDS", (.tup [(.str "plus"), (.str "less"), (.str "times"), (.str "least"), (.str "greatest")])), ("MOST_ROUNDS", (.int 40))]
noncomputable def cls : List Str := ["LapError", "NoLoop", "NoInputs"]
set_option maxRecDepth 100000 in
set_option maxHeartbeats 0 in
theorem hP : fns.map (fun p => (p.1, trF (gtOf fns vals cls) p.2)) = Pd.map fun p => (p.1, some p.2) := by kernel_rfl
end K03

open PySem PySem.W PyProof.Rows
set_option maxRecDepth 100000 in
set_option maxHeartbeats 0 in
theorem PySem.Challenge.cw_roundlap_k03_whole_any_rounds_holds : PySem.Challenge.rw_roundlap_k03_whole_any_rounds.Holds := by
  w_on; o_law; k_head; (case hw => w_witness2)
  k_fill
  refine EV.walk_ev (l := PySem.Challenge.rw_roundlap_k03_whole_any_rounds) (fns := K03.fns) (vals := K03.vals) (cls := K03.cls) (Pd := K03.Pd) (sub := fun _ _ => false) (n := 30) (st := K03.top 45) (x := "_law_script") rfl rfl ⟨rfl, by decide, by decide⟩ (fun w h Y => PySem.W.kIn_of Y) K03.hP rfl rfl ?T K03.main
  case T =>
    intro w h KX
    refine ⟨?_, ?_, ?_⟩
    · unfold K03.fns
      repeat (apply EV.DefsAt.cons; k_is; k_is; k_is; k_is)
      exact EV.DefsAt.nil
    · unfold K03.vals
      repeat first
        | (apply EV.ValsAt.flat; k_is; constructor)
        | (apply EV.ValsAt.tup; k_is; k_is; decide; (focus (repeat' constructor)))
      exact EV.ValsAt.nil
    · refine fun x hx _ => EV.NoneAt.get (l := EV.bltNames) ?hNone0 hx
      unfold EV.bltNames
      repeat (apply EV.NoneAt.cons; k_is)
      exact EV.NoneAt.nil
end
