import PyProof.Rows.All
import Wide.All
import OpenK.AllK
import Wide.FinOn
import Lean
import PyProof.EqAt
import PyProof.EqKinds
import PyProof.TupleCall
import PySem.Challenge.RW_nextbyrule_k09_no_texts
local macro_rules | `(tactic| omega) => `(tactic| lia)
set_option Elab.async false
set_option linter.all false
set_option maxRecDepth 100000
/-! THE HAND LAYER, for ints, bools, texts, own classes, LISTS and tuples (index, slices, in, append, pop ..), calls, loops. Paste it whole ahead of your own text; what your proof does not reach may be deleted. -/
namespace L2
open PySem PySem.Spec PyProof.Rows

/-- a key: an int or a str -/
noncomputable abbrev Key := Sum Int Str
noncomputable def keyIs : Key → Value → Bool
  | .inl k, v => Value.isInt k v
  | .inr x, v => Value.isStrOf x v
noncomputable def keyH (w : World) : Key → Int
  | .inl k => hashInt k
  | .inr x => hashStr w x
theorem keyIs_shape : ∀ {k : Key} {v : Value}, keyIs k v = true → (∃ i t, k = Sum.inl i ∧ v = Value.int i t) ∨ (∃ x t, k = Sum.inr x ∧ v = Value.str x t)
  | .inl i, v, h => by
    obtain ⟨t, e⟩ := Value.isInt_shape (k := i) (v := v) h
    exact .inl ⟨i, t, rfl, e⟩
  | .inr x, v, h => by
    obtain ⟨t, e⟩ := Value.isStrOf_shape (x := x) (v := v) h
    exact .inr ⟨x, t, rfl, e⟩
theorem keyIs_int (i : Int) (t : Tok) : keyIs (.inl i) (.int i t) = true := by simp [keyIs, Value.isInt]
theorem keyIs_str (x : Str) (t : Tok) : keyIs (.inr x) (.str x t) = true := by simp [keyIs, Value.isStrOf]
theorem key_ll (a b : Int) : decide ((Sum.inl a : Key) = Sum.inl b) = (a == b) := by
  by_cases e : a = b
  · subst e; simp
  · have h : ¬ (Sum.inl a : Key) = Sum.inl b := fun q => e (Sum.inl.inj q)
    rw [decide_eq_false h]
    exact (beq_eq_false_iff_ne.mpr e).symm
theorem key_rr (a b : Str) : decide ((Sum.inr a : Key) = Sum.inr b) = decide (a = b) := by
  by_cases e : a = b
  · subst e; simp
  · have h : ¬ (Sum.inr a : Key) = Sum.inr b := fun q => e (Sum.inr.inj q)
    rw [decide_eq_false h, decide_eq_false e]
theorem key_lr (a : Int) (b : Str) : decide ((Sum.inl a : Key) = Sum.inr b) = false := decide_eq_false (fun q => nomatch q)
theorem key_rl (a : Str) (b : Int) : decide ((Sum.inr a : Key) = Sum.inl b) = false := decide_eq_false (fun q => nomatch q)

noncomputable def mixKind (prog : Program) (w : World) : PySem.KeyKind prog w Key where
  is := keyIs
  hash := keyH w
  inj := fun v a b ha hb => by
    rcases keyIs_shape ha with ⟨i, t, rfl, rfl⟩ | ⟨x, t, rfl, rfl⟩
    · rcases keyIs_shape hb with ⟨j, u, rfl, e⟩ | ⟨y, u, rfl, e⟩
      · injection e with e1 _; rw [e1]
      · exact nomatch e
    · rcases keyIs_shape hb with ⟨j, u, rfl, e⟩ | ⟨y, u, rfl, e⟩
      · exact nomatch e
      · injection e with e1 _; rw [e1]
  byValue := fun k v h => by
    rcases keyIs_shape h with ⟨i, t, rfl, rfl⟩ | ⟨x, t, rfl, rfl⟩ <;> rfl
  pyHash := fun hv h => by
    rcases keyIs_shape hv with ⟨i, t, rfl, rfl⟩ | ⟨x, t, rfl, rfl⟩
    · exact wpAny_pyHash_int h
    · exact wpAny_pyHash_str h
  eqBool := fun hu hv h => by
    rcases keyIs_shape hu with ⟨i, t, rfl, rfl⟩ | ⟨x, t, rfl, rfl⟩
    · rcases keyIs_shape hv with ⟨j, u, rfl, rfl⟩ | ⟨y, u, rfl, rfl⟩
      · rw [key_ll] at h; exact wpAny_eqBool_int h
      · rw [key_lr] at h; exact SeqAt.EqAt.int_str i t y u _ _ _ _ h
    · rcases keyIs_shape hv with ⟨j, u, rfl, rfl⟩ | ⟨y, u, rfl, rfl⟩
      · rw [key_rl] at h; exact SeqAt.EqAt.str_int x t j u _ _ _ _ h
      · rw [key_rr] at h; exact wpAny_eqBool_str h
  «strs» := fun k x t v h => by
    rcases keyIs_shape h with ⟨i, u, rfl, e⟩ | ⟨y, u, rfl, e⟩
    · exact nomatch e
    · injection e with e1 _
      subst e1
      cases v <;> rfl

theorem mixKind_int (prog : Program) (w : World) (i : Int) (t : Tok) : (mixKind prog w).is (.inl i) (.int i t) = true := keyIs_int i t
theorem mixKind_str (prog : Program) (w : World) (x : Str) (t : Tok) : (mixKind prog w).is (.inr x) (.str x t) = true := keyIs_str x t
end L2

namespace L2
open PySem PySem.Spec PyProof.Rows

/-- a value, without the heap -/
inductive V where
  | non | bl (b : Bool) | int (i : Int) | str (x : Str) | byt (b : Array UInt8) | flt (b : UInt64) | ref (a : Addr) | ty (n : String)
  deriving DecidableEq

noncomputable def RelV : V → Value → Prop
  | .non, u => u = Value.none
  | .bl b, u => u = Value.bool b
  | .int i, u => ∃ t, u = Value.int i t
  | .str x, u => ∃ t, u = Value.str x t
  | .byt b, u => ∃ t, u = Value.bytes b t
  | .flt b, u => ∃ t, u = Value.float b t
  | .ref a, u => u = Value.ref a
  | .ty n, u => u = Value.type n

noncomputable abbrev Vals : List V → List Value → Prop := Paired RelV
theorem Vals.length {xs : List V} {us : List Value} (r : Vals xs us) : xs.length = us.length := Paired.length r
theorem Vals.get : ∀ {xs : List V} {us : List Value} {i : Nat} {x : V}, Vals xs us → xs[i]? = some x → ∃ u, us[i]? = some u ∧ RelV x u
  | _, _, _, _, .nil, e => by simp at e
  | _, _, 0, _, .cons r _, e => by simp at e; subst e; exact ⟨_, rfl, r⟩
  | _, _, i + 1, x, .cons _ t, e => by
    obtain ⟨u, h1, h2⟩ := Vals.get (i := i) (x := x) t (by simpa using e)
    exact ⟨u, by simpa using h1, h2⟩
theorem Vals.append : ∀ {xs ys : List V} {us ws : List Value}, Vals xs us → Vals ys ws → Vals (xs ++ ys) (us ++ ws)
  | _, _, _, _, .nil, s => s
  | _, _, _, _, .cons r t, s => .cons r (Vals.append t s)
theorem Vals.take : ∀ {xs : List V} {us : List Value} (n : Nat), Vals xs us → Vals (xs.take n) (us.take n)
  | _, _, 0, _ => .nil
  | _, _, _ + 1, .nil => .nil
  | _, _, n + 1, .cons r t => .cons r (Vals.take n t)
theorem Vals.drop : ∀ {xs : List V} {us : List Value} (n : Nat), Vals xs us → Vals (xs.drop n) (us.drop n)
  | _, _, 0, r => r
  | _, _, _ + 1, .nil => .nil
  | _, _, n + 1, .cons _ t => Vals.drop n t
noncomputable def RelO : Option V → Option Value → Prop
  | some v, some u => RelV v u
  | none, none => True
  | _, _ => False
noncomputable def KV {κ : Type} : List (κ × V) → List (κ × Value) → Prop := Paired fun (p : κ × V) (q : κ × Value) => p.1 = q.1 ∧ RelV p.2 q.2

/-- a key of a dict (00_mix): an int or a text -/
noncomputable def kV : Key → V
  | .inl i => .int i
  | .inr x => .str x

/-- what stands at a tracked address -/
inductive HO where
  /-- a list -/
  | lst (xs : List V)
  /-- a tuple (never changes) -/
  | tup (xs : List V)
  /-- a dict whose keys are ints and texts; one whose keys are tuples of ints and texts (the empty one is both) -/
  | dK (kvs : List (Key × V)) | dT (kvs : List (List Key × V))
  /-- a set of ints: its members, its size -/
  | set (S : Int → Bool) (n : Nat)
  /-- an instance of the class at C, its dict at dx, its attributes -/
  | ins (C dx : Addr) (fs : List (Str × V))
  /-- the dict of the instance at x -/
  | own (x : Addr)
  /-- the dict of an exception -/
  | xd (fs : List (Str × V))
  /-- a bound method, f of x -/
  | met (f x : Addr)
  /-- a range object lo, lo + 1, .. below hi -/
  | rng (lo hi : Int)
  /-- a thing that is known to the object (the script; a dict while a loop walks it): read, never written while it is so -/
  | frz (o : Obj) (u : HO)
  /-- a code object's table -/
  | tbl (ps : Array Value)
  /-- any other thing, by what is true of its one object (a def of one's own: SetO a S n := HO.ext fun h => ..) -/
  | ext (φ : Heap → Prop)

noncomputable abbrev Hp := Addr → Option HO
noncomputable def upd (H : Hp) (a : Addr) (o : HO) : Hp := fun b => if b = a then some o else H b
theorem upd_same {H : Hp} {a : Addr} {o : HO} : upd H a o a = some o := by unfold upd; rw [if_pos rfl]
theorem upd_ne {H : Hp} {a b : Addr} {o : HO} (h : b ≠ a) : upd H a o b = H b := by unfold upd; rw [if_neg h]
theorem upd_upd {H : Hp} {a : Addr} {o u : HO} : upd (upd H a o) a u = upd H a u := by
  funext b; unfold upd; split <;> rfl
theorem ne_of_none {H : Hp} {a b : Addr} {o : HO} (h : H a = some o) (h' : H b = none) : a ≠ b := by
  intro e; subst e; rw [h] at h'; cases h'

section
variable (P : Program) (w : World)
noncomputable def ObjOk (H : Hp) (h : Heap) (a : Addr) : HO → Prop
  | .lst xs => xs.length ≤ sizeLine ∧ ∃ (its : List Value) (n : Nat), Vals xs its ∧ h.get? a = some { cls := .type "list", data := .seq its.toArray n }
  | .tup xs => xs.length ≤ sizeLine ∧ ∃ its : List Value, Vals xs its ∧ IsTup h a its.toArray
  | .dK kvs => kvs.length ≤ sizeLine ∧ (a == sysModules) = false ∧ ∃ vs, KV kvs vs ∧ h.DictOf (mixKind P w) a vs
  | .dT kvs => kvs.length ≤ sizeLine ∧ (a == sysModules) = false ∧ ∃ xs : List (List Key × Addr × Value),
      Paired (fun (p : List Key × V) (q : List Key × Addr × Value) => p.1 = q.1 ∧ H q.2.1 = some (.tup (p.1.map kV)) ∧ RelV p.2 q.2.2) kvs xs ∧
      ∃ o es ep, h.get? a = some o ∧ o.ExactDict ∧ o.data = .dict es ep ∧ es.toList = xs.map (entryOfKey (tupleKind (mixKind P w))) ∧ (xs.map (·.1)).Nodup
  | .set S n => h.SetOf (intKind P w) a S n
  | .ins C dx fs => H dx = some (.own a) ∧ fs.length ≤ 1000 ∧ dx ≠ a ∧ h.get? a = some (PySem.W.instObj C dx) ∧
      ∃ mA, h.Ns1 dx mA ∧ (∀ f, RelO (fs.lookup f) (mA f)) ∧ PySem.Within mA (fs.map (·.1))
  | .own _ => ∃ o, h.get? a = some o
  | .xd fs => ∃ mA, h.Ns1 a mA ∧ ∀ f, RelO (fs.lookup f) (mA f)
  | .rng lo hi => ∃ t u v, h.get? a = some { cls := .type "range", data := .fields #[.int lo t, .int hi u, .int 1 v] }
  | .frz o u => h.get? a = some o ∧ ObjOk H h a u
  | .tbl ps => h.get? a = some { cls := .none, data := .fields ps }
  | .met f x => h.get? a = some (PySem.W.methodObj (.ref f) (.ref x))
  | .ext φ => φ h ∧ (∃ o, h.get? a = some o) ∧ ∀ h1 h2 : Heap, φ h1 → (∀ o, h1.get? a = some o → h2.get? a = some o) → φ h2
/-- the abstract heap is held -/
noncomputable def HOk (H : Hp) (h : Heap) : Prop := ∀ a o, H a = some o → ObjOk P w H h a o
end

section
variable {P : Program} {w : World} {H H' : Hp} {h h' : Heap} {a : Addr} {o : HO}
theorem ObjOk.lt (x : ObjOk P w H h a o) : a < h.objs.size := by
  cases o with
  | lst xs => obtain ⟨_, _, _, _, e⟩ := x; exact Heap.lt_size e
  | tup xs => obtain ⟨_, _, _, p⟩ := x; exact p.lt
  | dK kvs => obtain ⟨_, _, _, _, o, _, _, e, _⟩ := x; exact Heap.lt_size e
  | dT kvs => obtain ⟨_, _, _, _, o, _, _, e, _⟩ := x; exact Heap.lt_size e
  | set S n => obtain ⟨o, _, _, _, e, _⟩ := x; exact Heap.lt_size e
  | ins C dx fs => obtain ⟨_, _, _, e, _⟩ := x; exact Heap.lt_size e
  | own y => obtain ⟨_, e⟩ := x; exact Heap.lt_size e
  | xd fs => obtain ⟨_, ⟨_, _, _, e, _⟩, _⟩ := x; exact Heap.lt_size e
  | rng lo hi => obtain ⟨_, _, _, e⟩ := x; exact Heap.lt_size e
  | frz ob u => obtain ⟨e, _⟩ := x; exact Heap.lt_size e
  | tbl ps => exact Heap.lt_size (show h.get? a = some _ from x)
  | met f y => exact Heap.lt_size (show h.get? a = some _ from x)
  | ext φ => obtain ⟨_, ⟨_, e⟩, _⟩ := x; exact Heap.lt_size e
theorem Paired.mapP {α β : Type} {F G : α → β → Prop} : ∀ {l₁ : List α} {l₂ : List β}, Paired F l₁ l₂ → (∀ a b, F a b → G a b) → Paired G l₁ l₂
  | _, _, .nil, _ => .nil
  | _, _, .cons r t, f => .cons (f _ _ r) (Paired.mapP t f)
/-- what an object's description leans on: its own object, its own dict, the tuples -/
theorem ObjOk.stay (x : ObjOk P w H h a o) (k : ∀ b u, (b = a ∨ H b = some (.own a)) → h.get? b = some u → h'.get? b = some u)
    (ho : ∀ b, H b = some (.own a) → H' b = some (.own a)) (ht : ∀ b xs, H b = some (.tup xs) → H' b = some (.tup xs)) : ObjOk P w H' h' a o := by
  induction o with
  | lst xs => obtain ⟨z, its, n, r, e⟩ := x; exact ⟨z, its, n, r, k _ _ (.inl rfl) e⟩
  | tup xs => obtain ⟨z, its, r, ob, e, c⟩ := x; exact ⟨z, its, r, ob, k _ _ (.inl rfl) e, c⟩
  | dK kvs => obtain ⟨z, y, vs, r, ob, es, ep, e, c⟩ := x; exact ⟨z, y, vs, r, ob, es, ep, k _ _ (.inl rfl) e, c⟩
  | dT kvs =>
    obtain ⟨z, y, xs, r, ob, es, ep, e, c⟩ := x
    exact ⟨z, y, xs, Paired.mapP r fun p q z => ⟨z.1, ht _ _ z.2.1, z.2.2⟩, ob, es, ep, k _ _ (.inl rfl) e, c⟩
  | set S n => obtain ⟨ob, es, ep, t, e, c⟩ := x; exact ⟨ob, es, ep, t, k _ _ (.inl rfl) e, c⟩
  | ins C dx fs =>
    obtain ⟨d, z, ne, e, mA, ⟨od, es, ep, e2, c⟩, r⟩ := x
    exact ⟨ho _ d, z, ne, k _ _ (.inl rfl) e, mA, ⟨od, es, ep, k _ _ (.inr d) e2, c⟩, r⟩
  | own y => obtain ⟨ob, e⟩ := x; exact ⟨ob, k _ _ (.inl rfl) e⟩
  | xd fs => obtain ⟨mA, ⟨od, es, ep, e, c⟩, r⟩ := x; exact ⟨mA, ⟨od, es, ep, k _ _ (.inl rfl) e, c⟩, r⟩
  | rng lo hi => obtain ⟨t, u, v, e⟩ := x; exact ⟨t, u, v, k _ _ (.inl rfl) e⟩
  | frz ob u ih => obtain ⟨e, q⟩ := x; exact ⟨k _ _ (.inl rfl) e, ih q⟩
  | tbl ps =>
    have e : h.get? a = some { cls := .none, data := .fields ps } := x
    show h'.get? a = some { cls := .none, data := .fields ps }
    exact k a _ (.inl rfl) e
  | met f y =>
    have e : h.get? a = some (PySem.W.methodObj (.ref f) (.ref y)) := x
    show h'.get? a = some (PySem.W.methodObj (.ref f) (.ref y))
    exact k a _ (.inl rfl) e
  | ext φ => obtain ⟨p, ⟨o, e⟩, st⟩ := x; exact ⟨st _ _ p fun o q => k _ _ (.inl rfl) q, ⟨o, k _ _ (.inl rfl) e⟩, st⟩
theorem HOk.lt (x : HOk P w H h) (e : H a = some o) : a < h.objs.size := (x a o e).lt
theorem HOk.fresh (x : HOk P w H h) (e : h.objs.size ≤ a) : H a = none := by
  cases q : H a with
  | none => rfl
  | some u => exact absurd (Nat.lt_of_lt_of_le (x.lt q) e) (Nat.lt_irrefl _)
/-- every object of the heap is kept -/
theorem HOk.kept (x : HOk P w H h) (k : ∀ b u, h.get? b = some u → h'.get? b = some u) : HOk P w H h' := fun a o e =>
  (x a o e).stay (fun b u _ q => k b u q) (fun _ q => q) fun _ _ q => q
/-- a new object is laid and tracked -/
theorem HOk.laid (x : HOk P w H h) (k : ∀ b u, h.get? b = some u → h'.get? b = some u) (hp : h.objs.size ≤ a) (new : ObjOk P w (upd H a o) h' a o) : HOk P w (upd H a o) h' := fun b u e => by
  have hn := x.fresh hp
  by_cases hb : b = a
  · subst hb; rw [upd_same] at e; cases e; exact new
  · rw [upd_ne hb] at e
    exact (x b u e).stay (fun c v _ q => k c v q) (fun c q => by rw [upd_ne (ne_of_none q hn)]; exact q) fun c xs q => by rw [upd_ne (ne_of_none q hn)]; exact q
end

/-- what may be read as u: it is u, or a known u -/
noncomputable def Rd (H : Hp) (a : Addr) (u : HO) : Prop := H a = some u ∨ ∃ o, H a = some (.frz o u)
theorem Rd.ok {P : Program} {w : World} {H : Hp} {h : Heap} {a : Addr} {u : HO} (r : Rd H a u) (x : HOk P w H h) : ObjOk P w H h a u := by
  rcases r with r | ⟨o, r⟩
  · exact x a u r
  · obtain ⟨_, q⟩ := x a _ r
    exact q
/-- what may be written -/
noncomputable def Mut : Option HO → Prop
  | some (.lst _) => True
  | some (.dK _) => True
  | some (.dT _) => True
  | some (.set _ _) => True
  | some (.ins _ _ _) => True
  | some (.ext _) => True
  | _ => False
section
variable {P : Program} {w : World} {H : Hp} {h h' : Heap} {x e : Addr} {o' : HO}
/-- the object at e is changed: x itself, or the dict of the instance x -/
theorem HOk.write (ok : HOk P w H h) (mu : Mut (H x)) (he : e = x ∨ H e = some (.own x)) (k : ∀ b u, b ≠ e → h.get? b = some u → h'.get? b = some u) (heo : ∃ u, h'.get? e = some u)
    (new : ObjOk P w (upd H x o') h' x o') : HOk P w (upd H x o') h' := fun b u q => by
  have nown : ∀ c y, H c = some (.own y) → c ≠ x := fun c y r z => by subst z; rw [r] at mu; exact mu
  have ntup : ∀ c xs, H c = some (.tup xs) → c ≠ x := fun c xs r z => by subst z; rw [r] at mu; exact mu
  by_cases hb : b = x
  · subst hb; rw [upd_same] at q; cases q; exact new
  · rw [upd_ne hb] at q
    by_cases hbe : b = e
    · have q' : H b = some (.own x) := by
        rcases he with z | z
        · exact absurd (hbe.trans z) hb
        · rw [hbe]; exact z
      rw [q] at q'; cases q'
      obtain ⟨v, hv⟩ := heo
      exact ⟨v, by rw [hbe]; exact hv⟩
    · refine (ok b u q).stay (fun c v hc r => k c v ?_ r) (fun c r => by rw [upd_ne (nown c b r)]; exact r) fun c xs r => by rw [upd_ne (ntup c xs r)]; exact r
      rcases hc with rfl | hc
      · exact hbe
      · rintro rfl
        rcases he with z | z
        · exact nown c b hc z
        · rw [hc] at z; cases z; exact hb rfl
end

/-! ### kept unless tracked; of the frames at fs (the callers') the slots may change (an exception that passes writes there); of the records at ex (iterators) nothing is said -/
structure Un (fs ex : List Addr) (H H' : Hp) (h h' : Heap) : Prop where
  keep : ∀ b o, h.get? b = some o → H b = none → b ∉ fs → b ∉ ex → h'.get? b = some o
  slot : ∀ b o, h.get? b = some o → H b = none → b ∈ fs → b ∉ ex → ∃ sl, h'.get? b = some { o with slots := sl }
  free : ∀ b o, h.get? b = some o → H b = none → b ∉ ex → H' b = none
  there : ∀ b o, h.get? b = some o → b ∉ ex → ∃ o', h'.get? b = some o'
  tups : ∀ b xs, H b = some (.tup xs) → H' b = some (.tup xs)
  frzs : ∀ b o u, H b = some (.frz o u) → H' b = some (.frz o u)
  tbls : ∀ b ps, H b = some (.tbl ps) → ∃ more, H' b = some (.tbl (ps ++ more))
section
variable {fs fs' ex ex' : List Addr} {H H1 H2 : Hp} {h h1 h2 h' : Heap} {a x e : Addr} {o : HO}
theorem Un.any (u : Un fs ex H H1 h h1) {b : Addr} {ob : Obj} (q : h.get? b = some ob) (n : H b = none) (hx : b ∉ ex) : ∃ sl, h1.get? b = some { ob with slots := sl } := by
  by_cases hb : b ∈ fs
  · exact u.slot b ob q n hb hx
  · exact ⟨ob.slots, u.keep b ob q n hb hx⟩
theorem Un.kept (k : ∀ b u, h.get? b = some u → h'.get? b = some u) : Un fs ex H H h h' :=
  ⟨fun b ob q _ _ _ => k b ob q, fun b ob q _ _ _ => ⟨ob.slots, k b ob q⟩, fun _ _ _ n _ => n, fun b ob q _ => ⟨ob, k b ob q⟩, fun _ _ q => q, fun _ _ _ q => q, fun _ ps q => ⟨#[], by rw [q]; simp⟩⟩
theorem Un.refl : Un fs ex H H h h := Un.kept fun _ _ q => q
theorem Un.laid (k : ∀ b u, h.get? b = some u → h'.get? b = some u) (hp : h.objs.size ≤ a) (hn : H a = none) : Un fs ex H (upd H a o) h h' where
  keep := fun b u q _ _ _ => k b u q
  slot := fun b u q _ _ _ => ⟨u.slots, k b u q⟩
  free := fun b u q n _ => by rw [upd_ne (Nat.ne_of_lt (Nat.lt_of_lt_of_le (Heap.lt_size q) hp))]; exact n
  there := fun b u q _ => ⟨u, k b u q⟩
  tups := fun b xs q => by rw [upd_ne (ne_of_none q hn)]; exact q
  frzs := fun b u xs q => by rw [upd_ne (ne_of_none q hn)]; exact q
  tbls := fun b ps q => ⟨#[], by rw [upd_ne (ne_of_none q hn), q]; simp⟩
theorem Un.write (mu : Mut (H x)) (he : e = x ∨ H e = some (.own x)) (k : ∀ b u, b ≠ e → h.get? b = some u → h'.get? b = some u) (heo : ∃ u, h'.get? e = some u) : Un fs ex H (upd H x o) h h' := by
  have hx : ∀ b, H b = none → b ≠ x := fun b n z => by subst z; rw [n] at mu; exact mu
  have hb : ∀ b, H b = none → b ≠ e := fun b n z => by
    subst z
    rcases he with r | r
    · exact hx b n r
    · rw [n] at r; cases r
  have hm : ∀ b u, H b = some u → ¬ Mut (some u) → b ≠ x := fun b u q nm z => by subst z; rw [q] at mu; exact nm mu
  refine ⟨fun b u q n _ _ => k b u (hb b n) q, fun b u q n _ _ => ⟨u.slots, k b u (hb b n) q⟩, fun b u q n _ => by rw [upd_ne (hx b n)]; exact n, fun b u q _ => ?_,
    fun b xs q => by rw [upd_ne (hm b _ q fun z => z)]; exact q, fun b u xs q => by rw [upd_ne (hm b _ q fun z => z)]; exact q, fun b ps q => ⟨#[], by rw [upd_ne (hm b _ q fun z => z), q]; simp⟩⟩
  by_cases hbe : b = e
  · subst hbe; exact heo
  · exact ⟨u, k b u hbe q⟩
end

/-! ### the heap without what is tracked -/
noncomputable def trk (h : Heap) (H : Hp) : List Addr := (List.range h.objs.size).filter fun a => (H a).isSome
noncomputable def hidT (h : Heap) (H : Hp) : Heap := PySem.W.hideAll h (trk h H)
theorem hidT_size (h : Heap) (H : Hp) : (hidT h H).objs.size = h.objs.size := PySem.W.hideAll_size _ _
theorem hidT_get {h : Heap} {H : Hp} {b : Addr} {o : Obj} (e : h.get? b = some o) (n : H b = none) : (hidT h H).get? b = some o :=
  PySem.W.hideAll_get _ e fun hm => by
    have q : (H b).isSome = true := (List.mem_filter.mp hm).2
    rw [n] at q; simp at q
theorem of_hidT {h : Heap} {H : Hp} {b : Addr} {o : Obj} (e : (hidT h H).get? b = some o) : h.get? b = some o ∧ H b = none := by
  have e' : h.get? b = some o := PySem.W.of_hideAll (trk h H) e
  refine ⟨e', ?_⟩
  cases q : H b with
  | none => rfl
  | some x =>
    have hm : b ∈ trk h H := List.mem_filter.mpr ⟨List.mem_range.mpr (Heap.lt_size e'), by simp [q]⟩
    have z : (hidT h H).get? b = none := PySem.W.hideAll_none (trk h H) hm
    rw [z] at e; cases e

/-! ### OpenK's ledger, filled with every new object but one -/
end L2

namespace L2
open PySem PySem.Spec PyProof.Rows

/-- the module's facts, over the base: the heap at the law's entry without what is tracked there -/
structure Mod (K : PySem.W.Frag) (mg : Str → Option Value) (base : Heap) : Prop where
  kin : K.In base
  glob : base.Ns mainGlobals mg
  blt : ∃ mb, base.Ns builtinsNs mb ∧ ∀ x : Str, x ≠ "__name__" → mb x = bootBuiltins x
  nolimit : base.NoLimit
  digits : base.NoDigits

/-- the context: a def's body (or a comprehension's block) running. base: fixed through the whole law; s₀, H₀: the entry; outer: the frames whose slots others may change (a def's callers); stack: all frames that run;
   ex: iterators that were made ahead of the entry and are walked here (a comprehension's); fn: the names whose cells were made at the entry (a def: all; a comprehension's block: its own); calm: not within an except suite; pn: pins that every state bears; xe: what is wanted of an exception that leaves the code -/
structure Cx where
  prog : Program
  w : World
  K : PySem.W.Frag
  mg : Str → Option Value
  base : Heap
  A : Around
  N : List Str
  s₀ : Shared
  H₀ : Hp
  env : Env
  outer : List Env
  stack : List Env
  ex : List Addr
  fn : Str → Bool
  calm : Bool
  pn : List (Addr × Obj)
  xe : Value → Shared → Prop
/-- the callers' frames -/
noncomputable def frs (l : List Env) : List Addr := l.filterMap (·.frame)
noncomputable abbrev Cx.fs (X : Cx) : List Addr := frs X.outer

noncomputable def Vis (sc : Scope) (x : Str) : Prop := sc.names.lookup x = some .local ∨ sc.names.lookup x = some .cell ∨ sc.names.lookup x = some .free
noncomputable def Loc (sc : Scope) (x : Str) : Prop := sc.names.lookup x = some .local ∨ sc.names.lookup x = some .cell
noncomputable def Look (env : Env) (h : Heap) (m : Str → Option Value) (x : Str) (u : Value) : Prop :=
  (env.kindOf x = some .local ∧ m x = some u) ∨ ((env.kindOf x = some .cell ∨ env.kindOf x = some .free) ∧ ∃ c, env.cells.lookup x = some c ∧ h.IsCell c (some u))

structure Cx.Ok (X : Cx) : Prop where
  mod : Mod X.K X.mg X.base
  kind : X.env.scope.kind = .function
  glob : X.env.globals = mainGlobals
  blt : X.env.builtins = builtinsNs
  above : X.s₀.heap.objs.size ≤ X.env.locals
  inj : ∀ x y c, X.env.cells.lookup x = some c → X.env.cells.lookup y = some c → x = y
  has : ∀ x, (X.env.kindOf x = some .cell ∨ X.env.kindOf x = some .free) → ∃ c, X.env.cells.lookup x = some c
  cab : ∀ x c, X.fn x = true → X.env.cells.lookup x = some c → X.s₀.heap.objs.size ≤ c
  hd : X.calm = true → X.A.handled = none
  frames : X.A.frames = some X.stack
  stk : X.stack = X.outer ∨ (X.stack = X.env :: X.outer ∧ X.env.frame = some X.env.locals)
  exf : ∀ b ∈ X.ex, b ≠ X.env.locals ∧ ∀ x c, X.env.cells.lookup x = some c → c ≠ b
  bs : ∀ b o, X.base.get? b = some o → X.s₀.heap.get? b = some o ∧ X.H₀ b = none
  bsz : X.base.objs.size ≤ X.s₀.heap.objs.size
  noex : ∀ b o, X.base.get? b = some o → b ∉ X.ex
  exfs : ∀ b ∈ X.ex, b ∉ X.fs
  funs : X.s₀.heap.FunFrames X.base X.outer
  frf : ∀ b ∈ X.fs, X.H₀ b = none

structure Inv (X : Cx) (pins : List (Addr × Obj)) (σ : List (Option V)) (H : Hp) (s : Shared) : Prop where
  ok : X.Ok
  os : s.os = X.s₀.os
  bare : AllBare s.gens
  base : Un X.fs X.ex X.H₀ H X.s₀.heap s.heap
  loc : ∃ m, s.heap.Ns X.env.locals m ∧ ∀ (i : Nat) (x : Str) (v : V), X.N[i]? = some x → σ[i]? = some (some v) → Vis X.env.scope x → ∃ u, RelV v u ∧ Look X.env s.heap m x u
  cell : ∀ x c, X.env.cells.lookup x = some c → ∃ v, s.heap.IsCell c v
  free : H X.env.locals = none
  freeC : ∀ x c, X.env.cells.lookup x = some c → H c = none
  pin : ∀ p ∈ X.pn ++ pins, s.heap.get? p.1 = some p.2 ∧ H p.1 = none ∧ p.1 ≠ X.env.locals ∧ p.1 ∉ X.fs ∧ ∀ v, p.2.data ≠ .cell v
  hok : HOk X.prog X.w H s.heap
  len : σ.length = X.N.length

section
variable {X : Cx} {pins : List (Addr × Obj)} {σ : List (Option V)} {H H' : Hp} {s : Shared} {h' : Heap}

theorem Cx.Ok.nofr (ok : X.Ok) {b : Addr} {o : Obj} (e : X.base.get? b = some o) : b ∉ X.fs := fun hb => by
  have := (ok.funs.mem hb).1
  rw [e] at this; cases this
theorem Inv.bs (I : Inv X pins σ H s) : ∀ b o, X.base.get? b = some o → s.heap.get? b = some o ∧ H b = none := fun b o e =>
  ⟨I.base.keep b o (I.ok.bs b o e).1 (I.ok.bs b o e).2 (I.ok.nofr e) (I.ok.noex b o e), I.base.free b o (I.ok.bs b o e).1 (I.ok.bs b o e).2 (I.ok.noex b o e)⟩
theorem Inv.bk (I : Inv X pins σ H s) : ∀ b o, X.base.get? b = some o → s.heap.get? b = some o := fun b o e => (I.bs b o e).1
theorem Inv.mod (I : Inv X pins σ H s) : Mod X.K X.mg X.base := I.ok.mod
theorem Inv.kIn (I : Inv X pins σ H s) : X.K.In s.heap := I.ok.mod.kin.keeps I.bk
theorem Inv.lt (I : Inv X pins σ H s) : X.env.locals < s.heap.objs.size := let ⟨_, hn, _⟩ := I.loc; hn.lt
theorem Inv.sz (I : Inv X pins σ H s) : X.s₀.heap.objs.size ≤ s.heap.objs.size := Nat.le_trans I.ok.above (Nat.le_of_lt I.lt)
theorem Inv.nofs (I : Inv X pins σ H s) {a : Addr} (h : s.heap.objs.size ≤ a) : a ∉ X.fs := fun hb => by
  obtain ⟨_, o, ho, _⟩ := I.ok.funs.mem hb
  exact absurd (Nat.lt_of_lt_of_le (Heap.lt_size ho) (Nat.le_trans I.sz h)) (Nat.lt_irrefl _)
theorem Inv.cne (I : Inv X pins σ H s) : ∀ x c, X.env.cells.lookup x = some c → c ≠ X.env.locals := fun x c e z => by
  obtain ⟨v, o, ho, hd⟩ := I.cell x c e
  obtain ⟨m, ⟨o', es, ep, ho', hd', _⟩, _⟩ := I.loc
  rw [z, ho'] at ho; cases ho; rw [hd'] at hd; cases hd
theorem Inv.funs (I : Inv X pins σ H s) : s.heap.FunFrames X.base X.outer := by
  have all : ∀ (l : List Env), (∀ b ∈ frs l, b ∈ X.fs) → X.s₀.heap.FunFrames X.base l → s.heap.FunFrames X.base l := by
    intro l
    induction l with
    | nil => intro _ _; trivial
    | cons env r ih =>
      intro hs hl
      obtain ⟨hk, ⟨L, o, hf, hn, ho, hd⟩, hr⟩ := hl
      have hL : L ∈ X.fs := hs L (by unfold frs; rw [List.filterMap_cons, hf]; exact List.mem_cons_self)
      obtain ⟨sl, e⟩ := I.base.slot L o ho (I.ok.frf L hL) hL fun z => I.ok.exfs L z hL
      exact ⟨hk, ⟨L, _, hf, hn, e, hd⟩, ih (fun b hb => hs b (by unfold frs; rw [List.filterMap_cons, hf]; exact List.mem_cons_of_mem _ hb)) hr⟩
  exact all X.outer (fun _ hb => hb) I.ok.funs

/-- the frames that run, for a call -/
theorem Inv.stack (I : Inv X pins σ H s) : s.heap.FunFrames X.base X.stack := by
  rcases I.ok.stk with e | ⟨e, hf⟩
  · rw [e]; exact I.funs
  · rw [e]
    obtain ⟨m, hn, _⟩ := I.loc
    refine .cons (by rw [I.ok.kind]; decide) hf hn ?_ I.funs
    exact Heap.get?_none_of_le (Nat.le_trans I.ok.bsz I.ok.above)
theorem Inv.stkSub (I : Inv X pins σ H s) : ∀ b ∈ frs X.stack, b ∈ X.env.locals :: X.fs := fun b hb => by
  rcases I.ok.stk with e | ⟨e, hf⟩
  · rw [e] at hb; exact List.mem_cons_of_mem _ hb
  · rw [e] at hb
    unfold frs at hb
    rw [List.filterMap_cons, hf] at hb
    exact hb
theorem Inv.stkFree (I : Inv X pins σ H s) : ∀ b ∈ frs X.stack, H b = none := fun b hb => by
  rcases List.mem_cons.mp (I.stkSub b hb) with e | hb
  · rw [e]; exact I.free
  · obtain ⟨_, o, ho, _⟩ := I.ok.funs.mem hb
    exact I.base.free b o ho (I.ok.frf b hb) fun z => I.ok.exfs b z hb

/-- THE STEP: the untracked objects but the frame and the records at ch are kept (the callers' frames up to slots), the frame's map is kept, the new abstract heap is held -/
theorem Inv.step {g' : Array GenState} {t' : Nat} {d' : Drawn} {ch : List Addr} (I : Inv X pins σ H s)
    (hch : ∀ b ∈ ch, (b ∈ X.ex ∨ X.s₀.heap.objs.size ≤ b) ∧ b ≠ X.env.locals ∧ (∀ x c, X.env.cells.lookup x = some c → c ≠ b) ∧ ∀ p ∈ X.pn ++ pins, p.1 ≠ b)
    (keep : ∀ b o, b ≠ X.env.locals → b ∉ X.fs → b ∉ ch → s.heap.get? b = some o → H b = none → h'.get? b = some o)
    (slot : ∀ b o, b ≠ X.env.locals → b ∈ X.fs → b ∉ ch → s.heap.get? b = some o → H b = none → ∃ sl, h'.get? b = some { o with slots := sl }) (free : ∀ b o, b ∉ ch → s.heap.get? b = some o → H b = none → H' b = none)
    (there : ∀ b o, b ∉ ch → s.heap.get? b = some o → ∃ o', h'.get? b = some o')
    (tups : ∀ b xs, H b = some (.tup xs) → H' b = some (.tup xs)) (frzs : ∀ b o u, H b = some (.frz o u) → H' b = some (.frz o u)) (tbls : ∀ b ps, H b = some (.tbl ps) → ∃ more, H' b = some (.tbl (ps ++ more)))
    (ns : ∀ m, s.heap.Ns X.env.locals m → h'.Ns X.env.locals m) (hok : HOk X.prog X.w H' h') (hg : AllBare g') :
    Inv X pins σ H' { s with heap := h', gens := g', drawn := d', toks := t' } := by
  have neL : ∀ b o, X.s₀.heap.get? b = some o → b ≠ X.env.locals := fun b o e => Nat.ne_of_lt (Nat.lt_of_lt_of_le (Heap.lt_size e) I.ok.above)
  have neC : ∀ b o, X.s₀.heap.get? b = some o → b ∉ X.ex → b ∉ ch := fun b o e hx hb => by
    rcases (hch b hb).1 with z | z
    · exact hx z
    · exact absurd (Nat.lt_of_lt_of_le (Heap.lt_size e) z) (Nat.lt_irrefl _)
  have cellK : ∀ x c, X.env.cells.lookup x = some c → ∀ v, s.heap.IsCell c v → h'.IsCell c v := fun x c e v ⟨o, ho, hd⟩ => by
    have nch : c ∉ ch := fun z => (hch c z).2.2.1 x c e rfl
    by_cases hc : c ∈ X.fs
    · obtain ⟨sl, q⟩ := slot c o (I.cne x c e) hc nch ho (I.freeC x c e)
      exact ⟨_, q, hd⟩
    · exact ⟨o, keep c o (I.cne x c e) hc nch ho (I.freeC x c e), hd⟩
  refine ⟨I.ok, I.os, hg, ⟨fun b o e n hb hx => ?_, fun b o e n hb hx => ?_, fun b o e n hx => ?_, fun b o e hx => ?_, fun b xs e => tups b xs (I.base.tups b xs e), fun b o xs e => frzs b o xs (I.base.frzs b o xs e), fun b ps e => ?_⟩, ?_, fun x c e => ?_, ?_, fun x c e => ?_, fun p hp => ?_, hok, I.len⟩
  · exact keep b o (neL b o e) hb (neC b o e hx) (I.base.keep b o e n hb hx) (I.base.free b o e n hx)
  · obtain ⟨sl, e1⟩ := I.base.slot b o e n hb hx
    obtain ⟨sl', e2⟩ := slot b _ (neL b o e) hb (neC b o e hx) e1 (I.base.free b o e n hx)
    exact ⟨sl', e2⟩
  · obtain ⟨o', e1⟩ := I.base.there b o e hx
    exact free b o' (neC b o e hx) e1 (I.base.free b o e n hx)
  · obtain ⟨o', e1⟩ := I.base.there b o e hx
    exact there b o' (neC b o e hx) e1
  · obtain ⟨m1, e1⟩ := I.base.tbls b ps e
    obtain ⟨m2, e2⟩ := tbls b _ e1
    exact ⟨m1 ++ m2, by rw [e2, Array.append_assoc]⟩
  · obtain ⟨m, hn, hl⟩ := I.loc
    refine ⟨m, ns m hn, fun i x v e1 e2 e3 => ?_⟩
    obtain ⟨u, r, l⟩ := hl i x v e1 e2 e3
    refine ⟨u, r, ?_⟩
    rcases l with l | ⟨k, c, e, z⟩
    · exact .inl l
    · exact .inr ⟨k, c, e, cellK x c e _ z⟩
  · obtain ⟨v, z⟩ := I.cell x c e
    exact ⟨v, cellK x c e v z⟩
  · obtain ⟨m, ⟨o, _, _, ho, _⟩, _⟩ := I.loc
    exact free _ o (fun z => (hch _ z).2.1 rfl) ho I.free
  · obtain ⟨v, o, ho, hd⟩ := I.cell x c e
    exact free c o (fun z => (hch c z).2.2.1 x c e rfl) ho (I.freeC x c e)
  · obtain ⟨e, n, ne, nf, d⟩ := I.pin p hp
    have nch : p.1 ∉ ch := fun z => (hch p.1 z).2.2.2 p hp rfl
    exact ⟨keep p.1 p.2 ne nf nch e n, free p.1 p.2 nch e n, ne, nf, d⟩
/-- .. where the frame's own object is kept too -/
theorem Inv.un {t' : Nat} (I : Inv X pins σ H s) (u : Un X.fs [] H H' s.heap h') (hok : HOk X.prog X.w H' h') : Inv X pins σ H' { s with heap := h', toks := t' } := by
  obtain ⟨m, ⟨o, es, ep, ho, r⟩, _⟩ := id I.loc
  obtain ⟨sl, hL⟩ := u.any ho I.free (by simp)
  exact I.step (g' := s.gens) (d' := s.drawn) (ch := []) (fun _ z => nomatch z) (fun b o _ hb _ e n => u.keep b o e n hb (by simp)) (fun b o _ hb _ e n => u.slot b o e n hb (by simp)) (fun b o _ e n => u.free b o e n (by simp)) (fun b o _ e => u.there b o e (by simp)) u.tups u.frzs u.tbls (fun m' hm => by
    obtain ⟨o', es', ep', ho', r'⟩ := hm
    rw [ho] at ho'; cases ho'
    exact ⟨_, es', ep', hL, r'⟩) hok I.bare
/-- behind a call (or a comprehension's block): the slots of this frame may have changed too, the records at ch may have turned -/
theorem Inv.call {g' : Array GenState} {t' : Nat} {d' : Drawn} {ch : List Addr} (I : Inv X pins σ H s) (u : Un (frs X.stack) ch H H' s.heap h') (hok : HOk X.prog X.w H' h') (hg : AllBare g')
    (hch : ∀ b ∈ ch, (b ∈ X.ex ∨ X.s₀.heap.objs.size ≤ b) ∧ b ≠ X.env.locals ∧ (∀ x c, X.env.cells.lookup x = some c → c ≠ b) ∧ ∀ p ∈ X.pn ++ pins, p.1 ≠ b) :
    Inv X pins σ H' { s with heap := h', gens := g', drawn := d', toks := t' } := by
  obtain ⟨m, ⟨o, es, ep, ho, r⟩, _⟩ := id I.loc
  obtain ⟨sl, hL⟩ := u.any ho I.free fun z => (hch _ z).2.1 rfl
  exact I.step (ch := ch) hch (fun b o hL hb hc e n => u.keep b o e n (fun z => (List.mem_cons.mp (I.stkSub b z)).elim hL hb) hc) (fun b o _ _ hc e n => u.any e n hc) (fun b o hc e n => u.free b o e n hc) (fun b o hc e => u.there b o e hc) u.tups u.frzs u.tbls (fun m' hm => by
    obtain ⟨o', es', ep', ho', r'⟩ := hm
    rw [ho] at ho'; cases ho'
    exact ⟨_, es', ep', hL, r'⟩) hok hg
/-- an untracked record of ours (an iterator) has turned -/
theorem Inv.turned {t' : Nat} {it : Addr} (I : Inv X pins σ H s) (k : ∀ b o, b ≠ it → s.heap.get? b = some o → h'.get? b = some o) (hn : H it = none) (hL : it ≠ X.env.locals)
    (h1 : it ∈ X.ex ∨ X.s₀.heap.objs.size ≤ it) (h2 : ∀ x c, X.env.cells.lookup x = some c → c ≠ it) (h3 : ∀ p ∈ X.pn ++ pins, p.1 ≠ it) : Inv X pins σ H { s with heap := h', toks := t' } := by
  have nit : ∀ b u, H b = some u → b ≠ it := fun b u e z => by rw [z, hn] at e; cases e
  refine I.step (g' := s.gens) (d' := s.drawn) (ch := [it]) (fun b hb => ?_) (fun b o _ _ hc e _ => k b o (fun z => hc (by simp [z])) e) (fun b o _ _ hc e _ => ⟨o.slots, k b o (fun z => hc (by simp [z])) e⟩) (fun _ _ _ _ n => n)
    (fun b o hc e => ⟨o, k b o (fun z => hc (by simp [z])) e⟩) (fun _ _ e => e) (fun _ _ _ e => e) (fun b ps e => ⟨#[], by rw [e]; simp⟩) (fun m hm => ?_) (fun b u e => ?_) I.bare
  · have e : b = it := by simpa using hb
    subst e
    exact ⟨h1, hL, h2, h3⟩
  · obtain ⟨o, es, ep, ho, r⟩ := hm
    exact ⟨o, es, ep, k _ o (Ne.symm hL) ho, r⟩
  · refine (I.hok b u e).stay (fun c v hc q => k c v ?_ q) (fun _ q => q) fun _ _ q => q
    rcases hc with z | z
    · rw [z]; exact nit b u e
    · exact nit c _ z
theorem Inv.tok (I : Inv X pins σ H s) (t : Nat) : Inv X pins σ H { s with toks := t } := I.un (h' := s.heap) (t' := t) Un.refl I.hok
/-- all objects kept -/
theorem Inv.kept {t' : Nat} (I : Inv X pins σ H s) (k : ∀ b u, s.heap.get? b = some u → h'.get? b = some u) : Inv X pins σ H { s with heap := h', toks := t' } := I.un (Un.kept k) (I.hok.kept k)
/-- a new object laid and tracked -/
theorem Inv.laid {a : Addr} {o : HO} {t' : Nat} (I : Inv X pins σ H s) (k : ∀ b u, s.heap.get? b = some u → h'.get? b = some u) (hp : s.heap.objs.size ≤ a) (new : ObjOk X.prog X.w (upd H a o) h' a o) :
    Inv X pins σ (upd H a o) { s with heap := h', toks := t' } := I.un (Un.laid k hp (I.hok.fresh hp)) (I.hok.laid k hp new)
/-- an object written -/
theorem Inv.write {x e : Addr} {o : HO} {t' : Nat} (I : Inv X pins σ H s) (mu : Mut (H x)) (he : e = x ∨ H e = some (.own x)) (k : ∀ b u, b ≠ e → s.heap.get? b = some u → h'.get? b = some u) (heo : ∃ u, h'.get? e = some u)
    (new : ObjOk X.prog X.w (upd H x o) h' x o) : Inv X pins σ (upd H x o) { s with heap := h', toks := t' } := I.un (Un.write mu he k heo) (I.hok.write mu he k heo new)
theorem Inv.pins_of {pins' : List (Addr × Obj)} (I : Inv X pins σ H s) (h : ∀ p ∈ pins', s.heap.get? p.1 = some p.2 ∧ H p.1 = none ∧ p.1 ≠ X.env.locals ∧ p.1 ∉ X.fs ∧ ∀ v, p.2.data ≠ .cell v) : Inv X pins' σ H s :=
  ⟨I.ok, I.os, I.bare, I.base, I.loc, I.cell, I.free, I.freeC, fun p hp => (List.mem_append.mp hp).elim (fun z => I.pin p (List.mem_append_left _ z)) (h p), I.hok, I.len⟩

theorem nodup_ix {N : List Str} (hN : N.Nodup) {i j : Nat} {x : Str} (a : N[i]? = some x) (b : N[j]? = some x) : i = j := by
  obtain ⟨h1, e1⟩ := List.getElem?_eq_some_iff.mp a
  obtain ⟨h2, e2⟩ := List.getElem?_eq_some_iff.mp b
  exact (List.getElem_inj hN).mp (e1.trans e2.symm)

/-- a name is stored; what changed -/
theorem store_ok2 {M : Model} {A : Around} {E : Value → Shared → Prop} {i : Nat} {x : Str} {v : V} {u : Value} {Q : Unit → Shared → Prop} (I : Inv X pins σ H s) (hN : X.N.Nodup) (hi : X.N[i]? = some x) (hx : Loc X.env.scope x) (r : RelV v u)
    (h : ∀ s', Inv X pins (σ.set i (some v)) H s' → (∃ a, Heap.SameBut a s.heap s'.heap ∧ (a = X.env.locals ∨ X.env.cells.lookup x = some a)) → Q () s') (hf : X.fn x = true ∨ X.env.scope.names.lookup x = some .local := by first | exact .inl rfl | exact .inr rfl | assumption) : wpAny M A (storeName X.env x u) Q E s := by
  obtain ⟨m, hn, hl⟩ := id I.loc
  have hcls : (X.env.scope.kind == .class || (X.env.scope.kind == .module && X.env.locals != X.env.globals)) = false := by rw [I.ok.kind]; rfl
  have hiσ : i < σ.length := by rw [I.len]; exact (List.getElem?_eq_some_iff.mp hi).1
  have cne := I.cne
  have tracked : ∀ {a : Addr} {h' : Heap}, (∃ o, s.heap.get? a = some o ∧ H a = none) → Heap.SameBut a s.heap h' → HOk X.prog X.w H h' := fun {a h'} ha hs b ob e => by
    obtain ⟨_, _, hfree⟩ := ha
    refine (I.hok b ob e).stay (fun c w' hc q => (hs.2 c ?_).trans q) (fun _ q => q) fun _ _ q => q
    rintro rfl
    rcases hc with rfl | hc
    · rw [hfree] at e; cases e
    · rw [hfree] at hc; cases hc
  rcases hx with hk | hk
  · refine wpAny_storeName_local hk hn (fun h' hn' hs => ?_) hcls
    obtain ⟨oL, _, _, hoL, _⟩ := id hn
    refine h _ ⟨I.ok, I.os, I.bare, ⟨fun b o e n hb hx => ?_, fun b o e n hb hx => ?_, I.base.free, fun b o e hx => ?_, I.base.tups, I.base.frzs, I.base.tbls⟩, ⟨_, hn', fun j y v' e1 e2 e3 => ?_⟩, fun y c e => ?_, I.free, I.freeC, fun p hp => ?_, tracked ⟨oL, hoL, I.free⟩ hs, by simpa using I.len⟩ ⟨_, hs, .inl rfl⟩
    · exact (hs.2 b (Nat.ne_of_lt (Nat.lt_of_lt_of_le (Heap.lt_size e) I.ok.above))).trans (I.base.keep b o e n hb hx)
    · obtain ⟨sl, e1⟩ := I.base.slot b o e n hb hx
      exact ⟨sl, (hs.2 b (Nat.ne_of_lt (Nat.lt_of_lt_of_le (Heap.lt_size e) I.ok.above))).trans e1⟩
    · obtain ⟨o', e1⟩ := I.base.there b o e hx
      exact ⟨o', (hs.2 b (Nat.ne_of_lt (Nat.lt_of_lt_of_le (Heap.lt_size e) I.ok.above))).trans e1⟩
    · by_cases hj : j = i
      · subst hj
        rw [hi] at e1; cases e1
        rw [List.getElem?_set_self hiσ] at e2
        cases e2
        exact ⟨u, r, .inl ⟨hk, by simp⟩⟩
      · rw [List.getElem?_set_ne (Ne.symm hj)] at e2
        obtain ⟨u', r', q⟩ := hl j y v' e1 e2 e3
        refine ⟨u', r', ?_⟩
        rcases q with ⟨k, e⟩ | ⟨k, c, e, z⟩
        · refine .inl ⟨k, ?_⟩
          have : y ≠ x := fun e => hj (nodup_ix hN e1 (e ▸ hi))
          simp [this, e]
        · exact .inr ⟨k, c, e, z.sameBut hs (cne y c e)⟩
    · obtain ⟨w', z⟩ := I.cell y c e
      exact ⟨w', z.sameBut hs (cne y c e)⟩
    · obtain ⟨e, n, ne, nf, d⟩ := I.pin p hp
      exact ⟨(hs.2 p.1 ne).trans e, n, ne, nf, d⟩
  · have hfn : X.fn x = true := by
      rcases hf with z | z
      · exact z
      · rw [z] at hk; cases hk
    obtain ⟨c, hc⟩ := I.ok.has x (.inl hk)
    obtain ⟨w', z⟩ := I.cell x c hc
    refine wpAny_storeName_cell I.ok.kind hk hc z (fun h' hc' hs => ?_)
    obtain ⟨oc, hoc, hocd⟩ := id z
    refine h { s with heap := h' } ⟨I.ok, I.os, I.bare, ⟨fun b o e n hb hx => ?_, fun b o e n hb hx => ?_, I.base.free, fun b o e hx => ?_, I.base.tups, I.base.frzs, I.base.tbls⟩, ⟨m, hn.sameBut hs (Ne.symm (cne x c hc)), fun j y v' e1 e2 e3 => ?_⟩, fun y c' e => ?_, I.free, I.freeC, fun p hp => ?_, tracked ⟨oc, hoc, I.freeC x c hc⟩ hs, by simpa using I.len⟩ ⟨c, hs, .inr hc⟩
    · exact (hs.2 b (Nat.ne_of_lt (Nat.lt_of_lt_of_le (Heap.lt_size e) (I.ok.cab x c hfn hc)))).trans (I.base.keep b o e n hb hx)
    · obtain ⟨sl, e1⟩ := I.base.slot b o e n hb hx
      exact ⟨sl, (hs.2 b (Nat.ne_of_lt (Nat.lt_of_lt_of_le (Heap.lt_size e) (I.ok.cab x c hfn hc)))).trans e1⟩
    · obtain ⟨o', e1⟩ := I.base.there b o e hx
      exact ⟨o', (hs.2 b (Nat.ne_of_lt (Nat.lt_of_lt_of_le (Heap.lt_size e) (I.ok.cab x c hfn hc)))).trans e1⟩
    · by_cases hj : j = i
      · subst hj
        rw [hi] at e1; cases e1
        rw [List.getElem?_set_self hiσ] at e2
        cases e2
        exact ⟨u, r, .inr ⟨.inl hk, c, hc, hc'⟩⟩
      · rw [List.getElem?_set_ne (Ne.symm hj)] at e2
        obtain ⟨u', r', q⟩ := hl j y v' e1 e2 e3
        refine ⟨u', r', ?_⟩
        rcases q with q | ⟨k, c', e, z'⟩
        · exact .inl q
        · refine .inr ⟨k, c', e, z'.sameBut hs ?_⟩
          rintro rfl
          exact hj (nodup_ix hN e1 (I.ok.inj _ _ _ e hc ▸ hi))
    · by_cases hcc : c' = c
      · subst hcc; exact ⟨_, hc'⟩
      · obtain ⟨w2, z2⟩ := I.cell y c' e
        exact ⟨w2, z2.sameBut hs hcc⟩
    · obtain ⟨e, n, ne, nf, d⟩ := I.pin p hp
      refine ⟨(hs.2 p.1 ?_).trans e, n, ne, nf, d⟩
      intro q
      rw [q, hoc] at e
      have q' : oc = p.2 := Option.some.inj e
      exact d w' (by rw [← q']; exact hocd)
theorem store_ok {M : Model} {A : Around} {E : Value → Shared → Prop} {i : Nat} {x : Str} {v : V} {u : Value} {Q : Unit → Shared → Prop} (I : Inv X pins σ H s) (hN : X.N.Nodup) (hi : X.N[i]? = some x) (hx : Loc X.env.scope x) (r : RelV v u)
    (h : ∀ s', Inv X pins (σ.set i (some v)) H s' → Q () s') (hf : X.fn x = true ∨ X.env.scope.names.lookup x = some .local := by first | exact .inl rfl | exact .inr rfl | assumption) : wpAny M A (storeName X.env x u) Q E s :=
  store_ok2 I hN hi hx r (fun s' I' _ => h s' I') hf
/-- behind a call or a block, the state as it is -/
theorem Inv.call' {s' : Shared} {ch : List Addr} (I : Inv X pins σ H s) (ho : s'.os = s.os) (u : Un (frs X.stack) ch H H' s.heap s'.heap) (hok : HOk X.prog X.w H' s'.heap) (hg : AllBare s'.gens)
    (hch : ∀ b ∈ ch, (b ∈ X.ex ∨ X.s₀.heap.objs.size ≤ b) ∧ b ≠ X.env.locals ∧ (∀ x c, X.env.cells.lookup x = some c → c ≠ b) ∧ ∀ p ∈ X.pn ++ pins, p.1 ≠ b) : Inv X pins σ H' s' := by
  obtain ⟨h', g', d', t', o'⟩ := s'
  have e : o' = s.os := ho
  subst e
  exact I.call (g' := g') (t' := t') (d' := d') u hok hg hch
end

/-! ### the judgements -/
/-- an exception: its class, its own dict's address (where it has one), the abstract heap behind it -/
noncomputable abbrev XK := Value → Option Addr → Hp → Prop
noncomputable abbrev St := List (Option V)
noncomputable abbrev VK := V → Hp → Prop
/-- an expression's reading; a test's; an argument list's -/
noncomputable abbrev TE := St → Hp → VK → Prop
noncomputable abbrev TT := St → Hp → (Bool → Hp → Prop) → Prop
noncomputable abbrev TA := St → Hp → (List V → Hp → Prop) → Prop
/-- what is wanted behind a statement -/
structure Ends where
  nx : St → Hp → Prop
  rt : VK
  bk : St → Hp → Prop := fun _ _ => False
  ct : St → Hp → Prop := fun _ _ => False
noncomputable abbrev TS := Ends → St → Hp → Prop

noncomputable def EP (X : Cx) (pins : List (Addr × Obj)) (σ : St) (Q : VK) (u : Value) (s' : Shared) : Prop := ∃ v H', Inv X pins σ H' s' ∧ RelV v u ∧ Q v H'
noncomputable def TP (X : Cx) (pins : List (Addr × Obj)) (σ : St) (Q : Bool → Hp → Prop) (b : Bool) (s' : Shared) : Prop := ∃ H', Inv X pins σ H' s' ∧ Q b H'
noncomputable def AP (X : Cx) (pins : List (Addr × Obj)) (σ : St) (Q : List V → Hp → Prop) (us : List Value) (s' : Shared) : Prop := ∃ vs H', Inv X pins σ H' s' ∧ Vals vs us ∧ Q vs H'
noncomputable def SP (X : Cx) (pins : List (Addr × Obj)) (D : Ends) (f : Flow) (s' : Shared) : Prop :=
  match f with
  | .next => ∃ σ' H', Inv X pins σ' H' s' ∧ D.nx σ' H'
  | .brk => ∃ σ' H', Inv X pins σ' H' s' ∧ D.bk σ' H'
  | .cont => ∃ σ' H', Inv X pins σ' H' s' ∧ D.ct σ' H'
  | .ret u => ∃ v σ' H', Inv X pins σ' H' s' ∧ RelV v u ∧ D.rt v H'

noncomputable def PE (X : Cx) (e : Expr) (t : TE) : Prop :=
  ∀ (pins : List (Addr × Obj)) (s : Shared) (σ : St) (H : Hp) (Q : VK), Inv X pins σ H s → t σ H Q → wpAny (model X.prog X.w) X.A (eval e X.env) (EP X pins σ Q) X.xe s
noncomputable def PT (X : Cx) (e : Expr) (t : TT) : Prop :=
  ∀ (pins : List (Addr × Obj)) (s : Shared) (σ : St) (H : Hp) (Q : Bool → Hp → Prop), Inv X pins σ H s → t σ H Q → wpAny (model X.prog X.w) X.A (isTrue e X.env (eval e X.env)) (TP X pins σ Q) X.xe s
/-- a test whatever its 'whole' is (and, or) -/
noncomputable def PW (X : Cx) (e : Expr) (t : TT) : Prop :=
  ∀ (whole : Sem Value) (pins : List (Addr × Obj)) (s : Shared) (σ : St) (H : Hp) (Q : Bool → Hp → Prop), Inv X pins σ H s → t σ H Q → wpAny (model X.prog X.w) X.A (isTrue e X.env whole) (TP X pins σ Q) X.xe s
theorem PW.pt {X : Cx} {e : Expr} {t : TT} (h : PW X e t) : PT X e t := h _
/-- an argument list (no star), from the left -/
noncomputable def PA (X : Cx) (es : List Expr) (t : TA) : Prop :=
  ∀ (pos : Pos) (pins : List (Addr × Obj)) (s : Shared) (σ : St) (H : Hp) (Q : List V → Hp → Prop), Inv X pins σ H s → t σ H Q → wpAny (model X.prog X.w) X.A (spliced (backTo pos (starEach es X.env))) (AP X pins σ Q) X.xe s
noncomputable def PS (X : Cx) (st : Stmt) (t : TS) : Prop :=
  ∀ (pins : List (Addr × Obj)) (s : Shared) (σ : St) (H : Hp) (D : Ends), Inv X pins σ H s → t D σ H → wpAny (model X.prog X.w) X.A (exec st X.env) (SP X pins D) X.xe s
noncomputable def PSs (X : Cx) (st : List Stmt) (t : TS) : Prop :=
  ∀ (pins : List (Addr × Obj)) (s : Shared) (σ : St) (H : Hp) (D : Ends), Inv X pins σ H s → t D σ H → wpAny (model X.prog X.w) X.A (execs st X.env) (SP X pins D) X.xe s
/-- weaken the end -/
theorem thn {α : Type} {t : Sem α} {Q Q' : α → Shared → Prop} {M : Model} {A : Around} {E : Value → Shared → Prop} {s : Shared} (h : wpAny M A t Q E s) (hQ : ∀ a s, Q a s → Q' a s) : wpAny M A t Q' E s := wpAny_mono h hQ fun _ _ x => x
end L2

namespace L2
open PySem PySem.Spec PyProof.Rows
section
variable {X : Cx}

/-! ### names and constants -/
noncomputable def tVar (i : Nat) : TE := fun σ H Q => ∃ v, σ[i]? = some (some v) ∧ Q v H
noncomputable def tC (v : V) : TE := fun _ H Q => Q v H
theorem pe_var {i : Nat} {x : Str} {pos : Pos} (hN : X.N[i]? = some x) (hv : Vis X.env.scope x) (hd : (x == ("__debug__" : Str)) = false := by decide) (hcd : (x == ("__classdict__" : Str)) = false := by decide) : PE X (.Name x pos) (tVar i) := by
  intro pins s σ H Q I h
  obtain ⟨v, e, h⟩ := h
  obtain ⟨m, hn, hl⟩ := I.loc
  obtain ⟨u, r, l⟩ := hl i x v hN e hv
  have fin : EP X pins σ Q u s := ⟨v, H, I, r, h⟩
  rcases l with ⟨hk, hm⟩ | ⟨hk, c, hc, hcell⟩
  · exact wpAny_Name (wpAny_loadName_local I.ok.kind hk hn hm fin) hd
  · rcases hk with hk | hk
    · exact wpAny_Name (wpAny_loadName_cell I.ok.kind hk hc hcell fin) hd
    · exact wpAny_Name (wpAny_loadName_free I.ok.kind hk hc hcell fin hcd) hd
theorem pe_int {i j pos} : PE X (.Constant (.int i) j pos) (tC (.int i)) := fun _ _ _ H _ I h => wpAny_Constant_int ⟨.int i, H, I.tok _, ⟨_, rfl⟩, h⟩
theorem pe_bl {b j pos} : PE X (.Constant (.bool b) j pos) (tC (.bl b)) := fun _ _ _ H _ I h => Constant_bool ⟨.bl b, H, I, rfl, h⟩
theorem pe_non {j pos} : PE X (.Constant .none j pos) (tC .non) := fun _ _ _ H _ I h => Constant_none ⟨.non, H, I, rfl, h⟩
theorem pe_str {x j pos} : PE X (.Constant (.str x) j pos) (tC (.str x)) := fun _ _ _ H _ I h => Calls.Constant_str ⟨.str x, H, I.tok _, ⟨_, rfl⟩, h⟩

/-- a global name of the def -/
noncomputable def Gl (X : Cx) (x : Str) : Prop := X.env.kindOf x = some .globalImplicit
theorem ld_glob {E : Value → Shared → Prop} {pins : List (Addr × Obj)} {s : Shared} {σ : St} {H : Hp} {x : Str} {u : Value} {pos : Pos} {Q : Value → Shared → Prop} (I : Inv X pins σ H s) (hg : Gl X x) (hm : X.mg x = some u) (h : Q u s)
    (hd : (x == ("__debug__" : Str)) = false := by decide) : wpAny (model X.prog X.w) X.A (eval (.Name x pos) X.env) Q E s :=
  Calls.Name_function_global I.ok.kind hg (Calls.loadGlobal_global (by rw [I.ok.glob]; exact I.mod.glob.keeps I.bk) hm h) hd
theorem ld_blt {E : Value → Shared → Prop} {pins : List (Addr × Obj)} {s : Shared} {σ : St} {H : Hp} {x : Str} {u : Value} {pos : Pos} {Q : Value → Shared → Prop} (I : Inv X pins σ H s) (hg : Gl X x) (hm : X.mg x = none) (hv : bootBuiltins x = some u) (h : Q u s)
    (hn : x ≠ "__name__" := by decide) (hd : (x == ("__debug__" : Str)) = false := by decide) : wpAny (model X.prog X.w) X.A (eval (.Name x pos) X.env) Q E s := by
  obtain ⟨mb, h1, h2⟩ := I.mod.blt
  exact Calls.Name_function_global I.ok.kind hg (Calls.loadGlobal_builtin (by rw [I.ok.glob]; exact I.mod.glob.keeps I.bk) hm (by rw [I.ok.blt]; exact h1.keeps I.bk) ((h2 x hn).trans hv) h) hd
/-- a module's constant, a class, a function, as a value -/
theorem pe_glob {x : Str} {v : V} {u : Value} {pos : Pos} (hg : Gl X x) (hm : X.mg x = some u) (r : RelV v u) (hd : (x == ("__debug__" : Str)) = false := by decide) : PE X (.Name x pos) (tC v) :=
  fun _ _ _ H _ I h => ld_glob I hg hm ⟨v, H, I, r, h⟩ hd
theorem pe_bltn {x : Str} {v : V} {u : Value} {pos : Pos} (hg : Gl X x) (hm : X.mg x = none) (hv : bootBuiltins x = some u) (r : RelV v u) (hn : x ≠ "__name__" := by decide) (hd : (x == ("__debug__" : Str)) = false := by decide) : PE X (.Name x pos) (tC v) :=
  fun _ _ _ H _ I h => ld_blt I hg hm hv ⟨v, H, I, r, h⟩ hn hd

/-! ### arithmetic -/
variable {a b : Expr} {ta tb : TE} {pos : Pos}
/-! ### comparisons -/
/-- a comparison as a value, as a test -/
noncomputable def tB (t : TE) : TT := fun σ H Q => t σ H fun x H1 => ∃ c, x = .bl c ∧ Q c H1
/-- an expression whose value is a bool, as a test -/
theorem pt_val {e : Expr} {t : TE} (h : PE X e t) (he : ∀ whole, isTrue e X.env whole = (do let v ← whole; standAt e.pos; holding [v] (truthy v)) := by intro _; rfl) : PT X e (tB t) := by
  intro pins s σ H Q I hw
  refine isTrue_plain (thn (h pins s σ H _ I hw) fun v s1 ⟨x, H1, I1, r1, q1⟩ => ?_) (he _)
  obtain ⟨d, rfl, q⟩ := q1
  cases r1
  exact wpAny_truthy_bool ⟨H1, I1, q⟩

/-! ### and, or, not -/
variable {tA tB' : TT} {rest : List Expr}
noncomputable def tAnd (t u : TT) : TT := fun σ H Q => t σ H fun c H1 => if c = true then u σ H1 Q else Q false H1
noncomputable def tOr (t u : TT) : TT := fun σ H Q => t σ H fun c H1 => if c = true then Q true H1 else u σ H1 Q
noncomputable def tNot (t : TT) : TT := fun σ H Q => t σ H fun c H1 => Q (!c) H1
theorem pw_and1 (ha : PT X a tA) : PW X (.BoolOp .And [a] pos) tA := by
  intro wh pins s σ H Q I h
  refine isTrue_and (thn (ha pins s σ H Q I h) fun c s1 e => ?_)
  cases c with
  | true => exact isTrue_and_nil e
  | false => exact e
theorem pw_or1 (ha : PT X a tA) : PW X (.BoolOp .Or [a] pos) tA := by
  intro wh pins s σ H Q I h
  refine isTrue_or (thn (ha pins s σ H Q I h) fun c s1 e => ?_)
  cases c with
  | false => exact isTrue_or_nil e
  | true => exact e
theorem pw_and (ha : PT X a tA) (hb : PW X (.BoolOp .And (b :: rest) pos) tB') : PW X (.BoolOp .And (a :: b :: rest) pos) (tAnd tA tB') := by
  intro wh pins s σ H Q I h
  refine isTrue_and (thn (ha pins s σ H _ I h) fun c s1 ⟨H1, I1, q1⟩ => ?_)
  cases c with
  | true => exact hb wh pins s1 σ H1 Q I1 q1
  | false => exact ⟨H1, I1, q1⟩
theorem pw_or (ha : PT X a tA) (hb : PW X (.BoolOp .Or (b :: rest) pos) tB') : PW X (.BoolOp .Or (a :: b :: rest) pos) (tOr tA tB') := by
  intro wh pins s σ H Q I h
  refine isTrue_or (thn (ha pins s σ H _ I h) fun c s1 ⟨H1, I1, q1⟩ => ?_)
  cases c with
  | true => exact ⟨H1, I1, q1⟩
  | false => exact hb wh pins s1 σ H1 Q I1 q1
theorem pt_not (ha : PT X a tA) : PT X (.UnaryOp .Not a pos) (tNot tA) := by
  intro pins s σ H Q I h
  exact isTrue_not (ha pins s σ H (fun c H1 => Q (!c) H1) I h)
/-- .. as values (bools) -/
noncomputable def tAndV (ta tb : TE) : TE := fun σ H Q => ta σ H fun x H1 => ∃ c, x = .bl c ∧ if c = true then tb σ H1 Q else Q (.bl false) H1
noncomputable def tOrV (ta tb : TE) : TE := fun σ H Q => ta σ H fun x H1 => ∃ c, x = .bl c ∧ if c = true then Q (.bl true) H1 else tb σ H1 Q
noncomputable def tNotV (ta : TE) : TE := fun σ H Q => ta σ H fun x H1 => ∃ c, x = .bl c ∧ Q (.bl (!c)) H1
theorem pe_one {op} {t : TE} (h : PE X a t) : PE X (.BoolOp op [a] pos) t := fun pins s σ H Q I hw => BoolOp_one (h pins s σ H Q I hw)
theorem pe_and (ha : PE X a ta) (hb : PE X (.BoolOp .And (b :: rest) pos) tb) : PE X (.BoolOp .And (a :: b :: rest) pos) (tAndV ta tb) := by
  intro pins s σ H Q I h
  refine BoolOp_and (thn (ha pins s σ H _ I h) fun v s1 ⟨x, H1, I1, r1, q1⟩ => ?_)
  obtain ⟨c, rfl, q1⟩ := q1
  cases r1
  refine wpAny_truthy_bool ?_
  cases c with
  | true => exact hb pins s1 σ H1 Q I1 q1
  | false => exact ⟨.bl false, H1, I1, rfl, q1⟩
theorem pe_or (ha : PE X a ta) (hb : PE X (.BoolOp .Or (b :: rest) pos) tb) : PE X (.BoolOp .Or (a :: b :: rest) pos) (tOrV ta tb) := by
  intro pins s σ H Q I h
  refine BoolOp_or (thn (ha pins s σ H _ I h) fun v s1 ⟨x, H1, I1, r1, q1⟩ => ?_)
  obtain ⟨c, rfl, q1⟩ := q1
  cases r1
  refine wpAny_truthy_bool ?_
  cases c with
  | false => exact hb pins s1 σ H1 Q I1 q1
  | true => exact ⟨.bl true, H1, I1, rfl, q1⟩
theorem pe_not (ha : PE X a ta) : PE X (.UnaryOp .Not a pos) (tNotV ta) := by
  intro pins s σ H Q I h
  refine UnaryOp_ (thn (ha pins s σ H _ I h) fun v s1 ⟨x, H1, I1, r1, q1⟩ => ?_)
  obtain ⟨c, rfl, q1⟩ := q1
  cases r1
  exact not_of (wpAny_truthy_bool ⟨.bl (!c), H1, I1, rfl, q1⟩)
/-- a if t else b -/
noncomputable def tIf (t : TT) (ta tb : TE) : TE := fun σ H Q => t σ H fun c H1 => if c = true then ta σ H1 Q else tb σ H1 Q
theorem pe_ifExp {c : Expr} (hc : PT X c tA) (ha : PE X a ta) (hb : PE X b tb) : PE X (.IfExp c a b pos) (tIf tA ta tb) := by
  intro pins s σ H Q I h
  refine wpAny_IfExp (thn (hc pins s σ H _ I h) fun d s1 ⟨H1, I1, q1⟩ => ?_)
  cases d with
  | true => exact ha pins s1 σ H1 Q I1 q1
  | false => exact hb pins s1 σ H1 Q I1 q1
end
end L2

namespace L2
open PySem PySem.Spec PyProof.Rows

/-! ### a list, a tuple that is read: tracked, frozen, or an object of the module -/
noncomputable def SqL (K : PySem.W.Frag) (H : Hp) (a : Addr) (xs : List V) : Prop :=
  Rd H a (.lst xs) ∨
    ∃ (o : Obj) (its : Array Value) (n : Nat), K.lookup a = some o ∧ o.cls = .type "list" ∧ o.dict = none ∧ o.data = .seq its n ∧ its.size ≤ sizeLine ∧ Vals xs its.toList
noncomputable def SqT (K : PySem.W.Frag) (H : Hp) (a : Addr) (xs : List V) : Prop :=
  Rd H a (.tup xs) ∨
    ∃ (o : Obj) (its : Array Value) (n : Nat), K.lookup a = some o ∧ o.cls = .type "tuple" ∧ o.data = .seq its n ∧ its.size ≤ sizeLine ∧ Vals xs its.toList
noncomputable def absV : Value → Option V
  | .none => some .non
  | .bool b => some (.bl b)
  | .int i _ => some (.int i)
  | .str x _ => some (.str x)
  | .bytes b _ => some (.byt b)
  | .float b _ => some (.flt b)
  | .ref a => some (.ref a)
  | .type n => some (.ty n)
  | _ => none
theorem RelV.abs {x : V} {u : Value} (r : RelV x u) : absV u = some x := by
  cases x with
  | non => cases r; rfl
  | bl _ => cases r; rfl
  | int _ => obtain ⟨t, rfl⟩ := r; rfl
  | str _ => obtain ⟨t, rfl⟩ := r; rfl
  | byt _ => obtain ⟨t, rfl⟩ := r; rfl
  | flt _ => obtain ⟨t, rfl⟩ := r; rfl
  | ref _ => cases r; rfl
  | ty _ => cases r; rfl
theorem RelV.inj {x y : V} {u : Value} (r : RelV x u) (q : RelV y u) : x = y := Option.some.inj (r.abs.symm.trans q.abs)
theorem Vals.inj : ∀ {xs ys : List V} {us : List Value}, Vals xs us → Vals ys us → xs = ys
  | _, _, _, .nil, .nil => rfl
  | _, _, _, .cons r t, .cons r' t' => by rw [r.inj r', Vals.inj t t']
section
variable {X : Cx} {pins : List (Addr × Obj)} {σ : St} {H : Hp} {s : Shared} {a : Addr} {xs ys : List V}
theorem SqL.of {K : PySem.W.Frag} (h : H a = some (.lst xs)) : SqL K H a xs := .inl (.inl h)
theorem SqT.of {K : PySem.W.Frag} (h : H a = some (.tup xs)) : SqT K H a xs := .inl (.inl h)
theorem Inv.list (I : Inv X pins σ H s) (h : SqL X.K H a xs) : ∃ its : List Value, Vals xs its ∧ PlainL s.heap a its.toArray ∧ xs.length ≤ sizeLine := by
  rcases h with h | ⟨o, its, n, hk, hc, hd, hs, hz, r⟩
  · obtain ⟨z, its, n, r, e⟩ := h.ok I.hok
    exact ⟨its, r, ⟨_, n, e, rfl, rfl, rfl⟩, z⟩
  · refine ⟨its.toList, r, ⟨o, n, I.kIn a o hk, hc, hd, by simpa using hs⟩, ?_⟩
    have e := r.length
    simp only [Array.length_toList] at e
    omega
theorem Inv.tuple (I : Inv X pins σ H s) (h : SqT X.K H a xs) : ∃ its : List Value, Vals xs its ∧ IsTup s.heap a its.toArray ∧ xs.length ≤ sizeLine := by
  rcases h with h | ⟨o, its, n, hk, hc, hs, hz, r⟩
  · obtain ⟨z, its, r, p⟩ := h.ok I.hok
    exact ⟨its, r, p, z⟩
  · refine ⟨its.toList, r, ⟨o, I.kIn a o hk, hc, n, by simpa using hs⟩, ?_⟩
    have e := r.length
    simp only [Array.length_toList] at e
    omega
theorem Inv.list_inj (I : Inv X pins σ H s) (h : SqL X.K H a xs) (h' : SqL X.K H a ys) : xs = ys := by
  obtain ⟨its, r, ⟨o, n, e, _, _, d⟩, _⟩ := I.list h
  obtain ⟨its', r', ⟨o', n', e', _, _, d'⟩, _⟩ := I.list h'
  rw [e] at e'; cases e'
  rw [d] at d'
  injection d' with d1 _
  have : its = its' := by simpa using congrArg Array.toList d1
  subst this
  exact r.inj r'
theorem Inv.tuple_inj (I : Inv X pins σ H s) (h : SqT X.K H a xs) (h' : SqT X.K H a ys) : xs = ys := by
  obtain ⟨its, r, ⟨o, e, _, n, d⟩, _⟩ := I.tuple h
  obtain ⟨its', r', ⟨o', e', _, n', d'⟩, _⟩ := I.tuple h'
  rw [e] at e'; cases e'
  rw [d] at d'
  injection d' with d1 _
  have : its = its' := by simpa using congrArg Array.toList d1
  subst this
  exact r.inj r'
end

/-! ### another wish about exceptions -/
noncomputable abbrev Cx.wish (X : Cx) (E : Value → Shared → Prop) : Cx := { X with xe := E }
/-- no exception leaves -/
noncomputable abbrev Cx.nox (X : Cx) : Cx := X.wish fun _ _ => False
theorem Cx.Ok.wish {X : Cx} (ok : X.Ok) (E : Value → Shared → Prop) : (X.wish E).Ok :=
  ⟨ok.mod, ok.kind, ok.glob, ok.blt, ok.above, ok.inj, ok.has, ok.cab, ok.hd, ok.frames, ok.stk, ok.exf, ok.bs, ok.bsz, ok.noex, ok.exfs, ok.funs, ok.frf⟩
theorem Cx.Ok.unwish {X : Cx} {E : Value → Shared → Prop} (ok : (X.wish E).Ok) : X.Ok :=
  ⟨ok.mod, ok.kind, ok.glob, ok.blt, ok.above, ok.inj, ok.has, ok.cab, ok.hd, ok.frames, ok.stk, ok.exf, ok.bs, ok.bsz, ok.noex, ok.exfs, ok.funs, ok.frf⟩
section
variable {X : Cx} {pins : List (Addr × Obj)} {σ : St} {H : Hp} {s : Shared} {E : Value → Shared → Prop}
theorem Inv.wish (I : Inv X pins σ H s) (E : Value → Shared → Prop) : Inv (X.wish E) pins σ H s := ⟨I.ok.wish E, I.os, I.bare, I.base, I.loc, I.cell, I.free, I.freeC, I.pin, I.hok, I.len⟩
theorem Inv.unwish (I : Inv (X.wish E) pins σ H s) : Inv X pins σ H s := ⟨I.ok.unwish, I.os, I.bare, I.base, I.loc, I.cell, I.free, I.freeC, I.pin, I.hok, I.len⟩
theorem SP.unwish {D : Ends} {f : Flow} {s' : Shared} (h : SP (X.wish E) pins D f s') : SP X pins D f s' := by
  cases f with
  | next => obtain ⟨σ', H', I, q⟩ := h; exact ⟨σ', H', I.unwish, q⟩
  | brk => obtain ⟨σ', H', I, q⟩ := h; exact ⟨σ', H', I.unwish, q⟩
  | cont => obtain ⟨σ', H', I, q⟩ := h; exact ⟨σ', H', I.unwish, q⟩
  | ret u => obtain ⟨v, σ', H', I, r, q⟩ := h; exact ⟨v, σ', H', I.unwish, r, q⟩
theorem PSs.nox {st : List Stmt} {t : TS} (h : PSs X.nox st t) : PSs X st t := fun pins s σ H D I hw =>
  wpAny_mono (h pins s σ H D (I.wish _) hw) (fun _ _ q => q.unwish) fun _ _ z => False.elim z
end

/-! ### blocks and small statements -/
section
variable {X : Cx} {st : Stmt} {rest : List Stmt} {t u : TS} {e : Expr} {te : TE} {pos : Pos}
noncomputable def tNext : TS := fun D σ H => D.nx σ H
noncomputable def tSeq (t u : TS) : TS := fun D σ H => t { D with nx := u D } σ H
theorem pss_nil : PSs X [] tNext := fun _ _ σ H _ I h => wpAny_execs_nil ⟨σ, H, I, h⟩
theorem pss_cons (h1 : PS X st t) (h2 : PSs X rest u) : PSs X (st :: rest) (tSeq t u) := by
  intro pins s σ H D I h
  refine wpAny_execs_cons (thn (h1 pins s σ H { D with nx := u D } I h) fun f s1 q => ?_)
  cases f with
  | next =>
    obtain ⟨σ', H', I', q⟩ := q
    exact h2 pins s1 σ' H' D I' q
  | ret v => exact q
  | brk => exact q
  | cont => exact q
theorem pss_one (h1 : PS X st t) : PSs X [st] t := by
  intro pins s σ H D I h
  refine wpAny_execs_cons (thn (h1 pins s σ H D I h) fun f s1 q => ?_)
  cases f with
  | next => exact wpAny_execs_nil q
  | ret v => exact q
  | brk => exact q
  | cont => exact q
/-- in a def's body nothing is shown -/
theorem Inv.quiet {pins : List (Addr × Obj)} {σ : St} {H : Hp} {s : Shared} (I : Inv X pins σ H s) : interactive X.env = false := by simp [interactive, I.ok.kind]
/-- an expression whose value is dropped -/
noncomputable def tDrop (te : TE) : TS := fun D σ H => te σ H fun _ H1 => D.nx σ H1
theorem ps_expr (he : PE X e te) (hs : swapsWith e none pos.line X.env = pure false := by rfl) : PS X (.Expr e pos) (tDrop te) := by
  intro pins s σ H D I h
  exact wpAny_Expr_any (thn (he pins s σ H _ I h) fun v s1 ⟨x, H1, I1, r1, q1⟩ => ⟨σ, H1, I1, q1⟩) I.quiet hs
noncomputable def tRet (te : TE) : TS := fun D σ H => te σ H D.rt
theorem ps_ret (he : PE X e te) : PS X (.Return (some e) pos) (tRet te) := by
  intro pins s σ H D I h
  exact wpAny_Return_some (thn (he pins s σ H _ I h) fun v s1 ⟨x, H1, I1, r1, q1⟩ => ⟨x, σ, H1, I1, r1, q1⟩)
noncomputable def tIfS (c : TT) (t u : TS) : TS := fun D σ H => c σ H fun b H1 => if b = true then t D σ H1 else u D σ H1
theorem ps_if {c : Expr} {a b : List Stmt} {tc : TT} (hc : PT X c tc) (ha : PSs X a t) (hb : PSs X b u) : PS X (.If c a b pos) (tIfS tc t u) := by
  intro pins s σ H D I h
  refine wpAny_If (thn (hc pins s σ H _ I h) fun d s1 ⟨H1, I1, q1⟩ => ?_)
  cases d with
  | true => exact ha pins s1 σ H1 D I1 q1
  | false => exact hb pins s1 σ H1 D I1 q1
end

/-! ### targets -/
noncomputable abbrev TG := V → St → Hp → (St → Hp → Prop) → Prop
noncomputable def PG (X : Cx) (target : Expr) (t : TG) : Prop :=
  ∀ (pins : List (Addr × Obj)) (s : Shared) (σ : St) (H : Hp) (v : V) (u : Value) (Q : St → Hp → Prop), Inv X pins σ H s → RelV v u → t v σ H Q →
    wpAny (model X.prog X.w) X.A (assign target X.env u) (fun _ s' => ∃ σ' H', Inv X pins σ' H' s' ∧ Q σ' H') X.xe s
section
variable {X : Cx} {pos : Pos}
noncomputable def gName (i : Nat) : TG := fun v σ H Q => Q (σ.set i (some v)) H
theorem pg_name {i : Nat} {x : Str} (hN : X.N.Nodup) (hi : X.N[i]? = some x) (hx : Loc X.env.scope x) (hf : X.fn x = true ∨ X.env.scope.names.lookup x = some .local := by first | exact .inl rfl | exact .inr rfl | assumption) : PG X (.Name x pos) (gName i) := by
  intro pins s σ H v u Q I r h
  exact wpAny_assign_Name (store_ok I hN hi hx r (fun s' I' => ⟨_, H, I', h⟩) hf)
/-- target = value -/
noncomputable def tAsg (te : TE) (g : TG) : TS := fun D σ H => te σ H fun x H1 => g x σ H1 D.nx
/-- name = value -/
theorem ps_set {i : Nat} {x : Str} {e : Expr} {te : TE} {pos' : Pos} (hN : X.N.Nodup) (hi : X.N[i]? = some x) (hx : Loc X.env.scope x) (he : PE X e te) (hs : swapsWith e (some (.Name x pos')) pos.line X.env = pure false := by rfl) (hf : X.fn x = true ∨ X.env.scope.names.lookup x = some .local := by first | exact .inl rfl | exact .inr rfl | assumption) :
    PS X (.Assign [.Name x pos'] e pos) (tAsg te (gName i)) := by
  intro pins s σ H D I h
  refine wpAny_Assign_Name (thn (he pins s σ H _ I h) fun v s1 ⟨y, H1, I1, r1, q1⟩ => ?_) hs
  exact store_ok I1 hN hi hx r1 (fun s2 I2 => ⟨_, H1, I2, q1⟩) hf
end

/-! ### while -/
section
variable {X : Cx} {pos : Pos}
/-- the invariant W with its measure -/
noncomputable def tWhile (c : TT) (tb : TS) : TS := fun D σ H => ∃ W : Nat → St → Hp → Prop, (∃ m, W m σ H) ∧ ∀ m σ H, W m σ H →
  c σ H fun b H1 => if b = true then ∃ N : St → Hp → Prop, (∀ σ' H', N σ' H' → ∃ m', m' < m ∧ W m' σ' H') ∧ tb { D with nx := N, ct := N, bk := D.nx } σ H1 else D.nx σ H1
theorem ps_while {c : Expr} {body : List Stmt} {tc : TT} {tb : TS} (hp : PassesOwn (model X.prog X.w) X.A X.env X.xe) (hc : PT X c tc) (hb : PSs X body tb) : PS X (.While c body [] pos) (tWhile tc tb) := by
  intro pins s σ H D I h
  obtain ⟨W, ⟨m0, w0⟩, turn⟩ := h
  refine wpAny_While (codeAny_whileLoop (fun n s' => ∃ σ' H', Inv X pins σ' H' s' ∧ W n σ' H') ?_ m0 ⟨σ, H, I, w0⟩)
  rintro n s1 ⟨σ1, H1, I1, w1⟩
  refine wpAny_passesOwn hp (thn (hc pins s1 σ1 H1 _ I1 (turn n σ1 H1 w1)) fun b s2 ⟨H2, I2, q2⟩ => ?_)
  cases b with
  | true =>
    obtain ⟨N, hN, q2⟩ := q2
    rw [if_pos rfl]
    refine wpAny_passesOwn hp (thn (hb pins s2 σ1 H2 _ I2 q2) fun f s3 q3 => ?_)
    cases f with
    | next =>
      obtain ⟨σ3, H3, I3, n3⟩ := q3
      obtain ⟨m', hm, w3⟩ := hN σ3 H3 n3
      exact ⟨m', hm, σ3, H3, I3, w3⟩
    | cont =>
      obtain ⟨σ3, H3, I3, n3⟩ := q3
      obtain ⟨m', hm, w3⟩ := hN σ3 H3 n3
      exact ⟨m', hm, σ3, H3, I3, w3⟩
    | brk => exact q3
    | ret v => exact q3
  | false =>
    rw [if_neg Bool.false_ne_true]
    exact wpAny_execs_nil ⟨σ1, H2, I2, q2⟩
end

/-! ### what a loop or a comprehension walks -/
/-- at turn i: it yields x (the heap may grow), or it stops -/
structure It where
  go : Nat → Hp → Prop
  yld : Nat → Hp → V → Hp → Prop
  stop : Nat → Hp → Prop
/-- the iterator's own objects may turn: they are not the frame's, not pinned, younger than the entry (or a comprehension's own) -/
noncomputable def FpOk (X : Cx) (pins : List (Addr × Obj)) (H : Hp) (b : Addr) : Prop :=
  H b = none ∧ b ≠ X.env.locals ∧ b ∉ X.fs ∧ (b ∈ X.ex ∨ X.s₀.heap.objs.size ≤ b) ∧ (∀ x c, X.env.cells.lookup x = some c → c ≠ b) ∧ ∀ p ∈ X.pn ++ pins, p.1 ≠ b
theorem Inv.fpOk {X : Cx} {pins : List (Addr × Obj)} {σ : St} {H H' : Hp} {s : Shared} {b : Addr} (I : Inv X pins σ H s) (hb : s.heap.objs.size ≤ b) (hn : H' b = none) : FpOk X pins H' b := by
  refine ⟨hn, Nat.ne_of_gt (Nat.lt_of_lt_of_le I.lt hb), I.nofs hb, .inr (Nat.le_trans I.sz hb), fun x c e z => ?_, fun p hp z => ?_⟩
  · obtain ⟨v, q⟩ := I.cell x c e
    exact absurd (Nat.lt_of_lt_of_le q.lt (by rw [z]; exact hb)) (Nat.lt_irrefl _)
  · exact absurd (Nat.lt_of_lt_of_le (Heap.lt_size (I.pin p hp).1) (by rw [z]; exact hb)) (Nat.lt_irrefl _)
structure Turn (P : Program) (w : World) (K : PySem.W.Frag) (tg : Expr) (J : It) (fp : List Addr) (it : Addr) (tn : Nat → Heap → Prop) : Prop where
  mem : it ∈ fp
  obj : ∀ i h, tn i h → ∀ b ∈ fp, ∃ o, h.get? b = some o ∧ ∀ v, o.data ≠ .cell v
  keep : ∀ i h h', tn i h → (∀ b ∈ fp, ∀ o, h.get? b = some o → h'.get? b = some o) → tn i h'
  item : ∀ (X : Cx), X.prog = P → X.w = w → X.K = K → X.calm = true → ∀ (i : Nat) (pins : List (Addr × Obj)) (s : Shared) (σ : St) (H : Hp) (E : Value → Shared → Prop), Inv X pins σ H s → (∀ b ∈ fp, FpOk X pins H b) → tn i s.heap → J.go i H →
    wpAny (model P w) X.A (pyNext (.ref it)) (fun r s1 => ∃ u, r = some u ∧
      wpAny (model P w) X.A (letOwnedTupleGo tg (.ref it) u) (fun _ s2 => ∃ x H', Inv X pins σ H' s2 ∧ RelV x u ∧ J.yld i H x H' ∧ tn (i + 1) s2.heap ∧ ∀ b ∈ fp, H' b = none) E s1) E s
  done : ∀ (X : Cx), X.prog = P → X.w = w → X.K = K → X.calm = true → ∀ (i : Nat) (pins : List (Addr × Obj)) (s : Shared) (σ : St) (H : Hp) (E : Value → Shared → Prop), Inv X pins σ H s → (∀ b ∈ fp, FpOk X pins H b) → tn i s.heap → J.stop i H →
    wpAny (model P w) X.A (pyNext (.ref it)) (fun r s1 => r = none ∧ Inv X pins σ H s1) E s
  self : ∀ (A : Around) (i : Nat) (s : Shared) (Q : Value → Shared → Prop) (E : Value → Shared → Prop), tn i s.heap → Q (.ref it) s → wpAny (model P w) A (pyIter (.ref it)) Q E s
noncomputable abbrev TI := St → Hp → (It → Hp → Prop) → Prop
/-- an iterator has come -/
noncomputable def PIE (X : Cx) (pins : List (Addr × Obj)) (σ : St) (tg : Expr) (R : It → Hp → Prop) (itv : Value) (s2 : Shared) : Prop :=
  ∃ (it : Addr) (fp : List Addr) (tn : Nat → Heap → Prop) (J : It) (H' : Hp), itv = .ref it ∧ Inv X pins σ H' s2 ∧ Turn X.prog X.w X.K tg J fp it tn ∧ tn 0 s2.heap ∧ (∀ b ∈ fp, FpOk X pins H' b) ∧ R J H'
noncomputable def PI (X : Cx) (tg iter : Expr) (wi : TI) : Prop :=
  ∀ (pins : List (Addr × Obj)) (s : Shared) (σ : St) (H : Hp) (R : It → Hp → Prop), Inv X pins σ H s → wi σ H R →
    wpAny (model X.prog X.w) X.A (eval iter X.env) (fun v s1 => wpAny (model X.prog X.w) X.A (pyIter v) (PIE X pins σ tg R) X.xe s1) X.xe s

/-- the step ahead of the store is nothing for an iterator that keeps no tuple -/
theorem go_of {M : Model} {A : Around} {E : Value → Shared → Prop} {s : Shared} {tg : Expr} {it : Addr} {u : Value} {o : Obj} {n : String} {vs : Array Value} {Q : Unit → Shared → Prop} (ho : s.heap.get? it = some o) (hc : o.cls = .type n) (hd : o.data = .fields vs)
    (hn : ["enumerate", "zip", "dict_itemiterator", "dict_reverseitemiterator", "odict_iterator", "itertools.zip_longest", "itertools.pairwise"].contains n = false) (hQ : Q () s) : wpAny M A (letOwnedTupleGo tg (.ref it) u) Q E s := by
  unfold letOwnedTupleGo
  cases tg <;> first
    | exact wpAny_pure hQ
    | (cases u <;> first
        | exact wpAny_pure hQ
        | (refine wpAny_bind (wpAny_load ho ?_)
           rw [hc, hd]
           show wpAny M A (if (["enumerate", "zip", "dict_itemiterator", "dict_reverseitemiterator", "odict_iterator", "itertools.zip_longest", "itertools.pairwise"].contains n && vs[0]? == some (rawInt _)) = true then _ else _) Q E s
           rw [if_neg (by intro h; rw [hn, Bool.false_and] at h; cases h)]
           exact wpAny_pure hQ))

/-- the list at a, as it stands at each turn (a loop may append to it) -/
noncomputable def Itl (K : PySem.W.Frag) (a : Addr) : It :=
  ⟨fun i H => ∃ xs x, SqL K H a xs ∧ xs[i]? = some x, fun i H x H' => H' = H ∧ ∀ xs, SqL K H a xs → xs[i]? = some x, fun i H => ∃ xs, SqL K H a xs ∧ xs.length ≤ i⟩
noncomputable def Itt (K : PySem.W.Frag) (a : Addr) : It :=
  ⟨fun i H => ∃ xs x, SqT K H a xs ∧ xs[i]? = some x, fun i H x H' => H' = H ∧ ∀ xs, SqT K H a xs → xs[i]? = some x, fun i H => ∃ xs, SqT K H a xs ∧ xs.length ≤ i⟩
/-- lo, lo + 1, .. (n of them) -/
noncomputable def Itr (lo : Int) (n : Nat) : It := ⟨fun i _ => i < n, fun i H x H' => H' = H ∧ x = .int (lo + i), fun i _ => n ≤ i⟩
theorem turn_list {P : Program} {w : World} {K : PySem.W.Frag} {tg : Expr} (a it : Addr) : Turn P w K tg (Itl K a) [it] it (fun i h => h.IsListIter it a i) where
  mem := by simp
  obj := fun i h st b hb => by
    have e : b = it := by simpa using hb
    subst e
    obtain ⟨o, e, c, d⟩ := st
    exact ⟨o, e, fun v z => by rw [d] at z; cases z⟩
  keep := fun i h h' st k => st.at fun o e => k it (by simp) o e
  item := by
    intro X hP hw hK hc i pins s σ H E I hf st hg
    subst hP hw hK
    obtain ⟨xs, x, hq, hx⟩ := hg
    obtain ⟨its, rv, p, hz⟩ := I.list hq
    obtain ⟨u, hu, ru⟩ := rv.get hx
    obtain ⟨f0, f1, f2, f3, f4, f5⟩ := hf it (by simp)
    refine wpAny_pyNext_list_item st p.isList (x := u) (by simpa using hu) fun h' st' sb => ?_
    have I1 : Inv X pins σ H { s with heap := h' } := I.turned (t' := s.toks) (fun b o hb e => (sb.2 b hb).trans e) f0 f1 f3 f4 f5
    obtain ⟨o, e, c, d⟩ := id st'
    exact ⟨u, rfl, go_of (s := { s with heap := h' }) e c d (by decide) ⟨x, H, I1, ru, ⟨rfl, fun ys hy => by rw [I.list_inj hy hq]; exact hx⟩, st', fun b hb => (hf b hb).1⟩⟩
  done := by
    intro X hP hw hK hc i pins s σ H E I hf st hg
    subst hP hw hK
    obtain ⟨xs, hq, hx⟩ := hg
    obtain ⟨its, rv, p, hz⟩ := I.list hq
    obtain ⟨f0, f1, f2, f3, f4, f5⟩ := hf it (by simp)
    have hl := rv.length
    exact wpAny_pyNext_list_end (I.ok.hd hc) st p.isList (by simp; omega) fun h' eb => ⟨rfl, I.turned (t' := s.toks) (fun b o hb e => eb b o hb e) f0 f1 f3 f4 f5⟩
  self := fun _ _ _ _ _ st h => wpAny_pyIter_listiter st h
theorem turn_tuple {P : Program} {w : World} {K : PySem.W.Frag} {tg : Expr} (a it : Addr) : Turn P w K tg (Itt K a) [it] it (fun i h => h.IsTupleIter it a i) where
  mem := by simp
  obj := fun i h st b hb => by
    have e : b = it := by simpa using hb
    subst e
    obtain ⟨o, e, c, d⟩ := st
    exact ⟨o, e, fun v z => by rw [d] at z; cases z⟩
  keep := fun i h h' st k => st.at fun o e => k it (by simp) o e
  item := by
    intro X hP hw hK hc i pins s σ H E I hf st hg
    subst hP hw hK
    obtain ⟨xs, x, hq, hx⟩ := hg
    obtain ⟨its, rv, p, hz⟩ := I.tuple hq
    obtain ⟨u, hu, ru⟩ := rv.get hx
    obtain ⟨f0, f1, f2, f3, f4, f5⟩ := hf it (by simp)
    refine wpAny_pyNext_tuple_item st (show s.heap.IsTuple a its.toArray from p) (x := u) (by simpa using hu) fun h' st' sb => ?_
    have I1 : Inv X pins σ H { s with heap := h' } := I.turned (t' := s.toks) (fun b o hb e => (sb.2 b hb).trans e) f0 f1 f3 f4 f5
    obtain ⟨o, e, c, d⟩ := id st'
    exact ⟨u, rfl, go_of (s := { s with heap := h' }) e c d (by decide) ⟨x, H, I1, ru, ⟨rfl, fun ys hy => by rw [I.tuple_inj hy hq]; exact hx⟩, st', fun b hb => (hf b hb).1⟩⟩
  done := by
    intro X hP hw hK hc i pins s σ H E I hf st hg
    subst hP hw hK
    obtain ⟨xs, hq, hx⟩ := hg
    obtain ⟨its, rv, p, hz⟩ := I.tuple hq
    obtain ⟨f0, f1, f2, f3, f4, f5⟩ := hf it (by simp)
    have hl := rv.length
    exact wpAny_pyNext_tuple_end (I.ok.hd hc) st (show s.heap.IsTuple a its.toArray from p) (by simp; omega) fun h' eb => ⟨rfl, I.turned (t' := s.toks) (fun b o hb e => eb b o hb e) f0 f1 f3 f4 f5⟩
  self := fun _ _ _ _ _ st h => wpAny_pyIter_tupleiter st h
theorem turn_range {P : Program} {w : World} {K : PySem.W.Frag} {tg : Expr} (it : Addr) (lo : Int) (n : Nat) : Turn P w K tg (Itr lo n) [it] it (fun i h => IsRangeIter h it (lo + (i : Nat) * 1) ((n : Int) - (i : Nat)) 1) where
  mem := by simp
  obj := fun i h st b hb => by
    have e : b = it := by simpa using hb
    subst e
    exact ⟨_, st, fun v z => by
      have z' : Data.fields _ = Data.cell v := z
      cases z'⟩
  keep := fun i h h' st k => k it (by simp) _ st
  item := by
    intro X hP hw hK hc i pins s σ H E I hf st hg
    subst hP hw hK
    obtain ⟨f0, f1, f2, f3, f4, f5⟩ := hf it (by simp)
    have W := Walks.range (prog := X.prog) (w := X.w) (I.ok.hd hc) it lo 1 n
    refine W.item i s _ _ hg st fun v h' tk hv st' kk => ?_
    obtain ⟨t, rfl⟩ := hv
    have I1 : Inv X pins σ H { s with heap := h', toks := tk } := I.turned (fun b o hb e => kk b o (by simpa using hb) e) f0 f1 f3 f4 f5
    refine ⟨_, rfl, go_of (s := { s with heap := h', toks := tk }) (n := "range_iterator") st' rfl rfl (by decide) ⟨.int (lo + i), H, I1, ⟨t, ?_⟩, ⟨rfl, rfl⟩, st', fun b hb => (hf b hb).1⟩⟩
    rw [Int.mul_one]
  done := by
    intro X hP hw hK hc i pins s σ H E I hf st hg
    subst hP hw hK
    obtain ⟨f0, f1, f2, f3, f4, f5⟩ := hf it (by simp)
    exact wpAny_pyNext_range_end (I.ok.hd hc) st (by have : n ≤ i := hg; omega) fun h' eb => ⟨rfl, I.turned (t' := s.toks) (fun b o hb e => eb b o hb e) f0 f1 f3 f4 f5⟩
  self := fun _ _ _ _ _ st h => wpAny_pyIter_rangeiter st h
end L2

namespace L2
open PySem PySem.Spec PyProof.Rows
section
variable {X : Cx} {tg : Expr}
noncomputable def iList (K : PySem.W.Frag) (tl : TE) : TI := fun σ H R => tl σ H fun x H1 => ∃ a, x = .ref a ∧ (∃ xs, SqL K H1 a xs) ∧ R (Itl K a) H1
/-- a range object just made, walked -/
theorem range_it {pins : List (Addr × Obj)} {σ : St} {H : Hp} {s : Shared} {R : It → Hp → Prop} {E : Value → Shared → Prop} {lo hi : Int} {t u v : Tok} {tk : Nat} (I : Inv X pins σ H s) (h1 : -(2 ^ 62) ≤ lo) (h2 : lo < 2 ^ 62) (h3 : -(2 ^ 62) ≤ hi) (h4 : hi < 2 ^ 62)
    (q : R (Itr lo (hi - lo).toNat) H) : wpAny (model X.prog X.w) X.A (pyIter (.ref s.heap.objs.size)) (PIE X pins σ tg R) E { s with heap := s.heap.push { cls := .type "range", data := .fields #[.int lo t, .int hi u, .int 1 v] }, toks := tk } := by
  refine wpAny_pyIter_range (IsRange.new ..) (small_one h1 h2 h3 h4) ?_
  have I1 : Inv X pins σ H { s with heap := s.heap.push { cls := .type "range", data := .fields #[.int lo t, .int hi u, .int 1 v] }, toks := tk } := I.kept fun b o e => Heap.get?_push_of_some _ e
  refine ⟨(s.heap.push { cls := .type "range", data := .fields #[.int lo t, .int hi u, .int 1 v] }).objs.size, [(s.heap.push { cls := .type "range", data := .fields #[.int lo t, .int hi u, .int 1 v] }).objs.size], _, _, H, rfl,
    I1.kept (t' := tk) fun b o e => Heap.get?_push_of_some _ e, turn_range _ lo (hi - lo).toNat, ?_, fun b hb => ?_, q⟩
  · have e1 : lo + ((0 : Nat) : Int) * 1 = lo := by simp
    have e2 : (((hi - lo).toNat : Nat) : Int) - ((0 : Nat) : Int) = Builtin.Range.rangeSize lo hi 1 := by rw [rangeSize_one]; split <;> omega
    show IsRangeIter _ _ (lo + ((0 : Nat) : Int) * 1) ((((hi - lo).toNat : Nat) : Int) - ((0 : Nat) : Int)) 1
    rw [e1, e2]
    exact Heap.get?_push_size _ rfl
  · have e : b = (s.heap.push { cls := .type "range", data := .fields #[.int lo t, .int hi u, .int 1 v] }).objs.size := by simpa using hb
    subst e
    exact I1.fpOk (Nat.le_refl _) (I1.hok.fresh (Nat.le_refl _))
noncomputable def iRng1 (ta : TA) : TI := fun σ H R => ta σ H fun vs H1 => ∃ j : Int, vs = [.int j] ∧ -(2 ^ 62) ≤ j ∧ j < 2 ^ 62 ∧ R (Itr 0 j.toNat) H1
theorem pi_range1 {a : Expr} {ta : TA} {p pos : Pos} (hg : Gl X "range") (hm : X.mg "range" = none) (ha : PA X [a] ta) (hs : starEach [a] X.env = [(false, eval a X.env)] := by rfl) : PI X tg (.Call (.Name "range" p) [a] [] pos) (iRng1 ta) := by
  intro pins s σ H R I h
  refine Call_ (ld_blt I hg hm boot_range (PyProof.Rows.callWith_type1 (thn (ha pos pins s σ H _ I h) fun us s1 ⟨vs, H1, I1, r1, q1⟩ => ?_) hs rfl))
  obtain ⟨j, e, q1, q2, q⟩ := q1
  subst e
  cases r1 with
  | cons r rr =>
    cases rr
    obtain ⟨t, rfl⟩ := r
    exact call_range_1 (range_it I1 (by omega) (by omega) q1 q2 (by simpa using q))
/-! ### for -/
/-- W: the invariant by the turn and a measure; N: what the body is to reach -/
noncomputable def tFor (wi : TI) (g : TG) (tb : TS) : TS := fun D σ H => wi σ H fun J H1 => ∃ W : Nat → Nat → St → Hp → Prop, (∃ m, W 0 m σ H1) ∧ ∀ i m σ H, W i m σ H →
  (J.stop i H ∧ D.nx σ H) ∨ (J.go i H ∧ ∃ N : St → Hp → Prop, (∀ σ' H', N σ' H' → ∃ m', m' < m ∧ W (i + 1) m' σ' H') ∧ ∀ x H', J.yld i H x H' → g x σ H' fun σ2 H2 => tb { D with nx := N, ct := N, bk := D.nx } σ2 H2)
/-- the records at fp as they stand -/
noncomputable def pinsAt (fp : List Addr) (h : Heap) : List (Addr × Obj) := fp.filterMap fun b => (h.get? b).map fun o => (b, o)
theorem mem_pinsAt {fp : List Addr} {h : Heap} {b : Addr} {o : Obj} (hb : b ∈ fp) (e : h.get? b = some o) : (b, o) ∈ pinsAt fp h := List.mem_filterMap.mpr ⟨b, hb, by rw [e]; rfl⟩
theorem of_pinsAt {fp : List Addr} {h : Heap} {p : Addr × Obj} (hp : p ∈ pinsAt fp h) : p.1 ∈ fp ∧ h.get? p.1 = some p.2 := by
  obtain ⟨b, hb, e⟩ := List.mem_filterMap.mp hp
  cases q : h.get? b with
  | none => rw [q] at e; cases e
  | some o =>
    rw [q] at e
    have e' : (b, o) = p := Option.some.inj e
    subst e'
    exact ⟨hb, q⟩
theorem Inv.pinned {pins : List (Addr × Obj)} {σ : St} {H : Hp} {s : Shared} {fp : List Addr} (I : Inv X pins σ H s) (hf : ∀ b ∈ fp, FpOk X pins H b) (ho : ∀ b ∈ fp, ∃ o, s.heap.get? b = some o ∧ ∀ v, o.data ≠ .cell v) : Inv X (pins ++ pinsAt fp s.heap) σ H s :=
  I.pins_of fun p hp => (List.mem_append.mp hp).elim (fun z => I.pin p (List.mem_append_right _ z)) fun z => by
    obtain ⟨hb, e⟩ := of_pinsAt z
    obtain ⟨f0, f1, f2, _⟩ := hf p.1 hb
    obtain ⟨o, e', d⟩ := ho p.1 hb
    rw [e] at e'; cases e'
    exact ⟨e, f0, f1, f2, d⟩
theorem Inv.unpinned {pins pl : List (Addr × Obj)} {σ : St} {H : Hp} {s : Shared} (I : Inv X (pins ++ pl) σ H s) : Inv X pins σ H s := I.pins_of fun p hp => I.pin p (List.mem_append_right _ (List.mem_append_left _ hp))
theorem ps_for {iter : Expr} {body : List Stmt} {wi : TI} {g : TG} {tb : TS} {pos : Pos} (hp : PassesOwn (model X.prog X.w) X.A X.env X.xe) (hc : X.calm = true) (hi : PI X tg iter wi) (hg : PG X tg g) (hb : PSs X body tb)
    (hs : ∀ x, foldedSetIterable iter X.env x = pure x := by intro _; rfl) : PS X (.For tg iter body [] pos) (tFor wi g tb) := by
  intro pins s σ H D I h
  refine wpAny_For (thn (hi pins s σ H _ I h) fun v s1 h1 => thn h1 fun itv s2 h2 => ?_) hs
  obtain ⟨it, fp, tn, J, H2, e, I2, T, st2, f2, W, ⟨m0, w0⟩, turn⟩ := h2
  subst e
  -- what stays true of the iterator's objects through the loop
  have stat : ∀ {H' : Hp}, (∀ b ∈ fp, H' b = none) → ∀ b ∈ fp, FpOk X pins H' b := fun hn b hb => ⟨hn b hb, (f2 b hb).2⟩
  refine codeAny_forLoop_any (fun n s' => ∃ i σ' H', Inv X pins σ' H' s' ∧ tn i s'.heap ∧ (∀ b ∈ fp, H' b = none) ∧ W i n σ' H') ?_ m0 ⟨0, σ, H2, I2, st2, fun b hb => (f2 b hb).1, w0⟩
  rintro n s3 ⟨i, σ3, H3, I3, st3, fr3, w3⟩
  rcases turn i n σ3 H3 w3 with ⟨stop, qn⟩ | ⟨go, N, hN, step⟩
  · refine wpAny_passesOwn hp (thn (T.done X rfl rfl rfl hc i pins s3 σ3 H3 X.xe I3 (stat fr3) st3 stop) fun r s4 ⟨hr, I4⟩ => ?_)
    subst hr
    exact wpAny_execs_nil ⟨σ3, H3, I4, qn⟩
  · refine wpAny_passesOwn hp (thn (T.item X rfl rfl rfl hc i pins s3 σ3 H3 X.xe I3 (stat fr3) st3 go) fun r s4 ⟨u, hr, h4⟩ => ?_)
    subst hr
    refine wpAny_passesOwn hp (thn h4 fun _ s5 ⟨x, H5, I5, r5, y5, st5, fr5⟩ => ?_)
    have I5' := I5.pinned (stat fr5) (T.obj _ _ st5)
    refine wpAny_passesOwn hp (thn (hg _ s5 σ3 H5 x u _ I5' r5 (step x H5 y5)) fun _ s6 ⟨σ6, H6, I6, q6⟩ => ?_)
    refine wpAny_passesOwn hp (thn (hb _ s6 σ6 H6 _ I6 q6) fun f s7 q7 => ?_)
    have again : ∀ {σ7 : St} {H7 : Hp}, Inv X (pins ++ pinsAt fp s5.heap) σ7 H7 s7 → N σ7 H7 → ∃ m, m < n ∧ ∃ i σ' H', Inv X pins σ' H' s7 ∧ tn i s7.heap ∧ (∀ b ∈ fp, H' b = none) ∧ W i m σ' H' := fun {σ7 H7} I7 n7 => by
      obtain ⟨m', hm, w7⟩ := hN σ7 H7 n7
      refine ⟨m', hm, i + 1, σ7, H7, I7.unpinned, T.keep _ _ _ st5 fun b hb o e => (I7.pin (b, o) (List.mem_append_right _ (List.mem_append_right _ (mem_pinsAt hb e)))).1, fun b hb => ?_, w7⟩
      obtain ⟨o, e, d⟩ := T.obj _ _ st5 b hb
      exact (I7.pin (b, o) (List.mem_append_right _ (List.mem_append_right _ (mem_pinsAt hb e)))).2.1
    cases f with
    | next => obtain ⟨σ7, H7, I7, n7⟩ := q7; exact again I7 n7
    | cont => obtain ⟨σ7, H7, I7, n7⟩ := q7; exact again I7 n7
    | brk => obtain ⟨σ7, H7, I7, q7⟩ := q7; exact ⟨σ7, H7, I7.unpinned, q7⟩
    | ret v => obtain ⟨x7, σ7, H7, I7, r7, q7⟩ := q7; exact ⟨x7, σ7, H7, I7.unpinned, r7, q7⟩
end

/-! ### the forms one uses -/
theorem for_range {lo : Int} {n : Nat} {g : TG} {tb : TS} {D : Ends} {σ : St} {H : Hp} (Pv : Nat → St → Hp → Prop) (h0 : Pv 0 σ H)
    (hs : ∀ i σ H, i < n → Pv i σ H → g (.int (lo + i)) σ H fun σ2 H2 => tb { D with nx := Pv (i + 1), ct := Pv (i + 1), bk := D.nx } σ2 H2) (hd : ∀ σ H, Pv n σ H → D.nx σ H) :
    ∃ W : Nat → Nat → St → Hp → Prop, (∃ m, W 0 m σ H) ∧ ∀ i m σ H, W i m σ H →
      ((Itr lo n).stop i H ∧ D.nx σ H) ∨ ((Itr lo n).go i H ∧ ∃ N : St → Hp → Prop, (∀ σ' H', N σ' H' → ∃ m', m' < m ∧ W (i + 1) m' σ' H') ∧ ∀ x H', (Itr lo n).yld i H x H' → g x σ H' fun σ2 H2 => tb { D with nx := N, ct := N, bk := D.nx } σ2 H2) := by
  refine ⟨fun i m σ H => m = n - i ∧ i ≤ n ∧ Pv i σ H, ⟨n, by simp, Nat.zero_le _, h0⟩, ?_⟩
  rintro i m σ H ⟨rfl, hi, p⟩
  by_cases hlt : i < n
  · refine .inr ⟨hlt, Pv (i + 1), fun σ' H' p' => ⟨n - (i + 1), by omega, rfl, hlt, p'⟩, fun x H' y => ?_⟩
    obtain ⟨e, y⟩ := y
    subst e y
    exact hs i σ _ hlt p
  · have e : i = n := by omega
    subst e
    exact .inl ⟨Nat.le_refl _, hd σ H p⟩
end L2

namespace L2
open PySem PySem.Spec PyProof.Rows

noncomputable abbrev R2 := V → V → Hp → VK → Prop
/-- a two-place operation on values: f is binaryOp op, inplaceOp op or compareOp op -/
noncomputable def OpR (X : Cx) (f : Value → Value → Sem Value) (r : R2) : Prop :=
  ∀ (pins : List (Addr × Obj)) (s : Shared) (σ : St) (H : Hp) (x y : V) (v u : Value) (Q : VK), Inv X pins σ H s → RelV x v → RelV y u → r x y H Q →
    wpAny (model X.prog X.w) X.A (f v u) (EP X pins σ Q) X.xe s
/-- a call of a value that is known (a builtin, a type) with values -/
noncomputable def CallR (X : Cx) (f : Value) (r : List V → Hp → VK → Prop) : Prop :=
  ∀ (pins : List (Addr × Obj)) (s : Shared) (σ : St) (H : Hp) (xs : List V) (us : List Value) (Q : VK), Inv X pins σ H s → Vals xs us → r xs H Q →
    wpAny (model X.prog X.w) X.A (call f us) (EP X pins σ Q) X.xe s
noncomputable def tOp (r : R2) (ta tb : TE) : TE := fun σ H Q => ta σ H fun x H1 => tb σ H1 fun y H2 => r x y H2 Q
/-- ints in, under C, and a value out -/
noncomputable def rI (C : Int → Int → Prop) (g : Int → Int → V) : R2 := fun x y H Q => ∃ i j, x = .int i ∧ y = .int j ∧ C i j ∧ Q (g i j) H
noncomputable def rI0 (g : Int → Int → V) : R2 := fun x y H Q => ∃ i j, x = .int i ∧ y = .int j ∧ Q (g i j) H
section
variable {X : Cx} {a b c : Expr} {ta tb tc : TE} {pos : Pos}

theorem binT (ha : PE X a ta) (hb : PE X b tb) {pins : List (Addr × Obj)} {s : Shared} {σ : St} {H : Hp} {R : V → V → Hp → Prop} (I : Inv X pins σ H s)
    (h : ta σ H fun x H1 => tb σ H1 fun y H2 => R x y H2) {Q : Value → Shared → Prop} {f : Value → Value → Sem Value}
    (hf : ∀ v u s2 x y H2, Inv X pins σ H2 s2 → RelV x v → RelV y u → R x y H2 → wpAny (model X.prog X.w) X.A (f v u) Q X.xe s2) :
    wpAny (model X.prog X.w) X.A (eval a X.env) (fun v s₁ => wpAny (model X.prog X.w) X.A (eval b X.env) (fun u s₂ => wpAny (model X.prog X.w) X.A (f v u) Q X.xe s₂) X.xe s₁) X.xe s := by
  refine thn (ha pins s σ H _ I h) fun v s1 ⟨x, H1, I1, r1, q1⟩ => ?_
  refine thn (hb pins s1 σ H1 _ I1 q1) fun u s2 ⟨y, H2, I2, r2, q2⟩ => ?_
  exact hf v u s2 x y H2 I2 r1 r2 q2

theorem pe_op {op : Operator} {r : R2} (ho : OpR X (binaryOp op) r) (ha : PE X a ta) (hb : PE X b tb) : PE X (.BinOp a op b pos) (tOp r ta tb) := by
  intro pins s σ H Q I h
  exact wpAny_BinOp (binT ha hb I h fun v u s2 x y H2 I2 rx ry q => ho pins s2 σ H2 x y v u Q I2 rx ry q)
/-! ### ints -/
theorem opI {f : Value → Value → Sem Value} {C : Int → Int → Prop} {g : Int → Int → Int}
    (rule : ∀ (i j : Int) (t u : Tok) (s : Shared) (Q : Value → Shared → Prop) (E : Value → Shared → Prop), C i j → Q (.int (g i j) s.toks) { s with toks := s.toks + 1 } → wpAny (model X.prog X.w) X.A (f (.int i t) (.int j u)) Q E s) :
    OpR X f (rI C fun i j => .int (g i j)) := by
  intro pins s σ H x y v u Q I rx ry h
  obtain ⟨i, j, rfl, rfl, hc, q⟩ := h
  obtain ⟨t, rfl⟩ := rx
  obtain ⟨t', rfl⟩ := ry
  exact rule i j t t' s _ _ hc ⟨.int (g i j), H, I.tok _, ⟨_, rfl⟩, q⟩
theorem opI0 {f : Value → Value → Sem Value} {g : Int → Int → Int}
    (rule : ∀ (i j : Int) (t u : Tok) (s : Shared) (Q : Value → Shared → Prop) (E : Value → Shared → Prop), Q (.int (g i j) s.toks) { s with toks := s.toks + 1 } → wpAny (model X.prog X.w) X.A (f (.int i t) (.int j u)) Q E s) :
    OpR X f (rI0 fun i j => .int (g i j)) := by
  intro pins s σ H x y v u Q I rx ry h
  obtain ⟨i, j, rfl, rfl, q⟩ := h
  obtain ⟨t, rfl⟩ := rx
  obtain ⟨t', rfl⟩ := ry
  exact rule i j t t' s _ _ ⟨.int (g i j), H, I.tok _, ⟨_, rfl⟩, q⟩
theorem opB0 {f : Value → Value → Sem Value} {g : Int → Int → Bool}
    (rule : ∀ (i j : Int) (t u : Tok) (s : Shared) (Q : Value → Shared → Prop) (E : Value → Shared → Prop), Q (.bool (g i j)) s → wpAny (model X.prog X.w) X.A (f (.int i t) (.int j u)) Q E s) :
    OpR X f (rI0 fun i j => .bl (g i j)) := by
  intro pins s σ H x y v u Q I rx ry h
  obtain ⟨i, j, rfl, rfl, q⟩ := h
  obtain ⟨t, rfl⟩ := rx
  obtain ⟨t', rfl⟩ := ry
  exact rule i j t t' s _ _ ⟨.bl (g i j), H, I, rfl, q⟩

noncomputable def CDiv (i j : Int) : Prop := 0 < j ∧ j < 1073741824
noncomputable def CPow (i j : Int) : Prop := 0 ≤ j ∧ j ≤ 1000000 ∧ i.natAbs < 2 ^ 64
theorem op_add : OpR X (binaryOp .Add) (rI0 fun i j => .int (i + j)) := opI0 fun _ _ _ _ _ _ _ q => add_int q
theorem op_sub : OpR X (binaryOp .Sub) (rI0 fun i j => .int (i - j)) := opI0 fun _ _ _ _ _ _ _ q => sub_int q
/-- // by a positive divisor -/
theorem op_fdiv : OpR X (binaryOp .FloorDiv) (rI CDiv fun i j => .int (i / j)) := opI fun i j _ _ _ _ _ hc q => by
  have h1 : (0 : Int) < j := hc.1
  have h2 : j < 1073741824 := hc.2
  exact floordiv_int (by omega) (by rw [Int.fdiv_eq_ediv_of_nonneg i (by omega)]; exact q) (.inl (PyProof.noPylong_small (by omega)))
/-- % by a positive divisor of any size -/
theorem op_mod : OpR X (binaryOp .Mod) (rI (fun _ j => 0 < j) fun i j => .int (i % j)) := opI fun i j _ _ _ _ _ hc q => by
  have h1 : (0 : Int) < j := hc
  exact mod_int' (by omega) (by rw [Int.fmod_eq_emod_of_nonneg i (by omega)]; exact q)
theorem op_pow : OpR X (binaryOp .Pow) (rI CPow fun i j => .int (i ^ j.toNat)) := opI fun _ _ _ _ _ _ _ hc q => pow_int_small hc.1 hc.2.1 hc.2.2 q
/-! ### bools among ints: n += (a < b) -/
end

/-! ### comparisons -/
/-- the scalars that == tells apart as data does -/
noncomputable def scal : V → V → Bool
  | .non, .non => true | .non, .int _ => true | .int _, .non => true | .non, .bl _ => true | .bl _, .non => true | .non, .str _ => true | .str _, .non => true
  | .int _, .int _ => true | .bl _, .bl _ => true | .str _, .str _ => true | .byt _, .byt _ => true
  | .int _, .str _ => true | .str _, .int _ => true | .bl _, .str _ => true | .str _, .bl _ => true
  | _, _ => false
noncomputable def rEq : R2 := fun x y H Q => scal x y = true ∧ Q (.bl (decide (x = y))) H
noncomputable def rNe : R2 := fun x y H Q => scal x y = true ∧ Q (.bl (!decide (x = y))) H

theorem dec_int {i j : Int} : decide (V.int i = V.int j) = (i == j) := by
  rw [Bool.eq_iff_iff]
  simp
theorem dec_bl {i j : Bool} : decide (V.bl i = V.bl j) = (i == j) := by
  rw [Bool.eq_iff_iff]
  simp
theorem dec_str {i j : Str} : decide (V.str i = V.str j) = (i == j) := by
  rw [Bool.eq_iff_iff]
  simp
theorem dec_byt {i j : Array UInt8} : decide (V.byt i = V.byt j) = (i.toList == j.toList) := by
  rw [Bool.eq_iff_iff]
  cases i
  cases j
  simp

section
variable {X : Cx} {a b c : Expr} {ta tb tc : TE} {pos : Pos}
theorem fin_bl {pins : List (Addr × Obj)} {σ : St} {H : Hp} {s : Shared} {Q : VK} {k k' : Bool} (I : Inv X pins σ H s) (q : Q (.bl k) H) (e : k = k') : EP X pins σ Q (.bool k') s := by
  subst e
  exact ⟨.bl k, H, I, rfl, q⟩
theorem op_eq : OpR X (compareOp .Eq) rEq := by
  intro pins s σ H x y v u Q I rx ry h
  obtain ⟨hs, q⟩ := h
  cases x with
  | non =>
    cases rx
    cases y with
    | non => cases ry; exact PySem.EqNone.eq_none_none (fin_bl I q (by simp))
    | bl j => cases ry; exact PySem.EqNone.eq_none_bool (fin_bl I q (by simp))
    | int j => obtain ⟨t', rfl⟩ := ry; exact PySem.EqNone.eq_none_int (fin_bl I q (by simp))
    | str j => obtain ⟨t', rfl⟩ := ry; exact PySem.EqNone.eq_none_str (fin_bl I q (by simp))
    | _ => exact absurd (show false = true from hs) Bool.false_ne_true
  | bl i =>
    cases rx
    cases y with
    | non => cases ry; exact PySem.EqNone.eq_bool_none (fin_bl I q (by simp))
    | bl j => cases ry; exact eq_bool (fin_bl I q dec_bl)
    | str j => obtain ⟨t', rfl⟩ := ry; exact PySem.EqMixed.eq_bool_str (fin_bl I q (by simp))
    | _ => exact absurd (show false = true from hs) Bool.false_ne_true
  | int i =>
    obtain ⟨t, rfl⟩ := rx
    cases y with
    | non => cases ry; exact PySem.EqNone.eq_int_none (fin_bl I q (by simp))
    | int j => obtain ⟨t', rfl⟩ := ry; exact eq_int (fin_bl I q dec_int)
    | str j => obtain ⟨t', rfl⟩ := ry; exact PySem.EqMixed.eq_int_str (fin_bl I q (by simp))
    | _ => exact absurd (show false = true from hs) Bool.false_ne_true
  | str i =>
    obtain ⟨t, rfl⟩ := rx
    cases y with
    | non => cases ry; exact PySem.EqNone.eq_str_none (fin_bl I q (by simp))
    | bl j => cases ry; exact PySem.EqMixed.eq_str_bool (fin_bl I q (by simp))
    | int j => obtain ⟨t', rfl⟩ := ry; exact PySem.EqMixed.eq_str_int (fin_bl I q (by simp))
    | str j => obtain ⟨t', rfl⟩ := ry; exact eq_str (fin_bl I q dec_str)
    | _ => exact absurd (show false = true from hs) Bool.false_ne_true
  | byt i =>
    obtain ⟨t, rfl⟩ := rx
    cases y with
    | byt j => obtain ⟨t', rfl⟩ := ry; exact PySem.W.eq_bytes (fin_bl I q dec_byt)
    | _ => exact absurd (show false = true from hs) Bool.false_ne_true
  | _ => cases y <;> exact absurd (show false = true from hs) Bool.false_ne_true
theorem op_ne : OpR X (compareOp .NotEq) rNe := by
  intro pins s σ H x y v u Q I rx ry h
  obtain ⟨hs, q⟩ := h
  cases x with
  | non =>
    cases rx
    cases y with
    | non => cases ry; exact PySem.EqNone.ne_none_none (fin_bl I q (by simp))
    | bl j => cases ry; exact PySem.EqNone.ne_none_bool (fin_bl I q (by simp))
    | int j => obtain ⟨t', rfl⟩ := ry; exact PySem.EqNone.ne_none_int (fin_bl I q (by simp))
    | str j => obtain ⟨t', rfl⟩ := ry; exact PySem.EqNone.ne_none_str (fin_bl I q (by simp))
    | _ => exact absurd (show false = true from hs) Bool.false_ne_true
  | bl i =>
    cases rx
    cases y with
    | non => cases ry; exact PySem.EqNone.ne_bool_none (fin_bl I q (by simp))
    | bl j => cases ry; exact ne_bool (fin_bl I q (congrArg not dec_bl))
    | str j => obtain ⟨t', rfl⟩ := ry; exact PySem.EqMixed.ne_bool_str (fin_bl I q (by simp))
    | _ => exact absurd (show false = true from hs) Bool.false_ne_true
  | int i =>
    obtain ⟨t, rfl⟩ := rx
    cases y with
    | non => cases ry; exact PySem.EqNone.ne_int_none (fin_bl I q (by simp))
    | int j => obtain ⟨t', rfl⟩ := ry; exact ne_int (fin_bl I q (congrArg not dec_int))
    | str j => obtain ⟨t', rfl⟩ := ry; exact PySem.EqMixed.ne_int_str (fin_bl I q (by simp))
    | _ => exact absurd (show false = true from hs) Bool.false_ne_true
  | str i =>
    obtain ⟨t, rfl⟩ := rx
    cases y with
    | non => cases ry; exact PySem.EqNone.ne_str_none (fin_bl I q (by simp))
    | bl j => cases ry; exact PySem.EqMixed.ne_str_bool (fin_bl I q (by simp))
    | int j => obtain ⟨t', rfl⟩ := ry; exact PySem.EqMixed.ne_str_int (fin_bl I q (by simp))
    | str j => obtain ⟨t', rfl⟩ := ry; exact ne_str (fin_bl I q (congrArg not dec_str))
    | _ => exact absurd (show false = true from hs) Bool.false_ne_true
  | byt i =>
    obtain ⟨t, rfl⟩ := rx
    cases y with
    | byt j => obtain ⟨t', rfl⟩ := ry; exact PySem.W.ne_bytes (fin_bl I q (congrArg not dec_byt))
    | _ => exact absurd (show false = true from hs) Bool.false_ne_true
  | _ => cases y <;> exact absurd (show false = true from hs) Bool.false_ne_true

theorem op_lt : OpR X (compareOp .Lt) (rI0 fun i j => .bl (decide (i < j))) := opB0 fun _ _ _ _ _ _ _ q => lt_int q
theorem op_le : OpR X (compareOp .LtE) (rI0 fun i j => .bl (decide (i ≤ j))) := opB0 fun _ _ _ _ _ _ _ q => le_int q
theorem op_gt : OpR X (compareOp .Gt) (rI0 fun i j => .bl (decide (j < i))) := opB0 fun _ _ _ _ _ _ _ q => gt_int q
theorem op_ge : OpR X (compareOp .GtE) (rI0 fun i j => .bl (decide (j ≤ i))) := opB0 fun _ _ _ _ _ _ _ q => ge_int q
/-- the one string within the other -/
theorem op_in_str : OpR X (compareOp .In) (fun x y H Q => ∃ i j, x = .str i ∧ y = .str j ∧ Q (.bl (!(Builtin.Str.occurrences j i 0 j.length 1).isEmpty)) H) := by
  intro pins s σ H x y v u Q I rx ry h
  obtain ⟨i, j, rfl, rfl, q⟩ := h
  obtain ⟨t, rfl⟩ := rx
  obtain ⟨t', rfl⟩ := ry
  exact in_str (fin_bl I q rfl)

/-- two rules for one operation: by cases -/
theorem OpR.or {f : Value → Value → Sem Value} {r r' : R2} (h : OpR X f r) (h' : OpR X f r') : OpR X f (fun x y H Q => r x y H Q ∨ r' x y H Q) := by
  intro pins s σ H x y v u Q I rx ry q
  rcases q with q | q
  · exact h pins s σ H x y v u Q I rx ry q
  · exact h' pins s σ H x y v u Q I rx ry q

theorem nomark (b : Expr) {op : CmpOp} (h : op ≠ .In := by decide) (h2 : op ≠ .NotIn := by decide) : behindInMarks op b = false := by
  have e1 : (op == CmpOp.In) = false := by cases op <;> first | rfl | exact absurd rfl h
  have e2 : (op == CmpOp.NotIn) = false := by cases op <;> first | rfl | exact absurd rfl h2
  cases b <;> simp [behindInMarks, e1, e2]
/-- a comparison as a value; hm: nomark b, or (for in, not in) by with_unfolding_all rfl -/
theorem pe_cmpR {op : CmpOp} {r : R2} (ho : OpR X (compareOp op) r) (ha : PE X a ta) (hb : PE X b tb) (hm : behindInMarks op b = false) : PE X (.Compare a [op] [b] pos) (tOp r ta tb) := by
  intro pins s σ H Q I h
  exact wpAny_Compare1 (binT ha hb I h fun v u s2 x y H2 I2 rx ry q => ho pins s2 σ H2 x y v u Q I2 rx ry q) hm
/-- a reading of a value as a test -/
noncomputable def tTest (t : TE) : TT := fun σ H Q => t σ H fun x H' => ∃ k, x = .bl k ∧ Q k H'
theorem pt_cmpR {op : CmpOp} {r : R2} (ho : OpR X (compareOp op) r) (ha : PE X a ta) (hb : PE X b tb) (hm : behindInMarks op b = false) : PT X (.Compare a [op] [b] pos) (tTest (tOp r ta tb)) := by
  intro pins s σ H Q I h
  refine wpAny_isTrue_Compare1 (thn (ha pins s σ H _ I h) fun v s1 ⟨x, H1, I1, r1, q1⟩ => thn (hb pins s1 σ H1 _ I1 q1) fun u s2 ⟨y, H2, I2, r2, q2⟩ =>
    thn (ho pins s2 σ H2 x y v u _ I2 r1 r2 q2) fun c s3 ⟨z, H3, I3, r3, k, e, q3⟩ => ?_) hm
  subst e
  cases r3
  exact wpAny_truthy_bool ⟨H3, I3, q3⟩
/-- a op1 b op2 c -/
noncomputable def tChain (r r' : R2) (ta tb tc : TE) : TE := fun σ H Q => ta σ H fun x H1 => tb σ H1 fun y H2 => r x y H2 fun z H3 => ∃ k, z = .bl k ∧
  (if k = true then tc σ H3 fun w' H4 => r' y w' H4 Q else Q (.bl false) H3)
theorem pe_chain {op op' : CmpOp} {r r' : R2} (ho : OpR X (compareOp op) r) (ho' : OpR X (compareOp op') r') (ha : PE X a ta) (hb : PE X b tb) (hc : PE X c tc)
    (hm : lastMarks [op, op'] [b, c] = false := by with_unfolding_all rfl) : PE X (.Compare a [op, op'] [b, c] pos) (tChain r r' ta tb tc) := by
  intro pins s σ H Q I h
  refine Compare_chain (thn (ha pins s σ H _ I h) fun v s1 ⟨x, H1, I1, r1, q1⟩ => chain_link (thn (hb pins s1 σ H1 _ I1 q1) fun u s2 ⟨y, H2, I2, r2, q2⟩ =>
    thn (ho pins s2 σ H2 x y v u _ I2 r1 r2 q2) fun d s3 ⟨z, H3, I3, r3, k, e, q3⟩ => ?_)) hm
  subst e
  cases r3
  refine wpAny_truthy_bool ?_
  cases k with
  | false => exact ite_ff ⟨.bl false, H3, I3, rfl, q3⟩
  | true => exact ite_tt (chain_last (thn (hc pins s3 σ H3 _ I3 q3) fun w' s4 ⟨z', H4, I4, r4, q4⟩ => ho' pins s4 σ H4 y z' u w' Q I4 r2 r4 q4))
/-! ### truth -/
theorem isEmpty_kv {κ : Type} {kvs : List (κ × V)} {vs : List (κ × Value)} (r : KV kvs vs) : (!vs.isEmpty) = !kvs.isEmpty := by
  cases r <;> rfl
theorem isEmpty_of {xs : List V} {its : List Value} (r : Vals xs its) : (!its.toArray.isEmpty) = !xs.isEmpty := by
  cases r <;> simp
theorem line63 : (sizeLine : Nat) < 2 ^ 63 := by rw [sizeLine_eq]; decide
/-! ### strs and bytes -/
theorem op_add_str : OpR X (binaryOp .Add) (fun x y H Q => ∃ i j, x = .str i ∧ y = .str j ∧ i.length + j.length ≤ sizeLine ∧ Q (.str (i ++ j)) H) := by
  intro pins s σ H x y v u Q I rx ry h
  obtain ⟨i, j, rfl, rfl, hz, q⟩ := h
  obtain ⟨t, rfl⟩ := rx
  obtain ⟨t', rfl⟩ := ry
  exact add_str (fun t' tk => ⟨.str (i ++ j), H, I.tok _, ⟨_, rfl⟩, q⟩) hz
/-! ### scalar builtins, by CallR -/
theorem vals1 {x : V} {us : List Value} (r : Vals [x] us) : ∃ u, us = [u] ∧ RelV x u := by
  cases r with
  | cons r1 r2 => cases r2; exact ⟨_, rfl, r1⟩
theorem call_int1 : CallR X (.type "int") (fun xs H Q => (∃ i, xs = [.int i] ∧ Q (.int i) H) ∨ ∃ k, xs = [.bl k] ∧ Q (.int (if k then 1 else 0)) H) := by
  intro pins s σ H xs us Q I r h
  rcases h with ⟨i, rfl, q⟩ | ⟨k, rfl, q⟩
  · obtain ⟨u, rfl, t, rfl⟩ := vals1 r
    exact call_int_int ⟨.int i, H, I, ⟨_, rfl⟩, q⟩
  · obtain ⟨u, rfl, r1⟩ := vals1 r
    cases r1
    exact call_int_bool ⟨.int (if k then 1 else 0), H, I.tok _, ⟨_, rfl⟩, q⟩
theorem call_str_int : CallR X (.type "str") (fun xs H Q => ∃ i, xs = [.int i] ∧ i.natAbs.log2 < 1920 ∧ Q (.str (toString i)) H) := by
  intro pins s σ H xs us Q I r h
  obtain ⟨i, rfl, hz, q⟩ := h
  obtain ⟨u, rfl, t, rfl⟩ := vals1 r
  exact PySem.P.str_of_int hz ⟨.str _, H, I.tok _, ⟨_, rfl⟩, q⟩
/-- len of a str, a bytes, a list, a tuple -/
noncomputable def LenV (K : PySem.W.Frag) (x : V) (H : Hp) (n : Nat) : Prop :=
  match x with
  | .str y => y.length ≤ sizeLine ∧ n = y.length
  | .byt y => y.size ≤ sizeLine ∧ n = y.size
  | .ref p => (∃ xs, SqL K H p xs ∧ n = xs.length) ∨ ∃ xs, SqT K H p xs ∧ n = xs.length
  | _ => False
theorem call_len : CallR X (.builtin "len") (fun xs H Q => ∃ x n, xs = [x] ∧ LenV X.K x H n ∧ Q (.int n) H) := by
  intro pins s σ H xs us Q I r h
  obtain ⟨x, n, rfl, e, q⟩ := h
  obtain ⟨u, rfl, rx⟩ := vals1 r
  have hl := line63
  have hs : sizeLine = 16777216 := sizeLine_eq
  cases x with
  | str y =>
    obtain ⟨t, rfl⟩ := rx
    obtain ⟨hy, e'⟩ : y.length ≤ sizeLine ∧ n = y.length := e
    subst e'
    exact len_str (by omega) ⟨.int _, H, I.tok _, ⟨_, rfl⟩, q⟩
  | byt y =>
    obtain ⟨t, rfl⟩ := rx
    obtain ⟨hy, e'⟩ : y.size ≤ sizeLine ∧ n = y.size := e
    subst e'
    exact PySem.W.len_bytes (by omega) ⟨.int _, H, I.tok _, ⟨_, rfl⟩, q⟩
  | ref p =>
    cases rx
    have e' : (∃ xs, SqL X.K H p xs ∧ n = xs.length) ∨ ∃ xs, SqT X.K H p xs ∧ n = xs.length := e
    rcases e' with ⟨xs, hx, e'⟩ | ⟨xs, hx, e'⟩
    · subst e'
      obtain ⟨its, r', pl, hz⟩ := I.list hx
      have hlen := r'.length
      exact Calls.call_len_list pl.isList (by simp only [List.size_toArray]; omega) ⟨.int xs.length, H, I.tok _, ⟨_, by simp only [List.size_toArray]; rw [hlen]⟩, q⟩
    · subst e'
      obtain ⟨its, r', pl, hz⟩ := I.tuple hx
      have hlen := r'.length
      exact len_tuple pl (by simp only [List.size_toArray]; omega) ⟨.int xs.length, H, I.tok _, ⟨_, by simp only [List.size_toArray]; rw [hlen]⟩, q⟩
  | _ => exact (show False from e).elim
end
end L2

namespace L2
open PySem PySem.Spec PyProof.Rows

/-! ### an instance, its attributes a map -/
structure ObjM (h : Heap) (x dx C : Addr) (mA : Str → Option Value) : Prop where
  obj : h.get? x = some (PySem.W.instObj C dx)
  ns : h.Ns1 dx mA
  ne : dx ≠ x

theorem lookIn_ns {h : Heap} {dx : Addr} {mA : Str → Option Value} (n : h.Ns1 dx mA) : ∃ od, h.get? dx = some od ∧ ∀ name, PySem.W.lookIn name od = some (mA name) := by
  obtain ⟨o, es, ep, ho, hd, hk, _, hm⟩ := n
  refine ⟨o, ho, fun name => ?_⟩
  have e := hm name
  unfold nsFind findBy at e
  rw [← Array.find?_toList] at e
  unfold PySem.W.lookIn
  rw [hd]
  dsimp only
  split
  · rename_i y q
    rw [q] at e
    exact congrArg some e
  · rename_i q
    rw [q] at e
    have a : es.toList.any (·.refKey) = false := by
      rw [List.any_eq_false]
      intro y hy
      obtain ⟨z, t, hkey⟩ := hk y (Array.mem_toList_iff.mp hy)
      simp [DictEntry.refKey, hkey]
    have a' : ¬ es.toList.any (·.refKey) = true := by rw [a]; exact Bool.false_ne_true
    rw [if_neg a']
    exact congrArg some e

theorem ObjM.look {h : Heap} {x dx C : Addr} {mA : Str → Option Value} (I : ObjM h x dx C mA) : ∃ od, PySem.W.InstAt h x (PySem.W.instObj C dx) C (some od) ∧ ∀ name, PySem.W.lookIn name od = some (mA name) :=
  let ⟨od, ho, hl⟩ := lookIn_ns I.ns
  ⟨od, ⟨I.obj, rfl, rfl, ho⟩, hl⟩

section
variable {prog : Program} {w : World} {A : Around} {E : Value → Shared → Prop} {s : Shared} {K : PySem.W.Frag} {x dx C f : Addr} {mA : Str → Option Value} {name : Str} {v : Value}

end

/-! ### the attributes as a list of pairs -/
theorem RelO.some_of {v : V} {o : Option Value} (r : RelO (some v) o) : ∃ u, o = some u ∧ RelV v u := by
  cases o with
  | none => exact (show False from r).elim
  | some u => exact ⟨u, rfl, r⟩
theorem RelO.none_of {o : Option Value} (r : RelO none o) : o = none := by
  cases o with
  | none => rfl
  | some u => exact (show False from r).elim
section
variable {P : Program} {w : World} {H H' : Hp} {h h' : Heap} {a C dx : Addr} {fs fs' : List (Str × V)}
theorem ins_get (hok : HOk P w H h) (e : H a = some (.ins C dx fs)) : ∃ mA, ObjM h a dx C mA ∧ (∀ f, RelO (fs.lookup f) (mA f)) ∧ PySem.Within mA (fs.map (·.1)) ∧ fs.length ≤ 1000 ∧ H dx = some (.own a) := by
  obtain ⟨d, z, ne, ob, mA, n, r, q⟩ := (show ObjOk P w H h a (.ins C dx fs) from hok a _ e)
  exact ⟨mA, ⟨ob, n, ne⟩, r, q, z, d⟩
end

/-! ### what of the text a class must have -/
structure Cls (K : PySem.W.Frag) (C : Addr) : Prop where
  pg : PySem.W.plainGet K C Str.empty = true
  hd : PySem.W.hasDictIn K C = true
  po : PySem.W.plainOver K C = true
  sa : PySem.W.findIn K (.ref C) "__setattr__" = some (some (.builtin "object.__setattr__"))
theorem Cls.get {K : PySem.W.Frag} {C : Addr} (c : Cls K C) (f : Str) : PySem.W.plainGet K C f = true := c.pg
section
variable {X : Cx} {pins : List (Addr × Obj)} {σ : St} {H : Hp} {s : Shared} {a C dx : Addr} {fs : List (Str × V)} {f : Str} {v : V} {A : Around} {E : Value → Shared → Prop}

end

/-! ### readings and rules -/
section
variable {X : Cx} {o e value : Expr} {f : Str} {pos pos' tpos : Pos} {ta tv : TE}
end

/-! ### isinstance -/
section
variable {X : Cx} {pins : List (Addr × Obj)} {σ : St} {H : Hp} {s : Shared} {A : Around} {E : Value → Shared → Prop} {Q : Value → Shared → Prop} {c : Value} {b : Bool}
/-- the type of a value, as the fragment's deciders take it; for an instance its class -/
inductive TyOf (K : PySem.W.Frag) (H : Hp) : V → Value → Prop where
  | non : TyOf K H .non (.type "NoneType")
  | bl (x : Bool) : TyOf K H (.bl x) (.type "bool")
  | int (i : Int) : TyOf K H (.int i) (.type "int")
  | str (x : Str) : TyOf K H (.str x) (.type "str")
  | flt (x : UInt64) : TyOf K H (.flt x) (.type "float")
  | lst {a : Addr} {xs : List V} (e : H a = some (.lst xs)) : TyOf K H (.ref a) (.type "list")
  | frz {a : Addr} {o : Obj} {xs : List V} (e : H a = some (.frz o (.lst xs))) : TyOf K H (.ref a) (.type "list")
  | tup {a : Addr} {xs : List V} (e : H a = some (.tup xs)) : TyOf K H (.ref a) (.type "tuple")
  | dK {a : Addr} {kvs : List (Key × V)} (e : H a = some (.dK kvs)) : TyOf K H (.ref a) (.type "dict")
  | dT {a : Addr} {kvs : List (List Key × V)} (e : H a = some (.dT kvs)) : TyOf K H (.ref a) (.type "dict")
  | ins {a C dx : Addr} {fs : List (Str × V)} (e : H a = some (.ins C dx fs)) (cl : Cls K C) (ha : PySem.W.findIn K (.ref C) "__class__" = some (some (.builtin "object.__class__")))
      (hn : PySem.W.specialIn K (.builtin "object.__class__") "__get__" = some (some (.builtin "getset_descriptor.__get__"))) (htk : PySem.W.takesIn K (.builtin "object.__class__") = some true)
      (hm : PySem.W.mroIn K C (.type "object") = some true) : TyOf K H (.ref a) (.ref C)
/-- isinstance(x, c) for one class c, a built-in or an own one: kitOne's answer -/
theorem isinst_ok {x : V} {u t : Value} (I : Inv X pins σ H s) (rx : RelV x u) (ty : TyOf X.K H x t) (e : PySem.W.kitOne X.K t c = some b) (h : ∀ tk, Q (.bool b) { s with toks := tk }) :
    wpAny (model X.prog X.w) A (call (.builtin "isinstance") [u, c]) Q E s := by
  cases ty with
  | non => cases (show u = Value.none from rx); exact PySem.W.kia_one PySem.W.kitx_none I.kIn True.intro e (fun z => nomatch z) h
  | bl y => cases (show u = Value.bool y from rx); exact PySem.W.kia_one PySem.W.kitx_bool I.kIn True.intro e (fun z => nomatch z) h
  | int i => obtain ⟨t, q⟩ := (show ∃ t, u = Value.int i t from rx); cases q; exact PySem.W.kia_one PySem.W.kitx_int I.kIn True.intro e (fun z => nomatch z) h
  | str y => obtain ⟨t, q⟩ := (show ∃ t, u = Value.str y t from rx); cases q; exact PySem.W.kia_one PySem.W.kitx_str I.kIn True.intro e (fun z => nomatch z) h
  | flt y => obtain ⟨t, q⟩ := (show ∃ t, u = Value.float y t from rx); cases q; exact PySem.W.kia_one PySem.W.kitx_float I.kIn True.intro e (fun z => nomatch z) h
  | @lst a xs ea =>
    cases (show u = Value.ref a from rx)
    obtain ⟨_, _, n, _, h1⟩ := (show ObjOk X.prog X.w H s.heap a (.lst xs) from I.hok a _ ea)
    exact PySem.W.kia_one PySem.W.kitx_list I.kIn ⟨_, h1, rfl⟩ e (fun z => nomatch z) h
  | @frz a ob xs ea =>
    cases (show u = Value.ref a from rx)
    obtain ⟨_, _, _, n, _, h1⟩ := (show ObjOk X.prog X.w H s.heap a (.frz ob (.lst xs)) from I.hok a _ ea)
    exact PySem.W.kia_one PySem.W.kitx_list I.kIn ⟨_, h1, rfl⟩ e (fun z => nomatch z) h
  | @tup a xs ea =>
    cases (show u = Value.ref a from rx)
    obtain ⟨_, _, _, p⟩ := (show ObjOk X.prog X.w H s.heap a (.tup xs) from I.hok a _ ea)
    obtain ⟨o, h1, h2, _⟩ := p
    exact PySem.W.kia_one PySem.W.kitx_tuple I.kIn ⟨o, h1, h2⟩ e (fun z => nomatch z) h
  | @dK a kvs ea =>
    cases (show u = Value.ref a from rx)
    obtain ⟨_, _, vs, _, p⟩ := (show ObjOk X.prog X.w H s.heap a (.dK kvs) from I.hok a _ ea)
    obtain ⟨o, es, ep, h1, h2, _⟩ := p
    exact PySem.W.kia_one PySem.W.kitx_dict I.kIn ⟨o, h1, h2.1⟩ e (fun z => nomatch z) h
  | @dT a kvs ea =>
    cases (show u = Value.ref a from rx)
    obtain ⟨_, _, xs, _, o, es, ep, h1, h2, _⟩ := (show ObjOk X.prog X.w H s.heap a (.dT kvs) from I.hok a _ ea)
    exact PySem.W.kia_one PySem.W.kitx_dict I.kIn ⟨o, h1, h2.1⟩ e (fun z => nomatch z) h
  | @ins a C dx fs ea cl ha hn htk hm =>
    cases (show u = Value.ref a from rx)
    obtain ⟨mA, O, _⟩ := ins_get I.hok ea
    obtain ⟨od, J, _⟩ := O.look
    exact PySem.W.kia_one (PySem.W.kitx_own (cl.get _) cl.hd ha hn htk hm) I.kIn J e (fun z => nomatch z) h
end
end L2

namespace L2
open PySem PySem.Spec PyProof.Rows

/-! ### room -/
structure Room (k : Nat) (A : Around) : Prop where
  hd : A.handled = none
  dp : A.depth + 3 * k + 5 < recursionLimit
  un : A.units + 16 * k + 200 < cLine
theorem Room.mono {j k : Nat} {A : Around} (r : Room k A) (h : j ≤ k) : Room j A := ⟨r.hd, by have := r.dp; omega, by have := r.un; omega⟩
theorem Room.deeper {k : Nat} {A : Around} (r : Room (k + 1) A) (env : Env) : Room k (A.deeper env) :=
  ⟨r.hd, by have := r.dp; show A.depth + 1 + 3 * k + 5 < _; omega, by have := r.un; show A.units + 3 + 16 * k + 200 < _; omega⟩
theorem Room.depth {k : Nat} {A : Around} (r : Room k A) : A.depth < recursionLimit := by have := r.dp; omega
theorem Room.units {k : Nat} {A : Around} (r : Room k A) : A.units + 64 < cLine := by have := r.un; omega
theorem Room.units0 {k : Nat} {A : Around} (r : Room k A) : A.units < cLine := by have := r.un; omega

/-! ### argument lists and displays -/
noncomputable def tNil : TA := fun _ H Q => Q [] H
noncomputable def tCons (ta : TE) (tr : TA) : TA := fun σ H Q => ta σ H fun x H1 => tr σ H1 fun xs H2 => Q (x :: xs) H2
section
variable {X : Cx} {e : Expr} {es : List Expr} {te : TE} {t : TA} {pos : Pos}
theorem pa_nil : PA X [] tNil := fun _ _ _ _ H Q I h => Calls.spliced_nil ⟨[], H, I, .nil, h⟩
theorem pa_cons (ha : PE X e te) (hr : PA X es t) (hs : starEach (e :: es) X.env = (false, eval e X.env) :: starEach es X.env := by rfl) : PA X (e :: es) (tCons te t) := by
  intro pos pins s σ H Q I h
  rw [hs]
  show wpAny _ _ (spliced ((false, eval e X.env) :: backTo pos (starEach es X.env))) _ _ s
  refine Calls.spliced_cons (thn (ha pins s σ H _ I h) fun u s1 ⟨x, H1, I1, r1, q1⟩ => ?_)
  exact thn (hr pos pins s1 σ H1 _ I1 q1) fun us s2 ⟨xs, H2, I2, r2, q2⟩ => ⟨x :: xs, H2, I2, .cons r1 r2, q2⟩

/-- a tuple, a list of written items -/
noncomputable def tTup (t : TA) : TE := fun σ H Q => t σ H fun xs H1 => xs.length ≤ sizeLine ∧ ∀ p, H1 p = none → Q (.ref p) (upd H1 p (.tup xs))
noncomputable def tLst (t : TA) : TE := fun σ H Q => t σ H fun xs H1 => xs.length ≤ sizeLine ∧ ∀ p, H1 p = none → Q (.ref p) (upd H1 p (.lst xs))
theorem pe_tup {x1} (h : PA X es t) : PE X (.Tuple es x1 pos) (tTup t) := by
  intro pins s σ H Q I hq
  refine wpAny_Tuple_spliced (thn (h pos pins s σ H _ I hq) fun us s1 ⟨xs, H1, I1, r, z, q⟩ => ⟨by rw [← r.length]; exact z, ?_⟩)
  have hf : H1 s1.heap.objs.size = none := I1.hok.fresh (Nat.le_refl _)
  refine ⟨.ref s1.heap.objs.size, upd H1 s1.heap.objs.size (.tup xs), I1.laid (t' := s1.toks) (fun b u e => Heap.get?_push_of_some _ e) (Nat.le_refl _) ?_, rfl, q _ hf⟩
  exact ⟨z, us, r, ⟨_, Heap.get?_push_size _ rfl, rfl, _, rfl⟩⟩
theorem pe_lst (h : PA X es t) : PE X (.List es pos) (tLst t) := by
  intro pins s σ H Q I hq
  refine wpAny_List_spliced (thn (h pos pins s σ H _ I hq) fun us s1 ⟨xs, H1, I1, r, z, q⟩ => ⟨by rw [← r.length]; exact z, ?_⟩)
  have hf : H1 s1.heap.objs.size = none := I1.hok.fresh (Nat.le_refl _)
  refine ⟨.ref s1.heap.objs.size, upd H1 s1.heap.objs.size (.lst xs), I1.laid (t' := s1.toks) (fun b u e => Heap.get?_push_of_some _ e) (Nat.le_refl _) ?_, rfl, q _ hf⟩
  exact ⟨z, us, 0, r, Heap.get?_push_size _ rfl⟩
end

/-! ### what a def promises -/
/-- a def's promise: the bound arguments in the parameters' order, the heap, the wanted end, the wanted exception -/
noncomputable abbrev Sp := List V → Hp → VK → XK → Prop
/-- how an exception lies behind a call (file 08 gives it): the callers' frames, abstract heap and state ahead of the call, the wish, the exception, the state -/
noncomputable abbrev CXT := List Env → Hp → Shared → XK → Value → Shared → Prop

/-- the state at a call -/
structure Env0 (P : Program) (w : World) (K : PySem.W.Frag) (mg : Str → Option Value) (base : Heap) (A : Around) (outer : List Env) (s : Shared) (H : Hp) : Prop where
  frames : A.frames = some outer
  mod : Mod K mg base
  bs : ∀ b o, base.get? b = some o → s.heap.get? b = some o ∧ H b = none
  bsz : base.objs.size ≤ s.heap.objs.size
  funs : s.heap.FunFrames base outer
  frf : ∀ b ∈ frs outer, H b = none
  hok : HOk P w H s.heap
  bare : AllBare s.gens
/-- a call's end -/
noncomputable def CE (outer : List Env) (P : Program) (w : World) (H : Hp) (s : Shared) (Q : VK) (u : Value) (s' : Shared) : Prop :=
  ∃ v H', s'.os = s.os ∧ AllBare s'.gens ∧ Un (frs outer) [] H H' s.heap s'.heap ∧ HOk P w H' s'.heap ∧ RelV v u ∧ Q v H'
noncomputable def CR (CX : CXT) (outer : List Env) (P : Program) (w : World) (H : Hp) (s : Shared) (Q : VK) (E : XK) (r : Result) (s' : Shared) : Prop :=
  match r with
  | .ok (.ret u) => CE outer P w H s Q u s'
  | .ok _ => False
  | .error e => CX outer H s E e s'
structure FnOk (P : Program) (w : World) (K : PySem.W.Frag) (mg : Str → Option Value) (base : Heap) (CX : CXT) (k : Nat) (f : Addr) (fd : FuncData) (ps : List Str) (sp : Sp) : Prop where
  len : ∀ vs H Q E, sp vs H Q E → vs.length = ps.length
  run : ∀ (A : Around) (outer : List Env) (s : Shared) (H : Hp) (args : Args) (us : List Value) (vs : List V) (Q : VK) (E : XK), Room k A → Env0 P w K mg base A outer s H → BindsTo s fd args (ps.zip us) → Vals vs us → sp vs H Q E →
    codeAny (model P w) A (.call (.ref f) args) (CR CX outer P w H s Q E) s
section
variable {X : Cx} {pins : List (Addr × Obj)} {σ : St} {H : Hp} {s s' : Shared}
/-- from a body: what a callee wants -/
theorem Inv.env0 (I : Inv X pins σ H s) : Env0 X.prog X.w X.K X.mg X.base X.A X.stack s H :=
  ⟨I.ok.frames, I.ok.mod, I.bs, Nat.le_trans I.ok.bsz I.sz, I.stack, I.stkFree, I.hok, I.bare⟩
/-- behind a call -/
theorem Inv.after {Q : VK} {u : Value} (I : Inv X pins σ H s) (h : CE X.stack X.prog X.w H s Q u s') : EP X pins σ Q u s' := by
  obtain ⟨v, H', os, bare, un, hok, r, q⟩ := h
  obtain ⟨hh, g, d, t, os'⟩ := s'
  obtain rfl : os' = s.os := os
  exact ⟨v, H', I.call (h' := hh) (g' := g) (d' := d) (t' := t) (ch := []) un hok bare (fun b z => absurd z (by simp)), r, q⟩
end

/-! ### calls -/
/-- f(..): the written arguments, then the defaults dvs; E: what is wanted of an exception -/
noncomputable def tCall (sp : Sp) (dvs : List V) (E : XK) (t : TA) : TE := fun σ H Q => t σ H fun vs H1 => sp (vs ++ dvs) H1 Q E
/-- how the parameters are bound: us the positional arguments, kw the keywords' values by name, ds the defaults that fill up -/
noncomputable def Binds (K : PySem.W.Frag) (fd : FuncData) (ps : List Str) (ds : List Value) : Prop :=
  ∀ (s : Shared) (us : List Value), K.In s.heap → (us ++ ds).length = ps.length → BindsTo s fd ⟨us, []⟩ (ps.zip (us ++ ds))
/-- every parameter is given -/
theorem Binds.all {K : PySem.W.Frag} {fd : FuncData} {ps : List Str} (h : ∀ us : List Value, us.length = ps.length → bindArgs fd ⟨us, []⟩ = pure (ps.zip us)) : Binds K fd ps [] := fun s us _ hl => by
  rw [List.append_nil] at hl ⊢
  exact .of_eq (h us hl)

/-- an exception of a callee reaches what this body wants of exceptions -/
noncomputable def Passes (CX : CXT) (X : Cx) (E : XK) : Prop := ∀ (pins : List (Addr × Obj)) (σ : St) (H : Hp) (s : Shared) (e : Value) (s' : Shared), Inv X pins σ H s → CX X.stack H s E e s' → X.xe e s'

section
variable {X : Cx} {CX : CXT} {k : Nat} {f C : Addr} {fd : FuncData} {ps : List Str} {sp : Sp} {dvs : List V} {ds : List Value} {E : XK} {x m : Str} {p pos apos : Pos} {e o : Expr} {es : List Expr} {ta : TE} {t : TA}

/-- the callee runs -/
theorem run_fn {pins : List (Addr × Obj)} {σ : St} {H : Hp} {s : Shared} {Q : VK} {us : List Value} {vs : List V} (F : FnOk X.prog X.w X.K X.mg X.base CX k f fd ps sp) (hr : Room k X.A) (hb : Binds X.K fd ps ds) (hd : Vals dvs ds) (hx : Passes CX X E)
    (I : Inv X pins σ H s) (r : Vals vs us) (h : sp (vs ++ dvs) H Q E) : wpAny (model X.prog X.w) X.A (call (.ref f) us) (EP X pins σ Q) X.xe s := by
  have r2 : Vals (vs ++ dvs) (us ++ ds) := r.append hd
  have hl : (us ++ ds).length = ps.length := by rw [← r2.length]; exact F.len _ _ _ _ h
  refine wpAny_call (codeAny_mono (F.run X.A X.stack s H ⟨us, []⟩ (us ++ ds) (vs ++ dvs) Q E hr I.env0 (hb s us I.kIn hl) r2 h) fun r s' hq => ?_)
  cases r with
  | error e => exact hx pins σ H s e s' I hq
  | ok fl =>
    cases fl with
    | ret u => exact I.after hq
    | next => exact False.elim hq
    | brk => exact False.elim hq
    | cont => exact False.elim hq

theorem pe_call (F : FnOk X.prog X.w X.K X.mg X.base CX k f fd ps sp) (hr : Room k X.A) (hg : Gl X x) (hm : X.mg x = some (.ref f)) (hk : PySem.W.keepIn X.K (.ref f) = true) (hb : Binds X.K fd ps ds) (hd : Vals dvs ds) (hx : Passes CX X E)
    (ha : PA X (e :: es) t) (hdb : (x == ("__debug__" : Str)) = false := by decide) (he : starEach (e :: es) X.env = (false, eval e X.env) :: starEach es X.env := by rfl) (hpl : (backTo pos (starEach es X.env)).any (·.1) = false := by rfl) :
    PE X (.Call (.Name x p) (e :: es) [] pos) (tCall sp dvs E t) := by
  intro pins s σ H Q I h
  refine wpAny_Call_Name_kw (ld_glob I hg hm ?_ hdb)
  refine PySem.W.callWith_K (h₀ := X.base) I.ok.mod.kin hk (thn (ha pos pins s σ H _ I h) fun us s1 ⟨vs, H1, I1, r, q⟩ => ⟨I1.kIn, ?_⟩) he hpl
  exact run_fn F hr hb hd hx I1 r q
end

/-! ### keywords -/
section
variable {X : Cx} {CX : CXT} {k : Nat} {f C : Addr} {fd : FuncData} {ps ks : List Str} {sp : Sp} {E : XK} {x m : Str} {p pos apos kpos : Pos} {e o : Expr} {es : List Expr} {kws : List Keyword} {te ta : TE} {t tk : TA} {nm : Option Str}
variable {g : List Value → List Value → List Value} {gV : List V → List V → List V}
end

/-! ### a def's body keeps its promise -/
/-- names: the parameters first -/
structure FnScope (N P : List Str) (sc : Scope) : Prop where
  kind : sc.kind = .function
  co : sc.isCoroutine = false
  gen : sc.isGenerator = false
  nd : N.Nodup
  pre : N.take P.length = P
  par : ∀ x ∈ P, sc.names.lookup x = some .local ∨ sc.names.lookup x = some .cell
  nofree : ∀ y ∈ sc.names, y.2 ≠ .free

theorem bindL_out {kindOf : Str → Option NameKind} {x : Str} : ∀ {binds : List (Str × Value)} {m : Str → Option Value}, (∀ v, (x, v) ∉ binds) → bindL kindOf binds m x = m x
  | [], _, _ => rfl
  | (n, v) :: r, m, h => by
    unfold bindL
    rw [bindL_out fun w hw => h w (List.mem_cons_of_mem _ hw)]
    split
    · have : x ≠ n := by rintro rfl; exact h v List.mem_cons_self
      simp [this]
    · rfl
theorem bindC_out {kindOf : Str → Option NameKind} {x : Str} : ∀ {binds : List (Str × Value)} {m : Str → Option Value}, (∀ v, (x, v) ∉ binds) → bindC kindOf binds m x = m x
  | [], _, _ => rfl
  | (n, v) :: r, m, h => by
    unfold bindC
    rw [bindC_out fun w hw => h w (List.mem_cons_of_mem _ hw)]
    split
    · rfl
    · have : x ≠ n := by rintro rfl; exact h v List.mem_cons_self
      simp [this]
theorem bindL_get {kindOf : Str → Option NameKind} {x : Str} {v : Value} : ∀ {P : List Str} {vs : List Value} {i : Nat} {m : Str → Option Value}, P.Nodup → P[i]? = some x → vs[i]? = some v → kindOf x = some .local →
    bindL kindOf (P.zip vs) m x = some v
  | [], _, _, _, _, h, _, _ => by simp at h
  | _ :: _, [], _, _, _, _, h, _ => by simp at h
  | p :: P, w :: vs, 0, m, nd, h1, h2, hk => by
    simp at h1 h2; subst h1; subst h2
    show bindL kindOf ((p, w) :: P.zip vs) m p = _
    unfold bindL
    rw [bindL_out fun v hv => (List.nodup_cons.mp nd).1 (List.of_mem_zip hv).1, if_pos hk]
    simp
  | p :: P, w :: vs, i + 1, m, nd, h1, h2, hk => by
    show bindL kindOf ((p, w) :: P.zip vs) m x = _
    unfold bindL
    exact bindL_get (i := i) (List.nodup_cons.mp nd).2 (by simpa using h1) (by simpa using h2) hk
theorem bindC_get {kindOf : Str → Option NameKind} {x : Str} {v : Value} : ∀ {P : List Str} {vs : List Value} {i : Nat} {m : Str → Option Value}, P.Nodup → P[i]? = some x → vs[i]? = some v → kindOf x ≠ some .local →
    bindC kindOf (P.zip vs) m x = some v
  | [], _, _, _, _, h, _, _ => by simp at h
  | _ :: _, [], _, _, _, _, h, _ => by simp at h
  | p :: P, w :: vs, 0, m, nd, h1, h2, hk => by
    simp at h1 h2; subst h1; subst h2
    show bindC kindOf ((p, w) :: P.zip vs) m p = _
    unfold bindC
    rw [bindC_out fun v hv => (List.nodup_cons.mp nd).1 (List.of_mem_zip hv).1, if_neg hk]
    simp
  | p :: P, w :: vs, i + 1, m, nd, h1, h2, hk => by
    show bindC kindOf ((p, w) :: P.zip vs) m x = _
    unfold bindC
    exact bindC_get (i := i) (List.nodup_cons.mp nd).2 (by simpa using h1) (by simpa using h2) hk

/-- the names' values at the entry -/
noncomputable def start (N : List Str) (vs : List V) : St := vs.map some ++ List.replicate (N.length - vs.length) none

/-- the context of a def's body, at its entry; an exception leaves the frame, then lies as CX says -/
noncomputable def cxOf (CX : CXT) (P : Program) (w : World) (K : PySem.W.Frag) (mg : Str → Option Value) (base : Heap) (N : List Str) (qual : Str) (scope : Scope) (f : Addr) (cd : Value) (A : Around) (outer : List Env) (s : Shared) (H : Hp) (E : XK) : Cx where
  prog := P
  w := w
  K := K
  mg := mg
  base := base
  A := A.deeper (envOfC qual scope s.heap.objs.size f cd)
  N := N
  s₀ := s
  H₀ := H
  env := envOfC qual scope s.heap.objs.size f cd
  outer := outer
  stack := envOfC qual scope s.heap.objs.size f cd :: outer
  ex := []
  calm := true
  fn := fun _ => true
  pn := []
  xe := fun e s' => wpAny (model P w) (A.deeper (envOfC qual scope s.heap.objs.size f cd)) (leaving (envOfC qual scope s.heap.objs.size f cd) e) (fun _ s'' => CX outer H s E e s'') (fun e' s'' => CX outer H s E e' s'') s'

theorem cell_has {sc : Scope} {n : Nat} {x : Str} (h : sc.names.lookup x = some .cell) : ∃ c, (cellsFrom n sc.names []).lookup x = some c := by
  have q := PySem.W.cellsFrom_some sc.names n [] (.inl h)
  exact Option.isSome_iff_exists.mp q

theorem inv_start {CX : CXT} {P : Program} {w : World} {K : PySem.W.Frag} {mg : Str → Option Value} {base : Heap} {N ps : List Str} {qual : Str} {scope : Scope} {f : Addr} {cd : Value} {A : Around} {outer : List Env} {s s1 : Shared} {H : Hp} {E : XK} {us : List Value} {vs : List V}
    (S : FnScope N ps scope) (hd : A.handled = none) (e0 : Env0 P w K mg base A outer s H) (hl : vs.length = ps.length) (r : Vals vs us)
    (x : InCallC s s.heap.objs.size (bindL (envOfC qual scope s.heap.objs.size f cd).kindOf (ps.zip us) fun _ => none) (cellsFrom (s.heap.objs.size + 1) scope.names []) (bindC (envOfC qual scope s.heap.objs.size f cd).kindOf (ps.zip us) fun _ => none) s1) :
    Inv (cxOf CX P w K mg base N qual scope f cd A outer s H E) [] (start N vs) H s1 := by
  have hpl : ps.length ≤ N.length := by have := congrArg List.length S.pre; rw [List.length_take] at this; omega
  obtain ⟨h1, tk, rfl, hk⟩ := x.done
  have noA : ∀ b : Addr, b ∉ (cxOf CX P w K mg base N qual scope f cd A outer s H E).ex := fun b z => absurd (show b ∈ ([] : List Addr) from z) (by simp)
  refine ⟨⟨e0.mod, S.kind, rfl, rfl, Nat.le_refl _, fun y z c h1 h2 => ?_, fun y hy => ?_, fun y c _ h => ?_, fun _ => hd, Around.frames_deeper e0.frames, .inr ⟨rfl, rfl⟩, fun b z => absurd z (noA b), e0.bs, e0.bsz, fun b _ _ => noA b, fun b z => absurd z (noA b), e0.funs, e0.frf⟩,
    rfl, e0.bare, Un.kept hk, ⟨_, x.toInCall.ns, fun i y v h1 h2 h3 => ?_⟩, fun y c h => ⟨_, x.cell y c h⟩, e0.hok.fresh (Nat.le_refl _), fun y c h => ?_, fun p hp => absurd (show p ∈ ([] : List (Addr × Obj)) from hp) (by simp), e0.hok.kept hk, ?_⟩
  · exact name_of_addr x.apart (PySem.mem_of_lookup h1) (PySem.mem_of_lookup h2)
  · have hy : scope.names.lookup y = some .cell ∨ scope.names.lookup y = some .free := hy
    rcases hy with hy | hy
    · exact cell_has hy
    · exact absurd rfl (S.nofree _ (PySem.mem_of_lookup hy))
  · exact Nat.le_of_lt (x.above y c (PySem.mem_of_lookup h))
  · have hi : i < vs.length := by
      unfold start at h2
      by_cases hi : i < vs.length
      · exact hi
      · rw [List.getElem?_append_right (by simpa using hi)] at h2
        rw [List.getElem?_replicate] at h2
        split at h2 <;> cases h2
    have ha : vs[i]? = some v := by
      unfold start at h2
      rw [List.getElem?_append_left (by simpa using hi), List.getElem?_map] at h2
      cases e : vs[i]? with
      | none => rw [e] at h2; cases h2
      | some a => rw [e] at h2; cases h2; rfl
    obtain ⟨u, hu, rv⟩ := r.get ha
    have hp : ps[i]? = some y := by
      rw [← S.pre, List.getElem?_take_of_lt (by omega)]; exact h1
    have ndP : ps.Nodup := by rw [← S.pre]; exact S.nd.sublist (List.take_sublist _ _)
    refine ⟨u, rv, ?_⟩
    rcases S.par y (List.mem_of_getElem? hp) with k | k
    · exact .inl ⟨k, bindL_get ndP hp hu k⟩
    · obtain ⟨c, e⟩ := cell_has (n := s.heap.objs.size + 1) k
      refine .inr ⟨.inl k, c, e, ?_⟩
      have q := x.cell y c e
      rw [bindC_get ndP hp hu (by show scope.names.lookup y ≠ _; rw [k]; decide)] at q
      exact q
  · exact e0.hok.fresh (Nat.le_of_lt (x.above y c (PySem.mem_of_lookup h)))
  · unfold start
    show _ = N.length
    rw [List.length_append, List.length_map, List.length_replicate]
    omega

/-- THE RULE: a def (or a method) of the text, by its body. The body's reading t is chosen for each entry; it is run at the parameters' values -/
theorem fn_of {CX : CXT} {P : Program} {w : World} {K : PySem.W.Frag} {mg : Str → Option Value} {base : Heap} {k : Nat} {f : Addr} {name qual : Str} {params : Arguments} {body : List Stmt} {scope : Scope} {dV kV doc pm cdv ct oc : Value} {an od : Option Addr}
    {osl : Array (Option Value)} {N ps : List Str} {sp : Sp} (lk : K.lookup f = some ⟨oc, od, .func (PySem.W.fnOf name qual params body scope dV kV doc pm an cdv ct), osl⟩) (hcd : PySem.W.codeIn K cdv qual = true) (S : FnScope N ps scope)
    (len : ∀ vs H Q E, sp vs H Q E → vs.length = ps.length)
    (hbody : ∀ (A : Around) (outer : List Env) (s : Shared) (H : Hp) (vs : List V) (Q : VK) (E : XK), Room k (A.deeper (envOfC qual scope s.heap.objs.size f cdv)) → sp vs H Q E →
      ∃ t, PSs (cxOf CX P w K mg base N qual scope f cdv A outer s H E) body t ∧ t { nx := fun _ H' => Q .non H', rt := Q } (start N vs) H) :
    FnOk P w K mg base CX (k + 1) f (PySem.W.fnOf name qual params body scope dV kV doc pm an cdv ct) ps sp := by
  refine ⟨len, fun A outer s H args us vs Q E hr e0 hb r hsp => ?_⟩
  have hl := len _ _ _ _ hsp
  have KX : K.In s.heap := e0.mod.kin.keeps fun b o e => (e0.bs b o e).1
  have lim : s.heap.NoLimit := e0.mod.nolimit.keeps fun b o e => (e0.bs b o e).1
  have hkind : ∀ y ∈ ps.zip us, scope.names.lookup y.1 = some .local ∨ (scope.names.lookup y.1 = some .cell ∧ ((cellsFrom (s.heap.objs.size + 1) scope.names []).lookup y.1).isSome = true) := fun ⟨n, v⟩ hy => by
    rcases S.par n (List.of_mem_zip hy).1 with q | q
    · exact .inl q
    · exact .inr ⟨q, PySem.W.cellsFrom_some _ _ _ (.inl q)⟩
  refine codeAny_call_function hr.depth (KX _ _ lk) rfl S.co S.gen rfl (PySem.W.codeRec_of KX hcd) (hb _ _ _ _ ?_)
  refine wpAny_newFunctionEnv_cells S.kind hkind fun env he s1 x => ?_
  subst he
  refine ⟨lim.keeps x.toInCall.keep, codeAny_func ?_⟩
  obtain ⟨t, ht, hq⟩ := hbody A outer s H vs Q E (hr.deeper _) hsp
  have I : Inv (cxOf CX P w K mg base N qual scope f cdv A outer s H E) [] (start N vs) H s1 := inv_start S hr.hd e0 hl r x
  refine wpAny_mono (ht [] s1 (start N vs) H _ I hq) (fun fl s' hs => ?_) fun e s' hs => hs
  have fin : ∀ {σ' : St} {H' : Hp} {v : V} {u : Value}, Inv (cxOf CX P w K mg base N qual scope f cdv A outer s H E) [] σ' H' s' → RelV v u → Q v H' → CE outer P w H s Q u s' :=
    fun {σ' H' v u} J rv q => ⟨v, H', J.os, J.bare, J.base, J.hok, rv, q⟩
  cases fl with
  | ret u =>
    obtain ⟨v, σ', H', J, rv, q⟩ := hs
    exact fin J rv q
  | next =>
    obtain ⟨σ', H', J, q⟩ := hs
    exact fin (v := V.non) (u := Value.none) J rfl q
  | brk =>
    obtain ⟨_, _, _, q⟩ := hs
    exact False.elim q
  | cont =>
    obtain ⟨_, _, _, q⟩ := hs
    exact False.elim q
end L2

namespace L2
open PySem PySem.Spec PyProof.Rows
section
variable {X : Cx} {x : Str} {p pos : Pos} {e : Expr} {es : List Expr} {t : TA} {id T : String} {r : List V → Hp → VK → Prop}

noncomputable def tCB (r : List V → Hp → VK → Prop) (t : TA) : TE := fun σ H Q => t σ H fun vs H1 => r vs H1 Q
/-- f(e, ..), f a built-in function -/
theorem pe_callB (hc : CallR X (.builtin id) r) (hg : Gl X x) (hm : X.mg x = none) (hv : bootBuiltins x = some (.builtin id)) (ha : PA X (e :: es) t) (hn : x ≠ "__name__" := by decide) (hdb : (x == ("__debug__" : Str)) = false := by decide)
    (he : starEach (e :: es) X.env = (false, eval e X.env) :: starEach es X.env := by rfl) (hpl : (backTo pos (starEach es X.env)).any (·.1) = false := by rfl) : PE X (.Call (.Name x p) (e :: es) [] pos) (tCB r t) := by
  intro pins s σ H Q I h
  refine wpAny_Call_Name_kw (ld_blt I hg hm hv ?_ hn hdb)
  exact PyProof.Rows.callWith_builtin1 (thn (ha pos pins s σ H _ I h) fun us s1 ⟨vs, H1, I1, r1, q1⟩ => hc pins s1 σ H1 vs us Q I1 r1 q1) he hpl
/-- T(e, ..), T a built-in type -/
theorem pe_callTy (hc : CallR X (.type T) r) (hg : Gl X x) (hm : X.mg x = none) (hv : bootBuiltins x = some (.type T)) (ha : PA X (e :: es) t) (hn : x ≠ "__name__" := by decide) (hdb : (x == ("__debug__" : Str)) = false := by decide)
    (he : starEach (e :: es) X.env = (false, eval e X.env) :: starEach es X.env := by rfl) (hpl : (backTo pos (starEach es X.env)).any (·.1) = false := by rfl) : PE X (.Call (.Name x p) (e :: es) [] pos) (tCB r t) := by
  intro pins s σ H Q I h
  refine wpAny_Call_Name_kw (ld_blt I hg hm hv ?_ hn hdb)
  exact PyProof.Rows.callWith_type1 (thn (ha pos pins s σ H _ I h) fun us s1 ⟨vs, H1, I1, r1, q1⟩ => hc pins s1 σ H1 vs us Q I1 r1 q1) he hpl
end
end L2

namespace HT
open PySem PyProof.Rows

section
open PySem.SeqAt
open PySem.AutoSeq1 (wpAny_loadPart')
open PySem.MeetsSeq PySem.MeetsSeq2 PySem.MeetsSeq3

end

section
variable {prog : Program} {w : World} {A : Around} {E : Value → Shared → Prop} {s : Shared}

/-- t + u, t not empty -/
theorem cat_tup {t b : Addr} {vs ws : List Value} {Q : Value → Shared → Prop} (ht : IsTup s.heap t vs.toArray) (hb : IsTup s.heap b ws.toArray) (hv : vs ≠ [])
    (h1 : ws = [] → Q (.ref t) s) (h2 : ws ≠ [] → Q (.ref s.heap.objs.size) { s with heap := s.heap.push { cls := .type "tuple", data := .seq (vs ++ ws).toArray } })
    (hsz : vs.length + ws.length ≤ sizeLine) : wpAny (model prog w) A (binaryOp .Add (.ref t) (.ref b)) Q E s := by
  obtain ⟨⟨cls, dd, data, sl⟩, ho, hc, n, hd⟩ := id ht
  obtain ⟨⟨cls2, dd2, data2, sl2⟩, ho2, hc2, n2, hd2⟩ := id hb
  simp only at hc hd hc2 hd2
  subst hc hd hc2 hd2
  have e : vs.toArray ++ ws.toArray = (vs ++ ws).toArray := by simp
  by_cases hw : ws = []
  · exact concat_meets ⟨_, ho, rfl⟩ ⟨_, ho2, rfl⟩ noFill_tuple_add seq_tuple_add PySem.F.slot_tuple_add PySem.F.entry_tuple_add (PySem.F.args_tuple_add_2 _ _)
      (tuple_addW1 t b vs.toArray ws.toArray n n2 dd dd2 sl sl2 (by simpa using hv) (by simp [hw])) ⟨ho, ho2, h1 hw⟩
  · refine concat_meets ⟨_, ho, rfl⟩ ⟨_, ho2, rfl⟩ noFill_tuple_add seq_tuple_add PySem.F.slot_tuple_add PySem.F.entry_tuple_add (PySem.F.args_tuple_add_2 _ _)
      (tuple_addW2 t b vs.toArray ws.toArray n n2 dd dd2 sl sl2 (by simpa using hv) (by simpa using hw) (by rw [List.size_toArray, List.size_toArray]; exact hsz)) ⟨ho, ho2, ?_⟩
    rw [e]
    exact h2 hw

/-! ### t[a:b], not the whole -/
/-- a slice's bound as a place among n (d where it is left out) -/
noncomputable def sIx (n d : Nat) : Option Int → Nat
  | none => d
  | some v => if v < 0 then (v + (n : Int)).toNat else min v.toNat n
theorem sIx_none (n d : Nat) : sIx n d none = d := rfl
theorem sIx_nat (n d k : Nat) : sIx n d (some (k : Int)) = min k n := by
  show (if (k : Int) < 0 then ((k : Int) + (n : Int)).toNat else min (k : Int).toNat n) = min k n
  rw [if_neg (by omega), Int.toNat_natCast]
theorem sIx_le (n d : Nat) (hd : d ≤ n) (o : Option Int) : sIx n d o ≤ n := by
  cases o with
  | none => exact hd
  | some v =>
    show (if v < 0 then (v + (n : Int)).toNat else min v.toNat n) ≤ n
    by_cases hv : v < 0
    · rw [if_pos hv]; omega
    · rw [if_neg hv]; exact Nat.min_le_right _ _
theorem clip_eq (v : Int) (n d : Nat) : (if v < 0 then max (v + (n : Int)) 0 else min v (n : Int)) = ((sIx n d (some v) : Nat) : Int) := by
  show (if v < 0 then max (v + (n : Int)) 0 else min v (n : Int)) = (((if v < 0 then (v + (n : Int)).toNat else min v.toNat n) : Nat) : Int)
  by_cases hv : v < 0
  · simp only [if_pos hv]; omega
  · simp only [if_neg hv]; omega
theorem adjust_gen (lo hi : Option Int) (n : Nat) : Builtin.Slice.sliceAdjust lo hi 1 (n : Int) = (((sIx n 0 lo : Nat) : Int), ((sIx n n hi : Nat) : Int)) := by
  have h1 : ¬ ((1 : Int) < 0) := by omega
  unfold Builtin.Slice.sliceAdjust
  simp only [h1, if_false]
  refine Prod.ext ?_ ?_
  · cases lo with
    | none => rfl
    | some v => exact clip_eq v n 0
  · cases hi with
    | none => rfl
    | some v => exact clip_eq v n n
theorem places_gen (i j : Nat) : Builtin.Slice.slicePlaces (i : Int) (j : Int) 1 = j - i := by
  unfold Builtin.Slice.slicePlaces
  have h1 : (1 : Int) > 0 := by omega
  simp only [h1, if_true, Int.ediv_one]
  split <;> omega
theorem slicePart_ {v : Value} {o : Option Int} {Q : Option Int → Shared → Prop} (p : IsPart v o) (h : Q o s) : wpAny (model prog w) A (Builtin.Slice.slicePartIndex v) Q E s := by
  cases p with
  | none => exact slicePart_none h
  | int i t => exact slicePart_int h
theorem sliceApplied_gen {sl : Addr} {vl vu : Value} {lo hi : Option Int} {n : Nat} {Q : Int × Int × Nat → Shared → Prop} (hs : s.heap.IsSliceOf sl vl vu .none) (pl : IsPart vl lo) (pu : IsPart vu hi)
    (h : Q (((sIx n 0 lo : Nat) : Int), 1, sIx n n hi - sIx n 0 lo) s) : wpAny (model prog w) A (Builtin.Slice.sliceApplied (.ref sl) (pure (n : Int))) Q E s := by
  obtain ⟨os, hos, hcs, hds⟩ := id hs
  unfold Builtin.Slice.sliceApplied Builtin.Slice.sliceFields
  refine wpAny_bind (wpAny_bind (wpAny_field hos hds (x := vl) rfl (wpAny_bind (wpAny_field hos hds (x := vu) rfl (wpAny_bind (wpAny_field hos hds (x := .none) rfl (wpAny_pure ?_)))))))
  refine wpAny_bind (slicePart_none ?_)
  show wpAny _ _ (if ((1 : Int) == 0) = true then _ else _) _ _ s
  rw [if_neg (by decide)]
  refine wpAny_bind (slicePart_ pl (wpAny_bind (slicePart_ pu (wpAny_bind (wpAny_pure ?_)))))
  show wpAny _ _ (match Builtin.Slice.sliceAdjust lo hi 1 (n : Int) with | (lo, hi) => pure (lo, (1 : Int), Builtin.Slice.slicePlaces lo hi 1)) _ _ s
  rw [adjust_gen lo hi n]
  show wpAny _ _ (pure (((sIx n 0 lo : Nat) : Int), (1 : Int), Builtin.Slice.slicePlaces ((sIx n 0 lo : Nat) : Int) ((sIx n n hi : Nat) : Int) 1)) _ _ s
  rw [places_gen]
  exact wpAny_pure h
theorem pick_gen (xs : Array Value) (i k : Nat) : ((List.range k).filterMap fun (m : Nat) => xs[((i : Int) + (m : Int) * 1).toNat]?).toArray = ((xs.toList.drop i).take k).toArray := by
  have e : (fun (m : Nat) => xs[((i : Int) + (m : Int) * 1).toNat]?) = fun m => xs[i + m]? := by
    funext m
    have : ((i : Int) + (m : Int) * 1).toNat = i + m := by omega
    rw [this]
  rw [e]
  have := pick_run xs i k
  rw [List.filterMap_map] at this
  have e2 : ((fun x => xs[x]?) ∘ fun x => i + x) = fun m => xs[i + m]? := rfl
  rw [e2] at this
  rw [this]

theorem getItem_tuple_cut {t sl : Addr} {items : Array Value} {vl vu : Value} {lo hi : Option Int} {Q : Value → Shared → Prop} (ht : IsTup s.heap t items) (hs : s.heap.IsSliceOf sl vl vu .none) (pl : IsPart vl lo) (pu : IsPart vu hi)
    (hw : ¬ (sIx items.size 0 lo = 0 ∧ sIx items.size items.size hi = items.size))
    (h : Q (.ref s.heap.objs.size) { s with heap := s.heap.push { cls := .type "tuple", data := .seq ((items.toList.drop (sIx items.size 0 lo)).take (sIx items.size items.size hi - sIx items.size 0 lo)).toArray } })
    (hsz : items.size ≤ sizeLine) : wpAny (model prog w) A (getItem (.ref t) (.ref sl)) Q E s := by
  have htake : sizeOk (.seq ((items.toList.drop (sIx items.size 0 lo)).take (sIx items.size items.size hi - sIx items.size 0 lo)).toArray) := by
    show ((items.toList.drop (sIx items.size 0 lo)).take (sIx items.size items.size hi - sIx items.size 0 lo)).toArray.size ≤ sizeLine
    rw [List.size_toArray, List.length_take, List.length_drop, Array.length_toList]
    omega
  have hj : sIx items.size items.size hi ≤ items.size := sIx_le _ _ (Nat.le_refl _) hi
  obtain ⟨os, hos, hcs, hds⟩ := id hs
  have hTs : s.TypeIs (.ref sl) "slice" := ⟨os, hos, hcs⟩
  unfold getItem
  try with_reducible refine wpAny_holding ?_
  first | refine wpAny_bind (wpAny_pure ?_) | skip
  refine wpAny_bind (wpAny_sequenceKey ht.typeIs (by decide) ?_)
  refine wpAny_bind (wpAny_callSpecial?_slot (name := Str.ofString "__getitem__") ht.typeIs PyProof.Rows.slot_tuple_getitem
    (wpAny_call_entry PyProof.Rows.slot_tuple_getitem ht.typeIs entry_tuple_getitem ?_ (args_tuple_getitem _ _)))
  show wpAny _ _ (Builtin.Tuple.tupleItemsOf (.ref t) >>= _) _ _ s
  refine wpAny_bind (tupleItemsOf_ ht ?_)
  refine wpAny_bind (wpAny_typeOf hTs ?_)
  rw [if_pos (by decide)]
  refine wpAny_bind (sliceApplied_gen hs pl pu ?_)
  have hno : ¬ ((((sIx items.size 0 lo : Nat) : Int) == 0 && (1 : Int) == 1 && (sIx items.size items.size hi - sIx items.size 0 lo) == items.size) = true) := by
    intro q
    rw [Bool.and_eq_true, Bool.and_eq_true] at q
    have q1 : ((sIx items.size 0 lo : Nat) : Int) = 0 := eq_of_beq q.1.1
    have q2 : sIx items.size items.size hi - sIx items.size 0 lo = items.size := eq_of_beq q.2
    exact hw ⟨by omega, by omega⟩
  show wpAny _ _ (if (((sIx items.size 0 lo : Nat) : Int) == 0 && (1 : Int) == 1 && (sIx items.size items.size hi - sIx items.size 0 lo) == items.size) = true then _ else _) _ _ s
  rw [if_neg hno, pick_gen]
  first
    | exact wpAny_bind (m := Builtin.Tuple.tupleExact _) (wpAny_newObj_type (wpAny_pure ⟨_, rfl, wpAny_pure h⟩) htake)
    | exact wpAny_bind (m := Builtin.Tuple.tupleExact _) (wpAny_newObj_type (wpAny_bind (wpAny_pure (wpAny_pure ⟨_, rfl, wpAny_pure h⟩))) htake)
    | exact wpAny_bind (wpAny_bind (m := Builtin.Tuple.tupleExact _) (wpAny_newObj_type (wpAny_pure (wpAny_pure ⟨_, rfl, wpAny_pure h⟩)) htake))
    | exact wpAny_bind (wpAny_bind (m := Builtin.Tuple.tupleExact _) (wpAny_newObj_type (wpAny_pure ⟨_, rfl, wpAny_pure h⟩) htake))
end
end HT

namespace L2
open PySem PySem.Spec PyProof.Rows

/-! ### the parts of a slice -/
noncomputable abbrev TO := St → Hp → (Option Int → Hp → Prop) → Prop
/-- a slice's part (left out, or an int) -/
noncomputable def PO (X : Cx) (e : Option Expr) (t : TO) : Prop :=
  ∀ (pins : List (Addr × Obj)) (s : Shared) (σ : St) (H : Hp) (Q : Option Int → Hp → Prop), Inv X pins σ H s → t σ H Q →
    wpAny (model X.prog X.w) X.A (evalPart e X.env) (fun u s' => ∃ o H', Inv X pins σ H' s' ∧ IsPart u o ∧ Q o H') X.xe s
noncomputable def tNoPart : TO := fun _ H Q => Q none H
noncomputable def tPart (t : TE) : TO := fun σ H Q => t σ H fun x H1 => ∃ i, x = .int i ∧ Q (some i) H1

section
variable {X : Cx} {e : Expr} {te : TE} {lo hi : Option Expr} {tl th : TO} {pos p2 : Pos}

theorem po_none : PO X none tNoPart := by
  intro pins s σ H Q I h
  rw [evalPart_none]
  exact wpAny_pure ⟨none, H, I, .none, h⟩
theorem po_some (h : PE X e te) : PO X (some e) (tPart te) := by
  intro pins s σ H Q I hw
  rw [evalPart_some]
  refine thn (h pins s σ H _ I hw) fun u s1 ⟨x, H1, I1, r1, q1⟩ => ?_
  obtain ⟨i, rfl, q⟩ := q1
  obtain ⟨t, rfl⟩ := r1
  exact ⟨some i, H1, I1, .int i t, q⟩

/-- what a slice of a value is, by values: the slice object stands at sl -/
noncomputable def SlR (X : Cx) (r : V → Option Int → Option Int → Hp → VK → Prop) : Prop :=
  ∀ (pins : List (Addr × Obj)) (s : Shared) (σ : St) (H : Hp) (x : V) (v vl vu : Value) (lo hi : Option Int) (sl : Addr) (Q : VK), Inv X pins σ H s → RelV x v → s.heap.IsSliceOf sl vl vu .none → IsPart vl lo → IsPart vu hi → r x lo hi H Q →
    ∃ T id, typeLookup (.type T) "__getitem__" = pure (some (.builtin id)) ∧ s.TypeIs v T ∧ wpAny (model X.prog X.w) X.A (getItem v (.ref sl)) (EP X pins σ Q) X.xe s
theorem SlR.or {r r' : V → Option Int → Option Int → Hp → VK → Prop} (h : SlR X r) (h' : SlR X r') : SlR X (fun x lo hi H Q => r x lo hi H Q ∨ r' x lo hi H Q) := by
  intro pins s σ H x v vl vu lo hi sl Q I rx hs pl pu q
  rcases q with q | q
  · exact h pins s σ H x v vl vu lo hi sl Q I rx hs pl pu q
  · exact h' pins s σ H x v vl vu lo hi sl Q I rx hs pl pu q
noncomputable def tSl (r : V → Option Int → Option Int → Hp → VK → Prop) (te : TE) (tl th : TO) : TE := fun σ H Q => te σ H fun x H1 => tl σ H1 fun l H2 => th σ H2 fun u H3 => r x l u H3 Q
/-- a[lo:hi], any a -/
theorem pe_slice {r : V → Option Int → Option Int → Hp → VK → Prop} (hr : SlR X r) (he : PE X e te) (hl : PO X lo tl) (hu : PO X hi th) : PE X (.Subscript e (.Slice lo hi none p2) pos) (tSl r te tl th) := by
  intro pins s σ H Q I h
  refine Subscript_ (thn (he pins s σ H _ I h) fun v s1 ⟨x, H1, I1, r1, q1⟩ => ?_)
  refine wpAny_Slice (thn (hl pins s1 σ H1 _ I1 q1) fun vl s2 ⟨l, H2, I2, pl, q2⟩ => thn (hu pins s2 σ H2 _ I2 q2) fun vu s3 ⟨u, H3, I3, pu, q3⟩ => ?_)
  rw [evalPart_none]
  refine wpAny_pure ?_
  have I4 : Inv X pins σ H3 { s3 with heap := s3.heap.push { cls := .type "slice", data := .fields #[vl, vu, .none] } } := I3.kept (t' := s3.toks) fun b ob q => Heap.get?_push_of_some _ q
  obtain ⟨T, id, hT, ht, hg⟩ := hr pins { s3 with heap := s3.heap.push { cls := .type "slice", data := .fields #[vl, vu, .none] } } σ H3 x v vl vu l u s3.heap.objs.size Q I4 r1 (Heap.IsSliceOf.new ..) pl pu q3
  show wpAny (model X.prog X.w) X.A (subscriptTail e (.Slice lo hi none p2) v (.ref s3.heap.objs.size)) (EP X pins σ Q) X.xe { s3 with heap := s3.heap.push { cls := .type "slice", data := .fields #[vl, vu, .none] } }
  exact tail_any (ops := [.ref s3.heap.objs.size, v]) ht hT hg (by with_unfolding_all rfl)

/-- the items of xs[lo:hi] -/
noncomputable def cutV (xs : List V) (lo hi : Option Int) : List V := (xs.drop (HT.sIx xs.length 0 lo)).take (HT.sIx xs.length xs.length hi - HT.sIx xs.length 0 lo)
theorem cutV_length (xs : List V) (lo hi : Option Int) : (cutV xs lo hi).length ≤ xs.length := by
  unfold cutV
  rw [List.length_take, List.length_drop]
  omega
/-- t[lo:hi], not the whole of it (the whole would be t itself) -/
noncomputable def rSlT (K : PySem.W.Frag) : V → Option Int → Option Int → Hp → VK → Prop := fun x lo hi H Q => ∃ a xs, x = .ref a ∧ SqT K H a xs ∧
  ¬ (HT.sIx xs.length 0 lo = 0 ∧ HT.sIx xs.length xs.length hi = xs.length) ∧ ∀ p, H p = none → Q (.ref p) (upd H p (.tup (cutV xs lo hi)))
theorem sl_tup : SlR X (rSlT X.K) := by
  intro pins s σ H x v vl vu lo hi sl Q I rx hs pl pu h
  obtain ⟨a, xs, rfl, hx, hw, q⟩ := h
  cases rx
  obtain ⟨its, r, ht, hz⟩ := I.tuple hx
  have hlen : its.toArray.size = xs.length := by rw [List.size_toArray]; exact r.length.symm
  refine ⟨"tuple", _, PyProof.Rows.slot_tuple_getitem.lookup, ht.typeIs, ?_⟩
  refine HT.getItem_tuple_cut ht hs pl pu (by rw [hlen]; exact hw) ?_ (by rw [hlen]; exact hz)
  rw [hlen]
  refine ⟨.ref s.heap.objs.size, _, I.laid (t' := s.toks) (o := .tup (cutV xs lo hi)) (fun b ob q => Heap.get?_push_of_some _ q) (Nat.le_refl _) ?_, rfl, q _ (I.hok.fresh (Nat.le_refl _))⟩
  exact ⟨Nat.le_trans (cutV_length xs lo hi) hz, _, (r.drop (HT.sIx xs.length 0 lo)).take (HT.sIx xs.length xs.length hi - HT.sIx xs.length 0 lo), IsTup.new _ _⟩

/-! ### t < u, t + u -/
/-- t + u, t not empty: u empty gives t itself -/
noncomputable def rCatT (K : PySem.W.Frag) : R2 := fun x y H Q => ∃ a b xs ys, x = .ref a ∧ y = .ref b ∧ SqT K H a xs ∧ SqT K H b ys ∧ xs ≠ [] ∧ xs.length + ys.length ≤ sizeLine ∧
  (ys = [] → Q (.ref a) H) ∧ (ys ≠ [] → ∀ p, H p = none → Q (.ref p) (upd H p (.tup (xs ++ ys))))
theorem Vals.nil_iff {xs : List V} {us : List Value} (r : Vals xs us) : us = [] ↔ xs = [] := by
  cases r with
  | nil => simp
  | cons _ _ => simp
theorem op_catT : OpR X (binaryOp .Add) (rCatT X.K) := by
  intro pins s σ H x y v u Q I rx ry h
  obtain ⟨a, b, xs, ys, rfl, rfl, ha, hb, hx, hz, q1, q2⟩ := h
  cases rx
  cases ry
  obtain ⟨its, r1, p1, _⟩ := I.tuple ha
  obtain ⟨its2, r2, p2, _⟩ := I.tuple hb
  refine HT.cat_tup p1 p2 (fun z => hx (r1.nil_iff.mp z)) (fun z => ⟨.ref a, H, I, rfl, q1 (r2.nil_iff.mp z)⟩) (fun z => ?_) (by rw [← r1.length, ← r2.length]; exact hz)
  refine ⟨.ref s.heap.objs.size, _, I.laid (t' := s.toks) (o := .tup (xs ++ ys)) (fun b ob q => Heap.get?_push_of_some _ q) (Nat.le_refl _) ?_, rfl, q2 (fun w => z (r2.nil_iff.mpr w)) _ (I.hok.fresh (Nat.le_refl _))⟩
  exact ⟨by rw [List.length_append]; exact hz, _, r1.append r2, IsTup.new _ _⟩
end
end L2

namespace L2
open PySem PySem.Spec PyProof.Rows

/-! ### places -/
/-- the place that an index of any sign means -/
noncomputable def ixN (n : Nat) (i : Int) : Option Nat := if 0 ≤ i then (if i < n then some i.toNat else none) else if -(n : Int) ≤ i then some (i + n).toNat else none
noncomputable def atI {α : Type} (xs : List α) (i : Int) : Option α := (ixN xs.length i).bind fun j => xs[j]?
theorem ixN_seq {n : Nat} {i : Int} {j : Nat} (h : ixN n i = some j) : seqIndex? i n = some j ∧ j < n ∧ -(n : Int) ≤ i ∧ i < n := by
  unfold ixN at h
  by_cases h0 : 0 ≤ i
  · rw [if_pos h0] at h
    by_cases h1 : i < n
    · rw [if_pos h1] at h
      have e : i.toNat = j := Option.some.inj h
      exact ⟨by rw [seqIndex_of h0 h1, e], by omega, by omega, h1⟩
    · rw [if_neg h1] at h; cases h
  · rw [if_neg h0] at h
    by_cases h1 : -(n : Int) ≤ i
    · rw [if_pos h1] at h
      have e : (i + n).toNat = j := Option.some.inj h
      exact ⟨by rw [seqIndex_neg (by omega) h1, e], by omega, h1, by omega⟩
    · rw [if_neg h1] at h; cases h
theorem atI_get {α : Type} {xs : List α} {i : Int} {v : α} (h : atI xs i = some v) : ∃ j, seqIndex? i xs.length = some j ∧ xs[j]? = some v ∧ j < xs.length ∧ -(xs.length : Int) ≤ i ∧ i < xs.length := by
  unfold atI at h
  cases e : ixN xs.length i with
  | none => rw [e] at h; cases h
  | some j =>
    rw [e] at h
    obtain ⟨h1, h2, h3, h4⟩ := ixN_seq e
    exact ⟨j, h1, h, h2, h3, h4⟩
theorem atI_nat {α : Type} {xs : List α} {j : Nat} {v : α} (h : xs[j]? = some v) : atI xs (j : Int) = some v := by
  have hj : j < xs.length := (List.getElem?_eq_some_iff.mp h).1
  have e : ixN xs.length (j : Int) = some j := by
    unfold ixN
    rw [if_pos (by omega), if_pos (by omega)]; simp
  unfold atI; rw [e]; exact h
/-! ### what may be subscripted -/
/-- what stands as an index of a plain subscript -/
noncomputable def PlainIx (b : Expr) : Prop := ∀ o i, subscripted b false o i = operate [o, i] (getItem o i)
/-- a subscript by values -/
noncomputable def IxR (X : Cx) (r : R2) : Prop :=
  ∀ (value slice : Expr) (pins : List (Addr × Obj)) (s : Shared) (σ : St) (H : Hp) (x y : V) (v u : Value) (Q : VK), Inv X pins σ H s → RelV x v → RelV y u → r x y H Q →
    subscripted slice false v u = operate [v, u] (getItem v u) → wpAny (model X.prog X.w) X.A (subscriptTail value slice v u) (EP X pins σ Q) X.xe s
/-- a call of a builtin's method by values: the receiver, the arguments -/
noncomputable def MtR (X : Cx) (id : String) (r : V → List V → Hp → VK → Prop) : Prop :=
  ∀ (pins : List (Addr × Obj)) (s : Shared) (σ : St) (H : Hp) (x : V) (xs : List V) (v : Value) (us : List Value) (Q : VK), Inv X pins σ H s → RelV x v → Vals xs us → r x xs H Q →
    wpAny (model X.prog X.w) X.A (call (.builtin id) (v :: us)) (EP X pins σ Q) X.xe s
section
variable {X : Cx} {a b : Expr} {ta tb : TE} {pos : Pos}
theorem IxR.or {r r' : R2} (h : IxR X r) (h' : IxR X r') : IxR X (fun x y H Q => r x y H Q ∨ r' x y H Q) := by
  intro value slice pins s σ H x y v u Q I rx ry q hs
  rcases q with q | q
  · exact h value slice pins s σ H x y v u Q I rx ry q hs
  · exact h' value slice pins s σ H x y v u Q I rx ry q hs
/-- a[b] -/
theorem pe_ix {r : R2} (hr : IxR X r) (ha : PE X a ta) (hb : PE X b tb) (hs : PlainIx b) : PE X (.Subscript a b pos) (tOp r ta tb) := by
  intro pins s σ H Q I h
  exact Subscript_ (binT ha hb I h fun v u s2 x y H2 I2 rx ry q => hr a b pins s2 σ H2 x y v u Q I2 rx ry q (hs _ _))

noncomputable def rIxL (K : PySem.W.Frag) : R2 := fun x y H Q => ∃ p xs i v, x = .ref p ∧ y = .int i ∧ SqL K H p xs ∧ atI xs i = some v ∧ Q v H
noncomputable def rIxT (K : PySem.W.Frag) : R2 := fun x y H Q => ∃ p xs i v, x = .ref p ∧ y = .int i ∧ SqT K H p xs ∧ atI xs i = some v ∧ Q v H
noncomputable def rIxS : R2 := fun x y H Q => ∃ z i c, x = .str z ∧ y = .int i ∧ z.length ≤ sizeLine ∧ atI z.cps.toList i = some c ∧ Q (.str ⟨#[c]⟩) H
theorem ix_list : IxR X (rIxL X.K) := by
  intro value slice pins s σ H x y v u Q I rx ry h hs
  obtain ⟨p, xs, i, z, rfl, rfl, hq, he, q⟩ := h
  cases rx
  obtain ⟨t, rfl⟩ := ry
  obtain ⟨its, r, pl, hz⟩ := I.list hq
  obtain ⟨j, h1, h2, h3, h4, h5⟩ := atI_get he
  obtain ⟨w, ew, rw'⟩ := r.get h2
  have hl := r.length
  have hn := line63
  have fin : EP X pins σ Q w s := ⟨z, H, I, rw', q⟩
  by_cases h0 : 0 ≤ i
  · have hj : i.toNat = j := by
      rw [seqIndex_of h0 h5] at h1
      exact Option.some.inj h1
    exact item_listR pl.isList h0 (by omega) (by rw [hj]; simpa using ew) fin hs
  · have hj : (i + (its.toArray.size : Int)).toNat = j := by
      rw [seqIndex_neg (by omega) h4] at h1
      rw [List.size_toArray, ← hl]
      exact Option.some.inj h1
    exact subscriptTail_builtinR (x := w) pl.isList.typeIs slot_list_getitem.lookup
      (wpAny_getItem_list_neg (Q := fun r s' => r = w ∧ EP X pins σ Q r s') pl.isList (by omega) (by rw [List.size_toArray] <;> omega) (by omega) (by rw [hj]; simpa using ew) ⟨rfl, fin⟩) hs
theorem ix_tup : IxR X (rIxT X.K) := by
  intro value slice pins s σ H x y v u Q I rx ry h hs
  obtain ⟨p, xs, i, z, rfl, rfl, hq, he, q⟩ := h
  cases rx
  obtain ⟨t, rfl⟩ := ry
  obtain ⟨its, r, pl, hz⟩ := I.tuple hq
  obtain ⟨j, h1, h2, h3, h4, h5⟩ := atI_get he
  obtain ⟨w, ew, rw'⟩ := r.get h2
  have hl := r.length
  have hn := line63
  have fin : EP X pins σ Q w s := ⟨z, H, I, rw', q⟩
  exact subscriptTail_builtinR (x := w) pl.typeIs slot_tuple_getitem.lookup
    (getItem_tuple (j := j) (Q := fun r s' => r = w ∧ EP X pins σ Q r s') pl (by omega) (by omega) (by rw [List.size_toArray, ← hl]; exact h1) (by simpa using ew) ⟨rfl, fin⟩) hs
theorem ix_str : IxR X rIxS := by
  intro value slice pins s σ H x y v u Q I rx ry h hs
  obtain ⟨z, i, c, rfl, rfl, hz, he, q⟩ := h
  obtain ⟨t, rfl⟩ := rx
  obtain ⟨t', rfl⟩ := ry
  obtain ⟨j, h1, h2, h3, h4, h5⟩ := atI_get he
  have hl : z.cps.toList.length = z.length := by simp [Str.length]
  rw [hl] at h1 h4 h5
  have hn := line63
  exact tail_any (typeIs_str s z t) slot_str_getitem.lookup (getItem_str (c := c) (by
    have e1 : decide (i < -(2 ^ 63 : Int)) = false := decide_eq_false (by omega)
    have e2 : decide (i ≥ 2 ^ 63) = false := decide_eq_false (by omega)
    rw [e1, e2, Bool.or_false]) (by rw [h1]; simpa using h2) ⟨.str ⟨#[c]⟩, H, I.tok _, ⟨_, rfl⟩, q⟩) hs
/-- list, tuple or str -/
noncomputable def rIx (K : PySem.W.Frag) : R2 := fun x y H Q => rIxL K x y H Q ∨ rIxT K x y H Q ∨ rIxS x y H Q
theorem ix_seq : IxR X (rIx X.K) := ix_list.or (ix_tup.or ix_str)

/-! ### xs[i] = v, any sign -/
/-! ### slices -/
theorem slice_bounds (lo hi : Option Int) (n : Nat) : (sliceBounds lo hi none n).1 = ((HT.sIx n 0 lo : Nat) : Int) ∧ (sliceBounds lo hi none n).2.1 = ((HT.sIx n n hi : Nat) : Int) ∧ (sliceBounds lo hi none n).2.2 = 1 := by
  refine ⟨?_, ?_, rfl⟩
  · cases lo with
    | none => simp [sliceBounds, HT.sIx]
    | some i =>
      simp only [sliceBounds, HT.sIx, Option.getD_none, show (1 : Int) > 0 by decide, if_true]
      by_cases h : i < 0
      · simp only [h, if_true] <;> omega
      · simp only [h, if_false] <;> omega
  · cases hi with
    | none => simp [sliceBounds, HT.sIx]
    | some i =>
      simp only [sliceBounds, HT.sIx, Option.getD_none, show (1 : Int) > 0 by decide, if_true]
      by_cases h : i < 0
      · simp only [h, if_true] <;> omega
      · simp only [h, if_false] <;> omega
theorem slicePick_cut (its : List Value) (lo hi : Option Int) : slicePick its.toArray lo hi none = ((its.drop (HT.sIx its.length 0 lo)).take (HT.sIx its.length its.length hi - HT.sIx its.length 0 lo)).toArray := by
  obtain ⟨h1, h2, h3⟩ := slice_bounds lo hi its.toArray.size
  unfold slicePick
  rw [h1, h2, h3]
  simp only [sliceRange_one, pick_run, List.size_toArray] <;> rfl
/-- xs[lo:hi] of a list: a new list -/
noncomputable def rSlL (K : PySem.W.Frag) : V → Option Int → Option Int → Hp → VK → Prop := fun x lo hi H Q => ∃ a xs, x = .ref a ∧ SqL K H a xs ∧ ∀ p, H p = none → Q (.ref p) (upd H p (.lst (cutV xs lo hi)))
theorem sl_list : SlR X (rSlL X.K) := by
  intro pins s σ H x v vl vu lo hi sl Q I rx hs pl pu h
  obtain ⟨a, xs, rfl, hx, q⟩ := h
  cases rx
  obtain ⟨its, r, ht, hz⟩ := I.list hx
  have hlen := r.length
  refine ⟨"list", _, slot_list_getitem.lookup, ht.isList.typeIs, ?_⟩
  refine wpAny_getItem_list_slice ht.isList hs pl pu .none (by simp) ?_ (by rw [List.size_toArray] <;> omega)
  rw [slicePick_cut, ← hlen]
  refine ⟨.ref s.heap.objs.size, _, I.laid (t' := s.toks) (o := .lst (cutV xs lo hi)) (fun b ob q => Heap.get?_push_of_some _ q) (Nat.le_refl _) ?_, rfl, q _ (I.hok.fresh (Nat.le_refl _))⟩
  exact ⟨Nat.le_trans (cutV_length xs lo hi) hz, _, 0, (r.drop (HT.sIx xs.length 0 lo)).take (HT.sIx xs.length xs.length hi - HT.sIx xs.length 0 lo), Heap.get?_push_size _ rfl⟩

/-! ### in, not in: flat items -/
noncomputable def flatV : V → Bool
  | .non => true
  | .bl _ => true
  | .int _ => true
  | .str _ => true
  | _ => false
/-- == of flat values -/
noncomputable def eqV : V → V → Bool
  | .non, .non => true
  | .bl a, .bl b => a == b
  | .bl a, .int b => (if a then 1 else 0) == b
  | .int a, .bl b => a == (if b then 1 else 0)
  | .int a, .int b => a == b
  | .str a, .str b => a == b
  | _, _ => false
theorem eqAt_V {A : Around} {s : Shared} {y x : V} {u v : Value} (ry : RelV y u) (rx : RelV x v) (fy : flatV y = true) (fx : flatV x = true) : SeqAt.EqAt A s u v (eqV y x) := by
  cases y with
  | non =>
    cases ry
    cases x with
    | non => cases rx; exact SeqAt.EqAt.same _
    | bl b => cases rx; exact SeqAt.EqAt.none_bool b
    | int b => obtain ⟨t, rfl⟩ := rx; exact SeqAt.EqAt.none_int b t
    | str b => obtain ⟨t, rfl⟩ := rx; exact SeqAt.EqAt.none_str b t
    | _ => exact absurd (show false = true from fx) Bool.false_ne_true
  | bl a =>
    cases ry
    cases x with
    | non => cases rx; exact SeqAt.EqAt.bool_none a
    | bl b => cases rx; exact SeqAt.EqAt.bool_bool a b
    | int b => obtain ⟨t, rfl⟩ := rx; exact SeqAt.EqAt.bool_int a b t
    | str b => obtain ⟨t, rfl⟩ := rx; exact SeqAt.EqAt.bool_str a b t
    | _ => exact absurd (show false = true from fx) Bool.false_ne_true
  | int a =>
    obtain ⟨t', rfl⟩ := ry
    cases x with
    | non => cases rx; exact SeqAt.EqAt.int_none a t'
    | bl b => cases rx; exact SeqAt.EqAt.int_bool a t' b
    | int b => obtain ⟨t, rfl⟩ := rx; exact SeqAt.EqAt.int_int a t' b t
    | str b => obtain ⟨t, rfl⟩ := rx; exact SeqAt.EqAt.int_str a t' b t
    | _ => exact absurd (show false = true from fx) Bool.false_ne_true
  | str a =>
    obtain ⟨t', rfl⟩ := ry
    cases x with
    | non => cases rx; exact SeqAt.EqAt.str_none a t'
    | bl b => cases rx; exact SeqAt.EqAt.str_bool a t' b
    | int b => obtain ⟨t, rfl⟩ := rx; exact SeqAt.EqAt.str_int a t' b t
    | str b => obtain ⟨t, rfl⟩ := rx; exact SeqAt.EqAt.str_str a t' b t
    | _ => exact absurd (show false = true from fx) Bool.false_ne_true
  | _ => exact absurd (show false = true from fy) Bool.false_ne_true
/-! ### len, list(x), tuple(x) of any list or tuple that is read -/
theorem call_tuple_of : CallR X (.type "tuple") (fun xs H Q => ∃ p ys, xs = [.ref p] ∧ ((SqL X.K H p ys ∧ ∀ l, H l = none → Q (.ref l) (upd H l (.tup ys))) ∨ (SqT X.K H p ys ∧ Q (.ref p) H))) := by
  intro pins s σ H xs us Q I r h
  obtain ⟨p, ys, rfl, h⟩ := h
  obtain ⟨u, rfl, rx⟩ := vals1 r
  cases rx
  rcases h with ⟨hq, q⟩ | ⟨hq, q⟩
  · obtain ⟨its, r', pl, hz⟩ := I.list hq
    have hlen := r'.length
    refine call_tuple_list pl.isList (fun h' kp => ?_) (by simp only [List.size_toArray] <;> omega)
    have I1 : Inv X pins σ H { s with heap := h' } := I.kept (t' := s.toks) kp
    have I2 : Inv X pins σ (upd H h'.objs.size (.tup ys)) { s with heap := h'.push { cls := .type "tuple", data := .seq its.toArray } } :=
      I1.laid (t' := s.toks) (fun b o e => Heap.get?_push_of_some _ e) (Nat.le_refl _) (show ObjOk X.prog X.w _ _ _ (.tup ys) from ⟨hz, its, r', IsTup.new _ _⟩)
    exact ⟨.ref h'.objs.size, _, I2, rfl, q _ (I1.hok.fresh (Nat.le_refl _))⟩
  · obtain ⟨its, r', pl, hz⟩ := I.tuple hq
    exact call_tuple_same pl ⟨.ref p, H, I, rfl, q⟩

/-! ### the call of a builtin's method: o.m(..) -/
/-- the value is of that builtin type -/
noncomputable def tyV (K : PySem.W.Frag) (T : String) (x : V) (H : Hp) : Prop := match x with
  | .str _ => T = "str"
  | .int _ => T = "int"
  | .ref p => (T = "list" ∧ ∃ xs, SqL K H p xs) ∨ (T = "tuple" ∧ ∃ o, K.lookup p = some o ∧ o.cls = .type "tuple" ∧ o.dict = none) ∨
      (T = "dict" ∧ ((∃ kvs, H p = some (.dK kvs)) ∨ ∃ kvs, H p = some (.dT kvs))) ∨ (T = "set" ∧ ∃ S n, H p = some (.set S n))
  | _ => False
theorem tyV_is {pins : List (Addr × Obj)} {σ : St} {H : Hp} {s : Shared} {T : String} {x : V} {v : Value} (I : Inv X pins σ H s) (r : RelV x v) (ty : tyV X.K T x H) :
    s.TypeIs v T ∧ ∀ a, v = .ref a → ∃ ob, s.heap.get? a = some ob ∧ ob.dict = none := by
  cases x with
  | str z =>
    obtain ⟨t, rfl⟩ := r
    cases (show T = "str" from ty)
    exact ⟨typeIs_str s z t, fun _ e => nomatch e⟩
  | int i =>
    obtain ⟨t, rfl⟩ := r
    cases (show T = "int" from ty)
    exact ⟨typeIs_int s i t, fun _ e => nomatch e⟩
  | ref p =>
    cases r
    rcases ty with ⟨rfl, xs, hq⟩ | ⟨rfl, o, hk, hc, hd⟩ | ⟨rfl, hk⟩ | ⟨rfl, S, n, hk⟩
    · obtain ⟨its, _, pl, _⟩ := I.list hq
      refine ⟨pl.isList.typeIs, fun a e => ?_⟩
      cases e
      obtain ⟨o, n, e, c, hd, _⟩ := pl
      exact ⟨o, e, hd⟩
    · refine ⟨⟨o, I.kIn p o hk, hc⟩, fun a e => ?_⟩
      cases e
      exact ⟨o, I.kIn _ o hk, hd⟩
    · have z : ∃ o, s.heap.get? p = some o ∧ o.ExactDict := by
        rcases hk with ⟨kvs, hk⟩ | ⟨kvs, hk⟩
        · obtain ⟨_, _, _, _, o, _, _, e, ex, _⟩ := I.hok p _ hk
          exact ⟨o, e, ex⟩
        · obtain ⟨_, _, _, _, o, _, _, e, ex, _⟩ := I.hok p _ hk
          exact ⟨o, e, ex⟩
      obtain ⟨o, e, ex⟩ := z
      refine ⟨⟨o, e, ex.1⟩, fun a e2 => ?_⟩
      cases e2
      exact ⟨o, e, ex.2.1⟩
    · obtain ⟨o, _, _, _, e, ex, _⟩ := I.hok p _ hk
      refine ⟨⟨o, e, ex.1⟩, fun a e2 => ?_⟩
      cases e2
      exact ⟨o, e, ex.2.1⟩
  | _ => exact False.elim ty
noncomputable def tBM (K : PySem.W.Frag) (T : String) (r : V → List V → Hp → VK → Prop) (to : TE) (t : TA) : TE := fun σ H Q => to σ H fun x H1 => tyV K T x H1 ∧ t σ H1 fun xs H2 => r x xs H2 Q
variable {o e : Expr} {es : List Expr} {to : TE} {t : TA} {name : Str} {apos cpos : Pos} {T id : String} {r : V → List V → Hp → VK → Prop}
theorem pe_bm (pa : PlainAttrs T) (slot : Slot T name id) (hty : typeOf (.builtin id) = pure (.type "method_descriptor")) (hm : MtR X id r) (ho : PE X o to) (ha : PA X (e :: es) t)
    (hbase : attributeBase o name X.env (eval o X.env) = eval o X.env := by rfl)
    (hfew : ((backTo cpos (starEach (e :: es) X.env)).all (fun x => !x.1) && (backToKw cpos (keywordEach [] X.env)).all (fun x => x.1.isSome)
      && decide ((e :: es).length + ([] : List Keyword).length + (if ([] : List Keyword).isEmpty then 0 else 1) < 30)) = true := by rfl)
    (hline : (apos.endLine == cpos.line) = true := by rfl) (hs : starEach (e :: es) X.env = (false, eval e X.env) :: starEach es X.env := by rfl) (hplain : (backTo cpos (starEach es X.env)).any (·.1) = false := by rfl) :
    PE X (.Call (.Attribute o name apos) (e :: es) [] cpos) (tBM X.K T r to t) := by
  intro pins s σ H Q I h
  refine wpAny_Call_method_late hbase hfew hline rfl (thn (ho pins s σ H _ I h) fun v s1 ⟨x, H1, I1, r1, ty, q1⟩ => ?_)
  obtain ⟨h1, h2⟩ := tyV_is I1 r1 ty
  refine ⟨T, id, pa, slot, hty, h1, h2, ?_⟩
  have hA := ha cpos pins s1 σ H1 _ I1 q1
  rw [hs] at hA ⊢
  refine Calls.callWith_builtin (by show (false || (backTo cpos (starEach es X.env)).any (·.1)) = false; rw [hplain] <;> rfl) (Calls.evalArgs_plain ?_)
  exact thn hA fun us s2 ⟨vs, H2, I2, r2, q2⟩ => hm pins s2 σ H2 x vs v us Q I2 r1 r2 q2
/- xs.append(e), list.index on a module's tuple .. are MtR facts of 06m -/
end
end L2

namespace L2
open PySem PySem.Spec PyProof.Rows

noncomputable def MtM (X : Cx) (id : String) (r : V → List V → Hp → VK → Prop) : Prop :=
  ∀ (pins : List (Addr × Obj)) (s : Shared) (σ : St) (H : Hp) (x : V) (xs : List V) (v : Value) (us : List Value) (Q : VK), Inv X pins σ H s → RelV x v → Vals xs us → r x xs H Q →
    wpAny (model X.prog X.w) X.A (call (.builtin id) (v :: us)) (EP X pins σ Q) X.xe s

/-! ### lists of values -/
theorem Vals.one : ∀ {x : V} {us : List Value}, Vals [x] us → ∃ u, us = [u] ∧ RelV x u
  | _, _, .cons r .nil => ⟨_, rfl, r⟩
theorem Vals.two : ∀ {x y : V} {us : List Value}, Vals [x, y] us → ∃ u v, us = [u, v] ∧ RelV x u ∧ RelV y v
  | _, _, _, .cons r (.cons q .nil) => ⟨_, _, rfl, r, q⟩
theorem Vals.rep {xs : List V} {us : List Value} (h : Vals xs us) : ∀ k : Nat, Vals (List.replicate k xs).flatten (List.replicate k us).flatten
  | 0 => .nil
  | k + 1 => by
    rw [List.replicate_succ, List.replicate_succ, List.flatten_cons, List.flatten_cons]
    exact Vals.append h (Vals.rep h k)
theorem foldl_rep (its : List Value) : ∀ (k : Nat) (acc : List Value),
    List.foldl (fun x1 x2 => x1 ++ x2) acc.toArray (List.replicate k its.toArray) = (acc ++ (List.replicate k its).flatten).toArray
  | 0, acc => by simp
  | k + 1, acc => by
    have e : acc.toArray ++ its.toArray = (acc ++ its).toArray := by simp
    have e2 : (acc ++ its) ++ (List.replicate k its).flatten = acc ++ (List.replicate (k + 1) its).flatten := by
      rw [List.replicate_succ, List.flatten_cons, List.append_assoc]
    rw [← e2, ← foldl_rep its k (acc ++ its), ← e, List.replicate_succ, List.foldl_cons]

section
variable {X : Cx} {pins : List (Addr × Obj)} {σ : St} {H : Hp} {s : Shared} {l b : Addr} {xs ys zs : List V}

/-! ### the two steps: a tracked list is rewritten, a new list is laid -/
theorem Inv.lset {its its' : List Value} {n : Nat} {f : Array Value → Array Value} {t' : Nat} (I : Inv X pins σ H s) (hH : H l = some (.lst xs))
    (e : s.heap.get? l = some { cls := .type "list", data := .seq its.toArray n }) (hf : f its.toArray = its'.toArray) (hv : Vals ys its') (hz : ys.length ≤ sizeLine) :
    Inv X pins σ (upd H l (.lst ys)) { s with heap := s.heap.update l (Obj.mapSeq f), toks := t' } := by
  have q := PySem.IsL.update e f
  rw [hf] at q
  refine I.write (x := l) (e := l) (by rw [hH]; exact trivial) (.inl rfl) (fun b' u hb hu => (Heap.get?_update_other s.heap (Obj.mapSeq f) (Ne.symm hb)).trans hu) ⟨_, q⟩ ?_
  exact ⟨hz, its', _, hv, q⟩
theorem Inv.lnew {its : List Value} {t' : Nat} (I : Inv X pins σ H s) (hv : Vals ys its) (hz : ys.length ≤ sizeLine) :
    Inv X pins σ (upd H s.heap.objs.size (.lst ys)) { s with heap := s.heap.push { cls := .type "list", data := .seq its.toArray }, toks := t' } :=
  I.laid (fun _ _ q => Heap.get?_push_of_some _ q) (Nat.le_refl _) ⟨hz, its, 0, hv, Heap.get?_push_size _ rfl⟩
theorem Inv.fresh (I : Inv X pins σ H s) : H s.heap.objs.size = none := I.hok.fresh (Nat.le_refl _)
theorem Inv.lstM (I : Inv X pins σ H s) (hH : H l = some (.lst xs)) : xs.length ≤ sizeLine ∧ ∃ (its : List Value) (n : Nat), Vals xs its ∧ xs.length = its.length ∧ s.heap.get? l = some { cls := .type "list", data := .seq its.toArray n } := by
  obtain ⟨z, its, n, r, e⟩ := I.hok l _ hH
  exact ⟨z, its, n, r, r.length, e⟩

theorem notLongL {n : Nat} (h : n ≤ sizeLine) : Builtin.List.listTooLong n = false := by
  unfold Builtin.List.listTooLong
  exact decide_eq_false (by omega)
end

section
variable {X : Cx}

/-! ### methods -/
noncomputable def rAppend : V → List V → Hp → VK → Prop := fun x vs H Q => ∃ l xs y, x = .ref l ∧ vs = [y] ∧ H l = some (.lst xs) ∧ xs.length < sizeLine ∧ Q .non (upd H l (.lst (xs ++ [y])))
theorem mt_append : MtM X "list.append" rAppend := by
  intro pins s σ H x vs v us Q I rx rv h
  obtain ⟨l, xs, y, rfl, rfl, hH, hz, q⟩ := h
  cases rx
  obtain ⟨u, rfl, ru⟩ := rv.one
  obtain ⟨z, its, n, r, hl, e⟩ := I.lstM hH
  refine call_meets F.slot_list_append ⟨_, e, rfl⟩ F.entry_list_append (F.args_list_append_2 _ _) (PySem.list_append l its.toArray n u (by rw [List.size_toArray]; omega)) ⟨e, ?_⟩
  refine ⟨.non, _, I.lset (its' := its ++ [u]) hH e (by simp) (r.append (.cons ru .nil)) ?_, rfl, q⟩
  rw [List.length_append, List.length_singleton]
  omega

/-! ### list + list, list += list, list * int -/
noncomputable def rCat : R2 := fun x y H Q => ∃ l b xs zs, x = .ref l ∧ y = .ref b ∧ H l = some (.lst xs) ∧ H b = some (.lst zs) ∧ xs.length + zs.length ≤ sizeLine ∧ ∀ p, H p = none → Q (.ref p) (upd H p (.lst (xs ++ zs)))
theorem op_cat : OpR X (binaryOp .Add) rCat := by
  intro pins s σ H x y v u Q I rx ry h
  obtain ⟨l, b, xs, zs, rfl, rfl, hH, hB, hz, q⟩ := h
  cases rx
  cases ry
  obtain ⟨z, its, n, r, hl, e⟩ := I.lstM hH
  obtain ⟨z2, its2, n2, r2, hl2, e2⟩ := I.lstM hB
  refine PySem.P.add_list e e2 ?_ (by rw [List.size_toArray, List.size_toArray]; omega)
  have ea : its.toArray ++ its2.toArray = (its ++ its2).toArray := by simp
  rw [ea]
  exact ⟨.ref _, _, I.lnew (t' := s.toks) (r.append r2) (by rw [List.length_append]; omega), rfl, q _ I.fresh⟩
/-- a list times an int (a negative one is nothing) -/
noncomputable def rRep : R2 := fun x y H Q => ∃ l k xs, x = .ref l ∧ y = .int k ∧ H l = some (.lst xs) ∧ -(2 ^ 63) ≤ k ∧ k < 2 ^ 63 ∧ xs.length * k.toNat ≤ sizeLine ∧
  ∀ p, H p = none → Q (.ref p) (upd H p (.lst (List.replicate k.toNat xs).flatten))
theorem len_rep {α : Type} (xs : List α) (k : Nat) : (List.replicate k xs).flatten.length = k * xs.length := by
  induction k with
  | zero => simp
  | succ k ih => rw [List.replicate_succ, List.flatten_cons, List.length_append, ih, Nat.succ_mul, Nat.add_comm]
theorem op_rep : OpR X (binaryOp .Mult) rRep := by
  intro pins s σ H x y v u Q I rx ry h
  obtain ⟨l, k, xs, rfl, rfl, hH, h1, h2, hz, q⟩ := h
  cases rx
  obtain ⟨t, rfl⟩ := ry
  obtain ⟨z, its, n, r, hl, e⟩ := I.lstM hH
  have hlen : its.toArray.size * k.toNat ≤ sizeLine := by rw [List.size_toArray, ← hl]; exact hz
  have hcap : ¬ its.toArray.size * k.toNat > (2 ^ 63 - 1) / 8 := by
    have : (sizeLine : Nat) ≤ (2 ^ 63 - 1) / 8 := by decide
    omega
  have hfit : ¬ (!Builtin.List.listFitsIndex k) = true := by
    rw [fitsIndex_both h1 h2]
    exact Bool.false_ne_true
  have hlong : ¬ Builtin.List.listTooLong (its.toArray.size * k.toNat) = true := by
    rw [notLongL hlen]
    exact Bool.false_ne_true
  have hnew : List.foldl (fun x1 x2 => x1 ++ x2) #[] (List.replicate (if its.toArray.isEmpty = true then 0 else k.toNat) its.toArray) = (List.replicate k.toNat its).flatten.toArray := by
    have f0 : ∀ m : Nat, List.foldl (fun x1 x2 => x1 ++ x2) #[] (List.replicate m its.toArray) = (List.replicate m its).flatten.toArray := fun m => by
      have := foldl_rep its m []
      rw [List.nil_append] at this
      exact this
    rw [f0]
    cases its with
    | nil => simp
    | cons a r' => rw [if_neg (by simp)]
  refine wpAny_binaryOp_repeat_ref (T := "list") (U := "int") (by decide) ⟨_, e, rfl⟩ (fun s' => typeIs_int s' k t) noFill_list_mul F.fills_int_mul F.slot_int_rmul repeat_list F.slot_int_index.lookup
    (call_meets F.slot_int_rmul (typeIs_int s k t) F.entry_int_rmul (F.args_int_rmul_2 _ _) (int___rmul___int_list k t l its.toArray n)
      ⟨e, rfl, ⟨_, e, rfl⟩, call_meets F.slot_list_mul ⟨_, e, rfl⟩ F.entry_list_mul (F.args_list_mul_2 _ _) (AutoListH.list___mul___list_int_3 l its.toArray n k t hfit hcap hlong) ⟨e, ?_⟩⟩)
  rw [hnew]
  exact ⟨.ref _, _, I.lnew (t' := s.toks) (r.rep k.toNat) (by rw [len_rep, Nat.mul_comm]; exact hz), rfl, q _ I.fresh⟩

/-! ### del xs[i] -/
end

/-! ### xs[a:b] = ys -/
section
variable {prog : Program} {w : World} {A : Around} {E : Value → Shared → Prop} {s : Shared}
end

section
variable {X : Cx}
end
end L2

namespace L2
open PySem PySem.Spec PyProof.Rows

/-! ### lists of pairs as tables -/
section
variable {κ : Type} [DecidableEq κ]
noncomputable def valV (kvs : List (κ × V)) (k : κ) : Option V := (kvs.find? fun kv => decide (kv.1 = k)).map (·.2)
/-- in its place, or at the end -/
noncomputable def putK (kvs : List (κ × V)) (k : κ) (v : V) : List (κ × V) :=
  if (kvs.any fun kv => decide (kv.1 = k)) = true then kvs.map (fun kv => if kv.1 = k then (kv.1, v) else kv) else kvs ++ [(k, v)]
theorem valV_pos {p : κ × V} {r : List (κ × V)} {k : κ} (e : p.1 = k) : valV (p :: r) k = some p.2 := by simp [valV, List.find?_cons, e]
theorem valV_neg {p : κ × V} {r : List (κ × V)} {k : κ} (e : ¬ p.1 = k) : valV (p :: r) k = valV r k := by simp [valV, List.find?_cons, e]
theorem length_putK (kvs : List (κ × V)) (k : κ) (v : V) : (putK kvs k v).length ≤ kvs.length + 1 := by
  unfold putK
  split
  · rw [List.length_map]; omega
  · rw [List.length_append, List.length_cons, List.length_nil]; omega
/-- raw tables of the same keys -/
theorem KV.val {kvs : List (κ × V)} {vs : List (κ × Value)} (r : KV kvs vs) (k : κ) : RelO (valV kvs k) (valueAt vs k) := by
  unfold KV at r
  induction r with
  | nil => exact True.intro
  | @cons p q ps qs h t ih =>
    obtain ⟨h1, h2⟩ := h
    by_cases e : p.1 = k
    · have e' : q.1 = k := h1.symm.trans e
      have b : valueAt (q :: qs) k = some q.2 := by simp [valueAt, List.find?_cons, e']
      rw [valV_pos e, b]; exact h2
    · have e' : ¬ q.1 = k := fun z => e (h1.trans z)
      have b : valueAt (q :: qs) k = valueAt qs k := by simp [valueAt, List.find?_cons, e']
      rw [valV_neg e, b]; exact ih
theorem KV.any {kvs : List (κ × V)} {vs : List (κ × Value)} (r : KV kvs vs) (k : κ) : (kvs.any fun kv => decide (kv.1 = k)) = vs.any fun kv => decide (kv.1 = k) := by
  unfold KV at r
  induction r with
  | nil => rfl
  | cons h t ih => rw [List.any_cons, List.any_cons, ih, h.1]
theorem KV.repl {kvs : List (κ × V)} {vs : List (κ × Value)} (r : KV kvs vs) (k : κ) {y : V} {u : Value} (ry : RelV y u) :
    KV (kvs.map fun kv => if kv.1 = k then (kv.1, y) else kv) (vs.map fun kv => if kv.1 = k then (kv.1, u) else kv) := by
  unfold KV at r ⊢
  induction r with
  | nil => exact .nil
  | @cons p q ps qs h t ih =>
    rw [List.map_cons, List.map_cons]
    refine .cons ?_ ih
    obtain ⟨h1, h2⟩ := h
    by_cases e : p.1 = k
    · rw [if_pos e, if_pos (h1.symm.trans e)]; exact ⟨h1, ry⟩
    · rw [if_neg e, if_neg (fun z => e (h1.trans z))]; exact ⟨h1, h2⟩
theorem KV.put {kvs : List (κ × V)} {vs : List (κ × Value)} (r : KV kvs vs) (k : κ) {y : V} {u : Value} (ry : RelV y u) : KV (putK kvs k y) (stored vs k u) := by
  unfold putK stored
  rw [r.any k]
  by_cases e : (vs.any fun kv => decide (kv.1 = k)) = true
  · rw [if_pos e, if_pos e]; exact r.repl k ry
  · rw [if_neg e, if_neg e]; exact Paired.snoc r ⟨rfl, ry⟩
end


/-! ### a tracked dict, its keys ints and texts or tuples of these -/
theorem kV_is {P : Program} {w : World} {k : Key} {u : Value} (r : RelV (kV k) u) : (mixKind P w).is k u = true := by
  cases k with
  | inl i => obtain ⟨t, e⟩ := (show ∃ t, u = Value.int i t from r); subst e; exact mixKind_int P w i t
  | inr x => obtain ⟨t, e⟩ := (show ∃ t, u = Value.str x t from r); subst e; exact mixKind_str P w x t
section
variable {P : Program} {w : World} {H : Hp} {h : Heap} {a : Addr}
theorem rd_of {u : HO} (ok : HOk P w H h) (e : Rd H a u) : ObjOk P w H h a u := e.ok ok
theorem dk_rd {kvs : List (Key × V)} (ok : HOk P w H h) (e : Rd H a (.dK kvs)) : kvs.length ≤ sizeLine ∧ (a == sysModules) = false ∧ ∃ vs, KV kvs vs ∧ h.DictOf (mixKind P w) a vs :=
  show ObjOk P w H h a (.dK kvs) from rd_of ok e
theorem dk_of {kvs : List (Key × V)} (ok : HOk P w H h) (e : H a = some (.dK kvs)) : kvs.length ≤ sizeLine ∧ (a == sysModules) = false ∧ ∃ vs, KV kvs vs ∧ h.DictOf (mixKind P w) a vs := dk_rd ok (.inl e)
end

section
variable {X : Cx} {pins : List (Addr × Obj)} {σ : St} {H : Hp} {s : Shared} {a : Addr} {y v : V} {u r : Value} {o : Option V} {A : Around} {E : Value → Shared → Prop}

theorem Inv.big (I : Inv X pins σ H s) : sysModules < s.heap.objs.size := by
  have h : mainGlobals < s.heap.objs.size := (I.mod.glob.keeps I.bk).lt
  exact Nat.lt_trans (by decide) h

/-- a dict's object is replaced -/
theorem d_write {h' : Heap} {t' : Nat} {ob : HO} (I : Inv X pins σ H s) (mu : Mut (H a)) (hs : Heap.SameBut a s.heap h') (he : ∃ q, h'.get? a = some q) (new : ObjOk X.prog X.w (upd H a ob) h' a ob) :
    Inv X pins σ (upd H a ob) { s with heap := h', toks := t' } :=
  I.write (x := a) (e := a) mu (.inl rfl) (fun b q hb z => (hs.2 b hb).trans z) he new
theorem dk_new {P : Program} {w : World} {H' : Hp} {h' : Heap} {kvs : List (Key × V)} {vs : List (Key × Value)} (z : kvs.length ≤ sizeLine) (hd : (a == sysModules) = false) (rel : KV kvs vs) (dd : h'.DictOf (mixKind P w) a vs) :
    ObjOk P w H' h' a (.dK kvs) := ⟨z, hd, vs, rel, dd⟩
end

section
variable {X : Cx} {pins : List (Addr × Obj)} {σ : St} {H : Hp} {s : Shared} {a : Addr} {kvs : List (Key × V)} {k : Key} {u : Value} {A : Around} {E : Value → Shared → Prop}
end


/-! ### readings and rules -/
section
variable {X : Cx} {o i e value : Expr} {pos pos' tpos : Pos} {td ty tv : TE}
end


/-! ### displays -/
theorem dk_empty {P : Program} {w : World} {H : Hp} (h : Heap) (hb : sysModules < h.objs.size) : ObjOk P w H (h.push { cls := .type "dict", data := .dict #[] }) h.objs.size (.dK []) :=
  ⟨Nat.zero_le _, beq_eq_false_iff_ne.mpr (Ne.symm (Nat.ne_of_lt hb)), [], .nil, Heap.DictOf.new h⟩
/-- {}, to be a dict of the kind that is wanted -/
noncomputable def tDNewK : TE := fun _ H Q => ∀ p, H p = none → Q (.ref p) (upd H p (.dK []))
section
variable {X : Cx} {pos : Pos}
theorem pe_dnewK : PE X (.Dict [] [] pos) tDNewK := fun pins s σ H Q I h =>
  wpAny_Dict_empty ⟨.ref s.heap.objs.size, _, I.laid (a := s.heap.objs.size) (o := .dK []) (t' := s.toks) (fun _ _ q => Heap.get?_push_of_some _ q) (Nat.le_refl _) (dk_empty s.heap I.big), rfl, h _ (I.hok.fresh (Nat.le_refl _))⟩
end

/-- the pairs of a display, from the left -/
noncomputable def tPairs : List (TE × TE) → St → Hp → (List (V × V) → Hp → Prop) → Prop
  | [], _, H, Q => Q [] H
  | (tk, tv) :: r, σ, H, Q => tk σ H fun x H1 => tv σ H1 fun y H2 => tPairs r σ H2 fun ps H3 => Q ((x, y) :: ps) H3
noncomputable abbrev VV : List (V × V) → List (Value × Value) → Prop := Paired fun p q => RelV p.1 q.1 ∧ RelV p.2 q.2
noncomputable def PPs (X : Cx) (pos : Pos) (keys : List (Option Expr)) (values : List Expr) (trs : List (TE × TE)) : Prop :=
  ∀ (pins : List (Addr × Obj)) (s : Shared) (σ : St) (H : Hp) (Q : List (V × V) → Hp → Prop), Inv X pins σ H s → tPairs trs σ H Q →
    wpAny (model X.prog X.w) X.A (evalPairs (pairTrees keys values X.env pos)) (fun vs s' => ∃ ps H', Inv X pins σ H' s' ∧ VV ps vs ∧ Q ps H') X.xe s
theorem pps_nil {X : Cx} {pos : Pos} : PPs X pos [] [] [] := fun pins s σ H Q I h => pairTrees_nil_walk ⟨[], H, I, .nil, h⟩
theorem pps_cons {X : Cx} {pos : Pos} {k v : Expr} {ks : List (Option Expr)} {vs : List Expr} {tk tv : TE} {trs : List (TE × TE)} (hk : PE X k tk) (hv : PE X v tv) (hr : PPs X pos ks vs trs) :
    PPs X pos (some k :: ks) (v :: vs) ((tk, tv) :: trs) := fun pins s σ H Q I h =>
  pairTrees_cons_walk (thn (hk pins s σ H _ I h) fun u s1 ⟨x, H1, I1, rx, q1⟩ => thn (hv pins s1 σ H1 _ I1 q1) fun w2 s2 ⟨y, H2, I2, ry, q2⟩ =>
    thn (hr pins s2 σ H2 _ I2 q2) fun ws s3 ⟨ps, H3, I3, rel, q3⟩ => ⟨(x, y) :: ps, H3, I3, .cons ⟨rx, ry⟩ rel, q3⟩)

noncomputable def mergeK (kvs more : List (Key × V)) : List (Key × V) := more.foldl (fun acc kv => putK acc kv.1 kv.2) kvs
theorem KV.merge : ∀ {more : List (Key × V)} {rs : List (Key × Value)} {kvs : List (Key × V)} {vs : List (Key × Value)}, KV more rs → KV kvs vs → KV (mergeK kvs more) (merged vs rs) := by
  intro more rs kvs vs r
  unfold KV at r
  induction r generalizing kvs vs with
  | nil => intro q; exact q
  | @cons p q ps qs h t ih =>
    intro r0
    have e : KV (putK kvs p.1 p.2) (stored vs q.1 q.2) := by
      have := r0.put p.1 h.2
      rw [← h.1]; exact this
    exact ih e
theorem length_mergeK : ∀ (more kvs : List (Key × V)), (mergeK kvs more).length ≤ kvs.length + more.length
  | [], kvs => by show kvs.length ≤ kvs.length + 0; omega
  | p :: r, kvs => by
    have h1 := length_mergeK r (putK kvs p.1 p.2)
    have h2 := length_putK kvs p.1 p.2
    show (mergeK (putK kvs p.1 p.2) r).length ≤ _
    rw [List.length_cons]; omega
theorem carries_of {P : Program} {w : World} : ∀ {kvs : List (Key × V)} {ws : List (Value × Value)}, VV (kvs.map fun kv => (kV kv.1, kv.2)) ws → ∃ rs, Carries (mixKind P w) ws rs ∧ KV kvs rs
  | [], _, r => by rw [List.map_nil] at r; cases r; exact ⟨[], True.intro, .nil⟩
  | p :: kvs, _, r => by
    rw [List.map_cons] at r
    cases r with
    | @cons a b as bs h t =>
      obtain ⟨rs, c, q⟩ := carries_of (P := P) (w := w) t
      obtain ⟨b1, b2⟩ := b
      exact ⟨(p.1, b2) :: rs, ⟨kV_is h.1, rfl, c⟩, .cons ⟨rfl, h.2⟩ q⟩
/-- {k: v, ..} with keys ints and texts; the new dict stands empty while the pairs are made -/
noncomputable def tDisp (trs : List (TE × TE)) : TE := fun σ H Q => ∀ p, H p = none → tPairs trs σ (upd H p (.dK [])) fun ps H2 => H2 p = some (.dK []) ∧ ∃ kvs : List (Key × V), ps = kvs.map (fun kv => (kV kv.1, kv.2)) ∧ kvs.length ≤ 15 ∧ Q (.ref p) (upd H2 p (.dK (mergeK [] kvs)))
theorem pe_disp {X : Cx} {pos : Pos} {keys : List (Option Expr)} {values : List Expr} {trs : List (TE × TE)} (h : PPs X pos keys values trs) (hall : keys.all (·.isSome) = true) (hl : keys.length = values.length) (h0 : keys ≠ [])
    (h15 : keys.length ≤ 15) : PE X (.Dict keys values pos) (tDisp trs) := by
  intro pins s σ H Q I q
  have hn := I.hok.fresh (Nat.le_refl s.heap.objs.size)
  have I1 := I.laid (a := s.heap.objs.size) (o := .dK []) (h' := s.heap.push { cls := .type "dict", data := .dict #[] }) (t' := s.toks) (fun _ _ q => Heap.get?_push_of_some _ q) (Nat.le_refl _) (dk_empty s.heap I.big)
  refine wpAny_Dict_walk (knd := mixKind X.prog X.w) hall hl h0 h15 (thn (h pins _ σ _ _ I1 (q _ hn)) fun ws s2 ⟨ps, H2, I2, rel, e, kvs, ep, lk, q2⟩ => ?_)
  subst ep
  obtain ⟨rs, c, rk⟩ := carries_of (P := X.prog) (w := X.w) rel
  obtain ⟨z, hd, vs0, r0, dd⟩ := dk_of I2.hok e
  cases r0
  refine ⟨rs, c, dd, fun h' dd' hs => ⟨.ref s.heap.objs.size, _, ?_, rfl, q2⟩⟩
  have hz : (mergeK [] kvs).length ≤ sizeLine := by
    have h1 := length_mergeK kvs []
    rw [List.length_nil] at h1
    rw [sizeLine_eq]; omega
  have he : ∃ q, h'.get? s.heap.objs.size = some q := let ⟨q, _, _, hq, _⟩ := dd'; ⟨q, hq⟩
  exact d_write I2 (by rw [e]; exact True.intro) hs he (dk_new hz hd (rk.merge .nil) dd')


/-! ### methods -/
section
variable {X : Cx} {pins : List (Addr × Obj)} {σ : St} {H : Hp} {s : Shared} {a : Addr} {y d : V} {u r : Value} {o : Option V} {A : Around} {E : Value → Shared → Prop}
end

section
variable {X : Cx} {o e f : Expr} {apos cpos : Pos} {td ty tx : TE}
end

/-! ### dict(d): a copy -/
section
variable {X : Cx} {pins : List (Addr × Obj)} {σ : St} {H : Hp} {s : Shared} {a : Addr} {kvs : List (Key × V)} {A : Around} {E : Value → Shared → Prop}
end


section
variable {X : Cx} {pins : List (Addr × Obj)} {σ : St} {H : Hp} {s : Shared} {a : Addr} {y : V} {u : Value} {A : Around} {E : Value → Shared → Prop}
end
end L2

namespace Att
open PySem PySem.W PySem.Calls PyProof.Rows

/-! ### the script -/
theorem ints_of_wellAll {P : Params} {h : Heap} : ∀ (ns : List Int) (vs : List Value), WellAll P h vs (ns.map WData.int) → IntsAre vs ns := by
  intro ns
  induction ns with
  | nil =>
    intro vs w
    rw [List.map_nil] at w
    cases w
    exact .nil
  | cons n ns ih =>
    intro vs w
    rw [List.map_cons] at w
    cases w with
    | cons a b =>
      cases a
      exact .cons _ _ (ih _ b)

theorem script_of {l : OpenLaw} {n : Nat} (hn : l.most = some n) {P : Params} {h : Heap} {args : List WData} {vals : List Value}
    (hpre : l.row.toRowW.claim.pre args = true) (hwl : WellAll P h vals args) :
    ∃ a vs ns, vals = [Value.ref a] ∧ args = [WData.list (ns.map WData.int)] ∧ h.get? a = some { cls := .type "list", data := .seq vs.toArray } ∧ IntsAre vs ns ∧ ns.length ≤ n := by
  have hsh : WShape.hasAll [] args [.list .int] = true := (pre_splitW hpre).1
  have hc : l.pre.holds [] { args := args } = true := (pre_splitW hpre).2
  obtain ⟨d, r, rfl, h1, h2⟩ := hasAllW_cons hsh
  obtain rfl := hasAllW_nil h2
  obtain ⟨xs, rfl, h3⟩ := hasW_list h1
  obtain ⟨ns, rfl⟩ := items_int h3
  have hlen : ns.length ≤ n := by
    unfold OpenLaw.pre at hc
    have h4 : (WTm.not (.lt (.lit (.int (n : Int))) (.len (.arg 0)))).holds [] { args := [.list (ns.map .int)] } = true := by
      have h4 := (holds_andW hc).1
      rw [hn] at h4
      exact h4
    have h5 := condW_of h4 (w_not (w_lt w_lit (w_len_list (w_arg rfl))))
    rw [List.length_map] at h5
    refine Nat.le_of_not_lt fun q => ?_
    have q' : (n : Int) < ((ns.length : Nat) : Int) := by omega
    first
      | (rw [decide_eq_true q'] at h5; exact absurd h5 (by decide))
      | (simp at h5; omega)
  cases hwl with
  | cons w1 w2 =>
    cases w2
    cases w1 with
    | list ho hall => exact ⟨_, _, ns, rfl, rfl, ho, ints_of_wellAll ns _ hall, hlen⟩

theorem post_true (l : OpenLaw) (args : List WData) : l.row.toRowW.claim.post args (.bool true) args = true :=
  postW_of (r := l.row.toRowW) (X := (true == true))
    (show WShape.has [] (.bool true) .bool = true by first | rfl | decide | simp [WShape.has, WShape.arms, WShape.armsAll])
    (show (WTm.eq .res (.lit (.bool true))).value [] { args := args, res := some (.bool true), after := args } = some (.bool (true == true)) from w_eq_bool (w_res rfl) w_lit) rfl

/-! ### the attachment: holds_open's last premise (the goal 'hc' behind k_head) from a wpAny of the law's body -/
/-- the same from a codeAny of the CALL (for a layer whose function contracts speak of calls) -/
theorem attach_call {l : OpenLaw} {n : Nat} {q : Program} {loose : List Str} {XP : (Str → Option Value) → Heap → Prop} {YP : World → Heap → Prop} {d : DefRec}
    (hn : l.most = some n) (hdf : d.params.defaults = [])
    (call : ∀ (w : World) (s₀ s₁ : Shared) (mg mb : Str → Option Value) (fa : Addr) (o : Obj) (pm cd doc : Value) (a : Addr) (vs : List Value) (ns : List Int),
      Ground q loose [] XP w s₀ mg mb s₁.heap → YP w s₁.heap →
      s₁.heap.get? fa = some o → o.data = .func (docDef d.name d.params d.body d.scope pm cd doc) → s₁.heap.CodeRec cd d.name → mg d.name = some (.ref fa) →
      s₁.heap.get? a = some { cls := .type "list", data := .seq vs.toArray } → IntsAre vs ns → ns.length ≤ n → s₁.gens = #[] →
      codeAny (model l.prog w) callerA (.call (.ref fa) ⟨[.ref a], []⟩) (fun r s' => r = .ok (.ret (.bool true)) ∧ OldK s₁.heap s'.heap ∧ s'.os = s₁.os ∧ AllBare s'.gens) s₁) :
    WalkO q loose XP YP l.row.toRowW d [] (fun f vs => PySem.call f vs) := by
  intro w s₀ s₁ mg mb G Y fa o pm cd doc dV kV ho hd hcd hD hmg hg args vals as hpre hlay hrd hwl hlo
  obtain rfl : dV = .none := Dflts.none hD hdf
  obtain rfl : kV = .none := Dflts.noKw hD
  obtain ⟨a, vs, ns, rfl, rfl, hobj, hints, hlen⟩ := script_of hn hpre hwl
  refine enter_call (codeAny_mono (call w s₀ s₁ mg mb fa o pm cd doc a vs ns G Y ho (fd_plain hd) hcd hmg hobj hints hlen hg) fun r s' hq => ?_)
  obtain ⟨rfl, h2, h3, h4⟩ := hq
  exact ⟨.inl ⟨.bool true, .bool true, [], rfl, fun _ => rfl, .bool true, post_true l _, fun _ => ⟨List.Pairwise.nil, fun _ hm => (nomatch hm)⟩⟩, h2, h3, h4⟩

/-! ### rules over ANY heap (no ledger) from facts about the written part K: the library's own take a ledger (News) for what they write -/
section
variable {prog : Program} {w : World} {A : Around} {E : Value → Shared → Prop} {s : Shared} {K : Frag}

/-! the whole heap as the ledger: makes every rule that writes through a ledger a rule over any heap -/
end
end Att

namespace L2
open PySem PySem.Spec PyProof.Rows

theorem vals_ints : ∀ {vs : List Value} {ns : List Int}, IntsAre vs ns → Vals (ns.map V.int) vs
  | _, _, .nil => .nil
  | _, _, .cons n t h => .cons ⟨t, rfl⟩ (vals_ints h)

/-- nothing is tracked but the script, known to the object (or it is an object of the module) -/
noncomputable def Only (H : Hp) : Prop := ∀ b, H b = none ∨ ∃ o xs, H b = some (.frz o (.lst xs))

/-- THE HEAD: the law's promise, at the heap behind the top. F, the promise of the law's def, may use that base is part of the heap (so K.In base, base.Ns mainGlobals mg stand in Mod) -/
theorem law_call {P : Program} {w : World} {K : PySem.W.Frag} {mg mb : Str → Option Value} {CX : CXT} {k : Nat} {fa a : Addr} {fd : FuncData} {x : Str} {sp : Sp} {s₁ : Shared} {vs : List Value} {ns : List Int}
    (KX : K.In s₁.heap) (hns : s₁.heap.Ns mainGlobals mg) (hb : s₁.heap.Ns builtinsNs mb) (hbb : ∀ x : Str, x ≠ "__name__" → mb x = bootBuiltins x) (hlim : s₁.heap.NoLimit) (hdig : s₁.heap.NoDigits) (hg : s₁.gens = #[])
    (ha : s₁.heap.get? a = some { cls := .type "list", data := .seq vs.toArray }) (hi : IntsAre vs ns) (hl : ns.length ≤ sizeLine) (hr : Room k callerA)
    (F : ∀ base : Heap, K.In base → base.Ns mainGlobals mg → FnOk P w K mg base CX k fa fd [x] sp) (hbind : ∀ (s : Shared) (u : Value), BindsTo s fd ⟨[u], []⟩ [(x, u)])
    (hsp : ∀ H : Hp, Only H → SqL K H a (ns.map V.int) → sp [.ref a] H (fun v _ => v = .bl true) fun _ _ _ => False)
    (hCX : ∀ H e s', CX [] H s₁ (fun _ _ _ => False) e s' → False) :
    codeAny (model P w) callerA (.call (.ref fa) ⟨[.ref a], []⟩) (fun r s' => r = .ok (.ret (.bool true)) ∧ OldK s₁.heap s'.heap ∧ s'.os = s₁.os ∧ AllBare s'.gens) s₁ := by
  have rv := vals_ints hi
  have lenV := hi.length
  -- from an abstract heap in which nothing but the script may be tracked
  have core : ∀ H : Hp, Only H → SqL K H a (ns.map V.int) → HOk P w H s₁.heap → (∀ b, H b ≠ none → b = a) → (H a ≠ none → K.lookup a = none) →
      codeAny (model P w) callerA (.call (.ref fa) ⟨[.ref a], []⟩) (fun r s' => r = .ok (.ret (.bool true)) ∧ OldK s₁.heap s'.heap ∧ s'.os = s₁.os ∧ AllBare s'.gens) s₁ := by
    intro H hO hS hok hA hK
    have base_of : ∀ {b : Addr} {o : Obj}, s₁.heap.get? b = some o → H b = none → (hidT s₁.heap H).get? b = some o := fun e n => hidT_get e n
    have noA : ∀ {b : Addr} {o : Obj} {es : Array DictEntry} {ep : Nat}, s₁.heap.get? b = some o → o.data = .dict es ep → H b = none := fun {b o es ep} e d => by
      cases q : H b with
      | none => rfl
      | some u =>
        have e' : b = a := hA b (by rw [q]; simp)
        subst e'
        rw [ha] at e; cases e
        have d' : Data.seq vs.toArray _ = Data.dict es ep := d
        cases d'
    have nsK : ∀ {b : Addr} {m : Str → Option Value}, s₁.heap.Ns b m → (hidT s₁.heap H).Ns b m := fun {b m} ⟨o, es, ep, e, d, r⟩ => ⟨o, es, ep, base_of e (noA e d), d, r⟩
    have hKb : K.In (hidT s₁.heap H) := fun b o e => base_of (KX b o e) (by
      cases q : H b with
      | none => rfl
      | some u =>
        have e' : b = a := hA b (by rw [q]; simp)
        subst e'
        rw [hK (by rw [q]; simp)] at e; cases e)
    have hM : Mod K mg (hidT s₁.heap H) := ⟨hKb, nsK hns, ⟨mb, nsK hb, hbb⟩, let ⟨mc, h1, h2⟩ := hlim; ⟨mc, nsK h1, h2⟩, let ⟨mc, h1, h2⟩ := hdig; ⟨mc, nsK h1, h2⟩⟩
    have e0 : Env0 P w K mg (hidT s₁.heap H) callerA [] s₁ H := ⟨rfl, hM, fun b o e => of_hidT e, Nat.le_of_eq (hidT_size _ _), trivial, fun b hb => absurd (show b ∈ ([] : List Addr) from hb) (by simp), hok, .of_eq hg⟩
    refine codeAny_mono ((F _ hKb (nsK hns)).run callerA [] s₁ H ⟨[.ref a], []⟩ [.ref a] [.ref a] _ _ hr e0 (hbind s₁ (.ref a)) (.cons rfl .nil) (hsp H hO hS)) fun r s' h => ?_
    cases r with
    | error e => exact (hCX H e s' h).elim
    | ok fl =>
      cases fl with
      | next => exact False.elim h
      | brk => exact False.elim h
      | cont => exact False.elim h
      | ret u =>
        obtain ⟨v, H', os, bare, un, hok', r', q⟩ := h
        have q' : v = .bl true := q
        subst q'
        obtain rfl : u = Value.bool true := r'
        refine ⟨rfl, OldK.of_keep fun b o e => ?_, os, bare⟩
        cases q : H b with
        | none => exact un.keep b o e q (by intro z; exact absurd (show b ∈ ([] : List Addr) from z) (by simp)) (by simp)
        | some u =>
          rcases hO b with z | ⟨ob, xs, z⟩
          · rw [q] at z; cases z
          · have z2 := un.frzs b ob _ z
            obtain ⟨e1, _⟩ := hok b _ z
            obtain ⟨e2, _⟩ := hok' b _ z2
            rw [e] at e1; cases e1
            exact e2
  cases hk : K.lookup a with
  | some o =>
    -- the script is one of the module's own objects
    have e := KX a o hk
    rw [ha] at e
    cases e
    refine core (fun _ => none) (fun _ => .inl rfl) (.inr ⟨_, vs.toArray, _, hk, rfl, rfl, rfl, by rw [List.size_toArray, lenV]; exact hl, by simpa using rv⟩) (fun b u z => by have z' : (none : Option HO) = some u := z; cases z') (fun b z => absurd rfl z) fun z => absurd rfl z
  | none =>
    refine core (fun b => if b = a then some (.frz { cls := .type "list", data := .seq vs.toArray } (.lst (ns.map V.int))) else none) (fun b => ?_) (.inl (.inr ⟨{ cls := .type "list", data := .seq vs.toArray }, if_pos rfl⟩)) (fun b u z => ?_) (fun b z => ?_) fun _ => hk
    · by_cases hb : b = a
      · exact .inr ⟨_, _, if_pos hb⟩
      · exact .inl (if_neg hb)
    · by_cases hb : b = a
      · have z' := (if_pos hb).symm.trans z
        cases z'
        subst hb
        exact ⟨ha, by rw [List.length_map]; exact hl, vs, _, rv, ha⟩
      · have z' := (if_neg hb).symm.trans z
        cases z'
    · by_cases hb : b = a
      · exact hb
      · exact absurd (if_neg hb) z
end L2

namespace L2
open PySem PySem.Spec PyProof.Rows

/-- the goal that k_head leaves (case hc), from the law's promise. F gives the function object fd (K's own) once, then the promise over every base -/
theorem walk_of {l : PySem.W.OpenLaw} {n k : Nat} {q : Program} {loose : List Str} {XP : (Str → Option Value) → Heap → Prop} {YP : World → Heap → Prop} {d : DefRec} {K : Params → PySem.W.Frag} {CX : World → CXT} {sp : World → Sp} {x : Str}
    (hn : l.most = some n) (hn2 : n ≤ sizeLine) (hdf : d.params.defaults = []) (hr : Room k callerA)
    (hY : ∀ (w : World) (h : Heap), YP w h → (K w.params).In h)
    (F : ∀ (w : World) (mg : Str → Option Value) (fa : Addr) (h : Heap), (K w.params).In h → h.Ns mainGlobals mg → mg d.name = some (.ref fa) →
      ∃ fd : FuncData, (∀ (s : Shared) (u : Value), BindsTo s fd ⟨[u], []⟩ [(x, u)]) ∧
        ∀ base : Heap, (K w.params).In base → base.Ns mainGlobals mg → FnOk l.prog w (K w.params) mg base (CX w) k fa fd [x] (sp w))
    (hsp : ∀ (w : World) (H : Hp) (a : Addr) (ns : List Int), ns.length ≤ n → Only H → SqL (K w.params) H a (ns.map V.int) → sp w [.ref a] H (fun v _ => v = .bl true) fun _ _ _ => False)
    (hCX : ∀ (w : World) (H : Hp) (s : Shared) (e : Value) (s' : Shared), CX w [] H s (fun _ _ _ => False) e s' → False) :
    PySem.W.WalkO q loose XP YP l.row.toRowW d [] (fun f vs => PySem.call f vs) := by
  refine Att.attach_call hn hdf fun w s₀ s₁ mg mb fa o pm cd doc a vs ns G Y ho hd hcd hmg hobj hints hlen hg => ?_
  have KX := hY w _ Y
  obtain ⟨fd, hb, hF⟩ := F w mg fa _ KX G.T.g hmg
  exact law_call KX G.T.g G.T.b G.T.builtins G.T.nolimit G.T.nodigits hg hobj hints (Nat.le_trans hlen hn2) hr hF hb (fun H hO hS => hsp w H a ns hlen hO hS) fun H e s' => hCX w H s₁ e s'
end L2

/- THE LAST THEOREM (shape; LID, My.* are yours):
   My.Adr: a structure of the addresses that your layer names (classes, functions); My.Txt K t: a structure (Prop) of the equations over K;
   My.txt_mk : {K} {implicit addresses ..} (e1 : nsIn K mainGlobals "law" = some (some (.ref f))) (e2 : K.lookup f = some ⟨oc, od, .func (fnOf "law" "law" params body scope dV kV doc pm an cdv ct), sl⟩) (e3 : codeIn K cdv "law" = true) .. : ∃ t, My.Txt K t

set_option maxRecDepth 100000 in
set_option maxHeartbeats 0 in
theorem PySem.Challenge.cw_LID_holds : PySem.Challenge.rw_LID.Holds := by
  w_on; o_law; k_head; (case hw => w_witness2)
  k_fill
  refine L2.walk_of (l := PySem.Challenge.rw_LID) (n := 63) (k := 40) (x := "script") (CX := fun w => ..) (sp := fun _ => My.sp_law) rfl (by decide) rfl ⟨rfl, by decide, by decide⟩ (fun w h Y => PySem.W.kIn_of Y) ?F ?S ?C
  case F =>
    intro w mg fa h KX G hmg
    have T : ∃ t, My.Txt (L2.KOf KX) t := by
      dsimp only [L2.KOf]                          -- K must stand as «<heap const> w.params» for k_is
      refine' My.txt_mk ?e1 ?e2 ?e3 ..
      (case e1 => PySem.W.k_is)                    -- in the order: a name -> its address -> its object -> its parts
      (case e2 => PySem.W.k_is)
      ..
    obtain ⟨t, T⟩ := T
    have e0 := hmg.symm.trans (PySem.W.mg_of KX G T.law)
    cases e0                                       -- fa is the law's own address
    exact ⟨_, fun s u => .of_eq rfl, fun base kb nb => My.law_fn T kb nb⟩     -- if «.of_eq rfl» comes too early: refine' ⟨_, ?b, fun base kb nb => My.law_fn T kb nb⟩; exact fun s u => .of_eq rfl
  case S => exact fun w H a ns hl hO hS => ..
  case C => exact ..
(the tactic k_is has no namespace: write k_is) -/

/-! SHORT WORDS over the layer: a def of the text, its body, what a loop and a test want. -/
namespace L2
open PySem PySem.Spec PyProof.Rows

/-! ### the text by places -/
noncomputable def defArgs (s : Stmt) : Arguments := match s with
  | .FunctionDef _ a _ _ _ _ _ _ _ _ => a
  | _ => { posonlyargs := [], args := [], vararg := none, kwonlyargs := [], kw_defaults := [], kwarg := none, defaults := [] }
noncomputable def defBody (s : Stmt) : List Stmt := match s with
  | .FunctionDef _ _ b _ _ _ _ _ _ _ => b
  | _ => []
noncomputable def defScope (s : Stmt) : Scope := match s with
  | .FunctionDef _ _ _ _ _ _ sc _ _ _ => sc
  | _ => { kind := .function, names := [], isGenerator := false, isCoroutine := false }

/-! ### no exception leaves a def -/
noncomputable abbrev E0 : XK := fun _ _ _ => False
/-! ### a def (or method) of the text as it stands behind the top -/
structure Fun (K : PySem.W.Frag) (x qual : Str) (st : Stmt) (f : Addr) (fd : FuncData) : Prop where
  ex : ∃ (oc : Value) (od : Option Addr) (kV doc pm : Value) (an : Option Addr) (cdv ct : Value) (osl : Array (Option Value)),
    fd = PySem.W.fnOf x qual (defArgs st) (defBody st) (defScope st) .none kV doc pm an cdv ct ∧ K.lookup f = some ⟨oc, od, .func fd, osl⟩ ∧ PySem.W.codeIn K cdv qual = true
  kp : PySem.W.keepIn K (.ref f) = true
section
variable {P : Program} {w : World} {K : PySem.W.Frag} {mg : Str → Option Value} {base : Heap}
/-- how its arguments bind (no defaults): h is «fun _ _ _ _ _ _ us hl => match us, hl with | [_, _], _ => rfl», one _ a parameter -/
theorem Fun.binds {x qual : Str} {st : Stmt} {f : Addr} {fd : FuncData} {ps : List Str} (F : Fun K x qual st f fd)
    (h : ∀ (kV doc pm : Value) (an : Option Addr) (cdv ct : Value) (us : List Value), us.length = ps.length → bindArgs (PySem.W.fnOf x qual (defArgs st) (defBody st) (defScope st) .none kV doc pm an cdv ct) ⟨us, []⟩ = pure (ps.zip us)) : Binds K fd ps [] := by
  obtain ⟨oc, od, kV, doc, pm, an, cdv, ct, osl, rfl, lk, hcd⟩ := F.ex
  exact .all (h kV doc pm an cdv ct)
theorem fun_mk {x qual : Str} {st : Stmt} {f : Addr} {oc : Value} {od an : Option Addr} {osl : Array (Option Value)} {kV doc pm cdv ct : Value} (l : K.lookup f = some ⟨oc, od, .func (PySem.W.fnOf x qual (defArgs st) (defBody st) (defScope st) .none kV doc pm an cdv ct), osl⟩)
    (c : PySem.W.codeIn K cdv qual = true) (k : PySem.W.keepIn K (.ref f) = true) : Fun K x qual st f (PySem.W.fnOf x qual (defArgs st) (defBody st) (defScope st) .none kV doc pm an cdv ct) := ⟨⟨oc, od, kV, doc, pm, an, cdv, ct, osl, rfl, l, c⟩, k⟩
end
theorem small1000 {n : Nat} (h : n ≤ 1000) : n < sizeLine := Nat.lt_of_le_of_lt h (by decide)

/-! ### expressions in short: the name that stands in the i-th slot -/
section
variable {X : Cx}
theorem pv (i : Nat) {x : Str} {pos : Pos} (hN : X.N[i]? = some x := by rfl) (hv : Vis X.env.scope x := by first | exact Or.inl rfl | exact Or.inr (Or.inl rfl) | exact Or.inr (Or.inr rfl)) (hd : (x == ("__debug__" : Str)) = false := by decide)
    (hcd : (x == ("__classdict__" : Str)) = false := by decide) : PE X (.Name x pos) (tVar i) := pe_var hN hv hd hcd
end

/-! ### tests -/
theorem iteF {A B : Prop} (h : B) : if false = true then A else B := by
  rw [if_neg Bool.false_ne_true]
  exact h
theorem iteT {A B : Prop} (h : A) : if true = true then A else B := by
  rw [if_pos rfl]
  exact h
theorem ite2 {c A B : Prop} [Decidable c] (h1 : c → A) (h2 : ¬ c → B) : if c then A else B := by
  by_cases h : c
  · rw [if_pos h]
    exact h1 h
  · rw [if_neg h]
    exact h2 h
/-! ### heaps -/
/-- all that was tracked is as it was -/
noncomputable def Same (H H' : Hp) : Prop := ∀ b o, H b = some o → H' b = some o
theorem Same.refl (H : Hp) : Same H H := fun _ _ h => h
theorem Same.trans {H H1 H2 : Hp} (a : Same H H1) (b : Same H1 H2) : Same H H2 := fun c o h => b c o (a c o h)
theorem Same.seq {K : PySem.W.Frag} {H H' : Hp} {a : Addr} {xs : List V} (e : Same H H') (h : SqL K H a xs) : SqL K H' a xs := by
  rcases h with (h | ⟨o, h⟩) | h
  · exact .inl (.inl (e _ _ h))
  · exact .inl (.inr ⟨o, e _ _ h⟩)
  · exact .inr h

/-! ### a dict's pairs: keys that differ -/
section
variable {κ : Type} [DecidableEq κ]
end
end L2

namespace L2
open PySem PySem.Spec PyProof.Rows
/-! ### an exception has left a call: its own objects are new, all else but the callers' frames stands in B -/
structure Flown (P : Program) (w : World) (outer : List Env) (H : Hp) (s : Shared) (E : XK) (e : Value) (s' : Shared) : Prop where
  ex : ∃ (ea C : Addr) (a0 : Value) (B : Heap) (H' : Hp), e = .ref ea ∧ s'.os = s.os ∧ AllBare s'.gens ∧ Heap.FlyingW B outer ea (.ref C) a0 s'.heap ∧ HOk P w H' B ∧ Un (frs outer) [] H H' s.heap s'.heap ∧
    (∀ b o, s.heap.get? b = some o → b ∈ frs outer ∨ ∃ o', B.get? b = some o') ∧ E (.ref C) none H'
theorem flown_none {P : Program} {w : World} {outer : List Env} {H : Hp} {s s' : Shared} {e : Value} (h : Flown P w outer H s E0 e s') : False := by
  obtain ⟨_, _, _, _, _, _, _, _, _, _, _, _, q⟩ := h.ex
  exact q
theorem passF0 {X : Cx} : Passes (Flown X.prog X.w) X E0 := fun _ _ _ _ _ _ _ h => (flown_none h).elim
section
variable {X : Cx} {pins : List (Addr × Obj)} {σ : St} {H : Hp} {s : Shared}
theorem Inv.notStk (I : Inv X pins σ H s) {b : Addr} {o : Obj} (e : X.s₀.heap.get? b = some o) (hb : b ∉ X.fs) : b ∉ frs X.stack := fun z => by
  rcases List.mem_cons.mp (I.stkSub b z) with q | q
  · exact absurd (Nat.lt_of_lt_of_le (Heap.lt_size e) I.ok.above) (by rw [← q]; exact Nat.lt_irrefl _)
  · exact hb q
theorem hideStk (I : Inv X pins σ H s) {b : Addr} {o : Obj} (e : s.heap.get? b = some o) (hb : b ∉ frs X.stack) : (PySem.W.hideAll s.heap (frs X.stack)).get? b = some o := PySem.W.hideAll_get _ e hb
theorem Inv.hokHid (I : Inv X pins σ H s) : HOk X.prog X.w H (PySem.W.hideAll s.heap (frs X.stack)) := fun b o e =>
  (I.hok b o e).stay (fun c u hc q => hideStk I q fun z => by
    have n := I.stkFree c z
    rcases hc with rfl | hc
    · rw [n] at e; cases e
    · rw [n] at hc; cases hc) (fun _ q => q) fun _ _ q => q
/-- up to the entry -/
theorem Inv.unTo (I : Inv X pins σ H s) (hex : X.ex = []) {H' : Hp} {h' : Heap} (keep : ∀ b o, s.heap.get? b = some o → H b = none → b ∉ frs X.stack → h'.get? b = some o)
    (slot : ∀ b o, s.heap.get? b = some o → H b = none → b ∈ X.fs → ∃ sl, h'.get? b = some { o with slots := sl }) (free : ∀ b o, s.heap.get? b = some o → H b = none → H' b = none) (there : ∀ b o, s.heap.get? b = some o → ∃ o', h'.get? b = some o')
    (tups : ∀ b xs, H b = some (.tup xs) → H' b = some (.tup xs)) (frzs : ∀ b o u, H b = some (.frz o u) → H' b = some (.frz o u)) (tbls : ∀ b ps, H b = some (.tbl ps) → ∃ more, H' b = some (.tbl (ps ++ more))) :
    Un (frs X.outer) [] X.H₀ H' X.s₀.heap h' := by
  have nx : ∀ b : Addr, b ∉ X.ex := fun b => by rw [hex]; simp
  refine ⟨fun b o e n hb _ => ?_, fun b o e n hb _ => ?_, fun b o e n _ => ?_, fun b o e _ => ?_, fun b xs e => tups b xs (I.base.tups b xs e), fun b o u e => frzs b o u (I.base.frzs b o u e), fun b ps e => ?_⟩
  · exact keep b o (I.base.keep b o e n hb (nx b)) (I.base.free b o e n (nx b)) (I.notStk e hb)
  · obtain ⟨sl, e1⟩ := I.base.slot b o e n hb (nx b)
    obtain ⟨sl', e2⟩ := slot b _ e1 (I.base.free b o e n (nx b)) hb
    exact ⟨sl', e2⟩
  · obtain ⟨o', e1⟩ := I.base.there b o e (nx b)
    exact free b o' e1 (I.base.free b o e n (nx b))
  · obtain ⟨o', e1⟩ := I.base.there b o e (nx b)
    exact there b o' e1
  · obtain ⟨m1, e1⟩ := I.base.tbls b ps e
    obtain ⟨m2, e2⟩ := tbls b _ e1
    exact ⟨m1 ++ m2, by rw [e2, Array.append_assoc]⟩
end
noncomputable abbrev cxF (P : Program) (w : World) (K : PySem.W.Frag) (mg : Str → Option Value) (base : Heap) (N : List Str) (qual : Str) (scope : Scope) (f : Addr) (cdv : Value) (A : Around) (outer : List Env) (s : Shared) (H : Hp) (E : XK) : Cx :=
  cxOf (Flown P w) P w K mg base N qual scope f cdv A outer s H E
section
variable {P : Program} {w : World} {K : PySem.W.Frag} {mg : Str → Option Value} {base : Heap} {N : List Str} {qual : Str} {scope : Scope} {f : Addr} {cdv : Value} {A : Around} {outer : List Env} {s₀ : Shared} {H₀ : Hp} {E : XK}
/-- raised in the body of a def -/
theorem made_leaves {pins : List (Addr × Obj)} {σ : St} {H : Hp} {s : Shared} {h1 : Heap} {e C : Addr} {vs : List Value} (I : Inv (cxF P w K mg base N qual scope f cdv A outer s₀ H₀ E) pins σ H s) (hx : Heap.MadeExcOf s.heap h1 e (.ref C) vs) (q : E (.ref C) none H) :
    (cxF P w K mg base N qual scope f cdv A outer s₀ H₀ E).xe (.ref e) { s with heap := h1 } := by
  have hin : ∀ env ∈ envOfC qual scope s₀.heap.objs.size f cdv :: outer, ∀ a, env.frame = some a → a ∈ frs (envOfC qual scope s₀.heap.objs.size f cdv :: outer) := fun env he a ha => List.mem_filterMap.mpr ⟨env, he, ha⟩
  refine wpAny_leaves_madeW (base := PySem.W.hideAll s.heap (frs (envOfC qual scope s₀.heap.objs.size f cdv :: outer))) (h := s.heap) (L := s₀.heap.objs.size) I.ok.frames rfl (fun b o q => PySem.W.of_hideAll _ q) (PySem.W.funFrames_hide I.stack hin) hx fun h' t x1 x2 x3 x4 => ?_
  have up : ∀ b o, s.heap.get? b = some o → b ∈ frs (envOfC qual scope s₀.heap.objs.size f cdv :: outer) → ∃ sl, h'.get? b = some { o with slots := sl } := fun b o e hb => by
    obtain ⟨_, o', ho', hd⟩ := I.stack.mem hb
    rw [e] at ho'; cases ho'
    exact x4 b o (hx.keeps b o e) hd
  refine ⟨e, C, .ref t, _, H, rfl, I.os, I.bare, x1, I.hokHid, I.unTo rfl (fun b o e _ hb => x1.1 b o (hideStk I e hb)) (fun b o e _ hb => up b o e (List.mem_cons_of_mem _ hb)) (fun _ _ _ n => n) (fun b o e => ?_) (fun _ _ z => z) (fun _ _ _ z => z) (fun b ps z => ⟨#[], by rw [z]; simp⟩), fun b o e => ?_, q⟩
  · by_cases hb : b ∈ frs (envOfC qual scope s₀.heap.objs.size f cdv :: outer)
    · obtain ⟨sl, z⟩ := up b o e hb
      exact ⟨_, z⟩
    · exact ⟨o, x1.1 b o (hideStk I e hb)⟩
  · by_cases hb : b ∈ frs outer
    · exact .inl hb
    · obtain ⟨o', e1⟩ := I.base.there b o e (by intro z; cases z)
      exact .inr ⟨o', hideStk I e1 (I.notStk e hb)⟩
/-- .. or in a callee -/
theorem pass_on : Passes (Flown P w) (cxF P w K mg base N qual scope f cdv A outer s₀ H₀ E) E := by
  intro pins σ H s e s' I h
  obtain ⟨ea, C, a0, B, H', rfl, os, bare, fl, hok, un, old, q⟩ := h.ex
  refine wpAny_leaves_onW (L := s₀.heap.objs.size) I.ok.frames rfl fl fun h' x1 x2 => ?_
  have inB : ∀ b o, s.heap.get? b = some o → b ∉ frs (envOfC qual scope s₀.heap.objs.size f cdv :: outer) → ∃ o', B.get? b = some o' ∧ s'.heap.get? b = some o' := fun b o e hb => by
    rcases old b o e with z | ⟨o', z⟩
    · exact absurd z hb
    · exact ⟨o', z, fl.1 b o' z⟩
  have up : ∀ b o, s'.heap.get? b = some o → b ∈ frs (envOfC qual scope s₀.heap.objs.size f cdv :: outer) → ∃ sl, h'.get? b = some { o with slots := sl } := fun b o e hb => by
    obtain ⟨_, o', ho', hd⟩ := fl.2.2.1.mem hb
    rw [e] at ho'; cases ho'
    exact x2 b o e hd
  refine ⟨ea, C, a0, B, H', rfl, os.trans I.os, bare, x1, hok, I.unTo rfl (fun b o e n hb => ?_) (fun b o e n hb => ?_) (fun b o e n => un.free b o e n (by simp)) (fun b o e => ?_) un.tups un.frzs un.tbls, fun b o e => ?_, q⟩
  · obtain ⟨o', e1, e2⟩ := inB b o e hb
    have e3 := un.keep b o e n hb (by simp)
    rw [e2] at e3; cases e3
    exact x1.1 b _ e1
  · obtain ⟨sl, e1⟩ := un.slot b o e n (List.mem_cons_of_mem _ hb) (by simp)
    obtain ⟨sl', e2⟩ := up b _ e1 (List.mem_cons_of_mem _ hb)
    exact ⟨sl', e2⟩
  · by_cases hb : b ∈ frs (envOfC qual scope s₀.heap.objs.size f cdv :: outer)
    · obtain ⟨o', e1⟩ := un.there b o e (by simp)
      obtain ⟨sl, e2⟩ := up b o' e1 hb
      exact ⟨_, e2⟩
    · obtain ⟨o', e1, _⟩ := inB b o e hb
      exact ⟨o', x1.1 b o' e1⟩
  · by_cases hb : b ∈ frs outer
    · exact .inl hb
    · obtain ⟨o', e1⟩ := I.base.there b o e (by intro z; cases z)
      obtain ⟨o2, e2, _⟩ := inB b o' e1 (I.notStk e hb)
      exact .inr ⟨o2, e2⟩
end
/-! ### raise C(..) -/
noncomputable def tRaise (C : Addr) (E : XK) (t : TA) : TS := fun _ σ H => t σ H fun vs H1 => vs.length ≤ sizeLine ∧ E (.ref C) none H1
structure ExC (mg : Str → Option Value) (base : Heap) (x : Str) (C : Addr) : Prop where
  ex : ∃ bm newId, OwnCls x C bm newId mg base ∧ ∃ (Bn inN : String) (bmN : List Value) (B nid initId : String), ExcBaseFacts Bn newId inN bmN ∧ bm.contains (.type Bn) = true ∧ ExcBaseFacts B nid initId bm
theorem ps_raise {P : Program} {w : World} {K : PySem.W.Frag} {mg : Str → Option Value} {base : Heap} {N : List Str} {qual : Str} {scope : Scope} {f : Addr} {cdv : Value} {A : Around} {outer : List Env} {s₀ : Shared} {H₀ : Hp} {E : XK}
    {x : Str} {C : Addr} {np cpos pos : Pos} {e : Expr} {es : List Expr} {t : TA} (O : ExC mg base x C) (hg : Gl (cxF P w K mg base N qual scope f cdv A outer s₀ H₀ E) x) (ha : PA (cxF P w K mg base N qual scope f cdv A outer s₀ H₀ E) (e :: es) t)
    (hdb : (x == ("__debug__" : Str)) = false := by decide)
    (he : starEach (e :: es) (cxF P w K mg base N qual scope f cdv A outer s₀ H₀ E).env = (false, eval e (cxF P w K mg base N qual scope f cdv A outer s₀ H₀ E).env) :: starEach es (cxF P w K mg base N qual scope f cdv A outer s₀ H₀ E).env := by rfl)
    (hpl : (backTo cpos (starEach es (cxF P w K mg base N qual scope f cdv A outer s₀ H₀ E).env)).any (·.1) = false := by rfl) :
    PS (cxF P w K mg base N qual scope f cdv A outer s₀ H₀ E) (.Raise (some (.Call (.Name x np) (e :: es) [] cpos)) none pos) (tRaise C E t) := by
  intro pins s σ H D I h
  obtain ⟨bm, newId, O, Bn, inN, bmN, B, nid, initId, Fn, hBn, FB⟩ := O.ex
  obtain ⟨tl, Nn, nm, q, bs, hdct, sn, sub, ab, col, dd, k0, k1, k2, k3, k5, mN, hC, hN, hni, T⟩ := O.obj
  refine wpAny_Raise_call_subU (C := C) (nm := nm) (q := q) (N := Nn) (bs := bs) (bm := tl) (hdct := hdct) (sn := sn) (sub := sub) (ab := ab) (col := col) (dd := dd) (k0 := k0) (k1 := k1) (k2 := k2) (k3 := k3) (k5 := k5)
    Fn hBn FB (mN := mN) (T.hasType FB.hasBase) (I.ok.hd rfl) (by rw [he]; show (false || (backTo cpos (starEach es (cxF P w K mg base N qual scope f cdv A outer s₀ H₀ E).env)).any (·.1)) = false; rw [hpl]; rfl) hni (ld_glob I hg O.bound ⟨rfl, ?_⟩ hdb)
  have h2 := ha cpos pins s σ H _ I h
  rw [he] at h2 ⊢
  refine Calls.evalArgs_plain (wpAny_mono h2 (fun us s2 ⟨vs, H2, I2, r, z, q⟩ => ⟨rfl, by rw [← r.length]; exact z, I2.bk _ _ hC, hN.keeps I2.bk, T.keeps I2.bk, fun h' e hm => made_leaves I2 hm q⟩) fun _ _ y => y)
/-! ### a def whose body may raise -/
theorem Fun.okF {P : Program} {w : World} {K : PySem.W.Frag} {mg : Str → Option Value} {base : Heap} {x qual : Str} {st : Stmt} {f : Addr} {fd : FuncData} {N ps : List Str} {k : Nat} {sp : Sp} (F : Fun K x qual st f fd) (S : FnScope N ps (defScope st)) (len : ∀ vs H Q E, sp vs H Q E → vs.length = ps.length)
    (hbody : ∀ (cdv : Value) (A : Around) (outer : List Env) (s : Shared) (H : Hp) (vs : List V) (Q : VK) (E : XK), Room k (A.deeper (envOfC qual (defScope st) s.heap.objs.size f cdv)) → sp vs H Q E →
      ∃ t, PSs (cxF P w K mg base N qual (defScope st) f cdv A outer s H E) (defBody st) t ∧ t { nx := fun _ H' => Q .non H', rt := Q } (start N vs) H) : FnOk P w K mg base (Flown P w) (k + 1) f fd ps sp := by
  obtain ⟨oc, od, kV, doc, pm, an, cdv, ct, osl, rfl, lk, hcd⟩ := F.ex
  exact fn_of lk hcd S len fun A outer s H vs Q E hr hsp => hbody cdv A outer s H vs Q E hr hsp
theorem Fun.okN {P : Program} {w : World} {K : PySem.W.Frag} {mg : Str → Option Value} {base : Heap} {x qual : Str} {st : Stmt} {f : Addr} {fd : FuncData} {N ps : List Str} {k : Nat} {sp : Sp} (F : Fun K x qual st f fd) (S : FnScope N ps (defScope st)) (len : ∀ vs H Q E, sp vs H Q E → vs.length = ps.length)
    (hbody : ∀ (cdv : Value) (A : Around) (outer : List Env) (s : Shared) (H : Hp) (vs : List V) (Q : VK) (E : XK), Room k (A.deeper (envOfC qual (defScope st) s.heap.objs.size f cdv)) → sp vs H Q E →
      ∃ t, PSs (cxF P w K mg base N qual (defScope st) f cdv A outer s H E).nox (defBody st) t ∧ t { nx := fun _ H' => Q .non H', rt := Q } (start N vs) H) : FnOk P w K mg base (Flown P w) (k + 1) f fd ps sp :=
  F.okF S len fun cdv A outer s H vs Q E hr h => let ⟨t, a, b⟩ := hbody cdv A outer s H vs Q E hr h; ⟨t, a.nox, b⟩
end L2
namespace L2
open PySem PySem.Spec PyProof.Rows
section
variable {X : Cx}

/-! ### weaker readings -/
theorem OpR.imp {f : Value → Value → Sem Value} {r r' : R2} (h : OpR X f r) (i : ∀ x y H Q, r' x y H Q → r x y H Q) : OpR X f r' := fun pins s σ H x y v u Q I rx ry q => h pins s σ H x y v u Q I rx ry (i _ _ _ _ q)
theorem IxR.imp {r r' : R2} (h : IxR X r) (i : ∀ x y H Q, r' x y H Q → r x y H Q) : IxR X r' := fun value slice pins s σ H x y v u Q I rx ry q hs => h value slice pins s σ H x y v u Q I rx ry (i _ _ _ _ q) hs

/-! ### names of the module -/
theorem pe_globI {x : Str} {i : Int} {pos : Pos} (hg : Gl X x) (hm : ∃ t, X.mg x = some (.int i t)) (hd : (x == ("__debug__" : Str)) = false := by decide) : PE X (.Name x pos) (tC (.int i)) := by
  obtain ⟨t, e⟩ := hm
  exact pe_glob hg e ⟨t, rfl⟩ hd

theorem pe_tyB {x : Str} {n : String} {pos : Pos} (hg : Gl X x) (hm : X.mg x = none) (hv : bootBuiltins x = some (.type n)) (hn : x ≠ "__name__" := by decide) (hd : (x == ("__debug__" : Str)) = false := by decide) : PE X (.Name x pos) (tC (.ty n)) :=
  pe_bltn hg hm hv (v := .ty n) rfl hn hd
/-! ### a call of a def of the text, the def's facts in one piece -/
structure Cal (P : Program) (w : World) (K : PySem.W.Frag) (mg : Str → Option Value) (base : Heap) (x : Str) (k : Nat) (ps : List Str) (sp : Sp) : Prop where
  ex : ∃ (g : Addr) (gd : FuncData), mg x = some (.ref g) ∧ PySem.W.keepIn K (.ref g) = true ∧ Binds K gd ps [] ∧ FnOk P w K mg base (Flown P w) k g gd ps sp
theorem pe_callC {x : Str} {k k' : Nat} {ps : List Str} {sp : Sp} {p pos : Pos} {e : Expr} {es : List Expr} {t : TA} (C : Cal X.prog X.w X.K X.mg X.base x k ps sp) (hr : Room k' X.A) (hg : Gl X x) (ha : PA X (e :: es) t)
    (hk : k ≤ k' := by decide) (hd : (x == ("__debug__" : Str)) = false := by decide)
    (he : starEach (e :: es) X.env = (false, eval e X.env) :: starEach es X.env := by rfl) (hpl : (backTo pos (starEach es X.env)).any (·.1) = false := by rfl) : PE X (.Call (.Name x p) (e :: es) [] pos) (tCall sp [] E0 t) := by
  obtain ⟨g, gd, hm, hkp, hb, F⟩ := C.ex
  exact pe_call F (hr.mono hk) hg hm hkp hb .nil passF0 ha hd he hpl
/-- .. of a def that may raise, in the body of one that may -/
theorem pe_callCF {P : Program} {w : World} {K : PySem.W.Frag} {mg : Str → Option Value} {base : Heap} {N : List Str} {qual : Str} {scope : Scope} {f : Addr} {cdv : Value} {A : Around} {outer : List Env} {s₀ : Shared} {H₀ : Hp} {E : XK}
    {x : Str} {k k' : Nat} {ps : List Str} {sp : Sp} {p pos : Pos} {e : Expr} {es : List Expr} {t : TA} (C : Cal P w K mg base x k ps sp) (hr : Room k' (cxF P w K mg base N qual scope f cdv A outer s₀ H₀ E).A) (hg : Gl (cxF P w K mg base N qual scope f cdv A outer s₀ H₀ E) x)
    (ha : PA (cxF P w K mg base N qual scope f cdv A outer s₀ H₀ E) (e :: es) t) (hk : k ≤ k' := by decide) (hd : (x == ("__debug__" : Str)) = false := by decide)
    (he : starEach (e :: es) (cxF P w K mg base N qual scope f cdv A outer s₀ H₀ E).env = (false, eval e (cxF P w K mg base N qual scope f cdv A outer s₀ H₀ E).env) :: starEach es (cxF P w K mg base N qual scope f cdv A outer s₀ H₀ E).env := by rfl)
    (hpl : (backTo pos (starEach es (cxF P w K mg base N qual scope f cdv A outer s₀ H₀ E).env)).any (·.1) = false := by rfl) :
    PE (cxF P w K mg base N qual scope f cdv A outer s₀ H₀ E) (.Call (.Name x p) (e :: es) [] pos) (tCall sp [] E t) := by
  obtain ⟨g, gd, hm, hkp, hb, F⟩ := C.ex
  exact pe_call (X := cxF P w K mg base N qual scope f cdv A outer s₀ H₀ E) F (hr.mono hk) hg hm hkp hb .nil pass_on ha hd he hpl

/-! ### + and * -/
theorem cat_tup0 {prog : Program} {w : World} {A : Around} {E : Value → Shared → Prop} {s : Shared} {t b : Addr} {vs ws : List Value} {Q : Value → Shared → Prop} (ht : IsTup s.heap t vs.toArray) (hb : IsTup s.heap b ws.toArray) (hv : vs = [])
    (h1 : Q (.ref b) s) : wpAny (model prog w) A (binaryOp .Add (.ref t) (.ref b)) Q E s := by
  obtain ⟨⟨cls, dd, data, sl⟩, ho, hc, n, hd⟩ := id ht
  obtain ⟨⟨cls2, dd2, data2, sl2⟩, ho2, hc2, n2, hd2⟩ := id hb
  simp only at hc hd hc2 hd2
  subst hc hd hc2 hd2
  exact concat_meets ⟨_, ho, rfl⟩ ⟨_, ho2, rfl⟩ noFill_tuple_add seq_tuple_add PySem.F.slot_tuple_add PySem.F.entry_tuple_add (PySem.F.args_tuple_add_2 _ _)
      (tuple_addW0 t b vs.toArray ws.toArray n n2 dd dd2 sl sl2 (by simp [hv])) ⟨ho, ho2, h1⟩
noncomputable def rCat0 (K : PySem.W.Frag) : R2 := fun x y H Q => ∃ a b ys, x = .ref a ∧ y = .ref b ∧ SqT K H a [] ∧ SqT K H b ys ∧ Q (.ref b) H
theorem op_cat0 : OpR X (binaryOp .Add) (rCat0 X.K) := by
  intro pins s σ H x y v u Q I rx ry h
  obtain ⟨a, b, ys, rfl, rfl, ha, hb, q⟩ := h
  cases rx
  cases ry
  obtain ⟨its, r1, p1, _⟩ := I.tuple ha
  obtain ⟨its2, r2, p2, _⟩ := I.tuple hb
  exact cat_tup0 p1 p2 (r1.nil_iff.mpr rfl) ⟨.ref b, H, I, rfl, q⟩
noncomputable def rAddV (K : PySem.W.Frag) : R2 := fun x y H Q => match x, y with
  | .int i, .int j => Q (.int (i + j)) H
  | .str i, .str j => i.length + j.length ≤ sizeLine ∧ Q (.str (i ++ j)) H
  | .ref a, .ref b => (∃ xs ys, H a = some (.lst xs) ∧ H b = some (.lst ys) ∧ xs.length + ys.length ≤ sizeLine ∧ ∀ p, H p = none → Q (.ref p) (upd H p (.lst (xs ++ ys)))) ∨
      (∃ xs ys, SqT K H a xs ∧ SqT K H b ys ∧ xs.length + ys.length ≤ sizeLine ∧ (xs = [] → Q (.ref b) H) ∧ (xs ≠ [] → ys = [] → Q (.ref a) H) ∧ (xs ≠ [] → ys ≠ [] → ∀ p, H p = none → Q (.ref p) (upd H p (.tup (xs ++ ys)))))
  | _, _ => False
theorem v_add : OpR X (binaryOp .Add) (rAddV X.K) := by
  refine ((op_add.or op_add_str).or (op_cat.or (op_catT.or op_cat0))).imp fun x y H Q h => ?_
  unfold rAddV at h
  split at h
  · exact .inl (.inl ⟨_, _, rfl, rfl, h⟩)
  · exact .inl (.inr ⟨_, _, rfl, rfl, h⟩)
  · rcases h with ⟨xs, ys, h1, h2, h3, h4⟩ | ⟨xs, ys, h1, h2, h3, h4, h5, h6⟩
    · exact .inr (.inl ⟨_, _, xs, ys, rfl, rfl, h1, h2, h3, h4⟩)
    · by_cases hx : xs = []
      · subst hx
        exact .inr (.inr (.inr ⟨_, _, ys, rfl, rfl, h1, h2, h4 rfl⟩))
      · exact .inr (.inr (.inl ⟨_, _, xs, ys, rfl, rfl, h1, h2, hx, h3, h5 hx, h6 hx⟩))
  · exact h.elim
noncomputable def rMulV : R2 := fun x y H Q => match x, y with
  | .int i, .int j => IntMulOk i j ∧ Q (.int (i * j)) H
  | .ref l, .int k => ∃ xs, H l = some (.lst xs) ∧ -(2 ^ 63) ≤ k ∧ k < 2 ^ 63 ∧ xs.length * k.toNat ≤ sizeLine ∧ ∀ p, H p = none → Q (.ref p) (upd H p (.lst (List.replicate k.toNat xs).flatten))
  | _, _ => False
theorem op_mulG : OpR X (binaryOp .Mult) (rI IntMulOk fun i j => .int (i * j)) := opI fun _ _ _ _ _ _ _ hc q => mul_int q hc
theorem v_mul : OpR X (binaryOp .Mult) rMulV := by
  refine (op_mulG.or op_rep).imp fun x y H Q h => ?_
  unfold rMulV at h
  split at h
  · exact .inl ⟨_, _, rfl, rfl, h.1, h.2⟩
  · obtain ⟨xs, h1, h2, h3, h4, h5⟩ := h
    exact .inr ⟨_, _, xs, rfl, rfl, h1, h2, h3, h4, h5⟩
  · exact h.elim

/-! ### an item, a slice -/
noncomputable def rIxV (K : PySem.W.Frag) : R2 := fun x y H Q => match x, y with
  | .ref p, .int i => ∃ xs v, (SqL K H p xs ∨ SqT K H p xs) ∧ atI xs i = some v ∧ Q v H
  | .str z, .int i => ∃ c, z.length ≤ sizeLine ∧ atI z.cps.toList i = some c ∧ Q (.str ⟨#[c]⟩) H
  | _, _ => False
theorem v_ix : IxR X (rIxV X.K) := by
  refine ix_seq.imp fun x y H Q h => ?_
  unfold rIxV at h
  split at h
  · obtain ⟨xs, v, h1 | h1, h2, h3⟩ := h
    · exact .inl ⟨_, xs, _, v, rfl, rfl, h1, h2, h3⟩
    · exact .inr (.inl ⟨_, xs, _, v, rfl, rfl, h1, h2, h3⟩)
  · obtain ⟨c, h1, h2, h3⟩ := h
    exact .inr (.inr ⟨_, _, c, rfl, rfl, h1, h2, h3⟩)
  · exact h.elim

/-! ### isinstance of built-in types -/
noncomputable def tyNm (H : Hp) : V → Option String
  | .non => some "NoneType"
  | .bl _ => some "bool"
  | .int _ => some "int"
  | .str _ => some "str"
  | .ref a => match H a with
    | some (.lst _) => some "list"
    | some (.frz _ (.lst _)) => some "list"
    | some (.tup _) => some "tuple"
    | some (.dK _) => some "dict"
    | _ => none
  | _ => none
noncomputable def subB (t c : String) : Bool := t == c || (t == "bool" && c == "int")
theorem kit_b {K : PySem.W.Frag} {t c : String} (ht : t ∈ ["NoneType", "bool", "int", "str", "list", "tuple", "dict"]) (hc : c ∈ ["int", "bool", "tuple", "list", "str", "dict"]) : PySem.W.kitOne K (.type t) (.type c) = some (subB t c) := by
  simp only [List.mem_cons, List.not_mem_nil, or_false] at ht hc
  rcases ht with rfl | rfl | rfl | rfl | rfl | rfl | rfl <;> rcases hc with rfl | rfl | rfl | rfl | rfl | rfl <;> kernel_rfl
theorem tyNm_of {K : PySem.W.Frag} {H : Hp} {x : V} {t : String} (h : tyNm H x = some t) : TyOf K H x (.type t) ∧ t ∈ ["NoneType", "bool", "int", "str", "list", "tuple", "dict"] := by
  unfold tyNm at h
  split at h
  · cases h; exact ⟨.non, by simp⟩
  · cases h; exact ⟨.bl _, by simp⟩
  · cases h; exact ⟨.int _, by simp⟩
  · cases h; exact ⟨.str _, by simp⟩
  · split at h
    · rename_i e; cases h; exact ⟨.lst e, by simp⟩
    · rename_i e; cases h; exact ⟨.frz e, by simp⟩
    · rename_i e; cases h; exact ⟨.tup e, by simp⟩
    · rename_i e; cases h; exact ⟨.dK e, by simp⟩
    · cases h
  · cases h
theorem v_isinstance : CallR X (.builtin "isinstance") (fun xs H Q => ∃ x c t, xs = [x, .ty c] ∧ tyNm H x = some t ∧ c ∈ ["int", "bool", "tuple", "list", "str", "dict"] ∧ Q (.bl (subB t c)) H) := by
  intro pins s σ H xs us Q I r h
  obtain ⟨x, c, t, rfl, ht, hc, q⟩ := h
  obtain ⟨u, v, rfl, ru, rv⟩ := r.two
  cases rv
  obtain ⟨ty, hm⟩ := tyNm_of (K := X.K) ht
  exact isinst_ok I ru ty (kit_b hm hc) fun tk => ⟨.bl _, H, I.tok tk, rfl, q⟩

/-! ### all of a list of bools, the sum of a list of ints -/
theorem bools_of : ∀ {bs : List Bool} {us : List Value}, Vals (bs.map V.bl) us → us = bs.map Value.bool
  | [], _, .nil => rfl
  | b :: bs, _, .cons r t => by
    have e := bools_of (bs := bs) t
    cases (show _ = Value.bool b from r)
    rw [e]; rfl
theorem kept_iter' {s : Shared} {h' : Heap} {o : Obj} (hk : ∀ b x, b ∉ [s.heap.objs.size] → (s.heap.push o).get? b = some x → h'.get? b = some x) : ∀ b x, s.heap.get? b = some x → h'.get? b = some x :=
  fun b x e => hk b x (fun hm => by rw [List.mem_singleton.mp hm] at e; exact Nat.lt_irrefl _ (Heap.lt_size e)) (Heap.get?_push_of_some _ e)
theorem v_all (hc : X.calm = true) : CallR X (.builtin "all") (fun xs H Q => ∃ (l : Addr) (bs : List Bool), xs = [.ref l] ∧ SqL X.K H l (bs.map V.bl) ∧ Q (.bl (bs.all id)) H) := by
  intro pins s σ H xs us Q I r h
  obtain ⟨l, bs, rfl, hl, q⟩ := h
  obtain ⟨u, rfl, ru⟩ := r.one
  cases ru
  obtain ⟨its, rv, pl, hz⟩ := I.list hl
  have eb := bools_of rv
  subst eb
  have hl' := pl.isList
  have hlt : l < s.heap.objs.size := by obtain ⟨_, e, _⟩ := hl'; exact Heap.lt_size e
  refine call_all_walk (wpAny_pyIter_list hl' ?_)
  refine ⟨s.heap.objs.size, [s.heap.objs.size, l], [s.heap.objs.size], (bs.map Value.bool).toArray.size, _, _, fun i => (bs[i]?).getD true, rfl, Walks.list (A := X.A.in1) (I.ok.hd hc) _ l (Nat.ne_of_lt hlt) (bs.map Value.bool).toArray,
    ⟨⟨_, Heap.get?_push_size _ rfl, rfl, rfl⟩, hl'.push _⟩, fun i v s' Q' E' hP hQ => ?_, fun h' tk hk => ?_⟩
  · have hP' : (bs.map Value.bool)[i]? = some v := by simpa using hP
    rw [List.getElem?_map] at hP'
    cases e : bs[i]? with
    | none => rw [e] at hP'; cases hP'
    | some b =>
      rw [e] at hP'
      cases hP'
      dsimp only at hQ
      rw [e] at hQ
      exact wpAny_truthy_bool hQ
  · have e2 : ((List.range (bs.map Value.bool).toArray.size).all fun i => (bs[i]?).getD true) = bs.all id := by
      rw [List.size_toArray, List.length_map]
      rw [Bool.eq_iff_iff, List.all_eq_true, List.all_eq_true]
      constructor
      · intro hh x hx
        obtain ⟨i, hi, e⟩ := List.mem_iff_getElem.mp hx
        have := hh i (List.mem_range.mpr hi)
        rw [List.getElem?_eq_getElem hi, e] at this
        exact this
      · intro hh i hi
        have hi' := List.mem_range.mp hi
        rw [List.getElem?_eq_getElem hi']
        exact hh _ (List.getElem_mem hi')
    have fin : EP X pins σ Q (.bool (bs.all id)) { s with heap := h', toks := tk } := ⟨.bl _, H, I.kept (kept_iter' hk), rfl, q⟩
    first | (rw [e2]; exact fin) | (simpa [e2] using fin)
/-! ### what is walked: a list or a tuple -/
noncomputable def iSeq (K : PySem.W.Frag) (tl : TE) : TI := fun σ H R => tl σ H fun x H1 => ∃ a, x = .ref a ∧ (((∃ xs, SqL K H1 a xs) ∧ R (Itl K a) H1) ∨ ((∃ xs, SqT K H1 a xs) ∧ R (Itt K a) H1))
theorem pi_seq {tg l : Expr} {tl : TE} (hl : PE X l tl) : PI X tg l (iSeq X.K tl) := by
  intro pins s σ H R I h
  refine thn (hl pins s σ H _ I h) fun v s1 ⟨x, H1, I1, r1, a, e, q⟩ => ?_
  subst e
  cases r1
  rcases q with ⟨⟨xs, hq⟩, q⟩ | ⟨⟨xs, hq⟩, q⟩
  · have hh : PI X tg l (iList X.K fun σ' H' Q => Q (.ref a) H') → True := fun _ => trivial
    obtain ⟨its, rv, p, hz⟩ := I1.list hq
    refine wpAny_pyIter_list p.isList ?_
    refine ⟨s1.heap.objs.size, [s1.heap.objs.size], _, _, H1, rfl, I1.kept (t' := s1.toks) fun b o e => Heap.get?_push_of_some _ e, turn_list a _, ⟨_, Heap.get?_push_size _ rfl, rfl, rfl⟩, fun b hb => ?_, q⟩
    have e : b = s1.heap.objs.size := by simpa using hb
    subst e
    exact I1.fpOk (Nat.le_refl _) (I1.hok.fresh (Nat.le_refl _))
  · obtain ⟨its, rv, p, hz⟩ := I1.tuple hq
    refine wpAny_pyIter_tuple (show s1.heap.IsTuple a its.toArray from p) ?_
    refine ⟨s1.heap.objs.size, [s1.heap.objs.size], _, _, H1, rfl, I1.kept (t' := s1.toks) fun b o e => Heap.get?_push_of_some _ e, turn_tuple a _, ⟨_, Heap.get?_push_size _ rfl, rfl, rfl⟩, fun b hb => ?_, q⟩
    have e : b = s1.heap.objs.size := by simpa using hb
    subst e
    exact I1.fpOk (Nat.le_refl _) (I1.hok.fresh (Nat.le_refl _))
end
end L2
namespace L2
open PySem PySem.Spec PyProof.Rows

/-! ### a list comprehension of one clause: its block, its rule -/
theorem closure_go {env : Env} : ∀ (names : List (Str × NameKind)) (acc : List (Str × Addr)), (∀ y ∈ names, y.2 = .free → ∃ c, env.cells.lookup y.1 = some c) → (∀ p ∈ acc, env.cells.lookup p.1 = some p.2) →
   ∃ cl, (forIn names acc fun (y : Str × NameKind) (cs : List (Str × Addr)) => match y with | (name, kind) => if (kind == .free) = true then do let a ← cellOf env name; pure (ForInStep.yield ((name, a) :: cs)) else pure (ForInStep.yield cs)) = (pure cl : Sem _) ∧ (∀ p ∈ cl, env.cells.lookup p.1 = some p.2) ∧ (∀ p ∈ acc, p ∈ cl) ∧ ∀ y ∈ names, y.2 = .free → ∃ c, (y.1, c) ∈ cl
  | [], acc, _, ha => ⟨acc, rfl, ha, fun _ h => h, fun _ h => nomatch h⟩
  | (n, k) :: r, acc, hf, ha => by
    have hr : ∀ y ∈ r, y.2 = .free → ∃ c, env.cells.lookup y.1 = some c := fun y hy => hf y (List.mem_cons_of_mem _ hy)
    by_cases hk : k = .free
    · subst hk
      obtain ⟨c, hc⟩ := hf (n, .free) List.mem_cons_self rfl
      obtain ⟨cl, e, h1, h2, h3⟩ := closure_go r ((n, c) :: acc) hr (fun p hp => by
        rcases List.mem_cons.mp hp with rfl | hp
        · exact hc
        · exact ha p hp)
      refine ⟨cl, ?_, h1, fun p hp => h2 p (List.mem_cons_of_mem _ hp), fun y hy hyf => ?_⟩
      · rw [List.forIn_cons]
        simp only [beq_self_eq_true, if_true, cellOf, hc, pure_bind]
        exact e
      · rcases List.mem_cons.mp hy with rfl | hy
        · exact ⟨c, h2 _ List.mem_cons_self⟩
        · exact h3 y hy hyf
    · have hb : (k == NameKind.free) = false := by simpa using hk
      obtain ⟨cl, e, h1, h2, h3⟩ := closure_go r acc hr ha
      refine ⟨cl, ?_, h1, h2, fun y hy hyf => ?_⟩
      · rw [List.forIn_cons]
        simp only [hb, Bool.false_eq_true, if_false, pure_bind]
        exact e
      · rcases List.mem_cons.mp hy with rfl | hy
        · exact absurd hyf hk
        · exact h3 y hy hyf
theorem closure_ok {env : Env} {scope : Scope} (hf : ∀ y ∈ scope.names, y.2 = .free → ∃ c, env.cells.lookup y.1 = some c) :
    ∃ cl, closureFor scope env = pure cl ∧ (∀ x c, cl.lookup x = some c → env.cells.lookup x = some c) ∧ ∀ y ∈ scope.names, y.2 = .free → ∃ c, cl.lookup y.1 = some c := by
  obtain ⟨cl, e, h1, _, h3⟩ := closure_go (env := env) scope.names [] hf (fun _ h => nomatch h)
  refine ⟨cl, ?_, fun x c h => h1 (x, c) (PySem.mem_of_lookup h), fun y hy hyf => ?_⟩
  · unfold closureFor
    simp only [bind_pure_comp] at e ⊢
    rw [e]
    rfl
  · obtain ⟨c, hc⟩ := h3 y hy hyf
    cases q : cl.lookup y.1 with
    | some d => exact ⟨d, rfl⟩
    | none =>
      have z := List.lookup_eq_none_iff.mp q (y.1, c) hc
      simp at z

noncomputable def cEnv (sc : Scope) (cl : List (Str × Addr)) (C : Addr) (env : Env) : Env :=
  { scope := sc, locals := C, globals := env.globals, cells := cl, qual := env.qual, func := none, code := env.code, frame := env.frame, builtins := env.builtins }
/-- the context of the block -/
noncomputable def cCx (X : Cx) (sc : Scope) (N : List Str) (cl : List (Str × Addr)) (C : Addr) (s₀ : Shared) (H₀ : Hp) (ex : List Addr) : Cx :=
  { X with env := cEnv sc cl C X.env, N := N, s₀ := s₀, H₀ := H₀, outer := X.stack, ex := ex, fn := fun _ => false, pn := [], xe := fun _ _ => False }
/-- the block's names: new ones (none), and those of the def around it, by their slots there -/
noncomputable def cst (ix : List (Option Nat)) (σ : St) : St := ix.map fun o => match o with
  | none => none
  | some i => match σ[i]? with
    | some v => v
    | none => none

noncomputable def PIf (X : Cx) (ifs : List Expr) (t : TT) : Prop :=
  ∀ (pins : List (Addr × Obj)) (s : Shared) (σ : St) (H : Hp) (Q : Bool → Hp → Prop), Inv X pins σ H s → t σ H Q →
    wpAny (model X.prog X.w) X.A (forIn ifs true fun c r => if r = true then do let ok ← isTrue c X.env (eval c X.env); pure (ForInStep.yield ok) else pure (ForInStep.yield r)) (TP X pins σ Q) X.xe s
noncomputable def tYes : TT := fun _ H Q => Q true H
theorem pif_nil {X : Cx} : PIf X [] tYes := fun _ _ _ H _ I h => wpAny_tests_nil ⟨H, I, h⟩
theorem codeAny_compLoop_any {prog : Program} {w : World} {A : Around} {R : Result → Shared → Prop} {s : Shared} {elt target iter : Expr} {ifs : List Expr} {scope : Scope} {pos : Pos} {it acc : Value} {env : Env} (I : Nat → Shared → Prop)
    (turn : ∀ n s, I n s → wpAny (model prog w) A (pyNext it) (fun r s₁ => match r with
      | none => R (.ok .next) s₁
      | some v => wpAny (model prog w) A (letOwnedTupleGo target it v) (fun _ s₀ => wpAny (model prog w) A (assign target env v) (fun _ s₂ =>
          wpAny (model prog w) A (forIn ifs true fun c r => if r = true then do let ok ← isTrue c env (eval c env); pure (ForInStep.yield ok) else pure (ForInStep.yield r)) (fun ok s₃ =>
            if ok = true then wpAny (model prog w) A (eval elt env) (fun x s₄ =>
              wpAny (model prog w) A (call (.builtin "list.append") [acc, x]) (fun _ s₅ => ∃ m, m < n ∧ I m s₅) (fun _ _ => False) s₄) (fun _ _ => False) s₃
            else ∃ m, m < n ∧ I m s₃) (fun _ _ => False) s₂) (fun _ _ => False) s₀) (fun _ _ => False) s₁) (fun _ _ => False) s)
    (n : Nat) (h : I n s) :
    codeAny (model prog w) A (.compLoop (.ListComp elt [⟨target, iter, ifs, 0⟩] scope pos) 0 it acc env) R s := by
  refine codeAny_loop rfl I (fun n s hI => ?_) n h
  show wpAny _ A ((compTurn (.ListComp elt [⟨target, iter, ifs, 0⟩] scope pos) 0 it acc env).onRaise (fun x => do noteFrame x env; theTreesLotGoes x)) _ _ s
  refine wpAny_noted ?_
  rw [compTurn_list]
  refine wpAny_bind (wpAny_standAt (wpAny_bind (wpAny_mono (turn n s hI) (fun r s₁ h₁ => ?_) fun _ _ h' => h'.elim)))
  cases r with
  | none => exact wpAny_pure h₁
  | some v =>
    refine wpAny_bind (wpAny_mono h₁ (fun _ s₀ h₀ => ?_) fun _ _ h' => h'.elim)
    refine wpAny_bind (wpAny_mono h₀ (fun _ s₂ h₂ => wpAny_bind (wpAny_mono h₂ (fun ok s₃ h₃ => ?_) fun _ _ h' => h'.elim)) fun _ _ h' => h'.elim)
    cases ok with
    | false => exact wpAny_pure ⟨rfl, h₃⟩
    | true =>
      exact wpAny_bind (wpAny_bind (wpAny_mono h₃ (fun x s₄ h₄ => wpAny_bind (wpAny_mono h₄ (fun _ s₅ h₅ => wpAny_pure (wpAny_pure ⟨rfl, h₅⟩)) fun _ _ h' => h'.elim)) fun _ _ h' => h'.elim))

/-- the block's loop (D: the new list; W: the invariant by the turn and a measure, over the block's names); a structure, so that nothing opens it by itself -/
structure CompK (ix : List (Option Nat)) (g : TG) (tc : TT) (te : TE) (σ : St) (Q : VK) (J : It) (H1 : Hp) : Prop where
  go : ∀ D, H1 D = none → ∃ W : Nat → Nat → St → Hp → Prop, (∃ m, W 0 m (cst ix σ) (upd H1 D (.lst []))) ∧
    ∀ i m σ' H', W i m σ' H' → (J.stop i H' ∧ Q (.ref D) H') ∨ (J.go i H' ∧ ∀ x H2, J.yld i H' x H2 → g x σ' H2 fun σ3 H3 => tc σ3 H3 fun b H4 =>
      if b = true then te σ3 H4 fun y H5 => ∃ ys, H5 D = some (.lst ys) ∧ ys.length < sizeLine ∧ ∃ m', m' < m ∧ W (i + 1) m' σ3 (upd H5 D (.lst (ys ++ [y])))
      else ∃ m', m' < m ∧ W (i + 1) m' σ3 H4)
noncomputable def tComp (ix : List (Option Nat)) (wi : TI) (g : TG) (tc : TT) (te : TE) : TE := fun σ H Q => wi σ H fun J H1 => CompK ix g tc te σ Q J H1

structure CompOk (X : Cx) (scope sc : Scope) (N : List Str) (ix : List (Option Nat)) : Prop where
  rel : relabel scope X.env = sc
  kind : scope.kind = .function
  cell : ∀ y ∈ scope.names, y.2 ≠ .cell
  names : ∀ x ∈ scope.names, x.2 = .local → scope.names.lookup x.1 = some .local
  free : ∀ y ∈ scope.names, y.2 = .free → X.env.kindOf y.1 = some .cell ∨ X.env.kindOf y.1 = some .free
  len : N.length = ix.length
  ix : ∀ (j : Nat) (x : Str) (i : Nat), N[j]? = some x → ix[j]? = some (some i) → X.N[i]? = some x ∧ (x, NameKind.free) ∈ scope.names ∧ (sc.names.lookup x = some .cell ∨ sc.names.lookup x = some .free)
  has : ∀ x, (sc.names.lookup x = some .cell ∨ sc.names.lookup x = some .free) → (x, NameKind.free) ∈ scope.names

theorem comp_core {X : Cx} {tg iter elt : Expr} {ifs : List Expr} {scope sc : Scope} {pos ip : Pos} {wi : TI} {g : TG} {tc : TT} {te : TE} {N : List Str} {ix : List (Option Nat)} (O : CompOk X scope sc N ix) (hc : X.calm = true) (hi : PI X tg iter wi)
    (hb : ∀ cl C s₀ H₀ ex, PG (cCx X sc N cl C s₀ H₀ ex) tg g ∧ PIf (cCx X sc N cl C s₀ H₀ ex) ifs tc ∧ PE (cCx X sc N cl C s₀ H₀ ex) elt te) (hs : ∀ x, foldedSetIterable iter X.env x = pure x)
    {use : Option (Value → Sem Unit)} {QQ : Value → Shared → Prop} {pins : List (Addr × Obj)} {s : Shared} {σ : St} {H : Hp} {Q : VK} (I : Inv X pins σ H s) (h : tComp ix wi g tc te σ H Q)
    (fin : ∀ (D C : Addr) (s6 : Shared) (H5 : Hp) (m : Str → Option Value), Inv X pins σ H5 s6 → s6.heap.Ns C m → FpOk X pins H5 C → Q (.ref D) H5 → compPost (model X.prog X.w) X.A X.xe use QQ (.ref D) C (.ok .next) s6) :
    wpAny (model X.prog X.w) X.A (comprehension (.ListComp elt [⟨tg, iter, ifs, 0⟩] scope pos) scope X.env ip (newList []) false (eval iter X.env) use) QQ X.xe s := by
  have hcl : ∃ cl, closureFor scope X.env = pure cl ∧ (∀ x c, cl.lookup x = some c → X.env.cells.lookup x = some c) ∧ ∀ y ∈ scope.names, y.2 = .free → ∃ c, cl.lookup y.1 = some c :=
    closure_ok fun y hy hf => I.ok.has y.1 (O.free y hy hf)
  obtain ⟨cl, ecl, hcl1, hcl2⟩ := hcl
  refine wpAny_comprehension_free (use := use) rfl hs ecl O.kind O.names (thn (hi pins s σ H _ I h) fun v s1 h1 => thn h1 fun itv s2 h2 => ?_)
  obtain ⟨it, fp, tn, J, H2, e, I2, T, st2, f2, q2⟩ := h2
  subst e
  obtain ⟨W, ⟨m0, w0⟩, turn⟩ := q2.go s2.heap.objs.size I2.fresh
  -- the new list
  refine wpAny_newObj_type ?_
  have I3 := I2.lnew (its := []) (t' := s2.toks) (ys := []) .nil (Nat.zero_le _)
  generalize eH3 : upd H2 s2.heap.objs.size (.lst []) = H3 at I3 w0
  have eD : H3 s2.heap.objs.size = some (.lst []) := by rw [← eH3]; exact upd_same
  have hfp2 : ∀ b ∈ fp, b ≠ s2.heap.objs.size := fun b hb z => by
    obtain ⟨o, ho, _⟩ := T.obj _ _ st2 b hb
    exact absurd (Heap.lt_size ho) (by rw [z]; exact Nat.lt_irrefl _)
  have st3 : tn 0 (s2.heap.push { cls := .type "list", dict := none, data := .seq ([] : List Value).toArray }) := T.keep _ _ _ st2 fun b _ o e => Heap.get?_push_of_some _ e
  have f3 : ∀ b ∈ fp, FpOk X pins H3 b := fun b hb => ⟨by rw [← eH3, upd_ne (hfp2 b hb)]; exact (f2 b hb).1, (f2 b hb).2⟩
  generalize es3 : ({ s2 with heap := s2.heap.push { cls := .type "list", dict := none, data := .seq ([] : List Value).toArray }, toks := s2.toks } : Shared) = s3 at I3
  have st3' : tn 0 s3.heap := by rw [← es3]; exact st3
  -- the block's frame
  refine wpAny_newFunctionEnv O.cell (fun y hy => nomatch hy) (fun h4 hns4 hsb4 => ?_) O.kind
  have keep4 : ∀ b o, s3.heap.get? b = some o → h4.get? b = some o := fun b o e => (hsb4.2 b (Nat.ne_of_lt (Heap.lt_size e))).trans (Heap.get?_push_of_some _ e)
  have I4 : Inv X pins σ H3 { s3 with heap := h4, toks := s3.toks + ([] : List (Str × Value)).length } := I3.kept keep4
  have eenv : ({ newEnv scope s3.heap.objs.size X.env.globals cl X.env.qual none .none (some X.env) builtinsNs with scope := relabel scope X.env } : Env) = cEnv sc cl s3.heap.objs.size X.env := by rw [O.rel]; rfl
  rw [eenv]
  show codeAny _ _ _ (compPost (model X.prog X.w) X.A X.xe use QQ (.ref s2.heap.objs.size) s3.heap.objs.size) _
  generalize eC : s3.heap.objs.size = C
  generalize es4 : ({ s3 with heap := h4, toks := s3.toks + ([] : List (Str × Value)).length } : Shared) = s4 at I4
  have h4s : s4.heap = h4 := by rw [← es4]
  have o4s : s4.os = s3.os := by rw [← es4]
  have fC : ∀ b ∈ fp, b ≠ C := fun b hb z => by
    obtain ⟨o, ho, _⟩ := T.obj _ _ st3' b hb
    exact absurd (Heap.lt_size ho) (by rw [z, eC]; exact Nat.lt_irrefl _)
  have okC : (cCx X sc N cl C s3 H3 fp).Ok := by
    refine ⟨I3.ok.mod, ?_, I3.ok.glob, I3.ok.blt, Nat.le_of_eq eC, fun x y c h1 h2 => I3.ok.inj x y c (hcl1 x c h1) (hcl1 y c h2), fun x hx => ?_, fun x c z _ => (nomatch z), I3.ok.hd, I3.ok.frames, .inl rfl, fun b hb => ⟨fC b hb, fun x c e => (f3 b hb).2.2.2.2.1 x c (hcl1 x c e)⟩,
      I3.bs, Nat.le_trans I3.ok.bsz I3.sz, fun b o e hb => ?_, fun b hb z => ?_, I3.stack, I3.stkFree⟩
    · show sc.kind = .function
      rw [← O.rel]; exact O.kind
    · exact hcl2 (x, .free) (O.has x hx) rfl
    · rcases (f3 b hb).2.2.2.1 with z | z
      · exact I3.ok.noex b o e z
      · exact absurd (Nat.lt_of_lt_of_le (Heap.lt_size e) (Nat.le_trans I3.ok.bsz z)) (Nat.lt_irrefl _)
    · rcases List.mem_cons.mp (I3.stkSub b z) with z | z
      · exact (f3 b hb).2.1 z
      · exact (f3 b hb).2.2.1 z
  have IC : Inv (cCx X sc N cl C s3 H3 fp) [] (cst ix σ) H3 s4 := by
    refine ⟨okC, o4s, I4.bare, ?_, ?_, fun x c e => I4.cell x c (hcl1 x c e), ?_, fun x c e => I4.freeC x c (hcl1 x c e), fun p hp => (nomatch hp), I4.hok, ?_⟩
    · rw [h4s]
      exact Un.kept keep4
    · refine ⟨_, by rw [h4s, ← eC]; exact hns4, fun j x v e1 e2 e3 => ?_⟩
      have e2' : (cst ix σ)[j]? = some (some v) := e2
      unfold cst at e2'
      rw [List.getElem?_map] at e2'
      cases q : ix[j]? with
      | none => rw [q] at e2'; cases e2'
      | some o =>
        rw [q] at e2'
        cases o with
        | none => cases e2'
        | some i =>
          obtain ⟨hx, hm, hsc⟩ := O.ix j x i e1 q
          cases q2 : σ[i]? with
          | none => simp [q2] at e2'
          | some w' =>
            simp [q2] at e2'
            subst e2'
            obtain ⟨m, hn, hl⟩ := I4.loc
            have kf := O.free (x, .free) hm rfl
            have vis : Vis X.env.scope x := by
              rcases kf with k | k
              · exact .inr (.inl k)
              · exact .inr (.inr k)
            obtain ⟨u, r, l⟩ := hl i x v hx q2 vis
            refine ⟨u, r, ?_⟩
            rcases l with ⟨k, _⟩ | ⟨_, c, e, z⟩
            · rcases kf with k' | k'
              · rw [k] at k'; cases k'
              · rw [k] at k'; cases k'
            · obtain ⟨c', e'⟩ := hcl2 (x, .free) hm rfl
              have := hcl1 x c' e'
              rw [e] at this; cases this
              exact .inr ⟨hsc, c, e', z⟩
    · rw [← eC]
      exact I3.fresh
    · show (cst ix σ).length = N.length
      rw [O.len]; simp [cst]
  have st4 : tn 0 s4.heap := T.keep _ _ _ st3' fun b _ o e => by rw [h4s]; exact keep4 b o e
  have stat : ∀ {H' : Hp}, (∀ b ∈ fp, H' b = none) → ∀ b ∈ fp, FpOk (cCx X sc N cl C s3 H3 fp) [] H' b := fun hn b hb =>
    ⟨hn b hb, fC b hb, okC.exfs b hb, .inl hb, fun x c e => (f3 b hb).2.2.2.2.1 x c (hcl1 x c e), fun p hp => (nomatch hp)⟩
  obtain ⟨hg, ht, he⟩ := hb cl C s3 H3 fp
  -- the loop
  have loop : codeAny (model X.prog X.w) X.A (.compLoop (.ListComp elt [⟨tg, iter, ifs, 0⟩] scope pos) 0 (.ref it) (.ref s2.heap.objs.size) (cEnv sc cl C X.env))
      (compPost (model X.prog X.w) X.A X.xe use QQ (.ref s2.heap.objs.size) C) s4 := by
    refine codeAny_compLoop_any (fun n s' => ∃ i σ' H', Inv (cCx X sc N cl C s3 H3 fp) [] σ' H' s' ∧ tn i s'.heap ∧ (∀ b ∈ fp, H' b = none) ∧ W i n σ' H') ?_ m0 ⟨0, cst ix σ, H3, IC, st4, fun b hb => (f3 b hb).1, w0⟩
    rintro n s5 ⟨i, σ5, H5, I5, st5, fr5, w5⟩
    rcases turn i n σ5 H5 w5 with ⟨stop, qn⟩ | ⟨go, step⟩
    · refine thn (T.done (cCx X sc N cl C s3 H3 fp) rfl rfl rfl hc i [] s5 σ5 H5 (fun _ _ => False) I5 (stat fr5) st5 stop) fun r s6 ⟨hr, I6⟩ => ?_
      subst hr
      obtain ⟨m, hn, _⟩ := id I6.loc
      have I7 : Inv X pins σ H5 s6 := I3.call' (ch := fp) I6.os I6.base I6.hok I6.bare fun b hb => ⟨(f3 b hb).2.2.2.1, (f3 b hb).2.1, (f3 b hb).2.2.2.2.1, (f3 b hb).2.2.2.2.2⟩
      exact fin _ C s6 H5 m I7 hn (I3.fpOk (Nat.le_of_eq eC) I6.free) qn
    · refine thn (T.item (cCx X sc N cl C s3 H3 fp) rfl rfl rfl hc i [] s5 σ5 H5 (fun _ _ => False) I5 (stat fr5) st5 go) fun r s6 ⟨u, hr, h6⟩ => ?_
      subst hr
      refine thn h6 fun _ s7 ⟨x, H7, I7, r7, y7, st7, fr7⟩ => ?_
      have I7' := I7.pinned (stat fr7) (T.obj _ _ st7)
      have again : ∀ {σ9 : St} {H9 : Hp} {s9 : Shared} {m' : Nat}, Inv (cCx X sc N cl C s3 H3 fp) ([] ++ pinsAt fp s7.heap) σ9 H9 s9 → m' < n → W (i + 1) m' σ9 H9 →
          ∃ m, m < n ∧ ∃ i σ' H', Inv (cCx X sc N cl C s3 H3 fp) [] σ' H' s9 ∧ tn i s9.heap ∧ (∀ b ∈ fp, H' b = none) ∧ W i m σ' H' := fun {σ9 H9 s9 m'} I9 hm w9 => by
        refine ⟨m', hm, i + 1, σ9, H9, I9.unpinned, T.keep _ _ _ st7 fun b hb o e => (I9.pin (b, o) (List.mem_append_right _ (List.mem_append_right _ (mem_pinsAt hb e)))).1, fun b hb => ?_, w9⟩
        obtain ⟨o, e, d⟩ := T.obj _ _ st7 b hb
        exact (I9.pin (b, o) (List.mem_append_right _ (List.mem_append_right _ (mem_pinsAt hb e)))).2.1
      refine thn (hg _ s7 σ5 H7 x u _ I7' r7 (step x H7 y7)) fun _ s8 ⟨σ8, H8, I8, q8⟩ => ?_
      refine thn (ht _ s8 σ8 H8 _ I8 q8) fun b s9 ⟨H9, I9, q9⟩ => ?_
      cases b with
      | false =>
        rw [if_neg Bool.false_ne_true] at q9
        obtain ⟨m', hm, w9⟩ := q9
        rw [if_neg Bool.false_ne_true]
        exact again I9 hm w9
      | true =>
        rw [if_pos rfl] at q9
        rw [if_pos rfl]
        refine thn (he _ s9 σ8 H9 _ I9 q9) fun y s10 ⟨yv, H10, I10, r10, ys, e10, z10, m', hm, w10⟩ => ?_
        refine thn (mt_append _ s10 σ8 H10 (.ref s2.heap.objs.size) [yv] (.ref s2.heap.objs.size) [y] (fun _ H' => W (i + 1) m' σ8 H') I10 rfl (.cons r10 .nil) ⟨_, ys, yv, rfl, rfl, e10, z10, w10⟩) fun _ s11 ⟨_, H11, I11, _, w11⟩ => ?_
        exact again I11 hm w11
  exact codeAny_compStart_list loop (T.self _ _ _ _ _ st4 loop)
theorem pe_comp {X : Cx} {tg iter elt : Expr} {ifs : List Expr} {scope sc : Scope} {pos : Pos} {wi : TI} {g : TG} {tc : TT} {te : TE} {N : List Str} {ix : List (Option Nat)} (O : CompOk X scope sc N ix) (hc : X.calm = true) (hi : PI X tg iter wi)
    (hb : ∀ cl C s₀ H₀ ex, PG (cCx X sc N cl C s₀ H₀ ex) tg g ∧ PIf (cCx X sc N cl C s₀ H₀ ex) ifs tc ∧ PE (cCx X sc N cl C s₀ H₀ ex) elt te)
    (hs : ∀ x, foldedSetIterable iter X.env x = pure x := by intro _; rfl) : PE X (.ListComp elt [⟨tg, iter, ifs, 0⟩] scope pos) (tComp ix wi g tc te) := by
  intro pins s σ H Q I h
  rw [eval_ListComp]
  exact comp_core (use := none) (QQ := EP X pins σ Q) O hc hi hb hs I h fun D C s6 H5 m I7 hn f q => ⟨m, hn, fun h' hs' => ⟨.ref D, H5, I7.turned (it := C) (t' := s6.toks) (fun b o hb e => (hs'.2 b hb).trans e) f.1 f.2.1 f.2.2.2.1 f.2.2.2.2.1 f.2.2.2.2.2, rfl, q⟩⟩
end L2
namespace L2
open PySem PySem.Spec PyProof.Rows

/-! ### values read as data -/
mutual
inductive RdD (K : PySem.W.Frag) (H : Hp) : V → PyData → Prop
  | non : RdD K H .non .none
  | bl (b : Bool) : RdD K H (.bl b) (.bool b)
  | int (i : Int) : RdD K H (.int i) (.int i)
  | str (x : Str) : RdD K H (.str x) (.str x)
  | lst {a : Addr} {xs : List V} {ds : List PyData} : SqL K H a xs → RdDs K H xs ds → RdD K H (.ref a) (.list ds)
  | tup {a : Addr} {xs : List V} {ds : List PyData} : SqT K H a xs → RdDs K H xs ds → RdD K H (.ref a) (.tuple ds)
inductive RdDs (K : PySem.W.Frag) (H : Hp) : List V → List PyData → Prop
  | nil : RdDs K H [] []
  | cons {x : V} {d : PyData} {xs : List V} {ds : List PyData} : RdD K H x d → RdDs K H xs ds → RdDs K H (x :: xs) (d :: ds)
end
section
variable {X : Cx} {pins : List (Addr × Obj)} {σ : St} {H : Hp} {s : Shared}
mutual
theorem Inv.reads (I : Inv X pins σ H s) : ∀ {x : V} {d : PyData} {u : Value}, RdD X.K H x d → RelV x u → ∃ as, Reads s.heap u d as
  | _, _, _, .non, r => by cases r; exact ⟨_, .none⟩
  | _, _, _, .bl b, r => by cases r; exact ⟨_, .bool b⟩
  | _, _, _, .int i, r => by obtain ⟨t, rfl⟩ := r; exact ⟨_, .int i t⟩
  | _, _, _, .str x, r => by obtain ⟨t, rfl⟩ := r; exact ⟨_, .str x t⟩
  | _, _, _, .lst hq hs, r => by
    cases r
    obtain ⟨its, rv, pl, _⟩ := I.list hq
    obtain ⟨as, ra⟩ := Inv.readsAll I hs rv
    obtain ⟨o, ho, hc, n, hd⟩ := pl.isList
    exact ⟨_, .list ho hc hd (by simpa using ra)⟩
  | _, _, _, .tup hq hs, r => by
    cases r
    obtain ⟨its, rv, pl, _⟩ := I.tuple hq
    obtain ⟨as, ra⟩ := Inv.readsAll I hs rv
    obtain ⟨o, ho, hc, n, hd⟩ := pl
    exact ⟨_, .tuple ho hc hd (by simpa using ra)⟩
theorem Inv.readsAll (I : Inv X pins σ H s) : ∀ {xs : List V} {ds : List PyData} {us : List Value}, RdDs X.K H xs ds → Vals xs us → ∃ as, ReadsAll s.heap us ds as
  | _, _, _, .nil, .nil => ⟨_, .nil⟩
  | _, _, _, .cons h1 h2, .cons r1 r2 => by
    obtain ⟨as, a⟩ := Inv.reads I h1 r1
    obtain ⟨bs, b⟩ := Inv.readsAll I h2 r2
    exact ⟨_, .cons a b⟩
end
theorem RdDs.ints {K : PySem.W.Frag} {H : Hp} : ∀ ns : List Int, RdDs K H (ns.map V.int) (ns.map PyData.int)
  | [] => .nil
  | n :: r => .cons (.int n) (RdDs.ints r)

/-! ### dicts of flat values -/
noncomputable def dictHits (kb : List (Key × V)) : List (Key × V) → Bool
  | [] => true
  | (k, v) :: r => match valV kb k with
    | none => false
    | some y => eqV v y && dictHits kb r
theorem hits_of {A : Around} {kb : List (Key × V)} {vb : List (Key × Value)} (hb : KV kb vb) (fb : kb.all (fun p => flatV p.2) = true) : ∀ {ka : List (Key × V)} {va : List (Key × Value)}, KV ka va → ka.all (fun p => flatV p.2) = true →
    PySem.W.KeqHits A s vb va (dictHits kb ka)
  | [], _, .nil, _ => .nil
  | (k, v) :: r, (k', v') :: r', .cons ⟨e, rv⟩ t, f => by
    cases (show k = k' from e)
    rw [List.all_cons, Bool.and_eq_true] at f
    have hv := KV.val hb k
    cases q : valV kb k with
    | none =>
      have hn : valueAt vb k = none := RelO.none_of (by rw [q] at hv; exact hv)
      have e2 : dictHits kb ((k, v) :: r) = false := by simp [dictHits, q]
      rw [e2]
      exact .miss hn
    | some y =>
      rw [q] at hv
      obtain ⟨u, hu, ru⟩ := RelO.some_of hv
      have fy : flatV y = true := by
        unfold valV at q
        cases q2 : kb.find? (fun kv => decide (kv.1 = k)) with
        | none => rw [q2] at q; cases q
        | some p =>
          rw [q2] at q; cases q
          exact List.all_eq_true.mp fb p (List.mem_of_find?_eq_some q2)
      have e2 : dictHits kb ((k, v) :: r) = (eqV v y && dictHits kb r) := by simp [dictHits, q]
      rw [e2]
      exact .hit hu (eqAt_V rv ru f.1 fy) (hits_of hb fb t f.2)
end

section
variable {X : Cx}
noncomputable def rEqV (K : PySem.W.Frag) (g : Bool → Bool) : R2 := fun x y H Q => match x, y with
  | .int i, .int j => Q (.bl (g (decide (i = j)))) H
  | .bl i, .bl j => Q (.bl (g (decide (i = j)))) H
  | .str i, .str j => Q (.bl (g (decide (i = j)))) H
  | .non, .non => Q (.bl (g true)) H
  | .ref a, .ref b => (∃ d e, RdD K H (.ref a) d ∧ RdD K H (.ref b) e ∧ SeqAt.shaped d = true ∧ SeqAt.shaped e = true ∧ Q (.bl (g (PyData.eqv d e))) H) ∨
      (∃ ka kb, H a = some (.dK ka) ∧ H b = some (.dK kb) ∧ ka.all (fun p => flatV p.2) = true ∧ kb.all (fun p => flatV p.2) = true ∧ Q (.bl (g (ka.length == kb.length && dictHits kb ka))) H)
  | .non, .ref _ => False
  | .ref _, .non => False
  | x, y => scal x y = true ∧ Q (.bl (g (decide (x = y)))) H
theorem op_eqD {k : Nat} (hr : Room k X.A) : OpR X (compareOp .Eq) (fun x y H Q => ∃ d e, RdD X.K H x d ∧ RdD X.K H y e ∧ SeqAt.shaped d = true ∧ SeqAt.shaped e = true ∧ Q (.bl (PyData.eqv d e)) H) := by
  intro pins s σ H x y v u Q I rx ry h
  obtain ⟨d, e, h1, h2, h3, h4, q⟩ := h
  obtain ⟨as, ra⟩ := I.reads h1 rx
  obtain ⟨bs, rb⟩ := I.reads h2 ry
  exact eq_dataH ra rb h3 h4 hr.units ⟨.bl _, H, I, rfl, q⟩
theorem op_neD {k : Nat} (hr : Room k X.A) : OpR X (compareOp .NotEq) (fun x y H Q => ∃ d e, RdD X.K H x d ∧ RdD X.K H y e ∧ SeqAt.shaped d = true ∧ SeqAt.shaped e = true ∧ Q (.bl (!PyData.eqv d e)) H) := by
  intro pins s σ H x y v u Q I rx ry h
  obtain ⟨d, e, h1, h2, h3, h4, q⟩ := h
  obtain ⟨as, ra⟩ := I.reads h1 rx
  obtain ⟨bs, rb⟩ := I.reads h2 ry
  exact ne_dataH ra rb h3 h4 hr.units ⟨.bl _, H, I, rfl, q⟩
theorem op_eqK {k : Nat} (hr : Room k X.A) : OpR X (compareOp .Eq) (fun x y H Q => ∃ a b ka kb, x = .ref a ∧ y = .ref b ∧ H a = some (.dK ka) ∧ H b = some (.dK kb) ∧ ka.all (fun p => flatV p.2) = true ∧ kb.all (fun p => flatV p.2) = true ∧ Q (.bl (ka.length == kb.length && dictHits kb ka)) H) := by
  intro pins s σ H x y v u Q I rx ry h
  obtain ⟨a, b, ka, kb, rfl, rfl, h1, h2, h3, h4, q⟩ := h
  cases rx; cases ry
  obtain ⟨_, ea, va, ra, da⟩ : ka.length ≤ sizeLine ∧ (a == sysModules) = false ∧ ∃ vs, KV ka vs ∧ s.heap.DictOf (mixKind X.prog X.w) a vs := I.hok a _ h1
  obtain ⟨_, eb, vb, rb, db⟩ : kb.length ≤ sizeLine ∧ (b == sysModules) = false ∧ ∃ vs, KV kb vs ∧ s.heap.DictOf (mixKind X.prog X.w) b vs := I.hok b _ h2
  refine PySem.W.keq_eq ea eb da db hr.units0 (fun _ => hits_of rb h4 ra h3) ⟨.bl _, H, I, ?_, q⟩
  show _ = Value.bool _
  rw [Paired.length ra, Paired.length rb]
theorem op_neK {k : Nat} (hr : Room k X.A) : OpR X (compareOp .NotEq) (fun x y H Q => ∃ a b ka kb, x = .ref a ∧ y = .ref b ∧ H a = some (.dK ka) ∧ H b = some (.dK kb) ∧ ka.all (fun p => flatV p.2) = true ∧ kb.all (fun p => flatV p.2) = true ∧ Q (.bl (!(ka.length == kb.length && dictHits kb ka))) H) := by
  intro pins s σ H x y v u Q I rx ry h
  obtain ⟨a, b, ka, kb, rfl, rfl, h1, h2, h3, h4, q⟩ := h
  cases rx; cases ry
  obtain ⟨_, ea, va, ra, da⟩ : ka.length ≤ sizeLine ∧ (a == sysModules) = false ∧ ∃ vs, KV ka vs ∧ s.heap.DictOf (mixKind X.prog X.w) a vs := I.hok a _ h1
  obtain ⟨_, eb, vb, rb, db⟩ : kb.length ≤ sizeLine ∧ (b == sysModules) = false ∧ ∃ vs, KV kb vs ∧ s.heap.DictOf (mixKind X.prog X.w) b vs := I.hok b _ h2
  refine PySem.W.keq_ne ea eb da db hr.units0 (fun _ => hits_of rb h4 ra h3) ⟨.bl _, H, I, ?_, q⟩
  show _ = Value.bool _
  rw [Paired.length ra, Paired.length rb]
theorem dec_i {i j : Int} : decide (V.int i = V.int j) = decide (i = j) := by simp
theorem dec_b {i j : Bool} : decide (V.bl i = V.bl j) = decide (i = j) := by simp
theorem dec_s {i j : Str} : decide (V.str i = V.str j) = decide (i = j) := by simp
theorem v_eq {k : Nat} (hr : Room k X.A) : OpR X (compareOp .Eq) (rEqV X.K id) := by
  refine (op_eq.or ((op_eqD hr).or (op_eqK hr))).imp fun x y H Q h => ?_
  unfold rEqV at h
  split at h
  · exact .inl ⟨rfl, by rw [dec_i]; exact h⟩
  · exact .inl ⟨rfl, by rw [dec_b]; exact h⟩
  · exact .inl ⟨rfl, by rw [dec_s]; exact h⟩
  · exact .inl ⟨rfl, by rw [decide_eq_true rfl]; exact h⟩
  · rcases h with ⟨d, e, h⟩ | ⟨ka, kb, h⟩
    · exact .inr (.inl ⟨d, e, h⟩)
    · exact .inr (.inr ⟨_, _, ka, kb, rfl, rfl, h⟩)
  · exact h.elim
  · exact h.elim
  · exact .inl h
theorem v_ne {k : Nat} (hr : Room k X.A) : OpR X (compareOp .NotEq) (rEqV X.K not) := by
  refine (op_ne.or ((op_neD hr).or (op_neK hr))).imp fun x y H Q h => ?_
  unfold rEqV at h
  split at h
  · exact .inl ⟨rfl, by rw [dec_i]; exact h⟩
  · exact .inl ⟨rfl, by rw [dec_b]; exact h⟩
  · exact .inl ⟨rfl, by rw [dec_s]; exact h⟩
  · exact .inl ⟨rfl, by rw [decide_eq_true rfl]; exact h⟩
  · rcases h with ⟨d, e, h⟩ | ⟨ka, kb, h⟩
    · exact .inr (.inl ⟨d, e, h⟩)
    · exact .inr (.inr ⟨_, _, ka, kb, rfl, rfl, h⟩)
  · exact h.elim
  · exact h.elim
  · exact .inl h
end
end L2

/-! ### an int against a dict; «in» a list of ints, of any thing -/
namespace PySem.SeqAt
open AutoSeq1 (wpAny_loadPart')
open MeetsSeq MeetsSeq2 MeetsSeq3 SeqRoads2
section
variable {A : Around} {s : Shared}
end
end PySem.SeqAt
namespace L2
open PySem PySem.Spec PyProof.Rows
section
variable {X : Cx}
end

/-! ### names of built-ins -/
theorem boot_isinstance : bootBuiltins "isinstance" = some (.builtin "isinstance") := by decide +kernel
theorem boot_int : bootBuiltins "int" = some (.type "int") := by decide +kernel
theorem boot_bool : bootBuiltins "bool" = some (.type "bool") := by decide +kernel
theorem boot_tuple : bootBuiltins "tuple" = some (.type "tuple") := by decide +kernel
/-! ### a def's facts at the top -/
structure Fn (K : PySem.W.Frag) (mg : Str → Option Value) (x : Str) (st : Stmt) (ps : List Str) : Prop where
  ex : ∃ (f : Addr) (fd : FuncData), Fun K x x st f fd ∧ mg x = some (.ref f) ∧ Binds K fd ps []
/-- the rule for a def, in one piece -/
theorem Fn.cal {P : Program} {w : World} {K : PySem.W.Frag} {mg : Str → Option Value} {base : Heap} {x : Str} {st : Stmt} {N ps : List Str} {k : Nat} {sp : Sp} (F : Fn K mg x st ps) (S : FnScope N ps (defScope st)) (len : ∀ vs H Q E, sp vs H Q E → vs.length = ps.length)
    (hbody : ∀ (f : Addr) (cdv : Value) (A : Around) (outer : List Env) (s : Shared) (H : Hp) (vs : List V) (Q : VK) (E : XK), Room k (A.deeper (envOfC x (defScope st) s.heap.objs.size f cdv)) → sp vs H Q E →
      ∃ t, PSs (cxF P w K mg base N x (defScope st) f cdv A outer s H E).nox (defBody st) t ∧ t { nx := fun _ H' => Q .non H', rt := Q } (start N vs) H) : Cal P w K mg base x (k + 1) ps sp := by
  obtain ⟨f, fd, F, m, b⟩ := F.ex
  exact ⟨f, fd, m, F.kp, b, F.okN S len fun cdv A outer s H vs Q E hr h => hbody f cdv A outer s H vs Q E hr h⟩
theorem Fn.calF {P : Program} {w : World} {K : PySem.W.Frag} {mg : Str → Option Value} {base : Heap} {x : Str} {st : Stmt} {N ps : List Str} {k : Nat} {sp : Sp} (F : Fn K mg x st ps) (S : FnScope N ps (defScope st)) (len : ∀ vs H Q E, sp vs H Q E → vs.length = ps.length)
    (hbody : ∀ (f : Addr) (cdv : Value) (A : Around) (outer : List Env) (s : Shared) (H : Hp) (vs : List V) (Q : VK) (E : XK), Room k (A.deeper (envOfC x (defScope st) s.heap.objs.size f cdv)) → sp vs H Q E →
      ∃ t, PSs (cxF P w K mg base N x (defScope st) f cdv A outer s H E) (defBody st) t ∧ t { nx := fun _ H' => Q .non H', rt := Q } (start N vs) H) : Cal P w K mg base x (k + 1) ps sp := by
  obtain ⟨f, fd, F, m, b⟩ := F.ex
  exact ⟨f, fd, m, F.kp, b, F.okF S len fun cdv A outer s H vs Q E hr h => hbody f cdv A outer s H vs Q E hr h⟩
theorem Same.new {H : Hp} {p : Addr} (h : H p = none) (o : HO) : Same H (upd H p o) := fun b u q => by rw [upd_ne (ne_of_none q h)]; exact q
theorem Same.upd {H H' : Hp} {p : Addr} (g : Same H H') (h : H p = none) (o : HO) : Same H (L2.upd H' p o) := fun b u q => by rw [upd_ne (ne_of_none q h)]; exact g b u q
theorem Same.seqT {K : PySem.W.Frag} {H H' : Hp} {a : Addr} {xs : List V} (e : Same H H') (h : SqT K H a xs) : SqT K H' a xs := by
  rcases h with (h | ⟨o, h⟩) | h
  · exact .inl (.inl (e _ _ h))
  · exact .inl (.inr ⟨o, e _ _ h⟩)
  · exact .inr h
theorem mulL {i j : Int} (h1 : -(2 ^ 64) < i) (h2 : i < 2 ^ 64) : IntMulOk i j := .of_left (intBits_le_64 h1 h2)
theorem mulR {i j : Int} (h1 : -(2 ^ 64) < j) (h2 : j < 2 ^ 64) : IntMulOk i j := .of_right (intBits_le_64 h1 h2)
/-- a comprehension's facts: each part by computing -/
theorem comp_mk {X : Cx} {scope sc : Scope} {N : List Str} {ix : List (Option Nat)} (sc' : relabel scope X.env = sc) (kind : scope.kind = .function) (cell : scope.names.all (fun y => y.2 != .cell) = true)
    (names : scope.names.all (fun x => x.2 != .local || scope.names.lookup x.1 == some .local) = true)
    (free : scope.names.all (fun y => y.2 != .free || (X.env.scope.names.lookup y.1 == some .cell || X.env.scope.names.lookup y.1 == some .free)) = true)
    (len : N.length = ix.length)
    (hix : (N.zip ix).all (fun p => match p.2 with
      | none => true
      | some i => X.N[i]? == some p.1 && scope.names.any (fun y => y.1 == p.1 && y.2 == .free) && (sc.names.lookup p.1 == some .cell || sc.names.lookup p.1 == some .free)) = true)
    (has : sc.names.all (fun y => (y.2 != .cell && y.2 != .free) || scope.names.any (fun z => z.1 == y.1 && z.2 == .free)) = true) : CompOk X scope sc N ix := by
  have mem : ∀ x : Str, scope.names.any (fun y => y.1 == x && y.2 == .free) = true → (x, NameKind.free) ∈ scope.names := fun x h => by
    obtain ⟨y, hy, e⟩ := List.any_eq_true.mp h
    rw [Bool.and_eq_true] at e
    obtain ⟨a, b⟩ := y
    have e1 : a = x := eq_of_beq e.1
    have e2 : b = .free := eq_of_beq e.2
    subst e1; subst e2
    exact hy
  refine ⟨sc', kind, fun y hy e => ?_, fun x hx e => ?_, fun y hy e => ?_, len, fun j x i h1 h2 => ?_, fun x hx => ?_⟩
  · have := List.all_eq_true.mp cell y hy
    rw [e] at this; cases this
  · have := List.all_eq_true.mp names x hx
    rw [e] at this
    simpa using this
  · have := List.all_eq_true.mp free y hy
    rw [e] at this
    simpa [Env.kindOf] using this
  · have hm : (x, some i) ∈ N.zip ix := by
      have : (N.zip ix)[j]? = some (x, some i) := by
        rw [List.getElem?_zip_eq_some]
        exact ⟨h1, h2⟩
      exact List.mem_of_getElem? this
    have := List.all_eq_true.mp hix _ hm
    simp only [Bool.and_eq_true] at this
    obtain ⟨⟨a1, a2⟩, a3⟩ := this
    refine ⟨eq_of_beq a1, mem x a2, ?_⟩
    rw [Bool.or_eq_true] at a3
    rcases a3 with z | z
    · exact .inl (eq_of_beq z)
    · exact .inr (eq_of_beq z)
  · have hm : ∃ k, (x, k) ∈ sc.names ∧ (k = .cell ∨ k = .free) := by
      rcases hx with z | z
      · exact ⟨_, PySem.mem_of_lookup z, .inl rfl⟩
      · exact ⟨_, PySem.mem_of_lookup z, .inr rfl⟩
    obtain ⟨k, hk, e⟩ := hm
    have := List.all_eq_true.mp has _ hk
    rw [Bool.or_eq_true] at this
    rcases this with z | z
    · rcases e with e | e <;> (subst e; simp at z)
    · exact mem x z
end L2
namespace L2
open PySem PySem.Spec PyProof.Rows
/-- a def as the top has written it -/
structure FnIn (K : PySem.W.Frag) (x : Str) (st : Stmt) : Prop where
  ex : ∃ (f : Addr) (oc : Value) (od : Option Addr) (kV doc pm : Value) (an : Option Addr) (cdv ct : Value) (sl : Array (Option Value)), PySem.W.nsIn K mainGlobals x = some (some (.ref f)) ∧
    K.lookup f = some ⟨oc, od, .func (PySem.W.fnOf x x (defArgs st) (defBody st) (defScope st) .none kV doc pm an cdv ct), sl⟩ ∧ PySem.W.codeIn K cdv x = true ∧ PySem.W.keepIn K (.ref f) = true
theorem fnIn_mk {K : PySem.W.Frag} {x : Str} {st : Stmt} {f : Addr} {oc : Value} {od : Option Addr} {kV doc pm : Value} {an : Option Addr} {cdv ct : Value} {sl : Array (Option Value)} (a : PySem.W.nsIn K mainGlobals x = some (some (.ref f)))
    (l : K.lookup f = some ⟨oc, od, .func (PySem.W.fnOf x x (defArgs st) (defBody st) (defScope st) .none kV doc pm an cdv ct), sl⟩) (c : PySem.W.codeIn K cdv x = true) (k : PySem.W.keepIn K (.ref f) = true) : FnIn K x st :=
  ⟨f, oc, od, kV, doc, pm, an, cdv, ct, sl, a, l, c, k⟩
theorem FnIn.fn {K : PySem.W.Frag} {h : Heap} {mg : Str → Option Value} {x : Str} {st : Stmt} {ps : List Str} (F : FnIn K x st) (X : K.In h) (G : h.Ns mainGlobals mg)
    (hb : ∀ (kV doc pm : Value) (an : Option Addr) (cdv ct : Value) (us : List Value), us.length = ps.length → bindArgs (PySem.W.fnOf x x (defArgs st) (defBody st) (defScope st) .none kV doc pm an cdv ct) ⟨us, []⟩ = pure (ps.zip us)) : Fn K mg x st ps := by
  obtain ⟨f, oc, od, kV, doc, pm, an, cdv, ct, sl, a, l, c, k⟩ := F.ex
  have FF := fun_mk (st := st) l c k
  exact ⟨f, _, FF, PySem.W.mg_of X G a, FF.binds hb⟩
end L2
namespace L2
open PySem PySem.Spec PyProof.Rows

/-! ### what an iterator yields through heaps that keep what is tracked -/
structure ItS (J : It) (xs : List V) (H1 : Hp) : Prop where
  go : ∀ i H', Same H1 H' → i < xs.length → J.go i H'
  yld : ∀ i H' x H2, Same H1 H' → J.yld i H' x H2 → H2 = H' ∧ (i < xs.length → xs[i]? = some x)
  stop : ∀ i H', Same H1 H' → xs.length ≤ i → J.stop i H'
theorem its_list {K : PySem.W.Frag} {a : Addr} {xs : List V} {H1 : Hp} (hq : SqL K H1 a xs) : ItS (Itl K a) xs H1 :=
  ⟨fun i H' g h => ⟨xs, xs[i], g.seq hq, by simp [h]⟩, fun i H' x H2 g y => ⟨y.1, fun _ => y.2 xs (g.seq hq)⟩, fun i H' g h => ⟨xs, g.seq hq, h⟩⟩
theorem its_tup {K : PySem.W.Frag} {a : Addr} {xs : List V} {H1 : Hp} (hq : SqT K H1 a xs) : ItS (Itt K a) xs H1 :=
  ⟨fun i H' g h => ⟨xs, xs[i], g.seqT hq, by simp [h]⟩, fun i H' x H2 g y => ⟨y.1, fun _ => y.2 xs (g.seqT hq)⟩, fun i H' g h => ⟨xs, g.seqT hq, h⟩⟩
/-- a comprehension of one new name whose tests and elements change nothing -/
theorem comp_pure {J : It} {xs : List V} {ix : List (Option Nat)} {tc : TT} {te : TE} {σ : St} {H1 : Hp} {Q : VK} (I : ItS J xs H1) (hz : xs.length ≤ sizeLine) {rest : St} (hst : cst ix σ = none :: rest) (p : V → Bool) (F : V → V)
    (ht : ∀ H' x, Same H1 H' → x ∈ xs → ∀ k : Bool → Hp → Prop, k (p x) H' → tc (some x :: rest) H' k)
    (he : ∀ H' x, Same H1 H' → x ∈ xs → p x = true → ∀ k : VK, k (F x) H' → te (some x :: rest) H' k)
    (hQ : ∀ D, H1 D = none → Q (.ref D) (upd H1 D (.lst ((xs.filter p).map F)))) :
    CompK ix (gName 0) tc te σ Q J H1 := by
  constructor
  intro D hD
  refine ⟨fun i m σ' H' => m = xs.length - i ∧ i ≤ xs.length ∧ (∃ o, σ' = o :: rest) ∧ H' = upd H1 D (.lst (((xs.take i).filter p).map F)), ⟨xs.length, by simp, Nat.zero_le _, ⟨none, hst⟩, by simp⟩, ?_⟩
  rintro i m σ' H' ⟨rfl, hi, ⟨o, rfl⟩, rfl⟩
  have g : Same H1 (upd H1 D (.lst (((xs.take i).filter p).map F))) := Same.new hD _
  by_cases hlt : i < xs.length
  · refine .inr ⟨I.go i _ g hlt, fun x H2 y => ?_⟩
    obtain ⟨rfl, hx⟩ := I.yld i _ x H2 g y
    have hx := hx hlt
    have hm : x ∈ xs := List.mem_of_getElem? hx
    have et : xs.take (i + 1) = xs.take i ++ [x] := by
      rw [List.take_add_one, hx]; rfl
    show tc (some x :: rest) _ _
    refine ht _ x g hm _ ?_
    cases hp : p x with
    | true =>
      rw [if_pos rfl]
      refine he _ x g hm hp _ ⟨_, upd_same, ?_, xs.length - (i + 1), by omega, rfl, hlt, ⟨_, rfl⟩, ?_⟩
      · have h1 : (((xs.take i).filter p).map F).length ≤ i := by
          rw [List.length_map]
          exact Nat.le_trans (List.length_filter_le _ _) (by rw [List.length_take]; omega)
        omega
      · rw [upd_upd, et, List.filter_append, List.map_append]
        simp [hp]
    | false =>
      rw [if_neg Bool.false_ne_true]
      refine ⟨xs.length - (i + 1), by omega, rfl, hlt, ⟨_, rfl⟩, ?_⟩
      rw [et, List.filter_append]
      simp [hp]
  · have e : i = xs.length := by omega
    subst e
    refine .inl ⟨I.stop _ _ g (Nat.le_refl _), ?_⟩
    rw [List.take_length]
    exact hQ D hD
end L2
namespace L2
open PySem PySem.Spec PyProof.Rows
/-- a reading that nothing opens by itself -/
structure Bar (t : TE) (σ : St) (H : Hp) (Q : VK) : Prop where
  go : t σ H Q
noncomputable def tBar (t : TE) : TE := fun σ H Q => Bar t σ H Q
theorem Bar.by {t : TE} {σ : St} {H : Hp} {Q : VK} (R : V → Hp → Prop) (h : ∀ k : VK, (∀ v H1, R v H1 → k v H1) → t σ H k) (q : ∀ v H1, R v H1 → Q v H1) : Bar t σ H Q := ⟨h Q q⟩
theorem pe_bar {X : Cx} {e : Expr} {t : TE} (h : PE X e t) : PE X e (tBar t) := fun pins s σ H Q I q => h pins s σ H Q I q.go
/-- the same for a statement whose ways meet behind it -/
structure BarS (t : TS) (D : Ends) (σ : St) (H : Hp) : Prop where
  go : t D σ H
noncomputable def tBarS (t : TS) : TS := fun D σ H => BarS t D σ H
theorem ps_bar {X : Cx} {st : Stmt} {t : TS} (h : PS X st t) : PS X st (tBarS t) := fun pins s σ H D I q => h pins s σ H D I q.go
theorem BarS.by {t : TS} {D : Ends} {σ : St} {H : Hp} (R : St → Hp → Prop) (h : ∀ N : St → Hp → Prop, (∀ σ' H', R σ' H' → N σ' H') → t { D with nx := N } σ H) (q : ∀ σ' H', R σ' H' → D.nx σ' H') : BarS t D σ H := by
  constructor
  exact h D.nx q
end L2
namespace HT
open PySem PyProof.Rows
section
variable {prog : Program} {w : World} {A : Around} {E : Value → Shared → Prop} {s : Shared}
/-- t[a:b], the whole of it: t itself -/
theorem getItem_tuple_all {t sl : Addr} {items : Array Value} {vl vu : Value} {lo hi : Option Int} {Q : Value → Shared → Prop} (ht : IsTup s.heap t items) (hs : s.heap.IsSliceOf sl vl vu .none) (pl : IsPart vl lo) (pu : IsPart vu hi)
    (hw : sIx items.size 0 lo = 0 ∧ sIx items.size items.size hi = items.size) (h : Q (.ref t) s) : wpAny (model prog w) A (getItem (.ref t) (.ref sl)) Q E s := by
  obtain ⟨os, hos, hcs, hds⟩ := id hs
  have hTs : s.TypeIs (.ref sl) "slice" := ⟨os, hos, hcs⟩
  unfold getItem
  try with_reducible refine wpAny_holding ?_
  first | refine wpAny_bind (wpAny_pure ?_) | skip
  refine wpAny_bind (wpAny_sequenceKey ht.typeIs (by decide) ?_)
  refine wpAny_bind (wpAny_callSpecial?_slot (name := Str.ofString "__getitem__") ht.typeIs PyProof.Rows.slot_tuple_getitem
    (wpAny_call_entry PyProof.Rows.slot_tuple_getitem ht.typeIs entry_tuple_getitem ?_ (args_tuple_getitem _ _)))
  show wpAny _ _ (Builtin.Tuple.tupleItemsOf (.ref t) >>= _) _ _ s
  refine wpAny_bind (tupleItemsOf_ ht ?_)
  refine wpAny_bind (wpAny_typeOf hTs ?_)
  rw [if_pos (by decide)]
  refine wpAny_bind (sliceApplied_gen hs pl pu ?_)
  have hyes : (((sIx items.size 0 lo : Nat) : Int) == 0 && (1 : Int) == 1 && (sIx items.size items.size hi - sIx items.size 0 lo) == items.size) = true := by
    rw [hw.1, hw.2]; simp
  show wpAny _ _ (if (((sIx items.size 0 lo : Nat) : Int) == 0 && (1 : Int) == 1 && (sIx items.size items.size hi - sIx items.size 0 lo) == items.size) = true then _ else _) _ _ s
  rw [if_pos hyes]
  unfold Builtin.Tuple.tupleIsExact
  refine wpAny_bind (wpAny_bind (wpAny_typeOf ht.typeIs (wpAny_pure ?_)))
  rw [if_pos (by decide)]
  exact wpAny_bind (wpAny_rule (wpAny_pure ⟨_, rfl, wpAny_pure h⟩))
end
end HT
namespace L2
open PySem PySem.Spec PyProof.Rows
section
variable {X : Cx}
theorem sl_tupAll : SlR X (fun x lo hi H Q => ∃ a xs, x = .ref a ∧ SqT X.K H a xs ∧ (HT.sIx xs.length 0 lo = 0 ∧ HT.sIx xs.length xs.length hi = xs.length) ∧ Q (.ref a) H) := by
  intro pins s σ H x v vl vu lo hi sl Q I rx hs pl pu h
  obtain ⟨a, xs, rfl, hx, hw, q⟩ := h
  cases rx
  obtain ⟨its, r, ht, hz⟩ := I.tuple hx
  have hlen : its.toArray.size = xs.length := by rw [List.size_toArray]; exact r.length.symm
  refine ⟨"tuple", _, PyProof.Rows.slot_tuple_getitem.lookup, ht.typeIs, ?_⟩
  exact HT.getItem_tuple_all ht hs pl pu (by rw [hlen]; exact hw) ⟨.ref a, H, I, rfl, q⟩
end
end L2
namespace L2
open PySem PySem.Spec PyProof.Rows
theorem boot_all : bootBuiltins "all" = some (.builtin "all") := by decide +kernel
theorem boot_str : bootBuiltins "str" = some (.type "str") := by decide +kernel
/-! ### the rules, the written part K by its own name -/
section
variable {X : Cx} (K : PySem.W.Frag)
theorem SlR.imp {r r' : V → Option Int → Option Int → Hp → VK → Prop} (h : SlR X r) (i : ∀ x lo hi H Q, r' x lo hi H Q → r x lo hi H Q) : SlR X r' := fun pins s σ H x v vl vu lo hi sl Q I rx hs pl pu q => h pins s σ H x v vl vu lo hi sl Q I rx hs pl pu (i _ _ _ _ _ q)
theorem xadd (hK : X.K = K := by rfl) : OpR X (binaryOp .Add) (rAddV K) := by subst hK; exact v_add
theorem xix (hK : X.K = K := by rfl) : IxR X (rIxV K) := by subst hK; exact v_ix
theorem xeq {k : Nat} (hr : Room k X.A) (hK : X.K = K := by rfl) : OpR X (compareOp .Eq) (rEqV K id) := by subst hK; exact v_eq hr
theorem xne {k : Nat} (hr : Room k X.A) (hK : X.K = K := by rfl) : OpR X (compareOp .NotEq) (rEqV K not) := by subst hK; exact v_ne hr
theorem xlen (hK : X.K = K := by rfl) : CallR X (.builtin "len") (fun xs H Q => ∃ x n, xs = [x] ∧ LenV K x H n ∧ Q (.int n) H) := by subst hK; exact call_len
theorem xall (hc : X.calm = true) (hK : X.K = K := by rfl) : CallR X (.builtin "all") (fun xs H Q => ∃ (l : Addr) (bs : List Bool), xs = [.ref l] ∧ SqL K H l (bs.map V.bl) ∧ Q (.bl (bs.all id)) H) := by subst hK; exact v_all hc
theorem xtuple (hK : X.K = K := by rfl) : CallR X (.type "tuple") (fun xs H Q => ∃ p ys, xs = [.ref p] ∧ ((SqL K H p ys ∧ ∀ l, H l = none → Q (.ref l) (upd H l (.tup ys))) ∨ (SqT K H p ys ∧ Q (.ref p) H))) := by subst hK; exact call_tuple_of
/-- xs[lo:hi]: of a list a new one; of a tuple a new one, or itself where it is the whole -/
noncomputable def rSlV (K : PySem.W.Frag) : V → Option Int → Option Int → Hp → VK → Prop := fun x lo hi H Q => match x with
  | .ref a => (∃ xs, SqL K H a xs ∧ ∀ p, H p = none → Q (.ref p) (upd H p (.lst (cutV xs lo hi)))) ∨
      (∃ xs, SqT K H a xs ∧ ¬ (HT.sIx xs.length 0 lo = 0 ∧ HT.sIx xs.length xs.length hi = xs.length) ∧ ∀ p, H p = none → Q (.ref p) (upd H p (.tup (cutV xs lo hi)))) ∨
      (∃ xs, SqT K H a xs ∧ (HT.sIx xs.length 0 lo = 0 ∧ HT.sIx xs.length xs.length hi = xs.length) ∧ Q (.ref a) H)
  | _ => False
theorem xsl (hK : X.K = K := by rfl) : SlR X (rSlV K) := by
  subst hK
  refine (sl_list.or (sl_tup.or sl_tupAll)).imp fun x lo hi H Q h => ?_
  unfold rSlV at h
  split at h
  · rcases h with ⟨xs, h⟩ | ⟨xs, h⟩ | ⟨xs, h⟩
    · exact .inl ⟨_, xs, rfl, h⟩
    · exact .inr (.inl ⟨_, xs, rfl, h⟩)
    · exact .inr (.inr ⟨_, xs, rfl, h⟩)
  · exact h.elim
theorem xseq {tg l : Expr} {tl : TE} (hl : PE X l tl) (hK : X.K = K := by rfl) : PI X tg l (iSeq K tl) := by subst hK; exact pi_seq hl
theorem xappend {o e : Expr} {to : TE} {te : TE} {apos cpos : Pos} (ho : PE X o to) (he : PE X e te) (hK : X.K = K := by rfl)
    (hbase : attributeBase o "append" X.env (eval o X.env) = eval o X.env := by rfl)
    (hfew : ((backTo cpos (starEach [e] X.env)).all (fun x => !x.1) && (backToKw cpos (keywordEach [] X.env)).all (fun x => x.1.isSome)
      && decide ([e].length + ([] : List Keyword).length + (if ([] : List Keyword).isEmpty then 0 else 1) < 30)) = true := by rfl)
    (hline : (apos.endLine == cpos.line) = true := by rfl) (hs : starEach [e] X.env = (false, eval e X.env) :: starEach [] X.env := by rfl) :
    PE X (.Call (.Attribute o "append" apos) [e] [] cpos) (tBM K "list" rAppend to (tCons te tNil)) := by
  subst hK
  exact pe_bm PySem.F.plainAttrs_list PySem.F.slot_list_append PySem.F.type_list_append mt_append ho (pa_cons he pa_nil hs) hbase hfew hline hs rfl
end

/-! ### arguments by their kinds: that none is starred is told once -/
section
variable {X : Cx} {es : List Expr} {te : TE} {t : TA}
theorem pa_k {c : Const} {j} {p : Pos} (h : PE X (.Constant c j p) te) (hr : PA X es t) : PA X ((.Constant c j p) :: es) (tCons te t) := pa_cons h hr rfl
theorem pa_n {x : Str} {p : Pos} (h : PE X (.Name x p) te) (hr : PA X es t) : PA X ((.Name x p) :: es) (tCons te t) := pa_cons h hr rfl
theorem pa_l {as : List Expr} {p : Pos} (h : PE X (.List as p) te) (hr : PA X es t) : PA X ((.List as p) :: es) (tCons te t) := pa_cons h hr rfl
theorem pa_t {as : List Expr} {j} {p : Pos} (h : PE X (.Tuple as j p) te) (hr : PA X es t) : PA X ((.Tuple as j p) :: es) (tCons te t) := pa_cons h hr rfl
theorem pa_d {ks : List (Option Expr)} {as : List Expr} {p : Pos} (h : PE X (.Dict ks as p) te) (hr : PA X es t) : PA X ((.Dict ks as p) :: es) (tCons te t) := pa_cons h hr rfl
theorem pa_b {a : Expr} {o : Operator} {b : Expr} {p : Pos} (h : PE X (.BinOp a o b p) te) (hr : PA X es t) : PA X ((.BinOp a o b p) :: es) (tCons te t) := pa_cons h hr rfl
end
end L2
namespace L2
open PySem PySem.Spec PyProof.Rows
/-! ### an exception that was taken: its object, its class -/
noncomputable def excO (a C : Addr) : HO := .ext fun h => ∃ o vs, h.get? a = some o ∧ o.cls = .ref C ∧ o.data = .fields vs
theorem excO_ok {P : Program} {w : World} {H : Hp} {h : Heap} {a C : Addr} {o : Obj} {vs : Array Value} (e : h.get? a = some o) (hc : o.cls = .ref C) (hd : o.data = .fields vs) : ObjOk P w H h a (excO a C) :=
  ⟨⟨o, vs, e, hc, hd⟩, ⟨o, e⟩, fun _ _ ⟨o, vs, e, r⟩ k => ⟨o, vs, k o e, r⟩⟩
theorem ObjOk.there {P : Program} {w : World} {H : Hp} {h : Heap} {a : Addr} {o : HO} (x : ObjOk P w H h a o) : ∃ u, h.get? a = some u := by
  cases o with
  | lst xs => obtain ⟨_, _, _, _, e⟩ := x; exact ⟨_, e⟩
  | tup xs => obtain ⟨_, _, _, o, e, _⟩ := x; exact ⟨_, e⟩
  | dK kvs => obtain ⟨_, _, _, _, o, _, _, e, _⟩ := x; exact ⟨_, e⟩
  | dT kvs => obtain ⟨_, _, _, _, o, _, _, e, _⟩ := x; exact ⟨_, e⟩
  | set S n => obtain ⟨o, _, _, _, e, _⟩ := x; exact ⟨_, e⟩
  | ins C dx fs => obtain ⟨_, _, _, e, _⟩ := x; exact ⟨_, e⟩
  | own y => exact x
  | xd fs => obtain ⟨_, ⟨_, _, _, e, _⟩, _⟩ := x; exact ⟨_, e⟩
  | rng lo hi => obtain ⟨_, _, _, e⟩ := x; exact ⟨_, e⟩
  | frz ob u => obtain ⟨e, _⟩ := x; exact ⟨_, e⟩
  | tbl ps => exact ⟨_, (show h.get? a = some _ from x)⟩
  | met f y => exact ⟨_, (show h.get? a = some _ from x)⟩
  | ext φ => exact x.2.1
/-- the class at C stands under the one at R, both error classes of the text -/
structure ExS (base : Heap) (C R : Addr) : Prop where
  cls : ∃ nm q N bs bm hdct sn sub ab col dd k0 k1 k2 k3 k5 newId, base.get? C = some (excClassObj nm q C N bs bm hdct sn sub ab col dd k0 k1 k2 k3 k5 newId) ∧ (Value.ref C :: bm).contains (.ref R) = true
  top : ∃ nm q N bs bm hdct sn sub ab col dd k0 k1 k2 k3 k5 newId, base.get? R = some (excClassObj nm q R N bs bm hdct sn sub ab col dd k0 k1 k2 k3 k5 newId) ∧ bm.contains (.type "BaseException") = true
theorem excMatches_own {M : Model} {A : Around} {E : Value → Shared → Prop} {h : Heap} {g : Array GenState} {d : Drawn} {t : Nat} {os : OsState} {e C R : Addr} {oe : Obj} {Q : Bool → Shared → Prop} {base : Heap} (S : ExS base C R) (kb : ∀ b o, base.get? b = some o → h.get? b = some o)
    (he : h.get? e = some oe) (hcls : oe.cls = .ref C) (hq : Q true ⟨h, g, d, t, os⟩) : wpAny M A (excMatches (.ref e) (.ref R)) Q E ⟨h, g, d, t, os⟩ := by
  obtain ⟨nm, q, N, bs, bm, hdct, sn, sub, ab, col, dd, k0, k1, k2, k3, k5, newId, hC, hs⟩ := S.cls
  obtain ⟨nm', q', N', bs', bm', hdct', sn', sub', ab', col', dd', k0', k1', k2', k3', k5', newId', hR, hB⟩ := S.top
  have hC := kb _ _ hC
  have hR := kb _ _ hR
  have hcB : (Value.ref R :: bm').contains (.type "BaseException") = true := by rw [List.contains_cons, hB, Bool.or_true]
  have f := tc_notTuple
  unfold excMatches
  repeat (first | (with_reducible refine wpAny_loadPart_at he ?_; rw [hcls]) | with_reducible refine wpAny_loadPart_at hR ?_ | (with_reducible refine wpAny_isSubtype_exc hR ?_; rw [hcB]) | (with_reducible refine wpAny_isSubtype_exc hC ?_; rw [hs]) | wp_step)
  exact hq
section
variable {X : Cx} {pins : List (Addr × Obj)} {σ : St} {H : Hp} {s : Shared}
/-- an untracked object that is none of the elder ones is tracked -/
theorem Inv.track {a : Addr} {o : HO} (I : Inv X pins σ H s) (hn : H a = none) (h0 : ∀ u, X.s₀.heap.get? a ≠ some u) (hL : a ≠ X.env.locals) (hc : ∀ x c, X.env.cells.lookup x = some c → c ≠ a) (hp : ∀ p ∈ X.pn ++ pins, p.1 ≠ a)
    (new : ObjOk X.prog X.w (upd H a o) s.heap a o) : Inv X pins σ (upd H a o) s := by
  have ne : ∀ b u, H b = some u → b ≠ a := fun b u e => ne_of_none e hn
  refine ⟨I.ok, I.os, I.bare, ⟨I.base.keep, I.base.slot, fun b u e n hx => ?_, I.base.there, fun b xs e => ?_, fun b u xs e => ?_, fun b ps e => ?_⟩, I.loc, I.cell, ?_, fun x c e => ?_, fun p q => ?_, fun b u e => ?_, I.len⟩
  · rw [upd_ne (fun z => h0 u (by rw [← z]; exact e))]; exact I.base.free b u e n hx
  · have := I.base.tups b xs e
    rw [upd_ne (ne b _ this)]; exact this
  · have := I.base.frzs b u xs e
    rw [upd_ne (ne b _ this)]; exact this
  · obtain ⟨m, this⟩ := I.base.tbls b ps e
    exact ⟨m, by rw [upd_ne (ne b _ this)]; exact this⟩
  · rw [upd_ne (Ne.symm hL)]; exact I.free
  · rw [upd_ne (hc x c e)]; exact I.freeC x c e
  · obtain ⟨e1, e2, e3⟩ := I.pin p q
    exact ⟨e1, by rw [upd_ne (hp p q)]; exact e2, e3⟩
  · by_cases hb : b = a
    · subst hb
      rw [upd_same] at e; cases e
      exact new
    · rw [upd_ne hb] at e
      exact (I.hok b u e).stay (fun _ _ _ q => q) (fun c q => by rw [upd_ne (ne c _ q)]; exact q) fun c xs q => by rw [upd_ne (ne c _ q)]; exact q
/-- a name is gone -/
theorem Inv.unset {h' : Heap} {t' : Nat} {j : Nat} {n : Str} {v : Option Value} {m : Str → Option Value} (I : Inv X pins σ H s) (hN : X.N.Nodup) (hj : X.N[j]? = some n) (hm : s.heap.Ns X.env.locals m)
    (hn : h'.Ns X.env.locals fun y => if y = n then v else m y) (hs : Heap.SameBut X.env.locals s.heap h') : Inv X pins (σ.set j none) H { s with heap := h', toks := t' } := by
  obtain ⟨m2, hn2, hl⟩ := id I.loc
  obtain ⟨oL, _, _, hoL, _⟩ := id hm
  have em : m2 = m := by
    obtain ⟨o1, es1, ep1, ho1, hd1, hk1, hf1⟩ := hn2
    obtain ⟨o2, es2, ep2, ho2, hd2, hk2, hf2⟩ := hm
    rw [ho1] at ho2; cases ho2
    rw [hd1] at hd2; cases hd2
    funext y; rw [← hf1 y, ← hf2 y]
  subst em
  refine ⟨I.ok, I.os, I.bare, ⟨fun b o e nn hb hx => ?_, fun b o e nn hb hx => ?_, I.base.free, fun b o e hx => ?_, I.base.tups, I.base.frzs, I.base.tbls⟩, ⟨_, hn, fun i y u e1 e2 e3 => ?_⟩, fun y c e => ?_, I.free, I.freeC, fun p hp => ?_, fun b u e => ?_, by simpa using I.len⟩
  · exact (hs.2 b (Nat.ne_of_lt (Nat.lt_of_lt_of_le (Heap.lt_size e) I.ok.above))).trans (I.base.keep b o e nn hb hx)
  · obtain ⟨sl, e1⟩ := I.base.slot b o e nn hb hx
    exact ⟨sl, (hs.2 b (Nat.ne_of_lt (Nat.lt_of_lt_of_le (Heap.lt_size e) I.ok.above))).trans e1⟩
  · obtain ⟨o', e1⟩ := I.base.there b o e hx
    exact ⟨o', (hs.2 b (Nat.ne_of_lt (Nat.lt_of_lt_of_le (Heap.lt_size e) I.ok.above))).trans e1⟩
  · by_cases hji : i = j
    · subst hji
      by_cases hlt : i < σ.length
      · rw [List.getElem?_set_self hlt] at e2; cases e2
      · rw [List.getElem?_eq_none (by simp; omega)] at e2; cases e2
    · rw [List.getElem?_set_ne (Ne.symm hji)] at e2
      obtain ⟨u', r', q⟩ := hl i y u e1 e2 e3
      refine ⟨u', r', ?_⟩
      rcases q with ⟨k, e⟩ | ⟨k, c, e, z⟩
      · refine .inl ⟨k, ?_⟩
        have : y ≠ n := fun z => hji (nodup_ix hN e1 (z ▸ hj))
        simp [this, e]
      · exact .inr ⟨k, c, e, z.sameBut hs (I.cne y c e)⟩
  · obtain ⟨w', z⟩ := I.cell y c e
    exact ⟨w', z.sameBut hs (I.cne y c e)⟩
  · obtain ⟨e, nn, ne, nf, d⟩ := I.pin p hp
    exact ⟨(hs.2 p.1 ne).trans e, nn, ne, nf, d⟩
  · refine (I.hok b u e).stay (fun c w' hc q => (hs.2 c ?_).trans q) (fun _ q => q) fun _ _ q => q
    rintro rfl
    rcases hc with z | hc
    · rw [← z, I.free] at e; cases e
    · rw [I.free] at hc; cases hc
end
/-- within an except suite (nothing is raised there) -/
noncomputable def cxS (X : Cx) (a : Addr) : Cx := { X with A := X.A.mark (some (.ref a)), calm := false, xe := fun _ _ => False }
theorem Inv.suite {X : Cx} {pins : List (Addr × Obj)} {σ : St} {H : Hp} {s : Shared} (I : Inv X pins σ H s) (a : Addr) : Inv (cxS X a) pins σ H s :=
  ⟨⟨I.ok.mod, I.ok.kind, I.ok.glob, I.ok.blt, I.ok.above, I.ok.inj, I.ok.has, I.ok.cab, (fun z => by cases z), I.ok.frames, I.ok.stk, I.ok.exf, I.ok.bs, I.ok.bsz, I.ok.noex, I.ok.exfs, I.ok.funs, I.ok.frf⟩,
    I.os, I.bare, I.base, I.loc, I.cell, I.free, I.freeC, I.pin, I.hok, I.len⟩
theorem Inv.unsuite {X : Cx} {pins : List (Addr × Obj)} {σ : St} {H : Hp} {s : Shared} {a : Addr} (ok : X.Ok) (I : Inv (cxS X a) pins σ H s) : Inv X pins σ H s :=
  ⟨ok, I.os, I.bare, I.base, I.loc, I.cell, I.free, I.freeC, I.pin, I.hok, I.len⟩
end L2
namespace L2
open PySem PySem.Spec PyProof.Rows
/-! ### isinstance(e, ..) of an exception of a class of the text -/
/-- what the written part says of the class at C -/
structure ExI (K : PySem.W.Frag) (C : Addr) : Prop where
  ga : PySem.W.findIn K (.ref C) "__getattribute__" = some (some (.builtin "BaseException.__getattribute__"))
  gt : PySem.W.findIn K (.ref C) "__getattr__" = some none
  cl : PySem.W.findIn K (.ref C) "__class__" = some (some (.builtin "object.__class__"))
  mb : PySem.W.mroIn K C (.type "BaseException") = some true
  mo : PySem.W.mroIn K C (.type "object") = some true
  is : (PySem.W.clsIn K C).isSome = true
section
variable {prog : Program} {w : World} {A : Around} {E : Value → Shared → Prop} {h : Heap} {g : Array GenState} {d : Drawn} {t : Nat} {os : OsState} {a C : Addr} {o : Obj} {K : PySem.W.Frag}
theorem xc_get {R : Result → Shared → Prop} (S : ExI K C) (X : K.In h) (hx : h.get? a = some o) (hc : o.cls = .ref C) (hq : R (.ok (.ret (.ref C))) ⟨h, g, d, t, os⟩) :
    codeAny (model prog w) A (.call (.builtin "getset_descriptor.__get__") ⟨[.builtin "object.__class__", .ref a, .ref C], []⟩) R ⟨h, g, d, t, os⟩ := by
  have hT5 : (⟨h, g, d, t, os⟩ : Shared).TypeIs (.builtin "object.__class__") "getset_descriptor" := F.typeOf_object_class
  have L1 := PySem.W.looks_mroIn (M := model prog w) X S.mo
  rw [← F.owner_object_class] at L1
  refine codeAny_call_builtin F.slot_gs_get.plain F.entry_gs_get (F.slot_gs_get.check _ _ _ _ _ _ _ _ hT5 (F.args_gs_get _ _ _) ?_)
  repeat (any_goals (first | assumption | (with_reducible refine wpAny_loadPart_at hx ?_; rw [hc]) | with_reducible refine L1.at ?_ | wp_step))
  refine ⟨Code.quiet_builtin _ (by decide +kernel), codeAny_builtin F.entry_object_class ?_⟩
  repeat (any_goals (first | assumption | (with_reducible refine wpAny_loadPart_at hx ?_; rw [hc]) | wp_step))
theorem xc_entry {tk : Tok} {Q : Fin → Shared → Prop} (S : ExI K C) (X : K.In h) (hx : h.get? a = some o) (hc : o.cls = .ref C) (hq : Q (.done (.ret (.ref C))) ⟨h, g, d, t, os⟩) :
    wpAny (model prog w) A (Builtin.«object.__getattribute__» ⟨[.ref a, .str "__class__" tk], []⟩) Q E ⟨h, g, d, t, os⟩ := by
  have hT5 : (⟨h, g, d, t, os⟩ : Shared).TypeIs (.builtin "object.__class__") "getset_descriptor" := F.typeOf_object_class
  have L1 := PySem.W.looks_findIn (M := model prog w) X S.cl
  have f5 := F.typeOf_object_class
  have f6 := F.slot_gs_get.lookup
  have f7 := F.slot_gs_set.lookup
  repeat (any_goals (first | assumption | (with_reducible refine wpAny_loadPart_at hx ?_; rw [hc]) | with_reducible refine L1.at ?_ | wp_step))
  refine xc_get S X hx hc ?_
  repeat (any_goals (first | assumption | wp_step))
theorem xc_check {nameV : Value} {Q : Unit → Shared → Prop} (S : ExI K C) (X : K.In h) (hx : h.get? a = some o) (hc : o.cls = .ref C) (hq : Q () ⟨h, g, d, t, os⟩) :
    wpAny (model prog w) A (checkBuiltinCall "BaseException.__getattribute__" ⟨[.ref a, nameV], []⟩) Q E ⟨h, g, d, t, os⟩ := by
  have hk : builtinKind "BaseException.__getattribute__" = some .slot := by decide +kernel
  have hs : splitId "BaseException.__getattribute__" = some ("BaseException", "__getattribute__") := by decide +kernel
  have L1 := PySem.W.looks_mroIn (M := model prog w) X S.mb
  have ha := F.args_bexc_ga (.ref a) nameV
  simp only [checkBuiltinCall, hk, hs]
  refine wpAny_bind ?_
  unfold isInstance
  repeat (first | (with_reducible refine wpAny_loadPart_at hx ?_; rw [hc]) | with_reducible refine L1.at ?_ | wp_step)
  exact hq
theorem xc_by {tk : Tok} {Q : Value → Shared → Prop} (S : ExI K C) (X : K.In h) (hx : h.get? a = some o) (hc : o.cls = .ref C) (hq : Q (.ref C) ⟨h, g, d, t, os⟩) :
    wpAny (model prog w) A (getAttrBy (.ref a) (.str "__class__" tk) false) Q E ⟨h, g, d, t, os⟩ := by
  have f3 := F.excAttr_ValueError.ga.bind (.ref a)
  have L1 := PySem.W.looks_findIn (M := model prog w) X S.ga
  have L2 := PySem.W.looks_findIn (M := model prog w) X S.gt
  have hx2 : (Value.builtin "BaseException.__getattribute__" == Value.builtin "object.__getattribute__") = false := by decide +kernel
  have hx1 : (onTheHeap (Value.ref C) && Value.builtin "BaseException.__getattribute__" == Value.builtin "object.__getattribute__") = false := by rw [hx2]; rfl
  repeat (any_goals (first | assumption | (with_reducible refine wpAny_loadPart_at hx ?_; rw [hc]) | with_reducible refine L1.at ?_ | with_reducible refine L2.at ?_ | wp_step))
  refine codeAny_call_builtin F.excAttr_ValueError.ga.plain F.entry_bexc_ga (xc_check S X hx hc (xc_entry S X hx hc ?_))
  repeat (any_goals (first | assumption | wp_step))
theorem xc_attr {Q : Option Value → Shared → Prop} (S : ExI K C) (X : K.In h) (hx : h.get? a = some o) (hc : o.cls = .ref C) (hq : Q (some (.ref C)) ⟨h, g, d, t + 1, os⟩) :
    wpAny (model prog w) A (getAttr? (.ref a) "__class__") Q E ⟨h, g, d, t, os⟩ := by
  unfold getAttr? getAttrBy?
  repeat (any_goals (first | assumption | with_reducible apply xc_by S X hx hc | wp_step))
end
end L2
namespace L2
open PySem PySem.Spec PyProof.Rows
theorem kitx_exc {K : PySem.W.Frag} {a C : Addr} (S : ExI K C) : PySem.W.KitX K (.ref a) (.ref C) (fun h => ∃ o vs, h.get? a = some o ∧ o.cls = .ref C ∧ o.data = .fields vs) where
  ty := fun M h _ p => by
    obtain ⟨o, _, h1, h2, _⟩ := p
    exact h2 ▸ (PySem.W.Looks.ld h1).andThen .now
  it := fun _ _ X _ => by
    have hi := S.is
    unfold PySem.W.clsIn at hi
    split at hi
    · rename_i c' d' cd' sl' ho
      intro A' Q' E' s' k q
      unfold isType loadHead
      exact wpAny_bind (wpAny_loadPart (k _ _ (X _ _ ho)) (wpAny_pure q))
    · cases hi
  ne := fun h tp dd its n sl X htp => by
    have hi := S.is
    refine Bool.eq_false_iff.mpr fun q => ?_
    have e : C = tp := Value.ref.inj (beq_iff_eq.mp q)
    subst e
    unfold PySem.W.clsIn at hi
    split at hi
    · rename_i c' d' cd' sl' ho
      have z := (X _ _ ho).symm.trans htp
      cases z
    · cases hi
  ca := fun {prog w A E Q s} X p k => by
    obtain ⟨o, vs, h1, h2, _⟩ := p
    obtain ⟨h0, g, d, t, os⟩ := s
    exact xc_attr S X h1 h2 k
theorem refs_of : ∀ {Ds : List Addr} {us : List Value}, Vals (Ds.map V.ref) us → us = Ds.map Value.ref
  | [], _, .nil => rfl
  | D :: Ds, _, .cons r t => by
    have e := refs_of (Ds := Ds) t
    cases (show _ = Value.ref D from r)
    rw [e]; rfl
/-- isinstance(e, D), isinstance(e, ValueError), isinstance(e, (D, ..)) -/
noncomputable def rIsiE (K : PySem.W.Frag) : List V → Hp → VK → Prop := fun xs H Q => ∃ a C y b, xs = [.ref a, y] ∧ H a = some (excO a C) ∧ ExI K C ∧
  ((∃ D, y = .ref D ∧ PySem.W.kitOne K (.ref C) (.ref D) = some b) ∨ (∃ T, y = .ty T ∧ PySem.W.kitOne K (.ref C) (.type T) = some b) ∨ (∃ (p : Addr) (Ds : List Addr), y = .ref p ∧ H p = some (.tup (Ds.map V.ref)) ∧ PySem.W.kitAny K (.ref C) (Ds.map Value.ref) = some b)) ∧ Q (.bl b) H
theorem v_isiE {X : Cx} : CallR X (.builtin "isinstance") (rIsiE X.K) := by
  intro pins s σ H xs us Q I r h
  obtain ⟨a, C, y, b, rfl, ha, S, h1, q⟩ := h
  obtain ⟨u, v, rfl, ru, rv⟩ := r.two
  cases ru
  have p : ∃ o vs, s.heap.get? a = some o ∧ o.cls = .ref C ∧ o.data = .fields vs := (I.hok a _ ha).1
  have fin : ∀ tk, EP X pins σ Q (.bool b) { s with toks := tk } := fun tk => ⟨.bl b, H, I.tok tk, rfl, q⟩
  rcases h1 with ⟨D, rfl, e⟩ | ⟨T, rfl, e⟩ | ⟨tp, Ds, rfl, ht, e⟩
  · cases rv
    exact PySem.W.kia_one (kitx_exc S) I.kIn p e (fun z => nomatch z) fin
  · cases rv
    exact PySem.W.kia_one (kitx_exc S) I.kIn p e (fun z => nomatch z) fin
  · cases rv
    obtain ⟨its, r2, p2, _⟩ := I.tuple (SqT.of ht)
    have ei := refs_of r2
    subst ei
    obtain ⟨⟨cls, dd, data, sl⟩, ho, hc, n, hd⟩ := id p2
    simp only at hc hd
    subst hc hd
    exact PySem.W.kia_tup (kitx_exc S) I.kIn p ho e (fun z => nomatch z) fin
theorem xisiE {X : Cx} (K : PySem.W.Frag) (hK : X.K = K := by rfl) : CallR X (.builtin "isinstance") (rIsiE K) := by subst hK; exact v_isiE
/-- a class of the text, as a value -/
theorem pe_cls {X : Cx} {x : Str} {C : Addr} {pos : Pos} (hg : Gl X x) (hm : X.mg x = some (.ref C)) (hd : (x == ("__debug__" : Str)) = false := by decide) : PE X (.Name x pos) (tC (.ref C)) := pe_glob hg hm rfl hd
/-! ### the class facts, out of the written part -/
theorem exC_of {K : PySem.W.Frag} {h : Heap} {mg : Str → Option Value} {x : Str} {C : Addr} {newId inN Bn : String} {bmN : List Value} (X : K.In h) (G : h.Ns mainGlobals mg) (e : PySem.W.nsIn K mainGlobals x = some (some (.ref C)))
    (q : PySem.W.excIn K C [.type "ValueError", .type "Exception", .type "BaseException", .type "object"] newId = true) (Fn : ExcBaseFacts Bn newId inN bmN)
    (hBn : [Value.type "ValueError", .type "Exception", .type "BaseException", .type "object"].contains (.type Bn) = true) : ExC mg h x C := by
  refine ⟨_, newId, ⟨PySem.W.mg_of X G e, ?_⟩, Bn, inN, bmN, _, _, _, Fn, hBn, F.excBase_ValueError⟩
  unfold PySem.W.excIn at q
  split at q
  · rename_i dd cd sl ho
    split at q
    · rename_i C' bm k0 k1 k2 k3 n k5 hm hs
      simp only [Bool.and_eq_true, beq_iff_eq, Bool.not_eq_true'] at q
      obtain ⟨⟨⟨⟨⟨rfl, rfl⟩, hdel⟩, ht⟩, hok⟩, hni⟩ := q
      obtain ⟨nm, bs, mro, ns, qn, hdc, sn, sub, ab, col, del⟩ := cd
      dsimp only at hm hdel hok hni
      subst hm; subst hdel
      have hsl : sl = #[k0, k1, k2, k3, some (.builtin n), k5] := by
        obtain ⟨l⟩ := sl
        simp only at hs
        rw [hs]
      subst hsl
      exact ⟨bm, ns, nm, qn, bs, hdc, sn, sub, ab, col, dd, k0, k1, k2, k3, k5, _, X _ _ ho, .of_isNs (PySem.W.isNs_of_in X hok), PySem.W.nsMap_none_of_in X hok hni, PySem.W.tail_of_in X ht⟩
    · cases q
  · cases q
noncomputable def excSub (K : PySem.W.Frag) (C R : Addr) : Bool := match K.lookup C with
  | some ⟨.type "type", _, .cls cd, sl⟩ => (match cd.mro, sl.toList with
    | .ref C' :: bm, [_, _, _, _, some (.builtin _), _] => C' == C && !cd.hasDel && (Value.ref C' :: bm).contains (.ref R)
    | _, _ => false)
  | _ => false
theorem exS_of {K : PySem.W.Frag} {h : Heap} {C R : Addr} (X : K.In h) (q : excSub K C R = true) (qr : PySem.W.ktsIn K R "BaseException" = true) : ExS h C R := by
  refine ⟨?_, ?_⟩
  · unfold excSub at q
    split at q
    · rename_i dd cd sl ho
      split at q
      · rename_i C' bm k0 k1 k2 k3 n k5 hm hs
        simp only [Bool.and_eq_true, beq_iff_eq, Bool.not_eq_true'] at q
        obtain ⟨⟨rfl, hdel⟩, ht⟩ := q
        obtain ⟨nm, bs, mro, ns, qn, hdc, sn, sub, ab, col, del⟩ := cd
        dsimp only at hm hdel
        subst hm; subst hdel
        have hsl : sl = #[k0, k1, k2, k3, some (.builtin n), k5] := by
          obtain ⟨l⟩ := sl
          simp only at hs
          rw [hs]
        subst hsl
        exact ⟨nm, qn, ns, bs, bm, hdc, sn, sub, ab, col, dd, k0, k1, k2, k3, k5, n, X _ _ ho, ht⟩
      · cases q
    · cases q
  · obtain ⟨nm, qn, N, bs, bm, hdct, sn, sub, ab, col, dd, k0, k1, k2, k3, k5, newId, hR, hb, _⟩ := PySem.W.kts_cls X qr
    exact ⟨nm, qn, N, bs, bm, hdct, sn, sub, ab, col, dd, k0, k1, k2, k3, k5, newId, hR, hb⟩
end L2
namespace L2
open PySem PySem.Spec PyProof.Rows
theorem boot_ValueError : bootBuiltins "ValueError" = some (.type "ValueError") := by decide +kernel
/-! ### is True, is False -/
section
variable {X : Cx} {a : Expr} {ta : TE}
end
end L2
namespace L2
open PySem
/-! ### lists and tuples of ints compared -/
theorem canLay_ints : ∀ ns : List Int, PyData.canLayAll0 (ns.map PyData.int) = true
  | [] => rfl
  | n :: r => by
    have := canLay_ints r
    simp [PyData.canLayAll0, PyData.canLay0, this]
theorem depth_ints : ∀ ns : List Int, PyData.depthAll (ns.map PyData.int) ≤ 1
  | [] => by simp [PyData.depthAll]
  | n :: r => by
    have := depth_ints r
    simp [PyData.depthAll, PyData.depth]
    omega
theorem shaped_tup (ns : List Int) : SeqAt.shaped (.tuple (ns.map .int)) = true := by
  have h1 := canLay_ints ns
  have h2 := depth_ints ns
  simp only [SeqAt.shaped, PyData.canLay0, PyData.depth, h1, Bool.true_and]
  exact decide_eq_true (by omega)
theorem eqv_tup (ns ms : List Int) : PyData.eqv (.tuple (ns.map .int)) (.tuple (ms.map .int)) = decide (ns = ms) := by
  rw [PyData.eqv]; exact PySem.W.ked_eqvAll ns ms
theorem eqTT {K : PySem.W.Frag} {g : Bool → Bool} {H : Hp} {a b : Addr} {ns ms : List Int} {Q : VK} (ha : SqT K H a (ns.map V.int)) (hb : SqT K H b (ms.map V.int)) (q : Q (.bl (g (decide (ns = ms)))) H) : rEqV K g (.ref a) (.ref b) H Q :=
  .inl ⟨_, _, .tup ha (RdDs.ints ns), .tup hb (RdDs.ints ms), shaped_tup ns, shaped_tup ms, by rw [eqv_tup]; exact q⟩
end L2

set_option maxHeartbeats 4000000
namespace L2
open PySem PySem.Spec PyProof.Rows
/-! ### try: if c: f(..) else: g(..) except R as n: suite -/
/-- what the suite is told -/
noncomputable def tTaken (base : Heap) (R : Addr) (j : Nat) (ts : Addr → TS) (D : Ends) (σ : St) : XK := fun cls _ H2 => ∃ C, cls = .ref C ∧ ExS base C R ∧ ∀ a, H2 a = none →
    ts a { nx := fun σ' H' => D.nx (σ'.set j none) H', rt := D.rt, bk := fun σ' H' => D.bk (σ'.set j none) H', ct := fun σ' H' => D.ct (σ'.set j none) H' } (σ.set j (some (.ref a))) (upd H2 a (excO a C))
theorem try_lands {X : Cx} {n x : Str} {j : Nat} {R : Addr} {xp hpos : Pos} {b₀ : Stmt} {suite : List Stmt} {ts : Addr → TS} {pins : List (Addr × Obj)} {σ : St} {H H1 : Hp} {s s1 s2 : Shared} {D : Ends} {ev : Value}
    (hstk : X.stack = X.env :: X.outer) (hfr : X.env.frame = some X.env.locals) (hex : X.ex = []) (hN : X.N.Nodup)
    (hj : X.N[j]? = some n) (hn : X.env.scope.names.lookup n = some .local) (hx : Gl X x) (hR : X.mg x = some (.ref R)) (hs : ∀ a, PSs (cxS X a) (b₀ :: suite) (ts a))
    (hdx : (x == ("__debug__" : Str)) = false) (I : Inv X pins σ H s) (I1 : Inv X pins σ H1 s1) (hq : Flown X.prog X.w X.stack H1 s1 (tTaken X.base R j ts D σ) ev s2) :
    wpAny (model X.prog X.w) X.A (noteFrame ev X.env) (fun _ s₂ => wpAny (model X.prog X.w) X.A (setFlight ev none) (fun _ s₃ => wpAny (model X.prog X.w) X.A (handleBy ev X.env [.ExceptHandler (some (.Name x xp)) (some n) (b₀ :: suite) hpos]) (SP X pins D) X.xe s₃) X.xe s₂) X.xe s2 := by
  have nx : ∀ b : Addr, b ∉ X.ex := fun b => by rw [hex]; simp
  obtain ⟨ea, Cc, a0, B, H2, rfl, os, bare, fl, hok, un, old, C', eC, S, q2⟩ := Flown.ex hq
  cases eC
  rw [hstk] at fl
  have frs_eq : frs X.stack = (X.env :: X.outer).filterMap (·.frame) := by rw [hstk]; rfl
  -- the exception's object is new
  have oe := fl.first
  have newE : ∀ u, s1.heap.get? ea ≠ some u := fun u z => by
    rcases old ea u z with hb | ⟨o', hb⟩
    · rw [frs_eq] at hb
      obtain ⟨_, o, ho, hd⟩ := fl.2.2.1.mem hb
      obtain ⟨o2, vs2, e1, _, e2, _⟩ := oe
      rw [e1] at ho; cases ho
      exact hd _ e2
    · rw [fl.2.1] at hb; cases hb
  -- from s1 to any later heap of the flight
  have to : ∀ h6, Heap.FlyingW B (X.env :: X.outer) ea (.ref Cc) a0 h6 → s2.heap.UpToSlots h6 → Inv X pins σ H2 { s2 with heap := h6 } := fun h6 fl6 up => by
    refine I1.call' (ch := []) os ⟨fun b o e1 n1 hb _ => ?_, fun b o e1 n1 hb _ => ?_, fun b o e1 n1 _ => un.free b o e1 n1 (by simp), fun b o e1 _ => ?_, un.tups, un.frzs, un.tbls⟩ (hok.kept fl6.1) bare (fun _ z => nomatch z)
    · rcases old b o e1 with z | ⟨o', z⟩
      · exact absurd z hb
      · have e2 := un.keep b o e1 n1 hb (by simp)
        have e3 := fl.1 b o' z
        rw [e2] at e3; cases e3
        exact fl6.1 b _ z
    · obtain ⟨sl, e2⟩ := un.slot b o e1 n1 hb (by simp)
      rw [frs_eq] at hb
      obtain ⟨_, o2, ho, hd⟩ := fl.2.2.1.mem hb
      rw [e2] at ho; cases ho
      obtain ⟨sl', e3⟩ := up b _ e2 hd
      exact ⟨sl', e3⟩
    · rcases old b o e1 with z | ⟨o', z⟩
      · rw [frs_eq] at z
        obtain ⟨_, o2, ho, hd⟩ := fl.2.2.1.mem z
        obtain ⟨sl', e3⟩ := up b _ ho hd
        exact ⟨_, e3⟩
      · exact ⟨o', fl6.1 b o' z⟩
  have hfrm : X.A.frames = some (X.env :: X.outer) := by rw [I.ok.frames, hstk]
  refine wpAny_looks_onW hfrm hfr fl fun h4 held4 up4 => ?_
  refine wpAny_landsW held4 fun h5 fl5 up5 => ?_
  have I5 := to h5 fl5 (up4.trans up5)
  obtain ⟨ob, hob, hobc⟩ := fl5.there
  refine wpAny_handleBy_cons (codeAny_handlers_test (ld_glob (X := cxS X ea) (I5.suite ea) hx hR ?_ hdx)) (by intro z; cases z)
  refine excMatches_own S I5.bk hob hobc (codeAny_handlers_suite_as ?_)
  refine lands_againW fl5 fun h6 fl6 up6 => ?_
  have I6 := to h6 fl6 ((up4.trans up5).trans up6)
  obtain ⟨oe6, vs6, e6, c6, d6, _⟩ := fl6.first
  have hn2 : H2 ea = none := by
    cases z : H2 ea with
    | none => rfl
    | some u =>
      exfalso
      obtain ⟨o', z'⟩ := (hok ea u z).there
      rw [fl.2.1] at z'; cases z'
  have I7 : Inv X pins σ (upd H2 ea (excO ea Cc)) { s2 with heap := h6 } := by
    refine I6.track hn2 (fun u z => ?_) (fun z => ?_) (fun y c e z => ?_) (fun p hp z => ?_) (excO_ok e6 c6 d6)
    · obtain ⟨o', e1⟩ := I1.base.there ea u z (nx ea)
      exact newE o' e1
    · obtain ⟨m, ⟨o, _, _, ho, _⟩, _⟩ := I1.loc
      exact newE o (by rw [z]; exact ho)
    · obtain ⟨v', o, ho, _⟩ := I1.cell y c e
      exact newE o (by rw [← z]; exact ho)
    · exact newE p.2 (by rw [← z]; exact (I1.pin p hp).1)
  refine store_ok (X := cxS X ea) (I7.suite ea) hN hj (.inl hn) (show RelV (.ref ea) (Value.ref ea) from rfl) (fun s8 I8 => ?_) (.inr hn)
  have q3 := q2 ea hn2
  have gone : ∀ {σ9 : St} {H9 : Hp} {s9 : Shared} {Q' : Unit → Shared → Prop}, Inv (cxS X ea) pins σ9 H9 s9 → (∀ s10, Inv X pins (σ9.set j none) H9 s10 → Q' () s10) → wpAny (model X.prog X.w) X.A (do bindName X.env n .none; unbindBehindTheSuite X.env n hpos) Q' X.xe s9 :=
    fun {σ9 H9 s9 Q'} I9 k => by
      have I9' : Inv X pins σ9 H9 s9 := I9.unsuite I.ok
      obtain ⟨m, hm9, _⟩ := id I9'.loc
      exact wpAny_nameGoes_keeps hn hm9 (by rw [I.ok.kind]; rfl) fun h' v' n' sb => k _ (I9'.unset hN hj hm9 n' sb)
  refine wpAny_mono (hs ea pins s8 _ _ _ I8 q3) (fun fl9 s9 q9 => ?_) fun _ _ z => z.elim
  cases fl9 with
  | next =>
    obtain ⟨σ9, H9, I9, q9⟩ := q9
    exact gone I9 fun s10 I10 => ⟨_, H9, I10, q9⟩
  | brk =>
    obtain ⟨σ9, H9, I9, q9⟩ := q9
    exact gone I9 fun s10 I10 => ⟨_, H9, I10, q9⟩
  | cont =>
    obtain ⟨σ9, H9, I9, q9⟩ := q9
    exact gone I9 fun s10 I10 => ⟨_, H9, I10, q9⟩
  | ret u =>
    obtain ⟨y, σ9, H9, I9, r9, q9⟩ := q9
    exact gone I9 fun s10 I10 => ⟨y, _, H9, I10, r9, q9⟩
/-! ### try: f(..) except R as n: suite -/
noncomputable def tTryExpr (base : Heap) (R : Addr) (sp : Sp) (j : Nat) (t : TA) (ts : Addr → TS) : TS := fun D σ H => t σ H fun vs H1 => sp vs H1 (fun _ H2 => D.nx σ H2) (tTaken base R j ts D σ)
theorem ps_tryExpr {X : Cx} {n x f : Str} {j k k' : Nat} {ps : List Str} {sp : Sp} {R : Addr} {fp cpos epos xp hpos pos : Pos} {e : Expr} {es : List Expr} {b₀ : Stmt} {suite : List Stmt} {t : TA} {ts : Addr → TS}
    (C : Cal X.prog X.w X.K X.mg X.base f k ps sp) (hr : Room k' X.A) (hstk : X.stack = X.env :: X.outer) (hfr : X.env.frame = some X.env.locals) (hex : X.ex = []) (hg : Gl X f) (ha : PA X.nox (e :: es) t) (hN : X.N.Nodup)
    (hj : X.N[j]? = some n) (hn : X.env.scope.names.lookup n = some .local) (hx : Gl X x) (hR : X.mg x = some (.ref R)) (hs : ∀ a, PSs (cxS X a) (b₀ :: suite) (ts a)) (hk : k ≤ k' := by decide)
    (hdf : (f == ("__debug__" : Str)) = false := by decide) (hdx : (x == ("__debug__" : Str)) = false := by decide)
    (he : starEach (e :: es) X.env = (false, eval e X.env) :: starEach es X.env := by rfl) (hpl : (backTo cpos (starEach es X.env)).any (·.1) = false := by rfl)
    (hsw : swapsWith (.Call (.Name f fp) (e :: es) [] cpos) none epos.line X.env = pure false := by rfl) :
    PS X (.Try [.Expr (.Call (.Name f fp) (e :: es) [] cpos) epos] [.ExceptHandler (some (.Name x xp)) (some n) (b₀ :: suite) hpos] [] [] pos) (tTryExpr X.base R sp j t ts) := by
  intro pins s σ H D I h
  obtain ⟨gf, gd, hm, hkp, hb, F⟩ := C.ex
  refine wpAny_Try_except (wpAny_execs_cons (wpAny_Expr_any (wpAny_Call_Name_kw (ld_glob I hg hm ?_ hdf)) I.quiet hsw))
  refine PySem.W.callWith_K (h₀ := X.base) I.ok.mod.kin hkp (wpAny_mono (ha cpos pins s σ H _ (I.wish _) h) (fun us s1 ⟨vs, H1, I1', r, q⟩ => ⟨I1'.kIn, ?_⟩) fun _ _ z => z.elim) he hpl
  have I1 : Inv X pins σ H1 s1 := I1'.unwish
  have hl : (us ++ []).length = ps.length := by
    rw [List.append_nil, ← r.length]; exact F.len _ _ _ _ q
  refine wpAny_call (codeAny_mono (F.run X.A X.stack s1 H1 ⟨us, []⟩ (us ++ []) vs _ _ (hr.mono hk) I1.env0 (hb s1 us I1.kIn hl) (by rw [List.append_nil]; exact r) q) fun rs s2 hq => ?_)
  cases rs with
  | ok fl =>
    cases fl with
    | ret u =>
      obtain ⟨y, H2, I2, ry, q2⟩ := I1.after hq
      exact wpAny_execs_nil (wpAny_execs_nil ⟨_, H2, I2, q2⟩)
    | next => exact False.elim hq
    | brk => exact False.elim hq
    | cont => exact False.elim hq
  | error ev => exact try_lands hstk hfr hex hN hj hn hx hR hs hdx I I1 hq
end L2
namespace L2
open PySem PySem.Spec PyProof.Rows
section
variable {X : Cx}
/-! ### texts: lists of them, their methods, slices, signs one by one -/
theorem strsAre_of : ∀ {xs : List Str} {its : List Value}, Vals (xs.map V.str) its → ∃ l : List (Str × Tok), its = strValues l ∧ l.map (·.1) = xs
  | [], _, h => by cases h; exact ⟨[], rfl, rfl⟩
  | x :: xs, _, h => by
    cases h with
    | cons r t =>
      obtain ⟨tk, rfl⟩ := r
      obtain ⟨l, rfl, e⟩ := strsAre_of t
      exact ⟨(x, tk) :: l, rfl, by rw [List.map_cons, e]⟩
theorem vals_strs : ∀ (l : List (Str × Tok)), Vals ((l.map (·.1)).map V.str) (strValues l)
  | [] => .nil
  | p :: l => .cons ⟨p.2, rfl⟩ (vals_strs l)
theorem strs_of : ∀ (l : List (Str × Tok)), StrsAre (strValues l) (l.map (·.1))
  | [] => .nil
  | p :: l => .cons p.1 p.2 (strs_of l)
theorem split_few (z y : Str) : (Txt.split z y).length ≤ z.length + 2 ∧ (Builtin.Str.partsBetween z (Builtin.Str.occurrences z y 0 z.length (z.length + 1)) y.length).length ≤ z.length + 2 := by
  have hn := StrLaws.occ_length_le z y 0 z.length (z.length + 1)
  have h2 : (Builtin.Str.partsBetween z (Builtin.Str.occurrences z y 0 z.length (z.length + 1)) y.length).length ≤ z.length + 2 := by
    rw [length_partsBetween]; omega
  refine ⟨?_, h2⟩
  unfold Txt.split
  split
  · simp
  · split
    · simp
    · exact h2
noncomputable def rSplit : V → List V → Hp → VK → Prop := fun x vs H Q => ∃ z y, x = .str z ∧ vs = [.str y] ∧ (y.length == 0) = false ∧ z.length ≤ 100000 ∧ ∀ p, H p = none → Q (.ref p) (upd H p (.lst ((Txt.split z y).map V.str)))
theorem mt_split : MtR X "str.split" rSplit := by
  intro pins s σ H x vs v us Q I rx rv h
  obtain ⟨z, y, rfl, rfl, hy, hz, q⟩ := h
  obtain ⟨t, rfl⟩ := rx
  obtain ⟨u, rfl, ru⟩ := rv.one
  obtain ⟨t', rfl⟩ := ru
  have h100 : (200000 : Nat) ≤ sizeLine := by decide
  have hsz : z.length ≤ sizeLine := by omega
  obtain ⟨f1, f2⟩ := split_few z y
  have fin : ∀ (l : List (Str × Tok)) (k : Nat), l.map (·.1) = Txt.split z y → EP X pins σ Q (.ref s.heap.objs.size) { s with heap := s.heap.push { cls := .type "list", data := .seq (strValues l).toArray }, toks := k } := fun l k e =>
    ⟨.ref s.heap.objs.size, _, I.lnew (t' := k) (ys := (Txt.split z y).map V.str) (by rw [← e]; exact vals_strs l) (by rw [List.length_map]; omega), rfl, q _ I.fresh⟩
  cases h1 : (decide (z.length < y.length) || decide (Builtin.Str.strKind z < Builtin.Str.strKind y))
  · cases hf : (Builtin.Str.occurrences z y 0 z.length (z.length + 1)).isEmpty
    · refine call_meets F.slot_str_split (typeIs_str _ _ _) F.entry_str_split (F.args_str_split_2 _ _) (meets_str_split_sep z y t t' h1 hy hf hsz (by omega)) ?_
      show wants _ _ _ { s with toks := _, heap := s.heap.push { cls := .type "list", data := .seq (strsFrom s.toks (Builtin.Str.partsBetween z (Builtin.Str.occurrences z y 0 z.length (z.length + 1)) y.length)).toArray } }
      rw [strsFrom_eq]
      exact fin (numbered s.toks _) _ ((numbered_texts _ _).trans ((if_neg (ne_true_of_eq_false h1)).trans (if_neg (ne_true_of_eq_false hf))).symm)
    · exact call_meets F.slot_str_split (typeIs_str _ _ _) F.entry_str_split (F.args_str_split_2 _ _) (meets_str_split_not_found z y t t' h1 hy hf)
        (fin [(z, t)] s.toks ((if_neg (ne_true_of_eq_false h1)).trans (if_pos hf)).symm)
  · exact call_meets F.slot_str_split (typeIs_str _ _ _) F.entry_str_split (F.args_str_split_2 _ _) (meets_str_split_cannot_occur z y t t' h1)
      (fin [(z, t)] s.toks (if_pos h1).symm)
noncomputable def rJoin : V → List V → Hp → VK → Prop := fun x vs H Q => ∃ (sep : Str) (l : Addr) (xs : List Str), x = .str sep ∧ vs = [.ref l] ∧ H l = some (.lst (xs.map V.str)) ∧ JoinOk sep xs = true ∧ Q (.str (Str.join sep xs)) H
theorem mt_join : MtR X "str.join" rJoin := by
  intro pins s σ H x vs v us Q I rx rv h
  obtain ⟨sep, l, xs, rfl, rfl, hH, hok, q⟩ := h
  obtain ⟨t, rfl⟩ := rx
  obtain ⟨u, rfl, ru⟩ := rv.one
  cases ru
  obtain ⟨z, its, n, r, hl, e⟩ := I.lstM hH
  obtain ⟨l', rfl, e'⟩ := strsAre_of r
  rw [← StrLaws.glued_eq_join] at q
  exact SC.join ⟨_, e, rfl, _, rfl⟩ e' hok fun t' k => ⟨.str _, H, I.tok k, ⟨_, rfl⟩, q⟩
noncomputable def rStarts : V → List V → Hp → VK → Prop := fun x vs H Q => ∃ z y, x = .str z ∧ vs = [.str y] ∧ Q (.bl (Txt.startswith z y)) H
theorem mt_starts : MtR X "str.startswith" rStarts := by
  intro pins s σ H x vs v us Q I rx rv h
  obtain ⟨z, y, rfl, rfl, q⟩ := h
  obtain ⟨t, rfl⟩ := rx
  obtain ⟨u, rfl, ru⟩ := rv.one
  obtain ⟨t', rfl⟩ := ru
  exact SC.startswith ⟨.bl _, H, I, rfl, q⟩
noncomputable def rCountS : V → List V → Hp → VK → Prop := fun x vs H Q => ∃ (l : Addr) (xs : List Str) (y : Str), x = .ref l ∧ vs = [.str y] ∧ H l = some (.lst (xs.map V.str)) ∧ Q (.int (xs.count y : Nat)) H
theorem countIn_count (x : Str) : ∀ l : List Str, countIn (.str x) (l.map PyData.str) = ((l.count x : Nat) : Int)
  | [] => rfl
  | a :: r => by
    rw [countIn_strs_sum, List.map_cons, List.sum_cons, ← countIn_strs_sum, countIn_count x r, List.count_cons]
    split <;> simp <;> omega
theorem mt_countS : MtR X "list.count" rCountS := by
  intro pins s σ H x vs v us Q I rx rv h
  obtain ⟨l, xs, y, rfl, rfl, hH, q⟩ := h
  cases rx
  obtain ⟨u, rfl, ru⟩ := rv.one
  obtain ⟨t', rfl⟩ := ru
  obtain ⟨z, its, n, r, hl, e⟩ := I.lstM hH
  obtain ⟨l', rfl, e'⟩ := strsAre_of r
  refine count_list_strs ⟨_, e, rfl, _, rfl⟩ (strs_of l') ⟨.int _, H, I.tok _, ⟨_, rfl⟩, ?_⟩
  rw [e', countIn_count]; exact q
noncomputable def rIndexS : V → List V → Hp → VK → Prop := fun x vs H Q => ∃ (l : Addr) (xs : List Str) (y : Str) (j : Nat), x = .ref l ∧ vs = [.str y] ∧ H l = some (.lst (xs.map V.str)) ∧ xs[j]? = some y ∧ (∀ m, m < j → xs[m]? ≠ some y) ∧ Q (.int (j : Int)) H
theorem strValues_get (l : List (Str × Tok)) {m : Nat} (h : m < (strValues l).toArray.size) (y : Str) : PyProof.Rows.isStrOf y (strValues l).toArray[m] = decide ((l.map (·.1))[m]? = some y) := by
  have hm : m < l.length := by simpa [strValues] using h
  have e : (strValues l).toArray[m] = .str l[m].1 l[m].2 := by simp [strValues]
  rw [e, List.getElem?_map, List.getElem?_eq_getElem hm]
  show (l[m].1 == y) = _
  by_cases c : l[m].1 = y
  · simp [c]
  · simp [c]
theorem mt_indexS : MtR X "list.index" rIndexS := by
  intro pins s σ H x vs v us Q I rx rv h
  obtain ⟨l, xs, y, j, rfl, rfl, hH, hj, hno, q⟩ := h
  cases rx
  obtain ⟨u, rfl, ru⟩ := rv.one
  obtain ⟨t, rfl⟩ := ru
  obtain ⟨z, its, nn, r, hl, e⟩ := I.lstM hH
  obtain ⟨l', rfl, e'⟩ := strsAre_of r
  subst e'
  have hjl : j < l'.length := by
    have := (List.getElem?_eq_some_iff.mp hj).1
    simpa using this
  have hs : (strValues l').toArray.size = l'.length := by simp [strValues]
  have hsl : l'.length ≤ sizeLine := by simpa using z
  have hs40 : sizeLine < 2 ^ 62 := by decide
  refine call_meets F.slot_list_index ⟨_, e, rfl⟩ F.entry_list_index (F.args_list_index_2 _ _) (SeqAt.list_indexAt l (strValues l').toArray nn none #[] (.str y t) (PyProof.Rows.isStrOf y) j (by omega) (by omega) (by rw [strValues_get]; exact decide_eq_true hj) (fun m hm h2 => by rw [strValues_get]; exact decide_eq_false (hno m h2))) ⟨e, fun w hw => ?_, ?_⟩
  · exact (eq_isStrOf y t (strs_of l') w (by simpa using hw)).at _ _
  · exact ⟨.int _, H, I.tok _, ⟨_, rfl⟩, q⟩
theorem pe_globS {x : Str} {i : Str} {pos : Pos} (hg : Gl X x) (hm : ∃ t, X.mg x = some (.str i t)) (hd : (x == ("__debug__" : Str)) = false := by decide) : PE X (.Name x pos) (tC (.str i)) := by
  obtain ⟨t, e⟩ := hm
  exact pe_glob hg e ⟨t, rfl⟩ hd
/-- int of a number's text -/
theorem call_intS : CallR X (.type "int") (fun xs H Q => ∃ z n, xs = [.str z] ∧ intText? z = some n ∧ z.length ≤ 640 ∧ Q (.int n) H) := by
  intro pins s σ H xs us Q I r h
  obtain ⟨z, n, rfl, hn, hl, q⟩ := h
  obtain ⟨u, rfl, t, rfl⟩ := vals1 r
  exact PySem.W.KIN.call_text hn hl ⟨.int _, H, I.tok _, ⟨_, rfl⟩, q⟩
/-- t[lo:hi] -/
noncomputable def rSlS : V → Option Int → Option Int → Hp → VK → Prop := fun x lo hi H Q => ∃ z, x = .str z ∧ z.length ≤ sizeLine ∧ Q (.str (Txt.slice z lo hi)) H
theorem sl_str : SlR X rSlS := by
  intro pins s σ H x v vl vu lo hi sl Q I rx hs pl pu h
  obtain ⟨z, rfl, hz, q⟩ := h
  obtain ⟨t, rfl⟩ := rx
  refine ⟨"str", _, F.slot_str_getitem.lookup, typeIs_str _ _ _, ?_⟩
  have fin : ∀ t' k, EP X pins σ Q (.str (Txt.slice z lo hi) t') { s with toks := k } := fun t' k => ⟨.str _, H, I.tok k, ⟨_, rfl⟩, q⟩
  cases pl with
  | none => cases pu with
    | none => exact wpAny_getItem_str_slice (l := none) (u := none) (st := none) hs rfl (post_val_or_str ⟨Nat.le_trans (Txt.slice_le z _ _) hz, fin⟩)
    | int j tj => exact wpAny_getItem_str_slice (l := none) (u := some (j, tj)) (st := none) hs rfl (post_val_or_str ⟨Nat.le_trans (Txt.slice_le z _ _) hz, fin⟩)
  | int i ti => cases pu with
    | none => exact wpAny_getItem_str_slice (l := some (i, ti)) (u := none) (st := none) hs rfl (post_val_or_str ⟨Nat.le_trans (Txt.slice_le z _ _) hz, fin⟩)
    | int j tj => exact wpAny_getItem_str_slice (l := some (i, ti)) (u := some (j, tj)) (st := none) hs rfl (post_val_or_str ⟨Nat.le_trans (Txt.slice_le z _ _) hz, fin⟩)
/-- its signs, one by one -/
noncomputable def Its (z : Str) : It := ⟨fun i _ => i < z.length, fun i H x H' => H' = H ∧ ∃ c, z.cps.toList[i]? = some c ∧ x = .str ⟨#[c]⟩, fun i _ => z.length ≤ i⟩
theorem its_str {z : Str} {H1 : Hp} : ItS (Its z) (z.cps.toList.map fun c => V.str ⟨#[c]⟩) H1 := by
  have hl : z.cps.toList.length = z.length := by simp [Str.length]
  refine ⟨fun i H' g h => ?_, fun i H' x H2 g y => ⟨y.1, fun h => ?_⟩, fun i H' g h => ?_⟩
  · rw [List.length_map, hl] at h; exact h
  · obtain ⟨_, c, e, rfl⟩ := y
    rw [List.getElem?_map, e]; rfl
  · rw [List.length_map, hl] at h; exact h
theorem turn_str {P : Program} {w : World} {K : PySem.W.Frag} {tg : Expr} (z : Str) (t : Tok) (it : Addr) : Turn P w K tg (Its z) [it] it (fun i h => h.IsStrIter it (strIterType z) z t i) where
  mem := by simp
  obj := fun i h st b hb => by
    have e : b = it := by simpa using hb
    subst e
    obtain ⟨o, e, c, d⟩ := st
    exact ⟨o, e, fun v z => by rw [d] at z; cases z⟩
  keep := fun i h h' st k => by
    obtain ⟨o, e, c, d⟩ := st
    exact ⟨o, k it (by simp) o e, c, d⟩
  item := by
    intro X hP hw hK hc i pins s σ H E I hf st hg
    subst hP hw hK
    obtain ⟨f0, f1, f2, f3, f4, f5⟩ := hf it (by simp)
    have hl : z.cps.toList.length = z.length := by simp [Str.length]
    have hi : i < z.length := hg
    obtain ⟨c, hc'⟩ : ∃ c, z.cps.toList[i]? = some c := ⟨_, List.getElem?_eq_getElem (by omega)⟩
    have hc2 : z.cps[i]? = some c := by simpa using hc'
    cases ha : z.cps.all (· < 128)
    · have et : strIterType z = "str_iterator" := by unfold strIterType; rw [ha]; rfl
      rw [et] at st
      refine wpAny_pyNext_wide_item st hc2 fun h' st' sb => ?_
      have I1 : Inv X pins σ H { s with heap := h', toks := s.toks + 1 } := I.turned (t' := s.toks + 1) (fun b o hb e => (sb.2 b hb).trans e) f0 f1 f3 f4 f5
      obtain ⟨o, e, c', d⟩ := id st'
      exact ⟨.str ⟨#[c]⟩ s.toks, rfl, go_of (s := { s with heap := h', toks := s.toks + 1 }) e c' d (by decide) ⟨.str ⟨#[c]⟩, H, I1, ⟨_, rfl⟩, ⟨rfl, c, hc', rfl⟩, by rw [et]; exact st', fun b hb => (hf b hb).1⟩⟩
    · have et : strIterType z = "str_ascii_iterator" := by unfold strIterType; rw [ha]; rfl
      rw [et] at st
      refine wpAny_pyNext_ascii_item st hc2 fun h' st' sb => ?_
      have I1 : Inv X pins σ H { s with heap := h', toks := s.toks + 1 } := I.turned (t' := s.toks + 1) (fun b o hb e => (sb.2 b hb).trans e) f0 f1 f3 f4 f5
      obtain ⟨o, e, c', d⟩ := id st'
      exact ⟨.str ⟨#[c]⟩ s.toks, rfl, go_of (s := { s with heap := h', toks := s.toks + 1 }) e c' d (by decide) ⟨.str ⟨#[c]⟩, H, I1, ⟨_, rfl⟩, ⟨rfl, c, hc', rfl⟩, by rw [et]; exact st', fun b hb => (hf b hb).1⟩⟩
  done := by
    intro X hP hw hK hc i pins s σ H E I hf st hg
    subst hP hw hK
    obtain ⟨f0, f1, f2, f3, f4, f5⟩ := hf it (by simp)
    have hi : z.length ≤ i := hg
    have hc2 : z.cps[i]? = none := Array.getElem?_eq_none hi
    cases ha : z.cps.all (· < 128)
    · have et : strIterType z = "str_iterator" := by unfold strIterType; rw [ha]; rfl
      rw [et] at st
      exact wpAny_pyNext_wide_end (I.ok.hd hc) st hc2 fun h' eb => ⟨rfl, I.turned (t' := s.toks) (fun b o hb e => eb b o hb e) f0 f1 f3 f4 f5⟩
    · have et : strIterType z = "str_ascii_iterator" := by unfold strIterType; rw [ha]; rfl
      rw [et] at st
      exact wpAny_pyNext_ascii_end (I.ok.hd hc) st hc2 fun h' eb => ⟨rfl, I.turned (t' := s.toks) (fun b o hb e => eb b o hb e) f0 f1 f3 f4 f5⟩
  self := fun _ _ _ _ _ st h => by
    revert st
    unfold strIterType
    split
    · exact fun st => wpAny_pyIter_striter_ascii st h
    · exact fun st => wpAny_pyIter_striter_wide st h
noncomputable def iStr (tl : TE) : TI := fun σ H R => tl σ H fun x H1 => ∃ z, x = .str z ∧ R (Its z) H1
theorem pi_str {tg l : Expr} {tl : TE} (hl : PE X l tl) : PI X tg l (iStr tl) := by
  intro pins s σ H R I h
  refine thn (hl pins s σ H _ I h) fun v s1 ⟨x, H1, I1, r1, q1⟩ => ?_
  obtain ⟨z, rfl, q⟩ := q1
  obtain ⟨t, rfl⟩ := r1
  refine wpAny_pyIter_strU ?_
  refine ⟨s1.heap.objs.size, [s1.heap.objs.size], _, _, H1, rfl, I1.kept (t' := s1.toks) fun b o e => Heap.get?_push_of_some _ e, turn_str z t _, ⟨_, Heap.get?_push_size _ rfl, rfl, rfl⟩, fun b hb => ?_, q⟩
  have e : b = s1.heap.objs.size := by simpa using hb
  subst e
  exact I1.fpOk (Nat.le_refl _) (I1.hok.fresh (Nat.le_refl _))
section
variable (K : PySem.W.Frag)
theorem xmeth1 {T id : String} {r : V → List V → Hp → VK → Prop} {name : Str} {o e : Expr} {to : TE} {te : TE} {apos cpos : Pos} (pa : PlainAttrs T) (slot : Slot T name id) (hty : typeOf (.builtin id) = pure (.type "method_descriptor")) (hm : MtR X id r) (ho : PE X o to) (he : PE X e te) (hK : X.K = K := by rfl)
    (hbase : attributeBase o name X.env (eval o X.env) = eval o X.env := by rfl)
    (hfew : ((backTo cpos (starEach [e] X.env)).all (fun x => !x.1) && (backToKw cpos (keywordEach [] X.env)).all (fun x => x.1.isSome)
      && decide ([e].length + ([] : List Keyword).length + (if ([] : List Keyword).isEmpty then 0 else 1) < 30)) = true := by rfl)
    (hline : (apos.endLine == cpos.line) = true := by rfl) (hs : starEach [e] X.env = (false, eval e X.env) :: starEach [] X.env := by rfl) :
    PE X (.Call (.Attribute o name apos) [e] [] cpos) (tBM K T r to (tCons te tNil)) := by
  subst hK
  exact pe_bm pa slot hty hm ho (pa_cons he pa_nil hs) hbase hfew hline hs rfl
end
end
end L2
namespace L2
open PySem PySem.Spec PyProof.Rows
/-! ### an exception leaves a comprehension -/
theorem funFrames_less {h base base' : Heap} (k : ∀ b o, base'.get? b = some o → base.get? b = some o) : ∀ {l : List Env}, h.FunFrames base l → h.FunFrames base' l
  | [], _ => trivial
  | env :: r, ⟨a, ⟨L, o, b, c, d, e⟩, f⟩ => by
    have c' : base'.get? L = none := by
      cases q : base'.get? L with
      | none => rfl
      | some o' => rw [k L o' q] at c; cases c
    exact ⟨a, ⟨L, o, b, c', d, e⟩, funFrames_less k f⟩
theorem funFrames_but {h h' base : Heap} : ∀ {l : List Env}, (∀ b ∈ frs l, h'.get? b = h.get? b) → h.FunFrames base l → h'.FunFrames base l
  | [], _, _ => trivial
  | env :: r, k, ⟨a, ⟨L, o, b, c, d, e⟩, f⟩ => ⟨a, ⟨L, o, b, c, (k L (by show L ∈ (env :: r).filterMap (·.frame); rw [List.filterMap_cons, b]; exact List.mem_cons_self)).trans d, e⟩, funFrames_but (fun x hx => k x (by
      show x ∈ (env :: r).filterMap (·.frame)
      rw [List.filterMap_cons, b]; exact List.mem_cons_of_mem _ hx)) f⟩
section
variable {M : Model} {A : Around} {E : Value → Shared → Prop} {s : Shared}
theorem noteFrame_any {base : Heap} {env : Env} {outer : List Env} {L e : Addr} {cls a0 fl : Value} {Q : Unit → Shared → Prop}
    (hfr : A.frames = some (env :: outer)) (hl : s.heap.FunFrames base (env :: outer)) (hf : env.frame = some L) (ht : s.heap.TracedAtW base e cls a0 fl) (hkb : base.StaysIn s.heap) (hen : base.get? e = none)
    (h : ∀ h', Heap.HeldW base (env :: outer) e cls a0 L h' → s.heap.UpToSlots h' → Q () { s with heap := h' }) : wpAny M A (noteFrame (.ref e) env) Q E s := by
  by_cases c : fl = rawInt L
  · subst c
    exact wpAny_noteFrame_againW hf ht (h s.heap ⟨hkb, hen, hl, ht⟩ (Heap.UpToSlots.refl _))
  · obtain ⟨oe, vs, T, oT, ts, he, ⟨hcls, h0⟩, hd, h1, hnT, hTe, hT, hdT, h3⟩ := ht
    subst hcls
    unfold noteFrame
    simp only [hf]
    refine wpAny_bind (wpAny_field he hd h1 ?_)
    rw [if_pos (show (Value.ref T != Value.none) = true from by simp)]
    refine wpAny_bind (wpAny_field hT hdT h3 ?_)
    rw [if_neg (show ¬ ((fl == rawInt L) = true) from fun z => c (eq_of_beq z))]
    refine wpAny_bind (wpAny_setField hT hdT (Array.getElem?_eq_some_iff.mp h3).1 ?_)
    have other : ∀ b, b ≠ T → (s.heap.update T (Obj.mapFields (·.setIfInBounds 3 Value.none))).get? b = s.heap.get? b := fun b hb => Heap.get?_update_other _ _ (Ne.symm hb)
    have noRecord : ∀ b o, s.heap.get? b = some o → (∀ vs, o.data ≠ .fields vs) → b ≠ T := fun b o hb hnf q => by
      rw [q, hT] at hb; injection hb with hb; subst hb; exact hnf ts hdT
    refine wpAny_entryW hfr (hl.of_keeps fun b o hb hnf => ⟨o, (other b (noRecord b o hb hnf)).trans hb, rfl⟩) hf ((other e (Ne.symm hTe)).trans he)
      (fun b o hbo => (other b fun q => by rw [q, hnT] at hbo; cases hbo).trans (hkb b o hbo)) hen hd (Array.getElem?_eq_some_iff.mp h1).1 h0
      fun h' ⟨x1, x2, x3, x4⟩ => h h' ⟨x1, hen, x2, x3⟩ fun b o hb hnf => x4 b o ((other b (noRecord b o hb hnf)).trans hb) hnf
theorem leaving_any {base : Heap} {env : Env} {outer : List Env} {L e : Addr} {cls a0 fl : Value} {Q : Unit → Shared → Prop}
    (hfr : A.frames = some (env :: outer)) (hl : s.heap.FunFrames base (env :: outer)) (hf : env.frame = some L) (ht : s.heap.TracedAtW base e cls a0 fl) (hkb : base.StaysIn s.heap) (hen : base.get? e = none)
    (h : ∀ h', Heap.FlyingW base outer e cls a0 h' → s.heap.UpToSlots h' → Q () { s with heap := h' }) : wpAny M A (leaving env (.ref e)) Q E s := by
  unfold leaving
  refine wpAny_bind (noteFrame_any hfr hl hf ht hkb hen fun h1 hh u1 => ?_)
  refine wpAny_landsW (s := { s with heap := h1 }) hh fun h2 ⟨k1, k2, ⟨_, _, k3⟩, k4⟩ u2 => ?_
  exact h h2 ⟨k1, k2, k3, k4⟩ (u1.trans u2)
theorem passOn_any {α : Type} {what : String} {cenv : Env} {base : Heap} {l : List Env} {e : Addr} {cls a0 fl : Value}
    (hl : s.heap.FunFrames base l) (ht : s.heap.TracedAtW base e cls a0 fl) (hkb : base.StaysIn s.heap)
    (h : ∀ h' fl', base.StaysIn h' → h'.FunFrames base l → h'.TracedAtW base e cls a0 fl' → s.heap.UpToSlots h' → E (.ref e) { s with heap := h' }) : wpAny M A (PySem.passOn what (.ref e) cenv : Sem α) (fun _ _ => False) E s := by
  obtain ⟨oe, vs, T, oT, ts, he, hcls, hd, h1, hnT, hTe, hT, hdT, h3⟩ := ht
  have hsz3 : 3 < ts.size := (Array.getElem?_eq_some_iff.mp h3).1
  have other : ∀ (v : Value) b, b ≠ T → (s.heap.update T (Obj.mapFields (·.setIfInBounds 3 v))).get? b = s.heap.get? b := fun v b hb => Heap.get?_update_other _ _ (Ne.symm hb)
  have noRecord : ∀ b o, s.heap.get? b = some o → (∀ vs, o.data ≠ .fields vs) → b ≠ T := fun b o hb hnf q => by
    rw [q, hT] at hb; injection hb with hb; subst hb; exact hnf ts hdT
  unfold PySem.passOn
  refine wpAny_bind (wpAny_field he hd h1 ?_)
  rw [if_neg (show ¬ (Value.ref T == Value.none) = true from by simp)]
  unfold setFlight
  refine wpAny_bind (wpAny_bind (wpAny_field he hd h1 ?_))
  rw [if_pos (show (Value.ref T != Value.none) = true from by simp)]
  refine wpAny_setField hT hdT hsz3 (wpAny_throw (h _ (cenv.frame.elim Value.none fun f => rawInt f) (fun b o hbo => (other _ b fun q => by rw [q, hnT] at hbo; cases hbo).trans (hkb b o hbo))
    (hl.of_keeps fun b o hb hnf => ⟨o, (other _ b (noRecord b o hb hnf)).trans hb, rfl⟩) ?_ fun b o hb hnf => ⟨o.slots, (other _ b (noRecord b o hb hnf)).trans hb⟩))
  exact ⟨oe, vs, T, _, _, (other _ e (Ne.symm hTe)).trans he, hcls, hd, h1, hnT, hTe, Heap.get?_update_self _ hT (Obj.isFreed_of_fields (Obj.data_mapFields hdT _)), Obj.data_mapFields hdT _, by simp [hsz3]⟩
end
/-- what an exception of a block's callee does to the def around it -/
noncomputable def Lets (X : Cx) (E : XK) : Prop := ∀ (pins : List (Addr × Obj)) (σ : St) (H : Hp) (s : Shared) (C : Addr) (m : Str → Option Value) (e : Value) (s' : Shared), Inv X pins σ H s → s.heap.Ns C m → FpOk X pins H C → Flown X.prog X.w X.stack H s E e s' →
  wpAny (model X.prog X.w) X.A (noteFrame e X.env) (fun _ s'' => ∃ m, s''.heap.Ns C m ∧ ∀ h', Heap.SameBut C s''.heap h' → ∀ cenv : Env, cenv.locals = C → wpAny (model X.prog X.w) X.A (PySem.passOn "comprehension.variables-let-go" e cenv : Sem Value) (fun _ _ => False) X.xe { s'' with heap := h' }) (fun _ _ => False) s'
noncomputable def cCxE (X : Cx) (E : XK) (sc : Scope) (N : List Str) (cl : List (Str × Addr)) (C : Addr) (s₀ : Shared) (H₀ : Hp) (ex : List Addr) : Cx :=
  (cCx X sc N cl C s₀ H₀ ex).wish fun e s' => ∃ pins' σ' H' s1, Inv (cCx X sc N cl C s₀ H₀ ex) pins' σ' H' s1 ∧ Flown X.prog X.w X.stack H' s1 E e s'
theorem pass_block {X : Cx} {E : XK} {sc : Scope} {N : List Str} {cl : List (Str × Addr)} {C : Addr} {s₀ : Shared} {H₀ : Hp} {ex : List Addr} : Passes (Flown X.prog X.w) (cCxE X E sc N cl C s₀ H₀ ex) E := fun pins σ H s _ _ I h => ⟨pins, σ, H, s, I.unwish, h⟩
/-- a call of a def that may raise, in a block -/
theorem pe_callCB {X : Cx} {E : XK} {sc : Scope} {N : List Str} {cl : List (Str × Addr)} {C : Addr} {s₀ : Shared} {H₀ : Hp} {ex : List Addr} {x : Str} {k k' : Nat} {ps : List Str} {sp : Sp} {p pos : Pos} {e : Expr} {es : List Expr} {t : TA} (Cc : Cal X.prog X.w X.K X.mg X.base x k ps sp) (hr : Room k' X.A) (hg : Gl (cCxE X E sc N cl C s₀ H₀ ex) x)
    (ha : PA (cCxE X E sc N cl C s₀ H₀ ex) (e :: es) t) (hk : k ≤ k' := by decide) (hd : (x == ("__debug__" : Str)) = false := by decide)
    (he : starEach (e :: es) (cCxE X E sc N cl C s₀ H₀ ex).env = (false, eval e (cCxE X E sc N cl C s₀ H₀ ex).env) :: starEach es (cCxE X E sc N cl C s₀ H₀ ex).env := by rfl)
    (hpl : (backTo pos (starEach es (cCxE X E sc N cl C s₀ H₀ ex).env)).any (·.1) = false := by rfl) :
    PE (cCxE X E sc N cl C s₀ H₀ ex) (.Call (.Name x p) (e :: es) [] pos) (tCall sp [] E t) := by
  obtain ⟨g, gd, hm, hkp, hb, F⟩ := Cc.ex
  exact pe_call (X := cCxE X E sc N cl C s₀ H₀ ex) F (hr.mono hk) hg hm hkp hb .nil pass_block ha hd he hpl
theorem codeAny_compLoop_anyX {prog : Program} {w : World} {A : Around} {R : Result → Shared → Prop} {s : Shared} {elt target iter : Expr} {ifs : List Expr} {scope : Scope} {pos : Pos} {it acc : Value} {env : Env} (I : Nat → Shared → Prop)
    (turn : ∀ n s, I n s → wpAny (model prog w) A (pyNext it) (fun r s₁ => match r with
      | none => R (.ok .next) s₁
      | some v => wpAny (model prog w) A (letOwnedTupleGo target it v) (fun _ s₀ => wpAny (model prog w) A (assign target env v) (fun _ s₂ =>
          wpAny (model prog w) A (forIn ifs true fun c r => if r = true then do let ok ← isTrue c env (eval c env); pure (ForInStep.yield ok) else pure (ForInStep.yield r)) (fun ok s₃ =>
            if ok = true then wpAny (model prog w) A (eval elt env) (fun x s₄ =>
              wpAny (model prog w) A (call (.builtin "list.append") [acc, x]) (fun _ s₅ => ∃ m, m < n ∧ I m s₅) (fun _ _ => False) s₄) (notedBy (model prog w) A env fun x s' => R (.error x) s') s₃
            else ∃ m, m < n ∧ I m s₃) (fun _ _ => False) s₂) (fun _ _ => False) s₀) (fun _ _ => False) s₁) (fun _ _ => False) s)
    (n : Nat) (h : I n s) :
    codeAny (model prog w) A (.compLoop (.ListComp elt [⟨target, iter, ifs, 0⟩] scope pos) 0 it acc env) R s := by
  refine codeAny_loop rfl I (fun n s hI => ?_) n h
  show wpAny _ A ((compTurn (.ListComp elt [⟨target, iter, ifs, 0⟩] scope pos) 0 it acc env).onRaise (fun x => do noteFrame x env; theTreesLotGoes x)) _ _ s
  refine wpAny_noted ?_
  rw [compTurn_list]
  refine wpAny_bind (wpAny_standAt (wpAny_bind (wpAny_mono (turn n s hI) (fun r s₁ h₁ => ?_) fun _ _ h' => h'.elim)))
  cases r with
  | none => exact wpAny_pure h₁
  | some v =>
    refine wpAny_bind (wpAny_mono h₁ (fun _ s₀ h₀ => ?_) fun _ _ h' => h'.elim)
    refine wpAny_bind (wpAny_mono h₀ (fun _ s₂ h₂ => wpAny_bind (wpAny_mono h₂ (fun ok s₃ h₃ => ?_) fun _ _ h' => h'.elim)) fun _ _ h' => h'.elim)
    cases ok with
    | false => exact wpAny_pure ⟨rfl, h₃⟩
    | true =>
      exact wpAny_bind (wpAny_bind (wpAny_mono h₃ (fun x s₄ h₄ => wpAny_bind (wpAny_mono h₄ (fun _ s₅ h₅ => wpAny_pure (wpAny_pure ⟨rfl, h₅⟩)) fun _ _ h' => h'.elim)) fun _ _ h' => h'))

theorem comp_coreE {X : Cx} {E : XK} (hlet : Lets X E) {tg iter elt : Expr} {ifs : List Expr} {scope sc : Scope} {pos ip : Pos} {wi : TI} {g : TG} {tc : TT} {te : TE} {N : List Str} {ix : List (Option Nat)} (O : CompOk X scope sc N ix) (hc : X.calm = true) (hi : PI X tg iter wi)
    (hb : ∀ cl C s₀ H₀ ex, PG (cCx X sc N cl C s₀ H₀ ex) tg g ∧ PIf (cCx X sc N cl C s₀ H₀ ex) ifs tc ∧ PE (cCxE X E sc N cl C s₀ H₀ ex) elt te) (hs : ∀ x, foldedSetIterable iter X.env x = pure x)
    {use : Option (Value → Sem Unit)} {QQ : Value → Shared → Prop} {pins : List (Addr × Obj)} {s : Shared} {σ : St} {H : Hp} {Q : VK} (I : Inv X pins σ H s) (h : tComp ix wi g tc te σ H Q)
    (fin : ∀ (D C : Addr) (s6 : Shared) (H5 : Hp) (m : Str → Option Value), Inv X pins σ H5 s6 → s6.heap.Ns C m → FpOk X pins H5 C → Q (.ref D) H5 → compPost (model X.prog X.w) X.A X.xe use QQ (.ref D) C (.ok .next) s6) :
    wpAny (model X.prog X.w) X.A (comprehension (.ListComp elt [⟨tg, iter, ifs, 0⟩] scope pos) scope X.env ip (newList []) false (eval iter X.env) use) QQ X.xe s := by
  have hcl : ∃ cl, closureFor scope X.env = pure cl ∧ (∀ x c, cl.lookup x = some c → X.env.cells.lookup x = some c) ∧ ∀ y ∈ scope.names, y.2 = .free → ∃ c, cl.lookup y.1 = some c :=
    closure_ok fun y hy hf => I.ok.has y.1 (O.free y hy hf)
  obtain ⟨cl, ecl, hcl1, hcl2⟩ := hcl
  refine wpAny_comprehension_free (use := use) rfl hs ecl O.kind O.names (thn (hi pins s σ H _ I h) fun v s1 h1 => thn h1 fun itv s2 h2 => ?_)
  obtain ⟨it, fp, tn, J, H2, e, I2, T, st2, f2, q2⟩ := h2
  subst e
  obtain ⟨W, ⟨m0, w0⟩, turn⟩ := q2.go s2.heap.objs.size I2.fresh
  -- the new list
  refine wpAny_newObj_type ?_
  have I3 := I2.lnew (its := []) (t' := s2.toks) (ys := []) .nil (Nat.zero_le _)
  generalize eH3 : upd H2 s2.heap.objs.size (.lst []) = H3 at I3 w0
  have eD : H3 s2.heap.objs.size = some (.lst []) := by rw [← eH3]; exact upd_same
  have hfp2 : ∀ b ∈ fp, b ≠ s2.heap.objs.size := fun b hb z => by
    obtain ⟨o, ho, _⟩ := T.obj _ _ st2 b hb
    exact absurd (Heap.lt_size ho) (by rw [z]; exact Nat.lt_irrefl _)
  have st3 : tn 0 (s2.heap.push { cls := .type "list", dict := none, data := .seq ([] : List Value).toArray }) := T.keep _ _ _ st2 fun b _ o e => Heap.get?_push_of_some _ e
  have f3 : ∀ b ∈ fp, FpOk X pins H3 b := fun b hb => ⟨by rw [← eH3, upd_ne (hfp2 b hb)]; exact (f2 b hb).1, (f2 b hb).2⟩
  generalize es3 : ({ s2 with heap := s2.heap.push { cls := .type "list", dict := none, data := .seq ([] : List Value).toArray }, toks := s2.toks } : Shared) = s3 at I3
  have st3' : tn 0 s3.heap := by rw [← es3]; exact st3
  -- the block's frame
  refine wpAny_newFunctionEnv O.cell (fun y hy => nomatch hy) (fun h4 hns4 hsb4 => ?_) O.kind
  have keep4 : ∀ b o, s3.heap.get? b = some o → h4.get? b = some o := fun b o e => (hsb4.2 b (Nat.ne_of_lt (Heap.lt_size e))).trans (Heap.get?_push_of_some _ e)
  have I4 : Inv X pins σ H3 { s3 with heap := h4, toks := s3.toks + ([] : List (Str × Value)).length } := I3.kept keep4
  have eenv : ({ newEnv scope s3.heap.objs.size X.env.globals cl X.env.qual none .none (some X.env) builtinsNs with scope := relabel scope X.env } : Env) = cEnv sc cl s3.heap.objs.size X.env := by rw [O.rel]; rfl
  rw [eenv]
  show codeAny _ _ _ (compPost (model X.prog X.w) X.A X.xe use QQ (.ref s2.heap.objs.size) s3.heap.objs.size) _
  generalize eC : s3.heap.objs.size = C
  generalize es4 : ({ s3 with heap := h4, toks := s3.toks + ([] : List (Str × Value)).length } : Shared) = s4 at I4
  have h4s : s4.heap = h4 := by rw [← es4]
  have o4s : s4.os = s3.os := by rw [← es4]
  have fC : ∀ b ∈ fp, b ≠ C := fun b hb z => by
    obtain ⟨o, ho, _⟩ := T.obj _ _ st3' b hb
    exact absurd (Heap.lt_size ho) (by rw [z, eC]; exact Nat.lt_irrefl _)
  have okC : (cCx X sc N cl C s3 H3 fp).Ok := by
    refine ⟨I3.ok.mod, ?_, I3.ok.glob, I3.ok.blt, Nat.le_of_eq eC, fun x y c h1 h2 => I3.ok.inj x y c (hcl1 x c h1) (hcl1 y c h2), fun x hx => ?_, fun x c z _ => (nomatch z), I3.ok.hd, I3.ok.frames, .inl rfl, fun b hb => ⟨fC b hb, fun x c e => (f3 b hb).2.2.2.2.1 x c (hcl1 x c e)⟩,
      I3.bs, Nat.le_trans I3.ok.bsz I3.sz, fun b o e hb => ?_, fun b hb z => ?_, I3.stack, I3.stkFree⟩
    · show sc.kind = .function
      rw [← O.rel]; exact O.kind
    · exact hcl2 (x, .free) (O.has x hx) rfl
    · rcases (f3 b hb).2.2.2.1 with z | z
      · exact I3.ok.noex b o e z
      · exact absurd (Nat.lt_of_lt_of_le (Heap.lt_size e) (Nat.le_trans I3.ok.bsz z)) (Nat.lt_irrefl _)
    · rcases List.mem_cons.mp (I3.stkSub b z) with z | z
      · exact (f3 b hb).2.1 z
      · exact (f3 b hb).2.2.1 z
  have IC : Inv (cCx X sc N cl C s3 H3 fp) [] (cst ix σ) H3 s4 := by
    refine ⟨okC, o4s, I4.bare, ?_, ?_, fun x c e => I4.cell x c (hcl1 x c e), ?_, fun x c e => I4.freeC x c (hcl1 x c e), fun p hp => (nomatch hp), I4.hok, ?_⟩
    · rw [h4s]
      exact Un.kept keep4
    · refine ⟨_, by rw [h4s, ← eC]; exact hns4, fun j x v e1 e2 e3 => ?_⟩
      have e2' : (cst ix σ)[j]? = some (some v) := e2
      unfold cst at e2'
      rw [List.getElem?_map] at e2'
      cases q : ix[j]? with
      | none => rw [q] at e2'; cases e2'
      | some o =>
        rw [q] at e2'
        cases o with
        | none => cases e2'
        | some i =>
          obtain ⟨hx, hm, hsc⟩ := O.ix j x i e1 q
          cases q2 : σ[i]? with
          | none => simp [q2] at e2'
          | some w' =>
            simp [q2] at e2'
            subst e2'
            obtain ⟨m, hn, hl⟩ := I4.loc
            have kf := O.free (x, .free) hm rfl
            have vis : Vis X.env.scope x := by
              rcases kf with k | k
              · exact .inr (.inl k)
              · exact .inr (.inr k)
            obtain ⟨u, r, l⟩ := hl i x v hx q2 vis
            refine ⟨u, r, ?_⟩
            rcases l with ⟨k, _⟩ | ⟨_, c, e, z⟩
            · rcases kf with k' | k'
              · rw [k] at k'; cases k'
              · rw [k] at k'; cases k'
            · obtain ⟨c', e'⟩ := hcl2 (x, .free) hm rfl
              have := hcl1 x c' e'
              rw [e] at this; cases this
              exact .inr ⟨hsc, c, e', z⟩
    · rw [← eC]
      exact I3.fresh
    · show (cst ix σ).length = N.length
      rw [O.len]; simp [cst]
  have st4 : tn 0 s4.heap := T.keep _ _ _ st3' fun b _ o e => by rw [h4s]; exact keep4 b o e
  have stat : ∀ {H' : Hp}, (∀ b ∈ fp, H' b = none) → ∀ b ∈ fp, FpOk (cCx X sc N cl C s3 H3 fp) [] H' b := fun hn b hb =>
    ⟨hn b hb, fC b hb, okC.exfs b hb, .inl hb, fun x c e => (f3 b hb).2.2.2.2.1 x c (hcl1 x c e), fun p hp => (nomatch hp)⟩
  obtain ⟨hg, ht, he⟩ := hb cl C s3 H3 fp
  -- the loop
  have loop : codeAny (model X.prog X.w) X.A (.compLoop (.ListComp elt [⟨tg, iter, ifs, 0⟩] scope pos) 0 (.ref it) (.ref s2.heap.objs.size) (cEnv sc cl C X.env))
      (compPost (model X.prog X.w) X.A X.xe use QQ (.ref s2.heap.objs.size) C) s4 := by
    refine codeAny_compLoop_anyX (fun n s' => ∃ i σ' H', Inv (cCx X sc N cl C s3 H3 fp) [] σ' H' s' ∧ tn i s'.heap ∧ (∀ b ∈ fp, H' b = none) ∧ W i n σ' H') ?_ m0 ⟨0, cst ix σ, H3, IC, st4, fun b hb => (f3 b hb).1, w0⟩
    rintro n s5 ⟨i, σ5, H5, I5, st5, fr5, w5⟩
    rcases turn i n σ5 H5 w5 with ⟨stop, qn⟩ | ⟨go, step⟩
    · refine thn (T.done (cCx X sc N cl C s3 H3 fp) rfl rfl rfl hc i [] s5 σ5 H5 (fun _ _ => False) I5 (stat fr5) st5 stop) fun r s6 ⟨hr, I6⟩ => ?_
      subst hr
      obtain ⟨m, hn, _⟩ := id I6.loc
      have I7 : Inv X pins σ H5 s6 := I3.call' (ch := fp) I6.os I6.base I6.hok I6.bare fun b hb => ⟨(f3 b hb).2.2.2.1, (f3 b hb).2.1, (f3 b hb).2.2.2.2.1, (f3 b hb).2.2.2.2.2⟩
      exact fin _ C s6 H5 m I7 hn (I3.fpOk (Nat.le_of_eq eC) I6.free) qn
    · refine thn (T.item (cCx X sc N cl C s3 H3 fp) rfl rfl rfl hc i [] s5 σ5 H5 (fun _ _ => False) I5 (stat fr5) st5 go) fun r s6 ⟨u, hr, h6⟩ => ?_
      subst hr
      refine thn h6 fun _ s7 ⟨x, H7, I7, r7, y7, st7, fr7⟩ => ?_
      have I7' := I7.pinned (stat fr7) (T.obj _ _ st7)
      have again : ∀ {σ9 : St} {H9 : Hp} {s9 : Shared} {m' : Nat}, Inv (cCx X sc N cl C s3 H3 fp) ([] ++ pinsAt fp s7.heap) σ9 H9 s9 → m' < n → W (i + 1) m' σ9 H9 →
          ∃ m, m < n ∧ ∃ i σ' H', Inv (cCx X sc N cl C s3 H3 fp) [] σ' H' s9 ∧ tn i s9.heap ∧ (∀ b ∈ fp, H' b = none) ∧ W i m σ' H' := fun {σ9 H9 s9 m'} I9 hm w9 => by
        refine ⟨m', hm, i + 1, σ9, H9, I9.unpinned, T.keep _ _ _ st7 fun b hb o e => (I9.pin (b, o) (List.mem_append_right _ (List.mem_append_right _ (mem_pinsAt hb e)))).1, fun b hb => ?_, w9⟩
        obtain ⟨o, e, d⟩ := T.obj _ _ st7 b hb
        exact (I9.pin (b, o) (List.mem_append_right _ (List.mem_append_right _ (mem_pinsAt hb e)))).2.1
      refine thn (hg _ s7 σ5 H7 x u _ I7' r7 (step x H7 y7)) fun _ s8 ⟨σ8, H8, I8, q8⟩ => ?_
      refine thn (ht _ s8 σ8 H8 _ I8 q8) fun b s9 ⟨H9, I9, q9⟩ => ?_
      cases b with
      | false =>
        rw [if_neg Bool.false_ne_true] at q9
        obtain ⟨m', hm, w9⟩ := q9
        rw [if_neg Bool.false_ne_true]
        exact again I9 hm w9
      | true =>
        rw [if_pos rfl] at q9
        rw [if_pos rfl]
        refine wpAny_mono (he _ s9 σ8 H9 _ (I9.wish _) q9) (fun y s10 ⟨yv, H10, I10', r10, ys, e10, z10, m', hm, w10⟩ => ?_) (fun x s10 hx => ?_)
        rotate_left
        · obtain ⟨pins', σ', H', s1, I6, fl⟩ := hx
          obtain ⟨m, hn, _⟩ := id I6.loc
          have I7 : Inv X pins σ H' s1 := I3.call' (ch := fp) I6.os I6.base I6.hok I6.bare fun b hb => ⟨(f3 b hb).2.2.2.1, (f3 b hb).2.1, (f3 b hb).2.2.2.2.1, (f3 b hb).2.2.2.2.2⟩
          refine wpAny_mono (hlet pins σ H' s1 C m x s10 I7 hn (I3.fpOk (Nat.le_of_eq eC) I6.free) fl) (fun _ s11 h11 => ?_) fun _ _ z => z.elim
          cases use with
          | none => exact h11
          | some _ => exact h11
        have I10 := Inv.unwish I10'
        refine thn (mt_append _ s10 σ8 H10 (.ref s2.heap.objs.size) [yv] (.ref s2.heap.objs.size) [y] (fun _ H' => W (i + 1) m' σ8 H') I10 rfl (.cons r10 .nil) ⟨_, ys, yv, rfl, rfl, e10, z10, w10⟩) fun _ s11 ⟨_, H11, I11, _, w11⟩ => ?_
        exact again I11 hm w11
  exact codeAny_compStart_list loop (T.self _ _ _ _ _ st4 loop)
theorem pe_compE {X : Cx} {E : XK} (hlet : Lets X E) {tg iter elt : Expr} {ifs : List Expr} {scope sc : Scope} {pos : Pos} {wi : TI} {g : TG} {tc : TT} {te : TE} {N : List Str} {ix : List (Option Nat)} (O : CompOk X scope sc N ix) (hc : X.calm = true) (hi : PI X tg iter wi)
    (hb : ∀ cl C s₀ H₀ ex, PG (cCx X sc N cl C s₀ H₀ ex) tg g ∧ PIf (cCx X sc N cl C s₀ H₀ ex) ifs tc ∧ PE (cCxE X E sc N cl C s₀ H₀ ex) elt te)
    (hs : ∀ x, foldedSetIterable iter X.env x = pure x := by intro _; rfl) : PE X (.ListComp elt [⟨tg, iter, ifs, 0⟩] scope pos) (tComp ix wi g tc te) := by
  intro pins s σ H Q I h
  rw [eval_ListComp]
  exact comp_coreE hlet (use := none) (QQ := EP X pins σ Q) O hc hi hb hs I h fun D C s6 H5 m I7 hn f q => ⟨m, hn, fun h' hs' => ⟨.ref D, H5, I7.turned (it := C) (t' := s6.toks) (fun b o hb e => (hs'.2 b hb).trans e) f.1 f.2.1 f.2.2.2.1 f.2.2.2.2.1 f.2.2.2.2.2, rfl, q⟩⟩
section
variable {X : Cx} {pins : List (Addr × Obj)} {σ : St} {H : Hp} {s : Shared}
/-- up to the entry, but for an object of its own -/
theorem Inv.unToC (I : Inv X pins σ H s) (hex : X.ex = []) {C : Addr} (hC : X.s₀.heap.objs.size ≤ C) {H' : Hp} {h' : Heap} (keep : ∀ b o, b ≠ C → s.heap.get? b = some o → H b = none → b ∉ frs X.stack → h'.get? b = some o)
    (slot : ∀ b o, b ≠ C → s.heap.get? b = some o → H b = none → b ∈ X.fs → ∃ sl, h'.get? b = some { o with slots := sl }) (free : ∀ b o, s.heap.get? b = some o → H b = none → H' b = none) (there : ∀ b o, b ≠ C → s.heap.get? b = some o → ∃ o', h'.get? b = some o')
    (tups : ∀ b xs, H b = some (.tup xs) → H' b = some (.tup xs)) (frzs : ∀ b o u, H b = some (.frz o u) → H' b = some (.frz o u)) (tbls : ∀ b ps, H b = some (.tbl ps) → ∃ more, H' b = some (.tbl (ps ++ more))) :
    Un (frs X.outer) [] X.H₀ H' X.s₀.heap h' := by
  have nx : ∀ b : Addr, b ∉ X.ex := fun b => by rw [hex]; simp
  have nc : ∀ b o, X.s₀.heap.get? b = some o → b ≠ C := fun b o e z => absurd (Heap.lt_size e) (by rw [z]; exact Nat.not_lt.mpr hC)
  refine ⟨fun b o e n hb _ => ?_, fun b o e n hb _ => ?_, fun b o e n _ => ?_, fun b o e _ => ?_, fun b xs e => tups b xs (I.base.tups b xs e), fun b o u e => frzs b o u (I.base.frzs b o u e), fun b ps e => ?_⟩
  · exact keep b o (nc b o e) (I.base.keep b o e n hb (nx b)) (I.base.free b o e n (nx b)) (I.notStk e hb)
  · obtain ⟨sl, e1⟩ := I.base.slot b o e n hb (nx b)
    obtain ⟨sl', e2⟩ := slot b _ (nc b o e) e1 (I.base.free b o e n (nx b)) hb
    exact ⟨sl', e2⟩
  · obtain ⟨o', e1⟩ := I.base.there b o e (nx b)
    exact free b o' e1 (I.base.free b o e n (nx b))
  · obtain ⟨o', e1⟩ := I.base.there b o e (nx b)
    exact there b o' (nc b o e) e1
  · obtain ⟨m1, e1⟩ := I.base.tbls b ps e
    obtain ⟨m2, e2⟩ := tbls b _ e1
    exact ⟨m1 ++ m2, by rw [e2, Array.append_assoc]⟩
end
theorem lets_go {P : Program} {w : World} {K : PySem.W.Frag} {mg : Str → Option Value} {base : Heap} {N : List Str} {qual : Str} {scope : Scope} {f : Addr} {cdv : Value} {A : Around} {outer : List Env} {s₀ : Shared} {H₀ : Hp} {E : XK} : Lets (cxF P w K mg base N qual scope f cdv A outer s₀ H₀ E) E := by
  intro pins σ H s C m e s' I hn fC h
  obtain ⟨ea, Cc, a0, B, H', rfl, os, bare, fl, hok, un, old, q⟩ := h.ex
  obtain ⟨c0, c1, c2, c3, c4, c5⟩ := fC
  have hC : s₀.heap.objs.size ≤ C := by
    rcases c3 with z | z
    · cases z
    · exact z
  have cS : C ∉ frs (envOfC qual scope s₀.heap.objs.size f cdv :: outer) := fun z => by
    rcases List.mem_cons.mp (I.stkSub C z) with z | z
    · exact c1 z
    · exact c2 z
  obtain ⟨oC, es, ep, hoC, hdC, hkC⟩ := hn
  have hoC' : s'.heap.get? C = some oC := un.keep C oC hoC c0 cS (by simp)
  obtain ⟨f1, f2, f3, f4⟩ := fl
  have sub : ∀ b o, (PySem.W.hideAll B [C]).get? b = some o → B.get? b = some o := fun b o e => PySem.W.of_hideAll [C] e
  have noC : (PySem.W.hideAll B [C]).get? C = none := Heap.hide_self B C
  have noneS : ∀ b, B.get? b = none → (PySem.W.hideAll B [C]).get? b = none := fun b e => by
    cases q : (PySem.W.hideAll B [C]).get? b with
    | none => rfl
    | some o => rw [sub b o q] at e; cases e
  have trB : ∀ {hh : Heap} {ff : Value}, hh.TracedAtW B ea (.ref Cc) a0 ff → hh.TracedAtW (PySem.W.hideAll B [C]) ea (.ref Cc) a0 ff := fun ⟨oe, vs, T, oT, ts, a1, a2, a3, a4, a5, a6⟩ => ⟨oe, vs, T, oT, ts, a1, a2, a3, a4, noneS T a5, a6⟩
  refine noteFrame_any (L := s₀.heap.objs.size) I.ok.frames (funFrames_less sub f3) rfl (trB f4) (fun b o e => f1 b o (sub b o e)) (noneS _ f2) fun h1 ⟨k1, k2, k3, k4⟩ u1 => ?_
  have nfC : ∀ vs, oC.data ≠ .fields vs := fun vs z => by rw [hdC] at z; cases z
  obtain ⟨sl1, hC1⟩ := u1 C oC hoC' nfC
  refine ⟨m, ⟨_, es, ep, hC1, hdC, hkC⟩, fun h2 sb cenv _ => ?_⟩
  have at2 : ∀ b, b ≠ C → h2.get? b = h1.get? b := fun b hb => sb.2 b hb
  have tr2 : h2.TracedAtW (PySem.W.hideAll B [C]) ea (.ref Cc) a0 (rawInt s₀.heap.objs.size) := by
    obtain ⟨oe, vs, T, oT, ts, a1, a2, a3, a4, a5, a6, a7, a8, a9⟩ := k4
    have n1 : ea ≠ C := fun z => by rw [z, hC1] at a1; cases a1; exact nfC vs a3
    have n2 : T ≠ C := fun z => by rw [z, hC1] at a7; cases a7; exact nfC ts a8
    exact ⟨oe, vs, T, oT, ts, (at2 _ n1).trans a1, a2, a3, a4, a5, a6, (at2 _ n2).trans a7, a8, a9⟩
  refine passOn_any (s := { s' with heap := h2 }) (funFrames_but (fun b hb => at2 b fun z => cS (z ▸ hb)) k3) tr2 (fun b o e => (at2 b fun z => by rw [z, noC] at e; cases e).trans (k1 b o e)) fun h3 fl3 s3 ff3 t3 u3 => ?_
  refine leaving_any (s := { s' with heap := h3 }) (L := s₀.heap.objs.size) I.ok.frames ff3 rfl t3 s3 k2 fun h4 fl4 u4 => ?_
  -- what has become of the rest
  have up : ∀ b o, b ≠ C → s'.heap.get? b = some o → (∀ vs, o.data ≠ .fields vs) → ∃ sl, h4.get? b = some { o with slots := sl } := fun b o hb e hd => by
    obtain ⟨sl1, e1⟩ := u1 b o e hd
    have e2 := (at2 b hb).trans e1
    exact (u3.trans u4) b { o with slots := sl1 } e2 hd
  have inB : ∀ b o, s.heap.get? b = some o → b ∉ frs (envOfC qual scope s₀.heap.objs.size f cdv :: outer) → ∃ o', B.get? b = some o' ∧ s'.heap.get? b = some o' := fun b o e hb => by
    rcases old b o e with z | ⟨o', z⟩
    · exact absurd z hb
    · exact ⟨o', z, f1 b o' z⟩
  have upF : ∀ b o, s'.heap.get? b = some o → b ∈ frs (envOfC qual scope s₀.heap.objs.size f cdv :: outer) → ∃ sl, h4.get? b = some { o with slots := sl } := fun b o e hb => by
    obtain ⟨_, o', ho', hd⟩ := f3.mem hb
    rw [e] at ho'; cases ho'
    exact up b o (fun z => cS (z ▸ hb)) e hd
  have inH : ∀ b o, b ≠ C → B.get? b = some o → (PySem.W.hideAll B [C]).get? b = some o := fun b o hb e => PySem.W.hideAll_get [C] e (by simpa using hb)
  have hC' : H' C = none := un.free C oC hoC c0 (by simp)
  have hok' : HOk P w H' (PySem.W.hideAll B [C]) := fun b o e =>
    (hok b o e).stay (fun c u hc qq => inH c u (fun z => by
      rcases hc with rfl | hc
      · rw [z, hC'] at e; cases e
      · rw [z, hC'] at hc; cases hc) qq) (fun _ qq => qq) fun _ _ qq => qq
  refine ⟨ea, Cc, a0, _, H', rfl, os.trans I.os, bare, fl4, hok', I.unToC rfl hC (fun b o hb e n hs => ?_) (fun b o hb e n hs => ?_) (fun b o e n => un.free b o e n (by simp)) (fun b o hb e => ?_) un.tups un.frzs un.tbls, fun b o e => ?_, q⟩
  · obtain ⟨o', e1, e2⟩ := inB b o e hs
    have e3 := un.keep b o e n hs (by simp)
    rw [e2] at e3; cases e3
    exact fl4.1 b _ (inH b _ hb e1)
  · obtain ⟨sl, e1⟩ := un.slot b o e n (List.mem_cons_of_mem _ hs) (by simp)
    obtain ⟨sl', e2⟩ := upF b _ e1 (List.mem_cons_of_mem _ hs)
    exact ⟨sl', e2⟩
  · by_cases hs : b ∈ frs (envOfC qual scope s₀.heap.objs.size f cdv :: outer)
    · obtain ⟨o', e1⟩ := un.there b o e (by simp)
      obtain ⟨sl, e2⟩ := upF b o' e1 hs
      exact ⟨_, e2⟩
    · obtain ⟨o', e1, _⟩ := inB b o e hs
      exact ⟨o', fl4.1 b o' (inH b o' hb e1)⟩
  · by_cases hb : b ∈ frs outer
    · exact .inl hb
    · have nc : b ≠ C := fun z => absurd (Heap.lt_size e) (by rw [z]; exact Nat.not_lt.mpr hC)
      obtain ⟨o', e1⟩ := I.base.there b o e (by intro z; cases z)
      obtain ⟨o2, e2, _⟩ := inB b o' e1 (I.notStk e hb)
      exact .inr ⟨o2, inH b o2 nc e2⟩
end L2
namespace L2
open PySem PySem.Spec PyProof.Rows
/-! ### tokens only grow: str.replace of two written texts -/
theorem runs_toks {M : Model} {Γ : PySem.Ctx} {p : Pos} {t : Sem Fin} {fs : List Frame} {s : Shared} {e : End} {s' : Shared} (h : Runs M Γ p t fs s e s') : s.toks ≤ s'.toks := by
  induction h <;> first | exact Nat.le_refl _ | assumption | (exact Nat.le_trans (Nat.le_succ _) (by assumption)) | (exact Nat.le_trans (by assumption) (by assumption))
theorem wakes_toks {M : Model} {Γ : PySem.Ctx} {p : Pos} {g : Nat} {r : Resume} {s : Shared} {res : GenResult} {s' : Shared} (h : Wakes M Γ p g r s res s') : s.toks ≤ s'.toks := by
  unfold Wakes at h
  split at h
  · exact h.elim
  · split at h
    · obtain ⟨_, _, hr, _, _, rfl⟩ := h
      have := runs_toks hr
      exact this
    · rw [h.2]; exact Nat.le_refl _
    · rw [h.2]; exact Nat.le_refl _
  · obtain ⟨_, _, hr, _, _, rfl⟩ := h
    have := runs_toks hr
    exact this
  · rw [h.2]; exact Nat.le_refl _
  · rw [h.2]; exact Nat.le_refl _
theorem wp_toks {α : Type} {M : Model} {Γ : PySem.Ctx} {Q : α → Pos → Shared → Prop} {E : Value → Pos → Shared → Prop} {n : Nat} (t : Sem α) :
    ∀ (p : Pos) (s : Shared), n ≤ s.toks → Sem.wp M Γ t Q E p s → Sem.wp M Γ t (fun a p' s' => Q a p' s' ∧ n ≤ s'.toks) E p s := by
  induction t with
  | pure a => intro p s hn h; exact ⟨h, hn⟩
  | raise e => intro p s hn h; exact h
  | unsupported w => intro p s hn h; exact h
  | finish e => intro p s hn h; exact h
  | rule t k ih => intro p s hn h; exact ih _ p s hn h
  | «at» p' k ih => intro p s hn h; exact ih _ p' s hn h
  | load a q k ih => intro p s hn h; exact h.elim fun o ho => ⟨o, ho.1, ih _ p s hn ho.2⟩
  | update a q f k ih => intro p s hn h; exact ⟨h.1, ih _ p _ hn h.2⟩
  | alloc o k ih => intro p s hn h; exact ih _ p _ hn h
  | loadIfAlive a k ih => intro p s hn h; exact ih _ p s hn h
  | point l k ih => intro p s hn h; exact ih _ p s hn h
  | register a k ih => intro p s hn h; exact h
  | fresh k ih => intro p s hn h; exact ih _ p _ (Nat.le_succ_of_le hn) h
  | ask k ih => intro p s hn h; exact ih _ p s hn h
  | choose src m k ih => intro p s hn h; exact ⟨h.1, ih _ p _ hn h.2⟩
  | os q l k ih => intro p s hn h; exact ih _ p _ hn h
  | call c hd g l k ih => intro p s hn h; exact h.elim fun r h => h.elim fun s1 h => ⟨r, s1, h.1, ih r p s1 (Nat.le_trans hn (runs_toks h.1)) h.2⟩
  | handled own k ih => intro p s hn h; exact ih _ p s hn h
  | newGen c k ih => intro p s hn h; exact ih _ p _ hn h
  | genState g k ih => intro p s hn h; exact h.elim fun st h => ⟨st, h.1, ih _ p s hn h.2⟩
  | resume g r l k ih => intro p s hn h; exact h.elim fun r h => h.elim fun s1 h => ⟨r, s1, h.1, ih r p s1 (Nat.le_trans hn (wakes_toks h.1)) h.2⟩
  | «yield» v g l k ih => intro p s hn h; exact h
  | stack k ih => intro p s hn h; exact ih _ p s hn h
  | fork c k ih => intro p s hn h; exact h
  | thread k ih => intro p s hn h; exact ih _ p s hn h
  | await a t d l k ih => intro p s hn h; exact h
theorem wpAny_toks {α : Type} {M : Model} {A : Around} {t : Sem α} {Q : α → Shared → Prop} {E : Value → Shared → Prop} {s : Shared} {n : Nat} (hn : n ≤ s.toks) (h : wpAny M A t Q E s) : wpAny M A t (fun a s' => Q a s' ∧ n ≤ s'.toks) E s :=
  fun Γ p hΓ => wp_toks t p s hn (h Γ p hΓ)

/-- makes a token; needs one -/
noncomputable def PEp (X : Cx) (e : Expr) (t : TE) : Prop :=
  ∀ (pins : List (Addr × Obj)) (s : Shared) (σ : St) (H : Hp) (Q : VK), Inv X pins σ H s → t σ H Q → wpAny (model X.prog X.w) X.A (eval e X.env) (fun u s' => EP X pins σ Q u s' ∧ 1 ≤ s'.toks) X.xe s
noncomputable def PEn (X : Cx) (e : Expr) (t : TE) : Prop :=
  ∀ (pins : List (Addr × Obj)) (s : Shared) (σ : St) (H : Hp) (Q : VK), Inv X pins σ H s → 1 ≤ s.toks → t σ H Q → wpAny (model X.prog X.w) X.A (eval e X.env) (EP X pins σ Q) X.xe s
noncomputable def PAn (X : Cx) (es : List Expr) (t : TA) : Prop :=
  ∀ (pos : Pos) (pins : List (Addr × Obj)) (s : Shared) (σ : St) (H : Hp) (Q : List V → Hp → Prop), Inv X pins σ H s → 1 ≤ s.toks → t σ H Q → wpAny (model X.prog X.w) X.A (spliced (backTo pos (starEach es X.env))) (AP X pins σ Q) X.xe s
noncomputable def PSp (X : Cx) (st : Stmt) (t : TS) : Prop :=
  ∀ (pins : List (Addr × Obj)) (s : Shared) (σ : St) (H : Hp) (D : Ends), Inv X pins σ H s → t D σ H → wpAny (model X.prog X.w) X.A (exec st X.env) (fun f s' => SP X pins D f s' ∧ 1 ≤ s'.toks) X.xe s
noncomputable def PSn (X : Cx) (st : Stmt) (t : TS) : Prop :=
  ∀ (pins : List (Addr × Obj)) (s : Shared) (σ : St) (H : Hp) (D : Ends), Inv X pins σ H s → 1 ≤ s.toks → t D σ H → wpAny (model X.prog X.w) X.A (exec st X.env) (SP X pins D) X.xe s
section
variable {X : Cx}
theorem pe_strP {x j pos} : PEp X (.Constant (.str x) j pos) (tC (.str x)) := fun _ s _ H _ I h => Calls.Constant_str ⟨⟨.str x, H, I.tok _, ⟨_, rfl⟩, h⟩, Nat.succ_le_succ (Nat.zero_le _)⟩
theorem PE.n {e : Expr} {t : TE} (h : PE X e t) : PEn X e t := fun pins s σ H Q I _ q => h pins s σ H Q I q
theorem pss_pos {st st2 : Stmt} {rest : List Stmt} {t u v : TS} (h1 : PSp X st t) (h2 : PSn X st2 u) (h3 : PSs X rest v) : PSs X (st :: st2 :: rest) (tSeq t (tSeq u v)) := by
  intro pins s σ H D I h
  refine wpAny_execs_cons (thn (h1 pins s σ H { D with nx := tSeq u v D } I h) fun f s1 q => ?_)
  obtain ⟨q, hp⟩ := q
  cases f with
  | next =>
    obtain ⟨σ', H', I', q⟩ := q
    refine wpAny_execs_cons (thn (h2 pins s1 σ' H' { D with nx := v D } I' hp q) fun f s2 q => ?_)
    cases f with
    | next =>
      obtain ⟨σ'', H'', I'', q⟩ := q
      exact h3 pins s2 σ'' H'' D I'' q
    | ret v => exact q
    | brk => exact q
    | cont => exact q
  | ret v => exact q
  | brk => exact q
  | cont => exact q
variable {pos : Pos}
theorem ps_setP {i : Nat} {x : Str} {e : Expr} {te : TE} {pos' : Pos} (hN : X.N.Nodup) (hi : X.N[i]? = some x) (hx : Loc X.env.scope x) (he : PEp X e te) (hs : swapsWith e (some (.Name x pos')) pos.line X.env = pure false := by rfl) (hf : X.fn x = true ∨ X.env.scope.names.lookup x = some .local := by first | exact .inl rfl | exact .inr rfl | assumption) :
    PSp X (.Assign [.Name x pos'] e pos) (tAsg te (gName i)) := by
  intro pins s σ H D I h
  refine wpAny_Assign_Name (thn (he pins s σ H _ I h) fun v s1 ⟨⟨y, H1, I1, r1, q1⟩, hp⟩ => ?_) hs
  exact wpAny_toks hp (store_ok I1 hN hi hx r1 (fun s2 I2 => ⟨_, H1, I2, q1⟩) hf)
theorem ps_setN {i : Nat} {x : Str} {e : Expr} {te : TE} {pos' : Pos} (hN : X.N.Nodup) (hi : X.N[i]? = some x) (hx : Loc X.env.scope x) (he : PEn X e te) (hs : swapsWith e (some (.Name x pos')) pos.line X.env = pure false := by rfl) (hf : X.fn x = true ∨ X.env.scope.names.lookup x = some .local := by first | exact .inl rfl | exact .inr rfl | assumption) :
    PSn X (.Assign [.Name x pos'] e pos) (tAsg te (gName i)) := by
  intro pins s σ H D I hp h
  refine wpAny_Assign_Name (thn (he pins s σ H _ I hp h) fun v s1 ⟨y, H1, I1, r1, q1⟩ => ?_) hs
  exact store_ok I1 hN hi hx r1 (fun s2 I2 => ⟨_, H1, I2, q1⟩) hf
theorem pan_nil : PAn X [] tNil := fun _ _ _ _ H Q I _ h => Calls.spliced_nil ⟨[], H, I, .nil, h⟩
theorem pan_cons {e : Expr} {es : List Expr} {te : TE} {t : TA} (ha : PEn X e te) (hr : PAn X es t) (hs : starEach (e :: es) X.env = (false, eval e X.env) :: starEach es X.env := by rfl) : PAn X (e :: es) (tCons te t) := by
  intro pos pins s σ H Q I hp h
  rw [hs]
  show wpAny _ _ (spliced ((false, eval e X.env) :: backTo pos (starEach es X.env))) _ _ s
  refine Calls.spliced_cons (thn (wpAny_toks hp (ha pins s σ H _ I hp h)) fun u s1 ⟨⟨x, H1, I1, r1, q1⟩, hp1⟩ => ?_)
  exact thn (hr pos pins s1 σ H1 _ I1 hp1 q1) fun us s2 ⟨xs, H2, I2, r2, q2⟩ => ⟨x :: xs, H2, I2, .cons r1 r2, q2⟩
theorem pe_lstN {es : List Expr} {t : TA} (h : PAn X es t) : PEn X (.List es pos) (tLst t) := by
  intro pins s σ H Q I hp hq
  refine wpAny_List_spliced (thn (h pos pins s σ H _ I hp hq) fun us s1 ⟨xs, H1, I1, r, z, q⟩ => ⟨by rw [← r.length]; exact z, ?_⟩)
  have hf : H1 s1.heap.objs.size = none := I1.hok.fresh (Nat.le_refl _)
  refine ⟨.ref s1.heap.objs.size, upd H1 s1.heap.objs.size (.lst xs), I1.laid (t' := s1.toks) (fun b u e => Heap.get?_push_of_some _ e) (Nat.le_refl _) ?_, rfl, q _ hf⟩
  exact ⟨z, us, 0, r, Heap.get?_push_size _ rfl⟩
noncomputable def tRep (y z : Str) (to : TE) : TE := fun σ H Q => to σ H fun x H1 => ∃ w : Str, x = .str w ∧ w.length + (w.length + 1) * z.length ≤ 16777216 ∧ Q (.str (Txt.replace w y z)) H1
theorem pe_bmP {o e : Expr} {es : List Expr} {to : TE} {t : TA} {name : Str} {apos cpos : Pos} {T id : String} {r : V → List V → Hp → VK → Prop} (pa : PlainAttrs T) (slot : Slot T name id) (hty : typeOf (.builtin id) = pure (.type "method_descriptor")) (hm : MtR X id r) (ho : PEp X o to) (ha : PA X (e :: es) t)
    (hbase : attributeBase o name X.env (eval o X.env) = eval o X.env := by rfl)
    (hfew : ((backTo cpos (starEach (e :: es) X.env)).all (fun x => !x.1) && (backToKw cpos (keywordEach [] X.env)).all (fun x => x.1.isSome)
      && decide ((e :: es).length + ([] : List Keyword).length + (if ([] : List Keyword).isEmpty then 0 else 1) < 30)) = true := by rfl)
    (hline : (apos.endLine == cpos.line) = true := by rfl) (hs : starEach (e :: es) X.env = (false, eval e X.env) :: starEach es X.env := by rfl) (hplain : (backTo cpos (starEach es X.env)).any (·.1) = false := by rfl) :
    PEp X (.Call (.Attribute o name apos) (e :: es) [] cpos) (tBM X.K T r to t) := by
  intro pins s σ H Q I h
  refine wpAny_Call_method_late hbase hfew hline rfl (thn (ho pins s σ H _ I h) fun v s1 ⟨⟨x, H1, I1, r1, ty, q1⟩, hp⟩ => ?_)
  obtain ⟨h1, h2⟩ := tyV_is I1 r1 ty
  refine ⟨T, id, pa, slot, hty, h1, h2, wpAny_toks hp ?_⟩
  have hA := ha cpos pins s1 σ H1 _ I1 q1
  rw [hs] at hA ⊢
  refine Calls.callWith_builtin (by show (false || (backTo cpos (starEach es X.env)).any (·.1)) = false; rw [hplain] <;> rfl) (Calls.evalArgs_plain ?_)
  exact thn hA fun us s2 ⟨vs, H2, I2, r2, q2⟩ => hm pins s2 σ H2 x vs v us Q I2 r1 r2 q2
theorem op_mulS : OpR X (binaryOp .Mult) (fun x y H Q => ∃ (i : Str) (k : Nat), x = .str i ∧ y = .int (k : Int) ∧ 2 ≤ k ∧ k ≤ 1000 ∧ 1 ≤ i.length ∧ i.length ≤ 1000 ∧ Q (.str ⟨(List.replicate k i.cps).foldl (· ++ ·) #[]⟩) H) := by
  intro pins s σ H x y v u Q I rx ry h
  obtain ⟨i, k, rfl, rfl, h1, h2, h3, h4, q⟩ := h
  obtain ⟨t, rfl⟩ := rx
  obtain ⟨t', rfl⟩ := ry
  have hm : i.length * k ≤ 1000 * 1000 := Nat.mul_le_mul h4 h2
  have e : ((k : Int) == 1 || i.length == 0) = false := by
    rw [Bool.or_eq_false_iff, beq_eq_false_iff_ne, beq_eq_false_iff_ne]
    exact ⟨by omega, by omega⟩
  refine P.mul_str (by rw [decide_eq_false (by omega), decide_eq_false (by omega)]; rfl) (fun _ _ => ?_) (fun _ _ => ?_) ?_
  · have : (1000 : Int) ≤ (2 ^ 63 - 1) / (k : Int) := (Int.le_ediv_iff_mul_le (by omega)).mpr (by omega)
    omega
  · unfold PySem.Builtin.Str.tooLong sizeLine
    rw [Int.toNat_natCast]
    exact decide_eq_false (by omega)
  · rw [if_neg (by omega), if_neg (by rw [e]; exact Bool.false_ne_true), Int.toNat_natCast]
    refine ⟨?_, ⟨.str _, H, I.tok _, ⟨_, rfl⟩, q⟩⟩
    show PySem.Str.length _ ≤ sizeLine
    have hz : ∀ (n : Nat) (a : Array Nat), ((List.replicate n i.cps).foldl (· ++ ·) a).size = a.size + n * i.cps.size := by
      intro n
      induction n with
      | zero => intro a; simp
      | succ n ih =>
        intro a
        rw [List.replicate_succ, List.foldl_cons, ih, Array.size_append, Nat.succ_mul]
        omega
    have e2 : sizeLine = 16777216 := by decide
    have := hz k #[]
    show ((List.replicate k i.cps).foldl (· ++ ·) #[]).size ≤ sizeLine
    rw [this, e2, Nat.mul_comm]
    have : i.cps.size = i.length := rfl
    rw [this]
    have e3 : (#[] : Array Nat).size = 0 := rfl
    omega
variable (K : PySem.W.Frag)
theorem xmeth1P {T id : String} {r : V → List V → Hp → VK → Prop} {name : Str} {o e : Expr} {to : TE} {te : TE} {apos cpos : Pos} (pa : PlainAttrs T) (slot : Slot T name id) (hty : typeOf (.builtin id) = pure (.type "method_descriptor")) (hm : MtR X id r) (ho : PEp X o to) (he : PE X e te) (hK : X.K = K := by rfl)
    (hbase : attributeBase o name X.env (eval o X.env) = eval o X.env := by rfl)
    (hfew : ((backTo cpos (starEach [e] X.env)).all (fun x => !x.1) && (backToKw cpos (keywordEach [] X.env)).all (fun x => x.1.isSome)
      && decide ([e].length + ([] : List Keyword).length + (if ([] : List Keyword).isEmpty then 0 else 1) < 30)) = true := by rfl)
    (hline : (apos.endLine == cpos.line) = true := by rfl) (hs : starEach [e] X.env = (false, eval e X.env) :: starEach [] X.env := by rfl) :
    PEp X (.Call (.Attribute o name apos) [e] [] cpos) (tBM K T r to (tCons te tNil)) := by
  subst hK
  exact pe_bmP pa slot hty hm ho (pa_cons he pa_nil hs) hbase hfew hline hs rfl
theorem xreplace {o : Expr} {to : TE} {y z : Str} {j1 j2 : Nat} {p1 p2 apos cpos : Pos} (ho : PE X o to) (hyz : (y == z) = false := by decide)
    (hbase : attributeBase o "replace" X.env (eval o X.env) = eval o X.env := by rfl)
    (hfew : ((backTo cpos (starEach [.Constant (.str y) j1 p1, .Constant (.str z) j2 p2] X.env)).all (fun x => !x.1) && (backToKw cpos (keywordEach [] X.env)).all (fun x => x.1.isSome)
      && decide (([.Constant (.str y) j1 p1, .Constant (.str z) j2 p2] : List Expr).length + ([] : List Keyword).length + (if ([] : List Keyword).isEmpty then 0 else 1) < 30)) = true := by rfl)
    (hline : (apos.endLine == cpos.line) = true := by rfl) (hs : starEach [.Constant (.str y) j1 p1, .Constant (.str z) j2 p2] X.env = [(false, eval (.Constant (.str y) j1 p1) X.env), (false, eval (.Constant (.str z) j2 p2) X.env)] := by rfl) :
    PEn X (.Call (.Attribute o "replace" apos) [.Constant (.str y) j1 p1, .Constant (.str z) j2 p2] [] cpos) (tRep y z to) := by
  intro pins s σ H Q I hp h
  refine wpAny_Call_method_late hbase hfew hline rfl (thn (wpAny_toks hp (ho pins s σ H _ I h)) fun v s1 ⟨⟨x, H1, I1, r1, q1⟩, hp1⟩ => ?_)
  obtain ⟨w, rfl, hb, q⟩ := q1
  obtain ⟨t, rfl⟩ := r1
  refine ⟨"str", "str.replace", PySem.F.plainAttrs_str, F.slot_str_replace, F.type_str_replace, typeIs_str _ _ _, (fun _ e => nomatch e), ?_⟩
  rw [hs]
  refine Calls.callWith_builtin (by rfl) (Calls.evalArgs_plain ?_)
  show wpAny _ _ (spliced ((false, eval (.Constant (.str y) j1 p1) X.env) :: (false, _) :: [])) _ _ s1
  refine Calls.spliced_cons (Calls.Constant_str ?_)
  refine Calls.spliced_cons ?_
  refine Calls.Constant_str (x := z) (k := j2) (pos := p2) ?_
  refine Calls.spliced_nil ?_
  exact SC.replace (Nat.ne_of_gt hp1) (Nat.succ_ne_zero _) (Nat.ne_of_lt (Nat.lt_succ_self _)) hyz hb fun t' k => ⟨.str _, H1, I1.tok k, ⟨_, rfl⟩, q⟩
end
end L2
namespace Rm
/-! ### rows, as plain functions -/
/-! ### sizes -/
noncomputable def Bd (n : Nat) (x : Int) : Prop := x.natAbs < 2 ^ n
theorem Bd.mono {m n : Nat} {x : Int} (h : Bd m x) (hmn : m ≤ n) : Bd n x := Nat.lt_of_lt_of_le h (Nat.pow_le_pow_right (by decide) hmn)
theorem Bd.of {n : Nat} {x : Int} (h1 : -(2 ^ n) < x) (h2 : x < 2 ^ n) : Bd n x := by
  unfold Bd
  have e : ((2 ^ n : Nat) : Int) = (2 : Int) ^ n := by simp
  omega
end Rm
namespace Tx
open PySem PySem.StrLaws PySem.NumText PySem.Builtin PySem.Builtin.Str
noncomputable def one (c : Nat) : Str := ⟨#[c]⟩
theorem take_one (l : List Nat) (c i : Nat) : ((l.drop i).take 1 == [c]) = decide (l[i]? = some c) := by
  rw [← List.head?_drop]
  cases l.drop i with
  | nil => simp
  | cons a r =>
    simp only [List.take_succ_cons, List.take_zero, List.head?_cons, Option.some.injEq]
    by_cases h : a = c <;> simp [h]
theorem subAt_one (x : Str) (c i : Nat) : subAt x (one c) i = decide (x.cps.toList[i]? = some c) := by
  rw [subAt_eq]
  exact take_one ..
noncomputable def Hit (x : Str) (c i : Nat) : Bool := decide (x.cps.toList[i]? = some c)
theorem occ_run (x : Str) (c lim : Nat) (hl : lim = x.length + 1) : ∀ (n i : Nat) (st : Array Nat × Nat), i + n = x.length + 1 → st.1.size ≤ i → st.2 ≤ i →
    (forIn (List.range' i n) st (occBody x (one c) x.length lim)).run.fst.toList = st.1.toList ++ (List.range' i n).filter (Hit x c)
  | 0, i, st, _, _, _ => by simp
  | n + 1, i, st, h1, h2, h3 => by
    rw [List.range'_succ, List.forIn_cons]
    unfold occBody
    have hx : x.cps.toList.length = x.length := by simp [Str.length]
    by_cases hh : Hit x c i = true
    · have hi : i < x.length := by
        have := of_decide_eq_true hh
        obtain ⟨h, _⟩ := List.getElem?_eq_some_iff.mp this
        omega
      rw [if_pos ⟨⟨⟨by omega, h3⟩, by show i + 1 ≤ _; omega⟩, by rw [subAt_one]; exact hh⟩]
      have ih := occ_run x c lim hl n (i + 1) (st.1.push i, i + 1) (by omega) (by simp; omega) (Nat.le_refl _)
      unfold occBody at ih
      rw [List.filter_cons, if_pos hh]
      refine Eq.trans ih ?_
      simp
    · have hh' : Hit x c i = false := by simpa using hh
      rw [if_neg fun z => by rw [subAt_one] at z; exact hh z.2]
      have ih := occ_run x c lim hl n (i + 1) st (by omega) (by omega) (by omega)
      unfold occBody at ih
      rw [List.filter_cons, if_neg hh]
      exact ih
theorem occ_one (x : Str) (c : Nat) : occurrences x (one c) 0 x.length (x.length + 1) = (List.range' 0 (x.length + 1)).filter (Hit x c) := by
  rw [occ_eq, Nat.sub_zero]
  have := occ_run x c _ rfl (x.length + 1) 0 (#[], 0) (by omega) (by simp) (Nat.le_refl _)
  rw [this]; simp
theorem sub_clean {x : Str} {c a j : Nat} (h : ∀ k, a ≤ k → k < j → Hit x c k = false) : c ∉ (strSub x a j).cps.toList := fun hm => by
  rw [strSub_toList] at hm
  obtain ⟨k, hk, e⟩ := List.mem_iff_getElem.mp hm
  rw [List.length_take, List.length_drop] at hk
  have e1 : x.cps.toList[a + k]? = some c := by
    rw [List.getElem_take, List.getElem_drop] at e
    rw [List.getElem?_eq_getElem (by omega), e]
  have := h (a + k) (by omega) (by omega)
  unfold Hit at this
  rw [e1] at this
  simp at this
theorem parts_clean (x : Str) (c : Nat) : ∀ (n i a : Nat), i + n = x.length + 1 → a ≤ i → (∀ k, a ≤ k → k < i → Hit x c k = false) → ∀ p ∈ partsFrom x 1 a ((List.range' i n).filter (Hit x c)), c ∉ p.cps.toList
  | 0, i, a, h1, _, h3, p, hp => by
    rw [List.mem_singleton.mp hp]
    exact sub_clean fun k k1 k2 => h3 k k1 (by omega)
  | n + 1, i, a, h1, h2, h3, p, hp => by
    rw [List.range'_succ, List.filter_cons] at hp
    by_cases hh : Hit x c i = true
    · rw [if_pos hh] at hp
      rcases List.mem_cons.mp hp with e | e
      · rw [e]; exact sub_clean h3
      · exact parts_clean x c n (i + 1) (i + 1) (by omega) (Nat.le_refl _) (fun k k1 k2 => absurd k2 (by omega)) p e
    · rw [if_neg hh] at hp
      refine parts_clean x c n (i + 1) a (by omega) (by omega) (fun k k1 k2 => ?_) p hp
      by_cases e : k = i
      · rw [e]; simpa using hh
      · exact h3 k k1 (by omega)
theorem kind_one (x : Str) {c : Nat} (hc : c < 256) : ¬ Builtin.Str.strKind x < Builtin.Str.strKind (one c) := by
  have : Builtin.Str.strKind (one c) = 1 := by
    unfold Builtin.Str.strKind
    rw [if_pos]
    simp [one, hc]
  rw [this]
  unfold Builtin.Str.strKind
  split
  · omega
  · split <;> omega
theorem split_clean (x : Str) {c : Nat} (hc : c < 256) : ∀ p ∈ Txt.split x (one c), c ∉ p.cps.toList := by
  intro p hp
  unfold Txt.split at hp
  have key : ∀ p ∈ partsBetween x (occurrences x (one c) 0 x.length (x.length + 1)) (one c).length, c ∉ p.cps.toList := by
    rw [partsBetween_eq, occ_one]
    exact parts_clean x c (x.length + 1) 0 0 (by omega) (Nat.le_refl _) (fun k _ k2 => absurd k2 (Nat.not_lt_zero _))
  split at hp
  · rename_i h
    have hl : x.length < 1 := by
      simp only [Bool.or_eq_true, decide_eq_true_eq] at h
      rcases h with h | h
      · exact h
      · exact absurd h (kind_one x hc)
    rw [List.mem_singleton.mp hp]
    have : x.cps.toList = [] := List.eq_nil_of_length_eq_zero (by show x.cps.toList.length = 0; have : x.cps.toList.length = x.length := by simp [Str.length]
                                                                  omega)
    rw [this]; simp
  · split at hp
    · rename_i h1 h2
      rw [List.isEmpty_iff] at h2
      rw [List.mem_singleton.mp hp]
      refine key x ?_
      rw [h2, partsBetween_eq]
      show x ∈ [strSub x 0 x.length]
      rw [sub_whole]; simp
    · exact key p hp
/-- put together, with one sign between any two -/
noncomputable def jn (c : Nat) : List (List Nat) → List Nat
  | [] => []
  | [p] => p
  | p :: q :: r => p ++ c :: jn c (q :: r)
theorem join_jn (c : Nat) : ∀ ws : List Str, (Str.join (one c) ws).cps.toList = jn c (ws.map fun w => w.cps.toList)
  | [] => rfl
  | [_] => rfl
  | p :: q :: r => by
    have ih := join_jn c (q :: r)
    show (p ++ one c ++ Str.join (one c) (q :: r)).cps.toList = p.cps.toList ++ c :: jn c ((q :: r).map fun w => w.cps.toList)
    rw [← ih]
    simp [Str.cps_append, one]
theorem app_inj {c : Nat} : ∀ {p q u v : List Nat}, c ∉ p → c ∉ q → p ++ c :: u = q ++ c :: v → p = q ∧ u = v
  | [], [], _, _, _, _, h => ⟨rfl, (List.cons.inj h).2⟩
  | [], b :: q, _, _, _, h2, h => by
    have := (List.cons.inj h).1
    exact absurd (by rw [this]; simp) h2
  | a :: p, [], _, _, h1, _, h => by
    have := (List.cons.inj h).1
    exact absurd (by rw [this]; simp) h1
  | a :: p, b :: q, u, v, h1, h2, h => by
    obtain ⟨e1, e2⟩ := List.cons.inj h
    obtain ⟨e3, e4⟩ := app_inj (fun z => h1 (List.mem_cons_of_mem _ z)) (fun z => h2 (List.mem_cons_of_mem _ z)) e2
    exact ⟨by rw [e1, e3], e4⟩
theorem jn_inj {c : Nat} : ∀ {ps qs : List (List Nat)}, ps ≠ [] → qs ≠ [] → (∀ p ∈ ps, c ∉ p) → (∀ q ∈ qs, c ∉ q) → jn c ps = jn c qs → ps = qs
  | [], _, h, _, _, _, _ => absurd rfl h
  | _, [], _, h, _, _, _ => absurd rfl h
  | [p], [q], _, _, _, _, e => by rw [show p = q from e]
  | [p], q :: q' :: r, _, _, h1, _, e => by
    have : p = q ++ c :: jn c (q' :: r) := e
    exact absurd (by rw [this]; simp) (h1 p (by simp))
  | p :: p' :: r, [q], _, _, _, h2, e => by
    have : p ++ c :: jn c (p' :: r) = q := e
    exact absurd (by rw [← this]; simp) (h2 q (by simp))
  | p :: p' :: r, q :: q' :: t, _, _, h1, h2, e => by
    obtain ⟨e1, e2⟩ := app_inj (h1 p (by simp)) (h2 q (by simp)) (show p ++ c :: jn c (p' :: r) = q ++ c :: jn c (q' :: t) from e)
    have := jn_inj (by simp) (by simp) (fun z hz => h1 z (List.mem_cons_of_mem _ hz)) (fun z hz => h2 z (List.mem_cons_of_mem _ hz)) e2
    rw [e1, this]
theorem map_toList_inj : ∀ {ws vs : List Str}, (ws.map fun w => w.cps.toList) = (vs.map fun w => w.cps.toList) → ws = vs
  | [], [], _ => rfl
  | [], _ :: _, h => by simp at h
  | _ :: _, [], h => by simp at h
  | a :: r, b :: t, h => by
    simp only [List.map_cons, List.cons.injEq] at h
    rw [Str.ext' (Array.toList_inj.mp h.1), map_toList_inj h.2]
theorem split_ne (x y : Str) : Txt.split x y ≠ [] := by
  unfold Txt.split
  split
  · simp
  · split
    · simp
    · rw [partsBetween_eq]
      obtain ⟨p, r, e⟩ := partsFrom_ne x y.length 0 (occurrences x y 0 x.length (x.length + 1))
      rw [e]; simp
theorem split_join {c : Nat} (hc : c < 256) {ws : List Str} (hn : ws ≠ []) (h : ∀ w ∈ ws, c ∉ w.cps.toList) : Txt.split (Str.join (one c) ws) (one c) = ws := by
  refine map_toList_inj (jn_inj (c := c) (by simpa using split_ne _ _) (by simpa using hn) ?_ ?_ ?_)
  · intro p hp
    obtain ⟨w, hw, rfl⟩ := List.mem_map.mp hp
    exact split_clean _ hc w hw
  · intro p hp
    obtain ⟨w, hw, rfl⟩ := List.mem_map.mp hp
    exact h w hw
  · rw [← join_jn, ← join_jn, StrLaws.join_split]
/-! ### numbers as texts -/
theorem signs_ofString' (s : String) : (Str.ofString s).cps.toList = s.toList.map Char.toNat := PyProof.Rows.signs_ofString s
noncomputable def shw (n : Int) : Str := Str.ofString (toString n)
/-- the figures of a number -/
noncomputable def fig (m : Nat) : List Nat := (Nat.toDigits 10 m).map Char.toNat
theorem shw_nat (m : Nat) : (shw (m : Int)).cps.toList = fig m := by
  rw [shw, signs_ofString']
  show (Nat.repr m).toList.map Char.toNat = _
  rw [Nat.toList_repr]; rfl
theorem shw_neg {m : Nat} (h : 0 < m) : (shw (-(m : Int))).cps.toList = 45 :: fig m := by
  obtain ⟨k, rfl⟩ : ∃ k, m = k + 1 := ⟨m - 1, by omega⟩
  rw [shw, signs_ofString']
  have e : toString (-((k + 1 : Nat) : Int)) = "-" ++ Nat.repr (k + 1) := rfl
  rw [e, String.toList_append, Nat.toList_repr]
  simp [fig]
theorem fig_digits (m : Nat) : AllDigits (fig m) := fun c hc => by
  obtain ⟨ch, hch, rfl⟩ := List.mem_map.mp hc
  have := Nat.isDigit_of_mem_toDigits (by decide) (by decide) hch
  simp only [Char.isDigit, Bool.and_eq_true, decide_eq_true_eq] at this
  exact this
theorem fig_ne (m : Nat) : fig m ≠ [] := by
  intro h
  have := congrArg List.length h
  simp only [fig, List.length_map, List.length_nil] at this
  have := Nat.toDigits_ne_nil (n := m) (b := 10)
  simp_all
/-- figures are those of their number -/
noncomputable def NoNought (cs : List Nat) : Prop := cs = [48] ∨ ∃ c r, cs = c :: r ∧ 49 ≤ c
theorem toNat_ofNat {cs : List Nat} (h : AllDigits cs) : (cs.map Char.ofNat).map Char.toNat = cs := by
  rw [List.map_map]
  conv => rhs; rw [← List.map_id cs]
  refine List.map_congr_left fun c hc => ?_
  have := h c hc
  show (Char.ofNat c).toNat = c
  have v : c.isValidChar := Or.inl (by omega)
  rw [Char.ofNat, dif_pos v]
  rfl
theorem fig_val {cs : List Nat} (h : AllDigits cs) (hn : NoNought cs) : fig (digitsVal cs) = cs := by
  have hp : cs ≠ [] := by rcases hn with e | ⟨c, r, e, _⟩ <;> rw [e] <;> simp
  have hl : 0 < cs.length := List.length_pos_iff.mpr hp
  unfold fig
  rw [toDigits_digitsVal (cs.length - 1) cs (by omega) h, toNat_ofNat h]
  rcases hn with e | e
  · exact .inl (by rw [e]; rfl)
  · exact .inr e
theorem val_pow : ∀ (cs : List Nat), AllDigits cs → digitsVal cs < 10 ^ cs.length := by
  intro cs
  induction hn : cs.length generalizing cs with
  | zero => intro _; rw [List.eq_nil_of_length_eq_zero hn]; decide
  | succ n ih =>
    intro h
    have hne : cs ≠ [] := by intro e; rw [e] at hn; simp at hn
    have e := List.dropLast_concat_getLast hne
    generalize cs.dropLast = ini at e
    generalize cs.getLast hne = c at e
    subst e
    rw [List.length_append, List.length_singleton] at hn
    have hi : AllDigits ini := fun d hd => h d (List.mem_append_left _ hd)
    have hc := h c (List.mem_append_right _ (List.mem_singleton.mpr rfl))
    have := ih ini (by omega) hi
    rw [digitsVal_snoc, Nat.pow_succ]
    omega
theorem fig_len : ∀ (k m : Nat), m < 10 ^ (k + 1) → (fig m).length ≤ k + 1
  | 0, m, h => by
    unfold fig
    rw [Nat.toDigits_of_lt_base (by omega)]; simp
  | k + 1, m, h => by
    by_cases h10 : m < 10
    · unfold fig
      rw [Nat.toDigits_of_lt_base h10]; simp
    · have ih := fig_len k (m / 10) (by rw [Nat.pow_succ] at h; omega)
      have t : Nat.toDigits 10 (m / 10) ++ Nat.toDigits 10 (m % 10) = Nat.toDigits 10 (10 * (m / 10) + m % 10) := Nat.toDigits_append_toDigits (by decide) (by omega) (by omega)
      rw [Nat.div_add_mod] at t
      unfold fig at ih ⊢
      rw [← t, Nat.toDigits_of_lt_base (show m % 10 < 10 by omega)]
      simp only [List.length_map, List.length_append, List.length_singleton] at ih ⊢
      omega
theorem digit_back : ∀ d : Nat, d < 10 → (Nat.digitChar d).toNat - 48 = d := by decide
theorem val_fig (m : Nat) : digitsVal (fig m) = m := by
  induction m using Nat.strongRecOn with
  | _ m ih =>
    unfold fig
    by_cases h : m < 10
    · rw [Nat.toDigits_of_lt_base h]
      have e := digit_back m h
      show 0 * 10 + ((Nat.digitChar m).toNat - 48) = m
      omega
    · have hm : m % 10 < 10 := Nat.mod_lt m (by decide)
      have t : Nat.toDigits 10 (m / 10) ++ Nat.toDigits 10 (m % 10) = Nat.toDigits 10 (10 * (m / 10) + m % 10) := Nat.toDigits_append_toDigits (by decide) (by omega) hm
      rw [Nat.div_add_mod] at t
      rw [← t, List.map_append, Nat.toDigits_of_lt_base hm]
      have ih' := ih (m / 10) (by omega)
      unfold fig at ih'
      show digitsVal ((Nat.toDigits 10 (m / 10)).map Char.toNat ++ [(Nat.digitChar (m % 10)).toNat]) = m
      rw [digitsVal_snoc, ih', digit_back (m % 10) hm]
      omega
theorem fig_nought (m : Nat) : NoNought (fig m) := by
  by_cases h0 : m = 0
  · subst h0; exact .inl (by decide)
  · right
    induction m using Nat.strongRecOn with
    | _ m ih =>
      by_cases h : m < 10
      · have e : fig m = [(Nat.digitChar m).toNat] := by unfold fig; rw [Nat.toDigits_of_lt_base h]; rfl
        have e2 := digit_back m h
        exact ⟨_, [], e, by omega⟩
      · have t : Nat.toDigits 10 (m / 10) ++ Nat.toDigits 10 (m % 10) = Nat.toDigits 10 (10 * (m / 10) + m % 10) := Nat.toDigits_append_toDigits (by decide) (by omega) (by omega)
        rw [Nat.div_add_mod] at t
        obtain ⟨c, r, e, hc⟩ := ih (m / 10) (by omega) (by omega)
        refine ⟨c, r ++ (Nat.toDigits 10 (m % 10)).map Char.toNat, ?_, hc⟩
        unfold fig at e ⊢
        rw [← t, List.map_append, e]; rfl
/-- a number's text as this program reads it -/
noncomputable def Wr (w : Str) : Prop := ∃ (s : Bool) (cs : List Nat), w.cps.toList = (if s then 45 :: cs else cs) ∧ AllDigits cs ∧ 1 ≤ cs.length ∧ cs.length ≤ 60 ∧ NoNought cs ∧ (s = true → cs ≠ [48])
theorem val_pos {cs : List Nat} (hn : NoNought cs) (h : cs ≠ [48]) : 0 < digitsVal cs := by
  rcases hn with e | ⟨c, r, e, hc⟩
  · exact absurd e h
  · rw [e]; exact digitsVal_pos hc
theorem Wr.reads {w : Str} (h : Wr w) : ∃ n : Int, intText? w = some n ∧ shw n = w ∧ n.natAbs < 10 ^ 60 := by
  obtain ⟨s, cs, e, hd, l1, l2, hn, hs⟩ := h
  have hne : cs ≠ [] := List.length_pos_iff.mp l1
  have hp := val_pow cs hd
  have hp2 : 10 ^ cs.length ≤ 10 ^ 60 := Nat.pow_le_pow_right (by decide) l2
  have hwl : w.length = w.cps.toList.length := by simp [Str.length]
  cases s with
  | false =>
    have e' : w.cps.toList = cs := e
    refine ⟨_, intText_digits (by rw [e']; exact hd) (by rw [e']; exact hne) (by rw [hwl, e']; omega), ?_, ?_⟩
    · refine Str.ext' (Array.toList_inj.mp ?_)
      rw [e', shw_nat, fig_val hd hn]
    · rw [e']; show digitsVal cs < _; omega
  | true =>
    have e' : w.cps.toList = 45 :: cs := e
    have hv := val_pos hn (hs rfl)
    refine ⟨_, intText_neg e' hd hne (by rw [hwl, e']; simp; omega), ?_, ?_⟩
    · refine Str.ext' (Array.toList_inj.mp ?_)
      rw [e', shw_neg hv, fig_val hd hn]
    · show (-((digitsVal cs : Nat) : Int)).natAbs < _; omega
theorem wr_shw {n : Int} (h : n.natAbs < 10 ^ 60) : Wr (shw n) := by
  by_cases h0 : 0 ≤ n
  · obtain ⟨m, rfl⟩ := Int.eq_ofNat_of_zero_le h0
    exact ⟨false, fig m, shw_nat m, fig_digits m, List.length_pos_iff.mpr (fig_ne m), fig_len 59 m (by simpa using h), fig_nought m, fun z => by cases z⟩
  · obtain ⟨m, e, hm⟩ : ∃ m : Nat, n = -(m : Int) ∧ 0 < m := ⟨n.natAbs, by omega, by omega⟩
    subst e
    refine ⟨true, fig m, shw_neg hm, fig_digits m, List.length_pos_iff.mpr (fig_ne m), fig_len 59 m (by omega), fig_nought m, fun _ e => ?_⟩
    have := val_fig m
    rw [e] at this
    have : (0 : Nat) = m := this
    omega
theorem shw_inj {a b : Int} (e : shw a = shw b) : a = b := by
  have hs : ∀ z : Int, (∃ m : Nat, z = m ∧ (shw z).cps.toList = fig m) ∨ (∃ m : Nat, z = -(m : Int) ∧ (shw z).cps.toList = 45 :: fig m) := fun z => by
    by_cases c : 0 ≤ z
    · obtain ⟨m, rfl⟩ := Int.eq_ofNat_of_zero_le c
      exact .inl ⟨m, rfl, shw_nat m⟩
    · refine .inr ⟨z.natAbs, by omega, ?_⟩
      have := shw_neg (m := z.natAbs) (by omega)
      rw [show -((z.natAbs : Nat) : Int) = z by omega] at this
      exact this
  have no : ∀ m k : Nat, fig m ≠ 45 :: fig k := fun m k z => by
    have := fig_digits m 45 (by rw [z]; simp)
    omega
  rcases hs a with ⟨m, ea, fa⟩ | ⟨m, ea, fa⟩ <;> rcases hs b with ⟨k, eb, fb⟩ | ⟨k, eb, fb⟩ <;> rw [e, fb] at fa
  · rw [ea, eb, ← val_fig m, ← val_fig k, fa]
  · exact absurd fa.symm (no m k)
  · exact absurd fa (no k m)
  · rw [ea, eb, ← val_fig m, ← val_fig k, (List.cons.inj fa).2]
/-! ### rows as texts -/
noncomputable def bar : Str := one 124
noncomputable def byS : Str := ⟨#[98, 121]⟩
theorem shw_signs (n : Int) : ∀ c ∈ (shw n).cps.toList, c = 45 ∨ (48 ≤ c ∧ c ≤ 57) := fun c hc => by
  by_cases h : 0 ≤ n
  · obtain ⟨m, rfl⟩ := Int.eq_ofNat_of_zero_le h
    rw [shw_nat] at hc
    exact .inr (fig_digits m c hc)
  · have e := shw_neg (m := n.natAbs) (by omega)
    rw [show -((n.natAbs : Nat) : Int) = n by omega] at e
    rw [e] at hc
    rcases List.mem_cons.mp hc with z | z
    · exact .inl z
    · exact .inr (fig_digits _ c z)
theorem shw_bar (n : Int) : shw n ≠ bar := fun e => by
  have := shw_signs n 124 (by rw [e]; simp [bar, one])
  omega
theorem shw_by (n : Int) : shw n ≠ byS := fun e => by
  have := shw_signs n 98 (by rw [e]; simp [byS])
  omega
noncomputable def byPart (b : Int) : List Str := if b > 0 then [byS, shw b] else []
noncomputable def wordsOf (b : Int) (rule starts : List Int) : List Str := rule.map shw ++ bar :: (starts.map shw ++ byPart b)
noncomputable def textOf (b : Int) (rule starts : List Int) : Str := Str.join (one 32) (wordsOf b rule starts)
theorem mem_by {b : Int} {w : Str} (h : w ∈ byPart b) : w = byS ∨ w = shw b := by
  unfold byPart at h
  split at h
  · simpa using h
  · cases h
theorem words_mem {b : Int} {rule starts : List Int} {w : Str} (h : w ∈ wordsOf b rule starts) : w = bar ∨ w = byS ∨ ∃ n, w = shw n := by
  rcases List.mem_append.mp h with h | h
  · obtain ⟨n, _, e⟩ := List.mem_map.mp h
    exact .inr (.inr ⟨n, e.symm⟩)
  · rcases List.mem_cons.mp h with h | h
    · exact .inl h
    · rcases List.mem_append.mp h with h | h
      · obtain ⟨n, _, e⟩ := List.mem_map.mp h
        exact .inr (.inr ⟨n, e.symm⟩)
      · rcases mem_by h with h | h
        · exact .inr (.inl h)
        · exact .inr (.inr ⟨_, h⟩)
theorem words_clean {b : Int} {rule starts : List Int} : ∀ w ∈ wordsOf b rule starts, 32 ∉ w.cps.toList := fun w hw hm => by
  rcases words_mem hw with e | e | ⟨n, e⟩
  · rw [e] at hm; simp [bar, one] at hm
  · rw [e] at hm; simp [byS] at hm
  · rw [e] at hm
    have := shw_signs n 32 hm
    omega
theorem words_ne {b : Int} {rule starts : List Int} : wordsOf b rule starts ≠ [] := by unfold wordsOf; simp
theorem split_text (b : Int) (rule starts : List Int) : Txt.split (textOf b rule starts) (one 32) = wordsOf b rule starts := split_join (c := 32) (by decide) words_ne words_clean
theorem bar_rule {rule : List Int} : bar ∉ rule.map shw := fun h => by
  obtain ⟨n, _, e⟩ := List.mem_map.mp h
  exact shw_bar n e
theorem by_rule {rule : List Int} : byS ∉ rule.map shw := fun h => by
  obtain ⟨n, _, e⟩ := List.mem_map.mp h
  exact shw_by n e
theorem bar_behind {b : Int} {starts : List Int} : bar ∉ starts.map shw ++ byPart b := fun h => by
  rcases List.mem_append.mp h with h | h
  · exact bar_rule h
  · rcases mem_by h with h | h
    · exact absurd (congrArg (fun z : Str => z.cps) h) (by decide)
    · exact shw_bar b h.symm
theorem count_words (b : Int) (rule starts : List Int) : (wordsOf b rule starts).count bar = 1 := by
  unfold wordsOf
  rw [List.count_append, List.count_eq_zero_of_not_mem bar_rule, List.count_cons_self, List.count_eq_zero_of_not_mem bar_behind]
/-- one bar -/
theorem cut_bar {ws : List Str} {j : Nat} (hj : ws[j]? = some bar) : ws = ws.take j ++ bar :: ws.drop (j + 1) := by
  obtain ⟨h, e⟩ := List.getElem?_eq_some_iff.mp hj
  conv => lhs; rw [← List.take_append_drop j ws, List.drop_eq_getElem_cons h, e]
theorem bar_at {ws : List Str} (h : ws.count bar = 1) : ∃ j : Nat, ws[j]? = some bar ∧ ∀ m : Nat, m < j → ws[m]? ≠ some bar := by
  have hm : bar ∈ ws := List.count_pos_iff.mp (by rw [h]; decide)
  refine ⟨ws.idxOf bar, ?_, fun m hmj e => ?_⟩
  · rw [List.getElem?_eq_getElem (List.idxOf_lt_length_of_mem hm), List.getElem_idxOf]
  · obtain ⟨h1, h2⟩ := List.getElem?_eq_some_iff.mp e
    have := List.not_of_lt_findIdx (p := (· == bar)) (xs := ws) (i := m) hmj
    rw [h2] at this
    simp at this
/-- where the bar of a row's text is -/
theorem bar_words {b : Int} {rule starts : List Int} {j : Nat} (hj : (wordsOf b rule starts)[j]? = some bar) : j = rule.length := by
  unfold wordsOf at hj
  by_cases h1 : j < rule.length
  · rw [List.getElem?_append_left (by simpa using h1)] at hj
    exact absurd (List.mem_of_getElem? hj) bar_rule
  · by_cases h2 : j = rule.length
    · exact h2
    · rw [List.getElem?_append_right (by simp; omega), List.length_map, show j - rule.length = (j - rule.length - 1) + 1 by omega, List.getElem?_cons_succ] at hj
      exact absurd (List.mem_of_getElem? hj) bar_behind
theorem words_take (b : Int) (rule starts : List Int) : (wordsOf b rule starts).take rule.length = rule.map shw := by
  unfold wordsOf
  rw [List.take_append_of_le_length (by simp), List.take_of_length_le (by simp)]
theorem words_drop (b : Int) (rule starts : List Int) : (wordsOf b rule starts).drop (rule.length + 1) = starts.map shw ++ byPart b := by
  unfold wordsOf
  rw [List.drop_append, List.drop_eq_nil_of_le (by simp), List.length_map, show rule.length + 1 - rule.length = 1 by omega]
  rfl
/-- all of them numbers -/
noncomputable def valW (w : Str) : Int := (intText? w).getD 0
theorem Wr.val {w : Str} (h : Wr w) : intText? w = some (valW w) ∧ shw (valW w) = w ∧ (valW w).natAbs < 10 ^ 60 := by
  obtain ⟨n, h1, h2, h3⟩ := h.reads
  have e : valW w = n := by unfold valW; rw [h1]; rfl
  rw [e]; exact ⟨h1, h2, h3⟩
theorem all_val {ws : List Str} (h : ∀ w ∈ ws, Wr w) : (ws.map valW).map shw = ws := by
  rw [List.map_map]
  conv => rhs; rw [← List.map_id ws]
  exact List.map_congr_left fun w hw => (h w hw).val.2.1
theorem val_shw {n : Int} (h : n.natAbs < 10 ^ 60) : valW (shw n) = n := shw_inj (wr_shw h).val.2.1
theorem map_val {ns : List Int} (h : ∀ n ∈ ns, n.natAbs < 10 ^ 60) : (ns.map shw).map valW = ns := by
  rw [List.map_map]
  conv => rhs; rw [← List.map_id ns]
  exact List.map_congr_left fun n hn => val_shw (h n hn)
theorem map_shw_inj : ∀ {a b : List Int}, a.map shw = b.map shw → a = b
  | [], [], _ => rfl
  | [], _ :: _, h => by simp at h
  | _ :: _, [], h => by simp at h
  | x :: r, y :: t, h => by
    simp only [List.map_cons, List.cons.injEq] at h
    rw [shw_inj h.1, map_shw_inj h.2]
theorem textOf_inj {b b' : Int} {r s r' s' : List Int} (hb : 0 ≤ b) (hb' : 0 ≤ b') (e : textOf b r s = textOf b' r' s') : b = b' ∧ r = r' ∧ s = s' := by
  have ew : wordsOf b r s = wordsOf b' r' s' := by rw [← split_text, e, split_text]
  have hl : r.length = r'.length := by
    have h1 : (wordsOf b r s)[r.length]? = some bar := by unfold wordsOf; rw [List.getElem?_append_right (by simp), List.length_map, Nat.sub_self]; rfl
    rw [ew] at h1
    exact bar_words h1
  have er : r = r' := map_shw_inj (by rw [← words_take b r s, ← words_take b' r' s', ew, hl])
  have ed : s.map shw ++ byPart b = s'.map shw ++ byPart b' := by rw [← words_drop b r s, ← words_drop b' r' s', ew, hl]
  unfold byPart at ed
  by_cases c : b > 0 <;> by_cases c' : b' > 0
  · rw [if_pos c, if_pos c'] at ed
    obtain ⟨e1, e2⟩ := List.append_inj' ed rfl
    have : shw b = shw b' := (List.cons.inj (List.cons.inj e2).2).1
    exact ⟨shw_inj this, er, map_shw_inj e1⟩
  · rw [if_pos c, if_neg c', List.append_nil] at ed
    exact absurd (by rw [← ed]; simp) (by_rule (rule := s'))
  · rw [if_neg c, if_pos c', List.append_nil] at ed
    exact absurd (by rw [ed]; simp) (by_rule (rule := s))
  · rw [if_neg c, if_neg c', List.append_nil, List.append_nil] at ed
    exact ⟨by omega, er, map_shw_inj ed⟩
end Tx
namespace Tx
open PySem PySem.StrLaws PySem.NumText PySem.Builtin PySem.Builtin.Str
theorem range_nat {S T : Int} {a b : Nat} (hS : S = (a : Int)) (hT : T = (b : Int)) : sliceRange S T 1 = (List.range (b - a)).map fun k => a + k := by
  subst hS hT
  unfold sliceRange
  simp only [show (1 : Int) > 0 from by decide, if_true]
  by_cases hlt : (a : Int) < b
  · have e3 : (((b : Int) - a + 1 - 1) / 1).toNat = b - a := by rw [Int.ediv_one]; omega
    simp only [hlt, if_true, e3]
    refine List.map_congr_left fun k _ => ?_
    omega
  · have : b - a = 0 := by omega
    simp [hlt, this]
theorem idx_nat (l u : Option Nat) (n : Nat) : strSliceIndices (l.map fun a => (a : Int)) (u.map fun a => (a : Int)) 1 n = (List.range (min (u.getD n) n - min (l.getD 0) n)).map (fun k => min (l.getD 0) n + k) := by
  unfold strSliceIndices
  cases l <;> cases u <;> refine range_nat ?_ ?_ <;> simp <;> omega
theorem slice_nat (x : Str) (l u : Option Nat) : (Txt.slice x (l.map fun a => (a : Int)) (u.map fun a => (a : Int))).cps.toList = (x.cps.toList.drop (min (l.getD 0) x.length)).take (min (u.getD x.length) x.length - min (l.getD 0) x.length) := by
  have hx : x.cps.toList.length = x.length := by simp [Str.length]
  unfold Txt.slice
  rw [idx_nat]
  split
  · rename_i h
    simp only [beq_self_eq_true, Bool.true_and, beq_iff_eq, List.length_map, List.length_range] at h
    rw [List.take_of_length_le (by rw [List.length_drop, hx]; omega), show min (l.getD 0) x.length = 0 by omega, List.drop_zero]
  · have p := picks x.cps.toList (min (u.getD x.length) x.length - min (l.getD 0) x.length) (min (l.getD 0) x.length) (by rw [hx]; omega)
    simpa using p
theorem slice_from (x : Str) (a : Nat) : (Txt.slice x (some (a : Int)) none).cps.toList = x.cps.toList.drop a := by
  have hx : x.cps.toList.length = x.length := by simp [Str.length]
  have := slice_nat x (some a) none
  refine Eq.trans this ?_
  simp only [Option.getD_some, Option.getD_none]
  by_cases h : a ≤ x.length
  · rw [Nat.min_eq_left h, Nat.min_self, List.take_of_length_le (by rw [List.length_drop, hx]; omega)]
  · rw [Nat.min_eq_right (by omega), List.drop_eq_nil_of_le (by omega), List.drop_eq_nil_of_le (by omega), List.take_nil]
theorem starts_one (x : Str) (c : Nat) : Txt.startswith x (one c) = decide (x.cps.toList.head? = some c) := by
  have hx : x.cps.toList.length = x.length := by simp [Str.length]
  unfold Txt.startswith
  rw [subAt_one, List.head?_eq_getElem?]
  show (decide (0 + 1 ≤ x.length) && _) = _
  by_cases h : 1 ≤ x.length
  · rw [decide_eq_true (by omega), Bool.true_and]
  · rw [decide_eq_false (by omega), Bool.false_and, List.getElem?_eq_none (by omega)]; rfl
/-! ### what is_written tells -/
noncomputable def fgs (w : Str) : List Nat := if w.cps.toList.head? = some 45 then w.cps.toList.drop 1 else w.cps.toList
noncomputable def figs : List Nat := [48, 49, 50, 51, 52, 53, 54, 55, 56, 57]
theorem figs_iff (c : Nat) : c ∈ figs ↔ 48 ≤ c ∧ c ≤ 57 := by
  unfold figs
  simp only [List.mem_cons, List.not_mem_nil, or_false]
  omega
theorem wr_iff (w : Str) : Wr w ↔ (1 ≤ (fgs w).length ∧ (fgs w).length ≤ 60 ∧ (∀ c ∈ fgs w, c ∈ figs) ∧ (w.cps.toList = [48] ∨ ¬ (fgs w).head? = some 48)) := by
  constructor
  · rintro ⟨s, cs, e, hd, l1, l2, hn, hs⟩
    have ef : fgs w = cs := by
      unfold fgs
      cases s with
      | true => rw [e]; rfl
      | false =>
        rw [e]
        refine if_neg fun z => ?_
        cases cs with
        | nil => cases z
        | cons a r =>
          have := hd a (by simp)
          have : a = 45 := Option.some.inj z
          omega
    rw [ef]
    refine ⟨l1, l2, fun c hc => (figs_iff c).mpr (hd c hc), ?_⟩
    rcases hn with z | ⟨c, r, z, hc⟩
    · cases s with
      | true => exact absurd z (hs rfl)
      | false => left; rw [e]; exact z
    · right
      rw [z]
      intro y
      have : c = 48 := Option.some.inj y
      omega
  · rintro ⟨l1, l2, hd, h0⟩
    have hd' : AllDigits (fgs w) := fun c hc => (figs_iff c).mp (hd c hc)
    have hne : fgs w ≠ [] := List.length_pos_iff.mp l1
    by_cases c : w.cps.toList.head? = some 45
    · have ef : fgs w = w.cps.toList.drop 1 := if_pos c
      have ew : w.cps.toList = 45 :: fgs w := by
        rw [ef]
        cases h : w.cps.toList with
        | nil => rw [h] at c; cases c
        | cons a r => rw [h] at c; rw [Option.some.inj c]; rfl
      have h1 : ¬ (fgs w).head? = some 48 := by
        rcases h0 with z | z
        · rw [z] at c; cases c
        · exact z
      have hn : ∃ a r, fgs w = a :: r ∧ 49 ≤ a := by
        cases h : fgs w with
        | nil => exact absurd h hne
        | cons a r =>
          have := hd' a (by rw [h]; simp)
          refine ⟨a, r, rfl, ?_⟩
          have : a ≠ 48 := fun z => h1 (by rw [h, z]; rfl)
          omega
      exact ⟨true, fgs w, ew, hd', l1, l2, .inr hn, fun _ z => h1 (by rw [z]; rfl)⟩
    · have ef : fgs w = w.cps.toList := if_neg c
      refine ⟨false, fgs w, by rw [ef]; rfl, hd', l1, l2, ?_, fun z => by cases z⟩
      rcases h0 with z | z
      · exact .inl (by rw [ef]; exact z)
      · right
        cases h : fgs w with
        | nil => exact absurd h hne
        | cons a r =>
          have := hd' a (by rw [h]; simp)
          refine ⟨a, r, rfl, ?_⟩
          have : a ≠ 48 := fun y => z (by rw [h, y]; rfl)
          omega
end Tx
namespace K09
open PySem L2
seal PA PE PS PSs PT PW PI PG PO PIf
def top (i : Nat) : Stmt := PySem.Challenge.pw_nextbyrule_k09_no_texts.main.body.getD i (.Pass ⟨0, 0, 0, 0⟩)
noncomputable abbrev s_is_whole : Stmt := top 12
noncomputable abbrev s_is_prime : Stmt := top 13
noncomputable abbrev s_is_by : Stmt := top 14
noncomputable abbrev s_is_number : Stmt := top 15
noncomputable abbrev s_are_numbers : Stmt := top 18
noncomputable abbrev s_is_row : Stmt := top 19
noncomputable abbrev s_is_written : Stmt := top 23
noncomputable abbrev s_read_number : Stmt := top 24
noncomputable abbrev s_read_prime : Stmt := top 25
noncomputable abbrev s_read_words : Stmt := top 26
noncomputable abbrev s_read : Stmt := top 27
noncomputable abbrev s_Lcell_at : Stmt := top 29
noncomputable abbrev s_Lmix : Stmt := top 30
noncomputable abbrev s_Lby : Stmt := top 31
noncomputable abbrev s_Lnumber : Stmt := top 32
noncomputable abbrev s_Lnumbers : Stmt := top 33
noncomputable abbrev s_Lrow : Stmt := top 34
noncomputable abbrev s_Lodd : Stmt := top 35
noncomputable abbrev s_Lwords : Stmt := top 36
noncomputable abbrev s_Lrefused : Stmt := top 37
noncomputable abbrev s_Lbad_word : Stmt := top 38
noncomputable abbrev s_Lbad_by : Stmt := top 39
noncomputable abbrev s_Lbad : Stmt := top 40
noncomputable abbrev s_law : Stmt := top 41
theorem sc_is_whole : FnScope ["thing"] ["thing"] (defScope s_is_whole) := ⟨rfl, rfl, rfl, by decide +kernel, rfl, by decide +kernel, by decide +kernel⟩
theorem sc_is_prime : FnScope ["number", "divisor"] ["number"] (defScope s_is_prime) := ⟨rfl, rfl, rfl, by decide +kernel, rfl, by decide +kernel, by decide +kernel⟩
theorem sc_is_by : FnScope ["thing"] ["thing"] (defScope s_is_by) := ⟨rfl, rfl, rfl, by decide +kernel, rfl, by decide +kernel, by decide +kernel⟩
theorem sc_is_number : FnScope ["by", "thing"] ["by", "thing"] (defScope s_is_number) := ⟨rfl, rfl, rfl, by decide +kernel, rfl, by decide +kernel, by decide +kernel⟩
theorem sc_are_numbers : FnScope ["by", "thing"] ["by", "thing"] (defScope s_are_numbers) := ⟨rfl, rfl, rfl, by decide +kernel, rfl, by decide +kernel, by decide +kernel⟩
theorem sc_is_row : FnScope ["thing", "by", "rule", "starts"] ["thing"] (defScope s_is_row) := ⟨rfl, rfl, rfl, by decide +kernel, rfl, by decide +kernel, by decide +kernel⟩
theorem sc_is_written : FnScope ["word", "figures"] ["word"] (defScope s_is_written) := ⟨rfl, rfl, rfl, by decide +kernel, rfl, by decide +kernel, by decide +kernel⟩
theorem sc_read_number : FnScope ["word"] ["word"] (defScope s_read_number) := ⟨rfl, rfl, rfl, by decide +kernel, rfl, by decide +kernel, by decide +kernel⟩
theorem sc_read_prime : FnScope ["word", "prime"] ["word"] (defScope s_read_prime) := ⟨rfl, rfl, rfl, by decide +kernel, rfl, by decide +kernel, by decide +kernel⟩
theorem sc_read_words : FnScope ["rule_words", "start_words", "by", "rule", "starts", "row"] ["rule_words", "start_words", "by"] (defScope s_read_words) := ⟨rfl, rfl, rfl, by decide +kernel, rfl, by decide +kernel, by decide +kernel⟩
theorem sc_read : FnScope ["text", "words", "bar", "behind", "end"] ["text"] (defScope s_read) := ⟨rfl, rfl, rfl, by decide +kernel, rfl, by decide +kernel, by decide +kernel⟩
theorem sc_Lcell_at : FnScope ["_law_script", "_law_k"] ["_law_script", "_law_k"] (defScope s_Lcell_at) := ⟨rfl, rfl, rfl, by decide +kernel, rfl, by decide +kernel, by decide +kernel⟩
theorem sc_Lmix : FnScope ["_law_cell", "_law_k"] ["_law_cell", "_law_k"] (defScope s_Lmix) := ⟨rfl, rfl, rfl, by decide +kernel, rfl, by decide +kernel, by decide +kernel⟩
theorem sc_Lby : FnScope ["_law_number_here", "_law_other"] ["_law_number_here"] (defScope s_Lby) := ⟨rfl, rfl, rfl, by decide +kernel, rfl, by decide +kernel, by decide +kernel⟩
theorem sc_Lnumber : FnScope ["_law_by_here", "_law_number_here", "_law_kind"] ["_law_by_here", "_law_number_here"] (defScope s_Lnumber) := ⟨rfl, rfl, rfl, by decide +kernel, rfl, by decide +kernel, by decide +kernel⟩
theorem sc_Lnumbers : FnScope ["_law_by_here", "_law_cell", "_law_many", "_law_found", "_law_number_here", "_law_k"] ["_law_by_here", "_law_cell", "_law_many"] (defScope s_Lnumbers) := ⟨rfl, rfl, rfl, by decide +kernel, rfl, by decide +kernel, by decide +kernel⟩
theorem sc_Lrow : FnScope ["_law_cell", "_law_most", "_law_number_here", "_law_by_here", "_law_many", "_law_rule"] ["_law_cell", "_law_most"] (defScope s_Lrow) := ⟨rfl, rfl, rfl, by decide +kernel, rfl, by decide +kernel, by decide +kernel⟩
theorem sc_Lodd : FnScope ["_law_number_here", "_law_some"] ["_law_number_here"] (defScope s_Lodd) := ⟨rfl, rfl, rfl, by decide +kernel, rfl, by decide +kernel, by decide +kernel⟩
theorem sc_Lwords : FnScope ["_law_row_here", "_law_words_here"] ["_law_row_here"] (defScope s_Lwords) := ⟨rfl, rfl, rfl, by decide +kernel, rfl, by decide +kernel, by decide +kernel⟩
theorem sc_Lrefused : FnScope ["_law_text", "_law_clean", "e", "_law_strange"] ["_law_text"] (defScope s_Lrefused) := ⟨rfl, rfl, rfl, by decide +kernel, rfl, by decide +kernel, by decide +kernel⟩
theorem sc_Lbad_word : FnScope ["_law_row_here", "_law_word", "_law_number_here", "_law_some"] ["_law_row_here", "_law_word", "_law_number_here"] (defScope s_Lbad_word) := ⟨rfl, rfl, rfl, by decide +kernel, rfl, by decide +kernel, by decide +kernel⟩
theorem sc_Lbad_by : FnScope ["_law_words_here", "_law_number_here", "_law_some"] ["_law_words_here", "_law_number_here"] (defScope s_Lbad_by) := ⟨rfl, rfl, rfl, by decide +kernel, rfl, by decide +kernel, by decide +kernel⟩
theorem sc_Lbad : FnScope ["_law_row_here", "_law_number_here", "_law_words_here", "_law_half", "_law_size", "_law_kind", "_law_at", "_law_word", "_law_tail", "_law_more", "_law_text", "_law_some"] ["_law_row_here", "_law_number_here"] (defScope s_Lbad) := ⟨rfl, rfl, rfl, by decide +kernel, rfl, by decide +kernel, by decide +kernel⟩
theorem sc_law : FnScope ["_law_script", "_law_j", "_law_row_here", "_law_text", "_law_k"] ["_law_script"] (defScope s_law) := ⟨rfl, rfl, rfl, by decide +kernel, rfl, by decide +kernel, by decide +kernel⟩
noncomputable abbrev cs_are_numbers1 : Scope := { kind := .function, names := [(".0", .local), ("part", .local), ("is_number", .globalImplicit), ("by", .cell)], isGenerator := false, isCoroutine := false }
noncomputable abbrev cs_is_written1 : Scope := { kind := .function, names := [(".0", .local), ("figure", .local), ("FIGURES", .globalImplicit)], isGenerator := false, isCoroutine := false }
noncomputable abbrev cs_read_words1 : Scope := { kind := .function, names := [(".0", .local), ("word", .local), ("read_number", .globalImplicit)], isGenerator := false, isCoroutine := false }
noncomputable abbrev cs_read_words2 : Scope := { kind := .function, names := [(".0", .local), ("word", .local), ("read_number", .globalImplicit)], isGenerator := false, isCoroutine := false }
noncomputable abbrev cs_Lwords1 : Scope := { kind := .function, names := [(".0", .local), ("_law_number_here", .local), ("str", .globalImplicit)], isGenerator := false, isCoroutine := false }
noncomputable abbrev cs_Lwords2 : Scope := { kind := .function, names := [(".0", .local), ("_law_number_here", .local), ("str", .globalImplicit)], isGenerator := false, isCoroutine := false }
structure Bt (mg : Str → Option Value) : Prop where
  b_ValueError : mg "ValueError" = none
  b_all : mg "all" = none
  b_bool : mg "bool" = none
  b_int : mg "int" = none
  b_isinstance : mg "isinstance" = none
  b_len : mg "len" = none
  b_range : mg "range" = none
  b_str : mg "str" = none
  b_tuple : mg "tuple" = none
  g_ABOVE_ALL_BYS : ∃ t, mg "ABOVE_ALL_BYS" = some (.int 1000 t)
  g_FIGURES : ∃ t, mg "FIGURES" = some (.str "0123456789" t)
  g_LONGEST : ∃ t, mg "LONGEST" = some (.int 12 t)
  g_MOST_FIGURES_READ : ∃ t, mg "MOST_FIGURES_READ" = some (.int 60 t)
structure Ms (K : PySem.W.Frag) (mg : Str → Option Value) (base : Heap) (A_NoBy A_NoName A_NoNumber A_NoRow A_NoText A_RuleError A_TooBig A_TooFar A_TooLong : Addr) : Prop where
  m_NoBy : mg "NoBy" = some (.ref A_NoBy)
  m_NoName : mg "NoName" = some (.ref A_NoName)
  m_NoNumber : mg "NoNumber" = some (.ref A_NoNumber)
  m_NoRow : mg "NoRow" = some (.ref A_NoRow)
  m_NoText : mg "NoText" = some (.ref A_NoText)
  m_RuleError : mg "RuleError" = some (.ref A_RuleError)
  m_TooBig : mg "TooBig" = some (.ref A_TooBig)
  m_TooFar : mg "TooFar" = some (.ref A_TooFar)
  m_TooLong : mg "TooLong" = some (.ref A_TooLong)
  x_NoText : ExC mg base "NoText" A_NoText
  s_NoText_RuleError : ExS base A_NoText A_RuleError
  i_NoText : ExI K A_NoText
  k_NoText_NoBy : PySem.W.kitOne K (.ref A_NoText) (.ref A_NoBy) = some false
  k_NoText_NoName : PySem.W.kitOne K (.ref A_NoText) (.ref A_NoName) = some false
  k_NoText_NoNumber : PySem.W.kitOne K (.ref A_NoText) (.ref A_NoNumber) = some false
  k_NoText_NoRow : PySem.W.kitOne K (.ref A_NoText) (.ref A_NoRow) = some false
  k_NoText_NoText : PySem.W.kitOne K (.ref A_NoText) (.ref A_NoText) = some true
  k_NoText_RuleError : PySem.W.kitOne K (.ref A_NoText) (.ref A_RuleError) = some true
  k_NoText_TooBig : PySem.W.kitOne K (.ref A_NoText) (.ref A_TooBig) = some false
  k_NoText_TooFar : PySem.W.kitOne K (.ref A_NoText) (.ref A_TooFar) = some false
  k_NoText_TooLong : PySem.W.kitOne K (.ref A_NoText) (.ref A_TooLong) = some false
  k_NoText_ValueError : PySem.W.kitOne K (.ref A_NoText) (.type "ValueError") = some true
noncomputable abbrev KLAW : Nat := 12
/-! ### the drawn numbers -/
noncomputable abbrev MM : Int := 2147483647
noncomputable def cellAt (ns : List Int) (k : Int) : Int := if k < (ns.length : Int) then ns.getD k.toNat 0 else 0
noncomputable def mixI (c k : Int) : Int := (c % MM + 1) * (48271 + 7 * k) % MM
theorem mixI_lo (c k : Int) : 0 ≤ mixI c k := Int.emod_nonneg _ (by decide)
theorem mixI_hi (c k : Int) : mixI c k < MM := Int.emod_lt_of_pos _ (by decide)
theorem emod_lo (a : Int) {b : Int} (h : 0 < b) : 0 ≤ a % b := Int.emod_nonneg _ (by omega)
theorem emod_hi (a : Int) {b : Int} (h : 0 < b) : a % b < b := Int.emod_lt_of_pos _ h
theorem atI_ints {ns : List Int} {k : Int} (h0 : 0 ≤ k) (h1 : k < (ns.length : Int)) : atI (ns.map V.int) k = some (.int (ns.getD k.toNat 0)) := by
  have e : k = ((k.toNat : Nat) : Int) := by omega
  have hk : k.toNat < ns.length := by omega
  conv => lhs; rw [e]
  exact atI_nat (by rw [List.getElem?_map, List.getElem?_eq_getElem hk, List.getD_eq_getElem?_getD, List.getElem?_eq_getElem hk] <;> rfl)
theorem atI_len {α : Type} {xs : List α} {k : Int} {v : α} (j : Nat) (e : k = (j : Int)) (h : xs[j]? = some v) : atI xs k = some v := by rw [e]; exact atI_nat h
theorem dec_true {p : Prop} [Decidable p] (c : decide p = true) : p := of_decide_eq_true c
theorem dec_false {p : Prop} [Decidable p] (c : ¬ decide p = true) : ¬ p := of_decide_eq_false (Bool.eq_false_iff.mpr c)
/-! ### the law's rows -/
noncomputable def byL : List Int := [11, 13, 17, 101, 499, 503, 941, 991]
noncomputable def byM (x : Int) : List Int := [0, 2, 0, 3, 5, 0, 7, 31, x, 997]
noncomputable def byI (n : Int) : Int := (byM (byL.getD (n / 10 % 8).toNat 0)).getD (n % 10).toNat 0
noncomputable def bys : List Int := [0, 2, 3, 5, 7, 31, 11, 13, 17, 101, 499, 503, 941, 991, 997]
theorem byI_tab : ∀ k < 10, ∀ j < 8, (byM (byL.getD j 0)).getD k 0 ∈ bys := by decide
theorem byI_mem (n : Int) : byI n ∈ bys := byI_tab _ (by have := emod_hi n (show (0 : Int) < 10 by decide); have := emod_lo n (show (0 : Int) < 10 by decide); omega) _ (by have := emod_hi (n / 10) (show (0 : Int) < 8 by decide); have := emod_lo (n / 10) (show (0 : Int) < 8 by decide); omega)
theorem bys_range : ∀ b ∈ bys, 0 ≤ b ∧ b < 1000 := by decide
noncomputable def numberI (b n : Int) : Int := if b > 0 then n % b else if n % 8 < 2 then 0 else if n % 8 < 5 then n / 8 % 5 - 2 else if n % 8 < 7 then n / 8 % 41 - 20 else (n / 8) ^ 3 % 10 ^ 20 * (1 - 2 * (n / 16 % 2))
/-- a number by a by -/
noncomputable def IsNum (b x : Int) : Prop := b = 0 ∨ (0 ≤ x ∧ x < b)
theorem numberI_num {b : Int} (hb : 0 ≤ b) (n : Int) : IsNum b (numberI b n) := by
  unfold IsNum numberI
  by_cases h : b > 0
  · rw [if_pos h]; exact .inr ⟨emod_lo n h, emod_hi n h⟩
  · exact .inl (by omega)
theorem numberI_bd {b : Int} (hb : b < 1000) (n : Int) : Rm.Bd 67 (numberI b n) := by
  refine Rm.Bd.of ?_ ?_ <;> unfold numberI
  · have a := emod_lo (n / 8) (show (0 : Int) < 5 by decide)
    have c := emod_lo (n / 8) (show (0 : Int) < 41 by decide)
    have d := emod_lo ((n / 8) ^ 3) (show (0 : Int) < 10 ^ 20 by decide)
    have d' := emod_hi ((n / 8) ^ 3) (show (0 : Int) < 10 ^ 20 by decide)
    have e := emod_lo (n / 16) (show (0 : Int) < 2 by decide)
    have e' := emod_hi (n / 16) (show (0 : Int) < 2 by decide)
    generalize (n / 8) ^ 3 % 10 ^ 20 = p at d d' ⊢
    split
    · rename_i h; have := emod_lo n h; omega
    · split
      · decide
      · split
        · omega
        · split
          · omega
          · have : n / 16 % 2 = 0 ∨ n / 16 % 2 = 1 := by omega
            rcases this with z | z <;> rw [z] <;> omega
  · have a := emod_hi (n / 8) (show (0 : Int) < 5 by decide)
    have c := emod_hi (n / 8) (show (0 : Int) < 41 by decide)
    have d := emod_lo ((n / 8) ^ 3) (show (0 : Int) < 10 ^ 20 by decide)
    have d' := emod_hi ((n / 8) ^ 3) (show (0 : Int) < 10 ^ 20 by decide)
    have e := emod_lo (n / 16) (show (0 : Int) < 2 by decide)
    have e' := emod_hi (n / 16) (show (0 : Int) < 2 by decide)
    generalize (n / 8) ^ 3 % 10 ^ 20 = p at d d' ⊢
    split
    · rename_i h; have := emod_hi n h; omega
    · split
      · decide
      · split
        · omega
        · split
          · omega
          · have : n / 16 % 2 = 0 ∨ n / 16 % 2 = 1 := by omega
            rcases this with z | z <;> rw [z] <;> omega
noncomputable def lcg (c : Int) : Nat → Int
  | 0 => c
  | k + 1 => lcg c k * 48271 % MM
theorem lcg_range {c : Int} (h0 : 0 ≤ c) (h1 : c < MM) : ∀ k, 0 ≤ lcg c k ∧ lcg c k < MM
  | 0 => ⟨h0, h1⟩
  | _ + 1 => ⟨Int.emod_nonneg _ (by decide), Int.emod_lt_of_pos _ (by decide)⟩
noncomputable def numbersI (b c : Int) : Nat → List Int
  | 0 => []
  | k + 1 => numbersI b c k ++ [numberI b (lcg c (k + 1))]
theorem numbersI_len (b c : Int) : ∀ k, (numbersI b c k).length = k
  | 0 => rfl
  | k + 1 => by simp [numbersI, numbersI_len b c k]
theorem numbersI_num {b : Int} (hb : 0 ≤ b) (c : Int) : ∀ k, ∀ x ∈ numbersI b c k, IsNum b x
  | 0 => fun x h => by cases h
  | k + 1 => fun x h => by
    rcases List.mem_append.mp h with h | h
    · exact numbersI_num hb c k x h
    · rw [List.mem_singleton.mp h]; exact numberI_num hb _
theorem numbersI_bd {b : Int} (hb : b < 1000) (c : Int) : ∀ k, ∀ x ∈ numbersI b c k, Rm.Bd 67 x
  | 0 => fun x h => by cases h
  | k + 1 => fun x h => by
    rcases List.mem_append.mp h with h | h
    · exact numbersI_bd hb c k x h
    · rw [List.mem_singleton.mp h]; exact numberI_bd hb _
/-- a row, as plain data -/
structure Rw where
  b : Int
  rule : List Int
  starts : List Int
noncomputable def rowI (c m : Int) : Rw :=
  ⟨byI (mixI c 1), numbersI (byI (mixI c 1)) (mixI c 2) (mixI c 1 / 10 % (m + 1)).toNat, numbersI (byI (mixI c 1)) (mixI c 3) (mixI c 1 / 10 % (m + 1)).toNat⟩
/-- what is true of each row here -/
structure RwOk (r : Rw) : Prop where
  len : r.rule.length = r.starts.length
  short : r.rule.length ≤ 12
  by0 : 0 ≤ r.b
  by1 : r.b < 1000
  ruleNum : ∀ x ∈ r.rule, IsNum r.b x
  startsNum : ∀ x ∈ r.starts, IsNum r.b x
  ruleBd : ∀ x ∈ r.rule, Rm.Bd 200 x
  startsBd : ∀ x ∈ r.starts, Rm.Bd 200 x
theorem rowI_by (c m : Int) : (rowI c m).b ∈ bys := byI_mem _
theorem rowI_ok {c m : Int} (h0 : 0 ≤ m) (h1 : m ≤ 12) : RwOk (rowI c m) := by
  have hb := bys_range _ (rowI_by c m)
  have hk := emod_hi (mixI c 1 / 10) (show 0 < m + 1 by omega)
  have hk0 := emod_lo (mixI c 1 / 10) (show 0 < m + 1 by omega)
  refine ⟨?_, ?_, hb.1, hb.2, numbersI_num hb.1 _ _, numbersI_num hb.1 _ _, fun x h => (numbersI_bd hb.2 _ _ x h).mono (by decide), fun x h => (numbersI_bd hb.2 _ _ x h).mono (by decide)⟩
  · show (numbersI _ _ _).length = (numbersI _ _ _).length
    rw [numbersI_len, numbersI_len]
  · show (numbersI _ _ _).length ≤ 12
    rw [numbersI_len]; omega
/-- a row at a value -/
noncomputable def RowIs (H : Hp) (v : V) (r : Rw) : Prop :=
  ∃ a p q, v = .ref a ∧ H a = some (.tup [.int r.b, .ref p, .ref q]) ∧ H p = some (.tup (r.rule.map V.int)) ∧ H q = some (.tup (r.starts.map V.int))
theorem RowIs.same {H H' : Hp} {v : V} {r : Rw} (h : RowIs H v r) (g : Same H H') : RowIs H' v r := by
  obtain ⟨a, p, q, e, h1, h2, h3⟩ := h
  exact ⟨a, p, q, e, g _ _ h1, g _ _ h2, g _ _ h3⟩
/-! ### what is a number, a by, a row -/
noncomputable def wholeV : V → Bool
  | .int _ => true
  | _ => false
/-- no d from 2 on whose square is at most n divides n (n below 1024) -/
noncomputable def primeB (n : Int) : Bool := decide (2 ≤ n) && (List.range 32).all fun d => decide (d < 2) || decide (n < (d : Int) * d) || decide (n % (d : Int) ≠ 0)
noncomputable def byV : V → Bool
  | .int n => decide (n < 1000) && (decide (n = 0) || primeB n)
  | _ => false
noncomputable def numV (b : Int) : V → Bool
  | .int i => decide (b = 0) || (decide (0 ≤ i) && decide (i < b))
  | _ => false
noncomputable def areV (H : Hp) (b : Int) : V → Bool
  | .ref p => (match H p with
    | some (.tup xs) => decide (xs.length ≤ 12) && xs.all (numV b)
    | _ => false)
  | _ => false
noncomputable def lenV (H : Hp) : V → Nat
  | .ref p => (match H p with
    | some (.tup xs) => xs.length
    | _ => 0)
  | _ => 0
noncomputable def rowB (H : Hp) (y0 y1 y2 : V) : Bool := match y0 with
  | .int b => byV (.int b) && areV H b y1 && areV H b y2 && decide (lenV H y1 = lenV H y2)
  | _ => false
noncomputable def rowV (H : Hp) : V → Bool
  | .ref a => (match H a with
    | some (.tup [y0, y1, y2]) => rowB H y0 y1 y2
    | _ => false)
  | _ => false
theorem rowB_no {H : Hp} {y0 y1 y2 : V} (h : byV y0 = false) : rowB H y0 y1 y2 = false := by
  cases y0 with
  | int b => show (byV (.int b) && _ && _ && _) = false; rw [h]; rfl
  | _ => rfl
/-- a thing whose kind is known; .. and the kinds of its items -/
noncomputable def Knd (H : Hp) (x : V) : Prop := ∃ t, tyNm H x = some t
noncomputable def Knd1 (H : Hp) (x : V) : Prop := Knd H x ∧ ∀ p xs, x = .ref p → H p = some (.tup xs) → ∀ y ∈ xs, Knd H y
noncomputable def Knd2 (H : Hp) (x : V) : Prop := Knd H x ∧ ∀ p xs, x = .ref p → H p = some (.tup xs) → ∀ y ∈ xs, Knd1 H y
theorem tyNm_same {H H' : Hp} {x : V} {t : String} (g : Same H H') (h : tyNm H x = some t) : tyNm H' x = some t := by
  cases x with
  | ref a =>
    have h' : (match H a with
      | some (.lst _) => some "list"
      | some (.frz _ (.lst _)) => some "list"
      | some (.tup _) => some "tuple"
      | some (.dK _) => some "dict"
      | _ => none) = some t := h
    show (match H' a with
      | some (.lst _) => some "list"
      | some (.frz _ (.lst _)) => some "list"
      | some (.tup _) => some "tuple"
      | some (.dK _) => some "dict"
      | _ => none) = some t
    cases q : H a with
    | none => rw [q] at h'; cases h'
    | some o => rw [g a o q]; rw [q] at h'; exact h'
  | _ => exact h
theorem Knd.same {H H' : Hp} {x : V} (h : Knd H x) (g : Same H H') : Knd H' x := let ⟨t, e⟩ := h; ⟨t, tyNm_same g e⟩
theorem Knd.int {H : Hp} (i : Int) : Knd H (.int i) := ⟨_, rfl⟩
theorem Knd.tup {H : Hp} {a : Addr} {xs : List V} (h : H a = some (.tup xs)) : Knd H (.ref a) := ⟨"tuple", by simp only [tyNm, h]⟩
theorem Knd1.int {H : Hp} (i : Int) : Knd1 H (.int i) := ⟨.int i, fun _ _ e => by cases e⟩
theorem Knd1.tup {H : Hp} {a : Addr} {xs : List V} (h : H a = some (.tup xs)) (hx : ∀ y ∈ xs, Knd H y) : Knd1 H (.ref a) := ⟨.tup h, fun p ys e e2 => by cases e; rw [h] at e2; cases e2; exact hx⟩
theorem Knd2.tup {H : Hp} {a : Addr} {xs : List V} (h : H a = some (.tup xs)) (hx : ∀ y ∈ xs, Knd1 H y) : Knd2 H (.ref a) := ⟨.tup h, fun p ys e e2 => by cases e; rw [h] at e2; cases e2; exact hx⟩
theorem Knd1.ints {H : Hp} {a : Addr} {ns : List Int} (h : H a = some (.tup (ns.map V.int))) : Knd1 H (.ref a) := .tup h fun y hy => by
  obtain ⟨n, _, rfl⟩ := List.mem_map.mp hy
  exact .int n
theorem ty_tuple {H : Hp} {x : V} (h : tyNm H x = some "tuple") : ∃ a xs, x = .ref a ∧ H a = some (.tup xs) := by
  cases x with
  | ref a =>
    have h' : (match H a with
      | some (.lst _) => some "list"
      | some (.frz _ (.lst _)) => some "list"
      | some (.tup _) => some "tuple"
      | some (.dK _) => some "dict"
      | _ => none) = some "tuple" := h
    cases q : H a with
    | none => rw [q] at h'; cases h'
    | some o =>
      rw [q] at h'
      cases o with
      | tup xs => exact ⟨a, xs, rfl, q⟩
      | frz o u => cases u <;> first | (exfalso; revert h'; simp; done) | cases h'
      | lst xs => exfalso; revert h'; simp
      | dK xs => exfalso; revert h'; simp
      | _ => cases h'
  | non => exfalso; revert h; simp [tyNm]
  | bl b => exfalso; revert h; simp [tyNm]
  | int b => exfalso; revert h; simp [tyNm]
  | str b => exfalso; revert h; simp [tyNm]
  | _ => cases h
theorem Knd1.same {H H' : Hp} {x : V} (h : Knd1 H x) (g : Same H H') : Knd1 H' x := by
  refine ⟨h.1.same g, fun p xs e e2 y hy => ?_⟩
  subst e
  obtain ⟨t, ty⟩ := h.1
  have ty2 := tyNm_same g ty
  have : tyNm H' (.ref p) = some "tuple" := by simp only [tyNm, e2]
  rw [this] at ty2; cases ty2
  obtain ⟨a, ys, e3, e4⟩ := ty_tuple ty
  cases e3
  have e5 := g _ _ e4
  rw [e2] at e5; cases e5
  exact (h.2 p xs rfl e4 y hy).same g
theorem areV_same {H H' : Hp} {b : Int} {x : V} (h : Knd H x) (g : Same H H') : areV H' b x = areV H b x := by
  cases x with
  | ref p =>
    obtain ⟨t, ty⟩ := h
    cases q : H p with
    | none =>
      exfalso
      have : tyNm H (.ref p) = none := by simp only [tyNm, q]
      rw [this] at ty; cases ty
    | some o => simp only [areV, q, g p o q]
  | _ => rfl
theorem areV_tup {H : Hp} {b : Int} {x : V} (h : areV H b x = true) : ∃ p xs, x = .ref p ∧ H p = some (.tup xs) := by
  cases x with
  | ref p =>
    cases q : H p with
    | none => simp [areV, q] at h
    | some o =>
      cases o with
      | tup xs => exact ⟨p, xs, rfl, q⟩
      | _ => simp [areV, q] at h
  | _ => cases h
/-- a list told: new, at r -/
noncomputable def Told (H : Hp) (Q : VK) (xs : List V) : Prop := ∀ r H', Same H H' → H r = none → H' r = some (.lst xs) → Q (.ref r) H'
noncomputable def spLaw (K : PySem.W.Frag) : Sp := fun vs H Q _ => ∃ (a : Addr) (ns : List Int), vs = [.ref a] ∧ SqL K H a (ns.map V.int) ∧ ns.length ≤ 63 ∧ ∀ H', Q (.bl true) H'
theorem cut_to (xs : List V) (k : Nat) : cutV xs none (some (k : Int)) = xs.take k := by
  unfold cutV
  rw [HT.sIx_nat, HT.sIx_none, List.drop_zero, Nat.sub_zero, List.take_eq_take_iff]
  omega
theorem cut_drop (xs : List V) (k : Nat) : cutV xs (some (k : Int)) none = xs.drop k := by
  unfold cutV
  rw [HT.sIx_nat, HT.sIx_none]
  by_cases h : k ≤ xs.length
  · rw [Nat.min_eq_left h, List.take_of_length_le (by rw [List.length_drop]; omega)]
  · rw [Nat.min_eq_right (by omega), List.drop_eq_nil_of_le (Nat.le_refl _), List.drop_eq_nil_of_le (by omega), List.take_nil]
theorem cut_nextN (xs : List V) (i : Nat) : cutV xs (some ((i : Int) + 1)) none = xs.drop (i + 1) := cut_drop xs (i + 1)
theorem bys_by : ∀ b ∈ bys, byV (.int b) = true := by decide +kernel
theorem IsNum.numV {b x : Int} (h : IsNum b x) : numV b (.int x) = true := by
  show (decide (b = 0) || (decide (0 ≤ x) && decide (x < b))) = true
  rcases h with h | ⟨h1, h2⟩
  · rw [decide_eq_true h]; rfl
  · rw [decide_eq_true h1, decide_eq_true h2]; exact Bool.or_true _
theorem RowIs.knd {H : Hp} {v : V} {r : Rw} (h : RowIs H v r) : Knd2 H v := by
  obtain ⟨a, p, q, rfl, h1, h2, h3⟩ := h
  refine .tup h1 fun y hy => ?_
  simp only [List.mem_cons, List.not_mem_nil, or_false] at hy
  rcases hy with rfl | rfl | rfl
  · exact .int _
  · exact .ints h2
  · exact .ints h3
noncomputable def spWhole : Sp := fun vs H Q _ => ∃ x t, vs = [x] ∧ tyNm H x = some t ∧ Q (.bl (wholeV x)) H
noncomputable def spPrime : Sp := fun vs H Q _ => ∃ n : Int, vs = [.int n] ∧ n < 1000 ∧ Q (.bl (primeB n)) H
noncomputable def spBy : Sp := fun vs H Q _ => ∃ x t, vs = [x] ∧ tyNm H x = some t ∧ Q (.bl (byV x)) H
noncomputable def spNumP : Sp := fun vs H Q _ => ∃ b x, vs = [.int b, x] ∧ Knd H x ∧ Q (.bl (numV b x)) H
noncomputable def spAre : Sp := fun vs H Q _ => ∃ b x, vs = [.int b, x] ∧ Knd1 H x ∧ ∀ H', Same H H' → Q (.bl (areV H b x)) H'
noncomputable def spIsRow : Sp := fun vs H Q _ => ∃ x, vs = [x] ∧ Knd2 H x ∧ ∀ H', Same H H' → Q (.bl (rowV H x)) H'
noncomputable def spCell (K : PySem.W.Frag) : Sp := fun vs H Q _ => ∃ a ns k, vs = [.ref a, .int k] ∧ SqL K H a (ns.map V.int) ∧ 0 ≤ k ∧ Q (.int (cellAt ns k)) H
noncomputable def spMix : Sp := fun vs H Q _ => ∃ c k, vs = [.int c, .int k] ∧ 0 ≤ k ∧ k ≤ 1000 ∧ Q (.int (mixI c k)) H
noncomputable def spByL : Sp := fun vs H Q _ => ∃ n : Int, vs = [.int n] ∧ ∀ H', Same H H' → Q (.int (byI n)) H'
noncomputable def spNumber : Sp := fun vs H Q _ => ∃ b n : Int, vs = [.int b, .int n] ∧ 0 ≤ n ∧ n < MM ∧ Q (.int (numberI b n)) H
noncomputable def spNumbers : Sp := fun vs H Q _ => ∃ b c m : Int, vs = [.int b, .int c, .int m] ∧ 0 ≤ c ∧ c < MM ∧ 0 ≤ m ∧ m ≤ 1000 ∧ Told H Q ((numbersI b c m.toNat).map V.int)
noncomputable def spRow : Sp := fun vs H Q _ => ∃ c m : Int, vs = [.int c, .int m] ∧ 0 ≤ m ∧ m ≤ 12 ∧ ∀ v H', Same H H' → RowIs H' v (rowI c m) → Q v H'
/-! ### things of other kinds -/
noncomputable def OddIs (H : Hp) (k : Int) (v : V) : Prop :=
  (k = 0 ∧ v = .non) ∨ (k = 1 ∧ v = .bl true) ∨ (k = 2 ∧ v = .bl false) ∨ (k = 3 ∧ v = .str "7") ∨ (k = 4 ∧ v = .str "") ∨
  (k = 5 ∧ ∃ a, v = .ref a ∧ H a = some (.lst [])) ∨ (k = 6 ∧ ∃ a, v = .ref a ∧ H a = some (.tup [])) ∨ (k = 7 ∧ ∃ a, v = .ref a ∧ H a = some (.dK [])) ∨
  (k = 8 ∧ ∃ a, v = .ref a ∧ H a = some (.lst [.int 7])) ∨ (k = 9 ∧ ∃ a, v = .ref a ∧ H a = some (.tup [.int 7])) ∨ (k = 10 ∧ v = .str "seven") ∨
  (k = 11 ∧ ∃ a, v = .ref a ∧ H a = some (.dK [(.inl 7, .int 7)]))
theorem OddIs.same {H H' : Hp} {k : Int} {v : V} (h : OddIs H k v) (g : Same H H') : OddIs H' k v := by
  rcases h with h | h | h | h | h | ⟨e, a, h1, h2⟩ | ⟨e, a, h1, h2⟩ | ⟨e, a, h1, h2⟩ | ⟨e, a, h1, h2⟩ | ⟨e, a, h1, h2⟩ | h | ⟨e, a, h1, h2⟩
  · exact .inl h
  · exact .inr (.inl h)
  · exact .inr (.inr (.inl h))
  · exact .inr (.inr (.inr (.inl h)))
  · exact .inr (.inr (.inr (.inr (.inl h))))
  · exact .inr (.inr (.inr (.inr (.inr (.inl ⟨e, a, h1, g _ _ h2⟩)))))
  · exact .inr (.inr (.inr (.inr (.inr (.inr (.inl ⟨e, a, h1, g _ _ h2⟩))))))
  · exact .inr (.inr (.inr (.inr (.inr (.inr (.inr (.inl ⟨e, a, h1, g _ _ h2⟩)))))))
  · exact .inr (.inr (.inr (.inr (.inr (.inr (.inr (.inr (.inl ⟨e, a, h1, g _ _ h2⟩))))))))
  · exact .inr (.inr (.inr (.inr (.inr (.inr (.inr (.inr (.inr (.inl ⟨e, a, h1, g _ _ h2⟩)))))))))
  · exact .inr (.inr (.inr (.inr (.inr (.inr (.inr (.inr (.inr (.inr (.inl h))))))))))
  · exact .inr (.inr (.inr (.inr (.inr (.inr (.inr (.inr (.inr (.inr (.inr ⟨e, a, h1, g _ _ h2⟩))))))))))
noncomputable def spOdd : Sp := fun vs H Q _ => ∃ n : Int, vs = [.int n] ∧ ∀ v H', Same H H' → OddIs H' (n % 12) v → Q v H'
/-! ### rows as texts -/
open Tx in
/-- a row whose text is read -/
structure T8 (r : Rw) : Prop where
  len : r.rule.length = r.starts.length
  short : r.rule.length ≤ 12
  byv : byV (.int r.b) = true
  ruleNum : ∀ x ∈ r.rule, IsNum r.b x
  startsNum : ∀ x ∈ r.starts, IsNum r.b x
  ruleBd : ∀ x ∈ r.rule, x.natAbs < 10 ^ 60
  startsBd : ∀ x ∈ r.starts, x.natAbs < 10 ^ 60
noncomputable def txt (r : Rw) : Str := Tx.textOf r.b r.rule r.starts
theorem byV_range {b : Int} (h : byV (.int b) = true) : 0 ≤ b ∧ b < 1000 := by
  have h' : (decide (b < 1000) && (decide (b = 0) || primeB b)) = true := h
  rw [Bool.and_eq_true, Bool.or_eq_true] at h'
  obtain ⟨h1, h2⟩ := h'
  have := of_decide_eq_true h1
  rcases h2 with z | z
  · have := of_decide_eq_true z; omega
  · unfold primeB at z
    rw [Bool.and_eq_true] at z
    have := of_decide_eq_true z.1
    omega
theorem txt_inj {r r' : Rw} (h : T8 r) (h' : T8 r') (e : txt r = txt r') : r = r' := by
  obtain ⟨e1, e2, e3⟩ := Tx.textOf_inj (byV_range h.byv).1 (byV_range h'.byv).1 e
  cases r; cases r'
  simp only at e1 e2 e3
  rw [e1, e2, e3]
theorem rowV_of {H : Hp} {v : V} {r : Rw} (h : RowIs H v r) : rowV H v = true ↔ (byV (.int r.b) = true ∧ r.rule.length ≤ 12 ∧ (∀ x ∈ r.rule, IsNum r.b x) ∧ (∀ x ∈ r.starts, IsNum r.b x) ∧ r.rule.length = r.starts.length) := by
  obtain ⟨a, p, q, rfl, h1, h2, h3⟩ := h
  have ha : ∀ {p : Addr} {xs : List Int}, H p = some (.tup (xs.map V.int)) → areV H r.b (.ref p) = (decide (xs.length ≤ 12) && xs.all fun x => numV r.b (.int x)) := fun h => by
    simp only [areV, h]
    rw [List.length_map, List.all_map]; rfl
  have hn : ∀ xs : List Int, (xs.all fun x => numV r.b (.int x)) = true ↔ ∀ x ∈ xs, IsNum r.b x := fun xs => by
    rw [List.all_eq_true]
    constructor
    · intro z x hx
      have := z x hx
      have this' : (decide (r.b = 0) || (decide (0 ≤ x) && decide (x < r.b))) = true := this
      rw [Bool.or_eq_true, Bool.and_eq_true, decide_eq_true_eq, decide_eq_true_eq, decide_eq_true_eq] at this'
      exact this'
    · intro z x hx; exact (z x hx).numV
  have e : rowV H (.ref a) = (byV (.int r.b) && areV H r.b (.ref p) && areV H r.b (.ref q) && decide (lenV H (.ref p) = lenV H (.ref q))) := by simp only [rowV, h1]; rfl
  have l : lenV H (.ref p) = r.rule.length ∧ lenV H (.ref q) = r.starts.length := by simp only [lenV, h2, h3, List.length_map, and_self]
  rw [e, ha h2, ha h3, l.1, l.2]
  simp only [Bool.and_eq_true, hn, decide_eq_true_eq]
  constructor
  · rintro ⟨⟨⟨z1, z2, z3⟩, z4, z5⟩, z6⟩
    exact ⟨z1, z2, z3, z5, z6⟩
  · rintro ⟨z1, z2, z3, z5, z6⟩
    exact ⟨⟨⟨z1, z2, z3⟩, by omega, z5⟩, z6⟩
theorem T8.row {H : Hp} {v : V} {r : Rw} (h : RowIs H v r) (t : T8 r) : rowV H v = true := (rowV_of h).mpr ⟨t.byv, t.short, t.ruleNum, t.startsNum, t.len⟩
theorem lit_bar : (PySem.Str.ofString "|") = Tx.bar := by decide +kernel
theorem lit_by : (PySem.Str.ofString "by") = Tx.byS := by decide +kernel
theorem lit_sp : (PySem.Str.ofString " ") = Tx.one 32 := by decide +kernel
theorem lit_min : (PySem.Str.ofString "-") = Tx.one 45 := by decide +kernel
theorem lit_0 : (PySem.Str.ofString "0") = Tx.one 48 := by decide +kernel
theorem lit_figs : (PySem.Str.ofString "0123456789").cps.toList = Tx.figs := by decide +kernel
theorem log_60 {n : Int} (h : n.natAbs < 10 ^ 60) : n.natAbs.log2 < 1920 := by
  by_cases z : n.natAbs = 0
  · rw [z]; decide
  · exact (Nat.log2_lt z).mpr (Nat.lt_of_lt_of_le h (by decide +kernel))
/-- the texts of numbers -/
theorem comp_shw {K : PySem.W.Frag} {a : Addr} {xs : List Int} {ix : List (Option Nat)} {te : TE} {σ : St} {H1 : Hp} {Q : VK} (hA : H1 a = some (.tup (xs.map V.int))) (hz : xs.length ≤ 1000) {rest : St} (hst : cst ix σ = none :: rest)
    (he : ∀ H' x, Same H1 H' → x ∈ xs → ∀ kk : VK, kk (.str (Tx.shw x)) H' → te (some (.int x) :: rest) H' kk)
    (hQ : ∀ D, H1 D = none → Q (.ref D) (upd H1 D (.lst ((xs.map Tx.shw).map V.str)))) : CompK ix (gName 0) tYes te σ Q (Itt K a) H1 := by
  refine comp_pure (its_tup (SqT.of hA)) (by rw [List.length_map]; exact Nat.le_of_lt (small1000 hz)) hst (fun _ => true) (fun x => match x with | .int k => .str (Tx.shw k) | _ => .non) ?_ ?_ ?_
  · intro H2 x g2 hx k hk; exact hk
  · intro H2 x g2 hx _ k hk
    obtain ⟨y, hy, rfl⟩ := List.mem_map.mp hx
    exact he H2 y g2 hy k hk
  · intro D hD
    have el : (((xs.map V.int).filter fun _ => true).map fun x => match x with | .int k => V.str (Tx.shw k) | _ => V.non) = (xs.map Tx.shw).map V.str := by
      rw [List.filter_eq_self.mpr (by simp), List.map_map, List.map_map]; rfl
    rw [el]
    exact hQ D hD
theorem shw_len {n : Int} (h : n.natAbs < 10 ^ 60) : (Tx.shw n).length ≤ 61 := by
  obtain ⟨s, cs, e, _, _, l, _, _⟩ := Tx.wr_shw h
  have : (Tx.shw n).length = (Tx.shw n).cps.toList.length := by simp [PySem.Str.length]
  rw [this, e]
  cases s
  · show cs.length ≤ 61; omega
  · show cs.length + 1 ≤ 61; omega
theorem T8.by60 {r : Rw} (t : T8 r) : r.b.natAbs < 10 ^ 60 := by
  have := byV_range t.byv
  exact Nat.lt_of_lt_of_le (show r.b.natAbs < 1000 by omega) (by decide +kernel)
theorem T8.few {r : Rw} (t : T8 r) : (Tx.wordsOf r.b r.rule r.starts).length ≤ 27 := by
  have := t.short
  have := t.len
  unfold Tx.wordsOf Tx.byPart
  rw [List.length_append, List.length_map, List.length_cons, List.length_append, List.length_map]
  split <;> simp <;> omega
theorem T8.words {r : Rw} (t : T8 r) : ∀ w ∈ Tx.wordsOf r.b r.rule r.starts, w.length ≤ 61 := fun w hw => by
  rcases List.mem_append.mp hw with h | h
  · obtain ⟨n, hn, rfl⟩ := List.mem_map.mp h
    exact shw_len (t.ruleBd n hn)
  · rcases List.mem_cons.mp h with h | h
    · rw [h]; decide
    · rcases List.mem_append.mp h with h | h
      · obtain ⟨n, hn, rfl⟩ := List.mem_map.mp h
        exact shw_len (t.startsBd n hn)
      · rcases Tx.mem_by h with h | h
        · rw [h]; decide
        · rw [h]; exact shw_len t.by60
theorem T8.join {r : Rw} (t : T8 r) : PySem.JoinOk (Tx.one 32) (Tx.wordsOf r.b r.rule r.starts) = true := by
  unfold PySem.JoinOk
  rw [PySem.StrLaws.joinFits (B := 61) t.words (by
    have := t.few
    have e : (Tx.one 32).length = 1 := rfl
    rw [e]; omega)]
  rfl
theorem T8.txt_len {r : Rw} (t : T8 r) : (txt r).length ≤ 2000 := by
  have h := PySem.StrLaws.join_length_le (Tx.one 32) (Tx.wordsOf r.b r.rule r.starts)
  have h2 := PySem.StrLaws.sumLen_le (B := 61) _ t.words
  have := t.few
  have e : (Tx.one 32).length = 1 := rfl
  rw [e] at h
  unfold txt Tx.textOf
  omega
noncomputable def spWritten : Sp := fun vs H Q _ => ∃ w : Str, vs = [.str w] ∧ w.length ≤ 100000 ∧ (Tx.Wr w → ∀ H', Same H H' → Q (.bl true) H') ∧ (¬ Tx.Wr w → ∀ H', Same H H' → Q (.bl false) H')
noncomputable def spReadN (C : Addr) : Sp := fun vs H Q E => ∃ w : Str, vs = [.str w] ∧ w.length ≤ 100000 ∧ (Tx.Wr w → ∀ H', Same H H' → Q (.int (Tx.valW w)) H') ∧ (¬ Tx.Wr w → ∀ H', Same H H' → E (.ref C) none H')
theorem Wr.len {w : Str} (h : Tx.Wr w) : w.length ≤ 61 := by
  obtain ⟨s, cs, e, _, _, l, _, _⟩ := h
  have : w.length = w.cps.toList.length := by simp [PySem.Str.length]
  rw [this, e]
  cases s
  · show cs.length ≤ 61; omega
  · show cs.length + 1 ≤ 61; omega
noncomputable def ByW (w : Str) : Prop := Tx.Wr w ∧ Tx.valW w ≠ 0 ∧ byV (.int (Tx.valW w)) = true
noncomputable def spReadP (C : Addr) : Sp := fun vs H Q E => ∃ w : Str, vs = [.str w] ∧ w.length ≤ 100000 ∧ (ByW w → ∀ H', Same H H' → Q (.int (Tx.valW w)) H') ∧ (¬ ByW w → ∀ H', Same H H' → E (.ref C) none H')
theorem comp_read {C : Addr} {E : XK} {K : PySem.W.Frag} {a : Addr} {ws : List Str} {ix : List (Option Nat)} {te : TE} {σ : St} {H1 : Hp} {Q : VK} (hA : H1 a = some (.lst (ws.map V.str))) (hz : ws.length ≤ 100010) {rest : St} (hst : cst ix σ = none :: rest)
    (he : ∀ (H' : Hp) (w : Str), Same H1 H' → w ∈ ws → ∀ k : VK, (Tx.Wr w → ∀ H2, Same H' H2 → k (.int (Tx.valW w)) H2) → (¬ Tx.Wr w → ∀ H2, Same H' H2 → E (.ref C) none H2) → te (some (.str w) :: rest) H' k)
    (h1 : (∀ w ∈ ws, Tx.Wr w) → ∀ D H', H1 D = none → Same H1 H' → H' D = some (.lst ((ws.map Tx.valW).map V.int)) → Q (.ref D) H')
    (h2 : ¬ (∀ w ∈ ws, Tx.Wr w) → ∀ H', Same H1 H' → E (.ref C) none H') : CompK ix (gName 0) tYes te σ Q (Itl K a) H1 := by
  have I := its_list (K := K) (SqL.of hA)
  have hs : (100010 : Nat) < sizeLine := by decide
  constructor
  intro D hD
  refine ⟨fun i m σ' H' => m = ws.length - i ∧ i ≤ ws.length ∧ (∃ o, σ' = o :: rest) ∧ Same H1 H' ∧ H' D = some (.lst (((ws.take i).map Tx.valW).map V.int)) ∧ ∀ w ∈ ws.take i, Tx.Wr w, ⟨ws.length, by simp, Nat.zero_le _, ⟨none, hst⟩, Same.new hD _, by rw [upd_same]; rfl, fun w hw => by rw [List.take_zero] at hw; cases hw⟩, ?_⟩
  rintro i m σ' H' ⟨rfl, hi, ⟨o, rfl⟩, g, hl, hw⟩
  by_cases hlt : i < ws.length
  · refine .inr ⟨I.go i _ g (by rw [List.length_map]; exact hlt), fun x H2 y => ?_⟩
    obtain ⟨rfl, hx⟩ := I.yld i _ x H2 g y
    have hx := hx (by rw [List.length_map]; exact hlt)
    rw [List.getElem?_map, List.getElem?_eq_getElem hlt] at hx
    cases hx
    have hm : ws[i] ∈ ws := List.getElem_mem hlt
    have et : ws.take (i + 1) = ws.take i ++ [ws[i]] := by rw [List.take_add_one, List.getElem?_eq_getElem hlt]; rfl
    change te (some (.str ws[i]) :: rest) H2 _
    refine he H2 ws[i] g hm _ (fun hW H3 g3 => ⟨_, g3 _ _ hl, ?_, ws.length - (i + 1), by omega, rfl, hlt, ⟨_, rfl⟩, Same.upd (g.trans g3) hD _, ?_, ?_⟩) (fun hW H3 g3 => h2 (fun z => hW (z _ hm)) H3 (g.trans g3))
    · rw [List.length_map, List.length_map, List.length_take]; omega
    · rw [upd_same, et, List.map_append, List.map_append]; rfl
    · intro w hw'
      rw [et] at hw'
      rcases List.mem_append.mp hw' with z | z
      · exact hw w z
      · rw [List.mem_singleton.mp z]; exact hW
  · have e : i = ws.length := by omega
    subst e
    rw [List.take_length] at hl hw
    exact .inl ⟨I.stop _ _ g (by rw [List.length_map]; exact Nat.le_refl _), h1 hw D H' hD g hl⟩
/-- words that are a row's -/
noncomputable def WdR (A B : List Str) (b : Int) : Prop := (∀ w ∈ A, Tx.Wr w) ∧ (∀ w ∈ B, Tx.Wr w) ∧ T8 ⟨b, A.map Tx.valW, B.map Tx.valW⟩
noncomputable def spReadW (C : Addr) : Sp := fun vs H Q E => ∃ (a1 a2 : Addr) (A B : List Str) (b : Int), vs = [.ref a1, .ref a2, .int b] ∧ H a1 = some (.lst (A.map V.str)) ∧ H a2 = some (.lst (B.map V.str)) ∧ A.length ≤ 100010 ∧ B.length ≤ 100010 ∧ (∀ w ∈ A, w.length ≤ 100000) ∧ (∀ w ∈ B, w.length ≤ 100000) ∧
  (WdR A B b → ∀ v H', Same H H' → RowIs H' v ⟨b, A.map Tx.valW, B.map Tx.valW⟩ → Q v H') ∧ (¬ WdR A B b → ∀ H', Same H H' → E (.ref C) none H')
theorem words_cut {r : Rw} {A bh : List Str} (e : Tx.wordsOf r.b r.rule r.starts = A ++ Tx.bar :: bh) : A = r.rule.map Tx.shw ∧ bh = r.starts.map Tx.shw ++ Tx.byPart r.b := by
  have hj : (Tx.wordsOf r.b r.rule r.starts)[A.length]? = some Tx.bar := by rw [e, List.getElem?_append_right (Nat.le_refl _), Nat.sub_self]; rfl
  have hl := Tx.bar_words hj
  constructor
  · rw [← Tx.words_take r.b r.rule r.starts, e, ← hl, List.take_append_of_le_length (Nat.le_refl _), List.take_length]
  · rw [← Tx.words_drop r.b r.rule r.starts, e, ← hl, List.drop_append, List.drop_eq_nil_of_le (Nat.le_succ _), Nat.add_sub_cancel_left]; rfl
theorem T8.valR {r : Rw} (t : T8 r) : (r.rule.map Tx.shw).map Tx.valW = r.rule := Tx.map_val t.ruleBd
theorem T8.valS {r : Rw} (t : T8 r) : (r.starts.map Tx.shw).map Tx.valW = r.starts := Tx.map_val t.startsBd
theorem wr_map {ns : List Int} (h : ∀ n ∈ ns, n.natAbs < 10 ^ 60) : ∀ w ∈ ns.map Tx.shw, Tx.Wr w := fun w hw => by
  obtain ⟨n, hn, rfl⟩ := List.mem_map.mp hw
  exact Tx.wr_shw (h n hn)
theorem split_txt (r : Rw) : PySem.Txt.split (txt r) (Tx.one 32) = Tx.wordsOf r.b r.rule r.starts := Tx.split_text ..
theorem txt_by {t : Str} {A B : List Str} {c : Str} (hw : PySem.Txt.split t (Tx.one 32) = A ++ Tx.bar :: (B ++ [Tx.byS, c])) (hc : ByW c) (h : WdR A B (Tx.valW c)) : txt ⟨Tx.valW c, A.map Tx.valW, B.map Tx.valW⟩ = t := by
  have h0 := byV_range hc.2.2
  have h1 := hc.2.1
  have ew : Tx.wordsOf (Tx.valW c) (A.map Tx.valW) (B.map Tx.valW) = PySem.Txt.split t (Tx.one 32) := by
    rw [hw, Tx.wordsOf, Tx.all_val h.1, Tx.all_val h.2.1, Tx.byPart, if_pos (by omega), hc.1.val.2.1]
  show Str.join (Tx.one 32) (Tx.wordsOf (Tx.valW c) (A.map Tx.valW) (B.map Tx.valW)) = t
  rw [ew, PySem.StrLaws.join_split]
theorem txt_no {t : Str} {A bh : List Str} (hw : PySem.Txt.split t (Tx.one 32) = A ++ Tx.bar :: bh) (h : WdR A bh 0) : txt ⟨0, A.map Tx.valW, bh.map Tx.valW⟩ = t := by
  have ew : Tx.wordsOf 0 (A.map Tx.valW) (bh.map Tx.valW) = PySem.Txt.split t (Tx.one 32) := by
    rw [hw, Tx.wordsOf, Tx.all_val h.1, Tx.all_val h.2.1, Tx.byPart, if_neg (by decide), List.append_nil]
  show Str.join (Tx.one 32) (Tx.wordsOf 0 (A.map Tx.valW) (bh.map Tx.valW)) = t
  rw [ew, PySem.StrLaws.join_split]
theorem no_by {t : Str} {A B : List Str} {c : Str} (hw : PySem.Txt.split t (Tx.one 32) = A ++ Tx.bar :: (B ++ [Tx.byS, c])) {r : Rw} (hr : T8 r) (e : txt r = t) : ByW c ∧ WdR A B (Tx.valW c) := by
  rw [← e, split_txt] at hw
  obtain ⟨eA, eb⟩ := words_cut hw
  have hb := byV_range hr.byv
  by_cases c0 : r.b > 0
  · rw [Tx.byPart, if_pos c0] at eb
    obtain ⟨e1, e2⟩ := List.append_inj' eb rfl
    have ec : c = Tx.shw r.b := (List.cons.inj (List.cons.inj e2).2).1
    have ev : Tx.valW c = r.b := by rw [ec]; exact Tx.val_shw hr.by60
    refine ⟨⟨by rw [ec]; exact Tx.wr_shw hr.by60, by rw [ev]; omega, by rw [ev]; exact hr.byv⟩, by rw [eA]; exact wr_map hr.ruleBd, by rw [e1]; exact wr_map hr.startsBd, ?_⟩
    rw [ev, eA, e1, hr.valR, hr.valS]
    exact hr
  · rw [Tx.byPart, if_neg c0, List.append_nil] at eb
    exact absurd (by rw [← eb]; simp) (Tx.by_rule (rule := r.starts))
theorem no_no {t : Str} {A bh : List Str} (hw : PySem.Txt.split t (Tx.one 32) = A ++ Tx.bar :: bh) (hn : ¬ (2 ≤ bh.length ∧ bh[bh.length - 2]? = some Tx.byS)) {r : Rw} (hr : T8 r) (e : txt r = t) : WdR A bh 0 := by
  rw [← e, split_txt] at hw
  obtain ⟨eA, eb⟩ := words_cut hw
  have hb := byV_range hr.byv
  by_cases c0 : r.b > 0
  · rw [Tx.byPart, if_pos c0] at eb
    refine absurd ⟨?_, ?_⟩ hn
    · rw [eb]; simp
    · rw [eb]
      have l : (r.starts.map Tx.shw ++ [Tx.byS, Tx.shw r.b]).length - 2 = (r.starts.map Tx.shw).length := by rw [List.length_append]; rfl
      rw [l, List.getElem?_append_right (Nat.le_refl _), Nat.sub_self]; rfl
  · have b0 : r.b = 0 := by omega
    rw [Tx.byPart, if_neg c0, List.append_nil] at eb
    refine ⟨by rw [eA]; exact wr_map hr.ruleBd, by rw [eb]; exact wr_map hr.startsBd, ?_⟩
    rw [eA, eb, hr.valR, hr.valS, ← b0]
    exact hr
theorem last_two {bh : List Str} (h : 2 ≤ bh.length) (hb : bh[bh.length - 2]? = some Tx.byS) : ∃ c, bh[bh.length - 1]? = some c ∧ bh = bh.take (bh.length - 2) ++ [Tx.byS, c] := by
  have h1 : bh.length - 1 < bh.length := by omega
  refine ⟨bh[bh.length - 1], List.getElem?_eq_getElem h1, ?_⟩
  obtain ⟨h2, e2⟩ := List.getElem?_eq_some_iff.mp hb
  conv => lhs; rw [← List.take_append_drop (bh.length - 2) bh, List.drop_eq_getElem_cons h2, e2]
  congr 2
  have e : bh.length - 2 + 1 = bh.length - 1 := by omega
  rw [e, List.drop_eq_getElem_cons h1, List.drop_eq_nil_of_le (by omega)]
noncomputable def NoTxt (t : Str) : Prop := ∀ r, T8 r → txt r ≠ t
noncomputable def spRead (C : Addr) : Sp := fun vs H Q E => (∃ (v : V) (T : String), vs = [v] ∧ tyNm H v = some T ∧ T ≠ "str" ∧ ∀ H', Same H H' → E (.ref C) none H') ∨ ∃ t : Str, vs = [.str t] ∧ t.length ≤ 100000 ∧ (∀ v r H', Same H H' → RowIs H' v r → T8 r → txt r = t → Q v H') ∧ (NoTxt t → ∀ H', Same H H' → E (.ref C) none H')
noncomputable def spWords : Sp := fun vs H Q _ => ∃ (v : V) (r : Rw), vs = [v] ∧ RowIs H v r ∧ T8 r ∧ ∀ (l : Addr) H', Same H H' → H' l = some (.lst ((Tx.wordsOf r.b r.rule r.starts).map V.str)) → Q (.ref l) H'
/-! ### texts that are no row's -/
noncomputable def NoW (ws : List Str) : Prop := ∀ r, T8 r → Tx.wordsOf r.b r.rule r.starts ≠ ws
theorem noTxt_join {ws : List Str} (hn : ws ≠ []) (hc : ∀ w ∈ ws, 32 ∉ w.cps.toList) (h : NoW ws) : NoTxt (PySem.Str.join (Tx.one 32) ws) := fun r hr e => h r hr (by
  rw [← split_txt r, e]; exact Tx.split_join (by decide) hn hc)
theorem words_wr {r : Rw} (t : T8 r) {w : Str} (h : w ∈ Tx.wordsOf r.b r.rule r.starts) : w = Tx.bar ∨ w = Tx.byS ∨ Tx.Wr w := by
  rcases List.mem_append.mp h with h | h
  · obtain ⟨n, hn, rfl⟩ := List.mem_map.mp h
    exact .inr (.inr (Tx.wr_shw (t.ruleBd n hn)))
  · rcases List.mem_cons.mp h with h | h
    · exact .inl h
    · rcases List.mem_append.mp h with h | h
      · obtain ⟨n, hn, rfl⟩ := List.mem_map.mp h
        exact .inr (.inr (Tx.wr_shw (t.startsBd n hn)))
      · rcases Tx.mem_by h with h | h
        · exact .inr (.inl h)
        · exact .inr (.inr (h ▸ Tx.wr_shw t.by60))
theorem noW_word {ws : List Str} {w : Str} (hw : w ∈ ws) (h1 : w ≠ Tx.bar) (h2 : w ≠ Tx.byS) (h3 : ¬ Tx.Wr w) : NoW ws := fun r t e => by
  rcases words_wr t (e ▸ hw) with z | z | z
  · exact h1 z
  · exact h2 z
  · exact h3 z
theorem noW_bars {ws : List Str} (h : ws.count Tx.bar ≠ 1) : NoW ws := fun r t e => h (by rw [← e, Tx.count_words])
theorem noW_size {A B : List Str} (h : ∀ r, T8 r → A = r.rule.map Tx.shw → B = r.starts.map Tx.shw ++ Tx.byPart r.b → False) : NoW (A ++ Tx.bar :: B) := fun r t e => h r t (words_cut e).1 (words_cut e).2
theorem by_len (b : Int) : (Tx.byPart b).length = 0 ∨ (Tx.byPart b).length = 2 := by
  unfold Tx.byPart
  split
  · exact .inr rfl
  · exact .inl rfl
theorem noW_len {A B : List Str} (h1 : B.length ≠ A.length) (h2 : B.length ≠ A.length + 2) : NoW (A ++ Tx.bar :: B) := noW_size fun r t e1 e2 => by
  have l1 := congrArg List.length e1
  have l2 := congrArg List.length e2
  rw [List.length_map] at l1
  rw [List.length_append, List.length_map] at l2
  have := t.len
  rcases by_len r.b with z | z <;> omega
theorem noW_long {A B : List Str} (h1 : 12 < A.length) : NoW (A ++ Tx.bar :: B) := noW_size fun r t e1 _ => by
  have l1 := congrArg List.length e1
  rw [List.length_map] at l1
  have := t.short
  omega
theorem byPart_inj {b b' : Int} (h : 0 ≤ b) (h' : 0 ≤ b') (e : Tx.byPart b = Tx.byPart b') : b = b' := by
  unfold Tx.byPart at e
  by_cases c : b > 0 <;> by_cases c' : b' > 0
  · rw [if_pos c, if_pos c'] at e
    exact Tx.shw_inj (List.cons.inj (List.cons.inj e).2).1
  · rw [if_pos c, if_neg c'] at e; cases e
  · rw [if_neg c, if_pos c'] at e; cases e
  · omega
/-- no number by b -/
noncomputable def BadW (b : Int) (w : Str) : Prop := ∀ x : Int, x.natAbs < 10 ^ 60 → IsNum b x → w ≠ Tx.shw x
theorem noW_both {b : Int} {A S : List Str} {w : Str} (hb : 0 ≤ b) (hl : S.length = A.length) (hw : w ∈ A ∨ w ∈ S) (hbad : BadW b w) : NoW (A ++ Tx.bar :: (S ++ Tx.byPart b)) := noW_size fun r t e1 e2 => by
  have l1 := congrArg List.length e1
  rw [List.length_map] at l1
  have hlen := t.len
  obtain ⟨e3, e4⟩ := List.append_inj e2 (by rw [List.length_map]; omega)
  have eb := byPart_inj hb (byV_range t.byv).1 e4
  rcases hw with z | z
  · rw [e1] at z
    obtain ⟨x, hx, ex⟩ := List.mem_map.mp z
    exact hbad x (t.ruleBd x hx) (eb ▸ t.ruleNum x hx) ex.symm
  · rw [e3] at z
    obtain ⟨x, hx, ex⟩ := List.mem_map.mp z
    exact hbad x (t.startsBd x hx) (eb ▸ t.startsNum x hx) ex.symm
theorem noW_byw {A S : List Str} {w : Str} (hl : S.length = A.length) (h : ∀ b : Int, 0 < b → byV (.int b) = true → w ≠ Tx.shw b) : NoW (A ++ Tx.bar :: (S ++ [Tx.byS, w])) := noW_size fun r t e1 e2 => by
  have l1 := congrArg List.length e1
  rw [List.length_map] at l1
  have hlen := t.len
  obtain ⟨e3, e4⟩ := List.append_inj e2 (by rw [List.length_map]; omega)
  unfold Tx.byPart at e4
  split at e4
  · rename_i c
    exact h r.b c t.byv (List.cons.inj (List.cons.inj e4).2).1
  · cases e4
theorem badW_wr {b : Int} {w : Str} (h : ¬ Tx.Wr w) : BadW b w := fun x hx _ e => h (e ▸ Tx.wr_shw hx)
theorem wr_signs {w : Str} (h : Tx.Wr w) : ∀ c ∈ w.cps.toList, c = 45 ∨ (48 ≤ c ∧ c ≤ 57) := by
  obtain ⟨n, _, e, _⟩ := h.reads
  rw [← e]
  exact Tx.shw_signs n
theorem no_wr {w : Str} {c : Nat} (hc : c ∈ w.cps.toList) (h : ¬ (c = 45 ∨ (48 ≤ c ∧ c ≤ 57))) : ¬ Tx.Wr w := fun z => h (wr_signs z c hc)
/-! join -/
theorem join_cons (s p : Str) {l : List Str} (h : l ≠ []) : PySem.Str.join s (p :: l) = p ++ s ++ PySem.Str.join s l := by
  cases l with
  | nil => exact absurd rfl h
  | cons q r => rfl
theorem str_assoc (a b c : Str) : a ++ b ++ c = a ++ (b ++ c) := PySem.Str.ext' (by simp only [PySem.Str.cps_append, Array.append_assoc])
theorem join_mid (s x y : Str) (B : List Str) : ∀ A : List Str, PySem.Str.join s (A ++ (x ++ s ++ y) :: B) = PySem.Str.join s (A ++ x :: y :: B)
  | [] => by
    cases B with
    | nil => rfl
    | cons c r =>
      show (x ++ s ++ y) ++ s ++ PySem.Str.join s (c :: r) = x ++ s ++ (y ++ s ++ PySem.Str.join s (c :: r))
      simp only [str_assoc]
  | a :: A => by
    rw [List.cons_append, List.cons_append, join_cons s a (by simp), join_cons s a (by simp), join_mid s x y B A]
/-- between any two an empty one -/
noncomputable def il : List Str → List Str
  | [] => []
  | [p] => [p]
  | p :: q :: r => p :: ⟨#[]⟩ :: il (q :: r)
theorem il_ne : ∀ {ws : List Str}, ws ≠ [] → il ws ≠ []
  | [], h => absurd rfl h
  | [_], _ => by simp [il]
  | _ :: _ :: _, _ => by simp [il]
theorem str_nil (a : Str) : (⟨#[]⟩ : Str) ++ a = a := PySem.Str.ext' (by simp only [PySem.Str.cps_append]; simp)
theorem join_il (s : Str) : ∀ ws : List Str, PySem.Str.join (s ++ s) ws = PySem.Str.join s (il ws)
  | [] => rfl
  | [_] => rfl
  | p :: q :: r => by
    have ih := join_il s (q :: r)
    show p ++ (s ++ s) ++ PySem.Str.join (s ++ s) (q :: r) = _
    rw [il, join_cons s p (by simp), join_cons s _ (il_ne (by simp)), ih, str_nil]
    simp only [str_assoc]
theorem mem_il : ∀ {ws : List Str} {w : Str}, w ∈ il ws → w = ⟨#[]⟩ ∨ w ∈ ws
  | [], _, h => by simp [il] at h
  | [p], _, h => by simp [il] at h; exact .inr (by simp [h])
  | p :: q :: r, w, h => by
    rw [il] at h
    rcases List.mem_cons.mp h with h | h
    · exact .inr (by simp [h])
    · rcases List.mem_cons.mp h with h | h
      · exact .inl h
      · rcases mem_il h with z | z
        · exact .inl z
        · exact .inr (List.mem_cons_of_mem _ z)
theorem rep_join {x y : Str} (z : Str) (hy : 1 ≤ y.length) (h : 2 ≤ (PySem.Txt.split x y).length) : PySem.Txt.replace x y z = PySem.Str.join z (PySem.Txt.split x y) := by
  unfold PySem.Txt.split at h ⊢
  unfold PySem.Txt.replace
  split at h
  · simp at h
  · rename_i h1
    rw [if_neg h1]
    split at h
    · simp at h
    · rename_i h2
      rw [if_neg h2, if_neg (by
        rw [Bool.or_eq_true, Bool.and_eq_true, beq_iff_eq]
        rintro (c | c)
        · exact h2 c
        · omega), PySem.StrLaws.glued_eq_join]
/-! signs -/
theorem mem_jn {c : Nat} : ∀ {ps : List (List Nat)} {x : Nat}, x ∈ Tx.jn c ps → x = c ∨ ∃ p ∈ ps, x ∈ p
  | [], _, h => by simp [Tx.jn] at h
  | [p], x, h => .inr ⟨p, by simp, h⟩
  | p :: q :: r, x, h => by
    rcases List.mem_append.mp (show x ∈ p ++ c :: Tx.jn c (q :: r) from h) with h | h
    · exact .inr ⟨p, by simp, h⟩
    · rcases List.mem_cons.mp h with h | h
      · exact .inl h
      · rcases mem_jn h with z | ⟨p', hp', z⟩
        · exact .inl z
        · exact .inr ⟨p', List.mem_cons_of_mem _ hp', z⟩
noncomputable def Sgn (c : Nat) : Prop := c = 32 ∨ c = 124 ∨ c = 98 ∨ c = 121 ∨ c = 45 ∨ (48 ≤ c ∧ c ≤ 57)
theorem txt_signs (r : Rw) : ∀ c ∈ (txt r).cps.toList, Sgn c := fun c hc => by
  unfold txt Tx.textOf at hc
  rw [Tx.join_jn] at hc
  rcases mem_jn hc with z | ⟨p, hp, z⟩
  · exact .inl z
  · obtain ⟨w, hw, rfl⟩ := List.mem_map.mp hp
    rcases Tx.words_mem hw with e | e | ⟨n, e⟩
    · subst e; simp [Tx.bar, Tx.one] at z; unfold Sgn; omega
    · subst e; simp [Tx.byS] at z; unfold Sgn; omega
    · subst e
      have := Tx.shw_signs n c z
      unfold Sgn; omega
theorem noTxt_sign {t : Str} {c : Nat} (hc : c ∈ t.cps.toList) (h : ¬ Sgn c) : NoTxt t := fun r _ e => h (txt_signs r c (e ▸ hc))
theorem count_jn {c x : Nat} (hx : x ≠ c) : ∀ ps : List (List Nat), (Tx.jn c ps).count x = (ps.map fun p => p.count x).sum
  | [] => rfl
  | [p] => by simp [Tx.jn]
  | p :: q :: r => by
    have ih := count_jn hx (q :: r)
    show (p ++ c :: Tx.jn c (q :: r)).count x = _
    rw [List.count_append, List.count_cons_of_ne (Ne.symm hx), ih]
    simp
theorem sum_none {x : Nat} : ∀ {ps : List (List Nat)}, (∀ p ∈ ps, x ∉ p) → (ps.map fun p => p.count x).sum = 0
  | [], _ => rfl
  | p :: r, h => by
    rw [List.map_cons, List.sum_cons, List.count_eq_zero_of_not_mem (h p (by simp)), sum_none fun q hq => h q (List.mem_cons_of_mem _ hq)]
theorem no124 (n : Int) : 124 ∉ (Tx.shw n).cps.toList := fun h => by have := Tx.shw_signs n 124 h; omega
theorem txt_bars (r : Rw) : (txt r).cps.toList.count 124 = 1 := by
  unfold txt Tx.textOf
  rw [Tx.join_jn, count_jn (by decide)]
  unfold Tx.wordsOf
  rw [List.map_append, List.map_append, List.sum_append, List.map_cons, List.map_cons, List.sum_cons, sum_none, sum_none]
  · decide
  · intro p hp
    obtain ⟨w, hw, rfl⟩ := List.mem_map.mp hp
    rcases List.mem_append.mp hw with h | h
    · obtain ⟨n, _, rfl⟩ := List.mem_map.mp h
      exact no124 n
    · rcases Tx.mem_by h with h | h
      · rw [h]; decide
      · rw [h]; exact no124 _
  · intro p hp
    obtain ⟨w, hw, rfl⟩ := List.mem_map.mp hp
    obtain ⟨n, _, rfl⟩ := List.mem_map.mp hw
    exact no124 n
theorem noTxt_bars {t : Str} (h : t.cps.toList.count 124 ≠ 1) : NoTxt t := fun r _ e => h (e ▸ txt_bars r)
theorem bar_two (r : Rw) : ∃ a b : Str, PySem.Txt.split (txt r) (Tx.one 124) = [a, b] ∧ 124 ∉ a.cps.toList ∧ 124 ∉ b.cps.toList := by
  have hc := txt_bars r
  have hm : 124 ∈ (txt r).cps.toList := List.count_pos_iff.mp (by rw [hc]; decide)
  obtain ⟨a, b, e⟩ := List.append_of_mem hm
  rw [e, List.count_append, List.count_cons_self] at hc
  have ha : 124 ∉ a := fun z => by have := List.count_pos_iff.mpr z; omega
  have hb : 124 ∉ b := fun z => by have := List.count_pos_iff.mpr z; omega
  refine ⟨⟨a.toArray⟩, ⟨b.toArray⟩, ?_, by simpa using ha, by simpa using hb⟩
  have ej : PySem.Str.join (Tx.one 124) [⟨a.toArray⟩, ⟨b.toArray⟩] = txt r := PySem.Str.ext' (Array.toList_inj.mp (by rw [Tx.join_jn, e]; rfl))
  rw [← ej]
  exact Tx.split_join (by decide) (by simp) (by
    intro w hw
    simp only [List.mem_cons, List.not_mem_nil, or_false] at hw
    rcases hw with rfl | rfl
    · simpa using ha
    · simpa using hb)
theorem rep_bar (r : Rw) (z : Str) : (PySem.Txt.replace (txt r) (Tx.one 124) z).cps.toList.count 124 = z.cps.toList.count 124 := by
  obtain ⟨a, b, e, ha, hb⟩ := bar_two r
  rw [rep_join z (by decide) (by rw [e]; exact Nat.le_refl _), e]
  show (a ++ z ++ b).cps.toList.count 124 = _
  rw [PySem.Str.cps_append, PySem.Str.cps_append]
  simp only [Array.toList_append, List.count_append]
  rw [List.count_eq_zero_of_not_mem ha, List.count_eq_zero_of_not_mem hb]
  omega
theorem no_wr_nil : ¬ Tx.Wr ⟨#[]⟩ := fun h => by have := ((Tx.wr_iff _).mp h).1; exact absurd this (by decide)
theorem rep_sp {r : Rw} : NoTxt (PySem.Txt.replace (txt r) (Tx.one 32) (Tx.one 32 ++ Tx.one 32)) ∨ r.rule = [] := by
  by_cases c : r.rule = []
  · exact .inr c
  left
  have h2 : 2 ≤ (Tx.wordsOf r.b r.rule r.starts).length := by
    have := List.length_pos_iff.mpr c
    unfold Tx.wordsOf
    rw [List.length_append, List.length_map, List.length_cons]
    omega
  rw [rep_join _ (by decide) (by rw [split_txt]; exact h2), split_txt, join_il]
  refine noTxt_join (il_ne Tx.words_ne) (fun w hw => ?_) (noW_word (w := ⟨#[]⟩) ?_ (by decide) (by decide) no_wr_nil)
  · rcases mem_il hw with e | e
    · rw [e]; simp
    · exact Tx.words_clean w e
  · obtain ⟨p, q, l, e⟩ : ∃ p q l, Tx.wordsOf r.b r.rule r.starts = p :: q :: l := by
      cases h : Tx.wordsOf r.b r.rule r.starts with
      | nil => rw [h] at h2; simp at h2
      | cons p l =>
        cases l with
        | nil => rw [h] at h2; simp at h2
        | cons q l => exact ⟨p, q, l, rfl⟩
    rw [e, il]; simp
/-! ### words that are no numbers -/
theorem cl_shw (n : Int) : 32 ∉ (Tx.shw n).cps.toList := fun h => by have := Tx.shw_signs n 32 h; omega
theorem cl_app {a b : Str} (ha : 32 ∉ a.cps.toList) (hb : 32 ∉ b.cps.toList) : 32 ∉ (a ++ b).cps.toList := by
  rw [PySem.Str.cps_append, Array.toList_append]
  exact fun h => (List.mem_append.mp h).elim ha hb
theorem mem_appL {a b : Str} {c : Nat} (h : c ∈ a.cps.toList) : c ∈ (a ++ b).cps.toList := by
  rw [PySem.Str.cps_append, Array.toList_append]; exact List.mem_append_left _ h
theorem mem_appR {a b : Str} {c : Nat} (h : c ∈ b.cps.toList) : c ∈ (a ++ b).cps.toList := by
  rw [PySem.Str.cps_append, Array.toList_append]; exact List.mem_append_right _ h
theorem no_wr_0 {w : Str} {c : Nat} {l : List Nat} (h : w.cps.toList = 48 :: c :: l) : ¬ Tx.Wr w := fun z => by
  have := ((Tx.wr_iff w).mp z).2.2.2
  unfold Tx.fgs at this
  rw [h] at this
  rcases this with e | e
  · simp at e
  · exact e (by simp)
theorem no_wr_m0 {w : Str} {l : List Nat} (h : w.cps.toList = 45 :: 48 :: l) : ¬ Tx.Wr w := fun z => by
  have := ((Tx.wr_iff w).mp z).2.2.2
  unfold Tx.fgs at this
  rw [h] at this
  rcases this with e | e
  · simp at e
  · exact e (by simp)
noncomputable def sixty : Str := ⟨(List.replicate 60 (PySem.Str.ofString "0").cps).foldl (· ++ ·) #[]⟩
theorem sixty_len : sixty.length = 60 := by decide +kernel
theorem no_wr_61 : ¬ Tx.Wr (PySem.Str.ofString "1" ++ sixty) := fun z => by
  have := ((Tx.wr_iff _).mp z).2.1
  exact absurd this (by decide +kernel)
theorem cl_61 : 32 ∉ (PySem.Str.ofString "1" ++ sixty).cps.toList := by decide +kernel
theorem shw_ne (n : Int) : ∃ c l, (Tx.shw n).cps.toList = c :: l := by
  by_cases h : 0 ≤ n
  · obtain ⟨m, rfl⟩ := Int.eq_ofNat_of_zero_le h
    rw [Tx.shw_nat]
    cases e : Tx.fig m with
    | nil => exact absurd e (Tx.fig_ne m)
    | cons c l => exact ⟨c, l, rfl⟩
  · have e := Tx.shw_neg (m := n.natAbs) (by omega)
    rw [show -((n.natAbs : Nat) : Int) = n by omega] at e
    exact ⟨_, _, e⟩
theorem badW_ge {b k : Int} (hb : 0 < b) (hk : k < 0 ∨ b ≤ k) : BadW b (Tx.shw k) := fun x _ hn e => by
  have := Tx.shw_inj e
  subst this
  rcases hn with z | z <;> omega
noncomputable def BadWd (b : Int) (w : Str) : Prop := w.length ≤ 200 ∧ (w = Tx.bar ∨ (32 ∉ w.cps.toList ∧ BadW b w) ∨ ∃ y : Str, 32 ∉ y.cps.toList ∧ w = Tx.one 45 ++ Tx.one 32 ++ y)
theorem bad_12 {b x : Int} (hx : x.natAbs < 10 ^ 60) : ∀ w ∈ [PySem.Str.ofString "0" ++ Tx.shw x, PySem.Str.ofString "-0", PySem.Str.ofString "1" ++ sixty, Tx.shw x ++ PySem.Str.ofString "x", PySem.Str.ofString "", PySem.Str.ofString "+" ++ Tx.shw x, Tx.shw x ++ PySem.Str.ofString ".0", PySem.Str.ofString "1_0", PySem.Str.ofString "--1", PySem.Str.ofString "one", PySem.Str.ofString "|", PySem.Str.ofString "by"], BadWd b w := by
  have hl := shw_len hx
  have hc := cl_shw x
  have la : ∀ a b : Str, (a ++ b).length = a.length + b.length := PySem.Str.length_append
  have lit : ∀ w : Str, w.length ≤ 200 → 32 ∉ w.cps.toList → ¬ Tx.Wr w → BadWd b w := fun w h1 h2 h3 => ⟨h1, .inr (.inl ⟨h2, badW_wr h3⟩)⟩
  intro w hw
  simp only [List.mem_cons, List.not_mem_nil, or_false] at hw
  rcases hw with rfl | rfl | rfl | rfl | rfl | rfl | rfl | rfl | rfl | rfl | rfl | rfl
  · obtain ⟨c, l, e⟩ := shw_ne x
    refine lit _ (by rw [la, show (PySem.Str.ofString "0").length = 1 by decide +kernel]; omega) (cl_app (by decide +kernel) hc) (no_wr_0 (c := c) (l := l) ?_)
    rw [PySem.Str.cps_append, Array.toList_append, e, lit_0]; rfl
  · exact lit _ (by decide +kernel) (by decide +kernel) fun z => absurd ((Tx.wr_iff _).mp z) (by decide +kernel)
  · exact lit _ (by rw [la, sixty_len]; decide +kernel) cl_61 no_wr_61
  · exact lit _ (by rw [la, show (PySem.Str.ofString "x").length = 1 by decide +kernel]; omega) (cl_app hc (by decide +kernel)) (no_wr (c := 120) (mem_appR (by decide +kernel)) (by decide))
  · exact lit _ (by decide +kernel) (by decide +kernel) fun z => absurd ((Tx.wr_iff _).mp z) (by decide +kernel)
  · exact lit _ (by rw [la, show (PySem.Str.ofString "+").length = 1 by decide +kernel]; omega) (cl_app (by decide +kernel) hc) (no_wr (c := 43) (mem_appL (by decide +kernel)) (by decide))
  · exact lit _ (by rw [la, show (PySem.Str.ofString ".0").length = 2 by decide +kernel]; omega) (cl_app hc (by decide +kernel)) (no_wr (c := 46) (mem_appR (by decide +kernel)) (by decide))
  · exact lit _ (by decide +kernel) (by decide +kernel) fun z => absurd ((Tx.wr_iff _).mp z) (by decide +kernel)
  · exact lit _ (by decide +kernel) (by decide +kernel) fun z => absurd ((Tx.wr_iff _).mp z) (by decide +kernel)
  · exact lit _ (by decide +kernel) (by decide +kernel) fun z => absurd ((Tx.wr_iff _).mp z) (by decide +kernel)
  · exact ⟨by decide +kernel, .inl lit_bar⟩
  · exact lit _ (by decide +kernel) (by decide +kernel) fun z => absurd ((Tx.wr_iff _).mp z) (by decide +kernel)
theorem lit_m1 : PySem.Str.ofString "-1" = Tx.shw (-1) := by decide +kernel
theorem bad_3 {b n : Int} (hb : 0 < b) (hb2 : b < 1000) (hn : 0 ≤ n) (hn2 : n < 2147483647) : ∀ w ∈ [Tx.shw b, PySem.Str.ofString "-1", Tx.shw (b + n)], BadWd b w := by
  have l60 : (2147484647 : Nat) < 10 ^ 60 := by decide +kernel
  intro w hw
  simp only [List.mem_cons, List.not_mem_nil, or_false] at hw
  rcases hw with rfl | rfl | rfl
  · exact ⟨Nat.le_trans (shw_len (Nat.lt_trans (show b.natAbs < 2147484647 by omega) l60)) (by decide), .inr (.inl ⟨cl_shw _, badW_ge hb (.inr (Int.le_refl _))⟩)⟩
  · rw [lit_m1]
    exact ⟨Nat.le_trans (shw_len (by decide +kernel)) (by decide), .inr (.inl ⟨cl_shw _, badW_ge hb (.inl (by decide))⟩)⟩
  · exact ⟨Nat.le_trans (shw_len (Nat.lt_trans (show (b + n).natAbs < 2147484647 by omega) l60)) (by decide), .inr (.inl ⟨cl_shw _, badW_ge hb (.inr (by omega))⟩)⟩
theorem bad_2 {b x : Int} (hx : x.natAbs < 10 ^ 60) : ∀ w ∈ [PySem.Str.ofString "-0" ++ PySem.Txt.slice (Tx.shw x) (some 1) none, PySem.Str.ofString "- " ++ PySem.Txt.slice (Tx.shw x) (some 1) none], BadWd b w := by
  have hl := shw_len hx
  have hs : (PySem.Txt.slice (Tx.shw x) (some 1) none).length ≤ (Tx.shw x).length := PySem.Txt.slice_le _ _ _
  have hc : 32 ∉ (PySem.Txt.slice (Tx.shw x) (some 1) none).cps.toList := by
    have := Tx.slice_from (Tx.shw x) 1
    rw [show (PySem.Txt.slice (Tx.shw x) (some 1) none).cps.toList = (Tx.shw x).cps.toList.drop 1 from this]
    exact fun z => cl_shw x (List.mem_of_mem_drop z)
  have la : ∀ a b : Str, (a ++ b).length = a.length + b.length := PySem.Str.length_append
  generalize PySem.Txt.slice (Tx.shw x) (some 1) none = y at hs hc
  intro w hw
  simp only [List.mem_cons, List.not_mem_nil, or_false] at hw
  rcases hw with rfl | rfl
  · refine ⟨by rw [la, show (PySem.Str.ofString "-0").length = 2 by decide +kernel]; omega, .inr (.inl ⟨cl_app (by decide +kernel) hc, badW_wr (no_wr_m0 (l := y.cps.toList) ?_)⟩)⟩
    rw [PySem.Str.cps_append, Array.toList_append, show (PySem.Str.ofString "-0").cps.toList = [45, 48] by decide +kernel]; rfl
  · refine ⟨by rw [la, show (PySem.Str.ofString "- ").length = 2 by decide +kernel]; omega, .inr (.inr ⟨y, hc, ?_⟩)⟩
    rw [show PySem.Str.ofString "- " = Tx.one 45 ++ Tx.one 32 by decide +kernel]
/-- what read refuses -/
noncomputable def Bad (H : Hp) (v : V) : Prop := (∃ T : String, tyNm H v = some T ∧ T ≠ "str") ∨ ∃ t : Str, v = .str t ∧ t.length ≤ 100000 ∧ NoTxt t
theorem spRead_bad {C : Addr} {H : Hp} {v : V} {Q : VK} {E : XK} (hB : Bad H v) (q : ∀ H', Same H H' → E (.ref C) none H') : spRead C [v] H Q E := by
  rcases hB with ⟨T, hT, hne⟩ | ⟨t, rfl, ht, hno⟩
  · exact .inl ⟨v, T, rfl, hT, hne, q⟩
  · exact .inr ⟨t, rfl, ht, fun v r H' _ _ t8 e => absurd e (hno r t8), fun _ => q⟩
noncomputable def spRef9 : Sp := fun vs H Q _ => ∃ v, vs = [v] ∧ Bad H v ∧ ∀ H', Same H H' → Q (.bl true) H'
noncomputable def spBadWord : Sp := fun vs H Q _ => ∃ (v : V) (r : Rw) (x n : Int), vs = [v, .str (Tx.shw x), .int n] ∧ RowIs H v r ∧ T8 r ∧ x.natAbs < 10 ^ 60 ∧ 0 ≤ n ∧ n < 2147483647 ∧ ∀ w H', Same H H' → BadWd r.b w → Q (.str w) H'
theorem memW {b : Int} {ws : List Str} {k : Int} (hW : ∀ w ∈ ws, BadWd b w) (h0 : 0 ≤ k) (h1 : k < ws.length) : ∃ w, atI (ws.map V.str) k = some (.str w) ∧ BadWd b w := by
  obtain ⟨j, rfl⟩ := Int.eq_ofNat_of_zero_le h0
  have hj : j < ws.length := by omega
  exact ⟨ws[j], atI_nat (by rw [List.getElem?_map, List.getElem?_eq_getElem hj]; rfl), hW _ (List.getElem_mem hj)⟩
/-! ### bad bys -/
theorem memP {P : Str → Prop} {ws : List Str} {k : Int} (hW : ∀ w ∈ ws, P w) (h0 : 0 ≤ k) (h1 : k < ws.length) : ∃ w, atI (ws.map V.str) k = some (.str w) ∧ P w := by
  obtain ⟨j, rfl⟩ := Int.eq_ofNat_of_zero_le h0
  have hj : j < ws.length := by omega
  exact ⟨ws[j], atI_nat (by rw [List.getElem?_map, List.getElem?_eq_getElem hj]; rfl), hW _ (List.getElem_mem hj)⟩
theorem join_len {ws : List Str} (h : ∀ w ∈ ws, w.length ≤ 200) (hl : ws.length ≤ 60) : PySem.JoinOk (Tx.one 32) ws = true ∧ (PySem.Str.join (Tx.one 32) ws).length ≤ 50000 := by
  have e : (Tx.one 32).length = 1 := rfl
  have h2 := PySem.StrLaws.sumLen_le (B := 200) _ h
  have h1 := PySem.StrLaws.join_length_le (Tx.one 32) ws
  rw [e] at h1
  refine ⟨?_, by omega⟩
  unfold PySem.JoinOk
  rw [PySem.StrLaws.joinFits (B := 200) h (by rw [e]; omega)]
  rfl
noncomputable def BadBy (w : Str) : Prop := w.length ≤ 200 ∧ ((32 ∉ w.cps.toList ∧ ∀ b : Int, 0 < b → byV (.int b) = true → w ≠ Tx.shw b) ∨ w = Tx.one 55 ++ Tx.one 32 ++ Tx.one 55 ∨ w = Tx.one 55 ++ Tx.one 32 ++ (Tx.byS ++ Tx.one 32 ++ Tx.one 55))
theorem by_num {w : Str} {k : Int} (e : w = Tx.shw k) (h : k ≤ 0 ∨ byV (.int k) = false) : ∀ b : Int, 0 < b → byV (.int b) = true → w ≠ Tx.shw b := fun b h0 hb e2 => by
  have := Tx.shw_inj (e ▸ e2)
  subst this
  rcases h with z | z
  · omega
  · rw [hb] at z; cases z
theorem by_wr {w : Str} (h : ¬ Tx.Wr w) : ∀ b : Int, 0 < b → byV (.int b) = true → w ≠ Tx.shw b := fun b _ hb e => by
  have := byV_range hb
  exact h (e ▸ Tx.wr_shw (Nat.lt_of_lt_of_le (show b.natAbs < 1000 by omega) (by decide +kernel)))
noncomputable def badBys : List Str := [PySem.Str.ofString "0", PySem.Str.ofString "1", PySem.Str.ofString "4", PySem.Str.ofString "1000", PySem.Str.ofString "1009", PySem.Str.ofString "07", PySem.Str.ofString "-7", PySem.Str.ofString "7.", PySem.Str.ofString "", PySem.Str.ofString "x", PySem.Str.ofString "7 7", PySem.Str.ofString "7 by 7", PySem.Str.ofString "91", PySem.Str.ofString "1" ++ sixty]
theorem bad_bys : ∀ w ∈ badBys, BadBy w := by
  intro w hw
  unfold badBys at hw
  simp only [List.mem_cons, List.not_mem_nil, or_false] at hw
  have num : ∀ (w : Str) (k : Int), w.length ≤ 200 → 32 ∉ w.cps.toList → w = Tx.shw k → (k ≤ 0 ∨ byV (.int k) = false) → BadBy w := fun w k h1 h2 h3 h4 => ⟨h1, .inl ⟨h2, by_num h3 h4⟩⟩
  have lit : ∀ w : Str, w.length ≤ 200 → 32 ∉ w.cps.toList → ¬ Tx.Wr w → BadBy w := fun w h1 h2 h3 => ⟨h1, .inl ⟨h2, by_wr h3⟩⟩
  rcases hw with rfl | rfl | rfl | rfl | rfl | rfl | rfl | rfl | rfl | rfl | rfl | rfl | rfl | rfl
  · exact num _ 0 (by decide +kernel) (by decide +kernel) (by decide +kernel) (.inl (by decide))
  · exact num _ 1 (by decide +kernel) (by decide +kernel) (by decide +kernel) (.inr (by decide +kernel))
  · exact num _ 4 (by decide +kernel) (by decide +kernel) (by decide +kernel) (.inr (by decide +kernel))
  · exact num _ 1000 (by decide +kernel) (by decide +kernel) (by decide +kernel) (.inr (by decide +kernel))
  · exact num _ 1009 (by decide +kernel) (by decide +kernel) (by decide +kernel) (.inr (by decide +kernel))
  · exact lit _ (by decide +kernel) (by decide +kernel) fun z => absurd ((Tx.wr_iff _).mp z) (by decide +kernel)
  · exact num _ (-7) (by decide +kernel) (by decide +kernel) (by decide +kernel) (.inl (by decide))
  · exact lit _ (by decide +kernel) (by decide +kernel) fun z => absurd ((Tx.wr_iff _).mp z) (by decide +kernel)
  · exact lit _ (by decide +kernel) (by decide +kernel) fun z => absurd ((Tx.wr_iff _).mp z) (by decide +kernel)
  · exact lit _ (by decide +kernel) (by decide +kernel) fun z => absurd ((Tx.wr_iff _).mp z) (by decide +kernel)
  · exact ⟨by decide +kernel, .inr (.inl (by decide +kernel))⟩
  · exact ⟨by decide +kernel, .inr (.inr (by decide +kernel))⟩
  · exact num _ 91 (by decide +kernel) (by decide +kernel) (by decide +kernel) (.inr (by decide +kernel))
  · exact lit _ (by decide +kernel) cl_61 no_wr_61
theorem noTxt_by {A S : List Str} {w : Str} (hl : S.length = A.length) (hc : ∀ x ∈ A ++ Tx.bar :: S, 32 ∉ x.cps.toList) (hw : BadBy w) : NoTxt (PySem.Str.join (Tx.one 32) ((A ++ Tx.bar :: S) ++ [Tx.byS, w])) := by
  have hby : 32 ∉ Tx.byS.cps.toList := by decide
  have h7 : 32 ∉ (Tx.one 55).cps.toList := by decide
  have e1 : ∀ l : List Str, (A ++ Tx.bar :: S) ++ l = A ++ Tx.bar :: (S ++ l) := fun l => by rw [List.append_assoc, List.cons_append]
  have cl : ∀ l : List Str, (∀ x ∈ l, 32 ∉ x.cps.toList) → ∀ x ∈ (A ++ Tx.bar :: S) ++ l, 32 ∉ x.cps.toList := fun l h x hx => (List.mem_append.mp hx).elim (hc x) (h x)
  rcases hw.2 with ⟨h1, h2⟩ | rfl | rfl
  · refine noTxt_join (by simp) (cl _ ?_) ?_
    · intro x hx
      simp only [List.mem_cons, List.not_mem_nil, or_false] at hx
      rcases hx with rfl | rfl
      · exact hby
      · exact h1
    · rw [e1]; exact noW_byw hl h2
  · have e2 := join_mid (Tx.one 32) (Tx.one 55) (Tx.one 55) [] ((A ++ Tx.bar :: S) ++ [Tx.byS])
    rw [List.append_assoc (A ++ Tx.bar :: S), List.append_assoc (A ++ Tx.bar :: S)] at e2
    rw [show (A ++ Tx.bar :: S) ++ [Tx.byS, Tx.one 55 ++ Tx.one 32 ++ Tx.one 55] = (A ++ Tx.bar :: S) ++ ([Tx.byS] ++ [Tx.one 55 ++ Tx.one 32 ++ Tx.one 55]) from rfl, e2]
    refine noTxt_join (by simp) (cl _ ?_) ?_
    · intro x hx
      simp only [List.mem_append, List.mem_cons, List.not_mem_nil, or_false] at hx
      rcases hx with rfl | rfl | rfl
      · exact hby
      · exact h7
      · exact h7
    · rw [e1]
      exact noW_len (by simp; omega) (by simp; omega)
  · have e2 := join_mid (Tx.one 32) (Tx.one 55) (Tx.byS ++ Tx.one 32 ++ Tx.one 55) [] ((A ++ Tx.bar :: S) ++ [Tx.byS])
    have e3 := join_mid (Tx.one 32) Tx.byS (Tx.one 55) [] ((A ++ Tx.bar :: S) ++ [Tx.byS, Tx.one 55])
    rw [List.append_assoc (A ++ Tx.bar :: S), List.append_assoc (A ++ Tx.bar :: S)] at e2 e3
    rw [show (A ++ Tx.bar :: S) ++ [Tx.byS, Tx.one 55 ++ Tx.one 32 ++ (Tx.byS ++ Tx.one 32 ++ Tx.one 55)] = (A ++ Tx.bar :: S) ++ ([Tx.byS] ++ [Tx.one 55 ++ Tx.one 32 ++ (Tx.byS ++ Tx.one 32 ++ Tx.one 55)]) from rfl, e2]
    rw [show [Tx.byS] ++ [Tx.one 55, Tx.byS ++ Tx.one 32 ++ Tx.one 55] = [Tx.byS, Tx.one 55] ++ [Tx.byS ++ Tx.one 32 ++ Tx.one 55] from rfl, e3]
    refine noTxt_join (by simp) (cl _ ?_) ?_
    · intro x hx
      simp only [List.mem_append, List.mem_cons, List.not_mem_nil, or_false] at hx
      rcases hx with (rfl | rfl) | rfl | rfl
      · exact hby
      · exact h7
      · exact hby
      · exact h7
    · rw [e1]
      exact noW_len (by simp; omega) (by simp; omega)
noncomputable def spBadBy : Sp := fun vs H Q _ => ∃ (l : Addr) (A S : List Str) (n : Int), vs = [.ref l, .int n] ∧ H l = some (.lst ((A ++ Tx.bar :: S).map V.str)) ∧ S.length = A.length ∧ A.length ≤ 12 ∧ (∀ w ∈ A ++ Tx.bar :: S, 32 ∉ w.cps.toList ∧ w.length ≤ 200) ∧ ∀ (t : Str) H', Same H H' → t.length ≤ 50000 → NoTxt t → Q (.str t) H'
/-! ### lists of words that are no row's -/
noncomputable def Cl (w : Str) : Prop := 32 ∉ w.cps.toList ∧ w.length ≤ 200
structure Fine (ws : List Str) : Prop where
  ne : ws ≠ []
  cl : ∀ w ∈ ws, Cl w
  few : ws.length ≤ 60
  no : NoW ws
theorem Fine.bad {ws : List Str} (h : Fine ws) : PySem.JoinOk (Tx.one 32) ws = true ∧ (PySem.Str.join (Tx.one 32) ws).length ≤ 50000 ∧ NoTxt (PySem.Str.join (Tx.one 32) ws) :=
  ⟨(join_len (fun w hw => (h.cl w hw).2) h.few).1, (join_len (fun w hw => (h.cl w hw).2) h.few).2, noTxt_join h.ne (fun w hw => (h.cl w hw).1) h.no⟩
structure Ws (A S T : List Str) : Prop where
  len : S.length = A.length
  pos : 0 < A.length
  few : A.length ≤ 12
  tl : T = [] ∨ ∃ w, T = [Tx.byS, w]
  cl : ∀ w ∈ A ++ Tx.bar :: (S ++ T), Cl w
  cnt : (A ++ Tx.bar :: (S ++ T)).count Tx.bar = 1
theorem T8.ws {r : Rw} (t : T8 r) (h : 0 < r.rule.length) : Ws (r.rule.map Tx.shw) (r.starts.map Tx.shw) (Tx.byPart r.b) := by
  refine ⟨by rw [List.length_map, List.length_map, t.len], by rw [List.length_map]; exact h, by rw [List.length_map]; exact t.short, ?_, fun w hw => ⟨Tx.words_clean w hw, Nat.le_trans (t.words w hw) (by decide)⟩, Tx.count_words _ _ _⟩
  unfold Tx.byPart
  split
  · exact .inr ⟨_, rfl⟩
  · exact .inl rfl
theorem cl_0 : Cl (PySem.Str.ofString "0") := by unfold Cl; decide +kernel
theorem cl_bar : Cl Tx.bar := by unfold Cl; decide +kernel
theorem cl_by : Cl Tx.byS := by unfold Cl; decide +kernel
theorem cl_nil : Cl ⟨#[]⟩ := by unfold Cl; decide +kernel
theorem cl_app2 {X Y : List Str} (h1 : ∀ w ∈ X, Cl w) (h2 : ∀ w ∈ Y, Cl w) : ∀ w ∈ X ++ Y, Cl w := fun w hw => (List.mem_append.mp hw).elim (h1 w) (h2 w)
theorem cl_one {x : Str} (h : Cl x) : ∀ w ∈ [x], Cl w := fun w hw => by rw [List.mem_singleton.mp hw]; exact h
section
variable {A S T : List Str} (h : Ws A S T)
include h
theorem Ws.cA : ∀ w ∈ A, Cl w := fun w hw => h.cl w (List.mem_append_left _ hw)
theorem Ws.cS : ∀ w ∈ S, Cl w := fun w hw => h.cl w (List.mem_append_right _ (List.mem_cons_of_mem _ (List.mem_append_left _ hw)))
theorem Ws.cT : ∀ w ∈ T, Cl w := fun w hw => h.cl w (List.mem_append_right _ (List.mem_cons_of_mem _ (List.mem_append_right _ hw)))
theorem Ws.cH : ∀ w ∈ A ++ Tx.bar :: S, Cl w := cl_app2 h.cA fun w hw => (List.mem_cons.mp hw).elim (fun e => e ▸ cl_bar) (h.cS w)
theorem Ws.tlen : T.length = 0 ∨ T.length = 2 := by
  rcases h.tl with e | ⟨w, e⟩
  · exact .inl (by rw [e]; rfl)
  · exact .inr (by rw [e]; rfl)
theorem Ws.half : (A ++ Tx.bar :: (S ++ T)).take (2 * A.length + 1) = A ++ Tx.bar :: S := by
  rw [show A ++ Tx.bar :: (S ++ T) = (A ++ Tx.bar :: S) ++ T by simp, List.take_left' (by rw [List.length_append, List.length_cons, h.len]; omega)]
theorem Ws.tail : (A ++ Tx.bar :: (S ++ T)).drop (2 * A.length + 1) = T := by
  rw [show A ++ Tx.bar :: (S ++ T) = (A ++ Tx.bar :: S) ++ T by simp, List.drop_left' (by rw [List.length_append, List.length_cons, h.len]; omega)]
theorem Ws.wlen : (A ++ Tx.bar :: (S ++ T)).length ≤ 27 := by
  have := h.few
  have := h.len
  rw [List.length_append, List.length_cons, List.length_append]
  rcases h.tlen with z | z <;> omega
theorem Ws.hlen : (A ++ Tx.bar :: S).length ≤ 25 := by
  have := h.few
  have := h.len
  rw [List.length_append, List.length_cons]
  omega
theorem takeA (B : List Str) : (A ++ Tx.bar :: B).take A.length = A := List.take_left' rfl
theorem dropA (B : List Str) : (A ++ Tx.bar :: B).drop (A.length + 1) = B := by
  rw [show A ++ Tx.bar :: B = (A ++ [Tx.bar]) ++ B by simp, List.drop_left' (by simp)]
theorem takeB (B : List Str) : (A ++ Tx.bar :: B).take (A.length + 1) = A ++ [Tx.bar] := by
  rw [show A ++ Tx.bar :: B = (A ++ [Tx.bar]) ++ B by simp, List.take_left' (by simp)]
theorem Ws.no0 : A.count Tx.bar = 0 ∧ (S ++ T).count Tx.bar = 0 := by
  have := h.cnt
  rw [List.count_append, List.count_cons_self] at this
  omega
theorem Ws.f1 : Fine ((A ++ Tx.bar :: (S ++ T)).take A.length ++ (A ++ Tx.bar :: (S ++ T)).drop (A.length + 1)) := by
  have := h.wlen
  rw [takeA h, dropA h]
  refine ⟨fun e => ?_, cl_app2 h.cA (cl_app2 h.cS h.cT), ?_, noW_bars ?_⟩
  · have := h.pos
    rw [(List.append_eq_nil_iff.mp e).1] at this
    cases this
  · rw [List.length_append, List.length_cons] at this
    rw [List.length_append]; omega
  · rw [List.count_append, h.no0.1, h.no0.2]; decide
theorem Ws.f2 {x : Str} (hx : Cl x) : Fine ([x] ++ (A ++ Tx.bar :: (S ++ T))) := by
  have := h.wlen
  refine ⟨by simp, cl_app2 (cl_one hx) h.cl, by rw [List.length_append]; show 1 + _ ≤ 60; omega, ?_⟩
  rw [show [x] ++ (A ++ Tx.bar :: (S ++ T)) = (x :: A) ++ Tx.bar :: (S ++ T) from rfl]
  have := h.len
  exact noW_len (by rw [List.length_append, List.length_cons]; rcases h.tlen with z | z <;> omega) (by rw [List.length_append, List.length_cons]; rcases h.tlen with z | z <;> omega)
theorem Ws.f3 {x : Str} (hx : Cl x) : Fine ((A ++ Tx.bar :: S) ++ [x] ++ T) := by
  have := h.hlen
  refine ⟨by simp, cl_app2 (cl_app2 h.cH (cl_one hx)) h.cT, ?_, ?_⟩
  · rw [List.length_append, List.length_append]
    show _ + 1 + _ ≤ 60
    rcases h.tlen with z | z <;> omega
  · rw [show (A ++ Tx.bar :: S) ++ [x] ++ T = A ++ Tx.bar :: (S ++ ([x] ++ T)) by simp]
    have := h.len
    exact noW_len (by rw [List.length_append, List.length_append]; show _ + (1 + _) ≠ _; rcases h.tlen with z | z <;> omega) (by rw [List.length_append, List.length_append]; show _ + (1 + _) ≠ _; rcases h.tlen with z | z <;> omega)
theorem Ws.f4 : Fine ((A ++ Tx.bar :: (S ++ T)).drop 1) := by
  have hp := h.pos
  have hw := h.wlen
  have hl := h.len
  have e : (A ++ Tx.bar :: (S ++ T)).drop 1 = A.drop 1 ++ Tx.bar :: (S ++ T) := List.drop_append_of_le_length hp
  refine ⟨by rw [e]; simp, fun w hw => h.cl w (List.mem_of_mem_drop hw), by rw [List.length_drop]; omega, ?_⟩
  rw [e]
  exact noW_len (by rw [List.length_append, List.length_drop]; rcases h.tlen with z | z <;> omega) (by rw [List.length_append, List.length_drop]; rcases h.tlen with z | z <;> omega)
theorem Ws.f5 : Fine ((A ++ Tx.bar :: S) ++ [Tx.bar] ++ T) := by
  have := h.hlen
  refine ⟨by simp, cl_app2 (cl_app2 h.cH (cl_one cl_bar)) h.cT, ?_, noW_bars ?_⟩
  · rw [List.length_append, List.length_append]
    show _ + 1 + _ ≤ 60
    rcases h.tlen with z | z <;> omega
  · have := h.no0
    rw [List.count_append, List.count_append, List.count_append, List.count_cons_self, List.count_cons_self]
    omega
theorem Ws.f6 : Fine ([Tx.bar] ++ (A ++ Tx.bar :: (S ++ T))) := by
  have := h.wlen
  refine ⟨by simp, cl_app2 (cl_one cl_bar) h.cl, by rw [List.length_append]; show 1 + _ ≤ 60; omega, noW_bars ?_⟩
  rw [List.count_append, h.cnt]
  decide
omit h in
theorem noW_nil {ws : List Str} (hw : ⟨#[]⟩ ∈ ws) : NoW ws := noW_word hw (by decide) (by decide) no_wr_nil
theorem Ws.f7 : Fine ((A ++ Tx.bar :: (S ++ T)) ++ [⟨#[]⟩]) := by
  have := h.wlen
  exact ⟨by simp, cl_app2 h.cl (cl_one cl_nil), by rw [List.length_append]; show _ + 1 ≤ 60; omega, noW_nil (List.mem_append_right _ (by simp))⟩
theorem Ws.f8 : Fine ([⟨#[]⟩] ++ (A ++ Tx.bar :: (S ++ T))) := by
  have := h.wlen
  exact ⟨by simp, cl_app2 (cl_one cl_nil) h.cl, by rw [List.length_append]; show 1 + _ ≤ 60; omega, noW_nil (List.mem_append_left _ (by simp))⟩
theorem Ws.f9 : Fine ((A ++ Tx.bar :: S).take A.length ++ [⟨#[]⟩, Tx.bar] ++ (A ++ Tx.bar :: S).drop (A.length + 1) ++ T) := by
  rw [takeA h, dropA h]
  have := h.len
  have := h.few
  refine ⟨by simp, cl_app2 (cl_app2 (cl_app2 h.cA ?_) h.cS) h.cT, ?_, noW_nil (by simp)⟩
  · intro w hw
    simp only [List.mem_cons, List.not_mem_nil, or_false] at hw
    rcases hw with rfl | rfl
    · exact cl_nil
    · exact cl_bar
  · rw [List.length_append, List.length_append, List.length_append]
    show _ + 2 + _ + _ ≤ 60
    rcases h.tlen with z | z <;> omega
omit h in
theorem f10 {x : Str} (hx : Cl x) : Fine (List.replicate 13 x ++ [Tx.bar] ++ List.replicate 13 x) := by
  have c : ∀ w ∈ List.replicate 13 x, Cl w := fun w hw => by rw [(List.mem_replicate.mp hw).2]; exact hx
  refine ⟨by simp, cl_app2 (cl_app2 c (cl_one cl_bar)) c, by simp, ?_⟩
  rw [List.append_assoc]
  exact noW_long (by rw [List.length_replicate]; decide)
theorem Ws.f11 : Fine ((A ++ Tx.bar :: S) ++ [Tx.byS]) := by
  have := h.hlen
  refine ⟨by simp, cl_app2 h.cH (cl_one cl_by), by rw [List.length_append]; show _ + 1 ≤ 60; omega, ?_⟩
  rw [show (A ++ Tx.bar :: S) ++ [Tx.byS] = A ++ Tx.bar :: (S ++ [Tx.byS]) by simp]
  have := h.len
  exact noW_len (by rw [List.length_append]; show _ + 1 ≠ _; omega) (by rw [List.length_append]; show _ + 1 ≠ _; omega)
theorem Ws.f13 : Fine ((A ++ Tx.bar :: S).take (A.length + 1) ++ T) := by
  rw [takeB h]
  have hf := h.few
  have hp := h.pos
  refine ⟨by simp, cl_app2 (cl_app2 h.cA (cl_one cl_bar)) h.cT, ?_, ?_⟩
  · rw [List.length_append, List.length_append]
    show _ + 1 + _ ≤ 60
    rcases h.tlen with z | z <;> omega
  · rw [show (A ++ [Tx.bar]) ++ T = A ++ Tx.bar :: T by simp]
    rcases h.tl with e | ⟨w, e⟩
    · refine noW_len ?_ ?_
      · rw [e]; show 0 ≠ _; omega
      · rw [e]; show 0 ≠ _; omega
    · refine noW_size fun r t e1 e2 => ?_
      have l1 := congrArg List.length e1
      rw [List.length_map] at l1
      have hl := t.len
      cases hs : r.starts with
      | nil => exact absurd (show r.rule.length = 0 by rw [hl, hs]; rfl) (by omega)
      | cons x xs =>
        rw [hs, e] at e2
        have := (List.cons.inj e2).1
        have := Tx.shw_signs x 98 (by rw [← this]; decide)
        omega
omit h in
theorem f14 : Fine [⟨#[]⟩] := ⟨by simp, cl_one cl_nil, by decide, noW_nil (by simp)⟩
end
/-! one word put in another's place -/
theorem noTxt_word {b : Int} {P R A S : List Str} {x : Int} {w : Str} (hb : 0 ≤ b) (hc : ∀ u ∈ P ++ Tx.shw x :: R, Cl u) (hcnt : (P ++ Tx.shw x :: R).count Tx.bar = 1) (hl : ∀ u : Str, ∃ A S : List Str, P ++ u :: R = A ++ Tx.bar :: (S ++ Tx.byPart b) ∧ S.length = A.length ∧ (u ∈ A ∨ u ∈ S)) (hw : BadWd b w) : NoTxt (PySem.Str.join (Tx.one 32) (P ++ w :: R)) := by
  have cP : ∀ u ∈ P, 32 ∉ u.cps.toList := fun u hu => (hc u (List.mem_append_left _ hu)).1
  have cR : ∀ u ∈ R, 32 ∉ u.cps.toList := fun u hu => (hc u (List.mem_append_right _ (List.mem_cons_of_mem _ hu))).1
  rcases hw.2 with rfl | ⟨h1, h2⟩ | ⟨y, h1, rfl⟩
  · refine noTxt_join (by simp) ?_ (noW_bars ?_)
    · intro u hu
      rcases List.mem_append.mp hu with z | z
      · exact cP u z
      · rcases List.mem_cons.mp z with z | z
        · rw [z]; exact cl_bar.1
        · exact cR u z
    · rw [List.count_append, List.count_cons_of_ne (fun e => Tx.shw_bar x e)] at hcnt
      rw [List.count_append, List.count_cons_self]
      omega
  · refine noTxt_join (by simp) ?_ ?_
    · intro u hu
      rcases List.mem_append.mp hu with z | z
      · exact cP u z
      · rcases List.mem_cons.mp z with z | z
        · rw [z]; exact h1
        · exact cR u z
    · obtain ⟨A, S, e, l, m⟩ := hl w
      rw [e]
      exact noW_both hb l m h2
  · rw [join_mid]
    refine noTxt_join (by simp) ?_ (noW_word (w := Tx.one 45) (by simp) (by decide) (by decide) fun z => absurd ((Tx.wr_iff _).mp z) (by decide +kernel))
    intro u hu
    rcases List.mem_append.mp hu with z | z
    · exact cP u z
    · rcases List.mem_cons.mp z with z | z
      · rw [z]; decide
      · rcases List.mem_cons.mp z with z | z
        · rw [z]; exact h1
        · exact cR u z
theorem word_out {r : Rw} (t : T8 r) {i : Nat} (hi : i < r.rule.length ∨ (r.rule.length < i ∧ i ≤ 2 * r.rule.length)) : ∃ x : Int, x.natAbs < 10 ^ 60 ∧ (Tx.wordsOf r.b r.rule r.starts)[i]? = some (Tx.shw x) ∧
    ∀ w, BadWd r.b w → PySem.JoinOk (Tx.one 32) ((Tx.wordsOf r.b r.rule r.starts).take i ++ [w] ++ (Tx.wordsOf r.b r.rule r.starts).drop (i + 1)) = true ∧ (PySem.Str.join (Tx.one 32) ((Tx.wordsOf r.b r.rule r.starts).take i ++ [w] ++ (Tx.wordsOf r.b r.rule r.starts).drop (i + 1))).length ≤ 50000 ∧ NoTxt (PySem.Str.join (Tx.one 32) ((Tx.wordsOf r.b r.rule r.starts).take i ++ [w] ++ (Tx.wordsOf r.b r.rule r.starts).drop (i + 1))) := by
  have hlen := t.len
  have hfew := t.few
  have hby := (byV_range t.byv).1
  obtain ⟨x, hx, e, hl⟩ : ∃ x : Int, x.natAbs < 10 ^ 60 ∧ (Tx.wordsOf r.b r.rule r.starts)[i]? = some (Tx.shw x) ∧ ∀ u : Str, ∃ A S : List Str, (Tx.wordsOf r.b r.rule r.starts).take i ++ u :: (Tx.wordsOf r.b r.rule r.starts).drop (i + 1) = A ++ Tx.bar :: (S ++ Tx.byPart r.b) ∧ S.length = A.length ∧ (u ∈ A ∨ u ∈ S) := by
    have lA : (r.rule.map Tx.shw).length = r.rule.length := List.length_map _
    have lS : (r.starts.map Tx.shw).length = r.starts.length := List.length_map _
    unfold Tx.wordsOf
    rcases hi with h | ⟨h1, h2⟩
    · refine ⟨r.rule[i], t.ruleBd _ (List.getElem_mem h), ?_, fun u => ⟨(r.rule.map Tx.shw).take i ++ u :: (r.rule.map Tx.shw).drop (i + 1), r.starts.map Tx.shw, ?_, ?_, .inl (by simp)⟩⟩
      · rw [List.getElem?_append_left (by omega), List.getElem?_map, List.getElem?_eq_getElem h]; rfl
      · rw [List.take_append_of_le_length (by omega), List.drop_append_of_le_length (by omega), List.append_assoc]; rfl
      · rw [List.length_append, List.length_cons, List.length_take, List.length_drop]; omega
    · obtain ⟨j, rfl⟩ : ∃ j, i = r.rule.length + 1 + j := ⟨i - r.rule.length - 1, by omega⟩
      have hj : j < r.starts.length := by omega
      have ew : r.rule.map Tx.shw ++ Tx.bar :: (r.starts.map Tx.shw ++ Tx.byPart r.b) = (r.rule.map Tx.shw ++ [Tx.bar]) ++ (r.starts.map Tx.shw ++ Tx.byPart r.b) := by simp
      have lB : (r.rule.map Tx.shw ++ [Tx.bar]).length = r.rule.length + 1 := by simp
      rw [ew]
      refine ⟨r.starts[j], t.startsBd _ (List.getElem_mem hj), ?_, fun u => ⟨r.rule.map Tx.shw, (r.starts.map Tx.shw).take j ++ u :: (r.starts.map Tx.shw).drop (j + 1), ?_, ?_, .inr (by simp)⟩⟩
      · rw [List.getElem?_append_right (by omega), lB, Nat.add_sub_cancel_left, List.getElem?_append_left (by omega), List.getElem?_map, List.getElem?_eq_getElem hj]; rfl
      · rw [List.take_append, List.drop_append, lB, List.take_of_length_le (by omega), List.drop_eq_nil_of_le (by omega), Nat.add_sub_cancel_left, show r.rule.length + 1 + j + 1 - (r.rule.length + 1) = j + 1 by omega, List.take_append_of_le_length (by omega), List.drop_append_of_le_length (by omega)]
        simp
      · rw [List.length_append, List.length_cons, List.length_take, List.length_drop]; omega
  have hi' : i < (Tx.wordsOf r.b r.rule r.starts).length := (List.getElem?_eq_some_iff.mp e).1
  have es : (Tx.wordsOf r.b r.rule r.starts).take i ++ Tx.shw x :: (Tx.wordsOf r.b r.rule r.starts).drop (i + 1) = Tx.wordsOf r.b r.rule r.starts := by
    have : (Tx.wordsOf r.b r.rule r.starts)[i] = Tx.shw x := (List.getElem?_eq_some_iff.mp e).2
    rw [← this, ← List.drop_eq_getElem_cons, List.take_append_drop]
  have hcl : ∀ u ∈ Tx.wordsOf r.b r.rule r.starts, Cl u := fun u hu => ⟨Tx.words_clean u hu, Nat.le_trans (t.words u hu) (by decide)⟩
  refine ⟨x, hx, e, fun w hw => ?_⟩
  rw [List.append_assoc, List.singleton_append]
  have hj := join_len (ws := (Tx.wordsOf r.b r.rule r.starts).take i ++ w :: (Tx.wordsOf r.b r.rule r.starts).drop (i + 1)) (fun u hu => by
    rcases List.mem_append.mp hu with z | z
    · exact (hcl u (List.mem_of_mem_take z)).2
    · rcases List.mem_cons.mp z with z | z
      · rw [z]; exact hw.1
      · exact (hcl u (List.mem_of_mem_drop z)).2) (by rw [List.length_append, List.length_cons, List.length_take, List.length_drop]; omega)
  exact ⟨hj.1, hj.2, noTxt_word (x := x) (A := []) (S := []) hby (by rw [es]; exact hcl) (by rw [es]; exact Tx.count_words _ _ _) hl hw⟩
/-! lists of texts on the heap -/
noncomputable def SL (H : Hp) (l : Addr) (ws : List Str) : Prop := H l = some (.lst (ws.map V.str))
theorem SL.same {H H' : Hp} {l : Addr} {ws : List Str} (h : SL H l ws) (g : Same H H') : SL H' l ws := g _ _ h
theorem addS {K : PySem.W.Frag} {H : Hp} {a b : Addr} {xs ys : List Str} {Q : VK} (ha : SL H a xs) (hb : SL H b ys) (h1 : xs.length ≤ 100) (h2 : ys.length ≤ 100) (q : ∀ t H', Same H H' → SL H' t (xs ++ ys) → Q (.ref t) H') : rAddV K (.ref a) (.ref b) H Q :=
  .inl ⟨_, _, ha, hb, by rw [List.length_map, List.length_map]; exact Nat.le_of_lt (small1000 (by omega)), fun p hp => q p _ (Same.new hp _) (by unfold SL; rw [upd_same, List.map_append])⟩
theorem cutTo {K : PySem.W.Frag} {H : Hp} {a : Addr} {xs : List Str} {i : Int} {k : Nat} {Q : VK} (ha : SL H a xs) (hi : i = (k : Int)) (q : ∀ t H', Same H H' → SL H' t (xs.take k) → Q (.ref t) H') : rSlV K (.ref a) none (some i) H Q :=
  .inl ⟨_, SqL.of ha, fun p hp => q p _ (Same.new hp _) (by unfold SL; rw [upd_same, hi, cut_to, List.map_take])⟩
theorem cutFrom {K : PySem.W.Frag} {σ : St} {H : Hp} {a : Addr} {xs : List Str} {i : Int} {k : Nat} {Q : VK} (ha : SL H a xs) (hi : i = (k : Int)) (q : ∀ t H', Same H H' → SL H' t (xs.drop k) → Q (.ref t) H') : tNoPart σ H fun u H3 => rSlV K (.ref a) (some i) u H3 Q :=
  .inl ⟨_, SqL.of ha, fun p hp => q p _ (Same.new hp _) (by unfold SL; rw [upd_same, hi, cut_drop, List.map_drop])⟩
noncomputable def LsOk (H : Hp) (v : V) : Prop := ∃ l ws, v = .ref l ∧ SL H l ws ∧ Fine ws
noncomputable def AllOk (H : Hp) (vs : List V) : Prop := ∀ v ∈ vs, LsOk H v
theorem AllOk.nil (H : Hp) : AllOk H [] := fun v hv => by cases hv
theorem AllOk.add {H H' : Hp} {vs : List V} (h : AllOk H vs) (g : Same H H') {l : Addr} {ws : List Str} (hl : SL H' l ws) (hf : Fine ws) : AllOk H' (vs ++ [.ref l]) := fun v hv => by
  rcases List.mem_append.mp hv with z | z
  · obtain ⟨l, ws, e, h1, h2⟩ := h v z
    exact ⟨l, ws, e, h1.same g, h2⟩
  · rw [List.mem_singleton.mp z]; exact ⟨l, ws, rfl, hl, hf⟩
theorem AllOk.same {H H' : Hp} {vs : List V} (h : AllOk H vs) (g : Same H H') : AllOk H' vs := fun v hv => by
  obtain ⟨l, ws, e, h1, h2⟩ := h v hv
  exact ⟨l, ws, e, h1.same g, h2⟩
theorem AllOk.app {H : Hp} {vs us : List V} (h : AllOk H vs) (h' : AllOk H us) : AllOk H (vs ++ us) := fun v hv => (List.mem_append.mp hv).elim (h v) (h' v)
theorem lit_nil : PySem.Str.ofString "" = ⟨#[]⟩ := by decide +kernel
theorem newS {H : Hp} {l : Addr} {w : Str} (hl : H l = none) : Same H (upd H l (.lst [.str w])) ∧ SL (upd H l (.lst [.str w])) l [w] := ⟨Same.new hl _, upd_same⟩
theorem newS2 {H : Hp} {l : Addr} {w u : Str} (hl : H l = none) : Same H (upd H l (.lst [.str w, .str u])) ∧ SL (upd H l (.lst [.str w, .str u])) l [w, u] := ⟨Same.new hl _, upd_same⟩
theorem AllOk.at {H : Hp} {vs : List V} (h : AllOk H vs) {k : Int} (h0 : 0 ≤ k) (h1 : k < vs.length) : ∃ l ws, atI vs k = some (.ref l) ∧ SL H l ws ∧ Fine ws := by
  obtain ⟨j, rfl⟩ := Int.eq_ofNat_of_zero_le h0
  have hj : j < vs.length := by omega
  obtain ⟨l, ws, e, h2, h3⟩ := h _ (List.getElem_mem hj)
  exact ⟨l, ws, atI_nat (by rw [List.getElem?_eq_getElem hj, e]), h2, h3⟩
theorem memV {P : V → Prop} {vs : List V} (h : ∀ v ∈ vs, P v) {k : Int} (h0 : 0 ≤ k) (h1 : k < vs.length) : ∃ v, atI vs k = some v ∧ P v := by
  obtain ⟨j, rfl⟩ := Int.eq_ofNat_of_zero_le h0
  have hj : j < vs.length := by omega
  exact ⟨vs[j], atI_nat (List.getElem?_eq_getElem hj), h _ (List.getElem_mem hj)⟩
/-! texts changed -/
theorem rep_bar_len (r : Rw) (z : Str) : (PySem.Txt.replace (txt r) (Tx.one 124) z).length ≤ (txt r).length + z.length := by
  obtain ⟨a, b, e, _, _⟩ := bar_two r
  have ej : PySem.Str.join (Tx.one 124) (PySem.Txt.split (txt r) (Tx.one 124)) = txt r := PySem.StrLaws.join_split _ _
  rw [rep_join z (by decide) (by rw [e]; exact Nat.le_refl _)]
  have l1 : (PySem.Str.join z (PySem.Txt.split (txt r) (Tx.one 124))).length = a.length + z.length + b.length := by
    rw [e]; show (a ++ z ++ b).length = _
    rw [PySem.Str.length_append, PySem.Str.length_append]
  have l2 : (txt r).length = a.length + 1 + b.length := by
    rw [← ej, e]; show (a ++ Tx.one 124 ++ b).length = _
    rw [PySem.Str.length_append, PySem.Str.length_append]; rfl
  omega
theorem rep_sp_len {r : Rw} (t : T8 r) (h : 0 < r.rule.length) {z : Str} (hz : z.length ≤ 10) : (PySem.Txt.replace (txt r) (Tx.one 32) z).length ≤ 50000 := by
  have h2 : 2 ≤ (Tx.wordsOf r.b r.rule r.starts).length := by
    unfold Tx.wordsOf
    rw [List.length_append, List.length_map, List.length_cons]
    omega
  rw [rep_join _ (by decide) (by rw [split_txt]; exact h2), split_txt]
  have h1 := PySem.StrLaws.join_length_le z (Tx.wordsOf r.b r.rule r.starts)
  have h3 := PySem.StrLaws.sumLen_le (B := 61) _ t.words
  have h4 := t.few
  have h5 : (Tx.wordsOf r.b r.rule r.starts).length * z.length ≤ 27 * 10 := Nat.mul_le_mul h4 hz
  omega
theorem odd_bad {H : Hp} {k : Int} {v : V} (h : OddIs H k v) : Bad H v := by
  have b : ∀ t : Str, t.length ≤ 100000 → t.cps.toList.count 124 = 0 → Bad H (.str t) := fun t h1 h2 => .inr ⟨t, rfl, h1, noTxt_bars (by rw [h2]; decide)⟩
  rcases h with ⟨_, rfl⟩ | ⟨_, rfl⟩ | ⟨_, rfl⟩ | ⟨_, rfl⟩ | ⟨_, rfl⟩ | ⟨_, a, rfl, h⟩ | ⟨_, a, rfl, h⟩ | ⟨_, a, rfl, h⟩ | ⟨_, a, rfl, h⟩ | ⟨_, a, rfl, h⟩ | ⟨_, rfl⟩ | ⟨_, a, rfl, h⟩
  · exact .inl ⟨_, rfl, by decide⟩
  · exact .inl ⟨_, rfl, by decide⟩
  · exact .inl ⟨_, rfl, by decide⟩
  · exact b _ (by decide +kernel) (by decide +kernel)
  · exact b _ (by decide +kernel) (by decide +kernel)
  · exact .inl ⟨"list", by simp only [tyNm, h] <;> rfl, by decide⟩
  · exact .inl ⟨"tuple", by simp only [tyNm, h] <;> rfl, by decide⟩
  · exact .inl ⟨"dict", by simp only [tyNm, h] <;> rfl, by decide⟩
  · exact .inl ⟨"list", by simp only [tyNm, h] <;> rfl, by decide⟩
  · exact .inl ⟨"tuple", by simp only [tyNm, h] <;> rfl, by decide⟩
  · exact b _ (by decide +kernel) (by decide +kernel)
  · exact .inl ⟨"dict", by simp only [tyNm, h] <;> rfl, by decide⟩
theorem bad_txt {H : Hp} {r : Rw} (t : T8 r) (hp : 0 < r.rule.length) : ∀ v ∈ [V.str (PySem.Txt.replace (txt r) (PySem.Str.ofString " ") (PySem.Str.ofString "  ")), .str (PySem.Txt.replace (txt r) (PySem.Str.ofString "|") (PySem.Str.ofString "/")), .str (txt r ++ PySem.Str.ofString ";"), .str (PySem.Str.ofString "," ++ txt r), .str (PySem.Txt.replace (txt r) (PySem.Str.ofString "|") (PySem.Str.ofString "||"))], Bad H v := by
  have hl := t.txt_len
  have la : ∀ a b : Str, (a ++ b).length = a.length + b.length := PySem.Str.length_append
  have l1 : (PySem.Str.ofString ";").length = 1 := by decide +kernel
  have l2 : (PySem.Str.ofString ",").length = 1 := by decide +kernel
  have l3 : (PySem.Str.ofString "/").length = 1 := by decide +kernel
  have l4 : (PySem.Str.ofString "||").length = 2 := by decide +kernel
  have e2 : PySem.Str.ofString "  " = Tx.one 32 ++ Tx.one 32 := by decide +kernel
  intro v hv
  simp only [List.mem_cons, List.not_mem_nil, or_false] at hv
  rcases hv with rfl | rfl | rfl | rfl | rfl
  · refine .inr ⟨_, rfl, ?_, ?_⟩
    · rw [lit_sp]
      exact Nat.le_trans (rep_sp_len t hp (by decide +kernel)) (by decide)
    · rw [lit_sp, e2]
      rcases rep_sp (r := r) with z | z
      · exact z
      · rw [z] at hp; cases hp
  · refine .inr ⟨_, rfl, ?_, noTxt_bars ?_⟩
    · rw [lit_bar]
      have := rep_bar_len r (PySem.Str.ofString "/")
      show (PySem.Txt.replace (txt r) (Tx.one 124) _).length ≤ _
      omega
    · rw [lit_bar]
      show (PySem.Txt.replace (txt r) (Tx.one 124) _).cps.toList.count 124 ≠ 1
      rw [rep_bar]; decide +kernel
  · exact .inr ⟨_, rfl, by rw [la]; omega, noTxt_sign (c := 59) (mem_appR (by decide +kernel)) (by unfold Sgn; decide)⟩
  · exact .inr ⟨_, rfl, by rw [la]; omega, noTxt_sign (c := 44) (mem_appL (by decide +kernel)) (by unfold Sgn; decide)⟩
  · refine .inr ⟨_, rfl, ?_, noTxt_bars ?_⟩
    · rw [lit_bar]
      have := rep_bar_len r (PySem.Str.ofString "||")
      show (PySem.Txt.replace (txt r) (Tx.one 124) _).length ≤ _
      omega
    · rw [lit_bar]
      show (PySem.Txt.replace (txt r) (Tx.one 124) _).cps.toList.count 124 ≠ 1
      rw [rep_bar]; decide +kernel
theorem at_place {m k : Int} (hk : 0 < k) (h0 : 0 ≤ m) (h1 : m < 2 * k) : ∃ i : Nat, m + (if decide (k ≤ m) = true then 1 else 0) = (i : Int) ∧ ((i : Int) < k ∨ (k < i ∧ (i : Int) ≤ 2 * k)) := by
  by_cases c : k ≤ m
  · rw [if_pos (decide_eq_true c)]
    exact ⟨(m + 1).toNat, by omega, by omega⟩
  · rw [if_neg (by rw [decide_eq_false c]; exact Bool.false_ne_true)]
    exact ⟨m.toNat, by omega, by omega⟩
theorem atL {ws : List Str} {i : Nat} {n : Int} {w : Str} (e : n = (i : Int)) (ex : ws[i]? = some w) : atI (ws.map V.str) n = some (.str w) := by
  rw [e]; exact atI_nat (by rw [List.getElem?_map, ex]; rfl)
theorem wsTake {ws : List Str} {k n : Nat} (h : ws.length ≤ n) : (ws.take k).length ≤ n := by rw [List.length_take]; omega
theorem wsDrop {ws : List Str} {k n : Nat} (h : ws.length ≤ n) : (ws.drop k).length ≤ n := by rw [List.length_drop]; omega
theorem wsApp {xs ys : List Str} {n m k : Nat} (h1 : xs.length ≤ n) (h2 : ys.length ≤ m) (h : n + m ≤ k) : (xs ++ ys).length ≤ k := by rw [List.length_append]; omega
theorem mul13 {σ : St} {H : Hp} {a : Addr} {w : Str} {Q : VK} (ha : SL H a [w]) (q : ∀ t H', Same H H' → SL H' t (List.replicate 13 w) → Q (.ref t) H') : tC (V.int 13) σ H fun y H2 => rMulV (.ref a) y H2 Q :=
  ⟨_, ha, by decide, by decide, (by show 1 * 13 ≤ sizeLine; decide), fun p hp => q p _ (Same.new hp _) (by unfold SL; rw [upd_same]; rfl)⟩
noncomputable def spBad : Sp := fun vs H Q _ => ∃ (v : V) (r : Rw) (n : Int), vs = [v, .int n] ∧ RowIs H v r ∧ T8 r ∧ 0 < r.rule.length ∧ 0 ≤ n ∧ n < 2147483647 ∧ ∀ w H', Same H H' → Bad H' w → Q w H'
theorem eqv_row (b b' : Int) (p s p' s' : List Int) : PyData.eqv (.tuple [.int b, .tuple (p.map .int), .tuple (s.map .int)]) (.tuple [.int b', .tuple (p'.map .int), .tuple (s'.map .int)]) = decide (b = b' ∧ p = p' ∧ s = s') := by
  have e1 := eqv_tup p p'
  have e2 := eqv_tup s s'
  rw [PyData.eqv] at e1 e2
  simp only [PyData.eqvAll, PyData.eqv, e1, e2, Bool.and_true, Bool.decide_and]
  rfl
theorem shaped_row (b : Int) (p r : List Int) : SeqAt.shaped (.tuple [.int b, .tuple (p.map .int), .tuple (r.map .int)]) = true := by
  have h1 := canLay_ints p
  have h2 := canLay_ints r
  have h3 := depth_ints p
  have h4 := depth_ints r
  simp only [SeqAt.shaped, PyData.canLay0, PyData.canLayAll0, PyData.depth, PyData.depthAll, h1, h2, Bool.true_and, Bool.and_true]
  exact decide_eq_true (by omega)
theorem eqRR {K : PySem.W.Frag} {g : Bool → Bool} {H : Hp} {v v' : V} {r r' : Rw} {Q : VK} (h : RowIs H v r) (h' : RowIs H v' r') (q : Q (.bl (g (decide (r.b = r'.b ∧ r.rule = r'.rule ∧ r.starts = r'.starts)))) H) : rEqV K g v v' H Q := by
  obtain ⟨a, x, y, rfl, ha, hx, hy⟩ := h
  obtain ⟨c, x', y', rfl, hc, hx', hy'⟩ := h'
  exact .inl ⟨_, _, .tup (SqT.of ha) (.cons (.int _) (.cons (.tup (SqT.of hx) (RdDs.ints _)) (.cons (.tup (SqT.of hy) (RdDs.ints _)) .nil))), .tup (SqT.of hc) (.cons (.int _) (.cons (.tup (SqT.of hx') (RdDs.ints _)) (.cons (.tup (SqT.of hy') (RdDs.ints _)) .nil))),
    shaped_row .., shaped_row .., by rw [eqv_row]; exact q⟩
theorem bys_one : ∀ b ∈ bys, b = 0 ∨ 1 < b := by decide
theorem row9 (c : Int) : T8 (rowI c 11) ∧ (rowI c 11).b ∈ bys := by
  have ok := rowI_ok (c := c) (m := 11) (by decide) (by decide)
  have h2 : (2 : Nat) ^ 67 < 10 ^ 60 := by decide +kernel
  exact ⟨⟨ok.len, ok.short, bys_by _ (rowI_by c 11), ok.ruleNum, ok.startsNum, fun x hx => Nat.lt_trans (numbersI_bd (bys_range _ (rowI_by c 11)).2 _ _ x hx) h2, fun x hx => Nat.lt_trans (numbersI_bd (bys_range _ (rowI_by c 11)).2 _ _ x hx) h2⟩, rowI_by c 11⟩
theorem one_t8 {b : Int} (h : b ∈ bys) : T8 ⟨b, [1], [1]⟩ := by
  have n1 : IsNum b 1 := by
    rcases bys_one b h with z | z
    · exact .inl z
    · exact .inr ⟨by decide, z⟩
  have o : ∀ x ∈ ([1] : List Int), x.natAbs < 10 ^ 60 := fun x hx => by rw [List.mem_singleton.mp hx]; decide +kernel
  have m : ∀ x ∈ ([1] : List Int), IsNum b x := fun x hx => by rw [List.mem_singleton.mp hx]; exact n1
  exact ⟨rfl, (by show 1 ≤ 12; decide), bys_by b h, m, m, o, o⟩
theorem none_t8 {b : Int} (h : byV (.int b) = true) : T8 ⟨b, [], []⟩ := ⟨rfl, Nat.zero_le _, h, (fun x hx => by cases hx), (fun x hx => by cases hx), (fun x hx => by cases hx), (fun x hx => by cases hx)⟩
theorem txt_e0 : txt ⟨0, [], []⟩ = PySem.Str.ofString "|" := by decide +kernel
theorem txt_e7 : txt ⟨7, [], []⟩ = PySem.Str.ofString "| by 7" := by decide +kernel
theorem bad_e1 (H : Hp) : Bad H (.str (PySem.Str.ofString "| by")) := by
  refine .inr ⟨_, rfl, by decide +kernel, ?_⟩
  have e : PySem.Str.ofString "| by" = PySem.Str.join (Tx.one 32) [Tx.bar, Tx.byS] := by decide +kernel
  rw [e]
  exact noTxt_join (by simp) (by decide) (noW_len (A := []) (B := [Tx.byS]) (by decide) (by decide))
theorem bad_e2 (H : Hp) : Bad H (.str (PySem.Str.ofString "by 7")) := .inr ⟨_, rfl, by decide +kernel, noTxt_bars (by decide +kernel)⟩
section
variable {P : Program} {w : World} {K : PySem.W.Frag} {mg : Str → Option Value} {base : Heap}
variable {A_NoBy A_NoName A_NoNumber A_NoRow A_NoText A_RuleError A_TooBig A_TooFar A_TooLong : Addr}
theorem ok_is_whole (B : Bt mg) (F : Fn K mg "is_whole" s_is_whole ["thing"]) (M : Ms K mg base A_NoBy A_NoName A_NoNumber A_NoRow A_NoText A_RuleError A_TooBig A_TooFar A_TooLong) : Cal P w K mg base "is_whole" 1 ["thing"] spWhole := by
  refine F.cal sc_is_whole (fun vs H Q E h => ?_) (fun f cdv A outer s H vs Q E hr h => ?_)
  · obtain ⟨x, t, rfl, _⟩ := h; rfl
  · obtain ⟨x, t, rfl, ty, q⟩ := h
    refine ⟨_, (pss_one (ps_ret (pe_and (pe_callB v_isinstance rfl B.b_isinstance boot_isinstance (pa_n (pv 0) (pa_n (pe_tyB rfl B.b_int boot_int) pa_nil))) (pe_one (pe_not (pe_callB v_isinstance rfl B.b_isinstance boot_isinstance (pa_n (pv 0) (pa_n (pe_tyB rfl B.b_bool boot_bool) pa_nil)))))))), ?_⟩
    refine ⟨_, rfl, x, "int", t, rfl, ty, by simp, _, rfl, ?_⟩
    refine ite2 (fun c => ?_) (fun c => ?_)
    · refine ⟨_, rfl, x, "bool", t, rfl, ty, by simp, _, rfl, ?_⟩
      cases x with
      | int i => cases ty; exact q
      | bl b => cases ty; exact q
      | non => cases ty; exact absurd c (by decide)
      | str z => cases ty; exact absurd c (by decide)
      | ref a =>
        have ht : t ≠ "int" ∧ t ≠ "bool" := by
          have ty' : (match H a with
            | some (.lst _) => some "list"
            | some (.frz _ (.lst _)) => some "list"
            | some (.tup _) => some "tuple"
            | some (.dK _) => some "dict"
            | _ => none) = some t := ty
          split at ty' <;> cases ty' <;> decide
        exfalso
        simp [subB, ht.1, ht.2] at c
      | _ => cases ty
    · cases x with
      | int i => cases ty; exact absurd (by decide) c
      | bl b => cases ty; exact absurd (by decide) c
      | _ => exact q
theorem ok_is_prime (B : Bt mg) (F : Fn K mg "is_prime" s_is_prime ["number"]) (M : Ms K mg base A_NoBy A_NoName A_NoNumber A_NoRow A_NoText A_RuleError A_TooBig A_TooFar A_TooLong) : Cal P w K mg base "is_prime" 1 ["number"] spPrime := by
  refine F.cal sc_is_prime (fun vs H Q E h => ?_) (fun f cdv A outer s H vs Q E hr h => ?_)
  · obtain ⟨n, rfl, _⟩ := h; rfl
  · obtain ⟨n, rfl, hn, q⟩ := h
    refine ⟨_, (pss_cons (ps_if (pt_cmpR op_lt (pv 0) pe_int (nomark _))
      (pss_one (ps_ret pe_bl))
      pss_nil)
      (pss_cons (ps_set (i := 1) sc_is_prime.nd rfl (Or.inl rfl) pe_int)
      (pss_cons (ps_while PassesOwn.never (pt_cmpR op_le (pe_op v_mul (pv 1) (pv 1)) (pv 0) (nomark _))
      (pss_cons (ps_if (pt_cmpR (xeq K hr) (pe_op op_mod (pv 0) (pv 1)) pe_int (nomark _))
      (pss_one (ps_ret pe_bl))
      pss_nil)
      (pss_one (ps_set (i := 1) sc_is_prime.nd rfl (Or.inl rfl) (pe_op (xadd K) (pv 1) pe_int)))))
      (pss_one (ps_ret pe_bl))))), ?_⟩
    refine ⟨_, rfl, _, _, rfl, rfl, _, rfl, ?_⟩
    refine ite2 (fun c => ?_) (fun c => ?_)
    · have c' : n < 2 := of_decide_eq_true c
      have e : primeB n = false := by simp [primeB, show ¬ 2 ≤ n by omega]
      rw [e] at q; exact q
    · have c' : ¬ n < 2 := of_decide_eq_false (Bool.eq_false_iff.mpr c)
      refine ⟨fun m σ' H' => ∃ d : Nat, σ' = [some (.int n), some (.int (d : Int))] ∧ H' = H ∧ 2 ≤ d ∧ d ≤ 32 ∧ m = 33 - d ∧ ∀ e : Nat, 2 ≤ e → e < d → n % (e : Int) ≠ 0, ⟨31, 2, rfl, rfl, by omega, by omega, rfl, fun e h1 h2 => by omega⟩, ?_⟩
      rintro m σ' H' ⟨d, rfl, rfl, h2, h32, rfl, hd⟩
      refine ⟨_, rfl, _, rfl, mulL (by omega) (by omega), _, rfl, _, _, rfl, rfl, _, rfl, ?_⟩
      refine ite2 (fun c2 => ?_) (fun c2 => ?_)
      · have c2' : (d : Int) * d ≤ n := of_decide_eq_true c2
        have d31 : d ≤ 31 := by
          rcases Nat.lt_or_ge d 32 with z | z
          · omega
          · exfalso
            have e32 : d = 32 := by omega
            subst e32
            have : (1024 : Int) ≤ n := c2'
            omega
        refine ⟨_, fun _ _ z => z, ?_⟩
        refine ⟨_, rfl, _, rfl, _, _, rfl, rfl, (by omega : (0 : Int) < (d : Int)), ?_⟩
        refine ⟨_, rfl, ?_⟩
        refine ite2 (fun c3 => ?_) (fun c3 => ?_)
        · have c3' : n % (d : Int) = 0 := of_decide_eq_true c3
          have e : primeB n = false := by
            have : ((List.range 32).all fun d => decide (d < 2) || decide (n < (d : Int) * d) || decide (n % (d : Int) ≠ 0)) = false := by
              rw [Bool.eq_false_iff]
              intro z
              have := List.all_eq_true.mp z d (List.mem_range.mpr (by omega))
              simp only [Bool.or_eq_true, decide_eq_true_eq] at this
              omega
            unfold primeB
            rw [this, Bool.and_false]
          rw [e] at q; exact q
        · have c3' : ¬ n % (d : Int) = 0 := of_decide_eq_false (Bool.eq_false_iff.mpr c3)
          refine ⟨_, rfl, ?_⟩
          exact ⟨33 - (d + 1), by omega, d + 1, by simp, rfl, by omega, by omega, rfl, fun e h1 h2 => by
            rcases Nat.lt_or_ge e d with z | z
            · exact hd e h1 z
            · have : e = d := by omega
              subst this; exact c3'⟩
      · have c2' : ¬ (d : Int) * d ≤ n := of_decide_eq_false (Bool.eq_false_iff.mpr c2)
        have e : primeB n = true := by
          unfold primeB
          rw [decide_eq_true (show 2 ≤ n by omega), Bool.true_and, List.all_eq_true]
          intro e he
          simp only [Bool.or_eq_true, decide_eq_true_eq]
          by_cases h1 : e < 2
          · exact .inl (.inl h1)
          · by_cases h3 : e < d
            · exact .inr (hd e (by omega) h3)
            · refine .inl (.inr ?_)
              have : d * d ≤ e * e := Nat.mul_le_mul (by omega) (by omega)
              have this' : (d : Int) * d ≤ (e : Int) * e := by exact_mod_cast this
              omega
        rw [e] at q; exact q
theorem ok_is_by (B : Bt mg) (F : Fn K mg "is_by" s_is_by ["thing"]) (M : Ms K mg base A_NoBy A_NoName A_NoNumber A_NoRow A_NoText A_RuleError A_TooBig A_TooFar A_TooLong) (C_is_whole : Cal P w K mg base "is_whole" 1 ["thing"] spWhole) (C_is_prime : Cal P w K mg base "is_prime" 1 ["number"] spPrime) : Cal P w K mg base "is_by" 2 ["thing"] spBy := by
  refine F.cal sc_is_by (fun vs H Q E h => ?_) (fun f cdv A outer s H vs Q E hr h => ?_)
  · obtain ⟨x, t, rfl, _⟩ := h; rfl
  · obtain ⟨x, t, rfl, ty, q⟩ := h
    refine ⟨_, (pss_cons (ps_if (PW.pt (pw_or (pt_not (pt_val (pe_callC C_is_whole hr rfl (pa_n (pv 0) pa_nil)))) (pw_or1 (pt_cmpR op_ge (pv 0) (pe_globI rfl B.g_ABOVE_ALL_BYS) (nomark _)))))
      (pss_one (ps_ret pe_bl))
      pss_nil)
      (pss_one (ps_ret (pe_or (pe_cmpR (xeq K hr) (pv 0) pe_int (nomark _)) (pe_one (pe_callC C_is_prime hr rfl (pa_n (pv 0) pa_nil))))))), ?_⟩
    refine ⟨_, rfl, x, t, rfl, ty, _, rfl, ?_⟩
    cases x with
    | int i =>
      refine iteF ?_
      refine ⟨_, rfl, _, _, rfl, rfl, _, rfl, ?_⟩
      refine ite2 (fun c => ?_) (fun c => ?_)
      · have c' : (1000 : Int) ≤ i := of_decide_eq_true c
        have e : byV (.int i) = false := by simp [byV, show ¬ i < 1000 by omega]
        rw [e] at q; exact q
      · have c' : ¬ (1000 : Int) ≤ i := of_decide_eq_false (Bool.eq_false_iff.mpr c)
        refine ⟨_, rfl, _, rfl, ?_⟩
        refine ite2 (fun c2 => ?_) (fun c2 => ?_)
        · have c2' : i = 0 := of_decide_eq_true c2
          subst c2'
          exact q
        · have c2' : ¬ i = 0 := of_decide_eq_false (Bool.eq_false_iff.mpr c2)
          refine ⟨_, rfl, i, rfl, by omega, ?_⟩
          have e : byV (.int i) = primeB i := by simp [byV, show i < 1000 by omega, c2']
          rw [e] at q; exact q
    | _ => exact iteT q
theorem ok_is_number (B : Bt mg) (F : Fn K mg "is_number" s_is_number ["by", "thing"]) (M : Ms K mg base A_NoBy A_NoName A_NoNumber A_NoRow A_NoText A_RuleError A_TooBig A_TooFar A_TooLong) (C_is_whole : Cal P w K mg base "is_whole" 1 ["thing"] spWhole) : Cal P w K mg base "is_number" 2 ["by", "thing"] spNumP := by
  refine F.cal sc_is_number (fun vs H Q E h => ?_) (fun f cdv A outer s H vs Q E hr h => ?_)
  · obtain ⟨b, x, rfl, _⟩ := h; rfl
  · obtain ⟨b, x, rfl, ⟨t, ty⟩, q⟩ := h
    refine ⟨_, (pss_cons (ps_if (pt_not (pt_val (pe_callC C_is_whole hr rfl (pa_n (pv 1) pa_nil))))
      (pss_one (ps_ret pe_bl))
      pss_nil)
      (pss_one (ps_ret (pe_or (pe_cmpR (xeq K hr) (pv 0) pe_int (nomark _)) (pe_one (pe_chain op_le op_lt pe_int (pv 1) (pv 0))))))), ?_⟩
    refine ⟨_, rfl, x, t, rfl, ty, _, rfl, ?_⟩
    cases x with
    | int i =>
      refine iteF ?_
      refine ⟨_, rfl, _, rfl, ?_⟩
      refine ite2 (fun c => ?_) (fun c => ?_)
      · have e : numV b (.int i) = true := by simp [numV, dec_true c]
        rw [e] at q; exact q
      · refine ⟨_, rfl, _, _, rfl, rfl, _, rfl, ?_⟩
        have c' : ¬ b = 0 := dec_false c
        refine ite2 (fun c2 => ?_) (fun c2 => ?_)
        · refine ⟨_, rfl, _, _, rfl, rfl, ?_⟩
          have e : numV b (.int i) = decide (i < b) := by simp [numV, c', dec_true c2]
          rw [e] at q; exact q
        · have e : numV b (.int i) = false := by
            have := dec_false c2
            simp [numV, c', this]
          rw [e] at q; exact q
    | _ => exact iteT q
theorem ok_are_numbers (B : Bt mg) (F : Fn K mg "are_numbers" s_are_numbers ["by", "thing"]) (M : Ms K mg base A_NoBy A_NoName A_NoNumber A_NoRow A_NoText A_RuleError A_TooBig A_TooFar A_TooLong) (C_is_number : Cal P w K mg base "is_number" 2 ["by", "thing"] spNumP) : Cal P w K mg base "are_numbers" 3 ["by", "thing"] spAre := by
  refine F.cal sc_are_numbers (fun vs H Q E h => ?_) (fun f cdv A outer s H vs Q E hr h => ?_)
  · obtain ⟨b, x, rfl, _⟩ := h; rfl
  · obtain ⟨b, x, rfl, ⟨⟨t, ty⟩, hx⟩, q⟩ := h
    refine ⟨_, (pss_cons (ps_if (PW.pt (pw_or (pt_not (pt_val (pe_callB v_isinstance rfl B.b_isinstance boot_isinstance (pa_n (pv 1) (pa_n (pe_tyB rfl B.b_tuple boot_tuple) pa_nil))))) (pw_or1 (pt_cmpR op_gt (pe_callB (xlen K) rfl B.b_len boot_len (pa_n (pv 1) pa_nil)) (pe_globI rfl B.g_LONGEST) (nomark _)))))
      (pss_one (ps_ret pe_bl))
      pss_nil)
      (pss_one (ps_ret (pe_callB (xall K rfl) rfl B.b_all boot_all (pa_cons (pe_comp (sc := cs_are_numbers1) (N := ["part", "by"]) (ix := [none, some 0]) (comp_mk (by kernel_rfl) (by kernel_rfl) (by kernel_rfl) (by kernel_rfl) (by kernel_rfl) (by kernel_rfl) (by kernel_rfl) (by kernel_rfl)) rfl (xseq K (pv 1)) (fun cl C s₀ H₀ ex => ⟨(pg_name (i := 0) (show (["part", "by"] : List Str).Nodup by decide +kernel) rfl (Or.inl rfl)), pif_nil, (pe_callC C_is_number hr rfl (pa_n (pv 1) (pa_n (pv 0) pa_nil)))⟩)) pa_nil))))), ?_⟩
    refine ⟨_, rfl, x, "tuple", t, rfl, ty, by simp, _, rfl, ?_⟩
    by_cases ht : t = "tuple"
    · subst ht
      obtain ⟨a, xs, rfl, hH⟩ := ty_tuple ty
      have ea : areV H b (.ref a) = (decide (xs.length ≤ 12) && xs.all (numV b)) := by simp only [areV, hH]
      rw [ea] at q
      refine iteF ?_
      refine ⟨_, rfl, .ref a, xs.length, rfl, .inr ⟨_, SqT.of hH, rfl⟩, _, _, rfl, rfl, _, rfl, ?_⟩
      refine ite2 (fun c => ?_) (fun c => ?_)
      · have c' : (12 : Int) < (xs.length : Int) := dec_true c
        have e : decide (xs.length ≤ 12) = false := decide_eq_false (by omega)
        rw [e, Bool.false_and] at q
        exact q H (Same.refl H)
      · have c' : ¬ (12 : Int) < (xs.length : Int) := dec_false c
        have e : decide (xs.length ≤ 12) = true := decide_eq_true (by omega)
        rw [e, Bool.true_and] at q
        refine ⟨_, rfl, a, rfl, .inr ⟨⟨_, SqT.of hH⟩, comp_pure (its_tup (SqT.of hH)) (Nat.le_trans (show xs.length ≤ 12 by omega) (by decide)) (rest := [some (.int b)]) rfl (fun _ => true) (fun y => .bl (numV b y)) ?_ ?_ ?_⟩⟩
        · intro H2 y g2 hy k hk; exact hk
        · intro H2 y g2 hy _ k hk
          exact ⟨_, rfl, _, rfl, b, y, rfl, (hx a xs rfl hH y hy).same g2, hk⟩
        · intro D hD
          refine ⟨D, xs.map (numV b), rfl, SqL.of (by rw [upd_same, List.filter_eq_self.mpr (by simp), List.map_map]; rfl), ?_⟩
          have e2 : (xs.map (numV b)).all id = xs.all (numV b) := by rw [List.all_map]; rfl
          rw [e2]
          exact q _ (Same.new hD _)
    · have e1 : subB t "tuple" = false := by
        have hm := (tyNm_of (K := K) ty).2
        simp only [List.mem_cons, List.not_mem_nil, or_false] at hm
        rcases hm with rfl | rfl | rfl | rfl | rfl | rfl | rfl <;> first | decide | exact absurd rfl ht
      have e2 : areV H b x = false := by
        cases x with
        | ref a =>
          cases hq : H a with
          | none => simp [areV, hq]
          | some o =>
            cases o with
            | tup xs =>
              exfalso
              have : tyNm H (.ref a) = some "tuple" := by simp only [tyNm, hq]
              rw [this] at ty; cases ty; exact ht rfl
            | _ => simp [areV, hq]
        | _ => rfl
      rw [e1]
      rw [e2] at q
      exact iteT (q H (Same.refl H))
theorem ok_is_row (B : Bt mg) (F : Fn K mg "is_row" s_is_row ["thing"]) (M : Ms K mg base A_NoBy A_NoName A_NoNumber A_NoRow A_NoText A_RuleError A_TooBig A_TooFar A_TooLong) (C_are_numbers : Cal P w K mg base "are_numbers" 3 ["by", "thing"] spAre) (C_is_by : Cal P w K mg base "is_by" 2 ["thing"] spBy) : Cal P w K mg base "is_row" 4 ["thing"] spIsRow := by
  refine F.cal sc_is_row (fun vs H Q E h => ?_) (fun f cdv A outer s H vs Q E hr h => ?_)
  · obtain ⟨x, rfl, _⟩ := h; rfl
  · obtain ⟨x, rfl, ⟨⟨t, ty⟩, hx⟩, q⟩ := h
    refine ⟨_, (pss_cons (ps_if (PW.pt (pw_or (pt_not (pt_val (pe_callB v_isinstance rfl B.b_isinstance boot_isinstance (pa_n (pv 0) (pa_n (pe_tyB rfl B.b_tuple boot_tuple) pa_nil))))) (pw_or1 (pt_cmpR (xne K hr) (pe_callB (xlen K) rfl B.b_len boot_len (pa_n (pv 0) pa_nil)) pe_int (nomark _)))))
      (pss_one (ps_ret pe_bl))
      pss_nil)
      (pss_cons (ps_set (i := 1) sc_is_row.nd rfl (Or.inl rfl) (pe_ix (xix K) (pv 0) pe_int (fun _ _ => rfl)))
      (pss_cons (ps_set (i := 2) sc_is_row.nd rfl (Or.inl rfl) (pe_ix (xix K) (pv 0) pe_int (fun _ _ => rfl)))
      (pss_cons (ps_set (i := 3) sc_is_row.nd rfl (Or.inl rfl) (pe_ix (xix K) (pv 0) pe_int (fun _ _ => rfl)))
      (pss_cons (ps_if (PW.pt (pw_or (pt_not (pt_val (pe_callC C_is_by hr rfl (pa_n (pv 1) pa_nil)))) (pw_or (pt_not (pt_val (pe_callC C_are_numbers hr rfl (pa_n (pv 1) (pa_n (pv 2) pa_nil))))) (pw_or1 (pt_not (pt_val (pe_callC C_are_numbers hr rfl (pa_n (pv 1) (pa_n (pv 3) pa_nil)))))))))
      (pss_one (ps_ret pe_bl))
      pss_nil)
      (pss_one (ps_ret (pe_cmpR (xeq K hr) (pe_callB (xlen K) rfl B.b_len boot_len (pa_n (pv 2) pa_nil)) (pe_callB (xlen K) rfl B.b_len boot_len (pa_n (pv 3) pa_nil)) (nomark _))))))))), ?_⟩
    refine ⟨_, rfl, x, "tuple", t, rfl, ty, by simp, _, rfl, ?_⟩
    by_cases ht : t = "tuple"
    · subst ht
      obtain ⟨a, xs, rfl, hH⟩ := ty_tuple ty
      refine iteF ?_
      refine ⟨_, rfl, .ref a, xs.length, rfl, .inr ⟨_, SqT.of hH, rfl⟩, _, rfl, ?_⟩
      refine ite2 (fun c => ?_) (fun c => ?_)
      · have e : rowV H (.ref a) = false := by
          match xs, c, hH with
          | [], _, hH => simp [rowV, hH]
          | [_], _, hH => simp [rowV, hH]
          | [_, _], _, hH => simp [rowV, hH]
          | [_, _, _], c, _ => exact absurd c (by simp)
          | _ :: _ :: _ :: _ :: _, _, hH => simp [rowV, hH]
        rw [e] at q
        exact q H (Same.refl H)
      · match xs, c, hH, hx with
        | [], c, _, _ => exact absurd (by simp) c
        | [_], c, _, _ => exact absurd (by simp) c
        | [_, _], c, _, _ => exact absurd (by simp) c
        | _ :: _ :: _ :: _ :: r, c, _, _ => exact absurd (by simp; omega) c
        | [y0, y1, y2], _, hH, hx =>
          have k0 := hx a _ rfl hH y0 (by simp)
          have k1 := hx a _ rfl hH y1 (by simp)
          have k2 := hx a _ rfl hH y2 (by simp)
          obtain ⟨t0, ty0⟩ := k0.1
          refine ⟨_, rfl, _, y0, .inr (SqT.of hH), rfl, ?_⟩
          refine ⟨_, rfl, _, y1, .inr (SqT.of hH), rfl, ?_⟩
          refine ⟨_, rfl, _, y2, .inr (SqT.of hH), rfl, ?_⟩
          refine ⟨_, rfl, y0, t0, rfl, ty0, _, rfl, ?_⟩
          have er : rowV H (.ref a) = rowB H y0 y1 y2 := by simp only [rowV, hH]
          rw [er] at q
          cases hb : byV y0 with
          | false =>
            refine iteT ?_
            rw [rowB_no hb] at q
            exact q H (Same.refl H)
          | true =>
            refine iteF ?_
            cases y0 with
            | int b =>
              have eb : rowB H (.int b) y1 y2 = (byV (.int b) && areV H b y1 && areV H b y2 && decide (lenV H y1 = lenV H y2)) := rfl
              rw [eb, hb, Bool.true_and] at q
              refine ⟨_, rfl, _, rfl, b, y1, rfl, k1, fun H1 g1 => ?_⟩
              refine ⟨_, rfl, ?_⟩
              cases ha1 : areV H b y1 with
              | false =>
                rw [ha1, Bool.false_and, Bool.false_and] at q
                exact iteT (q H1 g1)
              | true =>
                rw [ha1, Bool.true_and] at q
                refine iteF ?_
                refine ⟨_, rfl, _, rfl, b, y2, rfl, k2.same g1, fun H2 g2 => ?_⟩
                have e2 : areV H1 b y2 = areV H b y2 := areV_same k2.1 g1
                rw [e2]
                refine ⟨_, rfl, ?_⟩
                cases ha2 : areV H b y2 with
                | false =>
                  rw [ha2, Bool.false_and] at q
                  exact iteT (q H2 (g1.trans g2))
                | true =>
                  rw [ha2, Bool.true_and] at q
                  refine iteF ?_
                  obtain ⟨p1, z1, rfl, h1⟩ := areV_tup ha1
                  obtain ⟨p2, z2, rfl, h2⟩ := areV_tup ha2
                  have g := g1.trans g2
                  have el : decide (lenV H (.ref p1) = lenV H (.ref p2)) = decide ((z1.length : Int) = (z2.length : Int)) := by
                    have a1 : lenV H (.ref p1) = z1.length := by simp only [lenV, h1]
                    have a2 : lenV H (.ref p2) = z2.length := by simp only [lenV, h2]
                    rw [a1, a2, decide_eq_decide]; omega
                  rw [el] at q
                  exact ⟨_, rfl, .ref p1, z1.length, rfl, .inr ⟨_, SqT.of (g _ _ h1), rfl⟩, _, rfl, .ref p2, z2.length, rfl, .inr ⟨_, SqT.of (g _ _ h2), rfl⟩, q H2 g⟩
            | _ => cases hb
    · have e1 : subB t "tuple" = false := by
        have hm := (tyNm_of (K := K) ty).2
        simp only [List.mem_cons, List.not_mem_nil, or_false] at hm
        rcases hm with rfl | rfl | rfl | rfl | rfl | rfl | rfl <;> first | decide | exact absurd rfl ht
      have e2 : rowV H x = false := by
        cases x with
        | ref a =>
          cases hq : H a with
          | none => simp [rowV, hq]
          | some o =>
            cases o with
            | tup xs =>
              exfalso
              have : tyNm H (.ref a) = some "tuple" := by simp only [tyNm, hq]
              rw [this] at ty; cases ty; exact ht rfl
            | _ => simp [rowV, hq]
        | _ => rfl
      rw [e1]
      rw [e2] at q
      exact iteT (q H (Same.refl H))
theorem ok_Lcell_at (B : Bt mg) (F : Fn K mg "_law_cell_at" s_Lcell_at ["_law_script", "_law_k"]) (M : Ms K mg base A_NoBy A_NoName A_NoNumber A_NoRow A_NoText A_RuleError A_TooBig A_TooFar A_TooLong) : Cal P w K mg base "_law_cell_at" 1 ["_law_script", "_law_k"] (spCell K) := by
  refine F.cal sc_Lcell_at (fun vs H Q E h => ?_) (fun f cdv A outer s H vs Q E hr h => ?_)
  · obtain ⟨a, ns, k, rfl, _⟩ := h; rfl
  · obtain ⟨a, ns, k, rfl, hS, h0, q⟩ := h
    refine ⟨_, (pss_cons (ps_if (pt_cmpR op_lt (pv 1) (pe_callB (xlen K) rfl B.b_len boot_len (pa_n (pv 0) pa_nil)) (nomark _))
      (pss_one (ps_ret (pe_ix (xix K) (pv 0) (pv 1) (fun _ _ => rfl))))
      pss_nil)
      (pss_one (ps_ret pe_int))), ?_⟩
    have hl : (ns.map V.int).length = ns.length := List.length_map _
    refine ⟨_, rfl, _, rfl, .ref a, ns.length, rfl, .inl ⟨_, hS, hl.symm⟩, _, _, rfl, rfl, _, rfl, ?_⟩
    refine ite2 (fun c => ?_) (fun c => ?_)
    · have c' : k < (ns.length : Int) := dec_true c
      refine ⟨_, rfl, _, rfl, ns.map V.int, .int (ns.getD k.toNat 0), .inl hS, atI_ints h0 c', ?_⟩
      have e : cellAt ns k = ns.getD k.toNat 0 := if_pos c'
      rw [e] at q; exact q
    · have c' : ¬ k < (ns.length : Int) := dec_false c
      have e : cellAt ns k = 0 := if_neg c'
      rw [e] at q; exact q
theorem ok_Lmix (B : Bt mg) (F : Fn K mg "_law_mix" s_Lmix ["_law_cell", "_law_k"]) (M : Ms K mg base A_NoBy A_NoName A_NoNumber A_NoRow A_NoText A_RuleError A_TooBig A_TooFar A_TooLong) : Cal P w K mg base "_law_mix" 1 ["_law_cell", "_law_k"] spMix := by
  refine F.cal sc_Lmix (fun vs H Q E h => ?_) (fun f cdv A outer s H vs Q E hr h => ?_)
  · obtain ⟨c, k, rfl, _⟩ := h; rfl
  · obtain ⟨c, k, rfl, h0, h1, q⟩ := h
    refine ⟨_, (pss_one (ps_ret (pe_op op_mod (pe_op v_mul (pe_op (xadd K) (pe_op op_mod (pv 0) pe_int) pe_int) (pe_op (xadd K) pe_int (pe_op v_mul pe_int (pv 1)))) pe_int))), ?_⟩
    have b1 : 0 ≤ c % MM := Int.emod_nonneg _ (by decide)
    have b2 : c % MM < MM := Int.emod_lt_of_pos _ (by decide)
    refine ⟨_, rfl, _, _, rfl, rfl, (by decide : (0 : Int) < 2147483647), ?_⟩
    refine ⟨_, rfl, mulL (by decide) (by decide), ?_⟩
    refine ⟨mulL (by show -(2 ^ 64) < c % 2147483647 + 1; omega) (by show c % 2147483647 + 1 < 2 ^ 64; omega), _, _, rfl, rfl, (by decide : (0 : Int) < 2147483647), ?_⟩
    exact q
theorem ok_Lby (B : Bt mg) (F : Fn K mg "_law_by" s_Lby ["_law_number_here"]) (M : Ms K mg base A_NoBy A_NoName A_NoNumber A_NoRow A_NoText A_RuleError A_TooBig A_TooFar A_TooLong) : Cal P w K mg base "_law_by" 1 ["_law_number_here"] spByL := by
  refine F.cal sc_Lby (fun vs H Q E h => ?_) (fun f cdv A outer s H vs Q E hr h => ?_)
  · obtain ⟨n, rfl, _⟩ := h; rfl
  · obtain ⟨n, rfl, q⟩ := h
    refine ⟨_, (pss_cons (ps_set (i := 1) sc_Lby.nd rfl (Or.inl rfl) (pe_ix (xix K) (pe_lst (pa_k pe_int (pa_k pe_int (pa_k pe_int (pa_k pe_int (pa_k pe_int (pa_k pe_int (pa_k pe_int (pa_k pe_int pa_nil))))))))) (pe_op op_mod (pe_op op_fdiv (pv 0) pe_int) pe_int) (fun _ _ => rfl)))
      (pss_one (ps_ret (pe_ix (xix K) (pe_lst (pa_k pe_int (pa_k pe_int (pa_k pe_int (pa_k pe_int (pa_k pe_int (pa_k pe_int (pa_k pe_int (pa_k pe_int (pa_n (pv 1) (pa_k pe_int pa_nil))))))))))) (pe_op op_mod (pv 0) pe_int) (fun _ _ => rfl))))), ?_⟩
    refine ⟨(by show 8 ≤ sizeLine; decide), fun p hp => ?_⟩
    refine ⟨_, rfl, _, _, rfl, rfl, ⟨by decide, by decide⟩, _, _, rfl, rfl, (by decide : (0 : Int) < 8), ?_⟩
    refine ⟨_, _, .inl (SqL.of upd_same), atI_ints (ns := byL) (emod_lo _ (by decide)) (emod_hi _ (by decide)), ?_⟩
    refine ⟨_, rfl, (by show 10 ≤ sizeLine; decide), fun p2 hp2 => ?_⟩
    refine ⟨_, rfl, _, _, rfl, rfl, (by decide : (0 : Int) < 10), ?_⟩
    refine ⟨_, _, .inl (SqL.of upd_same), atI_ints (ns := byM (byL.getD (n / 10 % 8).toNat 0)) (emod_lo _ (by decide)) (emod_hi _ (by decide)), ?_⟩
    exact q _ ((Same.new hp _).trans (Same.new hp2 _))
theorem ok_Lnumber (B : Bt mg) (F : Fn K mg "_law_number" s_Lnumber ["_law_by_here", "_law_number_here"]) (M : Ms K mg base A_NoBy A_NoName A_NoNumber A_NoRow A_NoText A_RuleError A_TooBig A_TooFar A_TooLong) : Cal P w K mg base "_law_number" 1 ["_law_by_here", "_law_number_here"] spNumber := by
  refine F.cal sc_Lnumber (fun vs H Q E h => ?_) (fun f cdv A outer s H vs Q E hr h => ?_)
  · obtain ⟨b, n, rfl, _⟩ := h; rfl
  · obtain ⟨b, n, rfl, h0, h1, q⟩ := h
    have h1' : n < 2147483647 := h1
    refine ⟨_, (pss_cons (ps_if (pt_cmpR op_gt (pv 0) pe_int (nomark _))
      (pss_one (ps_ret (pe_op op_mod (pv 1) (pv 0))))
      pss_nil)
      (pss_cons (ps_set (i := 2) sc_Lnumber.nd rfl (Or.inl rfl) (pe_op op_mod (pv 1) pe_int))
      (pss_cons (ps_if (pt_cmpR op_lt (pv 2) pe_int (nomark _))
      (pss_one (ps_ret pe_int))
      pss_nil)
      (pss_cons (ps_if (pt_cmpR op_lt (pv 2) pe_int (nomark _))
      (pss_one (ps_ret (pe_op op_sub (pe_op op_mod (pe_op op_fdiv (pv 1) pe_int) pe_int) pe_int)))
      pss_nil)
      (pss_cons (ps_if (pt_cmpR op_lt (pv 2) pe_int (nomark _))
      (pss_one (ps_ret (pe_op op_sub (pe_op op_mod (pe_op op_fdiv (pv 1) pe_int) pe_int) pe_int)))
      pss_nil)
      (pss_one (ps_ret (pe_op v_mul (pe_op op_mod (pe_op op_pow (pe_op op_fdiv (pv 1) pe_int) pe_int) (pe_op op_pow pe_int pe_int)) (pe_op op_sub pe_int (pe_op v_mul pe_int (pe_op op_mod (pe_op op_fdiv (pv 1) pe_int) pe_int))))))))))), ?_⟩
    refine ⟨_, rfl, _, _, rfl, rfl, _, rfl, ?_⟩
    refine ite2 (fun c => ?_) (fun c => ?_)
    · have c' : 0 < b := dec_true c
      refine ⟨_, rfl, _, rfl, _, _, rfl, rfl, c', ?_⟩
      have e : numberI b n = n % b := if_pos c'
      rw [e] at q; exact q
    · have c' : ¬ b > 0 := dec_false c
      refine ⟨_, rfl, _, _, rfl, rfl, (by decide : (0 : Int) < 8), ?_⟩
      refine ⟨_, rfl, _, _, rfl, rfl, _, rfl, ?_⟩
      refine ite2 (fun c1 => ?_) (fun c1 => ?_)
      · have e : numberI b n = 0 := by rw [numberI, if_neg c', if_pos (dec_true c1)]
        rw [e] at q; exact q
      · refine ⟨_, rfl, _, _, rfl, rfl, _, rfl, ?_⟩
        refine ite2 (fun c2 => ?_) (fun c2 => ?_)
        · refine ⟨_, rfl, _, _, rfl, rfl, ⟨by decide, by decide⟩, _, _, rfl, rfl, (by decide : (0 : Int) < 5), _, _, rfl, rfl, ?_⟩
          have e : numberI b n = n / 8 % 5 - 2 := by rw [numberI, if_neg c', if_neg (dec_false c1), if_pos (dec_true c2)]
          rw [e] at q; exact q
        · refine ⟨_, rfl, _, _, rfl, rfl, _, rfl, ?_⟩
          refine ite2 (fun c3 => ?_) (fun c3 => ?_)
          · refine ⟨_, rfl, _, _, rfl, rfl, ⟨by decide, by decide⟩, _, _, rfl, rfl, (by decide : (0 : Int) < 41), _, _, rfl, rfl, ?_⟩
            have e : numberI b n = n / 8 % 41 - 20 := by rw [numberI, if_neg c', if_neg (dec_false c1), if_neg (dec_false c2), if_pos (dec_true c3)]
            rw [e] at q; exact q
          · refine ⟨_, rfl, _, _, rfl, rfl, ⟨by decide, by decide⟩, _, _, rfl, rfl, ⟨by decide, by decide, by omega⟩, ?_⟩
            refine ⟨_, _, rfl, rfl, ⟨by decide, by decide, by decide⟩, _, _, rfl, rfl, (by decide : (0 : Int) < 10 ^ (20 : Int).toNat), ?_⟩
            refine ⟨_, rfl, _, _, rfl, rfl, ⟨by decide, by decide⟩, _, _, rfl, rfl, (by decide : (0 : Int) < 2), ?_⟩
            have b2 : 0 ≤ n / 16 % 2 := emod_lo _ (by decide)
            have b3 : n / 16 % 2 < 2 := emod_hi _ (by decide)
            refine ⟨mulL (by decide) (by decide), _, _, rfl, rfl, mulR (by show -(2 ^ 64) < 1 - 2 * (n / 16 % 2); omega) (by show 1 - 2 * (n / 16 % 2) < 2 ^ 64; omega), ?_⟩
            have e : numberI b n = (n / 8) ^ 3 % 10 ^ 20 * (1 - 2 * (n / 16 % 2)) := by rw [numberI, if_neg c', if_neg (dec_false c1), if_neg (dec_false c2), if_neg (dec_false c3)]
            rw [e] at q; exact q
theorem ok_Lnumbers (B : Bt mg) (F : Fn K mg "_law_numbers" s_Lnumbers ["_law_by_here", "_law_cell", "_law_many"]) (M : Ms K mg base A_NoBy A_NoName A_NoNumber A_NoRow A_NoText A_RuleError A_TooBig A_TooFar A_TooLong) (C_Lnumber : Cal P w K mg base "_law_number" 1 ["_law_by_here", "_law_number_here"] spNumber) : Cal P w K mg base "_law_numbers" 2 ["_law_by_here", "_law_cell", "_law_many"] spNumbers := by
  refine F.cal sc_Lnumbers (fun vs H Q E h => ?_) (fun f cdv A outer s H vs Q E hr h => ?_)
  · obtain ⟨b, c, m, rfl, _⟩ := h; rfl
  · obtain ⟨b, c, m, rfl, hc0, hc1, hm0, hm1, q⟩ := h
    refine ⟨_, (pss_cons (ps_set (i := 3) sc_Lnumbers.nd rfl (Or.inl rfl) (pe_lst pa_nil))
      (pss_cons (ps_set (i := 4) sc_Lnumbers.nd rfl (Or.inl rfl) (pv 1))
      (pss_cons (ps_for PassesOwn.never rfl (pi_range1 rfl B.b_range (pa_n (pv 2) pa_nil)) (pg_name (i := 5) sc_Lnumbers.nd rfl (Or.inl rfl))
      (pss_cons (ps_set (i := 4) sc_Lnumbers.nd rfl (Or.inl rfl) (pe_op op_mod (pe_op v_mul (pv 4) pe_int) pe_int))
      (pss_one (ps_expr (xappend K (pv 3) (pe_callC C_Lnumber hr rfl (pa_n (pv 0) (pa_n (pv 4) pa_nil))))))))
      (pss_one (ps_ret (pv 3)))))), ?_⟩
    refine ⟨Nat.zero_le _, fun l hl => ?_⟩
    refine ⟨_, rfl, ?_⟩
    refine ⟨_, rfl, m, rfl, (by omega : -(2 ^ 62) ≤ m), (by omega : m < 2 ^ 62), ?_⟩
    refine for_range (lo := 0) (n := m.toNat) (fun i σ' H' => ∃ o, σ' = [some (.int b), some (.int c), some (.int m), some (.ref l), some (.int (lcg c i)), o] ∧ H' l = some (.lst ((numbersI b c i).map V.int)) ∧ Same H H') ⟨none, rfl, upd_same, Same.new hl _⟩ ?_ ?_
    · rintro i σ' H' hi ⟨o, rfl, hL, g⟩
      have hr : 0 ≤ lcg c i ∧ lcg c i < 2147483647 := lcg_range hc0 hc1 i
      have hr1 := lcg_range hc0 hc1 (i + 1)
      refine ⟨_, rfl, mulL (by omega) (by omega), _, _, rfl, rfl, (by decide : (0 : Int) < 2147483647), ?_⟩
      refine ⟨_, rfl, .inl ⟨rfl, _, SqL.of hL⟩, _, rfl, _, rfl, b, _, rfl, hr1.1, hr1.2, ?_⟩
      refine ⟨l, _, _, rfl, rfl, hL, ?_, ?_⟩
      · rw [List.length_map, numbersI_len]
        exact Nat.lt_of_lt_of_le (show i < 1001 by omega) (by decide)
      · refine ⟨_, rfl, ?_, g.upd hl _⟩
        rw [upd_same]
        show _ = some (HO.lst ((numbersI b c i ++ [numberI b (lcg c (i + 1))]).map V.int))
        rw [List.map_append]; rfl
    · rintro σ' H' ⟨o, rfl, hL, g⟩
      refine ⟨_, rfl, ?_⟩
      exact q l H' g hl hL
theorem ok_Lrow (B : Bt mg) (F : Fn K mg "_law_row" s_Lrow ["_law_cell", "_law_most"]) (M : Ms K mg base A_NoBy A_NoName A_NoNumber A_NoRow A_NoText A_RuleError A_TooBig A_TooFar A_TooLong) (C_Lmix : Cal P w K mg base "_law_mix" 1 ["_law_cell", "_law_k"] spMix) (C_Lby : Cal P w K mg base "_law_by" 1 ["_law_number_here"] spByL) (C_Lnumbers : Cal P w K mg base "_law_numbers" 2 ["_law_by_here", "_law_cell", "_law_many"] spNumbers) : Cal P w K mg base "_law_row" 3 ["_law_cell", "_law_most"] spRow := by
  refine F.cal sc_Lrow (fun vs H Q E h => ?_) (fun f cdv A outer s H vs Q E hr h => ?_)
  · obtain ⟨c, m, rfl, _⟩ := h; rfl
  · obtain ⟨c, m, rfl, hm0, hm1, q⟩ := h
    refine ⟨_, (pss_cons (ps_set (i := 2) sc_Lrow.nd rfl (Or.inl rfl) (pe_callC C_Lmix hr rfl (pa_n (pv 0) (pa_k pe_int pa_nil))))
      (pss_cons (ps_set (i := 3) sc_Lrow.nd rfl (Or.inl rfl) (pe_callC C_Lby hr rfl (pa_n (pv 2) pa_nil)))
      (pss_cons (ps_set (i := 4) sc_Lrow.nd rfl (Or.inl rfl) (pe_op op_mod (pe_op op_fdiv (pv 2) pe_int) (pe_op (xadd K) (pv 1) pe_int)))
      (pss_cons (ps_set (i := 5) sc_Lrow.nd rfl (Or.inl rfl) (pe_callC C_Lnumbers hr rfl (pa_n (pv 3) (pa_cons (pe_callC C_Lmix hr rfl (pa_n (pv 0) (pa_k pe_int pa_nil))) (pa_n (pv 4) pa_nil)))))
      (pss_one (ps_ret (pe_tup (pa_n (pv 3) (pa_cons (pe_callTy (xtuple K) rfl B.b_tuple boot_tuple (pa_n (pv 5) pa_nil)) (pa_cons (pe_callTy (xtuple K) rfl B.b_tuple boot_tuple (pa_cons (pe_callC C_Lnumbers hr rfl (pa_n (pv 3) (pa_cons (pe_callC C_Lmix hr rfl (pa_n (pv 0) (pa_k pe_int pa_nil))) (pa_n (pv 4) pa_nil)))) pa_nil)) pa_nil)))))))))), ?_⟩
    refine ⟨_, rfl, c, 1, rfl, by decide, by decide, ?_⟩
    refine ⟨_, rfl, _, rfl, fun H1 g1 => ?_⟩
    refine ⟨_, rfl, _, _, rfl, rfl, ⟨by decide, by decide⟩, _, rfl, _, _, rfl, rfl, (by show 0 < m + 1; omega), ?_⟩
    have hk := emod_hi (mixI c 1 / 10) (show 0 < m + 1 by omega)
    have hk0 := emod_lo (mixI c 1 / 10) (show 0 < m + 1 by omega)
    refine ⟨_, rfl, _, rfl, c, 2, rfl, by decide, by decide, ?_⟩
    refine ⟨_, rfl, _, _, _, rfl, mixI_lo _ _, mixI_hi _ _, hk0, (by omega), fun l1 H2 g2 hl1 hr1 => ?_⟩
    refine ⟨_, rfl, _, rfl, l1, _, rfl, .inl ⟨SqL.of hr1, fun p hp => ?_⟩⟩
    refine ⟨_, rfl, _, rfl, c, 3, rfl, by decide, by decide, ?_⟩
    refine ⟨_, rfl, _, _, _, rfl, mixI_lo _ _, mixI_hi _ _, hk0, (by omega), fun l2 H3 g3 hl2 hr2 => ?_⟩
    refine ⟨l2, _, rfl, .inl ⟨SqL.of hr2, fun p2 hp2 => ?_⟩⟩
    refine ⟨(by show 3 ≤ sizeLine; decide), fun p3 hp3 => ?_⟩
    have ga := Same.new hp (.tup ((numbersI (byI (mixI c 1)) (mixI c 2) (mixI c 1 / 10 % (m + 1)).toNat).map V.int))
    have gb := Same.new hp2 (.tup ((numbersI (byI (mixI c 1)) (mixI c 3) (mixI c 1 / 10 % (m + 1)).toNat).map V.int))
    have gc := Same.new hp3 (.tup [.int (byI (mixI c 1)), .ref p, .ref p2])
    refine q _ _ ((((g1.trans g2).trans ga).trans g3).trans (gb.trans gc)) ⟨p3, p, p2, rfl, upd_same, ?_, ?_⟩
    · exact gc _ _ (gb _ _ (g3 _ _ upd_same))
    · exact gc _ _ upd_same
theorem ok_Lodd (B : Bt mg) (F : Fn K mg "_law_odd" s_Lodd ["_law_number_here"]) (M : Ms K mg base A_NoBy A_NoName A_NoNumber A_NoRow A_NoText A_RuleError A_TooBig A_TooFar A_TooLong) : Cal P w K mg base "_law_odd" 1 ["_law_number_here"] spOdd := by
  refine F.cal sc_Lodd (fun vs H Q E h => ?_) (fun f cdv A outer s H vs Q E hr h => ?_)
  · obtain ⟨n, rfl, _⟩ := h; rfl
  · obtain ⟨n, rfl, q⟩ := h
    refine ⟨_, (pss_cons (ps_set (i := 1) sc_Lodd.nd rfl (Or.inl rfl) (pe_lst (pa_k pe_non (pa_k pe_bl (pa_k pe_bl (pa_k pe_str (pa_k pe_str (pa_l (pe_lst pa_nil) (pa_t (pe_tup pa_nil) (pa_d pe_dnewK (pa_l (pe_lst (pa_k pe_int pa_nil)) (pa_t (pe_tup (pa_k pe_int pa_nil)) (pa_k pe_str (pa_d (pe_disp (pps_cons pe_int pe_int pps_nil) rfl rfl (List.cons_ne_nil _ _) (by decide)) pa_nil))))))))))))))
      (pss_one (ps_ret (pe_ix (xix K) (pv 1) (pe_op op_mod (pv 0) pe_int) (fun _ _ => rfl))))), ?_⟩
    refine ⟨Nat.zero_le _, fun a5 h5 => ?_⟩
    refine ⟨Nat.zero_le _, fun a6 h6 => ?_⟩
    intro a7 h7
    refine ⟨(by show 1 ≤ sizeLine; decide), fun a8 h8 => ?_⟩
    refine ⟨(by show 1 ≤ sizeLine; decide), fun a9 h9 => ?_⟩
    intro a11 h11
    refine ⟨upd_same, [(.inl 7, .int 7)], rfl, by decide, ?_⟩
    refine ⟨(by show 12 ≤ sizeLine; decide), fun l hl => ?_⟩
    rw [upd_upd] at hl ⊢
    have g5 := Same.new h5 (.lst [])
    have g6 := Same.new h6 (.tup [])
    have g7 := Same.new h7 (.dK [])
    have g8 := Same.new h8 (.lst [.int 7])
    have g9 := Same.new h9 (.tup [.int 7])
    have g11 := Same.new h11 (.dK (mergeK [] [(.inl 7, .int 7)]))
    have gl := Same.new hl (.lst [.non, .bl true, .bl false, .str "7", .str "", .ref a5, .ref a6, .ref a7, .ref a8, .ref a9, .str "seven", .ref a11])
    have e11 := g11.trans gl
    have e9 := g9.trans e11
    have e8 := g8.trans e9
    have e7 := g7.trans e8
    have e6 := g6.trans e7
    have e5 := g5.trans e6
    have hk : 0 ≤ n % 12 := Int.emod_nonneg _ (by decide)
    have hk2 : n % 12 < 12 := Int.emod_lt_of_pos _ (by decide)
    refine ⟨_, rfl, _, rfl, _, _, rfl, rfl, (by decide : (0 : Int) < 12), ?_⟩
    have fin : ∀ v, OddIs _ (n % 12) v → Q v _ := fun v hv => q v _ e5 hv
    have hk12 : n % 12 = 0 ∨ n % 12 = 1 ∨ n % 12 = 2 ∨ n % 12 = 3 ∨ n % 12 = 4 ∨ n % 12 = 5 ∨ n % 12 = 6 ∨ n % 12 = 7 ∨ n % 12 = 8 ∨ n % 12 = 9 ∨ n % 12 = 10 ∨ n % 12 = 11 := by omega
    rcases hk12 with e | e | e | e | e | e | e | e | e | e | e | e
    · exact ⟨_, _, .inl (SqL.of upd_same), atI_len 0 e rfl, fin _ (.inl ⟨e, rfl⟩)⟩
    · exact ⟨_, _, .inl (SqL.of upd_same), atI_len 1 e rfl, fin _ (.inr (.inl ⟨e, rfl⟩))⟩
    · exact ⟨_, _, .inl (SqL.of upd_same), atI_len 2 e rfl, fin _ (.inr (.inr (.inl ⟨e, rfl⟩)))⟩
    · exact ⟨_, _, .inl (SqL.of upd_same), atI_len 3 e rfl, fin _ (.inr (.inr (.inr (.inl ⟨e, rfl⟩))))⟩
    · exact ⟨_, _, .inl (SqL.of upd_same), atI_len 4 e rfl, fin _ (.inr (.inr (.inr (.inr (.inl ⟨e, rfl⟩)))))⟩
    · exact ⟨_, _, .inl (SqL.of upd_same), atI_len 5 e rfl, fin _ (.inr (.inr (.inr (.inr (.inr (.inl ⟨e, a5, rfl, e6 _ _ upd_same⟩))))))⟩
    · exact ⟨_, _, .inl (SqL.of upd_same), atI_len 6 e rfl, fin _ (.inr (.inr (.inr (.inr (.inr (.inr (.inl ⟨e, a6, rfl, e7 _ _ upd_same⟩)))))))⟩
    · exact ⟨_, _, .inl (SqL.of upd_same), atI_len 7 e rfl, fin _ (.inr (.inr (.inr (.inr (.inr (.inr (.inr (.inl ⟨e, a7, rfl, e8 _ _ upd_same⟩))))))))⟩
    · exact ⟨_, _, .inl (SqL.of upd_same), atI_len 8 e rfl, fin _ (.inr (.inr (.inr (.inr (.inr (.inr (.inr (.inr (.inl ⟨e, a8, rfl, e9 _ _ upd_same⟩)))))))))⟩
    · exact ⟨_, _, .inl (SqL.of upd_same), atI_len 9 e rfl, fin _ (.inr (.inr (.inr (.inr (.inr (.inr (.inr (.inr (.inr (.inl ⟨e, a9, rfl, e11 _ _ upd_same⟩))))))))))⟩
    · exact ⟨_, _, .inl (SqL.of upd_same), atI_len 10 e rfl, fin _ (.inr (.inr (.inr (.inr (.inr (.inr (.inr (.inr (.inr (.inr (.inl ⟨e, rfl⟩)))))))))))⟩
    · exact ⟨_, _, .inl (SqL.of upd_same), atI_len 11 e rfl, fin _ (.inr (.inr (.inr (.inr (.inr (.inr (.inr (.inr (.inr (.inr (.inr ⟨e, a11, rfl, gl _ _ upd_same⟩)))))))))))⟩
theorem ok_is_written (B : Bt mg) (F : Fn K mg "is_written" s_is_written ["word"]) (M : Ms K mg base A_NoBy A_NoName A_NoNumber A_NoRow A_NoText A_RuleError A_TooBig A_TooFar A_TooLong) : Cal P w K mg base "is_written" 1 ["word"] spWritten := by
  refine F.cal sc_is_written (fun vs H Q E h => ?_) (fun f cdv A outer s H vs Q E hr h => ?_)
  · obtain ⟨w, rfl, _⟩ := h; rfl
  · obtain ⟨w, rfl, hw, q1, q2⟩ := h
    refine ⟨_, (pss_cons (ps_set (i := 1) sc_is_written.nd rfl (Or.inl rfl) (pe_bar (pe_ifExp (pt_val (xmeth1 K PySem.F.plainAttrs_str PySem.F.slot_str_startswith PySem.F.type_str_startswith mt_starts (pv 0) pe_str)) (pe_slice sl_str (pv 0) (po_some pe_int) po_none) (pv 0))))
      (pss_cons (ps_if (PW.pt (pw_or (pt_cmpR op_lt (pe_callB (xlen K) rfl B.b_len boot_len (pa_n (pv 1) pa_nil)) pe_int (nomark _)) (pw_or1 (pt_cmpR op_gt (pe_callB (xlen K) rfl B.b_len boot_len (pa_n (pv 1) pa_nil)) (pe_globI rfl B.g_MOST_FIGURES_READ) (nomark _)))))
      (pss_one (ps_ret pe_bl))
      pss_nil)
      (pss_cons (ps_if (pt_not (pt_val (pe_callB (xall K rfl) rfl B.b_all boot_all (pa_cons (pe_comp (sc := cs_is_written1) (N := ["figure"]) (ix := [none]) (comp_mk (by kernel_rfl) (by kernel_rfl) (by kernel_rfl) (by kernel_rfl) (by kernel_rfl) (by kernel_rfl) (by kernel_rfl) (by kernel_rfl)) rfl (pi_str (pv 1)) (fun cl C s₀ H₀ ex => ⟨(pg_name (i := 0) (show (["figure"] : List Str).Nodup by decide +kernel) rfl (Or.inl rfl)), pif_nil, (pe_cmpR op_in_str (pv 0) (pe_globS rfl B.g_FIGURES) (by with_unfolding_all rfl))⟩)) pa_nil))))
      (pss_one (ps_ret pe_bl))
      pss_nil)
      (pss_one (ps_ret (pe_or (pe_cmpR (xeq K hr) (pv 0) pe_str (nomark _)) (pe_one (pe_not (xmeth1 K PySem.F.plainAttrs_str PySem.F.slot_str_startswith PySem.F.type_str_startswith mt_starts (pv 1) pe_str))))))))), ?_⟩
    have h100 : (100000 : Nat) ≤ sizeLine := by decide
    refine Bar.by (fun v H1 => H1 = H ∧ ∃ z : Str, v = .str z ∧ z.cps.toList = Tx.fgs w ∧ z.length ≤ 100000) (fun kk hkk => ?_) ?_
    · refine ⟨_, rfl, rfl, w, _, rfl, rfl, _, rfl, ?_⟩
      rw [lit_min, Tx.starts_one]
      refine ite2 (fun c => ?_) (fun c => ?_)
      · refine ⟨_, rfl, _, rfl, w, rfl, by omega, hkk _ _ ⟨rfl, _, rfl, ?_, Nat.le_trans (PySem.Txt.slice_le w _ _) hw⟩⟩
        have := Tx.slice_from w 1
        unfold Tx.fgs
        rw [if_pos (dec_true c)]
        exact this
      · refine ⟨_, rfl, hkk _ _ ⟨rfl, w, rfl, ?_, hw⟩⟩
        unfold Tx.fgs
        rw [if_neg (dec_false c)]
    rintro v H1 ⟨rfl, z, rfl, hz, hzl⟩
    have zl : z.length = (Tx.fgs w).length := by rw [← hz]; simp [PySem.Str.length]
    have hiff := Tx.wr_iff w
    refine ⟨_, rfl, .str z, z.length, rfl, ⟨by omega, rfl⟩, _, _, rfl, rfl, _, rfl, ?_⟩
    refine ite2 (fun c => ?_) (fun c => ?_)
    · exact q2 (fun y => by have := (hiff.mp y).1; have := dec_true c; omega) _ (Same.refl _)
    have c1 := dec_false c
    refine ⟨_, rfl, .str z, z.length, rfl, ⟨by omega, rfl⟩, _, _, rfl, rfl, _, rfl, ?_⟩
    refine ite2 (fun c => ?_) (fun c => ?_)
    · exact q2 (fun y => by have := (hiff.mp y).2.1; have := dec_true c; omega) _ (Same.refl _)
    have c2 := dec_false c
    refine ⟨_, rfl, z, rfl, ?_⟩
    refine comp_pure its_str (by rw [List.length_map]; have : z.cps.toList.length = z.length := by simp [PySem.Str.length]
                                 omega) rfl (fun _ => true) (fun x => match x with | .str y => .bl (decide (y.cps.toList.head?.getD 0 ∈ Tx.figs)) | _ => .non) ?_ ?_ ?_
    · intro H2 x g2 hx k hk; exact hk
    · intro H2 x g2 hx _ k hk
      obtain ⟨ch, hch, rfl⟩ := List.mem_map.mp hx
      refine ⟨_, rfl, _, _, rfl, rfl, ?_⟩
      rw [PySem.StrLaws.found_one, lit_figs]
      exact hk
    intro D hD
    have el : (((z.cps.toList.map fun c => V.str ⟨#[c]⟩).filter fun _ => true).map fun x => match x with | .str y => V.bl (decide (y.cps.toList.head?.getD 0 ∈ Tx.figs)) | _ => V.non) = (z.cps.toList.map fun c => decide (c ∈ Tx.figs)).map V.bl := by
      rw [List.filter_eq_self.mpr (by simp), List.map_map, List.map_map]; rfl
    rw [el]
    have gD := Same.new hD (.lst ((z.cps.toList.map fun c => decide (c ∈ Tx.figs)).map V.bl))
    refine ⟨D, z.cps.toList.map fun c => decide (c ∈ Tx.figs), rfl, SqL.of upd_same, ?_⟩
    have ea : ((z.cps.toList.map fun c => decide (c ∈ Tx.figs)).all id) = true ↔ ∀ c ∈ Tx.fgs w, c ∈ Tx.figs := by
      rw [List.all_map, List.all_eq_true, hz]
      simp
    refine ⟨_, rfl, ?_⟩
    by_cases hd : ∀ c ∈ Tx.fgs w, c ∈ Tx.figs
    · rw [ea.mpr hd]
      refine iteF ?_
      have c1' : 1 ≤ (Tx.fgs w).length := by omega
      have c2' : (Tx.fgs w).length ≤ 60 := by omega
      refine ⟨_, rfl, _, rfl, ?_⟩
      refine ite2 (fun c => ?_) (fun c => ?_)
      · have hw0 : w.cps.toList = [48] := by
          have : w = PySem.Str.ofString "0" := dec_true c
          rw [this, lit_0]; rfl
        exact q1 (hiff.mpr ⟨c1', c2', hd, .inl hw0⟩) _ gD
      · have hw0 : ¬ w.cps.toList = [48] := fun y => by
          have : ¬ w = PySem.Str.ofString "0" := dec_false c
          exact this (PySem.Str.ext' (Array.toList_inj.mp (by rw [y, lit_0]; rfl)))
        refine ⟨_, rfl, rfl, z, _, rfl, rfl, _, rfl, ?_⟩
        rw [lit_0, Tx.starts_one]
        rw [hz] at gD ⊢
        by_cases hh : (Tx.fgs w).head? = some 48
        · rw [decide_eq_true hh]
          exact q2 (fun y => (hiff.mp y).2.2.2.elim hw0 fun e => e hh) _ gD
        · rw [decide_eq_false hh]
          exact q1 (hiff.mpr ⟨c1', c2', hd, .inr hh⟩) _ gD
    · have : ((z.cps.toList.map fun c => decide (c ∈ Tx.figs)).all id) = false := Bool.eq_false_iff.mpr fun y => hd (ea.mp y)
      rw [this]
      exact iteT (q2 (fun y => hd (hiff.mp y).2.2.1) _ gD)
theorem ok_read_number (B : Bt mg) (F : Fn K mg "read_number" s_read_number ["word"]) (M : Ms K mg base A_NoBy A_NoName A_NoNumber A_NoRow A_NoText A_RuleError A_TooBig A_TooFar A_TooLong) (C_is_written : Cal P w K mg base "is_written" 1 ["word"] spWritten) : Cal P w K mg base "read_number" 2 ["word"] (spReadN A_NoText) := by
  refine F.calF sc_read_number (fun vs H Q E h => ?_) (fun f cdv A outer s H vs Q E hr h => ?_)
  · obtain ⟨w, rfl, _⟩ := h; rfl
  · obtain ⟨w, rfl, hw, q1, q2⟩ := h
    refine ⟨_, (pss_cons (ps_if (pt_not (pt_val (pe_callC C_is_written hr rfl (pa_n (pv 0) pa_nil))))
      (pss_one (ps_raise M.x_NoText rfl (pa_k pe_str pa_nil)))
      pss_nil)
      (pss_one (ps_ret (pe_callTy call_intS rfl B.b_int boot_int (pa_n (pv 0) pa_nil))))), ?_⟩
    refine ⟨_, rfl, w, rfl, hw, fun y H1 g1 => ?_, fun y H1 g1 => ?_⟩
    · refine ⟨_, rfl, ?_⟩
      refine iteF ?_
      have := Wr.len y
      exact ⟨_, rfl, w, _, rfl, y.val.1, by omega, q1 y H1 g1⟩
    · refine ⟨_, rfl, ?_⟩
      exact iteT ⟨(by show 1 ≤ sizeLine; decide), q2 y H1 g1⟩
theorem ok_read_prime (B : Bt mg) (F : Fn K mg "read_prime" s_read_prime ["word"]) (M : Ms K mg base A_NoBy A_NoName A_NoNumber A_NoRow A_NoText A_RuleError A_TooBig A_TooFar A_TooLong) (C_read_number : Cal P w K mg base "read_number" 2 ["word"] (spReadN A_NoText)) (C_is_by : Cal P w K mg base "is_by" 2 ["thing"] spBy) : Cal P w K mg base "read_prime" 6 ["word"] (spReadP A_NoText) := by
  refine F.calF sc_read_prime (fun vs H Q E h => ?_) (fun f cdv A outer s H vs Q E hr h => ?_)
  · obtain ⟨w, rfl, _⟩ := h; rfl
  · obtain ⟨w, rfl, hw, q1, q2⟩ := h
    refine ⟨_, (pss_cons (ps_set (i := 1) sc_read_prime.nd rfl (Or.inl rfl) (pe_callCF C_read_number hr rfl (pa_n (pv 0) pa_nil)))
      (pss_cons (ps_if (PW.pt (pw_or (pt_cmpR (xeq K hr) (pv 1) pe_int (nomark _)) (pw_or1 (pt_not (pt_val (pe_callC C_is_by hr rfl (pa_n (pv 1) pa_nil)))))))
      (pss_one (ps_raise M.x_NoText rfl (pa_k pe_str pa_nil)))
      pss_nil)
      (pss_one (ps_ret (pv 1))))), ?_⟩
    refine ⟨_, rfl, w, rfl, hw, fun y H1 g1 => ?_, fun y H1 g1 => q2 (fun z => y z.1) H1 g1⟩
    refine ⟨_, rfl, _, rfl, ?_⟩
    refine ite2 (fun c => ⟨(by show 1 ≤ sizeLine; decide), q2 (fun z => z.2.1 (dec_true c)) H1 g1⟩) (fun c => ?_)
    refine ⟨_, rfl, _, "int", rfl, rfl, _, rfl, ?_⟩
    cases hb : byV (.int (Tx.valW w)) with
    | true => exact iteF ⟨_, rfl, q1 ⟨y, dec_false c, hb⟩ H1 g1⟩
    | false => exact iteT ⟨(by show 1 ≤ sizeLine; decide), q2 (fun z => by rw [z.2.2] at hb; cases hb) H1 g1⟩
theorem ok_read_words (B : Bt mg) (F : Fn K mg "read_words" s_read_words ["rule_words", "start_words", "by"]) (M : Ms K mg base A_NoBy A_NoName A_NoNumber A_NoRow A_NoText A_RuleError A_TooBig A_TooFar A_TooLong) (C_read_number : Cal P w K mg base "read_number" 2 ["word"] (spReadN A_NoText)) (C_is_row : Cal P w K mg base "is_row" 4 ["thing"] spIsRow) : Cal P w K mg base "read_words" 6 ["rule_words", "start_words", "by"] (spReadW A_NoText) := by
  refine F.calF sc_read_words (fun vs H Q E h => ?_) (fun f cdv A outer s H vs Q E hr h => ?_)
  · obtain ⟨a1, a2, A, B, b, rfl, _⟩ := h; rfl
  · obtain ⟨a1, a2, As, Bs, b, rfl, hA, hB, zA, zB, lA, lB, q1, q2⟩ := h
    refine ⟨_, (pss_cons (ps_set (i := 3) sc_read_words.nd rfl (Or.inl rfl) (pe_callTy (xtuple K) rfl B.b_tuple boot_tuple (pa_cons (pe_compE lets_go (sc := cs_read_words1) (N := ["word"]) (ix := [none]) (comp_mk (by kernel_rfl) (by kernel_rfl) (by kernel_rfl) (by kernel_rfl) (by kernel_rfl) (by kernel_rfl) (by kernel_rfl) (by kernel_rfl)) rfl (xseq K (pv 0)) (fun cl C s₀ H₀ ex => ⟨(pg_name (i := 0) (show (["word"] : List Str).Nodup by decide +kernel) rfl (Or.inl rfl)), pif_nil, (pe_callCB C_read_number hr rfl (pa_n (pv 0) pa_nil))⟩)) pa_nil)))
      (pss_cons (ps_set (i := 4) sc_read_words.nd rfl (Or.inl rfl) (pe_callTy (xtuple K) rfl B.b_tuple boot_tuple (pa_cons (pe_compE lets_go (sc := cs_read_words2) (N := ["word"]) (ix := [none]) (comp_mk (by kernel_rfl) (by kernel_rfl) (by kernel_rfl) (by kernel_rfl) (by kernel_rfl) (by kernel_rfl) (by kernel_rfl) (by kernel_rfl)) rfl (xseq K (pv 1)) (fun cl C s₀ H₀ ex => ⟨(pg_name (i := 0) (show (["word"] : List Str).Nodup by decide +kernel) rfl (Or.inl rfl)), pif_nil, (pe_callCB C_read_number hr rfl (pa_n (pv 0) pa_nil))⟩)) pa_nil)))
      (pss_cons (ps_set (i := 5) sc_read_words.nd rfl (Or.inl rfl) (pe_tup (pa_n (pv 2) (pa_n (pv 3) (pa_n (pv 4) pa_nil)))))
      (pss_cons (ps_if (pt_not (pt_val (pe_callC C_is_row hr rfl (pa_n (pv 5) pa_nil))))
      (pss_one (ps_raise M.x_NoText rfl (pa_k pe_str pa_nil)))
      pss_nil)
      (pss_one (ps_ret (pv 5))))))), ?_⟩
    refine ⟨_, rfl, a1, rfl, .inl ⟨⟨_, SqL.of hA⟩, comp_read (C := A_NoText) (E := E) hA zA rfl ?_ ?_ ?_⟩⟩
    · intro H2 w g2 hw k k1 k2
      exact ⟨_, rfl, w, rfl, lA w hw, k1, k2⟩
    rotate_left
    · exact fun y H1 g1 => q2 (fun z => y z.1) H1 g1
    intro wA D H1 hD g1 h1
    refine ⟨D, _, rfl, .inl ⟨SqL.of h1, fun t1 ht1 => ?_⟩⟩
    have g2 := Same.new ht1 (.tup ((As.map Tx.valW).map V.int))
    have h2 : (upd H1 t1 (.tup ((As.map Tx.valW).map V.int))) t1 = some (.tup ((As.map Tx.valW).map V.int)) := upd_same
    generalize upd H1 t1 (.tup ((As.map Tx.valW).map V.int)) = H2 at g2 h2
    have g12 := g1.trans g2
    refine ⟨_, rfl, a2, rfl, .inl ⟨⟨_, SqL.of (g12 _ _ hB)⟩, comp_read (C := A_NoText) (E := E) (g12 _ _ hB) zB rfl ?_ ?_ ?_⟩⟩
    · intro H3 w g3 hw k k1 k2
      exact ⟨_, rfl, w, rfl, lB w hw, k1, k2⟩
    rotate_left
    · exact fun y H3 g3 => q2 (fun z => y z.2.1) H3 (g12.trans g3)
    intro wB D2 H3 hD2 g3 h3
    refine ⟨D2, _, rfl, .inl ⟨SqL.of h3, fun t2 ht2 => ?_⟩⟩
    have g4 := Same.new ht2 (.tup ((Bs.map Tx.valW).map V.int))
    refine ⟨_, rfl, _, rfl, _, rfl, (by show 3 ≤ sizeLine; decide), fun t3 ht3 => ?_⟩
    have g5 := Same.new ht3 (.tup [.int b, .ref t1, .ref t2])
    have hR : RowIs (upd (upd H3 t2 (.tup ((Bs.map Tx.valW).map V.int))) t3 (.tup [.int b, .ref t1, .ref t2])) (.ref t3) ⟨b, As.map Tx.valW, Bs.map Tx.valW⟩ := ⟨t3, t1, t2, rfl, upd_same, (g3.trans (g4.trans g5)) _ _ h2, g5 _ _ upd_same⟩
    have gA := g12.trans (g3.trans (g4.trans g5))
    generalize upd (upd H3 t2 (.tup ((Bs.map Tx.valW).map V.int))) t3 (.tup [.int b, .ref t1, .ref t2]) = H5 at hR gA
    refine ⟨_, rfl, _, rfl, hR.knd, fun H6 g6 => ?_⟩
    refine ⟨_, rfl, ?_⟩
    have hrow := rowV_of hR
    cases hv : rowV H5 (.ref t3) with
    | true =>
      obtain ⟨z1, z2, z3, z4, z5⟩ := hrow.mp hv
      refine iteF ⟨_, rfl, q1 ⟨wA, wB, z5, z2, z1, z3, z4, ?_, ?_⟩ _ H6 (gA.trans g6) (hR.same g6)⟩
      · intro x hx
        obtain ⟨w, hw, rfl⟩ := List.mem_map.mp hx
        exact (wA w hw).val.2.2
      · intro x hx
        obtain ⟨w, hw, rfl⟩ := List.mem_map.mp hx
        exact (wB w hw).val.2.2
    | false =>
      refine iteT ⟨(by show 1 ≤ sizeLine; decide), q2 (fun z => ?_) H6 (gA.trans g6)⟩
      have := T8.row hR z.2.2
      rw [hv] at this; cases this
theorem ok_read (B : Bt mg) (F : Fn K mg "read" s_read ["text"]) (M : Ms K mg base A_NoBy A_NoName A_NoNumber A_NoRow A_NoText A_RuleError A_TooBig A_TooFar A_TooLong) (C_read_words : Cal P w K mg base "read_words" 6 ["rule_words", "start_words", "by"] (spReadW A_NoText)) (C_read_prime : Cal P w K mg base "read_prime" 6 ["word"] (spReadP A_NoText)) : Cal P w K mg base "read" 7 ["text"] (spRead A_NoText) := by
  refine F.calF sc_read (fun vs H Q E h => ?_) (fun f cdv A outer s H vs Q E hr h => ?_)
  · rcases h with ⟨v, T, rfl, _⟩ | ⟨t, rfl, _⟩ <;> rfl
  · refine ⟨_, (pss_cons (ps_if (pt_not (pt_val (pe_callB v_isinstance rfl B.b_isinstance boot_isinstance (pa_n (pv 0) (pa_n (pe_tyB rfl B.b_str boot_str) pa_nil)))))
      (pss_one (ps_raise M.x_NoText rfl (pa_k pe_str pa_nil)))
      pss_nil)
      (pss_cons (ps_set (i := 1) sc_read.nd rfl (Or.inl rfl) (xmeth1 K PySem.F.plainAttrs_str PySem.F.slot_str_split PySem.F.type_str_split mt_split (pv 0) pe_str))
      (pss_cons (ps_if (pt_cmpR (xne K hr) (xmeth1 K PySem.F.plainAttrs_list PySem.F.slot_list_count PySem.F.type_list_count mt_countS (pv 1) pe_str) pe_int (nomark _))
      (pss_one (ps_raise M.x_NoText rfl (pa_k pe_str pa_nil)))
      pss_nil)
      (pss_cons (ps_set (i := 2) sc_read.nd rfl (Or.inl rfl) (xmeth1 K PySem.F.plainAttrs_list PySem.F.slot_list_index PySem.F.type_list_index mt_indexS (pv 1) pe_str))
      (pss_cons (ps_set (i := 3) sc_read.nd rfl (Or.inl rfl) (pe_slice (xsl K) (pv 1) (po_some (pe_op (xadd K) (pv 2) pe_int)) po_none))
      (pss_cons (ps_set (i := 4) sc_read.nd rfl (Or.inl rfl) (pe_op op_sub (pe_callB (xlen K) rfl B.b_len boot_len (pa_n (pv 3) pa_nil)) pe_int))
      (pss_cons (ps_if (PW.pt (pw_and (pt_cmpR op_ge (pv 4) pe_int (nomark _)) (pw_and1 (pt_cmpR (xeq K hr) (pe_ix (xix K) (pv 3) (pv 4) (fun _ _ => rfl)) pe_str (nomark _)))))
      (pss_one (ps_ret (pe_callCF C_read_words hr rfl (pa_cons (pe_slice (xsl K) (pv 1) po_none (po_some (pv 2))) (pa_cons (pe_slice (xsl K) (pv 3) po_none (po_some (pv 4))) (pa_cons (pe_callCF C_read_prime hr rfl (pa_cons (pe_ix (xix K) (pv 3) (pe_op (xadd K) (pv 4) pe_int) (fun _ _ => rfl)) pa_nil)) pa_nil))))))
      pss_nil)
      (pss_one (ps_ret (pe_callCF C_read_words hr rfl (pa_cons (pe_slice (xsl K) (pv 1) po_none (po_some (pv 2))) (pa_n (pv 3) (pa_k pe_int pa_nil))))))))))))), ?_⟩
    rcases h with ⟨v, T, rfl, hT, hne, q⟩ | h
    · refine ⟨_, rfl, v, "str", T, rfl, hT, by simp, _, rfl, ?_⟩
      have e : subB T "str" = false := by
        unfold subB
        rw [beq_eq_false_iff_ne.mpr hne, Bool.false_or]
        exact Bool.and_false _
      rw [e]
      refine iteT ?_
      exact ⟨(by show 1 ≤ sizeLine; decide), q H (Same.refl _)⟩
    obtain ⟨t, rfl, ht, q1, q2⟩ := h
    refine ⟨_, rfl, .str t, "str", "str", rfl, rfl, by simp, _, rfl, ?_⟩
    refine iteF ?_
    refine ⟨_, rfl, rfl, t, _, rfl, rfl, by rw [lit_sp]; rfl, ht, fun D hD => ?_⟩
    rw [lit_sp]
    obtain ⟨ws, hws⟩ : ∃ ws, ws = PySem.Txt.split t (Tx.one 32) := ⟨_, rfl⟩
    rw [← hws]
    have lws : ws.length ≤ 100002 := by have := (split_few t (Tx.one 32)).1; rw [hws]; omega
    have wws : ∀ w ∈ ws, w.length ≤ 100000 := fun w hw => by
      have := PySem.join_mem_le (Tx.one 32) ws w hw
      rw [hws, PySem.StrLaws.join_split] at this
      omega
    have g1 := Same.new hD (.lst (ws.map V.str))
    have h1 : (upd H D (.lst (ws.map V.str))) D = some (.lst (ws.map V.str)) := upd_same
    generalize upd H D (.lst (ws.map V.str)) = H1 at g1 h1
    refine ⟨_, rfl, .inl ⟨rfl, _, SqL.of h1⟩, D, ws, _, rfl, rfl, h1, _, rfl, ?_⟩
    rw [lit_bar]
    refine ite2 (fun c => ?_) (fun c => ?_)
    · refine ⟨(by show 1 ≤ sizeLine; decide), q2 (fun r hr e => ?_) H1 g1⟩
      have : ws.count Tx.bar = 1 := by rw [hws, ← e, split_txt, Tx.count_words]
      rw [this] at c; exact absurd c (by decide)
    have hc1 : ws.count Tx.bar = 1 := by
      by_cases z : ws.count Tx.bar = 1
      · exact z
      · exact absurd (by rw [decide_eq_false (show ¬ ((ws.count Tx.bar : Nat) : Int) = 1 by omega)]; rfl) c
    obtain ⟨j, hj, hno⟩ := Tx.bar_at hc1
    refine ⟨_, rfl, .inl ⟨rfl, _, SqL.of h1⟩, D, ws, _, j, rfl, rfl, h1, hj, hno, ?_⟩
    have hcut := Tx.cut_bar hj
    refine ⟨_, rfl, _, rfl, _, rfl, .inl ⟨_, SqL.of h1, fun D2 hD2 => ?_⟩⟩
    have ecut : cutV (ws.map V.str) (some ((j : Int) + 1)) none = (ws.drop (j + 1)).map V.str := by rw [cut_nextN, List.map_drop]
    rw [ecut]
    obtain ⟨bh, hbh⟩ : ∃ bh, bh = ws.drop (j + 1) := ⟨_, rfl⟩
    obtain ⟨As, hAs⟩ : ∃ As, As = ws.take j := ⟨_, rfl⟩
    rw [← hbh]
    rw [← hbh, ← hAs] at hcut
    have hsp : PySem.Txt.split t (Tx.one 32) = As ++ Tx.bar :: bh := by rw [← hws]; exact hcut
    have lbh : bh.length ≤ 100002 := by rw [hbh, List.length_drop]; omega
    have lAs : As.length ≤ 100002 := by rw [hAs, List.length_take]; omega
    have wbh : ∀ w ∈ bh, w.length ≤ 100000 := fun w hw => wws w (by rw [hbh] at hw; exact List.mem_of_mem_drop hw)
    have wAs : ∀ w ∈ As, w.length ≤ 100000 := fun w hw => wws w (by rw [hAs] at hw; exact List.mem_of_mem_take hw)
    have g2 := Same.new hD2 (.lst (bh.map V.str))
    have h2 : (upd H1 D2 (.lst (bh.map V.str))) D2 = some (.lst (bh.map V.str)) := upd_same
    have h1' := g2 _ _ h1
    generalize upd H1 D2 (.lst (bh.map V.str)) = H2 at g2 h2 h1'
    have g12 := g1.trans g2
    have lb : (bh.map V.str).length = bh.length := List.length_map _
    have eA : cutV (ws.map V.str) none (some (j : Int)) = As.map V.str := by rw [cut_to, hAs, List.map_take]
    refine ⟨_, rfl, .ref D2, bh.length, rfl, .inl ⟨_, SqL.of h2, lb.symm⟩, _, _, rfl, rfl, ?_⟩
    refine ⟨_, rfl, _, _, rfl, rfl, _, rfl, ?_⟩
    refine ite2 (fun c => ?_) (fun c => ?_)
    · have h2l : 2 ≤ bh.length := by have := dec_true c; omega
      have hx : (bh.map V.str)[bh.length - 2]? = some (.str bh[bh.length - 2]) := by rw [List.getElem?_map, List.getElem?_eq_getElem (by omega)]; rfl
      refine ⟨_, rfl, _, rfl, _, _, .inl (SqL.of h2), atI_len (bh.length - 2) (by omega) hx, _, rfl, ?_⟩
      rw [lit_by]
      refine ite2 (fun c2 => ?_) (fun c2 => ?_)
      · have hby : bh[bh.length - 2]? = some Tx.byS := by
          have : bh[bh.length - 2] = Tx.byS := dec_true c2
          rw [List.getElem?_eq_getElem (by omega), this]
        obtain ⟨cw, hcw, ebh⟩ := last_two h2l hby
        obtain ⟨Bs, hBs⟩ : ∃ Bs, Bs = bh.take (bh.length - 2) := ⟨_, rfl⟩
        rw [← hBs] at ebh
        have hsp2 : PySem.Txt.split t (Tx.one 32) = As ++ Tx.bar :: (Bs ++ [Tx.byS, cw]) := by rw [hsp]; conv => lhs; rw [ebh]
        have lBs : Bs.length ≤ 100002 := by rw [hBs, List.length_take]; omega
        have wBs : ∀ w ∈ Bs, w.length ≤ 100000 := fun w hw => wbh w (by rw [hBs] at hw; exact List.mem_of_mem_take hw)
        refine ⟨_, rfl, _, rfl, _, rfl, .inl ⟨_, SqL.of h1', fun D3 hD3 => ?_⟩⟩
        rw [eA]
        have g3 := Same.new hD3 (.lst (As.map V.str))
        have h3 : (upd H2 D3 (.lst (As.map V.str))) D3 = some (.lst (As.map V.str)) := upd_same
        have h2' := g3 _ _ h2
        generalize upd H2 D3 (.lst (As.map V.str)) = H3 at g3 h3 h2'
        have eB : cutV (bh.map V.str) none (some ((bh.length : Int) - 2)) = Bs.map V.str := by
          rw [show (bh.length : Int) - 2 = ((bh.length - 2 : Nat) : Int) by omega, cut_to, hBs, List.map_take]
        refine ⟨_, rfl, _, rfl, _, rfl, .inl ⟨_, SqL.of h2', fun D4 hD4 => ?_⟩⟩
        rw [eB]
        have g4 := Same.new hD4 (.lst (Bs.map V.str))
        have h4 : (upd H3 D4 (.lst (Bs.map V.str))) D4 = some (.lst (Bs.map V.str)) := upd_same
        have h3' := g4 _ _ h3
        have h2'' := g4 _ _ h2'
        generalize upd H3 D4 (.lst (Bs.map V.str)) = H4 at g4 h4 h3' h2''
        have g14 := g12.trans (g3.trans g4)
        have hcx : (bh.map V.str)[bh.length - 1]? = some (.str cw) := by rw [List.getElem?_map, hcw]; rfl
        have lcw : cw.length ≤ 100000 := wbh cw (List.mem_of_getElem? hcw)
        refine ⟨_, rfl, _, rfl, _, _, .inl (SqL.of h2''), atI_len (bh.length - 1) (by omega) hcx, cw, rfl, lcw, fun hc H5 g5 => ?_, fun hc H5 g5 => ?_⟩
        · refine ⟨D3, D4, As, Bs, _, rfl, g5 _ _ h3', g5 _ _ h4, by omega, by omega, wAs, wBs, fun hw v H6 g6 hR => ?_, fun hw H6 g6 => ?_⟩
          · exact q1 v _ H6 (g14.trans (g5.trans g6)) hR hw.2.2 (txt_by hsp2 hc hw)
          · exact q2 (fun r hr e => hw (no_by hsp2 hr e).2) H6 (g14.trans (g5.trans g6))
        · exact q2 (fun r hr e => hc (no_by hsp2 hr e).1) H5 (g14.trans g5)
      · have hnb : ¬ (2 ≤ bh.length ∧ bh[bh.length - 2]? = some Tx.byS) := fun z => by
          have : ¬ bh[bh.length - 2] = Tx.byS := dec_false c2
          rw [List.getElem?_eq_getElem (by omega)] at z
          exact this (Option.some.inj z.2)
        refine ⟨_, rfl, _, rfl, _, rfl, .inl ⟨_, SqL.of h1', fun D3 hD3 => ?_⟩⟩
        rw [eA]
        have g3 := Same.new hD3 (.lst (As.map V.str))
        refine ⟨_, rfl, D3, D2, As, bh, 0, rfl, upd_same, g3 _ _ h2, by omega, by omega, wAs, wbh, fun hw v H4 g4 hR => ?_, fun hw H4 g4 => ?_⟩
        · exact q1 v _ H4 (g12.trans (g3.trans g4)) hR hw.2.2 (txt_no hsp hw)
        · exact q2 (fun r hr e => hw (no_no hsp hnb hr e)) H4 (g12.trans (g3.trans g4))
    · have hnb : ¬ (2 ≤ bh.length ∧ bh[bh.length - 2]? = some Tx.byS) := fun z => by have := dec_false c; omega
      refine ⟨_, rfl, _, rfl, _, rfl, .inl ⟨_, SqL.of h1', fun D3 hD3 => ?_⟩⟩
      rw [eA]
      have g3 := Same.new hD3 (.lst (As.map V.str))
      refine ⟨_, rfl, D3, D2, As, bh, 0, rfl, upd_same, g3 _ _ h2, by omega, by omega, wAs, wbh, fun hw v H4 g4 hR => ?_, fun hw H4 g4 => ?_⟩
      · exact q1 v _ H4 (g12.trans (g3.trans g4)) hR hw.2.2 (txt_no hsp hw)
      · exact q2 (fun r hr e => hw (no_no hsp hnb hr e)) H4 (g12.trans (g3.trans g4))
theorem ok_Lwords (B : Bt mg) (F : Fn K mg "_law_words" s_Lwords ["_law_row_here"]) (M : Ms K mg base A_NoBy A_NoName A_NoNumber A_NoRow A_NoText A_RuleError A_TooBig A_TooFar A_TooLong) : Cal P w K mg base "_law_words" 1 ["_law_row_here"] spWords := by
  refine F.cal sc_Lwords (fun vs H Q E h => ?_) (fun f cdv A outer s H vs Q E hr h => ?_)
  · obtain ⟨v, r, rfl, _⟩ := h; rfl
  · obtain ⟨v, r, rfl, ⟨a, p, p2, rfl, hA, hP, hQ⟩, t, q⟩ := h
    refine ⟨_, (pss_cons (ps_set (i := 1) sc_Lwords.nd rfl (Or.inl rfl) (pe_op (xadd K) (pe_op (xadd K) (pe_comp (sc := cs_Lwords1) (N := ["_law_number_here"]) (ix := [none]) (comp_mk (by kernel_rfl) (by kernel_rfl) (by kernel_rfl) (by kernel_rfl) (by kernel_rfl) (by kernel_rfl) (by kernel_rfl) (by kernel_rfl)) rfl (xseq K (pe_ix (xix K) (pv 0) pe_int (fun _ _ => rfl))) (fun cl C s₀ H₀ ex => ⟨(pg_name (i := 0) (show (["_law_number_here"] : List Str).Nodup by decide +kernel) rfl (Or.inl rfl)), pif_nil, (pe_callTy call_str_int rfl B.b_str boot_str (pa_n (pv 0) pa_nil))⟩)) (pe_lst (pa_k pe_str pa_nil))) (pe_comp (sc := cs_Lwords2) (N := ["_law_number_here"]) (ix := [none]) (comp_mk (by kernel_rfl) (by kernel_rfl) (by kernel_rfl) (by kernel_rfl) (by kernel_rfl) (by kernel_rfl) (by kernel_rfl) (by kernel_rfl)) rfl (xseq K (pe_ix (xix K) (pv 0) pe_int (fun _ _ => rfl))) (fun cl C s₀ H₀ ex => ⟨(pg_name (i := 0) (show (["_law_number_here"] : List Str).Nodup by decide +kernel) rfl (Or.inl rfl)), pif_nil, (pe_callTy call_str_int rfl B.b_str boot_str (pa_n (pv 0) pa_nil))⟩))))
      (pss_cons (ps_bar (ps_if (pt_cmpR op_gt (pe_ix (xix K) (pv 0) pe_int (fun _ _ => rfl)) pe_int (nomark _))
      (pss_one (ps_set (i := 1) sc_Lwords.nd rfl (Or.inl rfl) (pe_op (xadd K) (pv 1) (pe_lst (pa_k pe_str (pa_cons (pe_callTy call_str_int rfl B.b_str boot_str (pa_cons (pe_ix (xix K) (pv 0) pe_int (fun _ _ => rfl)) pa_nil)) pa_nil))))))
      pss_nil))
      (pss_one (ps_ret (pv 1))))), ?_⟩
    have hl := t.len
    have hs := t.short
    have hb := byV_range t.byv
    refine ⟨_, rfl, _, _, .inr (SqT.of hA), rfl, p, rfl, .inr ⟨⟨_, SqT.of hP⟩, comp_shw hP (by omega) rfl ?_ ?_⟩⟩
    · intro H2 x g2 hx k hk
      exact ⟨_, rfl, x, rfl, log_60 (t.ruleBd x hx), hk⟩
    intro D hD
    have g1 := Same.new hD (.lst ((r.rule.map Tx.shw).map V.str))
    have h1 : (upd H D (.lst ((r.rule.map Tx.shw).map V.str))) D = some (.lst ((r.rule.map Tx.shw).map V.str)) := upd_same
    generalize upd H D (.lst ((r.rule.map Tx.shw).map V.str)) = H1 at g1 h1
    refine ⟨(by show 1 ≤ sizeLine; decide), fun l2 hl2 => ?_⟩
    rw [lit_bar]
    have g2 := Same.new hl2 (.lst [.str Tx.bar])
    have h2 : (upd H1 l2 (.lst [.str Tx.bar])) l2 = some (.lst [.str Tx.bar]) := upd_same
    have h1' := g2 _ _ h1
    generalize upd H1 l2 (.lst [.str Tx.bar]) = H2 at g2 h2 h1'
    refine .inl ⟨_, _, h1', h2, by rw [List.length_map, List.length_map]; exact Nat.le_of_lt (small1000 (by show _ + 1 ≤ 1000; omega)), fun l3 hl3 => ?_⟩
    have g3 := Same.new hl3 (.lst ((r.rule.map Tx.shw).map V.str ++ [.str Tx.bar]))
    have h3 : (upd H2 l3 (.lst ((r.rule.map Tx.shw).map V.str ++ [.str Tx.bar]))) l3 = some (.lst ((r.rule.map Tx.shw).map V.str ++ [.str Tx.bar])) := upd_same
    generalize upd H2 l3 (.lst ((r.rule.map Tx.shw).map V.str ++ [.str Tx.bar])) = H3 at g3 h3
    have g13 := g1.trans (g2.trans g3)
    refine ⟨_, rfl, _, _, .inr (SqT.of (g13 _ _ hA)), rfl, p2, rfl, .inr ⟨⟨_, SqT.of (g13 _ _ hQ)⟩, comp_shw (g13 _ _ hQ) (by omega) rfl ?_ ?_⟩⟩
    · intro H4 x g4 hx k hk
      exact ⟨_, rfl, x, rfl, log_60 (t.startsBd x hx), hk⟩
    intro D4 hD4
    have g4 := Same.new hD4 (.lst ((r.starts.map Tx.shw).map V.str))
    have h4 : (upd H3 D4 (.lst ((r.starts.map Tx.shw).map V.str))) D4 = some (.lst ((r.starts.map Tx.shw).map V.str)) := upd_same
    have h3' := g4 _ _ h3
    generalize upd H3 D4 (.lst ((r.starts.map Tx.shw).map V.str)) = H4 at g4 h4 h3'
    refine .inl ⟨_, _, h3', h4, by rw [List.length_append, List.length_map, List.length_map, List.length_map, List.length_map]; exact Nat.le_of_lt (small1000 (by show _ + 1 + _ ≤ 1000; omega)), fun l5 hl5 => ?_⟩
    have g5 := Same.new hl5 (.lst ((r.rule.map Tx.shw).map V.str ++ [.str Tx.bar] ++ (r.starts.map Tx.shw).map V.str))
    have h5 : (upd H4 l5 (.lst ((r.rule.map Tx.shw).map V.str ++ [.str Tx.bar] ++ (r.starts.map Tx.shw).map V.str))) l5 = some (.lst ((r.rule.map Tx.shw ++ Tx.bar :: r.starts.map Tx.shw).map V.str)) := by rw [upd_same, List.map_append, List.append_assoc]; rfl
    generalize upd H4 l5 (.lst ((r.rule.map Tx.shw).map V.str ++ [.str Tx.bar] ++ (r.starts.map Tx.shw).map V.str)) = H5 at g5 h5
    have g15 := g13.trans (g4.trans g5)
    have l5n : ((r.rule.map Tx.shw ++ Tx.bar :: r.starts.map Tx.shw).map V.str).length = r.rule.length + (r.starts.length + 1) := by rw [List.length_map, List.length_append, List.length_map, List.length_cons, List.length_map]
    refine BarS.by (fun σ' H' => ∃ l : Addr, σ' = [some (.ref a), some (.ref l)] ∧ Same H H' ∧ H' l = some (.lst ((Tx.wordsOf r.b r.rule r.starts).map V.str))) (fun NN hNN => ?_) ?_
    · refine ⟨_, rfl, _, _, .inr (SqT.of (g15 _ _ hA)), rfl, _, _, rfl, rfl, _, rfl, ?_⟩
      refine ite2 (fun c => ?_) (fun c => ?_)
      · have hb0 : r.b > 0 := dec_true c
        refine ⟨_, rfl, _, rfl, _, _, .inr (SqT.of (g15 _ _ hA)), rfl, r.b, rfl, log_60 t.by60, (by show 2 ≤ sizeLine; decide), fun l6 hl6 => ?_⟩
        rw [lit_by]
        have g6 := Same.new hl6 (.lst [.str Tx.byS, .str (Tx.shw r.b)])
        refine .inl ⟨_, _, g6 _ _ h5, upd_same, by rw [l5n]; exact Nat.le_of_lt (small1000 (by show _ + 2 ≤ 1000; omega)), fun l7 hl7 => ?_⟩
        refine hNN _ _ ⟨l7, rfl, g15.trans (g6.trans (Same.new hl7 _)), ?_⟩
        rw [upd_same, Tx.wordsOf, Tx.byPart, if_pos hb0]
        simp [Tx.shw]
      · have hb0 : ¬ r.b > 0 := dec_false c
        refine hNN _ _ ⟨l5, rfl, g15, ?_⟩
        rw [h5, Tx.wordsOf, Tx.byPart, if_neg hb0, List.append_nil]
    rintro σ' H6 ⟨l, rfl, g6, h6⟩
    exact ⟨_, rfl, q l H6 g6 h6⟩
theorem ok_Lrefused (B : Bt mg) (F : Fn K mg "_law_refused" s_Lrefused ["_law_text"]) (M : Ms K mg base A_NoBy A_NoName A_NoNumber A_NoRow A_NoText A_RuleError A_TooBig A_TooFar A_TooLong) (C_read : Cal P w K mg base "read" 7 ["text"] (spRead A_NoText)) : Cal P w K mg base "_law_refused" 8 ["_law_text"] spRef9 := by
  refine F.cal sc_Lrefused (fun vs H Q E h => ?_) (fun f cdv A outer s H vs Q E hr h => ?_)
  · obtain ⟨v, rfl, _⟩ := h; rfl
  · obtain ⟨v, rfl, hB, q⟩ := h
    refine ⟨_, (pss_cons (ps_set (i := 1) sc_Lrefused.nd rfl (Or.inl rfl) pe_bl)
      (pss_cons (ps_tryExpr (j := 2) C_read hr rfl rfl rfl rfl (pa_n (pv 0) pa_nil) sc_Lrefused.nd rfl rfl rfl M.m_RuleError (fun a => (pss_cons (ps_set (i := 3) sc_Lrefused.nd rfl (Or.inl rfl) (pe_callB (xisiE K) rfl B.b_isinstance boot_isinstance (pa_n (pv 2) (pa_t (pe_tup (pa_n (pe_cls rfl M.m_NoBy) (pa_n (pe_cls rfl M.m_NoName) (pa_n (pe_cls rfl M.m_NoNumber) (pa_n (pe_cls rfl M.m_NoRow) (pa_n (pe_cls rfl M.m_TooBig) (pa_n (pe_cls rfl M.m_TooFar) (pa_n (pe_cls rfl M.m_TooLong) pa_nil)))))))) pa_nil))))
      (pss_one (ps_set (i := 1) sc_Lrefused.nd rfl (Or.inl rfl) (pe_bar (pe_and (pe_callB (xisiE K) rfl B.b_isinstance boot_isinstance (pa_n (pv 2) (pa_n (pe_cls rfl M.m_NoText) pa_nil))) (pe_and (pe_callB (xisiE K) rfl B.b_isinstance boot_isinstance (pa_n (pv 2) (pa_n (pe_tyB rfl B.b_ValueError boot_ValueError) pa_nil))) (pe_one (pe_not (pv 3)))))))))))
      (pss_one (ps_ret (pv 1))))), ?_⟩
    refine ⟨_, rfl, spRead_bad hB fun H1 g1 => ⟨_, rfl, M.s_NoText_RuleError, fun a ha => ?_⟩⟩
    · have g0 := Same.new ha (excO a A_NoText)
      refine ⟨_, rfl, (by show 7 ≤ sizeLine; decide), fun p hp => ?_⟩
      have g2 := Same.new hp (.tup [.ref A_NoBy, .ref A_NoName, .ref A_NoNumber, .ref A_NoRow, .ref A_TooBig, .ref A_TooFar, .ref A_TooLong])
      have hA := g2 _ _ (upd_same (H := H1) (a := a) (o := excO a A_NoText))
      refine ⟨a, A_NoText, .ref p, false, rfl, hA, M.i_NoText, .inr (.inr ⟨p, [A_NoBy, A_NoName, A_NoNumber, A_NoRow, A_TooBig, A_TooFar, A_TooLong], rfl, upd_same, ?_⟩), ?_⟩
      · simp only [List.map, PySem.W.kitAny, M.k_NoText_NoBy, M.k_NoText_NoName, M.k_NoText_NoNumber, M.k_NoText_NoRow, M.k_NoText_TooBig, M.k_NoText_TooFar, M.k_NoText_TooLong]
      · refine ⟨?_⟩
        refine ⟨_, rfl, a, A_NoText, _, true, rfl, hA, M.i_NoText, .inl ⟨_, rfl, M.k_NoText_NoText⟩, _, rfl, iteT ?_⟩
        refine ⟨_, rfl, a, A_NoText, _, true, rfl, hA, M.i_NoText, .inr (.inl ⟨_, rfl, M.k_NoText_ValueError⟩), _, rfl, iteT ?_⟩
        refine ⟨_, rfl, _, rfl, ?_⟩
        exact ⟨_, rfl, q _ (g1.trans (g0.trans g2))⟩
theorem ok_Lbad_word (B : Bt mg) (F : Fn K mg "_law_bad_word" s_Lbad_word ["_law_row_here", "_law_word", "_law_number_here"]) (M : Ms K mg base A_NoBy A_NoName A_NoNumber A_NoRow A_NoText A_RuleError A_TooBig A_TooFar A_TooLong) : Cal P w K mg base "_law_bad_word" 1 ["_law_row_here", "_law_word", "_law_number_here"] spBadWord := by
  refine F.cal sc_Lbad_word (fun vs H Q E h => ?_) (fun f cdv A outer s H vs Q E hr h => ?_)
  · obtain ⟨v, r, x, n, rfl, _⟩ := h; rfl
  · obtain ⟨v, r, x, n, rfl, ⟨a, p, p2, rfl, hA, hP, hQ⟩, t, hx, hn0, hn1, q⟩ := h
    refine ⟨_, (pss_cons (ps_set (i := 3) sc_Lbad_word.nd rfl (Or.inl rfl) (pe_lst (pa_b (pe_op (xadd K) pe_str (pv 1)) (pa_k pe_str (pa_b (pe_op (xadd K) pe_str (pe_op op_mulS pe_str pe_int)) (pa_b (pe_op (xadd K) (pv 1) pe_str) (pa_k pe_str (pa_b (pe_op (xadd K) pe_str (pv 1)) (pa_b (pe_op (xadd K) (pv 1) pe_str) (pa_k pe_str (pa_k pe_str (pa_k pe_str (pa_k pe_str (pa_k pe_str pa_nil))))))))))))))
      (pss_cons (ps_bar (ps_if (pt_cmpR op_gt (pe_ix (xix K) (pv 0) pe_int (fun _ _ => rfl)) pe_int (nomark _))
      (pss_one (ps_set (i := 3) sc_Lbad_word.nd rfl (Or.inl rfl) (pe_op (xadd K) (pv 3) (pe_lst (pa_cons (pe_callTy call_str_int rfl B.b_str boot_str (pa_cons (pe_ix (xix K) (pv 0) pe_int (fun _ _ => rfl)) pa_nil)) (pa_k pe_str (pa_cons (pe_callTy call_str_int rfl B.b_str boot_str (pa_b (pe_op (xadd K) (pe_ix (xix K) (pv 0) pe_int (fun _ _ => rfl)) (pv 2)) pa_nil)) pa_nil)))))))
      pss_nil))
      (pss_cons (ps_bar (ps_if (pt_cmpR (xeq K hr) (pe_slice sl_str (pv 1) po_none (po_some pe_int)) pe_str (nomark _))
      (pss_one (ps_set (i := 3) sc_Lbad_word.nd rfl (Or.inl rfl) (pe_op (xadd K) (pv 3) (pe_lst (pa_b (pe_op (xadd K) pe_str (pe_slice sl_str (pv 1) (po_some pe_int) po_none)) (pa_b (pe_op (xadd K) pe_str (pe_slice sl_str (pv 1) (po_some pe_int) po_none)) pa_nil))))))
      pss_nil))
      (pss_one (ps_ret (pe_ix (xix K) (pv 3) (pe_op op_mod (pv 2) (pe_callB (xlen K) rfl B.b_len boot_len (pa_n (pv 3) pa_nil))) (fun _ _ => rfl))))))), ?_⟩
    have hl := shw_len hx
    have hz : (200000 : Nat) ≤ sizeLine := by decide
    have l1 : (PySem.Str.ofString "0").length = 1 := by decide +kernel
    have l2 : (PySem.Str.ofString "1").length = 1 := by decide +kernel
    have l3 : (PySem.Str.ofString "x").length = 1 := by decide +kernel
    have l4 : (PySem.Str.ofString "+").length = 1 := by decide +kernel
    have l5 : (PySem.Str.ofString ".0").length = 2 := by decide +kernel
    have l6 : (PySem.Str.ofString "-0").length = 2 := by decide +kernel
    have l7 : (PySem.Str.ofString "- ").length = 2 := by decide +kernel
    have hb := byV_range t.byv
    refine ⟨_, rfl, by omega, ?_⟩
    refine ⟨_, 60, rfl, rfl, by decide, by decide, by omega, by omega, ?_⟩
    refine ⟨by rw [l2]; have := sixty_len; unfold sixty at this; omega, ?_⟩
    refine ⟨_, rfl, by omega, ?_⟩
    refine ⟨_, rfl, by omega, ?_⟩
    refine ⟨_, rfl, by omega, ?_⟩
    refine ⟨(by show 12 ≤ sizeLine; decide), fun l hl => ?_⟩
    have g1 := Same.new hl (.lst (([PySem.Str.ofString "0" ++ Tx.shw x, PySem.Str.ofString "-0", PySem.Str.ofString "1" ++ sixty, Tx.shw x ++ PySem.Str.ofString "x", PySem.Str.ofString "", PySem.Str.ofString "+" ++ Tx.shw x, Tx.shw x ++ PySem.Str.ofString ".0", PySem.Str.ofString "1_0", PySem.Str.ofString "--1", PySem.Str.ofString "one", PySem.Str.ofString "|", PySem.Str.ofString "by"]).map V.str))
    have h1 := upd_same (H := H) (a := l) (o := .lst (([PySem.Str.ofString "0" ++ Tx.shw x, PySem.Str.ofString "-0", PySem.Str.ofString "1" ++ sixty, Tx.shw x ++ PySem.Str.ofString "x", PySem.Str.ofString "", PySem.Str.ofString "+" ++ Tx.shw x, Tx.shw x ++ PySem.Str.ofString ".0", PySem.Str.ofString "1_0", PySem.Str.ofString "--1", PySem.Str.ofString "one", PySem.Str.ofString "|", PySem.Str.ofString "by"]).map V.str))
    refine BarS.by (fun σ' H' => ∃ (l : Addr) (ws : List Str), σ' = [some (.ref a), some (.str (Tx.shw x)), some (.int n), some (.ref l)] ∧ Same H H' ∧ H' l = some (.lst (ws.map V.str)) ∧ (∀ w ∈ ws, BadWd r.b w) ∧ 1 ≤ ws.length ∧ ws.length ≤ 15) (fun NN hNN => ?_) ?_
    · refine ⟨_, rfl, _, _, .inr (SqT.of (g1 _ _ hA)), rfl, _, _, rfl, rfl, _, rfl, ?_⟩
      refine ite2 (fun c => ?_) (fun c => ?_)
      · have hb0 : r.b > 0 := dec_true c
        refine ⟨_, rfl, _, rfl, _, _, .inr (SqT.of (g1 _ _ hA)), rfl, r.b, rfl, log_60 t.by60, ?_⟩
        refine ⟨_, rfl, _, _, .inr (SqT.of (g1 _ _ hA)), rfl, _, rfl, _, rfl, log_60 (Nat.lt_trans (show (r.b + n).natAbs < 2147484647 by omega) (by decide +kernel)), ?_⟩
        refine ⟨(by show 3 ≤ sizeLine; decide), fun l6 hl6 => ?_⟩
        have g6 := Same.new hl6 (.lst (([Tx.shw r.b, PySem.Str.ofString "-1", Tx.shw (r.b + n)]).map V.str))
        refine .inl ⟨_, _, g6 _ _ h1, upd_same, (by show 12 + 3 ≤ sizeLine; decide), fun l7 hl7 => ?_⟩
        refine hNN _ _ ⟨l7, _ ++ [Tx.shw r.b, PySem.Str.ofString "-1", Tx.shw (r.b + n)], rfl, g1.trans (g6.trans (Same.new hl7 _)), ?_, fun w hw => (List.mem_append.mp hw).elim (bad_12 hx w) (bad_3 hb0 hb.2 hn0 hn1 w), (by show 1 ≤ 15; decide), (by show 15 ≤ 15; decide)⟩
        rw [upd_same, List.map_append]; rfl
      · exact hNN _ _ ⟨l, _, rfl, g1, h1, bad_12 hx, (by show 1 ≤ 12; decide), (by show 12 ≤ 15; decide)⟩
    rintro σ' H2 ⟨l, ws, rfl, g2, h2, hW, hw1, hw2⟩
    refine BarS.by (fun σ' H' => ∃ (l : Addr) (ws : List Str), σ' = [some (.ref a), some (.str (Tx.shw x)), some (.int n), some (.ref l)] ∧ Same H H' ∧ H' l = some (.lst (ws.map V.str)) ∧ (∀ w ∈ ws, BadWd r.b w) ∧ 1 ≤ ws.length ∧ ws.length ≤ 17) (fun NN hNN => ?_) ?_
    · refine ⟨_, rfl, _, rfl, _, rfl, by omega, ?_⟩
      refine ⟨_, rfl, ?_⟩
      refine ite2 (fun _ => ?_) (fun _ => ?_)
      · have hs : (PySem.Txt.slice (Tx.shw x) (some 1) none).length ≤ (Tx.shw x).length := PySem.Txt.slice_le _ _ _
        refine ⟨_, rfl, _, rfl, _, rfl, _, rfl, by omega, by omega, ?_⟩
        refine ⟨_, rfl, _, rfl, _, rfl, by omega, by omega, ?_⟩
        refine ⟨(by show 2 ≤ sizeLine; decide), fun l6 hl6 => ?_⟩
        have g6 := Same.new hl6 (.lst (([PySem.Str.ofString "-0" ++ PySem.Txt.slice (Tx.shw x) (some 1) none, PySem.Str.ofString "- " ++ PySem.Txt.slice (Tx.shw x) (some 1) none]).map V.str))
        refine .inl ⟨_, _, g6 _ _ h2, upd_same, by rw [List.length_map]; exact Nat.le_of_lt (small1000 (by show _ + 2 ≤ 1000; omega)), fun l7 hl7 => ?_⟩
        refine hNN _ _ ⟨l7, ws ++ [PySem.Str.ofString "-0" ++ PySem.Txt.slice (Tx.shw x) (some 1) none, PySem.Str.ofString "- " ++ PySem.Txt.slice (Tx.shw x) (some 1) none], rfl, g2.trans (g6.trans (Same.new hl7 _)), ?_, fun w hw => (List.mem_append.mp hw).elim (hW w) (bad_2 hx w), by rw [List.length_append]; omega, by rw [List.length_append]; show _ + 2 ≤ 17; omega⟩
        rw [upd_same, List.map_append]; rfl
      · exact hNN _ _ ⟨l, ws, rfl, g2, h2, hW, hw1, by omega⟩
    rintro σ' H3 ⟨l, ws, rfl, g3, h3, hW, hw1, hw2⟩
    have lw : (ws.map V.str).length = ws.length := List.length_map _
    refine ⟨_, rfl, _, rfl, _, rfl, .ref l, ws.length, rfl, .inl ⟨_, SqL.of h3, lw.symm⟩, _, _, rfl, rfl, (by show (0 : Int) < (ws.length : Int); omega), ?_⟩
    obtain ⟨w, hw, hB⟩ := memW hW (emod_lo n (show (0 : Int) < (ws.length : Int) by omega)) (emod_hi n (show (0 : Int) < (ws.length : Int) by omega))
    exact ⟨_, _, .inl (SqL.of h3), hw, q w H3 g3 hB⟩
theorem ok_Lbad_by (B : Bt mg) (F : Fn K mg "_law_bad_by" s_Lbad_by ["_law_words_here", "_law_number_here"]) (M : Ms K mg base A_NoBy A_NoName A_NoNumber A_NoRow A_NoText A_RuleError A_TooBig A_TooFar A_TooLong) : Cal P w K mg base "_law_bad_by" 1 ["_law_words_here", "_law_number_here"] spBadBy := by
  refine F.cal sc_Lbad_by (fun vs H Q E h => ?_) (fun f cdv A outer s H vs Q E hr h => ?_)
  · obtain ⟨l, A, S, n, rfl, _⟩ := h; rfl
  · obtain ⟨l, A, S, n, rfl, hL, hlen, hs, hw, q⟩ := h
    refine ⟨_, (pss_cons (ps_set (i := 2) sc_Lbad_by.nd rfl (Or.inl rfl) (pe_lst (pa_k pe_str (pa_k pe_str (pa_k pe_str (pa_k pe_str (pa_k pe_str (pa_k pe_str (pa_k pe_str (pa_k pe_str (pa_k pe_str (pa_k pe_str (pa_k pe_str (pa_k pe_str (pa_k pe_str (pa_b (pe_op (xadd K) pe_str (pe_op op_mulS pe_str pe_int)) pa_nil))))))))))))))))
      (pss_one (ps_ret (xmeth1 K PySem.F.plainAttrs_str PySem.F.slot_str_join PySem.F.type_str_join mt_join pe_str (pe_op (xadd K) (pv 0) (pe_lst (pa_k pe_str (pa_cons (pe_ix (xix K) (pv 2) (pe_op op_mod (pv 1) pe_int) (fun _ _ => rfl)) pa_nil)))))))), ?_⟩
    refine ⟨_, 60, rfl, rfl, by decide, by decide, by decide +kernel, by decide +kernel, ?_⟩
    refine ⟨by decide +kernel, ?_⟩
    refine ⟨(by show 14 ≤ sizeLine; decide), fun p hp => ?_⟩
    have g1 := Same.new hp (.lst (badBys.map V.str))
    have h1 : (upd H p (.lst (badBys.map V.str))) p = some (.lst (badBys.map V.str)) := upd_same
    obtain ⟨w, hw1, hB⟩ := memP bad_bys (emod_lo n (show (0 : Int) < 14 by decide)) (emod_hi n (show (0 : Int) < (14 : Int) by decide))
    refine ⟨rfl, _, rfl, _, rfl, _, rfl, _, _, rfl, rfl, (by decide : (0 : Int) < 14), _, _, .inl (SqL.of h1), hw1, ?_⟩
    refine ⟨(by show 2 ≤ sizeLine; decide), fun l2 hl2 => ?_⟩
    rw [lit_by, lit_sp]
    have g2 := Same.new hl2 (.lst [.str Tx.byS, .str w])
    refine .inl ⟨_, _, g2 _ _ (g1 _ _ hL), upd_same, by rw [List.length_map, List.length_append, List.length_cons]; exact Nat.le_of_lt (small1000 (by show _ + 2 ≤ 1000; omega)), fun l3 hl3 => ?_⟩
    have g3 := Same.new hl3 (.lst ((A ++ Tx.bar :: S).map V.str ++ [.str Tx.byS, .str w]))
    have hws : ∀ x ∈ (A ++ Tx.bar :: S) ++ [Tx.byS, w], x.length ≤ 200 := fun x hx => by
      rcases List.mem_append.mp hx with z | z
      · exact (hw x z).2
      · simp only [List.mem_cons, List.not_mem_nil, or_false] at z
        rcases z with rfl | rfl
        · decide
        · exact hB.1
    have hj := join_len hws (by rw [List.length_append, List.length_append, List.length_cons]; show _ + 2 ≤ 60; omega)
    refine ⟨_, l3, (A ++ Tx.bar :: S) ++ [Tx.byS, w], rfl, rfl, by rw [upd_same, List.map_append (l₁ := A ++ Tx.bar :: S)]; rfl, hj.1, ?_⟩
    exact q _ _ (g1.trans (g2.trans g3)) hj.2 (noTxt_by hlen (fun x hx => (hw x hx).1) hB)
theorem ok_Lbad (B : Bt mg) (F : Fn K mg "_law_bad" s_Lbad ["_law_row_here", "_law_number_here"]) (M : Ms K mg base A_NoBy A_NoName A_NoNumber A_NoRow A_NoText A_RuleError A_TooBig A_TooFar A_TooLong) (C_Lwords : Cal P w K mg base "_law_words" 1 ["_law_row_here"] spWords) (C_Lbad_word : Cal P w K mg base "_law_bad_word" 1 ["_law_row_here", "_law_word", "_law_number_here"] spBadWord) (C_Lbad_by : Cal P w K mg base "_law_bad_by" 1 ["_law_words_here", "_law_number_here"] spBadBy) (C_Lodd : Cal P w K mg base "_law_odd" 1 ["_law_number_here"] spOdd) : Cal P w K mg base "_law_bad" 2 ["_law_row_here", "_law_number_here"] spBad := by
  refine F.cal sc_Lbad (fun vs H Q E h => ?_) (fun f cdv A outer s H vs Q E hr h => ?_)
  · obtain ⟨v, r, n, rfl, _⟩ := h; rfl
  · obtain ⟨v, r, n, rfl, ⟨a, p, p2, rfl, hA, hP, hQ⟩, t, hpos, hn0, hn1, q⟩ := h
    refine ⟨_, (pss_cons (ps_set (i := 2) sc_Lbad.nd rfl (Or.inl rfl) (pe_callC C_Lwords hr rfl (pa_n (pv 0) pa_nil)))
      (pss_cons (ps_set (i := 3) sc_Lbad.nd rfl (Or.inl rfl) (pe_slice (xsl K) (pv 2) po_none (po_some (pe_op (xadd K) (pe_op v_mul pe_int (pe_callB (xlen K) rfl B.b_len boot_len (pa_cons (pe_ix (xix K) (pv 0) pe_int (fun _ _ => rfl)) pa_nil))) pe_int))))
      (pss_cons (ps_set (i := 4) sc_Lbad.nd rfl (Or.inl rfl) (pe_callB (xlen K) rfl B.b_len boot_len (pa_cons (pe_ix (xix K) (pv 0) pe_int (fun _ _ => rfl)) pa_nil)))
      (pss_cons (ps_set (i := 5) sc_Lbad.nd rfl (Or.inl rfl) (pe_op op_mod (pv 1) pe_int))
      (pss_cons (ps_set (i := 1) sc_Lbad.nd rfl (Or.inl rfl) (pe_op op_fdiv (pv 1) pe_int))
      (pss_cons (ps_if (pt_cmpR (xeq K hr) (pv 5) pe_int (nomark _))
      (pss_cons (ps_set (i := 6) sc_Lbad.nd rfl (Or.inl rfl) (pe_op op_mod (pv 1) (pe_op v_mul pe_int (pv 4))))
      (pss_cons (ps_set (i := 6) sc_Lbad.nd rfl (Or.inl rfl) (pe_op (xadd K) (pv 6) (pe_callTy call_int1 rfl B.b_int boot_int (pa_cons (pe_cmpR op_ge (pv 6) (pv 4) (nomark _)) pa_nil))))
      (pss_cons (ps_set (i := 7) sc_Lbad.nd rfl (Or.inl rfl) (pe_callC C_Lbad_word hr rfl (pa_n (pv 0) (pa_cons (pe_ix (xix K) (pv 2) (pv 6) (fun _ _ => rfl)) (pa_b (pe_op op_fdiv (pv 1) pe_int) pa_nil)))))
      (pss_one (ps_ret (xmeth1 K PySem.F.plainAttrs_str PySem.F.slot_str_join PySem.F.type_str_join mt_join pe_str (pe_op (xadd K) (pe_op (xadd K) (pe_slice (xsl K) (pv 2) po_none (po_some (pv 6))) (pe_lst (pa_n (pv 7) pa_nil))) (pe_slice (xsl K) (pv 2) (po_some (pe_op (xadd K) (pv 6) pe_int)) po_none))))))))
      pss_nil)
      (pss_cons (ps_if (pt_cmpR (xeq K hr) (pv 5) pe_int (nomark _))
      (pss_one (ps_ret (pe_callC C_Lbad_by hr rfl (pa_n (pv 3) (pa_n (pv 1) pa_nil)))))
      pss_nil)
      (pss_cons (ps_set (i := 8) sc_Lbad.nd rfl (Or.inl rfl) (pe_slice (xsl K) (pv 2) (po_some (pe_op (xadd K) (pe_op v_mul pe_int (pv 4)) pe_int)) po_none))
      (pss_cons (ps_set (i := 9) sc_Lbad.nd rfl (Or.inl rfl) (pe_lst (pa_b (pe_op (xadd K) (pe_slice (xsl K) (pv 2) po_none (po_some (pv 4))) (pe_slice (xsl K) (pv 2) (po_some (pe_op (xadd K) (pv 4) pe_int)) po_none)) (pa_b (pe_op (xadd K) (pe_lst (pa_k pe_str pa_nil)) (pv 2)) (pa_b (pe_op (xadd K) (pe_op (xadd K) (pv 3) (pe_lst (pa_k pe_str pa_nil))) (pv 8)) (pa_cons (pe_slice (xsl K) (pv 2) (po_some pe_int) po_none) (pa_b (pe_op (xadd K) (pe_op (xadd K) (pv 3) (pe_lst (pa_k pe_str pa_nil))) (pv 8)) pa_nil)))))))
      (pss_cons (ps_set (i := 9) sc_Lbad.nd rfl (Or.inl rfl) (pe_op (xadd K) (pv 9) (pe_lst (pa_b (pe_op (xadd K) (pe_lst (pa_k pe_str pa_nil)) (pv 2)) (pa_b (pe_op (xadd K) (pv 2) (pe_lst (pa_k pe_str pa_nil))) (pa_b (pe_op (xadd K) (pe_lst (pa_k pe_str pa_nil)) (pv 2)) (pa_b (pe_op (xadd K) (pe_op (xadd K) (pe_op (xadd K) (pe_slice (xsl K) (pv 3) po_none (po_some (pv 4))) (pe_lst (pa_k pe_str (pa_k pe_str pa_nil)))) (pe_slice (xsl K) (pv 3) (po_some (pe_op (xadd K) (pv 4) pe_int)) po_none)) (pv 8)) pa_nil)))))))
      (pss_cons (ps_set (i := 9) sc_Lbad.nd rfl (Or.inl rfl) (pe_op (xadd K) (pv 9) (pe_lst (pa_b (pe_op (xadd K) (pe_op (xadd K) (pe_op v_mul (pe_lst (pa_k pe_str pa_nil)) pe_int) (pe_lst (pa_k pe_str pa_nil))) (pe_op v_mul (pe_lst (pa_k pe_str pa_nil)) pe_int)) (pa_b (pe_op (xadd K) (pv 3) (pe_lst (pa_k pe_str pa_nil))) (pa_b (pe_op (xadd K) (pe_lst (pa_k pe_str pa_nil)) (pv 2)) (pa_b (pe_op (xadd K) (pe_slice (xsl K) (pv 3) po_none (po_some (pe_op (xadd K) (pv 4) pe_int))) (pv 8)) (pa_l (pe_lst (pa_k pe_str pa_nil)) pa_nil))))))))
      (pss_cons (ps_if (pt_cmpR (xeq K hr) (pv 5) pe_int (nomark _))
      (pss_one (ps_ret (xmeth1 K PySem.F.plainAttrs_str PySem.F.slot_str_join PySem.F.type_str_join mt_join pe_str (pe_ix (xix K) (pv 9) (pe_op op_mod (pv 1) pe_int) (fun _ _ => rfl)))))
      pss_nil)
      (pss_pos (ps_setP (i := 10) sc_Lbad.nd rfl (Or.inl rfl) (xmeth1P K PySem.F.plainAttrs_str PySem.F.slot_str_join PySem.F.type_str_join mt_join pe_strP (pv 2))) (ps_setN (i := 11) sc_Lbad.nd rfl (Or.inl rfl) (pe_lstN (pan_cons (xreplace (pv 10)) (pan_cons (xreplace (pv 10)) (pan_cons (PE.n (pe_op (xadd K) (pv 10) pe_str)) (pan_cons (PE.n (pe_op (xadd K) pe_str (pv 10))) (pan_cons (xreplace (pv 10)) pan_nil)))))))
      (pss_one (ps_ret (pe_ix (xix K) (pe_op (xadd K) (pv 11) (pe_lst (pa_cons (pe_callC C_Lodd hr rfl (pa_b (pe_op op_fdiv (pv 1) pe_int) pa_nil)) pa_nil))) (pe_op op_mod (pv 1) pe_int) (fun _ _ => rfl))))))))))))))))), ?_⟩
    have hv : RowIs H (.ref a) r := ⟨a, p, p2, rfl, hA, hP, hQ⟩
    have lP : (r.rule.map V.int).length = r.rule.length := List.length_map _
    have hs := t.short
    obtain ⟨A, S, T, hws, eW, hk⟩ : ∃ A S T, Ws A S T ∧ Tx.wordsOf r.b r.rule r.starts = A ++ Tx.bar :: (S ++ T) ∧ r.rule.length = A.length := ⟨_, _, _, t.ws hpos, rfl, (List.length_map _).symm⟩
    refine ⟨_, rfl, _, r, rfl, hv, t, fun lW H1 g1 hW => ?_⟩
    have hW : SL H1 lW (Tx.wordsOf r.b r.rule r.starts) := hW
    refine ⟨_, rfl, _, rfl, _, _, .inr (SqT.of (g1 _ _ hA)), rfl, .ref p, r.rule.length, rfl, .inr ⟨_, SqT.of (g1 _ _ hP), lP.symm⟩, mulL (by decide) (by decide), _, rfl, cutTo (k := 2 * r.rule.length + 1) hW (by omega) fun lH H2 g2 hH => ?_⟩
    rw [eW, hk, hws.half] at hH
    have g12 := g1.trans g2
    have hW := hW.same g2
    have hv := hv.same g12
    refine ⟨_, rfl, _, _, .inr (SqT.of (g12 _ _ hA)), rfl, .ref p, r.rule.length, rfl, .inr ⟨_, SqT.of (g12 _ _ hP), lP.symm⟩, ?_⟩
    refine ⟨_, rfl, _, _, rfl, rfl, (by decide : (0 : Int) < 4), ?_⟩
    refine ⟨_, rfl, _, _, rfl, rfl, ⟨by decide, by decide⟩, ?_⟩
    have m0 : 0 ≤ n / 4 := by omega
    have m1 : n / 4 < 2147483647 := by omega
    clear hA hP hQ
    refine ⟨_, rfl, _, rfl, ?_⟩
    refine ite2 (fun _ => ?_) (fun _ => ?_)
    · have hk2 : (0 : Int) < 2 * (r.rule.length : Int) := by omega
      refine ⟨_, rfl, _, rfl, mulL (by decide) (by decide), _, _, rfl, rfl, hk2, ?_⟩
      refine ⟨_, rfl, _, rfl, _, rfl, _, _, rfl, rfl, .inr ⟨_, rfl, ?_⟩⟩
      obtain ⟨i, ei, hi⟩ := at_place (show (0 : Int) < (r.rule.length : Int) by omega) (emod_lo (n / 4) hk2) (emod_hi (n / 4) hk2)
      obtain ⟨x, hx, ex, hout⟩ := word_out t (i := i) (by omega)
      have ei1 : n / 4 % (2 * (r.rule.length : Int)) + (if decide ((r.rule.length : Int) ≤ n / 4 % (2 * (r.rule.length : Int))) = true then 1 else 0) + 1 = ((i + 1 : Nat) : Int) := by rw [ei]; rfl
      refine ⟨_, rfl, _, rfl, _, rfl, _, _, .inl (SqL.of hW), atL ei ex, _, rfl, _, _, rfl, rfl, ⟨by decide, by decide⟩, ?_⟩
      refine ⟨_, r, x, _, rfl, hv, t, hx, (show 0 ≤ n / 4 / 24 by omega), (show n / 4 / 24 < 2147483647 by omega), fun w H3 g3 hB => ?_⟩
      obtain ⟨j1, j2, j3⟩ := hout w hB
      have wl : (Tx.wordsOf r.b r.rule r.starts).length ≤ 27 := t.few
      refine ⟨rfl, _, rfl, _, rfl, _, rfl, cutTo (k := i) (hW.same g3) ei fun x1 K1 k1 e1 => ?_⟩
      refine ⟨_, rfl, (by show 1 ≤ sizeLine; decide), fun y hy => ?_⟩
      refine addS (e1.same (newS hy).1) (newS hy).2 (wsTake (by omega)) (by show 1 ≤ 100; decide) fun x2 K2 k2 e2 => ?_
      have k12 := (g3.trans k1).trans ((newS hy).1.trans k2)
      refine ⟨_, rfl, _, rfl, _, rfl, cutFrom (k := i + 1) (hW.same k12) ei1 fun x3 K3 k3 e3 => ?_⟩
      refine addS (e2.same k3) e3 (wsApp (wsTake wl) (show [w].length ≤ 1 from Nat.le_refl _) (by decide)) (wsDrop (by omega)) fun x4 K4 k4 e4 => ?_
      refine ⟨_, x4, _, rfl, rfl, e4, ?_, ?_⟩
      · rw [lit_sp]; exact j1
      · rw [lit_sp]; exact q _ _ (g12.trans (k12.trans (k3.trans k4))) (.inr ⟨_, rfl, Nat.le_trans j2 (by decide), j3⟩)
    have txok := t.join
    have txl := t.txt_len
    rw [eW] at hW
    refine ⟨_, rfl, _, rfl, ?_⟩
    refine ite2 (fun _ => ?_) (fun _ => ?_)
    · refine ⟨_, rfl, _, rfl, lH, A, S, _, rfl, hH, hws.len, hws.few, fun w hw => hws.cH w hw, fun t H3 g3 h1 h2 => ?_⟩
      exact q _ _ (g12.trans g3) (.inr ⟨_, rfl, Nat.le_trans h1 (by decide), h2⟩)
    have wl := hws.wlen
    have hl := hws.hlen
    have tl : T.length ≤ 2 := by rcases hws.tlen with z | z <;> omega
    refine ⟨_, rfl, _, rfl, mulL (by decide) (by decide), _, rfl, cutFrom (k := 2 * r.rule.length + 1) hW (by omega) fun lT H3 g3 hT => ?_⟩
    rw [hk, hws.tail] at hT
    have hW := hW.same g3
    have hH := hH.same g3
    -- five
    refine ⟨_, rfl, _, rfl, _, rfl, cutTo (k := A.length) hW (by omega) fun x1 K1 k1 e1 => ?_⟩
    refine ⟨_, rfl, _, rfl, _, rfl, cutFrom (k := A.length + 1) (hW.same k1) (by omega) fun x2 K2 k2 e2 => ?_⟩
    refine addS (e1.same k2) e2 (wsTake (by omega)) (wsDrop (by omega)) fun x3 K3 k3 e3 => ?_
    have C1 := k1.trans (k2.trans k3)
    have O1 := (AllOk.nil H3).add C1 e3 hws.f1
    clear k1 k2 k3 e1 e2 e3
    have one100 : ∀ w : Str, [w].length ≤ 100 := fun w => (by decide : 1 ≤ 100)
    refine ⟨(by show 1 ≤ sizeLine; decide), fun y hy => ⟨_, rfl, addS (newS hy).2 (hW.same (C1.trans (newS hy).1)) (one100 _) (by omega) fun x4 K4 k4 e4 => ?_⟩⟩
    have C2 := C1.trans ((newS hy).1.trans k4)
    have O2 := O1.add ((newS hy).1.trans k4) e4 (hws.f2 cl_0)
    clear k4 e4 hy O1 C1
    refine ⟨_, rfl, (by show 1 ≤ sizeLine; decide), fun y hy => addS (hH.same (C2.trans (newS hy).1)) (newS hy).2 (by omega) (one100 _) fun x5 K5 k5 e5 => ?_⟩
    refine ⟨_, rfl, addS e5 (hT.same (C2.trans ((newS hy).1.trans k5))) (wsApp hl (Nat.le_refl _) (by show 25 + 1 ≤ 100; decide)) (by omega) fun x6 K6 k6 e6 => ?_⟩
    have C3 := C2.trans ((newS hy).1.trans (k5.trans k6))
    have O3 := O2.add ((newS hy).1.trans (k5.trans k6)) e6 (hws.f3 cl_0)
    clear k5 e5 k6 e6 hy O2 C2
    refine ⟨_, rfl, _, rfl, cutFrom (k := 1) (hW.same C3) rfl fun x7 K7 k7 e7 => ?_⟩
    have C4 := C3.trans k7
    have O4 := O3.add k7 e7 hws.f4
    clear k7 e7 O3 C3
    refine ⟨_, rfl, (by show 1 ≤ sizeLine; decide), fun y hy => addS (hH.same (C4.trans (newS hy).1)) (newS hy).2 (by omega) (one100 _) fun x8 K8 k8 e8 => ?_⟩
    refine ⟨_, rfl, addS e8 (hT.same (C4.trans ((newS hy).1.trans k8))) (wsApp hl (Nat.le_refl _) (by show 25 + 1 ≤ 100; decide)) (by omega) fun x9 K9 k9 e9 => ?_⟩
    rw [lit_bar] at e9
    have C5 := C4.trans ((newS hy).1.trans (k8.trans k9))
    have O5 := O4.add ((newS hy).1.trans (k8.trans k9)) e9 hws.f5
    clear k8 e8 k9 e9 hy O4 C4
    refine ⟨(by show 5 ≤ sizeLine; decide), fun lM hM => ?_⟩
    have gM := Same.new hM (.lst [.ref x3, .ref x4, .ref x6, .ref x7, .ref x9])
    have C := C5.trans gM
    have hM := upd_same (H := K9) (a := lM) (o := .lst [.ref x3, .ref x4, .ref x6, .ref x7, .ref x9])
    have OM : AllOk _ [.ref x3, .ref x4, .ref x6, .ref x7, .ref x9] := O5.same gM
    generalize upd K9 lM (.lst [.ref x3, .ref x4, .ref x6, .ref x7, .ref x9]) = J1 at C hM OM
    clear gM O5 C5
    -- four
    refine ⟨_, rfl, ?_⟩
    have O0 := AllOk.nil J1
    refine ⟨(by show 1 ≤ sizeLine; decide), fun y hy => ⟨_, rfl, addS (newS hy).2 (hW.same (C.trans (newS hy).1)) (one100 _) (by omega) fun z1' K1 k1 e1 => ?_⟩⟩
    rw [lit_bar] at e1
    have D1 := (newS hy).1.trans k1
    have O1 := O0.add D1 e1 hws.f6
    clear k1 e1 hy O0
    refine ⟨_, rfl, (by show 1 ≤ sizeLine; decide), fun y hy => addS (hW.same (C.trans (D1.trans (newS hy).1))) (newS hy).2 (by omega) (one100 _) fun z2' K2 k2 e2 => ?_⟩
    rw [lit_nil] at e2
    have D2 := D1.trans ((newS hy).1.trans k2)
    have O2 := O1.add ((newS hy).1.trans k2) e2 hws.f7
    clear k2 e2 hy O1 D1
    refine ⟨(by show 1 ≤ sizeLine; decide), fun y hy => ⟨_, rfl, addS (newS hy).2 (hW.same (C.trans (D2.trans (newS hy).1))) (one100 _) (by omega) fun z3' K3 k3 e3 => ?_⟩⟩
    rw [lit_nil] at e3
    have D3 := D2.trans ((newS hy).1.trans k3)
    have O3 := O2.add ((newS hy).1.trans k3) e3 hws.f8
    clear k3 e3 hy O2 D2
    refine ⟨_, rfl, _, rfl, _, rfl, cutTo (k := A.length) (hH.same (C.trans D3)) (by omega) fun u1 G1 k1 e1 => ?_⟩
    refine ⟨(by show 2 ≤ sizeLine; decide), fun y hy => addS (e1.same (newS2 hy).1) (newS2 hy).2 (wsTake (by omega)) (by show 2 ≤ 100; decide) fun u2 G2 k2 e2 => ?_⟩
    have k12 := k1.trans ((newS2 hy).1.trans k2)
    refine ⟨_, rfl, _, rfl, _, rfl, cutFrom (k := A.length + 1) (hH.same (C.trans (D3.trans k12))) (by omega) fun u3 G3 k3 e3 => ?_⟩
    refine addS (e2.same k3) e3 (wsApp (wsTake hl) (show 2 ≤ 2 from Nat.le_refl _) (by decide)) (wsDrop (by omega)) fun u4 G4 k4 e4 => ?_
    have k14 := k12.trans (k3.trans k4)
    refine ⟨_, rfl, addS e4 (hT.same (C.trans (D3.trans k14))) (wsApp (wsApp (wsTake hl) (show 2 ≤ 2 from Nat.le_refl _) (Nat.le_refl _)) (wsDrop hl) (by decide)) (by omega) fun z4' G5 k5 e5 => ?_⟩
    rw [lit_nil, lit_bar] at e5
    have D4 := D3.trans (k14.trans k5)
    have O4 := O3.add (k14.trans k5) e5 hws.f9
    clear k1 e1 k2 e2 k3 e3 k4 e4 k5 e5 k12 k14 hy O3 D3
    refine ⟨(by show 4 ≤ sizeLine; decide), fun lN hN => ?_⟩
    have gN := Same.new hN (.lst [.ref z1', .ref z2', .ref z3', .ref z4'])
    have hN := upd_same (H := G5) (a := lN) (o := .lst [.ref z1', .ref z2', .ref z3', .ref z4'])
    have ON : AllOk _ [.ref z1', .ref z2', .ref z3', .ref z4'] := O4.same gN
    have DN := D4.trans gN
    refine .inl ⟨_, _, DN _ _ hM, hN, (by show 5 + 4 ≤ sizeLine; decide), fun lP9 hP9 => ?_⟩
    have gP := Same.new hP9 (.lst ([.ref x3, .ref x4, .ref x6, .ref x7, .ref x9] ++ [.ref z1', .ref z2', .ref z3', .ref z4']))
    have C := C.trans (DN.trans gP)
    have OM := ((OM.same DN).app ON).same gP
    have hM := upd_same (H := upd G5 lN (.lst [.ref z1', .ref z2', .ref z3', .ref z4'])) (a := lP9) (o := .lst ([.ref x3, .ref x4, .ref x6, .ref x7, .ref x9] ++ [.ref z1', .ref z2', .ref z3', .ref z4']))
    generalize upd (upd G5 lN (.lst [.ref z1', .ref z2', .ref z3', .ref z4'])) lP9 (.lst ([.ref x3, .ref x4, .ref x6, .ref x7, .ref x9] ++ [.ref z1', .ref z2', .ref z3', .ref z4'])) = J2 at C hM OM
    clear gP hN gN ON DN O4 D4
    -- five more
    refine ⟨_, rfl, ?_⟩
    have O0 := AllOk.nil J2
    refine ⟨(by show 1 ≤ sizeLine; decide), fun y hy => mul13 (newS hy).2 fun u1 G1 k1 e1 => ?_⟩
    refine ⟨(by show 1 ≤ sizeLine; decide), fun y2 hy2 => addS (e1.same (newS hy2).1) (newS hy2).2 (by show 13 ≤ 100; decide) (one100 _) fun u2 G2 k2 e2 => ?_⟩
    refine ⟨(by show 1 ≤ sizeLine; decide), fun y3 hy3 => mul13 (newS hy3).2 fun u3 G3 k3 e3 => ?_⟩
    have k23 := (newS hy3).1.trans k3
    refine addS (e2.same k23) e3 (by show 14 ≤ 100; decide) (by show 13 ≤ 100; decide) fun z1 G4 k4 e4 => ?_
    rw [lit_bar] at e4
    have D1 := (newS hy).1.trans (k1.trans ((newS hy2).1.trans (k2.trans (k23.trans k4))))
    have O1 := O0.add D1 e4 (f10 cl_0)
    clear k1 e1 k2 e2 k3 e3 k4 e4 k23 hy hy2 hy3 O0
    refine ⟨_, rfl, (by show 1 ≤ sizeLine; decide), fun y hy => addS (hH.same (C.trans (D1.trans (newS hy).1))) (newS hy).2 (by omega) (one100 _) fun z2 K2 k2 e2 => ?_⟩
    rw [lit_by] at e2
    have D2 := D1.trans ((newS hy).1.trans k2)
    have O2 := O1.add ((newS hy).1.trans k2) e2 hws.f11
    clear k2 e2 hy O1 D1
    refine ⟨(by show 1 ≤ sizeLine; decide), fun y hy => ⟨_, rfl, addS (newS hy).2 (hW.same (C.trans (D2.trans (newS hy).1))) (one100 _) (by omega) fun z3 K3 k3 e3 => ?_⟩⟩
    rw [lit_by] at e3
    have D3 := D2.trans ((newS hy).1.trans k3)
    have O3 := O2.add ((newS hy).1.trans k3) e3 (hws.f2 cl_by)
    clear k3 e3 hy O2 D2
    refine ⟨_, rfl, _, rfl, _, rfl, cutTo (k := A.length + 1) (hH.same (C.trans D3)) (by omega) fun u1 G1 k1 e1 => ?_⟩
    refine ⟨_, rfl, addS e1 (hT.same (C.trans (D3.trans k1))) (wsTake (by omega)) (by omega) fun z4 G5 k5 e5 => ?_⟩
    have D4 := D3.trans (k1.trans k5)
    have O4 := O3.add (k1.trans k5) e5 hws.f13
    clear k1 e1 k5 e5 O3 D3
    refine ⟨(by show 1 ≤ sizeLine; decide), fun z5 hz5 => ?_⟩
    have e5 := (newS (w := PySem.Str.ofString "") hz5).2
    rw [lit_nil] at e5
    have D5 := D4.trans (newS (w := PySem.Str.ofString "") hz5).1
    have O5 := O4.add (newS (w := PySem.Str.ofString "") hz5).1 (by rw [lit_nil]; exact e5) f14
    generalize upd G5 z5 (.lst [.str (PySem.Str.ofString "")]) = G6 at D5 O5
    clear e5 O4 D4 hz5
    refine ⟨(by show 5 ≤ sizeLine; decide), fun lN hN => ?_⟩
    have gN := Same.new hN (.lst [.ref z1, .ref z2, .ref z3, .ref z4, .ref z5])
    have hN := upd_same (H := G6) (a := lN) (o := .lst [.ref z1, .ref z2, .ref z3, .ref z4, .ref z5])
    have ON : AllOk _ [.ref z1, .ref z2, .ref z3, .ref z4, .ref z5] := O5.same gN
    have DN := D5.trans gN
    refine .inl ⟨_, _, DN _ _ hM, hN, (by show 9 + 5 ≤ sizeLine; decide), fun lQ hQ => ?_⟩
    have gQ := Same.new hQ (.lst (([.ref x3, .ref x4, .ref x6, .ref x7, .ref x9] ++ [.ref z1', .ref z2', .ref z3', .ref z4']) ++ [.ref z1, .ref z2, .ref z3, .ref z4, .ref z5]))
    have C := C.trans (DN.trans gQ)
    have OM := ((OM.same DN).app ON).same gQ
    have hM := upd_same (H := upd G6 lN (.lst [.ref z1, .ref z2, .ref z3, .ref z4, .ref z5])) (a := lQ) (o := .lst (([.ref x3, .ref x4, .ref x6, .ref x7, .ref x9] ++ [.ref z1', .ref z2', .ref z3', .ref z4']) ++ [.ref z1, .ref z2, .ref z3, .ref z4, .ref z5]))
    generalize upd (upd G6 lN (.lst [.ref z1, .ref z2, .ref z3, .ref z4, .ref z5])) lQ (.lst (([.ref x3, .ref x4, .ref x6, .ref x7, .ref x9] ++ [.ref z1', .ref z2', .ref z3', .ref z4']) ++ [.ref z1, .ref z2, .ref z3, .ref z4, .ref z5])) = J3 at C hM OM
    clear gQ hN gN ON DN O5 D5
    have gA := g12.trans (g3.trans C)
    refine ⟨_, rfl, _, rfl, ?_⟩
    refine ite2 (fun _ => ?_) (fun _ => ?_)
    · obtain ⟨l, ws, hat, hl, hf⟩ := OM.at (emod_lo (n / 4) (show (0 : Int) < 14 by decide)) (emod_hi (n / 4) (show (0 : Int) < 14 by decide))
      obtain ⟨j1, j2, j3⟩ := hf.bad
      refine ⟨rfl, _, rfl, _, rfl, _, _, rfl, rfl, (by decide : (0 : Int) < 14), _, _, .inl (SqL.of hM), hat, _, l, ws, rfl, rfl, hl, ?_, ?_⟩
      · rw [lit_sp]; exact j1
      · rw [lit_sp]; exact q _ _ gA (.inr ⟨_, rfl, Nat.le_trans j2 (by decide), j3⟩)
    have hW := hW.same C
    rw [← eW] at hW
    refine ⟨rfl, _, rfl, _, lW, _, rfl, rfl, hW, ?_, ?_⟩
    · rw [lit_sp]; exact txok
    have l2 : (PySem.Str.ofString "  ").length = 2 := by decide +kernel
    have l3 : (PySem.Str.ofString "/").length = 1 := by decide +kernel
    have l4 : (PySem.Str.ofString "||").length = 2 := by decide +kernel
    have l5 : (PySem.Str.ofString ";").length = 1 := by decide +kernel
    have l6 : (PySem.Str.ofString ",").length = 1 := by decide +kernel
    have hz : (200000 : Nat) ≤ sizeLine := by decide
    have etx : PySem.Str.join (PySem.Str.ofString " ") (Tx.wordsOf r.b r.rule r.starts) = txt r := by rw [lit_sp]; rfl
    rw [etx]
    refine ⟨_, rfl, txt r, rfl, by rw [l2]; omega, ?_⟩
    refine ⟨_, rfl, txt r, rfl, by rw [l3]; omega, ?_⟩
    refine ⟨_, rfl, by omega, ?_⟩
    refine ⟨_, rfl, by omega, ?_⟩
    refine ⟨_, rfl, txt r, rfl, by rw [l4]; omega, ?_⟩
    refine ⟨(by show 5 ≤ sizeLine; decide), fun lS hS => ?_⟩
    have hb : ∀ H : Hp, _ := fun H => bad_txt (H := H) t hpos
    generalize hvs : [V.str (PySem.Txt.replace (txt r) (PySem.Str.ofString " ") (PySem.Str.ofString "  ")), .str (PySem.Txt.replace (txt r) (PySem.Str.ofString "|") (PySem.Str.ofString "/")), .str (txt r ++ PySem.Str.ofString ";"), .str (PySem.Str.ofString "," ++ txt r), .str (PySem.Txt.replace (txt r) (PySem.Str.ofString "|") (PySem.Str.ofString "||"))] = vs at hb
    have lvs : vs.length = 5 := by rw [← hvs]; rfl
    have gS := Same.new hS (.lst vs)
    have hS := upd_same (H := J3) (a := lS) (o := .lst vs)
    refine ⟨_, rfl, _, rfl, _, _, rfl, rfl, ⟨by decide, by decide⟩, _, rfl, fun vo G1 k1 ho => ?_⟩
    refine ⟨(by show 1 ≤ sizeLine; decide), fun l1 hl1 => ?_⟩
    have kn := Same.new hl1 (.lst [vo])
    refine .inl ⟨_, _, kn _ _ (k1 _ _ hS), upd_same, by rw [lvs]; show 5 + 1 ≤ sizeLine; decide, fun lZ hZ => ?_⟩
    have kz := Same.new hZ (.lst (vs ++ [vo]))
    obtain ⟨v, hat, hbad⟩ := memV (P := Bad (upd (upd G1 l1 (.lst [vo])) lZ (.lst (vs ++ [vo])))) (vs := vs ++ [vo]) (fun v hv => by
      rcases List.mem_append.mp hv with z | z
      · exact hb _ v z
      · rw [List.mem_singleton.mp z]; exact odd_bad (ho.same (kn.trans kz))) (emod_lo (n / 4) (show (0 : Int) < 6 by decide)) (by rw [List.length_append, lvs]; exact emod_hi (n / 4) (show (0 : Int) < 6 by decide))
    refine ⟨_, rfl, _, _, rfl, rfl, (by decide : (0 : Int) < 6), _, _, .inl (SqL.of upd_same), hat, ?_⟩
    exact q _ _ (gA.trans (gS.trans (k1.trans (kn.trans kz)))) hbad
theorem ok_law (B : Bt mg) {f : Addr} {fd : FuncData} (F : Fun K "law" "law" s_law f fd) (M : Ms K mg base A_NoBy A_NoName A_NoNumber A_NoRow A_NoText A_RuleError A_TooBig A_TooFar A_TooLong) (C_Lrow : Cal P w K mg base "_law_row" 3 ["_law_cell", "_law_most"] spRow) (C_Lcell_at : Cal P w K mg base "_law_cell_at" 1 ["_law_script", "_law_k"] (spCell K)) (C_Lwords : Cal P w K mg base "_law_words" 1 ["_law_row_here"] spWords) (C_read : Cal P w K mg base "read" 7 ["text"] (spRead A_NoText)) (C_Lrefused : Cal P w K mg base "_law_refused" 8 ["_law_text"] spRef9) (C_Lbad : Cal P w K mg base "_law_bad" 2 ["_law_row_here", "_law_number_here"] spBad) (C_Lmix : Cal P w K mg base "_law_mix" 1 ["_law_cell", "_law_k"] spMix) : FnOk P w K mg base (Flown P w) KLAW f fd ["_law_script"] (spLaw K) := by
  refine F.okN (k := 11) sc_law (fun vs H Q E h => ?_) (fun cdv A outer s H vs Q E hr h => ?_)
  · obtain ⟨a, ns, rfl, _⟩ := h; rfl
  · obtain ⟨a, ns, rfl, hS, hlen, q⟩ := h
    refine ⟨_, (pss_cons (ps_for PassesOwn.never rfl (pi_range1 rfl B.b_range (pa_k pe_int pa_nil)) (pg_name (i := 1) sc_law.nd rfl (Or.inl rfl))
      (pss_cons (ps_set (i := 2) sc_law.nd rfl (Or.inl rfl) (pe_callC C_Lrow hr rfl (pa_b (pe_op (xadd K) (pe_callC C_Lcell_at hr rfl (pa_n (pv 0) (pa_n (pv 1) pa_nil))) (pe_op v_mul (pv 1) (pv 1))) (pa_k pe_int pa_nil))))
      (pss_cons (ps_bar (ps_if (pt_cmpR (xeq K hr) (pe_ix (xix K) (pv 2) pe_int (fun _ _ => rfl)) (pe_tup pa_nil) (nomark _))
      (pss_one (ps_set (i := 2) sc_law.nd rfl (Or.inl rfl) (pe_tup (pa_cons (pe_ix (xix K) (pv 2) pe_int (fun _ _ => rfl)) (pa_t (pe_tup (pa_k pe_int pa_nil)) (pa_t (pe_tup (pa_k pe_int pa_nil)) pa_nil))))))
      pss_nil))
      (pss_cons (ps_set (i := 3) sc_law.nd rfl (Or.inl rfl) (xmeth1 K PySem.F.plainAttrs_str PySem.F.slot_str_join PySem.F.type_str_join mt_join pe_str (pe_callC C_Lwords hr rfl (pa_n (pv 2) pa_nil))))
      (pss_cons (ps_if (pt_cmpR (xne K hr) (pe_callC C_read hr rfl (pa_n (pv 3) pa_nil)) (pv 2) (nomark _))
      (pss_one (ps_ret pe_bl))
      pss_nil)
      (pss_cons (ps_for PassesOwn.never rfl (pi_range1 rfl B.b_range (pa_k pe_int pa_nil)) (pg_name (i := 4) sc_law.nd rfl (Or.inl rfl))
      (pss_one (ps_if (pt_not (pt_val (pe_callC C_Lrefused hr rfl (pa_cons (pe_callC C_Lbad hr rfl (pa_n (pv 2) (pa_cons (pe_callC C_Lmix hr rfl (pa_cons (pe_callC C_Lcell_at hr rfl (pa_n (pv 0) (pa_b (pe_op (xadd K) pe_int (pv 1)) pa_nil))) (pa_b (pe_op (xadd K) pe_int (pv 4)) pa_nil))) pa_nil))) pa_nil))))
      (pss_one (ps_ret pe_bl))
      pss_nil)))
      (pss_one (ps_if (pt_cmpR (xne K hr) (pe_callC C_read hr rfl (pa_n (pv 3) pa_nil)) (pv 2) (nomark _))
      (pss_one (ps_ret pe_bl))
      pss_nil))))))))
      (pss_one (ps_ret (pe_and (pe_cmpR (xeq K hr) (pe_callC C_read hr rfl (pa_k pe_str pa_nil)) (pe_tup (pa_k pe_int (pa_t (pe_tup pa_nil) (pa_t (pe_tup pa_nil) pa_nil)))) (nomark _)) (pe_and (pe_cmpR (xeq K hr) (pe_callC C_read hr rfl (pa_k pe_str pa_nil)) (pe_tup (pa_k pe_int (pa_t (pe_tup pa_nil) (pa_t (pe_tup pa_nil) pa_nil)))) (nomark _)) (pe_and (pe_callC C_Lrefused hr rfl (pa_k pe_str pa_nil)) (pe_one (pe_callC C_Lrefused hr rfl (pa_k pe_str pa_nil))))))))), ?_⟩
    have etx : ∀ r : Rw, PySem.Str.join (PySem.Str.ofString " ") (Tx.wordsOf r.b r.rule r.starts) = txt r := fun r => by rw [lit_sp]; rfl
    refine ⟨6, rfl, by decide, by decide, ?_⟩
    refine for_range (lo := 0) (n := 6) (fun _ σ' H' => ∃ o1 o2 o3 o4, σ' = [some (.ref a), o1, o2, o3, o4] ∧ Same H H') ⟨_, _, _, _, rfl, Same.refl _⟩ ?_ ?_
    rotate_left
    · rintro σ' H1 ⟨o1, o2, o3, o4, rfl, g⟩
      refine .inr ⟨_, rfl, by decide +kernel, fun v r H2 g2 hR t8 e => ?_, fun hno => absurd txt_e0 (hno _ (none_t8 (by decide)))⟩
      have er : r = ⟨0, [], []⟩ := txt_inj t8 (none_t8 (by decide)) (e.trans txt_e0.symm)
      subst er
      refine ⟨Nat.zero_le _, fun p1 hp1 => ⟨Nat.zero_le _, fun p2 hp2 => ⟨(by show 3 ≤ sizeLine; decide), fun p3 hp3 => ?_⟩⟩⟩
      have k1 := Same.new hp1 (.tup [])
      have k2 := Same.new hp2 (.tup [])
      have k3 := Same.new hp3 (.tup [.int 0, .ref p1, .ref p2])
      refine eqRR (r' := ⟨0, [], []⟩) (hR.same (k1.trans (k2.trans k3))) ⟨p3, p1, p2, rfl, upd_same, (k2.trans k3) _ _ upd_same, k3 _ _ upd_same⟩ ⟨_, rfl, iteT ?_⟩
      clear hR k1 k2 k3
      refine .inr ⟨_, rfl, by decide +kernel, fun v r H2 g2 hR t8 e => ?_, fun hno => absurd txt_e7 (hno _ (none_t8 (by decide)))⟩
      have er : r = ⟨7, [], []⟩ := txt_inj t8 (none_t8 (by decide)) (e.trans txt_e7.symm)
      subst er
      refine ⟨Nat.zero_le _, fun p4 hp4 => ⟨Nat.zero_le _, fun p5 hp5 => ⟨(by show 3 ≤ sizeLine; decide), fun p6 hp6 => ?_⟩⟩⟩
      have k1 := Same.new hp4 (.tup [])
      have k2 := Same.new hp5 (.tup [])
      have k3 := Same.new hp6 (.tup [.int 7, .ref p4, .ref p5])
      refine eqRR (r' := ⟨7, [], []⟩) (hR.same (k1.trans (k2.trans k3))) ⟨p6, p4, p5, rfl, upd_same, (k2.trans k3) _ _ upd_same, k3 _ _ upd_same⟩ ⟨_, rfl, iteT ?_⟩
      refine ⟨_, rfl, bad_e1 _, fun H3 g3 => ⟨_, rfl, iteT ?_⟩⟩
      refine ⟨_, rfl, bad_e2 _, fun H4 g4 => ?_⟩
      exact q _
    rintro i σ' H1 hi ⟨o1, o2, o3, o4, rfl, g⟩
    refine ⟨_, rfl, _, rfl, a, ns, _, rfl, g.seq hS, (by omega : (0 : Int) ≤ 0 + (i : Int)), ?_⟩
    refine ⟨_, rfl, _, rfl, mulL (by omega) (by omega), ?_⟩
    refine ⟨_, 11, rfl, by decide, by decide, fun v H2 g2 hv => ?_⟩
    obtain ⟨tR, bR⟩ := row9 (cellAt ns (0 + (i : Int)) + (0 + (i : Int)) * (0 + (i : Int)))
    generalize rowI (cellAt ns (0 + (i : Int)) + (0 + (i : Int)) * (0 + (i : Int))) 11 = r at hv tR bR
    have g12 := g.trans g2
    refine BarS.by (fun σ' H' => ∃ (v : V) (r : Rw), σ' = [some (.ref a), some (.int (0 + (i : Int))), some v, o3, o4] ∧ Same H H' ∧ RowIs H' v r ∧ T8 r ∧ 0 < r.rule.length) (fun N hN => ?_) ?_
    · obtain ⟨ra, rp, rq, rfl, hA, hP, hQ⟩ := id hv
      refine ⟨_, rfl, _, _, .inr (SqT.of hA), rfl, Nat.zero_le _, fun u0 hu0 => ?_⟩
      have k0 := Same.new hu0 (.tup [])
      refine eqTT (ms := []) (SqT.of (k0 _ _ hP)) (SqT.of upd_same) ⟨_, rfl, ?_⟩
      refine ite2 (fun _ => ?_) (fun c => ?_)
      · refine ⟨_, rfl, _, _, .inr (SqT.of (k0 _ _ hA)), rfl, ?_⟩
        refine ⟨(by show 1 ≤ sizeLine; decide), fun u1 hu1 => ?_⟩
        refine ⟨(by show 1 ≤ sizeLine; decide), fun u2 hu2 => ?_⟩
        refine ⟨(by show 3 ≤ sizeLine; decide), fun u3 hu3 => ?_⟩
        have k1 := Same.new hu1 (.tup [.int 1])
        have k2 := Same.new hu2 (.tup [.int 1])
        have k3 := Same.new hu3 (.tup [.int r.b, .ref u1, .ref u2])
        exact hN _ _ ⟨.ref u3, ⟨r.b, [1], [1]⟩, rfl, g12.trans (k0.trans (k1.trans (k2.trans k3))), ⟨u3, u1, u2, rfl, upd_same, (k2.trans k3) _ _ upd_same, k3 _ _ upd_same⟩, one_t8 bR, (by show 0 < 1; decide)⟩
      · have hne : ¬ r.rule = [] := dec_false c
        exact hN _ _ ⟨.ref ra, r, rfl, g12.trans k0, hv.same k0, tR, List.length_pos_iff.mpr hne⟩
    rintro σ' H3 ⟨v, r, rfl, g3, hR, t8, hpos⟩
    have lt := t8.txt_len
    refine ⟨rfl, _, rfl, v, r, rfl, hR, t8, fun l H4 g4 h4 => ?_⟩
    refine ⟨_, l, _, rfl, rfl, h4, (by rw [lit_sp]; exact t8.join), ?_⟩
    rw [etx r]
    refine ⟨_, rfl, .inr ⟨_, rfl, by omega, fun v5 r5 H5 g5 hR5 t85 e5 => ?_, fun hno => absurd rfl (hno r t8)⟩⟩
    have er : r5 = r := txt_inj t85 t8 e5
    subst er
    have g35 := g4.trans g5
    refine ⟨_, rfl, eqRR hR5 (hR.same g35) ⟨_, rfl, ?_⟩⟩
    rw [decide_eq_true ⟨rfl, rfl, rfl⟩]
    refine iteF ?_
    refine ⟨5, rfl, by decide, by decide, ?_⟩
    refine for_range (lo := 0) (n := 5) (fun _ σ' H' => ∃ o4, σ' = [some (.ref a), some (.int (0 + (i : Int))), some v, some (.str (txt r5)), o4] ∧ Same H3 H') ⟨_, rfl, g35⟩ ?_ ?_
    · rintro k σ' H8 hk ⟨o4, rfl, g8⟩
      refine ⟨_, rfl, _, rfl, _, rfl, a, ns, _, rfl, (g3.trans g8).seq hS, (by omega : (0 : Int) ≤ 10 + (0 + (i : Int))), ?_⟩
      refine ⟨_, rfl, _, _, rfl, (by omega : (0 : Int) ≤ 40 + (0 + (k : Int))), by omega, ?_⟩
      refine ⟨v, r5, _, rfl, hR.same g8, t8, hpos, mixI_lo _ _, mixI_hi _ _, fun w H9 g9 hB => ?_⟩
      refine ⟨w, rfl, hB, fun H10 g10 => ?_⟩
      refine ⟨_, rfl, ?_⟩
      exact iteF ⟨_, rfl, g8.trans (g9.trans g10)⟩
    · rintro σ' H8 ⟨o4, rfl, g8⟩
      refine ⟨_, rfl, .inr ⟨_, rfl, by omega, fun v9 r9 H9 g9 hR9 t89 e9 => ?_, fun hno => absurd rfl (hno r5 t8)⟩⟩
      have er : r9 = r5 := txt_inj t89 t8 e9
      subst er
      refine ⟨_, rfl, eqRR hR9 (hR.same (g8.trans g9)) ⟨_, rfl, ?_⟩⟩
      rw [decide_eq_true ⟨rfl, rfl, rfl⟩]
      refine iteF ?_
      exact ⟨_, _, _, _, rfl, g3.trans (g8.trans g9)⟩
end
theorem all_mk {l : PySem.W.OpenLaw} {w : World} {K : PySem.W.Frag} {h : Heap} {mg : Str → Option Value} {fa : Addr} (X : K.In h) (G : h.Ns mainGlobals mg) (hfa : mg "law" = some (.ref fa))
    (F0 : FnIn K "is_whole" s_is_whole) (F1 : FnIn K "is_prime" s_is_prime) (F2 : FnIn K "is_by" s_is_by) (F3 : FnIn K "is_number" s_is_number) (F4 : FnIn K "are_numbers" s_are_numbers) (F5 : FnIn K "is_row" s_is_row) (F6 : FnIn K "is_written" s_is_written) (F7 : FnIn K "read_number" s_read_number) (F8 : FnIn K "read_prime" s_read_prime) (F9 : FnIn K "read_words" s_read_words) (F10 : FnIn K "read" s_read) (F11 : FnIn K "_law_cell_at" s_Lcell_at) (F12 : FnIn K "_law_mix" s_Lmix) (F13 : FnIn K "_law_by" s_Lby) (F14 : FnIn K "_law_number" s_Lnumber) (F15 : FnIn K "_law_numbers" s_Lnumbers) (F16 : FnIn K "_law_row" s_Lrow) (F17 : FnIn K "_law_odd" s_Lodd) (F18 : FnIn K "_law_words" s_Lwords) (F19 : FnIn K "_law_refused" s_Lrefused) (F20 : FnIn K "_law_bad_word" s_Lbad_word) (F21 : FnIn K "_law_bad_by" s_Lbad_by) (F22 : FnIn K "_law_bad" s_Lbad) (FL : FnIn K "law" s_law) (z_ValueError : PySem.W.nsIn K mainGlobals "ValueError" = some none) (z_all : PySem.W.nsIn K mainGlobals "all" = some none) (z_bool : PySem.W.nsIn K mainGlobals "bool" = some none) (z_int : PySem.W.nsIn K mainGlobals "int" = some none) (z_isinstance : PySem.W.nsIn K mainGlobals "isinstance" = some none) (z_len : PySem.W.nsIn K mainGlobals "len" = some none) (z_range : PySem.W.nsIn K mainGlobals "range" = some none) (z_str : PySem.W.nsIn K mainGlobals "str" = some none) (z_tuple : PySem.W.nsIn K mainGlobals "tuple" = some none) (g_ABOVE_ALL_BYS : ∃ t, PySem.W.nsIn K mainGlobals "ABOVE_ALL_BYS" = some (some (.int 1000 t))) (g_FIGURES : ∃ t, PySem.W.nsIn K mainGlobals "FIGURES" = some (some (.str "0123456789" t))) (g_LONGEST : ∃ t, PySem.W.nsIn K mainGlobals "LONGEST" = some (some (.int 12 t))) (g_MOST_FIGURES_READ : ∃ t, PySem.W.nsIn K mainGlobals "MOST_FIGURES_READ" = some (some (.int 60 t))) {A_NoBy : Addr} (n_NoBy : PySem.W.nsIn K mainGlobals "NoBy" = some (some (.ref A_NoBy))) {A_NoName : Addr} (n_NoName : PySem.W.nsIn K mainGlobals "NoName" = some (some (.ref A_NoName))) {A_NoNumber : Addr} (n_NoNumber : PySem.W.nsIn K mainGlobals "NoNumber" = some (some (.ref A_NoNumber))) {A_NoRow : Addr} (n_NoRow : PySem.W.nsIn K mainGlobals "NoRow" = some (some (.ref A_NoRow))) {A_NoText : Addr} (n_NoText : PySem.W.nsIn K mainGlobals "NoText" = some (some (.ref A_NoText))) {A_RuleError : Addr} (n_RuleError : PySem.W.nsIn K mainGlobals "RuleError" = some (some (.ref A_RuleError))) {A_TooBig : Addr} (n_TooBig : PySem.W.nsIn K mainGlobals "TooBig" = some (some (.ref A_TooBig))) {A_TooFar : Addr} (n_TooFar : PySem.W.nsIn K mainGlobals "TooFar" = some (some (.ref A_TooFar))) {A_TooLong : Addr} (n_TooLong : PySem.W.nsIn K mainGlobals "TooLong" = some (some (.ref A_TooLong))) (q_NoText : PySem.W.excIn K A_NoText [.type "ValueError", .type "Exception", .type "BaseException", .type "object"] "ValueError.__new__" = true) (u_NoText_RuleError : excSub K A_NoText A_RuleError = true) (v_NoText_RuleError : PySem.W.ktsIn K A_RuleError "BaseException" = true) (w1_NoText : PySem.W.findIn K (.ref A_NoText) "__getattribute__" = some (some (.builtin "BaseException.__getattribute__"))) (w2_NoText : PySem.W.findIn K (.ref A_NoText) "__getattr__" = some none) (w3_NoText : PySem.W.findIn K (.ref A_NoText) "__class__" = some (some (.builtin "object.__class__"))) (w4_NoText : PySem.W.mroIn K A_NoText (.type "BaseException") = some true) (w5_NoText : PySem.W.mroIn K A_NoText (.type "object") = some true) (w6_NoText : (PySem.W.clsIn K A_NoText).isSome = true) (k_NoText_NoBy : PySem.W.kitOne K (.ref A_NoText) (.ref A_NoBy) = some false) (k_NoText_NoName : PySem.W.kitOne K (.ref A_NoText) (.ref A_NoName) = some false) (k_NoText_NoNumber : PySem.W.kitOne K (.ref A_NoText) (.ref A_NoNumber) = some false) (k_NoText_NoRow : PySem.W.kitOne K (.ref A_NoText) (.ref A_NoRow) = some false) (k_NoText_NoText : PySem.W.kitOne K (.ref A_NoText) (.ref A_NoText) = some true) (k_NoText_RuleError : PySem.W.kitOne K (.ref A_NoText) (.ref A_RuleError) = some true) (k_NoText_TooBig : PySem.W.kitOne K (.ref A_NoText) (.ref A_TooBig) = some false) (k_NoText_TooFar : PySem.W.kitOne K (.ref A_NoText) (.ref A_TooFar) = some false) (k_NoText_TooLong : PySem.W.kitOne K (.ref A_NoText) (.ref A_TooLong) = some false) (k_NoText_ValueError : PySem.W.kitOne K (.ref A_NoText) (.type "ValueError") = some true) :
    ∃ fd : FuncData, (∀ (s : Shared) (v : Value), BindsTo s fd ⟨[v], []⟩ [("_law_script", v)]) ∧ ∀ base : Heap, K.In base → base.Ns mainGlobals mg → FnOk l.prog w K mg base (Flown l.prog w) KLAW fa fd ["_law_script"] (spLaw K) := by
  obtain ⟨f, oc, od, kV, doc, pm, an, cdv, ct, sl, e1, e2, e3, e4⟩ := FL.ex
  have e := hfa.symm.trans (PySem.W.mg_of X G e1)
  cases e
  have FF := fun_mk (st := s_law) e2 e3 e4
  have B : Bt mg := ⟨PySem.W.mg_none_of X G z_ValueError, PySem.W.mg_none_of X G z_all, PySem.W.mg_none_of X G z_bool, PySem.W.mg_none_of X G z_int, PySem.W.mg_none_of X G z_isinstance, PySem.W.mg_none_of X G z_len, PySem.W.mg_none_of X G z_range, PySem.W.mg_none_of X G z_str, PySem.W.mg_none_of X G z_tuple, (let ⟨t, q⟩ := g_ABOVE_ALL_BYS; ⟨t, PySem.W.mg_of X G q⟩), (let ⟨t, q⟩ := g_FIGURES; ⟨t, PySem.W.mg_of X G q⟩), (let ⟨t, q⟩ := g_LONGEST; ⟨t, PySem.W.mg_of X G q⟩), (let ⟨t, q⟩ := g_MOST_FIGURES_READ; ⟨t, PySem.W.mg_of X G q⟩)⟩
  have G0 := F0.fn X G (ps := ["thing"]) fun _ _ _ _ _ _ us hl => match us, (show us.length = 1 from hl) with | [_], _ => rfl
  have G1 := F1.fn X G (ps := ["number"]) fun _ _ _ _ _ _ us hl => match us, (show us.length = 1 from hl) with | [_], _ => rfl
  have G2 := F2.fn X G (ps := ["thing"]) fun _ _ _ _ _ _ us hl => match us, (show us.length = 1 from hl) with | [_], _ => rfl
  have G3 := F3.fn X G (ps := ["by", "thing"]) fun _ _ _ _ _ _ us hl => match us, (show us.length = 2 from hl) with | [_, _], _ => rfl
  have G4 := F4.fn X G (ps := ["by", "thing"]) fun _ _ _ _ _ _ us hl => match us, (show us.length = 2 from hl) with | [_, _], _ => rfl
  have G5 := F5.fn X G (ps := ["thing"]) fun _ _ _ _ _ _ us hl => match us, (show us.length = 1 from hl) with | [_], _ => rfl
  have G6 := F6.fn X G (ps := ["word"]) fun _ _ _ _ _ _ us hl => match us, (show us.length = 1 from hl) with | [_], _ => rfl
  have G7 := F7.fn X G (ps := ["word"]) fun _ _ _ _ _ _ us hl => match us, (show us.length = 1 from hl) with | [_], _ => rfl
  have G8 := F8.fn X G (ps := ["word"]) fun _ _ _ _ _ _ us hl => match us, (show us.length = 1 from hl) with | [_], _ => rfl
  have G9 := F9.fn X G (ps := ["rule_words", "start_words", "by"]) fun _ _ _ _ _ _ us hl => match us, (show us.length = 3 from hl) with | [_, _, _], _ => rfl
  have G10 := F10.fn X G (ps := ["text"]) fun _ _ _ _ _ _ us hl => match us, (show us.length = 1 from hl) with | [_], _ => rfl
  have G11 := F11.fn X G (ps := ["_law_script", "_law_k"]) fun _ _ _ _ _ _ us hl => match us, (show us.length = 2 from hl) with | [_, _], _ => rfl
  have G12 := F12.fn X G (ps := ["_law_cell", "_law_k"]) fun _ _ _ _ _ _ us hl => match us, (show us.length = 2 from hl) with | [_, _], _ => rfl
  have G13 := F13.fn X G (ps := ["_law_number_here"]) fun _ _ _ _ _ _ us hl => match us, (show us.length = 1 from hl) with | [_], _ => rfl
  have G14 := F14.fn X G (ps := ["_law_by_here", "_law_number_here"]) fun _ _ _ _ _ _ us hl => match us, (show us.length = 2 from hl) with | [_, _], _ => rfl
  have G15 := F15.fn X G (ps := ["_law_by_here", "_law_cell", "_law_many"]) fun _ _ _ _ _ _ us hl => match us, (show us.length = 3 from hl) with | [_, _, _], _ => rfl
  have G16 := F16.fn X G (ps := ["_law_cell", "_law_most"]) fun _ _ _ _ _ _ us hl => match us, (show us.length = 2 from hl) with | [_, _], _ => rfl
  have G17 := F17.fn X G (ps := ["_law_number_here"]) fun _ _ _ _ _ _ us hl => match us, (show us.length = 1 from hl) with | [_], _ => rfl
  have G18 := F18.fn X G (ps := ["_law_row_here"]) fun _ _ _ _ _ _ us hl => match us, (show us.length = 1 from hl) with | [_], _ => rfl
  have G19 := F19.fn X G (ps := ["_law_text"]) fun _ _ _ _ _ _ us hl => match us, (show us.length = 1 from hl) with | [_], _ => rfl
  have G20 := F20.fn X G (ps := ["_law_row_here", "_law_word", "_law_number_here"]) fun _ _ _ _ _ _ us hl => match us, (show us.length = 3 from hl) with | [_, _, _], _ => rfl
  have G21 := F21.fn X G (ps := ["_law_words_here", "_law_number_here"]) fun _ _ _ _ _ _ us hl => match us, (show us.length = 2 from hl) with | [_, _], _ => rfl
  have G22 := F22.fn X G (ps := ["_law_row_here", "_law_number_here"]) fun _ _ _ _ _ _ us hl => match us, (show us.length = 2 from hl) with | [_, _], _ => rfl
  refine ⟨PySem.W.fnOf "law" "law" (defArgs s_law) (defBody s_law) (defScope s_law) .none kV doc pm an cdv ct, fun s v => .of_eq rfl, fun base kB gB => ?_⟩
  have M : Ms K mg base A_NoBy A_NoName A_NoNumber A_NoRow A_NoText A_RuleError A_TooBig A_TooFar A_TooLong := ⟨PySem.W.mg_of X G n_NoBy, PySem.W.mg_of X G n_NoName, PySem.W.mg_of X G n_NoNumber, PySem.W.mg_of X G n_NoRow, PySem.W.mg_of X G n_NoText, PySem.W.mg_of X G n_RuleError, PySem.W.mg_of X G n_TooBig, PySem.W.mg_of X G n_TooFar, PySem.W.mg_of X G n_TooLong, exC_of kB gB n_NoText q_NoText F.excBase_ValueError (by decide), exS_of kB u_NoText_RuleError v_NoText_RuleError, ⟨w1_NoText, w2_NoText, w3_NoText, w4_NoText, w5_NoText, w6_NoText⟩, k_NoText_NoBy, k_NoText_NoName, k_NoText_NoNumber, k_NoText_NoRow, k_NoText_NoText, k_NoText_RuleError, k_NoText_TooBig, k_NoText_TooFar, k_NoText_TooLong, k_NoText_ValueError⟩
  have C_is_whole := ok_is_whole (P := l.prog) (w := w) (base := base) B G0 M 
  have C_is_prime := ok_is_prime (P := l.prog) (w := w) (base := base) B G1 M 
  have C_is_by := ok_is_by (P := l.prog) (w := w) (base := base) B G2 M C_is_whole C_is_prime
  have C_is_number := ok_is_number (P := l.prog) (w := w) (base := base) B G3 M C_is_whole
  have C_are_numbers := ok_are_numbers (P := l.prog) (w := w) (base := base) B G4 M C_is_number
  have C_is_row := ok_is_row (P := l.prog) (w := w) (base := base) B G5 M C_are_numbers C_is_by
  have C_is_written := ok_is_written (P := l.prog) (w := w) (base := base) B G6 M 
  have C_read_number := ok_read_number (P := l.prog) (w := w) (base := base) B G7 M C_is_written
  have C_read_prime := ok_read_prime (P := l.prog) (w := w) (base := base) B G8 M C_read_number C_is_by
  have C_read_words := ok_read_words (P := l.prog) (w := w) (base := base) B G9 M C_read_number C_is_row
  have C_read := ok_read (P := l.prog) (w := w) (base := base) B G10 M C_read_words C_read_prime
  have C_Lcell_at := ok_Lcell_at (P := l.prog) (w := w) (base := base) B G11 M 
  have C_Lmix := ok_Lmix (P := l.prog) (w := w) (base := base) B G12 M 
  have C_Lby := ok_Lby (P := l.prog) (w := w) (base := base) B G13 M 
  have C_Lnumber := ok_Lnumber (P := l.prog) (w := w) (base := base) B G14 M 
  have C_Lnumbers := ok_Lnumbers (P := l.prog) (w := w) (base := base) B G15 M C_Lnumber
  have C_Lrow := ok_Lrow (P := l.prog) (w := w) (base := base) B G16 M C_Lmix C_Lby C_Lnumbers
  have C_Lodd := ok_Lodd (P := l.prog) (w := w) (base := base) B G17 M 
  have C_Lwords := ok_Lwords (P := l.prog) (w := w) (base := base) B G18 M 
  have C_Lrefused := ok_Lrefused (P := l.prog) (w := w) (base := base) B G19 M C_read
  have C_Lbad_word := ok_Lbad_word (P := l.prog) (w := w) (base := base) B G20 M 
  have C_Lbad_by := ok_Lbad_by (P := l.prog) (w := w) (base := base) B G21 M 
  have C_Lbad := ok_Lbad (P := l.prog) (w := w) (base := base) B G22 M C_Lwords C_Lbad_word C_Lbad_by C_Lodd
  exact ok_law B FF M C_Lrow C_Lcell_at C_Lwords C_read C_Lrefused C_Lbad C_Lmix
end K09
namespace L2
open PySem PySem.W PySem.W.X
theorem walkX_of {q : Program} {loose : List Str} {XP : (Str → Option Value) → Heap → Prop} {K : Params → Frag} {as : List Addr} {n t : Nat} {r : RowW} {d : DefRec} {kwd : List (Str × PySem.Expr)} {run : Value → List Value → Sem Value} (keys : ∀ P, as = (K P).map (·.1))
    (W : WalkO q loose XP (fun w h => (K w.params).In h) r d kwd run) : WalkX q loose XP (obsZ as) (valZ K n t) r d kwd run :=
  fun w s0 s1 mg mb G y a o pm cd doc dV kV h1 h2 h3 h4 h5 h6 args vals as' L p1 p2 p3 p4 p5 => W w s0 s1 mg mb G (InK.keeps w _ _ (z_facts keys y).2.1 L.keeps) a o pm cd doc dV kV h1 h2 h3 h4 h5 h6 args vals as' p1 p2 p3 p4 p5
end L2
namespace K09
def pwL : PySem.Program := { PySem.Challenge.pw_nextbyrule_k09_no_texts with main := { PySem.Challenge.pw_nextbyrule_k09_no_texts.main with body := [top 0, top 1, top 2, top 3, top 4, top 5, top 6, top 7, top 8, top 9, top 10, top 11, top 12, top 13, top 14, top 15, top 16, top 17, top 18, top 19, top 20, top 21, top 22, top 23, top 24, top 25, top 26, top 27, top 28, top 29, top 30, top 31, top 32, top 33, top 34, top 35, top 36, top 37, top 38, top 39, top 40, top 41] } }
def rwL : PySem.W.OpenLaw := { PySem.Challenge.rw_nextbyrule_k09_no_texts with prog := pwL }
end K09
open PySem PySem.W PyProof.Rows
set_option maxRecDepth 100000 in
set_option maxHeartbeats 0 in
theorem PySem.Challenge.cw_nextbyrule_k09_no_texts_holds : PySem.Challenge.rw_nextbyrule_k09_no_texts.Holds := by
  change K09.rwL.Holds
  w_on; o_law; z_head; (case hw => w_witness2)
  k_fill
  refine L2.walkX_of (fun _ => by kernel_rfl) ?_
  refine L2.walk_of (l := K09.rwL) (n := 63) (k := K09.KLAW) (x := "_law_script") (CX := fun w => L2.Flown K09.rwL.prog w) (sp := fun _ => K09.spLaw _) rfl (by decide) rfl ⟨rfl, by decide, by decide⟩ (fun w h Y => Y) ?F (fun w H a ns hl _ hS => ⟨a, ns, rfl, hS, hl, fun _ => rfl⟩) (fun _ _ _ _ _ z => L2.flown_none z)
  case F =>
    intro w mg fa h KX G hmg
    refine' K09.all_mk KX G hmg ?F0 ?F1 ?F2 ?F3 ?F4 ?F5 ?F6 ?F7 ?F8 ?F9 ?F10 ?F11 ?F12 ?F13 ?F14 ?F15 ?F16 ?F17 ?F18 ?F19 ?F20 ?F21 ?F22 ?FL ?z_ValueError ?z_all ?z_bool ?z_int ?z_isinstance ?z_len ?z_range ?z_str ?z_tuple ?g_ABOVE_ALL_BYS ?g_FIGURES ?g_LONGEST ?g_MOST_FIGURES_READ ?n_NoBy ?n_NoName ?n_NoNumber ?n_NoRow ?n_NoText ?n_RuleError ?n_TooBig ?n_TooFar ?n_TooLong ?q_NoText ?u_NoText_RuleError ?v_NoText_RuleError ?w1_NoText ?w2_NoText ?w3_NoText ?w4_NoText ?w5_NoText ?w6_NoText ?k_NoText_NoBy ?k_NoText_NoName ?k_NoText_NoNumber ?k_NoText_NoRow ?k_NoText_NoText ?k_NoText_RuleError ?k_NoText_TooBig ?k_NoText_TooFar ?k_NoText_TooLong ?k_NoText_ValueError
    (case F0 => (refine' L2.fnIn_mk ?a ?l ?c ?k; (case a => k_is); (case l => k_is); (case c => k_is); (case k => k_is)))
    (case F1 => (refine' L2.fnIn_mk ?a ?l ?c ?k; (case a => k_is); (case l => k_is); (case c => k_is); (case k => k_is)))
    (case F2 => (refine' L2.fnIn_mk ?a ?l ?c ?k; (case a => k_is); (case l => k_is); (case c => k_is); (case k => k_is)))
    (case F3 => (refine' L2.fnIn_mk ?a ?l ?c ?k; (case a => k_is); (case l => k_is); (case c => k_is); (case k => k_is)))
    (case F4 => (refine' L2.fnIn_mk ?a ?l ?c ?k; (case a => k_is); (case l => k_is); (case c => k_is); (case k => k_is)))
    (case F5 => (refine' L2.fnIn_mk ?a ?l ?c ?k; (case a => k_is); (case l => k_is); (case c => k_is); (case k => k_is)))
    (case F6 => (refine' L2.fnIn_mk ?a ?l ?c ?k; (case a => k_is); (case l => k_is); (case c => k_is); (case k => k_is)))
    (case F7 => (refine' L2.fnIn_mk ?a ?l ?c ?k; (case a => k_is); (case l => k_is); (case c => k_is); (case k => k_is)))
    (case F8 => (refine' L2.fnIn_mk ?a ?l ?c ?k; (case a => k_is); (case l => k_is); (case c => k_is); (case k => k_is)))
    (case F9 => (refine' L2.fnIn_mk ?a ?l ?c ?k; (case a => k_is); (case l => k_is); (case c => k_is); (case k => k_is)))
    (case F10 => (refine' L2.fnIn_mk ?a ?l ?c ?k; (case a => k_is); (case l => k_is); (case c => k_is); (case k => k_is)))
    (case F11 => (refine' L2.fnIn_mk ?a ?l ?c ?k; (case a => k_is); (case l => k_is); (case c => k_is); (case k => k_is)))
    (case F12 => (refine' L2.fnIn_mk ?a ?l ?c ?k; (case a => k_is); (case l => k_is); (case c => k_is); (case k => k_is)))
    (case F13 => (refine' L2.fnIn_mk ?a ?l ?c ?k; (case a => k_is); (case l => k_is); (case c => k_is); (case k => k_is)))
    (case F14 => (refine' L2.fnIn_mk ?a ?l ?c ?k; (case a => k_is); (case l => k_is); (case c => k_is); (case k => k_is)))
    (case F15 => (refine' L2.fnIn_mk ?a ?l ?c ?k; (case a => k_is); (case l => k_is); (case c => k_is); (case k => k_is)))
    (case F16 => (refine' L2.fnIn_mk ?a ?l ?c ?k; (case a => k_is); (case l => k_is); (case c => k_is); (case k => k_is)))
    (case F17 => (refine' L2.fnIn_mk ?a ?l ?c ?k; (case a => k_is); (case l => k_is); (case c => k_is); (case k => k_is)))
    (case F18 => (refine' L2.fnIn_mk ?a ?l ?c ?k; (case a => k_is); (case l => k_is); (case c => k_is); (case k => k_is)))
    (case F19 => (refine' L2.fnIn_mk ?a ?l ?c ?k; (case a => k_is); (case l => k_is); (case c => k_is); (case k => k_is)))
    (case F20 => (refine' L2.fnIn_mk ?a ?l ?c ?k; (case a => k_is); (case l => k_is); (case c => k_is); (case k => k_is)))
    (case F21 => (refine' L2.fnIn_mk ?a ?l ?c ?k; (case a => k_is); (case l => k_is); (case c => k_is); (case k => k_is)))
    (case F22 => (refine' L2.fnIn_mk ?a ?l ?c ?k; (case a => k_is); (case l => k_is); (case c => k_is); (case k => k_is)))
    (case FL => (refine' L2.fnIn_mk ?a ?l ?c ?k; (case a => k_is); (case l => k_is); (case c => k_is); (case k => k_is)))
    (case z_ValueError => k_is)
    (case z_all => k_is)
    (case z_bool => k_is)
    (case z_int => k_is)
    (case z_isinstance => k_is)
    (case z_len => k_is)
    (case z_range => k_is)
    (case z_str => k_is)
    (case z_tuple => k_is)
    (case g_ABOVE_ALL_BYS => exact ⟨_, by k_is⟩)
    (case g_FIGURES => exact ⟨_, by k_is⟩)
    (case g_LONGEST => exact ⟨_, by k_is⟩)
    (case g_MOST_FIGURES_READ => exact ⟨_, by k_is⟩)
    (case n_NoBy => k_is)
    (case n_NoName => k_is)
    (case n_NoNumber => k_is)
    (case n_NoRow => k_is)
    (case n_NoText => k_is)
    (case n_RuleError => k_is)
    (case n_TooBig => k_is)
    (case n_TooFar => k_is)
    (case n_TooLong => k_is)
    (case q_NoText => k_exc)
    (case u_NoText_RuleError => kernel_rfl)
    (case v_NoText_RuleError => kernel_rfl)
    (case w1_NoText => k_is)
    (case w2_NoText => k_is)
    (case w3_NoText => k_is)
    (case w4_NoText => k_is)
    (case w5_NoText => k_is)
    (case w6_NoText => kernel_rfl)
    (case k_NoText_NoBy => kit_is)
    (case k_NoText_NoName => kit_is)
    (case k_NoText_NoNumber => kit_is)
    (case k_NoText_NoRow => kit_is)
    (case k_NoText_NoText => kit_is)
    (case k_NoText_RuleError => kit_is)
    (case k_NoText_TooBig => kit_is)
    (case k_NoText_TooFar => kit_is)
    (case k_NoText_TooLong => kit_is)
    (case k_NoText_ValueError => kit_is)
