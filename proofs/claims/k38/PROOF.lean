import PyProof.Rows.All
import Wide.All
import OpenK.AllK
import Wide.FinOn
import Lean
import PyProof.EqAt
import PyProof.EqKinds
import PyProof.TupleCall
import PySem.Challenge.RW_nextbyrule_k38_far_places
set_option Elab.async false
set_option linter.all false
set_option maxRecDepth 100000
/-! THE HAND LAYER, for ints, bools, texts, own classes, LISTS and tuples (index, slices, in, append, pop ..), calls, loops. Paste it whole ahead of your own text; what your proof does not reach may be deleted. -/
namespace L2
open PySem PySem.Spec PyProof.Rows

/-- a key: an int or a str -/
abbrev Key := Sum Int Str
def keyIs : Key → Value → Bool
  | .inl k, v => Value.isInt k v
  | .inr x, v => Value.isStrOf x v
def keyH (w : World) : Key → Int
  | .inl k => hashInt k
  | .inr x => hashStr w x
theorem keyIs_shape : ∀ {k : Key} {v : Value}, keyIs k v = true → (∃ i t, k = Sum.inl i ∧ v = Value.int i t) ∨ (∃ x t, k = Sum.inr x ∧ v = Value.str x t)
  | .inl i, v, h => by
    obtain ⟨t, e⟩ := Value.isInt_shape (k := i) (v := v) h
    exact .inl ⟨i, t, rfl, e⟩
  | .inr x, v, h => by
    obtain ⟨t, e⟩ := Value.isStrOf_shape (x := x) (v := v) h
    exact .inr ⟨x, t, rfl, e⟩
theorem key_ll (a b : Int) : decide ((Sum.inl a : Key) = Sum.inl b) = (a == b) := by
  by_cases e : a = b
  · subst e; simp
  · have h : ¬ (Sum.inl a : Key) = Sum.inl b := fun q => e (Sum.inl.inj q)
    rw [decide_eq_false h]
    exact (beq_eq_false_iff_ne.mpr e).symm
theorem key_rr (a b : Str) : decide ((Sum.inr a : Key) = Sum.inr b) = decide (a = b) := by
  by_cases e : a = b
  · subst e; simp
  · have h : ¬ (Sum.inr a : Key) = Sum.inr b := fun q => e (Sum.inr.inj q)
    rw [decide_eq_false h, decide_eq_false e]
theorem key_lr (a : Int) (b : Str) : decide ((Sum.inl a : Key) = Sum.inr b) = false := decide_eq_false (fun q => nomatch q)
theorem key_rl (a : Str) (b : Int) : decide ((Sum.inr a : Key) = Sum.inl b) = false := decide_eq_false (fun q => nomatch q)

def mixKind (prog : Program) (w : World) : PySem.KeyKind prog w Key where
  is := keyIs
  hash := keyH w
  inj := fun v a b ha hb => by
    rcases keyIs_shape ha with ⟨i, t, rfl, rfl⟩ | ⟨x, t, rfl, rfl⟩
    · rcases keyIs_shape hb with ⟨j, u, rfl, e⟩ | ⟨y, u, rfl, e⟩
      · injection e with e1 _; rw [e1]
      · exact nomatch e
    · rcases keyIs_shape hb with ⟨j, u, rfl, e⟩ | ⟨y, u, rfl, e⟩
      · exact nomatch e
      · injection e with e1 _; rw [e1]
  byValue := fun k v h => by
    rcases keyIs_shape h with ⟨i, t, rfl, rfl⟩ | ⟨x, t, rfl, rfl⟩ <;> rfl
  pyHash := fun hv h => by
    rcases keyIs_shape hv with ⟨i, t, rfl, rfl⟩ | ⟨x, t, rfl, rfl⟩
    · exact wpAny_pyHash_int h
    · exact wpAny_pyHash_str h
  eqBool := fun hu hv h => by
    rcases keyIs_shape hu with ⟨i, t, rfl, rfl⟩ | ⟨x, t, rfl, rfl⟩
    · rcases keyIs_shape hv with ⟨j, u, rfl, rfl⟩ | ⟨y, u, rfl, rfl⟩
      · rw [key_ll] at h; exact wpAny_eqBool_int h
      · rw [key_lr] at h; exact SeqAt.EqAt.int_str i t y u _ _ _ _ h
    · rcases keyIs_shape hv with ⟨j, u, rfl, rfl⟩ | ⟨y, u, rfl, rfl⟩
      · rw [key_rl] at h; exact SeqAt.EqAt.str_int x t j u _ _ _ _ h
      · rw [key_rr] at h; exact wpAny_eqBool_str h
  «strs» := fun k x t v h => by
    rcases keyIs_shape h with ⟨i, u, rfl, e⟩ | ⟨y, u, rfl, e⟩
    · exact nomatch e
    · injection e with e1 _
      subst e1
      cases v <;> rfl

end L2

namespace L2
open PySem PySem.Spec PyProof.Rows

/-- a value, without the heap -/
inductive V where
  | non | bl (b : Bool) | int (i : Int) | str (x : Str) | byt (b : Array UInt8) | flt (b : UInt64) | ref (a : Addr) | ty (n : String)
  deriving DecidableEq

def RelV : V → Value → Prop
  | .non, u => u = Value.none
  | .bl b, u => u = Value.bool b
  | .int i, u => ∃ t, u = Value.int i t
  | .str x, u => ∃ t, u = Value.str x t
  | .byt b, u => ∃ t, u = Value.bytes b t
  | .flt b, u => ∃ t, u = Value.float b t
  | .ref a, u => u = Value.ref a
  | .ty n, u => u = Value.type n

abbrev Vals : List V → List Value → Prop := Paired RelV
theorem Vals.length {xs : List V} {us : List Value} (r : Vals xs us) : xs.length = us.length := Paired.length r
theorem Vals.get : ∀ {xs : List V} {us : List Value} {i : Nat} {x : V}, Vals xs us → xs[i]? = some x → ∃ u, us[i]? = some u ∧ RelV x u
  | _, _, _, _, .nil, e => by simp at e
  | _, _, 0, _, .cons r _, e => by simp at e; subst e; exact ⟨_, rfl, r⟩
  | _, _, i + 1, x, .cons _ t, e => by
    obtain ⟨u, h1, h2⟩ := Vals.get (i := i) (x := x) t (by simpa using e)
    exact ⟨u, by simpa using h1, h2⟩
theorem Vals.set {x : V} {u : Value} (r : RelV x u) : ∀ {xs : List V} {us : List Value} (i : Nat), Vals xs us → Vals (xs.set i x) (us.set i u)
  | _, _, _, .nil => .nil
  | _, _, 0, .cons _ t => .cons r t
  | _, _, i + 1, .cons q t => .cons q (Vals.set r i t)
theorem Vals.append : ∀ {xs ys : List V} {us ws : List Value}, Vals xs us → Vals ys ws → Vals (xs ++ ys) (us ++ ws)
  | _, _, _, _, .nil, s => s
  | _, _, _, _, .cons r t, s => .cons r (Vals.append t s)
theorem Vals.take : ∀ {xs : List V} {us : List Value} (n : Nat), Vals xs us → Vals (xs.take n) (us.take n)
  | _, _, 0, _ => .nil
  | _, _, _ + 1, .nil => .nil
  | _, _, n + 1, .cons r t => .cons r (Vals.take n t)
theorem Vals.drop : ∀ {xs : List V} {us : List Value} (n : Nat), Vals xs us → Vals (xs.drop n) (us.drop n)
  | _, _, 0, r => r
  | _, _, _ + 1, .nil => .nil
  | _, _, n + 1, .cons _ t => Vals.drop n t
def RelO : Option V → Option Value → Prop
  | some v, some u => RelV v u
  | none, none => True
  | _, _ => False
def KV {κ : Type} : List (κ × V) → List (κ × Value) → Prop := Paired fun (p : κ × V) (q : κ × Value) => p.1 = q.1 ∧ RelV p.2 q.2

/-- a key of a dict (00_mix): an int or a text -/
def kV : Key → V
  | .inl i => .int i
  | .inr x => .str x

/-- what stands at a tracked address -/
inductive HO where
  /-- a list -/
  | lst (xs : List V)
  /-- a tuple (never changes) -/
  | tup (xs : List V)
  /-- a dict whose keys are ints and texts; one whose keys are tuples of ints and texts (the empty one is both) -/
  | dK (kvs : List (Key × V)) | dT (kvs : List (List Key × V))
  /-- a set of ints: its members, its size -/
  | set (S : Int → Bool) (n : Nat)
  /-- an instance of the class at C, its dict at dx, its attributes -/
  | ins (C dx : Addr) (fs : List (Str × V))
  /-- the dict of the instance at x -/
  | own (x : Addr)
  /-- the dict of an exception -/
  | xd (fs : List (Str × V))
  /-- a bound method, f of x -/
  | met (f x : Addr)
  /-- a range object lo, lo + 1, .. below hi -/
  | rng (lo hi : Int)
  /-- a thing that is known to the object (the script; a dict while a loop walks it): read, never written while it is so -/
  | frz (o : Obj) (u : HO)
  /-- a code object's table -/
  | tbl (ps : Array Value)
  /-- any other thing, by what is true of its one object (a def of one's own: SetO a S n := HO.ext fun h => ..) -/
  | ext (φ : Heap → Prop)

abbrev Hp := Addr → Option HO
def upd (H : Hp) (a : Addr) (o : HO) : Hp := fun b => if b = a then some o else H b
theorem upd_same {H : Hp} {a : Addr} {o : HO} : upd H a o a = some o := by unfold upd; rw [if_pos rfl]
theorem upd_ne {H : Hp} {a b : Addr} {o : HO} (h : b ≠ a) : upd H a o b = H b := by unfold upd; rw [if_neg h]
theorem upd_upd {H : Hp} {a : Addr} {o u : HO} : upd (upd H a o) a u = upd H a u := by
  funext b; unfold upd; split <;> rfl
theorem ne_of_none {H : Hp} {a b : Addr} {o : HO} (h : H a = some o) (h' : H b = none) : a ≠ b := by
  intro e; subst e; rw [h] at h'; cases h'

section
variable (P : Program) (w : World)
def ObjOk (H : Hp) (h : Heap) (a : Addr) : HO → Prop
  | .lst xs => xs.length ≤ sizeLine ∧ ∃ (its : List Value) (n : Nat), Vals xs its ∧ h.get? a = some { cls := .type "list", data := .seq its.toArray n }
  | .tup xs => xs.length ≤ sizeLine ∧ ∃ its : List Value, Vals xs its ∧ IsTup h a its.toArray
  | .dK kvs => kvs.length ≤ sizeLine ∧ (a == sysModules) = false ∧ ∃ vs, KV kvs vs ∧ h.DictOf (mixKind P w) a vs
  | .dT kvs => kvs.length ≤ sizeLine ∧ (a == sysModules) = false ∧ ∃ xs : List (List Key × Addr × Value),
      Paired (fun (p : List Key × V) (q : List Key × Addr × Value) => p.1 = q.1 ∧ H q.2.1 = some (.tup (p.1.map kV)) ∧ RelV p.2 q.2.2) kvs xs ∧
      ∃ o es ep, h.get? a = some o ∧ o.ExactDict ∧ o.data = .dict es ep ∧ es.toList = xs.map (entryOfKey (tupleKind (mixKind P w))) ∧ (xs.map (·.1)).Nodup
  | .set S n => h.SetOf (intKind P w) a S n
  | .ins C dx fs => H dx = some (.own a) ∧ fs.length ≤ 1000 ∧ dx ≠ a ∧ h.get? a = some (PySem.W.instObj C dx) ∧
      ∃ mA, h.Ns1 dx mA ∧ (∀ f, RelO (fs.lookup f) (mA f)) ∧ PySem.Within mA (fs.map (·.1))
  | .own _ => ∃ o, h.get? a = some o
  | .xd fs => ∃ mA, h.Ns1 a mA ∧ ∀ f, RelO (fs.lookup f) (mA f)
  | .rng lo hi => ∃ t u v, h.get? a = some { cls := .type "range", data := .fields #[.int lo t, .int hi u, .int 1 v] }
  | .frz o u => h.get? a = some o ∧ ObjOk H h a u
  | .tbl ps => h.get? a = some { cls := .none, data := .fields ps }
  | .met f x => h.get? a = some (PySem.W.methodObj (.ref f) (.ref x))
  | .ext φ => φ h ∧ (∃ o, h.get? a = some o) ∧ ∀ h1 h2 : Heap, φ h1 → (∀ o, h1.get? a = some o → h2.get? a = some o) → φ h2
/-- the abstract heap is held -/
def HOk (H : Hp) (h : Heap) : Prop := ∀ a o, H a = some o → ObjOk P w H h a o
end

section
variable {P : Program} {w : World} {H H' : Hp} {h h' : Heap} {a : Addr} {o : HO}
theorem ObjOk.lt (x : ObjOk P w H h a o) : a < h.objs.size := by
  cases o with
  | lst xs => obtain ⟨_, _, _, _, e⟩ := x; exact Heap.lt_size e
  | tup xs => obtain ⟨_, _, _, p⟩ := x; exact p.lt
  | dK kvs => obtain ⟨_, _, _, _, o, _, _, e, _⟩ := x; exact Heap.lt_size e
  | dT kvs => obtain ⟨_, _, _, _, o, _, _, e, _⟩ := x; exact Heap.lt_size e
  | set S n => obtain ⟨o, _, _, _, e, _⟩ := x; exact Heap.lt_size e
  | ins C dx fs => obtain ⟨_, _, _, e, _⟩ := x; exact Heap.lt_size e
  | own y => obtain ⟨_, e⟩ := x; exact Heap.lt_size e
  | xd fs => obtain ⟨_, ⟨_, _, _, e, _⟩, _⟩ := x; exact Heap.lt_size e
  | rng lo hi => obtain ⟨_, _, _, e⟩ := x; exact Heap.lt_size e
  | frz ob u => obtain ⟨e, _⟩ := x; exact Heap.lt_size e
  | tbl ps => exact Heap.lt_size (show h.get? a = some _ from x)
  | met f y => exact Heap.lt_size (show h.get? a = some _ from x)
  | ext φ => obtain ⟨_, ⟨_, e⟩, _⟩ := x; exact Heap.lt_size e
theorem Paired.mapP {α β : Type} {F G : α → β → Prop} : ∀ {l₁ : List α} {l₂ : List β}, Paired F l₁ l₂ → (∀ a b, F a b → G a b) → Paired G l₁ l₂
  | _, _, .nil, _ => .nil
  | _, _, .cons r t, f => .cons (f _ _ r) (Paired.mapP t f)
/-- what an object's description leans on: its own object, its own dict, the tuples -/
theorem ObjOk.stay (x : ObjOk P w H h a o) (k : ∀ b u, (b = a ∨ H b = some (.own a)) → h.get? b = some u → h'.get? b = some u)
    (ho : ∀ b, H b = some (.own a) → H' b = some (.own a)) (ht : ∀ b xs, H b = some (.tup xs) → H' b = some (.tup xs)) : ObjOk P w H' h' a o := by
  induction o with
  | lst xs => obtain ⟨z, its, n, r, e⟩ := x; exact ⟨z, its, n, r, k _ _ (.inl rfl) e⟩
  | tup xs => obtain ⟨z, its, r, ob, e, c⟩ := x; exact ⟨z, its, r, ob, k _ _ (.inl rfl) e, c⟩
  | dK kvs => obtain ⟨z, y, vs, r, ob, es, ep, e, c⟩ := x; exact ⟨z, y, vs, r, ob, es, ep, k _ _ (.inl rfl) e, c⟩
  | dT kvs =>
    obtain ⟨z, y, xs, r, ob, es, ep, e, c⟩ := x
    exact ⟨z, y, xs, Paired.mapP r fun p q z => ⟨z.1, ht _ _ z.2.1, z.2.2⟩, ob, es, ep, k _ _ (.inl rfl) e, c⟩
  | set S n => obtain ⟨ob, es, ep, t, e, c⟩ := x; exact ⟨ob, es, ep, t, k _ _ (.inl rfl) e, c⟩
  | ins C dx fs =>
    obtain ⟨d, z, ne, e, mA, ⟨od, es, ep, e2, c⟩, r⟩ := x
    exact ⟨ho _ d, z, ne, k _ _ (.inl rfl) e, mA, ⟨od, es, ep, k _ _ (.inr d) e2, c⟩, r⟩
  | own y => obtain ⟨ob, e⟩ := x; exact ⟨ob, k _ _ (.inl rfl) e⟩
  | xd fs => obtain ⟨mA, ⟨od, es, ep, e, c⟩, r⟩ := x; exact ⟨mA, ⟨od, es, ep, k _ _ (.inl rfl) e, c⟩, r⟩
  | rng lo hi => obtain ⟨t, u, v, e⟩ := x; exact ⟨t, u, v, k _ _ (.inl rfl) e⟩
  | frz ob u ih => obtain ⟨e, q⟩ := x; exact ⟨k _ _ (.inl rfl) e, ih q⟩
  | tbl ps =>
    have e : h.get? a = some { cls := .none, data := .fields ps } := x
    show h'.get? a = some { cls := .none, data := .fields ps }
    exact k a _ (.inl rfl) e
  | met f y =>
    have e : h.get? a = some (PySem.W.methodObj (.ref f) (.ref y)) := x
    show h'.get? a = some (PySem.W.methodObj (.ref f) (.ref y))
    exact k a _ (.inl rfl) e
  | ext φ => obtain ⟨p, ⟨o, e⟩, st⟩ := x; exact ⟨st _ _ p fun o q => k _ _ (.inl rfl) q, ⟨o, k _ _ (.inl rfl) e⟩, st⟩
theorem HOk.lt (x : HOk P w H h) (e : H a = some o) : a < h.objs.size := (x a o e).lt
theorem HOk.fresh (x : HOk P w H h) (e : h.objs.size ≤ a) : H a = none := by
  cases q : H a with
  | none => rfl
  | some u => exact absurd (Nat.lt_of_lt_of_le (x.lt q) e) (Nat.lt_irrefl _)
/-- every object of the heap is kept -/
theorem HOk.kept (x : HOk P w H h) (k : ∀ b u, h.get? b = some u → h'.get? b = some u) : HOk P w H h' := fun a o e =>
  (x a o e).stay (fun b u _ q => k b u q) (fun _ q => q) fun _ _ q => q
/-- a new object is laid and tracked -/
theorem HOk.laid (x : HOk P w H h) (k : ∀ b u, h.get? b = some u → h'.get? b = some u) (hp : h.objs.size ≤ a) (new : ObjOk P w (upd H a o) h' a o) : HOk P w (upd H a o) h' := fun b u e => by
  have hn := x.fresh hp
  by_cases hb : b = a
  · subst hb; rw [upd_same] at e; cases e; exact new
  · rw [upd_ne hb] at e
    exact (x b u e).stay (fun c v _ q => k c v q) (fun c q => by rw [upd_ne (ne_of_none q hn)]; exact q) fun c xs q => by rw [upd_ne (ne_of_none q hn)]; exact q
end

/-- what may be read as u: it is u, or a known u -/
def Rd (H : Hp) (a : Addr) (u : HO) : Prop := H a = some u ∨ ∃ o, H a = some (.frz o u)
theorem Rd.ok {P : Program} {w : World} {H : Hp} {h : Heap} {a : Addr} {u : HO} (r : Rd H a u) (x : HOk P w H h) : ObjOk P w H h a u := by
  rcases r with r | ⟨o, r⟩
  · exact x a u r
  · obtain ⟨_, q⟩ := x a _ r
    exact q
/-- what may be written -/
def Mut : Option HO → Prop
  | some (.lst _) => True
  | some (.dK _) => True
  | some (.dT _) => True
  | some (.set _ _) => True
  | some (.ins _ _ _) => True
  | some (.ext _) => True
  | _ => False
section
variable {P : Program} {w : World} {H : Hp} {h h' : Heap} {x e : Addr} {o' : HO}
/-- the object at e is changed: x itself, or the dict of the instance x -/
theorem HOk.write (ok : HOk P w H h) (mu : Mut (H x)) (he : e = x ∨ H e = some (.own x)) (k : ∀ b u, b ≠ e → h.get? b = some u → h'.get? b = some u) (heo : ∃ u, h'.get? e = some u)
    (new : ObjOk P w (upd H x o') h' x o') : HOk P w (upd H x o') h' := fun b u q => by
  have nown : ∀ c y, H c = some (.own y) → c ≠ x := fun c y r z => by subst z; rw [r] at mu; exact mu
  have ntup : ∀ c xs, H c = some (.tup xs) → c ≠ x := fun c xs r z => by subst z; rw [r] at mu; exact mu
  by_cases hb : b = x
  · subst hb; rw [upd_same] at q; cases q; exact new
  · rw [upd_ne hb] at q
    by_cases hbe : b = e
    · have q' : H b = some (.own x) := by
        rcases he with z | z
        · exact absurd (hbe.trans z) hb
        · rw [hbe]; exact z
      rw [q] at q'; cases q'
      obtain ⟨v, hv⟩ := heo
      exact ⟨v, by rw [hbe]; exact hv⟩
    · refine (ok b u q).stay (fun c v hc r => k c v ?_ r) (fun c r => by rw [upd_ne (nown c b r)]; exact r) fun c xs r => by rw [upd_ne (ntup c xs r)]; exact r
      rcases hc with rfl | hc
      · exact hbe
      · rintro rfl
        rcases he with z | z
        · exact nown c b hc z
        · rw [hc] at z; cases z; exact hb rfl
end

/-! ### kept unless tracked; of the frames at fs (the callers') the slots may change (an exception that passes writes there); of the records at ex (iterators) nothing is said -/
structure Un (fs ex : List Addr) (H H' : Hp) (h h' : Heap) : Prop where
  keep : ∀ b o, h.get? b = some o → H b = none → b ∉ fs → b ∉ ex → h'.get? b = some o
  slot : ∀ b o, h.get? b = some o → H b = none → b ∈ fs → b ∉ ex → ∃ sl, h'.get? b = some { o with slots := sl }
  free : ∀ b o, h.get? b = some o → H b = none → b ∉ ex → H' b = none
  there : ∀ b o, h.get? b = some o → b ∉ ex → ∃ o', h'.get? b = some o'
  tups : ∀ b xs, H b = some (.tup xs) → H' b = some (.tup xs)
  frzs : ∀ b o u, H b = some (.frz o u) → H' b = some (.frz o u)
  tbls : ∀ b ps, H b = some (.tbl ps) → ∃ more, H' b = some (.tbl (ps ++ more))
section
variable {fs fs' ex ex' : List Addr} {H H1 H2 : Hp} {h h1 h2 h' : Heap} {a x e : Addr} {o : HO}
theorem Un.any (u : Un fs ex H H1 h h1) {b : Addr} {ob : Obj} (q : h.get? b = some ob) (n : H b = none) (hx : b ∉ ex) : ∃ sl, h1.get? b = some { ob with slots := sl } := by
  by_cases hb : b ∈ fs
  · exact u.slot b ob q n hb hx
  · exact ⟨ob.slots, u.keep b ob q n hb hx⟩
theorem Un.kept (k : ∀ b u, h.get? b = some u → h'.get? b = some u) : Un fs ex H H h h' :=
  ⟨fun b ob q _ _ _ => k b ob q, fun b ob q _ _ _ => ⟨ob.slots, k b ob q⟩, fun _ _ _ n _ => n, fun b ob q _ => ⟨ob, k b ob q⟩, fun _ _ q => q, fun _ _ _ q => q, fun _ ps q => ⟨#[], by rw [q]; simp⟩⟩
theorem Un.refl : Un fs ex H H h h := Un.kept fun _ _ q => q
theorem Un.laid (k : ∀ b u, h.get? b = some u → h'.get? b = some u) (hp : h.objs.size ≤ a) (hn : H a = none) : Un fs ex H (upd H a o) h h' where
  keep := fun b u q _ _ _ => k b u q
  slot := fun b u q _ _ _ => ⟨u.slots, k b u q⟩
  free := fun b u q n _ => by rw [upd_ne (Nat.ne_of_lt (Nat.lt_of_lt_of_le (Heap.lt_size q) hp))]; exact n
  there := fun b u q _ => ⟨u, k b u q⟩
  tups := fun b xs q => by rw [upd_ne (ne_of_none q hn)]; exact q
  frzs := fun b u xs q => by rw [upd_ne (ne_of_none q hn)]; exact q
  tbls := fun b ps q => ⟨#[], by rw [upd_ne (ne_of_none q hn), q]; simp⟩
theorem Un.write (mu : Mut (H x)) (he : e = x ∨ H e = some (.own x)) (k : ∀ b u, b ≠ e → h.get? b = some u → h'.get? b = some u) (heo : ∃ u, h'.get? e = some u) : Un fs ex H (upd H x o) h h' := by
  have hx : ∀ b, H b = none → b ≠ x := fun b n z => by subst z; rw [n] at mu; exact mu
  have hb : ∀ b, H b = none → b ≠ e := fun b n z => by
    subst z
    rcases he with r | r
    · exact hx b n r
    · rw [n] at r; cases r
  have hm : ∀ b u, H b = some u → ¬ Mut (some u) → b ≠ x := fun b u q nm z => by subst z; rw [q] at mu; exact nm mu
  refine ⟨fun b u q n _ _ => k b u (hb b n) q, fun b u q n _ _ => ⟨u.slots, k b u (hb b n) q⟩, fun b u q n _ => by rw [upd_ne (hx b n)]; exact n, fun b u q _ => ?_,
    fun b xs q => by rw [upd_ne (hm b _ q fun z => z)]; exact q, fun b u xs q => by rw [upd_ne (hm b _ q fun z => z)]; exact q, fun b ps q => ⟨#[], by rw [upd_ne (hm b _ q fun z => z), q]; simp⟩⟩
  by_cases hbe : b = e
  · subst hbe; exact heo
  · exact ⟨u, k b u hbe q⟩
end

/-! ### the heap without what is tracked -/
def trk (h : Heap) (H : Hp) : List Addr := (List.range h.objs.size).filter fun a => (H a).isSome
def hidT (h : Heap) (H : Hp) : Heap := PySem.W.hideAll h (trk h H)
theorem hidT_size (h : Heap) (H : Hp) : (hidT h H).objs.size = h.objs.size := PySem.W.hideAll_size _ _
theorem hidT_get {h : Heap} {H : Hp} {b : Addr} {o : Obj} (e : h.get? b = some o) (n : H b = none) : (hidT h H).get? b = some o :=
  PySem.W.hideAll_get _ e fun hm => by
    have q : (H b).isSome = true := (List.mem_filter.mp hm).2
    rw [n] at q; simp at q
theorem of_hidT {h : Heap} {H : Hp} {b : Addr} {o : Obj} (e : (hidT h H).get? b = some o) : h.get? b = some o ∧ H b = none := by
  have e' : h.get? b = some o := PySem.W.of_hideAll (trk h H) e
  refine ⟨e', ?_⟩
  cases q : H b with
  | none => rfl
  | some x =>
    have hm : b ∈ trk h H := List.mem_filter.mpr ⟨List.mem_range.mpr (Heap.lt_size e'), by simp [q]⟩
    have z : (hidT h H).get? b = none := PySem.W.hideAll_none (trk h H) hm
    rw [z] at e; cases e

/-! ### OpenK's ledger, filled with every new object but one -/
end L2

namespace L2
open PySem PySem.Spec PyProof.Rows

/-- the module's facts, over the base: the heap at the law's entry without what is tracked there -/
structure Mod (K : PySem.W.Frag) (mg : Str → Option Value) (base : Heap) : Prop where
  kin : K.In base
  glob : base.Ns mainGlobals mg
  blt : ∃ mb, base.Ns builtinsNs mb ∧ ∀ x : Str, x ≠ "__name__" → mb x = bootBuiltins x
  nolimit : base.NoLimit

/-- the context: a def's body (or a comprehension's block) running. base: fixed through the whole law; s₀, H₀: the entry; outer: the frames whose slots others may change (a def's callers); stack: all frames that run;
   ex: iterators that were made ahead of the entry and are walked here (a comprehension's); fn: the names whose cells were made at the entry (a def: all; a comprehension's block: its own); calm: not within an except suite; pn: pins that every state bears; xe: what is wanted of an exception that leaves the code -/
structure Cx where
  prog : Program
  w : World
  K : PySem.W.Frag
  mg : Str → Option Value
  base : Heap
  A : Around
  N : List Str
  s₀ : Shared
  H₀ : Hp
  env : Env
  outer : List Env
  stack : List Env
  ex : List Addr
  fn : Str → Bool
  calm : Bool
  pn : List (Addr × Obj)
  xe : Value → Shared → Prop
/-- the callers' frames -/
def frs (l : List Env) : List Addr := l.filterMap (·.frame)
abbrev Cx.fs (X : Cx) : List Addr := frs X.outer

def Vis (sc : Scope) (x : Str) : Prop := sc.names.lookup x = some .local ∨ sc.names.lookup x = some .cell ∨ sc.names.lookup x = some .free
def Loc (sc : Scope) (x : Str) : Prop := sc.names.lookup x = some .local ∨ sc.names.lookup x = some .cell
def Look (env : Env) (h : Heap) (m : Str → Option Value) (x : Str) (u : Value) : Prop :=
  (env.kindOf x = some .local ∧ m x = some u) ∨ ((env.kindOf x = some .cell ∨ env.kindOf x = some .free) ∧ ∃ c, env.cells.lookup x = some c ∧ h.IsCell c (some u))

structure Cx.Ok (X : Cx) : Prop where
  mod : Mod X.K X.mg X.base
  kind : X.env.scope.kind = .function
  glob : X.env.globals = mainGlobals
  blt : X.env.builtins = builtinsNs
  above : X.s₀.heap.objs.size ≤ X.env.locals
  inj : ∀ x y c, X.env.cells.lookup x = some c → X.env.cells.lookup y = some c → x = y
  has : ∀ x, (X.env.kindOf x = some .cell ∨ X.env.kindOf x = some .free) → ∃ c, X.env.cells.lookup x = some c
  cab : ∀ x c, X.fn x = true → X.env.cells.lookup x = some c → X.s₀.heap.objs.size ≤ c
  hd : X.calm = true → X.A.handled = none
  frames : X.A.frames = some X.stack
  stk : X.stack = X.outer ∨ (X.stack = X.env :: X.outer ∧ X.env.frame = some X.env.locals)
  exf : ∀ b ∈ X.ex, b ≠ X.env.locals ∧ ∀ x c, X.env.cells.lookup x = some c → c ≠ b
  bs : ∀ b o, X.base.get? b = some o → X.s₀.heap.get? b = some o ∧ X.H₀ b = none
  bsz : X.base.objs.size ≤ X.s₀.heap.objs.size
  noex : ∀ b o, X.base.get? b = some o → b ∉ X.ex
  exfs : ∀ b ∈ X.ex, b ∉ X.fs
  funs : X.s₀.heap.FunFrames X.base X.outer
  frf : ∀ b ∈ X.fs, X.H₀ b = none

structure Inv (X : Cx) (pins : List (Addr × Obj)) (σ : List (Option V)) (H : Hp) (s : Shared) : Prop where
  ok : X.Ok
  os : s.os = X.s₀.os
  bare : AllBare s.gens
  base : Un X.fs X.ex X.H₀ H X.s₀.heap s.heap
  loc : ∃ m, s.heap.Ns X.env.locals m ∧ ∀ (i : Nat) (x : Str) (v : V), X.N[i]? = some x → σ[i]? = some (some v) → Vis X.env.scope x → ∃ u, RelV v u ∧ Look X.env s.heap m x u
  cell : ∀ x c, X.env.cells.lookup x = some c → ∃ v, s.heap.IsCell c v
  free : H X.env.locals = none
  freeC : ∀ x c, X.env.cells.lookup x = some c → H c = none
  pin : ∀ p ∈ X.pn ++ pins, s.heap.get? p.1 = some p.2 ∧ H p.1 = none ∧ p.1 ≠ X.env.locals ∧ p.1 ∉ X.fs ∧ ∀ v, p.2.data ≠ .cell v
  hok : HOk X.prog X.w H s.heap
  len : σ.length = X.N.length

section
variable {X : Cx} {pins : List (Addr × Obj)} {σ : List (Option V)} {H H' : Hp} {s : Shared} {h' : Heap}

theorem Cx.Ok.nofr (ok : X.Ok) {b : Addr} {o : Obj} (e : X.base.get? b = some o) : b ∉ X.fs := fun hb => by
  have := (ok.funs.mem hb).1
  rw [e] at this; cases this
theorem Inv.bs (I : Inv X pins σ H s) : ∀ b o, X.base.get? b = some o → s.heap.get? b = some o ∧ H b = none := fun b o e =>
  ⟨I.base.keep b o (I.ok.bs b o e).1 (I.ok.bs b o e).2 (I.ok.nofr e) (I.ok.noex b o e), I.base.free b o (I.ok.bs b o e).1 (I.ok.bs b o e).2 (I.ok.noex b o e)⟩
theorem Inv.bk (I : Inv X pins σ H s) : ∀ b o, X.base.get? b = some o → s.heap.get? b = some o := fun b o e => (I.bs b o e).1
theorem Inv.mod (I : Inv X pins σ H s) : Mod X.K X.mg X.base := I.ok.mod
theorem Inv.kIn (I : Inv X pins σ H s) : X.K.In s.heap := I.ok.mod.kin.keeps I.bk
theorem Inv.lt (I : Inv X pins σ H s) : X.env.locals < s.heap.objs.size := let ⟨_, hn, _⟩ := I.loc; hn.lt
theorem Inv.sz (I : Inv X pins σ H s) : X.s₀.heap.objs.size ≤ s.heap.objs.size := Nat.le_trans I.ok.above (Nat.le_of_lt I.lt)
theorem Inv.nofs (I : Inv X pins σ H s) {a : Addr} (h : s.heap.objs.size ≤ a) : a ∉ X.fs := fun hb => by
  obtain ⟨_, o, ho, _⟩ := I.ok.funs.mem hb
  exact absurd (Nat.lt_of_lt_of_le (Heap.lt_size ho) (Nat.le_trans I.sz h)) (Nat.lt_irrefl _)
theorem Inv.cne (I : Inv X pins σ H s) : ∀ x c, X.env.cells.lookup x = some c → c ≠ X.env.locals := fun x c e z => by
  obtain ⟨v, o, ho, hd⟩ := I.cell x c e
  obtain ⟨m, ⟨o', es, ep, ho', hd', _⟩, _⟩ := I.loc
  rw [z, ho'] at ho; cases ho; rw [hd'] at hd; cases hd
theorem Inv.funs (I : Inv X pins σ H s) : s.heap.FunFrames X.base X.outer := by
  have all : ∀ (l : List Env), (∀ b ∈ frs l, b ∈ X.fs) → X.s₀.heap.FunFrames X.base l → s.heap.FunFrames X.base l := by
    intro l
    induction l with
    | nil => intro _ _; trivial
    | cons env r ih =>
      intro hs hl
      obtain ⟨hk, ⟨L, o, hf, hn, ho, hd⟩, hr⟩ := hl
      have hL : L ∈ X.fs := hs L (by unfold frs; rw [List.filterMap_cons, hf]; exact List.mem_cons_self)
      obtain ⟨sl, e⟩ := I.base.slot L o ho (I.ok.frf L hL) hL fun z => I.ok.exfs L z hL
      exact ⟨hk, ⟨L, _, hf, hn, e, hd⟩, ih (fun b hb => hs b (by unfold frs; rw [List.filterMap_cons, hf]; exact List.mem_cons_of_mem _ hb)) hr⟩
  exact all X.outer (fun _ hb => hb) I.ok.funs

/-- the frames that run, for a call -/
theorem Inv.stack (I : Inv X pins σ H s) : s.heap.FunFrames X.base X.stack := by
  rcases I.ok.stk with e | ⟨e, hf⟩
  · rw [e]; exact I.funs
  · rw [e]
    obtain ⟨m, hn, _⟩ := I.loc
    refine .cons (by rw [I.ok.kind]; decide) hf hn ?_ I.funs
    exact Heap.get?_none_of_le (Nat.le_trans I.ok.bsz I.ok.above)
theorem Inv.stkSub (I : Inv X pins σ H s) : ∀ b ∈ frs X.stack, b ∈ X.env.locals :: X.fs := fun b hb => by
  rcases I.ok.stk with e | ⟨e, hf⟩
  · rw [e] at hb; exact List.mem_cons_of_mem _ hb
  · rw [e] at hb
    unfold frs at hb
    rw [List.filterMap_cons, hf] at hb
    exact hb
theorem Inv.stkFree (I : Inv X pins σ H s) : ∀ b ∈ frs X.stack, H b = none := fun b hb => by
  rcases List.mem_cons.mp (I.stkSub b hb) with e | hb
  · rw [e]; exact I.free
  · obtain ⟨_, o, ho, _⟩ := I.ok.funs.mem hb
    exact I.base.free b o ho (I.ok.frf b hb) fun z => I.ok.exfs b z hb

/-- THE STEP: the untracked objects but the frame and the records at ch are kept (the callers' frames up to slots), the frame's map is kept, the new abstract heap is held -/
theorem Inv.step {g' : Array GenState} {t' : Nat} {d' : Drawn} {ch : List Addr} (I : Inv X pins σ H s)
    (hch : ∀ b ∈ ch, (b ∈ X.ex ∨ X.s₀.heap.objs.size ≤ b) ∧ b ≠ X.env.locals ∧ (∀ x c, X.env.cells.lookup x = some c → c ≠ b) ∧ ∀ p ∈ X.pn ++ pins, p.1 ≠ b)
    (keep : ∀ b o, b ≠ X.env.locals → b ∉ X.fs → b ∉ ch → s.heap.get? b = some o → H b = none → h'.get? b = some o)
    (slot : ∀ b o, b ≠ X.env.locals → b ∈ X.fs → b ∉ ch → s.heap.get? b = some o → H b = none → ∃ sl, h'.get? b = some { o with slots := sl }) (free : ∀ b o, b ∉ ch → s.heap.get? b = some o → H b = none → H' b = none)
    (there : ∀ b o, b ∉ ch → s.heap.get? b = some o → ∃ o', h'.get? b = some o')
    (tups : ∀ b xs, H b = some (.tup xs) → H' b = some (.tup xs)) (frzs : ∀ b o u, H b = some (.frz o u) → H' b = some (.frz o u)) (tbls : ∀ b ps, H b = some (.tbl ps) → ∃ more, H' b = some (.tbl (ps ++ more)))
    (ns : ∀ m, s.heap.Ns X.env.locals m → h'.Ns X.env.locals m) (hok : HOk X.prog X.w H' h') (hg : AllBare g') :
    Inv X pins σ H' { s with heap := h', gens := g', drawn := d', toks := t' } := by
  have neL : ∀ b o, X.s₀.heap.get? b = some o → b ≠ X.env.locals := fun b o e => Nat.ne_of_lt (Nat.lt_of_lt_of_le (Heap.lt_size e) I.ok.above)
  have neC : ∀ b o, X.s₀.heap.get? b = some o → b ∉ X.ex → b ∉ ch := fun b o e hx hb => by
    rcases (hch b hb).1 with z | z
    · exact hx z
    · exact absurd (Nat.lt_of_lt_of_le (Heap.lt_size e) z) (Nat.lt_irrefl _)
  have cellK : ∀ x c, X.env.cells.lookup x = some c → ∀ v, s.heap.IsCell c v → h'.IsCell c v := fun x c e v ⟨o, ho, hd⟩ => by
    have nch : c ∉ ch := fun z => (hch c z).2.2.1 x c e rfl
    by_cases hc : c ∈ X.fs
    · obtain ⟨sl, q⟩ := slot c o (I.cne x c e) hc nch ho (I.freeC x c e)
      exact ⟨_, q, hd⟩
    · exact ⟨o, keep c o (I.cne x c e) hc nch ho (I.freeC x c e), hd⟩
  refine ⟨I.ok, I.os, hg, ⟨fun b o e n hb hx => ?_, fun b o e n hb hx => ?_, fun b o e n hx => ?_, fun b o e hx => ?_, fun b xs e => tups b xs (I.base.tups b xs e), fun b o xs e => frzs b o xs (I.base.frzs b o xs e), fun b ps e => ?_⟩, ?_, fun x c e => ?_, ?_, fun x c e => ?_, fun p hp => ?_, hok, I.len⟩
  · exact keep b o (neL b o e) hb (neC b o e hx) (I.base.keep b o e n hb hx) (I.base.free b o e n hx)
  · obtain ⟨sl, e1⟩ := I.base.slot b o e n hb hx
    obtain ⟨sl', e2⟩ := slot b _ (neL b o e) hb (neC b o e hx) e1 (I.base.free b o e n hx)
    exact ⟨sl', e2⟩
  · obtain ⟨o', e1⟩ := I.base.there b o e hx
    exact free b o' (neC b o e hx) e1 (I.base.free b o e n hx)
  · obtain ⟨o', e1⟩ := I.base.there b o e hx
    exact there b o' (neC b o e hx) e1
  · obtain ⟨m1, e1⟩ := I.base.tbls b ps e
    obtain ⟨m2, e2⟩ := tbls b _ e1
    exact ⟨m1 ++ m2, by rw [e2, Array.append_assoc]⟩
  · obtain ⟨m, hn, hl⟩ := I.loc
    refine ⟨m, ns m hn, fun i x v e1 e2 e3 => ?_⟩
    obtain ⟨u, r, l⟩ := hl i x v e1 e2 e3
    refine ⟨u, r, ?_⟩
    rcases l with l | ⟨k, c, e, z⟩
    · exact .inl l
    · exact .inr ⟨k, c, e, cellK x c e _ z⟩
  · obtain ⟨v, z⟩ := I.cell x c e
    exact ⟨v, cellK x c e v z⟩
  · obtain ⟨m, ⟨o, _, _, ho, _⟩, _⟩ := I.loc
    exact free _ o (fun z => (hch _ z).2.1 rfl) ho I.free
  · obtain ⟨v, o, ho, hd⟩ := I.cell x c e
    exact free c o (fun z => (hch c z).2.2.1 x c e rfl) ho (I.freeC x c e)
  · obtain ⟨e, n, ne, nf, d⟩ := I.pin p hp
    have nch : p.1 ∉ ch := fun z => (hch p.1 z).2.2.2 p hp rfl
    exact ⟨keep p.1 p.2 ne nf nch e n, free p.1 p.2 nch e n, ne, nf, d⟩
/-- .. where the frame's own object is kept too -/
theorem Inv.un {t' : Nat} (I : Inv X pins σ H s) (u : Un X.fs [] H H' s.heap h') (hok : HOk X.prog X.w H' h') : Inv X pins σ H' { s with heap := h', toks := t' } := by
  obtain ⟨m, ⟨o, es, ep, ho, r⟩, _⟩ := id I.loc
  obtain ⟨sl, hL⟩ := u.any ho I.free (by simp)
  exact I.step (g' := s.gens) (d' := s.drawn) (ch := []) (fun _ z => nomatch z) (fun b o _ hb _ e n => u.keep b o e n hb (by simp)) (fun b o _ hb _ e n => u.slot b o e n hb (by simp)) (fun b o _ e n => u.free b o e n (by simp)) (fun b o _ e => u.there b o e (by simp)) u.tups u.frzs u.tbls (fun m' hm => by
    obtain ⟨o', es', ep', ho', r'⟩ := hm
    rw [ho] at ho'; cases ho'
    exact ⟨_, es', ep', hL, r'⟩) hok I.bare
/-- behind a call (or a comprehension's block): the slots of this frame may have changed too, the records at ch may have turned -/
theorem Inv.call {g' : Array GenState} {t' : Nat} {d' : Drawn} {ch : List Addr} (I : Inv X pins σ H s) (u : Un (frs X.stack) ch H H' s.heap h') (hok : HOk X.prog X.w H' h') (hg : AllBare g')
    (hch : ∀ b ∈ ch, (b ∈ X.ex ∨ X.s₀.heap.objs.size ≤ b) ∧ b ≠ X.env.locals ∧ (∀ x c, X.env.cells.lookup x = some c → c ≠ b) ∧ ∀ p ∈ X.pn ++ pins, p.1 ≠ b) :
    Inv X pins σ H' { s with heap := h', gens := g', drawn := d', toks := t' } := by
  obtain ⟨m, ⟨o, es, ep, ho, r⟩, _⟩ := id I.loc
  obtain ⟨sl, hL⟩ := u.any ho I.free fun z => (hch _ z).2.1 rfl
  exact I.step (ch := ch) hch (fun b o hL hb hc e n => u.keep b o e n (fun z => (List.mem_cons.mp (I.stkSub b z)).elim hL hb) hc) (fun b o _ _ hc e n => u.any e n hc) (fun b o hc e n => u.free b o e n hc) (fun b o hc e => u.there b o e hc) u.tups u.frzs u.tbls (fun m' hm => by
    obtain ⟨o', es', ep', ho', r'⟩ := hm
    rw [ho] at ho'; cases ho'
    exact ⟨_, es', ep', hL, r'⟩) hok hg
/-- an untracked record of ours (an iterator) has turned -/
theorem Inv.turned {t' : Nat} {it : Addr} (I : Inv X pins σ H s) (k : ∀ b o, b ≠ it → s.heap.get? b = some o → h'.get? b = some o) (hn : H it = none) (hL : it ≠ X.env.locals)
    (h1 : it ∈ X.ex ∨ X.s₀.heap.objs.size ≤ it) (h2 : ∀ x c, X.env.cells.lookup x = some c → c ≠ it) (h3 : ∀ p ∈ X.pn ++ pins, p.1 ≠ it) : Inv X pins σ H { s with heap := h', toks := t' } := by
  have nit : ∀ b u, H b = some u → b ≠ it := fun b u e z => by rw [z, hn] at e; cases e
  refine I.step (g' := s.gens) (d' := s.drawn) (ch := [it]) (fun b hb => ?_) (fun b o _ _ hc e _ => k b o (fun z => hc (by simp [z])) e) (fun b o _ _ hc e _ => ⟨o.slots, k b o (fun z => hc (by simp [z])) e⟩) (fun _ _ _ _ n => n)
    (fun b o hc e => ⟨o, k b o (fun z => hc (by simp [z])) e⟩) (fun _ _ e => e) (fun _ _ _ e => e) (fun b ps e => ⟨#[], by rw [e]; simp⟩) (fun m hm => ?_) (fun b u e => ?_) I.bare
  · have e : b = it := by simpa using hb
    subst e
    exact ⟨h1, hL, h2, h3⟩
  · obtain ⟨o, es, ep, ho, r⟩ := hm
    exact ⟨o, es, ep, k _ o (Ne.symm hL) ho, r⟩
  · refine (I.hok b u e).stay (fun c v hc q => k c v ?_ q) (fun _ q => q) fun _ _ q => q
    rcases hc with z | z
    · rw [z]; exact nit b u e
    · exact nit c _ z
theorem Inv.tok (I : Inv X pins σ H s) (t : Nat) : Inv X pins σ H { s with toks := t } := I.un (h' := s.heap) (t' := t) Un.refl I.hok
/-- all objects kept -/
theorem Inv.kept {t' : Nat} (I : Inv X pins σ H s) (k : ∀ b u, s.heap.get? b = some u → h'.get? b = some u) : Inv X pins σ H { s with heap := h', toks := t' } := I.un (Un.kept k) (I.hok.kept k)
/-- a new object laid and tracked -/
theorem Inv.laid {a : Addr} {o : HO} {t' : Nat} (I : Inv X pins σ H s) (k : ∀ b u, s.heap.get? b = some u → h'.get? b = some u) (hp : s.heap.objs.size ≤ a) (new : ObjOk X.prog X.w (upd H a o) h' a o) :
    Inv X pins σ (upd H a o) { s with heap := h', toks := t' } := I.un (Un.laid k hp (I.hok.fresh hp)) (I.hok.laid k hp new)
/-- an object written -/
theorem Inv.write {x e : Addr} {o : HO} {t' : Nat} (I : Inv X pins σ H s) (mu : Mut (H x)) (he : e = x ∨ H e = some (.own x)) (k : ∀ b u, b ≠ e → s.heap.get? b = some u → h'.get? b = some u) (heo : ∃ u, h'.get? e = some u)
    (new : ObjOk X.prog X.w (upd H x o) h' x o) : Inv X pins σ (upd H x o) { s with heap := h', toks := t' } := I.un (Un.write mu he k heo) (I.hok.write mu he k heo new)
theorem Inv.pins_of {pins' : List (Addr × Obj)} (I : Inv X pins σ H s) (h : ∀ p ∈ pins', s.heap.get? p.1 = some p.2 ∧ H p.1 = none ∧ p.1 ≠ X.env.locals ∧ p.1 ∉ X.fs ∧ ∀ v, p.2.data ≠ .cell v) : Inv X pins' σ H s :=
  ⟨I.ok, I.os, I.bare, I.base, I.loc, I.cell, I.free, I.freeC, fun p hp => (List.mem_append.mp hp).elim (fun z => I.pin p (List.mem_append_left _ z)) (h p), I.hok, I.len⟩

theorem nodup_ix {N : List Str} (hN : N.Nodup) {i j : Nat} {x : Str} (a : N[i]? = some x) (b : N[j]? = some x) : i = j := by
  obtain ⟨h1, e1⟩ := List.getElem?_eq_some_iff.mp a
  obtain ⟨h2, e2⟩ := List.getElem?_eq_some_iff.mp b
  exact (List.getElem_inj hN).mp (e1.trans e2.symm)

/-- a name is stored; what changed -/
theorem store_ok2 {M : Model} {A : Around} {E : Value → Shared → Prop} {i : Nat} {x : Str} {v : V} {u : Value} {Q : Unit → Shared → Prop} (I : Inv X pins σ H s) (hN : X.N.Nodup) (hi : X.N[i]? = some x) (hx : Loc X.env.scope x) (r : RelV v u)
    (h : ∀ s', Inv X pins (σ.set i (some v)) H s' → (∃ a, Heap.SameBut a s.heap s'.heap ∧ (a = X.env.locals ∨ X.env.cells.lookup x = some a)) → Q () s') (hf : X.fn x = true ∨ X.env.scope.names.lookup x = some .local := by first | exact .inl rfl | exact .inr rfl | assumption) : wpAny M A (storeName X.env x u) Q E s := by
  obtain ⟨m, hn, hl⟩ := id I.loc
  have hcls : (X.env.scope.kind == .class || (X.env.scope.kind == .module && X.env.locals != X.env.globals)) = false := by rw [I.ok.kind]; rfl
  have hiσ : i < σ.length := by rw [I.len]; exact (List.getElem?_eq_some_iff.mp hi).1
  have cne := I.cne
  have tracked : ∀ {a : Addr} {h' : Heap}, (∃ o, s.heap.get? a = some o ∧ H a = none) → Heap.SameBut a s.heap h' → HOk X.prog X.w H h' := fun {a h'} ha hs b ob e => by
    obtain ⟨_, _, hfree⟩ := ha
    refine (I.hok b ob e).stay (fun c w' hc q => (hs.2 c ?_).trans q) (fun _ q => q) fun _ _ q => q
    rintro rfl
    rcases hc with rfl | hc
    · rw [hfree] at e; cases e
    · rw [hfree] at hc; cases hc
  rcases hx with hk | hk
  · refine wpAny_storeName_local hk hn (fun h' hn' hs => ?_) hcls
    obtain ⟨oL, _, _, hoL, _⟩ := id hn
    refine h _ ⟨I.ok, I.os, I.bare, ⟨fun b o e n hb hx => ?_, fun b o e n hb hx => ?_, I.base.free, fun b o e hx => ?_, I.base.tups, I.base.frzs, I.base.tbls⟩, ⟨_, hn', fun j y v' e1 e2 e3 => ?_⟩, fun y c e => ?_, I.free, I.freeC, fun p hp => ?_, tracked ⟨oL, hoL, I.free⟩ hs, by simpa using I.len⟩ ⟨_, hs, .inl rfl⟩
    · exact (hs.2 b (Nat.ne_of_lt (Nat.lt_of_lt_of_le (Heap.lt_size e) I.ok.above))).trans (I.base.keep b o e n hb hx)
    · obtain ⟨sl, e1⟩ := I.base.slot b o e n hb hx
      exact ⟨sl, (hs.2 b (Nat.ne_of_lt (Nat.lt_of_lt_of_le (Heap.lt_size e) I.ok.above))).trans e1⟩
    · obtain ⟨o', e1⟩ := I.base.there b o e hx
      exact ⟨o', (hs.2 b (Nat.ne_of_lt (Nat.lt_of_lt_of_le (Heap.lt_size e) I.ok.above))).trans e1⟩
    · by_cases hj : j = i
      · subst hj
        rw [hi] at e1; cases e1
        rw [List.getElem?_set_self hiσ] at e2
        cases e2
        exact ⟨u, r, .inl ⟨hk, by simp⟩⟩
      · rw [List.getElem?_set_ne (Ne.symm hj)] at e2
        obtain ⟨u', r', q⟩ := hl j y v' e1 e2 e3
        refine ⟨u', r', ?_⟩
        rcases q with ⟨k, e⟩ | ⟨k, c, e, z⟩
        · refine .inl ⟨k, ?_⟩
          have : y ≠ x := fun e => hj (nodup_ix hN e1 (e ▸ hi))
          simp [this, e]
        · exact .inr ⟨k, c, e, z.sameBut hs (cne y c e)⟩
    · obtain ⟨w', z⟩ := I.cell y c e
      exact ⟨w', z.sameBut hs (cne y c e)⟩
    · obtain ⟨e, n, ne, nf, d⟩ := I.pin p hp
      exact ⟨(hs.2 p.1 ne).trans e, n, ne, nf, d⟩
  · have hfn : X.fn x = true := by
      rcases hf with z | z
      · exact z
      · rw [z] at hk; cases hk
    obtain ⟨c, hc⟩ := I.ok.has x (.inl hk)
    obtain ⟨w', z⟩ := I.cell x c hc
    refine wpAny_storeName_cell I.ok.kind hk hc z (fun h' hc' hs => ?_)
    obtain ⟨oc, hoc, hocd⟩ := id z
    refine h { s with heap := h' } ⟨I.ok, I.os, I.bare, ⟨fun b o e n hb hx => ?_, fun b o e n hb hx => ?_, I.base.free, fun b o e hx => ?_, I.base.tups, I.base.frzs, I.base.tbls⟩, ⟨m, hn.sameBut hs (Ne.symm (cne x c hc)), fun j y v' e1 e2 e3 => ?_⟩, fun y c' e => ?_, I.free, I.freeC, fun p hp => ?_, tracked ⟨oc, hoc, I.freeC x c hc⟩ hs, by simpa using I.len⟩ ⟨c, hs, .inr hc⟩
    · exact (hs.2 b (Nat.ne_of_lt (Nat.lt_of_lt_of_le (Heap.lt_size e) (I.ok.cab x c hfn hc)))).trans (I.base.keep b o e n hb hx)
    · obtain ⟨sl, e1⟩ := I.base.slot b o e n hb hx
      exact ⟨sl, (hs.2 b (Nat.ne_of_lt (Nat.lt_of_lt_of_le (Heap.lt_size e) (I.ok.cab x c hfn hc)))).trans e1⟩
    · obtain ⟨o', e1⟩ := I.base.there b o e hx
      exact ⟨o', (hs.2 b (Nat.ne_of_lt (Nat.lt_of_lt_of_le (Heap.lt_size e) (I.ok.cab x c hfn hc)))).trans e1⟩
    · by_cases hj : j = i
      · subst hj
        rw [hi] at e1; cases e1
        rw [List.getElem?_set_self hiσ] at e2
        cases e2
        exact ⟨u, r, .inr ⟨.inl hk, c, hc, hc'⟩⟩
      · rw [List.getElem?_set_ne (Ne.symm hj)] at e2
        obtain ⟨u', r', q⟩ := hl j y v' e1 e2 e3
        refine ⟨u', r', ?_⟩
        rcases q with q | ⟨k, c', e, z'⟩
        · exact .inl q
        · refine .inr ⟨k, c', e, z'.sameBut hs ?_⟩
          rintro rfl
          exact hj (nodup_ix hN e1 (I.ok.inj _ _ _ e hc ▸ hi))
    · by_cases hcc : c' = c
      · subst hcc; exact ⟨_, hc'⟩
      · obtain ⟨w2, z2⟩ := I.cell y c' e
        exact ⟨w2, z2.sameBut hs hcc⟩
    · obtain ⟨e, n, ne, nf, d⟩ := I.pin p hp
      refine ⟨(hs.2 p.1 ?_).trans e, n, ne, nf, d⟩
      intro q
      rw [q, hoc] at e
      have q' : oc = p.2 := Option.some.inj e
      exact d w' (by rw [← q']; exact hocd)
theorem store_ok {M : Model} {A : Around} {E : Value → Shared → Prop} {i : Nat} {x : Str} {v : V} {u : Value} {Q : Unit → Shared → Prop} (I : Inv X pins σ H s) (hN : X.N.Nodup) (hi : X.N[i]? = some x) (hx : Loc X.env.scope x) (r : RelV v u)
    (h : ∀ s', Inv X pins (σ.set i (some v)) H s' → Q () s') (hf : X.fn x = true ∨ X.env.scope.names.lookup x = some .local := by first | exact .inl rfl | exact .inr rfl | assumption) : wpAny M A (storeName X.env x u) Q E s :=
  store_ok2 I hN hi hx r (fun s' I' _ => h s' I') hf
/-- behind a call or a block, the state as it is -/
theorem Inv.call' {s' : Shared} {ch : List Addr} (I : Inv X pins σ H s) (ho : s'.os = s.os) (u : Un (frs X.stack) ch H H' s.heap s'.heap) (hok : HOk X.prog X.w H' s'.heap) (hg : AllBare s'.gens)
    (hch : ∀ b ∈ ch, (b ∈ X.ex ∨ X.s₀.heap.objs.size ≤ b) ∧ b ≠ X.env.locals ∧ (∀ x c, X.env.cells.lookup x = some c → c ≠ b) ∧ ∀ p ∈ X.pn ++ pins, p.1 ≠ b) : Inv X pins σ H' s' := by
  obtain ⟨h', g', d', t', o'⟩ := s'
  have e : o' = s.os := ho
  subst e
  exact I.call (g' := g') (t' := t') (d' := d') u hok hg hch
end

/-! ### the judgements -/
/-- an exception: its class, its own dict's address (where it has one), the abstract heap behind it -/
abbrev XK := Value → Option Addr → Hp → Prop
abbrev St := List (Option V)
abbrev VK := V → Hp → Prop
/-- an expression's reading; a test's; an argument list's -/
abbrev TE := St → Hp → VK → Prop
abbrev TT := St → Hp → (Bool → Hp → Prop) → Prop
abbrev TA := St → Hp → (List V → Hp → Prop) → Prop
/-- what is wanted behind a statement -/
structure Ends where
  nx : St → Hp → Prop
  rt : VK
  bk : St → Hp → Prop := fun _ _ => False
  ct : St → Hp → Prop := fun _ _ => False
abbrev TS := Ends → St → Hp → Prop

def EP (X : Cx) (pins : List (Addr × Obj)) (σ : St) (Q : VK) (u : Value) (s' : Shared) : Prop := ∃ v H', Inv X pins σ H' s' ∧ RelV v u ∧ Q v H'
def TP (X : Cx) (pins : List (Addr × Obj)) (σ : St) (Q : Bool → Hp → Prop) (b : Bool) (s' : Shared) : Prop := ∃ H', Inv X pins σ H' s' ∧ Q b H'
def AP (X : Cx) (pins : List (Addr × Obj)) (σ : St) (Q : List V → Hp → Prop) (us : List Value) (s' : Shared) : Prop := ∃ vs H', Inv X pins σ H' s' ∧ Vals vs us ∧ Q vs H'
def SP (X : Cx) (pins : List (Addr × Obj)) (D : Ends) (f : Flow) (s' : Shared) : Prop :=
  match f with
  | .next => ∃ σ' H', Inv X pins σ' H' s' ∧ D.nx σ' H'
  | .brk => ∃ σ' H', Inv X pins σ' H' s' ∧ D.bk σ' H'
  | .cont => ∃ σ' H', Inv X pins σ' H' s' ∧ D.ct σ' H'
  | .ret u => ∃ v σ' H', Inv X pins σ' H' s' ∧ RelV v u ∧ D.rt v H'

def PE (X : Cx) (e : Expr) (t : TE) : Prop :=
  ∀ (pins : List (Addr × Obj)) (s : Shared) (σ : St) (H : Hp) (Q : VK), Inv X pins σ H s → t σ H Q → wpAny (model X.prog X.w) X.A (eval e X.env) (EP X pins σ Q) X.xe s
def PT (X : Cx) (e : Expr) (t : TT) : Prop :=
  ∀ (pins : List (Addr × Obj)) (s : Shared) (σ : St) (H : Hp) (Q : Bool → Hp → Prop), Inv X pins σ H s → t σ H Q → wpAny (model X.prog X.w) X.A (isTrue e X.env (eval e X.env)) (TP X pins σ Q) X.xe s
/-- a test whatever its 'whole' is (and, or) -/
def PW (X : Cx) (e : Expr) (t : TT) : Prop :=
  ∀ (whole : Sem Value) (pins : List (Addr × Obj)) (s : Shared) (σ : St) (H : Hp) (Q : Bool → Hp → Prop), Inv X pins σ H s → t σ H Q → wpAny (model X.prog X.w) X.A (isTrue e X.env whole) (TP X pins σ Q) X.xe s
theorem PW.pt {X : Cx} {e : Expr} {t : TT} (h : PW X e t) : PT X e t := h _
/-- an argument list (no star), from the left -/
def PA (X : Cx) (es : List Expr) (t : TA) : Prop :=
  ∀ (pos : Pos) (pins : List (Addr × Obj)) (s : Shared) (σ : St) (H : Hp) (Q : List V → Hp → Prop), Inv X pins σ H s → t σ H Q → wpAny (model X.prog X.w) X.A (spliced (backTo pos (starEach es X.env))) (AP X pins σ Q) X.xe s
def PS (X : Cx) (st : Stmt) (t : TS) : Prop :=
  ∀ (pins : List (Addr × Obj)) (s : Shared) (σ : St) (H : Hp) (D : Ends), Inv X pins σ H s → t D σ H → wpAny (model X.prog X.w) X.A (exec st X.env) (SP X pins D) X.xe s
def PSs (X : Cx) (st : List Stmt) (t : TS) : Prop :=
  ∀ (pins : List (Addr × Obj)) (s : Shared) (σ : St) (H : Hp) (D : Ends), Inv X pins σ H s → t D σ H → wpAny (model X.prog X.w) X.A (execs st X.env) (SP X pins D) X.xe s
/-- weaken the end -/
theorem thn {α : Type} {t : Sem α} {Q Q' : α → Shared → Prop} {M : Model} {A : Around} {E : Value → Shared → Prop} {s : Shared} (h : wpAny M A t Q E s) (hQ : ∀ a s, Q a s → Q' a s) : wpAny M A t Q' E s := wpAny_mono h hQ fun _ _ x => x
end L2

namespace L2
open PySem PySem.Spec PyProof.Rows
section
variable {X : Cx}

/-! ### names and constants -/
def tVar (i : Nat) : TE := fun σ H Q => ∃ v, σ[i]? = some (some v) ∧ Q v H
def tC (v : V) : TE := fun _ H Q => Q v H
theorem pe_var {i : Nat} {x : Str} {pos : Pos} (hN : X.N[i]? = some x) (hv : Vis X.env.scope x) (hd : (x == ("__debug__" : Str)) = false := by decide) (hcd : (x == ("__classdict__" : Str)) = false := by decide) : PE X (.Name x pos) (tVar i) := by
  intro pins s σ H Q I h
  obtain ⟨v, e, h⟩ := h
  obtain ⟨m, hn, hl⟩ := I.loc
  obtain ⟨u, r, l⟩ := hl i x v hN e hv
  have fin : EP X pins σ Q u s := ⟨v, H, I, r, h⟩
  rcases l with ⟨hk, hm⟩ | ⟨hk, c, hc, hcell⟩
  · exact wpAny_Name (wpAny_loadName_local I.ok.kind hk hn hm fin) hd
  · rcases hk with hk | hk
    · exact wpAny_Name (wpAny_loadName_cell I.ok.kind hk hc hcell fin) hd
    · exact wpAny_Name (wpAny_loadName_free I.ok.kind hk hc hcell fin hcd) hd
theorem pe_int {i j pos} : PE X (.Constant (.int i) j pos) (tC (.int i)) := fun _ _ _ H _ I h => wpAny_Constant_int ⟨.int i, H, I.tok _, ⟨_, rfl⟩, h⟩
theorem pe_bl {b j pos} : PE X (.Constant (.bool b) j pos) (tC (.bl b)) := fun _ _ _ H _ I h => Constant_bool ⟨.bl b, H, I, rfl, h⟩
/-- a global name of the def -/
def Gl (X : Cx) (x : Str) : Prop := X.env.kindOf x = some .globalImplicit
theorem ld_glob {E : Value → Shared → Prop} {pins : List (Addr × Obj)} {s : Shared} {σ : St} {H : Hp} {x : Str} {u : Value} {pos : Pos} {Q : Value → Shared → Prop} (I : Inv X pins σ H s) (hg : Gl X x) (hm : X.mg x = some u) (h : Q u s)
    (hd : (x == ("__debug__" : Str)) = false := by decide) : wpAny (model X.prog X.w) X.A (eval (.Name x pos) X.env) Q E s :=
  Calls.Name_function_global I.ok.kind hg (Calls.loadGlobal_global (by rw [I.ok.glob]; exact I.mod.glob.keeps I.bk) hm h) hd
theorem ld_blt {E : Value → Shared → Prop} {pins : List (Addr × Obj)} {s : Shared} {σ : St} {H : Hp} {x : Str} {u : Value} {pos : Pos} {Q : Value → Shared → Prop} (I : Inv X pins σ H s) (hg : Gl X x) (hm : X.mg x = none) (hv : bootBuiltins x = some u) (h : Q u s)
    (hn : x ≠ "__name__" := by decide) (hd : (x == ("__debug__" : Str)) = false := by decide) : wpAny (model X.prog X.w) X.A (eval (.Name x pos) X.env) Q E s := by
  obtain ⟨mb, h1, h2⟩ := I.mod.blt
  exact Calls.Name_function_global I.ok.kind hg (Calls.loadGlobal_builtin (by rw [I.ok.glob]; exact I.mod.glob.keeps I.bk) hm (by rw [I.ok.blt]; exact h1.keeps I.bk) ((h2 x hn).trans hv) h) hd
/-- a module's constant, a class, a function, as a value -/
theorem pe_glob {x : Str} {v : V} {u : Value} {pos : Pos} (hg : Gl X x) (hm : X.mg x = some u) (r : RelV v u) (hd : (x == ("__debug__" : Str)) = false := by decide) : PE X (.Name x pos) (tC v) :=
  fun _ _ _ H _ I h => ld_glob I hg hm ⟨v, H, I, r, h⟩ hd
theorem pe_bltn {x : Str} {v : V} {u : Value} {pos : Pos} (hg : Gl X x) (hm : X.mg x = none) (hv : bootBuiltins x = some u) (r : RelV v u) (hn : x ≠ "__name__" := by decide) (hd : (x == ("__debug__" : Str)) = false := by decide) : PE X (.Name x pos) (tC v) :=
  fun _ _ _ H _ I h => ld_blt I hg hm hv ⟨v, H, I, r, h⟩ hn hd

/-! ### arithmetic -/
variable {a b : Expr} {ta tb : TE} {pos : Pos}
/-! ### comparisons -/
/-- a comparison as a value, as a test -/
def tB (t : TE) : TT := fun σ H Q => t σ H fun x H1 => ∃ c, x = .bl c ∧ Q c H1
/-- an expression whose value is a bool, as a test -/
theorem pt_val {e : Expr} {t : TE} (h : PE X e t) (he : ∀ whole, isTrue e X.env whole = (do let v ← whole; standAt e.pos; holding [v] (truthy v)) := by intro _; rfl) : PT X e (tB t) := by
  intro pins s σ H Q I hw
  refine isTrue_plain (thn (h pins s σ H _ I hw) fun v s1 ⟨x, H1, I1, r1, q1⟩ => ?_) (he _)
  obtain ⟨d, rfl, q⟩ := q1
  cases r1
  exact wpAny_truthy_bool ⟨H1, I1, q⟩

/-! ### and, or, not -/
variable {tA tB' : TT} {rest : List Expr}
def tAnd (t u : TT) : TT := fun σ H Q => t σ H fun c H1 => if c = true then u σ H1 Q else Q false H1
def tOr (t u : TT) : TT := fun σ H Q => t σ H fun c H1 => if c = true then Q true H1 else u σ H1 Q
def tNot (t : TT) : TT := fun σ H Q => t σ H fun c H1 => Q (!c) H1
theorem pw_and1 (ha : PT X a tA) : PW X (.BoolOp .And [a] pos) tA := by
  intro wh pins s σ H Q I h
  refine isTrue_and (thn (ha pins s σ H Q I h) fun c s1 e => ?_)
  cases c with
  | true => exact isTrue_and_nil e
  | false => exact e
theorem pw_or1 (ha : PT X a tA) : PW X (.BoolOp .Or [a] pos) tA := by
  intro wh pins s σ H Q I h
  refine isTrue_or (thn (ha pins s σ H Q I h) fun c s1 e => ?_)
  cases c with
  | false => exact isTrue_or_nil e
  | true => exact e
theorem pw_and (ha : PT X a tA) (hb : PW X (.BoolOp .And (b :: rest) pos) tB') : PW X (.BoolOp .And (a :: b :: rest) pos) (tAnd tA tB') := by
  intro wh pins s σ H Q I h
  refine isTrue_and (thn (ha pins s σ H _ I h) fun c s1 ⟨H1, I1, q1⟩ => ?_)
  cases c with
  | true => exact hb wh pins s1 σ H1 Q I1 q1
  | false => exact ⟨H1, I1, q1⟩
theorem pw_or (ha : PT X a tA) (hb : PW X (.BoolOp .Or (b :: rest) pos) tB') : PW X (.BoolOp .Or (a :: b :: rest) pos) (tOr tA tB') := by
  intro wh pins s σ H Q I h
  refine isTrue_or (thn (ha pins s σ H _ I h) fun c s1 ⟨H1, I1, q1⟩ => ?_)
  cases c with
  | true => exact ⟨H1, I1, q1⟩
  | false => exact hb wh pins s1 σ H1 Q I1 q1
theorem pt_not (ha : PT X a tA) : PT X (.UnaryOp .Not a pos) (tNot tA) := by
  intro pins s σ H Q I h
  exact isTrue_not (ha pins s σ H (fun c H1 => Q (!c) H1) I h)
/-- .. as values (bools) -/
def tAndV (ta tb : TE) : TE := fun σ H Q => ta σ H fun x H1 => ∃ c, x = .bl c ∧ if c = true then tb σ H1 Q else Q (.bl false) H1
def tOrV (ta tb : TE) : TE := fun σ H Q => ta σ H fun x H1 => ∃ c, x = .bl c ∧ if c = true then Q (.bl true) H1 else tb σ H1 Q
def tNotV (ta : TE) : TE := fun σ H Q => ta σ H fun x H1 => ∃ c, x = .bl c ∧ Q (.bl (!c)) H1
theorem pe_one {op} {t : TE} (h : PE X a t) : PE X (.BoolOp op [a] pos) t := fun pins s σ H Q I hw => BoolOp_one (h pins s σ H Q I hw)
theorem pe_and (ha : PE X a ta) (hb : PE X (.BoolOp .And (b :: rest) pos) tb) : PE X (.BoolOp .And (a :: b :: rest) pos) (tAndV ta tb) := by
  intro pins s σ H Q I h
  refine BoolOp_and (thn (ha pins s σ H _ I h) fun v s1 ⟨x, H1, I1, r1, q1⟩ => ?_)
  obtain ⟨c, rfl, q1⟩ := q1
  cases r1
  refine wpAny_truthy_bool ?_
  cases c with
  | true => exact hb pins s1 σ H1 Q I1 q1
  | false => exact ⟨.bl false, H1, I1, rfl, q1⟩
theorem pe_or (ha : PE X a ta) (hb : PE X (.BoolOp .Or (b :: rest) pos) tb) : PE X (.BoolOp .Or (a :: b :: rest) pos) (tOrV ta tb) := by
  intro pins s σ H Q I h
  refine BoolOp_or (thn (ha pins s σ H _ I h) fun v s1 ⟨x, H1, I1, r1, q1⟩ => ?_)
  obtain ⟨c, rfl, q1⟩ := q1
  cases r1
  refine wpAny_truthy_bool ?_
  cases c with
  | false => exact hb pins s1 σ H1 Q I1 q1
  | true => exact ⟨.bl true, H1, I1, rfl, q1⟩
theorem pe_not (ha : PE X a ta) : PE X (.UnaryOp .Not a pos) (tNotV ta) := by
  intro pins s σ H Q I h
  refine UnaryOp_ (thn (ha pins s σ H _ I h) fun v s1 ⟨x, H1, I1, r1, q1⟩ => ?_)
  obtain ⟨c, rfl, q1⟩ := q1
  cases r1
  exact not_of (wpAny_truthy_bool ⟨.bl (!c), H1, I1, rfl, q1⟩)
/-- a if t else b -/
def tIf (t : TT) (ta tb : TE) : TE := fun σ H Q => t σ H fun c H1 => if c = true then ta σ H1 Q else tb σ H1 Q
theorem pe_ifExp {c : Expr} (hc : PT X c tA) (ha : PE X a ta) (hb : PE X b tb) : PE X (.IfExp c a b pos) (tIf tA ta tb) := by
  intro pins s σ H Q I h
  refine wpAny_IfExp (thn (hc pins s σ H _ I h) fun d s1 ⟨H1, I1, q1⟩ => ?_)
  cases d with
  | true => exact ha pins s1 σ H1 Q I1 q1
  | false => exact hb pins s1 σ H1 Q I1 q1
end
end L2

namespace L2
open PySem PySem.Spec PyProof.Rows

/-! ### a list, a tuple that is read: tracked, frozen, or an object of the module -/
def SqL (K : PySem.W.Frag) (H : Hp) (a : Addr) (xs : List V) : Prop :=
  Rd H a (.lst xs) ∨
    ∃ (o : Obj) (its : Array Value) (n : Nat), K.lookup a = some o ∧ o.cls = .type "list" ∧ o.dict = none ∧ o.data = .seq its n ∧ its.size ≤ sizeLine ∧ Vals xs its.toList
def SqT (K : PySem.W.Frag) (H : Hp) (a : Addr) (xs : List V) : Prop :=
  Rd H a (.tup xs) ∨
    ∃ (o : Obj) (its : Array Value) (n : Nat), K.lookup a = some o ∧ o.cls = .type "tuple" ∧ o.data = .seq its n ∧ its.size ≤ sizeLine ∧ Vals xs its.toList
def absV : Value → Option V
  | .none => some .non
  | .bool b => some (.bl b)
  | .int i _ => some (.int i)
  | .str x _ => some (.str x)
  | .bytes b _ => some (.byt b)
  | .float b _ => some (.flt b)
  | .ref a => some (.ref a)
  | .type n => some (.ty n)
  | _ => none
theorem RelV.abs {x : V} {u : Value} (r : RelV x u) : absV u = some x := by
  cases x with
  | non => cases r; rfl
  | bl _ => cases r; rfl
  | int _ => obtain ⟨t, rfl⟩ := r; rfl
  | str _ => obtain ⟨t, rfl⟩ := r; rfl
  | byt _ => obtain ⟨t, rfl⟩ := r; rfl
  | flt _ => obtain ⟨t, rfl⟩ := r; rfl
  | ref _ => cases r; rfl
  | ty _ => cases r; rfl
theorem RelV.inj {x y : V} {u : Value} (r : RelV x u) (q : RelV y u) : x = y := Option.some.inj (r.abs.symm.trans q.abs)
theorem Vals.inj : ∀ {xs ys : List V} {us : List Value}, Vals xs us → Vals ys us → xs = ys
  | _, _, _, .nil, .nil => rfl
  | _, _, _, .cons r t, .cons r' t' => by rw [r.inj r', Vals.inj t t']
section
variable {X : Cx} {pins : List (Addr × Obj)} {σ : St} {H : Hp} {s : Shared} {a : Addr} {xs ys : List V}
theorem SqL.of {K : PySem.W.Frag} (h : H a = some (.lst xs)) : SqL K H a xs := .inl (.inl h)
theorem SqT.of {K : PySem.W.Frag} (h : H a = some (.tup xs)) : SqT K H a xs := .inl (.inl h)
theorem Inv.list (I : Inv X pins σ H s) (h : SqL X.K H a xs) : ∃ its : List Value, Vals xs its ∧ PlainL s.heap a its.toArray ∧ xs.length ≤ sizeLine := by
  rcases h with h | ⟨o, its, n, hk, hc, hd, hs, hz, r⟩
  · obtain ⟨z, its, n, r, e⟩ := h.ok I.hok
    exact ⟨its, r, ⟨_, n, e, rfl, rfl, rfl⟩, z⟩
  · refine ⟨its.toList, r, ⟨o, n, I.kIn a o hk, hc, hd, by simpa using hs⟩, ?_⟩
    have e := r.length
    simp only [Array.length_toList] at e
    omega
theorem Inv.tuple (I : Inv X pins σ H s) (h : SqT X.K H a xs) : ∃ its : List Value, Vals xs its ∧ IsTup s.heap a its.toArray ∧ xs.length ≤ sizeLine := by
  rcases h with h | ⟨o, its, n, hk, hc, hs, hz, r⟩
  · obtain ⟨z, its, r, p⟩ := h.ok I.hok
    exact ⟨its, r, p, z⟩
  · refine ⟨its.toList, r, ⟨o, I.kIn a o hk, hc, n, by simpa using hs⟩, ?_⟩
    have e := r.length
    simp only [Array.length_toList] at e
    omega
theorem Inv.list_inj (I : Inv X pins σ H s) (h : SqL X.K H a xs) (h' : SqL X.K H a ys) : xs = ys := by
  obtain ⟨its, r, ⟨o, n, e, _, _, d⟩, _⟩ := I.list h
  obtain ⟨its', r', ⟨o', n', e', _, _, d'⟩, _⟩ := I.list h'
  rw [e] at e'; cases e'
  rw [d] at d'
  injection d' with d1 _
  have : its = its' := by simpa using congrArg Array.toList d1
  subst this
  exact r.inj r'
theorem Inv.tuple_inj (I : Inv X pins σ H s) (h : SqT X.K H a xs) (h' : SqT X.K H a ys) : xs = ys := by
  obtain ⟨its, r, ⟨o, e, _, n, d⟩, _⟩ := I.tuple h
  obtain ⟨its', r', ⟨o', e', _, n', d'⟩, _⟩ := I.tuple h'
  rw [e] at e'; cases e'
  rw [d] at d'
  injection d' with d1 _
  have : its = its' := by simpa using congrArg Array.toList d1
  subst this
  exact r.inj r'
end

/-! ### another wish about exceptions -/
abbrev Cx.wish (X : Cx) (E : Value → Shared → Prop) : Cx := { X with xe := E }
/-- no exception leaves -/
abbrev Cx.nox (X : Cx) : Cx := X.wish fun _ _ => False
theorem Cx.Ok.wish {X : Cx} (ok : X.Ok) (E : Value → Shared → Prop) : (X.wish E).Ok :=
  ⟨ok.mod, ok.kind, ok.glob, ok.blt, ok.above, ok.inj, ok.has, ok.cab, ok.hd, ok.frames, ok.stk, ok.exf, ok.bs, ok.bsz, ok.noex, ok.exfs, ok.funs, ok.frf⟩
theorem Cx.Ok.unwish {X : Cx} {E : Value → Shared → Prop} (ok : (X.wish E).Ok) : X.Ok :=
  ⟨ok.mod, ok.kind, ok.glob, ok.blt, ok.above, ok.inj, ok.has, ok.cab, ok.hd, ok.frames, ok.stk, ok.exf, ok.bs, ok.bsz, ok.noex, ok.exfs, ok.funs, ok.frf⟩
section
variable {X : Cx} {pins : List (Addr × Obj)} {σ : St} {H : Hp} {s : Shared} {E : Value → Shared → Prop}
theorem Inv.wish (I : Inv X pins σ H s) (E : Value → Shared → Prop) : Inv (X.wish E) pins σ H s := ⟨I.ok.wish E, I.os, I.bare, I.base, I.loc, I.cell, I.free, I.freeC, I.pin, I.hok, I.len⟩
theorem Inv.unwish (I : Inv (X.wish E) pins σ H s) : Inv X pins σ H s := ⟨I.ok.unwish, I.os, I.bare, I.base, I.loc, I.cell, I.free, I.freeC, I.pin, I.hok, I.len⟩
theorem SP.unwish {D : Ends} {f : Flow} {s' : Shared} (h : SP (X.wish E) pins D f s') : SP X pins D f s' := by
  cases f with
  | next => obtain ⟨σ', H', I, q⟩ := h; exact ⟨σ', H', I.unwish, q⟩
  | brk => obtain ⟨σ', H', I, q⟩ := h; exact ⟨σ', H', I.unwish, q⟩
  | cont => obtain ⟨σ', H', I, q⟩ := h; exact ⟨σ', H', I.unwish, q⟩
  | ret u => obtain ⟨v, σ', H', I, r, q⟩ := h; exact ⟨v, σ', H', I.unwish, r, q⟩
theorem PSs.nox {st : List Stmt} {t : TS} (h : PSs X.nox st t) : PSs X st t := fun pins s σ H D I hw =>
  wpAny_mono (h pins s σ H D (I.wish _) hw) (fun _ _ q => q.unwish) fun _ _ z => False.elim z
end

/-! ### blocks and small statements -/
section
variable {X : Cx} {st : Stmt} {rest : List Stmt} {t u : TS} {e : Expr} {te : TE} {pos : Pos}
def tNext : TS := fun D σ H => D.nx σ H
def tSeq (t u : TS) : TS := fun D σ H => t { D with nx := u D } σ H
theorem pss_nil : PSs X [] tNext := fun _ _ σ H _ I h => wpAny_execs_nil ⟨σ, H, I, h⟩
theorem pss_cons (h1 : PS X st t) (h2 : PSs X rest u) : PSs X (st :: rest) (tSeq t u) := by
  intro pins s σ H D I h
  refine wpAny_execs_cons (thn (h1 pins s σ H { D with nx := u D } I h) fun f s1 q => ?_)
  cases f with
  | next =>
    obtain ⟨σ', H', I', q⟩ := q
    exact h2 pins s1 σ' H' D I' q
  | ret v => exact q
  | brk => exact q
  | cont => exact q
theorem pss_one (h1 : PS X st t) : PSs X [st] t := by
  intro pins s σ H D I h
  refine wpAny_execs_cons (thn (h1 pins s σ H D I h) fun f s1 q => ?_)
  cases f with
  | next => exact wpAny_execs_nil q
  | ret v => exact q
  | brk => exact q
  | cont => exact q
/-- in a def's body nothing is shown -/
theorem Inv.quiet {pins : List (Addr × Obj)} {σ : St} {H : Hp} {s : Shared} (I : Inv X pins σ H s) : interactive X.env = false := by simp [interactive, I.ok.kind]
/-- an expression whose value is dropped -/
def tDrop (te : TE) : TS := fun D σ H => te σ H fun _ H1 => D.nx σ H1
theorem ps_expr (he : PE X e te) (hs : swapsWith e none pos.line X.env = pure false := by rfl) : PS X (.Expr e pos) (tDrop te) := by
  intro pins s σ H D I h
  exact wpAny_Expr_any (thn (he pins s σ H _ I h) fun v s1 ⟨x, H1, I1, r1, q1⟩ => ⟨σ, H1, I1, q1⟩) I.quiet hs
def tRet (te : TE) : TS := fun D σ H => te σ H D.rt
theorem ps_ret (he : PE X e te) : PS X (.Return (some e) pos) (tRet te) := by
  intro pins s σ H D I h
  exact wpAny_Return_some (thn (he pins s σ H _ I h) fun v s1 ⟨x, H1, I1, r1, q1⟩ => ⟨x, σ, H1, I1, r1, q1⟩)
def tIfS (c : TT) (t u : TS) : TS := fun D σ H => c σ H fun b H1 => if b = true then t D σ H1 else u D σ H1
theorem ps_if {c : Expr} {a b : List Stmt} {tc : TT} (hc : PT X c tc) (ha : PSs X a t) (hb : PSs X b u) : PS X (.If c a b pos) (tIfS tc t u) := by
  intro pins s σ H D I h
  refine wpAny_If (thn (hc pins s σ H _ I h) fun d s1 ⟨H1, I1, q1⟩ => ?_)
  cases d with
  | true => exact ha pins s1 σ H1 D I1 q1
  | false => exact hb pins s1 σ H1 D I1 q1
/-- code that the proof never comes to -/
def tNever : TS := fun _ _ _ => False
theorem ps_never : PS X st tNever := fun _ _ _ _ _ _ h => h.elim
end

/-! ### targets -/
abbrev TG := V → St → Hp → (St → Hp → Prop) → Prop
abbrev TGs := List V → St → Hp → (St → Hp → Prop) → Prop
def PG (X : Cx) (target : Expr) (t : TG) : Prop :=
  ∀ (pins : List (Addr × Obj)) (s : Shared) (σ : St) (H : Hp) (v : V) (u : Value) (Q : St → Hp → Prop), Inv X pins σ H s → RelV v u → t v σ H Q →
    wpAny (model X.prog X.w) X.A (assign target X.env u) (fun _ s' => ∃ σ' H', Inv X pins σ' H' s' ∧ Q σ' H') X.xe s
/-- several targets, one after another -/
def PGs (X : Cx) (ts : List Expr) (t : TGs) : Prop :=
  ∀ (pins : List (Addr × Obj)) (s : Shared) (σ : St) (H : Hp) (vs : List V) (us : List Value) (Q : St → Hp → Prop), Inv X pins σ H s → Vals vs us → t vs σ H Q →
    wpAny (model X.prog X.w) X.A (assignInOrder ((assignEach ts X.env).map (·.2)) us) (fun _ s' => ∃ σ' H', Inv X pins σ' H' s' ∧ Q σ' H') X.xe s
/-- o[i] = v, by values -/
abbrev TSet := V → V → V → Hp → (Hp → Prop) → Prop
def PSet (X : Cx) (t : TSet) : Prop :=
  ∀ (pins : List (Addr × Obj)) (s : Shared) (σ : St) (H : Hp) (o i v : V) (ov iv u : Value) (Q : Hp → Prop), Inv X pins σ H s → RelV o ov → RelV i iv → RelV v u → t o i v H Q →
    wpAny (model X.prog X.w) X.A (setItem ov iv u) (fun _ s' => ∃ H', Inv X pins σ H' s' ∧ Q H') X.xe s
section
variable {X : Cx} {pos : Pos}
def gName (i : Nat) : TG := fun v σ H Q => Q (σ.set i (some v)) H
theorem pg_name {i : Nat} {x : Str} (hN : X.N.Nodup) (hi : X.N[i]? = some x) (hx : Loc X.env.scope x) (hf : X.fn x = true ∨ X.env.scope.names.lookup x = some .local := by first | exact .inl rfl | exact .inr rfl | assumption) : PG X (.Name x pos) (gName i) := by
  intro pins s σ H v u Q I r h
  exact wpAny_assign_Name (store_ok I hN hi hx r (fun s' I' => ⟨_, H, I', h⟩) hf)
def gNil : TGs := fun vs σ H Q => vs = [] ∧ Q σ H
def gCons (t : TG) (u : TGs) : TGs := fun vs σ H Q => ∃ v r, vs = v :: r ∧ t v σ H fun σ' H' => u r σ' H' Q
theorem pgs_nil : PGs X [] gNil := by
  intro pins s σ H vs us Q I r h
  obtain ⟨e, h⟩ := h
  subst e
  cases r
  exact assignInOrder_nil ⟨σ, H, I, h⟩
theorem pgs_cons {e : Expr} {es : List Expr} {t : TG} {u : TGs} (h1 : PG X e t) (h2 : PGs X es u)
    (hs : (assignEach (e :: es) X.env).map (·.2) = assign e X.env :: (assignEach es X.env).map (·.2) := by rfl) : PGs X (e :: es) (gCons t u) := by
  intro pins s σ H vs us Q I r h
  obtain ⟨v, vr, e1, h⟩ := h
  subst e1
  cases r with
  | cons r rr =>
    rw [hs]
    refine assignInOrder_cons (thn (h1 pins s σ H _ _ _ I r h) fun _ s1 ⟨σ1, H1, I1, q1⟩ => ?_)
    exact h2 pins s1 σ1 H1 _ _ Q I1 rr q1
/-- (a, b, ..) = a tuple of that length -/
def gTup (K : PySem.W.Frag) (n : Nat) (t : TGs) : TG := fun v σ H Q => ∃ a xs, v = .ref a ∧ SqT K H a xs ∧ xs.length = n ∧ t xs σ H Q
theorem pg_tup {es : List Expr} {k : Nat} {t : TGs} {n : Nat} (hc : X.calm = true) (h : PGs X es t)
    (hn : (assignEach es X.env).length = n := by rfl) (hst : (assignEach es X.env).findIdx? (·.1) = none := by rfl) : PG X (.Tuple es k pos) (gTup X.K n t) := by
  intro pins s σ H v u Q I r hw
  obtain ⟨a, xs, e1, hq, hl, hw⟩ := hw
  subst e1
  cases r
  obtain ⟨its, rv, ht, hz⟩ := I.tuple hq
  refine assign_Tuple_tuple (I.ok.hd hc) ht (by simp [hn, ← hl, rv.length]) hst fun h' hx => ?_
  have I1 : Inv X pins σ H { s with heap := h' } := I.kept (t' := s.toks) fun b o e => hx b o (Nat.ne_of_lt (Heap.lt_size e)) e
  exact h pins _ σ H xs _ Q I1 (by simpa using rv) hw
/-- o[i] = .. -/
def gSub (to ti : TE) (t : TSet) : TG := fun v σ H Q => to σ H fun o H1 => ti σ H1 fun i H2 => t o i v H2 fun H3 => Q σ H3
theorem pg_sub {o i : Expr} {to ti : TE} {t : TSet} (ho : PE X o to) (hi : PE X i ti) (hs : PSet X t)
    (ha : ∀ v, assign (.Subscript o i pos) X.env v = (do
      let ov ← holding [v] (eval o X.env)
      let iv ← holding [v, ov] (eval i X.env)
      standAt pos
      holding [v, ov, iv] (setItem ov iv v)
      release [v, ov, iv] []) := by intro _; rfl) : PG X (.Subscript o i pos) (gSub to ti t) := by
  intro pins s σ H v u Q I r h
  rw [ha]
  refine wpAny_bind (wpAny_holding (thn (ho pins s σ H _ I h) fun ov s1 ⟨x, H1, I1, r1, q1⟩ => ?_))
  refine wpAny_bind (wpAny_holding (thn (hi pins s1 σ H1 _ I1 q1) fun iv s2 ⟨y, H2, I2, r2, q2⟩ => ?_))
  refine wpAny_bind (wpAny_standAt (wpAny_bind (wpAny_holding (thn (hs pins s2 σ H2 x y v ov iv u _ I2 r1 r2 r q2) fun _ s3 ⟨H3, I3, q3⟩ => ?_))))
  exact wpAny_release ⟨σ, H3, I3, q3⟩
/-- target = value -/
def tAsg (te : TE) (g : TG) : TS := fun D σ H => te σ H fun x H1 => g x σ H1 D.nx
theorem ps_asg {tg e : Expr} {te : TE} {g : TG} (he : PE X e te) (hg : PG X tg g) (hs : swapsWithSole [tg] e pos.line X.env = pure false := by rfl) (hw : swappedStores [tg] e X.env = pure none := by rfl)
    (h1 : (assignEach [tg] X.env).map (·.2) = [assign tg X.env] := by rfl) : PS X (.Assign [tg] e pos) (tAsg te g) := by
  intro pins s σ H D I h
  refine wpAny_Assign_stores (thn (he pins s σ H _ I h) fun v s1 ⟨x, H1, I1, r1, q1⟩ => ?_) hs hw
  rw [h1]
  exact thn (hg pins s1 σ H1 x v _ I1 r1 q1) fun _ s2 q => q
/-- name = value -/
theorem ps_set {i : Nat} {x : Str} {e : Expr} {te : TE} {pos' : Pos} (hN : X.N.Nodup) (hi : X.N[i]? = some x) (hx : Loc X.env.scope x) (he : PE X e te) (hs : swapsWith e (some (.Name x pos')) pos.line X.env = pure false := by rfl) (hf : X.fn x = true ∨ X.env.scope.names.lookup x = some .local := by first | exact .inl rfl | exact .inr rfl | assumption) :
    PS X (.Assign [.Name x pos'] e pos) (tAsg te (gName i)) := by
  intro pins s σ H D I h
  refine wpAny_Assign_Name (thn (he pins s σ H _ I h) fun v s1 ⟨y, H1, I1, r1, q1⟩ => ?_) hs
  exact store_ok I1 hN hi hx r1 (fun s2 I2 => ⟨_, H1, I2, q1⟩) hf
end

/-! ### while -/
section
variable {X : Cx} {pos : Pos}
/-- the invariant W with its measure -/
def tWhile (c : TT) (tb : TS) : TS := fun D σ H => ∃ W : Nat → St → Hp → Prop, (∃ m, W m σ H) ∧ ∀ m σ H, W m σ H →
  c σ H fun b H1 => if b = true then ∃ N : St → Hp → Prop, (∀ σ' H', N σ' H' → ∃ m', m' < m ∧ W m' σ' H') ∧ tb { D with nx := N, ct := N, bk := D.nx } σ H1 else D.nx σ H1
theorem ps_while {c : Expr} {body : List Stmt} {tc : TT} {tb : TS} (hp : PassesOwn (model X.prog X.w) X.A X.env X.xe) (hc : PT X c tc) (hb : PSs X body tb) : PS X (.While c body [] pos) (tWhile tc tb) := by
  intro pins s σ H D I h
  obtain ⟨W, ⟨m0, w0⟩, turn⟩ := h
  refine wpAny_While (codeAny_whileLoop (fun n s' => ∃ σ' H', Inv X pins σ' H' s' ∧ W n σ' H') ?_ m0 ⟨σ, H, I, w0⟩)
  rintro n s1 ⟨σ1, H1, I1, w1⟩
  refine wpAny_passesOwn hp (thn (hc pins s1 σ1 H1 _ I1 (turn n σ1 H1 w1)) fun b s2 ⟨H2, I2, q2⟩ => ?_)
  cases b with
  | true =>
    obtain ⟨N, hN, q2⟩ := q2
    rw [if_pos rfl]
    refine wpAny_passesOwn hp (thn (hb pins s2 σ1 H2 _ I2 q2) fun f s3 q3 => ?_)
    cases f with
    | next =>
      obtain ⟨σ3, H3, I3, n3⟩ := q3
      obtain ⟨m', hm, w3⟩ := hN σ3 H3 n3
      exact ⟨m', hm, σ3, H3, I3, w3⟩
    | cont =>
      obtain ⟨σ3, H3, I3, n3⟩ := q3
      obtain ⟨m', hm, w3⟩ := hN σ3 H3 n3
      exact ⟨m', hm, σ3, H3, I3, w3⟩
    | brk => exact q3
    | ret v => exact q3
  | false =>
    rw [if_neg Bool.false_ne_true]
    exact wpAny_execs_nil ⟨σ1, H2, I2, q2⟩
end

/-! ### what a loop or a comprehension walks -/
/-- at turn i: it yields x (the heap may grow), or it stops -/
structure It where
  go : Nat → Hp → Prop
  yld : Nat → Hp → V → Hp → Prop
  stop : Nat → Hp → Prop
/-- the iterator's own objects may turn: they are not the frame's, not pinned, younger than the entry (or a comprehension's own) -/
def FpOk (X : Cx) (pins : List (Addr × Obj)) (H : Hp) (b : Addr) : Prop :=
  H b = none ∧ b ≠ X.env.locals ∧ b ∉ X.fs ∧ (b ∈ X.ex ∨ X.s₀.heap.objs.size ≤ b) ∧ (∀ x c, X.env.cells.lookup x = some c → c ≠ b) ∧ ∀ p ∈ X.pn ++ pins, p.1 ≠ b
theorem Inv.fpOk {X : Cx} {pins : List (Addr × Obj)} {σ : St} {H H' : Hp} {s : Shared} {b : Addr} (I : Inv X pins σ H s) (hb : s.heap.objs.size ≤ b) (hn : H' b = none) : FpOk X pins H' b := by
  refine ⟨hn, Nat.ne_of_gt (Nat.lt_of_lt_of_le I.lt hb), I.nofs hb, .inr (Nat.le_trans I.sz hb), fun x c e z => ?_, fun p hp z => ?_⟩
  · obtain ⟨v, q⟩ := I.cell x c e
    exact absurd (Nat.lt_of_lt_of_le q.lt (by rw [z]; exact hb)) (Nat.lt_irrefl _)
  · exact absurd (Nat.lt_of_lt_of_le (Heap.lt_size (I.pin p hp).1) (by rw [z]; exact hb)) (Nat.lt_irrefl _)
structure Turn (P : Program) (w : World) (K : PySem.W.Frag) (tg : Expr) (J : It) (fp : List Addr) (it : Addr) (tn : Nat → Heap → Prop) : Prop where
  mem : it ∈ fp
  obj : ∀ i h, tn i h → ∀ b ∈ fp, ∃ o, h.get? b = some o ∧ ∀ v, o.data ≠ .cell v
  keep : ∀ i h h', tn i h → (∀ b ∈ fp, ∀ o, h.get? b = some o → h'.get? b = some o) → tn i h'
  item : ∀ (X : Cx), X.prog = P → X.w = w → X.K = K → X.calm = true → ∀ (i : Nat) (pins : List (Addr × Obj)) (s : Shared) (σ : St) (H : Hp) (E : Value → Shared → Prop), Inv X pins σ H s → (∀ b ∈ fp, FpOk X pins H b) → tn i s.heap → J.go i H →
    wpAny (model P w) X.A (pyNext (.ref it)) (fun r s1 => ∃ u, r = some u ∧
      wpAny (model P w) X.A (letOwnedTupleGo tg (.ref it) u) (fun _ s2 => ∃ x H', Inv X pins σ H' s2 ∧ RelV x u ∧ J.yld i H x H' ∧ tn (i + 1) s2.heap ∧ ∀ b ∈ fp, H' b = none) E s1) E s
  done : ∀ (X : Cx), X.prog = P → X.w = w → X.K = K → X.calm = true → ∀ (i : Nat) (pins : List (Addr × Obj)) (s : Shared) (σ : St) (H : Hp) (E : Value → Shared → Prop), Inv X pins σ H s → (∀ b ∈ fp, FpOk X pins H b) → tn i s.heap → J.stop i H →
    wpAny (model P w) X.A (pyNext (.ref it)) (fun r s1 => r = none ∧ Inv X pins σ H s1) E s
  self : ∀ (A : Around) (i : Nat) (s : Shared) (Q : Value → Shared → Prop) (E : Value → Shared → Prop), tn i s.heap → Q (.ref it) s → wpAny (model P w) A (pyIter (.ref it)) Q E s
abbrev TI := St → Hp → (It → Hp → Prop) → Prop
/-- an iterator has come -/
def PIE (X : Cx) (pins : List (Addr × Obj)) (σ : St) (tg : Expr) (R : It → Hp → Prop) (itv : Value) (s2 : Shared) : Prop :=
  ∃ (it : Addr) (fp : List Addr) (tn : Nat → Heap → Prop) (J : It) (H' : Hp), itv = .ref it ∧ Inv X pins σ H' s2 ∧ Turn X.prog X.w X.K tg J fp it tn ∧ tn 0 s2.heap ∧ (∀ b ∈ fp, FpOk X pins H' b) ∧ R J H'
def PI (X : Cx) (tg iter : Expr) (wi : TI) : Prop :=
  ∀ (pins : List (Addr × Obj)) (s : Shared) (σ : St) (H : Hp) (R : It → Hp → Prop), Inv X pins σ H s → wi σ H R →
    wpAny (model X.prog X.w) X.A (eval iter X.env) (fun v s1 => wpAny (model X.prog X.w) X.A (pyIter v) (PIE X pins σ tg R) X.xe s1) X.xe s

/-- the step ahead of the store is nothing for an iterator that keeps no tuple -/
theorem go_of {M : Model} {A : Around} {E : Value → Shared → Prop} {s : Shared} {tg : Expr} {it : Addr} {u : Value} {o : Obj} {n : String} {vs : Array Value} {Q : Unit → Shared → Prop} (ho : s.heap.get? it = some o) (hc : o.cls = .type n) (hd : o.data = .fields vs)
    (hn : ["enumerate", "zip", "dict_itemiterator", "dict_reverseitemiterator", "odict_iterator", "itertools.zip_longest", "itertools.pairwise"].contains n = false) (hQ : Q () s) : wpAny M A (letOwnedTupleGo tg (.ref it) u) Q E s := by
  unfold letOwnedTupleGo
  cases tg <;> first
    | exact wpAny_pure hQ
    | (cases u <;> first
        | exact wpAny_pure hQ
        | (refine wpAny_bind (wpAny_load ho ?_)
           rw [hc, hd]
           show wpAny M A (if (["enumerate", "zip", "dict_itemiterator", "dict_reverseitemiterator", "odict_iterator", "itertools.zip_longest", "itertools.pairwise"].contains n && vs[0]? == some (rawInt _)) = true then _ else _) Q E s
           rw [if_neg (by intro h; rw [hn, Bool.false_and] at h; cases h)]
           exact wpAny_pure hQ))

/-- the list at a, as it stands at each turn (a loop may append to it) -/
def Itl (K : PySem.W.Frag) (a : Addr) : It :=
  ⟨fun i H => ∃ xs x, SqL K H a xs ∧ xs[i]? = some x, fun i H x H' => H' = H ∧ ∀ xs, SqL K H a xs → xs[i]? = some x, fun i H => ∃ xs, SqL K H a xs ∧ xs.length ≤ i⟩
def Itt (K : PySem.W.Frag) (a : Addr) : It :=
  ⟨fun i H => ∃ xs x, SqT K H a xs ∧ xs[i]? = some x, fun i H x H' => H' = H ∧ ∀ xs, SqT K H a xs → xs[i]? = some x, fun i H => ∃ xs, SqT K H a xs ∧ xs.length ≤ i⟩
/-- lo, lo + 1, .. (n of them) -/
def Itr (lo : Int) (n : Nat) : It := ⟨fun i _ => i < n, fun i H x H' => H' = H ∧ x = .int (lo + i), fun i _ => n ≤ i⟩
theorem turn_list {P : Program} {w : World} {K : PySem.W.Frag} {tg : Expr} (a it : Addr) : Turn P w K tg (Itl K a) [it] it (fun i h => h.IsListIter it a i) where
  mem := by simp
  obj := fun i h st b hb => by
    have e : b = it := by simpa using hb
    subst e
    obtain ⟨o, e, c, d⟩ := st
    exact ⟨o, e, fun v z => by rw [d] at z; cases z⟩
  keep := fun i h h' st k => st.at fun o e => k it (by simp) o e
  item := by
    intro X hP hw hK hc i pins s σ H E I hf st hg
    subst hP hw hK
    obtain ⟨xs, x, hq, hx⟩ := hg
    obtain ⟨its, rv, p, hz⟩ := I.list hq
    obtain ⟨u, hu, ru⟩ := rv.get hx
    obtain ⟨f0, f1, f2, f3, f4, f5⟩ := hf it (by simp)
    refine wpAny_pyNext_list_item st p.isList (x := u) (by simpa using hu) fun h' st' sb => ?_
    have I1 : Inv X pins σ H { s with heap := h' } := I.turned (t' := s.toks) (fun b o hb e => (sb.2 b hb).trans e) f0 f1 f3 f4 f5
    obtain ⟨o, e, c, d⟩ := id st'
    exact ⟨u, rfl, go_of (s := { s with heap := h' }) e c d (by decide) ⟨x, H, I1, ru, ⟨rfl, fun ys hy => by rw [I.list_inj hy hq]; exact hx⟩, st', fun b hb => (hf b hb).1⟩⟩
  done := by
    intro X hP hw hK hc i pins s σ H E I hf st hg
    subst hP hw hK
    obtain ⟨xs, hq, hx⟩ := hg
    obtain ⟨its, rv, p, hz⟩ := I.list hq
    obtain ⟨f0, f1, f2, f3, f4, f5⟩ := hf it (by simp)
    have hl := rv.length
    exact wpAny_pyNext_list_end (I.ok.hd hc) st p.isList (by simp; omega) fun h' eb => ⟨rfl, I.turned (t' := s.toks) (fun b o hb e => eb b o hb e) f0 f1 f3 f4 f5⟩
  self := fun _ _ _ _ _ st h => wpAny_pyIter_listiter st h
theorem turn_tuple {P : Program} {w : World} {K : PySem.W.Frag} {tg : Expr} (a it : Addr) : Turn P w K tg (Itt K a) [it] it (fun i h => h.IsTupleIter it a i) where
  mem := by simp
  obj := fun i h st b hb => by
    have e : b = it := by simpa using hb
    subst e
    obtain ⟨o, e, c, d⟩ := st
    exact ⟨o, e, fun v z => by rw [d] at z; cases z⟩
  keep := fun i h h' st k => st.at fun o e => k it (by simp) o e
  item := by
    intro X hP hw hK hc i pins s σ H E I hf st hg
    subst hP hw hK
    obtain ⟨xs, x, hq, hx⟩ := hg
    obtain ⟨its, rv, p, hz⟩ := I.tuple hq
    obtain ⟨u, hu, ru⟩ := rv.get hx
    obtain ⟨f0, f1, f2, f3, f4, f5⟩ := hf it (by simp)
    refine wpAny_pyNext_tuple_item st (show s.heap.IsTuple a its.toArray from p) (x := u) (by simpa using hu) fun h' st' sb => ?_
    have I1 : Inv X pins σ H { s with heap := h' } := I.turned (t' := s.toks) (fun b o hb e => (sb.2 b hb).trans e) f0 f1 f3 f4 f5
    obtain ⟨o, e, c, d⟩ := id st'
    exact ⟨u, rfl, go_of (s := { s with heap := h' }) e c d (by decide) ⟨x, H, I1, ru, ⟨rfl, fun ys hy => by rw [I.tuple_inj hy hq]; exact hx⟩, st', fun b hb => (hf b hb).1⟩⟩
  done := by
    intro X hP hw hK hc i pins s σ H E I hf st hg
    subst hP hw hK
    obtain ⟨xs, hq, hx⟩ := hg
    obtain ⟨its, rv, p, hz⟩ := I.tuple hq
    obtain ⟨f0, f1, f2, f3, f4, f5⟩ := hf it (by simp)
    have hl := rv.length
    exact wpAny_pyNext_tuple_end (I.ok.hd hc) st (show s.heap.IsTuple a its.toArray from p) (by simp; omega) fun h' eb => ⟨rfl, I.turned (t' := s.toks) (fun b o hb e => eb b o hb e) f0 f1 f3 f4 f5⟩
  self := fun _ _ _ _ _ st h => wpAny_pyIter_tupleiter st h
theorem turn_range {P : Program} {w : World} {K : PySem.W.Frag} {tg : Expr} (it : Addr) (lo : Int) (n : Nat) : Turn P w K tg (Itr lo n) [it] it (fun i h => IsRangeIter h it (lo + (i : Nat) * 1) ((n : Int) - (i : Nat)) 1) where
  mem := by simp
  obj := fun i h st b hb => by
    have e : b = it := by simpa using hb
    subst e
    exact ⟨_, st, fun v z => by
      have z' : Data.fields _ = Data.cell v := z
      cases z'⟩
  keep := fun i h h' st k => k it (by simp) _ st
  item := by
    intro X hP hw hK hc i pins s σ H E I hf st hg
    subst hP hw hK
    obtain ⟨f0, f1, f2, f3, f4, f5⟩ := hf it (by simp)
    have W := Walks.range (prog := X.prog) (w := X.w) (I.ok.hd hc) it lo 1 n
    refine W.item i s _ _ hg st fun v h' tk hv st' kk => ?_
    obtain ⟨t, rfl⟩ := hv
    have I1 : Inv X pins σ H { s with heap := h', toks := tk } := I.turned (fun b o hb e => kk b o (by simpa using hb) e) f0 f1 f3 f4 f5
    refine ⟨_, rfl, go_of (s := { s with heap := h', toks := tk }) (n := "range_iterator") st' rfl rfl (by decide) ⟨.int (lo + i), H, I1, ⟨t, ?_⟩, ⟨rfl, rfl⟩, st', fun b hb => (hf b hb).1⟩⟩
    rw [Int.mul_one]
  done := by
    intro X hP hw hK hc i pins s σ H E I hf st hg
    subst hP hw hK
    obtain ⟨f0, f1, f2, f3, f4, f5⟩ := hf it (by simp)
    exact wpAny_pyNext_range_end (I.ok.hd hc) st (by have : n ≤ i := hg; omega) fun h' eb => ⟨rfl, I.turned (t' := s.toks) (fun b o hb e => eb b o hb e) f0 f1 f3 f4 f5⟩
  self := fun _ _ _ _ _ st h => wpAny_pyIter_rangeiter st h
end L2

namespace L2
open PySem PySem.Spec PyProof.Rows
section
variable {X : Cx} {tg : Expr}
def iList (K : PySem.W.Frag) (tl : TE) : TI := fun σ H R => tl σ H fun x H1 => ∃ a, x = .ref a ∧ (∃ xs, SqL K H1 a xs) ∧ R (Itl K a) H1
/-- a range object just made, walked -/
theorem range_it {pins : List (Addr × Obj)} {σ : St} {H : Hp} {s : Shared} {R : It → Hp → Prop} {E : Value → Shared → Prop} {lo hi : Int} {t u v : Tok} {tk : Nat} (I : Inv X pins σ H s) (h1 : -(2 ^ 62) ≤ lo) (h2 : lo < 2 ^ 62) (h3 : -(2 ^ 62) ≤ hi) (h4 : hi < 2 ^ 62)
    (q : R (Itr lo (hi - lo).toNat) H) : wpAny (model X.prog X.w) X.A (pyIter (.ref s.heap.objs.size)) (PIE X pins σ tg R) E { s with heap := s.heap.push { cls := .type "range", data := .fields #[.int lo t, .int hi u, .int 1 v] }, toks := tk } := by
  refine wpAny_pyIter_range (IsRange.new ..) (small_one h1 h2 h3 h4) ?_
  have I1 : Inv X pins σ H { s with heap := s.heap.push { cls := .type "range", data := .fields #[.int lo t, .int hi u, .int 1 v] }, toks := tk } := I.kept fun b o e => Heap.get?_push_of_some _ e
  refine ⟨(s.heap.push { cls := .type "range", data := .fields #[.int lo t, .int hi u, .int 1 v] }).objs.size, [(s.heap.push { cls := .type "range", data := .fields #[.int lo t, .int hi u, .int 1 v] }).objs.size], _, _, H, rfl,
    I1.kept (t' := tk) fun b o e => Heap.get?_push_of_some _ e, turn_range _ lo (hi - lo).toNat, ?_, fun b hb => ?_, q⟩
  · have e1 : lo + ((0 : Nat) : Int) * 1 = lo := by simp
    have e2 : (((hi - lo).toNat : Nat) : Int) - ((0 : Nat) : Int) = Builtin.Range.rangeSize lo hi 1 := by rw [rangeSize_one]; split <;> omega
    show IsRangeIter _ _ (lo + ((0 : Nat) : Int) * 1) ((((hi - lo).toNat : Nat) : Int) - ((0 : Nat) : Int)) 1
    rw [e1, e2]
    exact Heap.get?_push_size _ rfl
  · have e : b = (s.heap.push { cls := .type "range", data := .fields #[.int lo t, .int hi u, .int 1 v] }).objs.size := by simpa using hb
    subst e
    exact I1.fpOk (Nat.le_refl _) (I1.hok.fresh (Nat.le_refl _))
def iRng1 (ta : TA) : TI := fun σ H R => ta σ H fun vs H1 => ∃ j : Int, vs = [.int j] ∧ -(2 ^ 62) ≤ j ∧ j < 2 ^ 62 ∧ R (Itr 0 j.toNat) H1
theorem pi_range1 {a : Expr} {ta : TA} {p pos : Pos} (hg : Gl X "range") (hm : X.mg "range" = none) (ha : PA X [a] ta) (hs : starEach [a] X.env = [(false, eval a X.env)] := by rfl) : PI X tg (.Call (.Name "range" p) [a] [] pos) (iRng1 ta) := by
  intro pins s σ H R I h
  refine Call_ (ld_blt I hg hm boot_range (PyProof.Rows.callWith_type1 (thn (ha pos pins s σ H _ I h) fun us s1 ⟨vs, H1, I1, r1, q1⟩ => ?_) hs rfl))
  obtain ⟨j, e, q1, q2, q⟩ := q1
  subst e
  cases r1 with
  | cons r rr =>
    cases rr
    obtain ⟨t, rfl⟩ := r
    exact call_range_1 (range_it I1 (by omega) (by omega) q1 q2 (by simpa using q))
/-! ### for -/
/-- W: the invariant by the turn and a measure; N: what the body is to reach -/
def tFor (wi : TI) (g : TG) (tb : TS) : TS := fun D σ H => wi σ H fun J H1 => ∃ W : Nat → Nat → St → Hp → Prop, (∃ m, W 0 m σ H1) ∧ ∀ i m σ H, W i m σ H →
  (J.stop i H ∧ D.nx σ H) ∨ (J.go i H ∧ ∃ N : St → Hp → Prop, (∀ σ' H', N σ' H' → ∃ m', m' < m ∧ W (i + 1) m' σ' H') ∧ ∀ x H', J.yld i H x H' → g x σ H' fun σ2 H2 => tb { D with nx := N, ct := N, bk := D.nx } σ2 H2)
/-- the records at fp as they stand -/
def pinsAt (fp : List Addr) (h : Heap) : List (Addr × Obj) := fp.filterMap fun b => (h.get? b).map fun o => (b, o)
theorem mem_pinsAt {fp : List Addr} {h : Heap} {b : Addr} {o : Obj} (hb : b ∈ fp) (e : h.get? b = some o) : (b, o) ∈ pinsAt fp h := List.mem_filterMap.mpr ⟨b, hb, by rw [e]; rfl⟩
theorem of_pinsAt {fp : List Addr} {h : Heap} {p : Addr × Obj} (hp : p ∈ pinsAt fp h) : p.1 ∈ fp ∧ h.get? p.1 = some p.2 := by
  obtain ⟨b, hb, e⟩ := List.mem_filterMap.mp hp
  cases q : h.get? b with
  | none => rw [q] at e; cases e
  | some o =>
    rw [q] at e
    have e' : (b, o) = p := Option.some.inj e
    subst e'
    exact ⟨hb, q⟩
theorem Inv.pinned {pins : List (Addr × Obj)} {σ : St} {H : Hp} {s : Shared} {fp : List Addr} (I : Inv X pins σ H s) (hf : ∀ b ∈ fp, FpOk X pins H b) (ho : ∀ b ∈ fp, ∃ o, s.heap.get? b = some o ∧ ∀ v, o.data ≠ .cell v) : Inv X (pins ++ pinsAt fp s.heap) σ H s :=
  I.pins_of fun p hp => (List.mem_append.mp hp).elim (fun z => I.pin p (List.mem_append_right _ z)) fun z => by
    obtain ⟨hb, e⟩ := of_pinsAt z
    obtain ⟨f0, f1, f2, _⟩ := hf p.1 hb
    obtain ⟨o, e', d⟩ := ho p.1 hb
    rw [e] at e'; cases e'
    exact ⟨e, f0, f1, f2, d⟩
theorem Inv.unpinned {pins pl : List (Addr × Obj)} {σ : St} {H : Hp} {s : Shared} (I : Inv X (pins ++ pl) σ H s) : Inv X pins σ H s := I.pins_of fun p hp => I.pin p (List.mem_append_right _ (List.mem_append_left _ hp))
theorem ps_for {iter : Expr} {body : List Stmt} {wi : TI} {g : TG} {tb : TS} {pos : Pos} (hp : PassesOwn (model X.prog X.w) X.A X.env X.xe) (hc : X.calm = true) (hi : PI X tg iter wi) (hg : PG X tg g) (hb : PSs X body tb)
    (hs : ∀ x, foldedSetIterable iter X.env x = pure x := by intro _; rfl) : PS X (.For tg iter body [] pos) (tFor wi g tb) := by
  intro pins s σ H D I h
  refine wpAny_For (thn (hi pins s σ H _ I h) fun v s1 h1 => thn h1 fun itv s2 h2 => ?_) hs
  obtain ⟨it, fp, tn, J, H2, e, I2, T, st2, f2, W, ⟨m0, w0⟩, turn⟩ := h2
  subst e
  -- what stays true of the iterator's objects through the loop
  have stat : ∀ {H' : Hp}, (∀ b ∈ fp, H' b = none) → ∀ b ∈ fp, FpOk X pins H' b := fun hn b hb => ⟨hn b hb, (f2 b hb).2⟩
  refine codeAny_forLoop_any (fun n s' => ∃ i σ' H', Inv X pins σ' H' s' ∧ tn i s'.heap ∧ (∀ b ∈ fp, H' b = none) ∧ W i n σ' H') ?_ m0 ⟨0, σ, H2, I2, st2, fun b hb => (f2 b hb).1, w0⟩
  rintro n s3 ⟨i, σ3, H3, I3, st3, fr3, w3⟩
  rcases turn i n σ3 H3 w3 with ⟨stop, qn⟩ | ⟨go, N, hN, step⟩
  · refine wpAny_passesOwn hp (thn (T.done X rfl rfl rfl hc i pins s3 σ3 H3 X.xe I3 (stat fr3) st3 stop) fun r s4 ⟨hr, I4⟩ => ?_)
    subst hr
    exact wpAny_execs_nil ⟨σ3, H3, I4, qn⟩
  · refine wpAny_passesOwn hp (thn (T.item X rfl rfl rfl hc i pins s3 σ3 H3 X.xe I3 (stat fr3) st3 go) fun r s4 ⟨u, hr, h4⟩ => ?_)
    subst hr
    refine wpAny_passesOwn hp (thn h4 fun _ s5 ⟨x, H5, I5, r5, y5, st5, fr5⟩ => ?_)
    have I5' := I5.pinned (stat fr5) (T.obj _ _ st5)
    refine wpAny_passesOwn hp (thn (hg _ s5 σ3 H5 x u _ I5' r5 (step x H5 y5)) fun _ s6 ⟨σ6, H6, I6, q6⟩ => ?_)
    refine wpAny_passesOwn hp (thn (hb _ s6 σ6 H6 _ I6 q6) fun f s7 q7 => ?_)
    have again : ∀ {σ7 : St} {H7 : Hp}, Inv X (pins ++ pinsAt fp s5.heap) σ7 H7 s7 → N σ7 H7 → ∃ m, m < n ∧ ∃ i σ' H', Inv X pins σ' H' s7 ∧ tn i s7.heap ∧ (∀ b ∈ fp, H' b = none) ∧ W i m σ' H' := fun {σ7 H7} I7 n7 => by
      obtain ⟨m', hm, w7⟩ := hN σ7 H7 n7
      refine ⟨m', hm, i + 1, σ7, H7, I7.unpinned, T.keep _ _ _ st5 fun b hb o e => (I7.pin (b, o) (List.mem_append_right _ (List.mem_append_right _ (mem_pinsAt hb e)))).1, fun b hb => ?_, w7⟩
      obtain ⟨o, e, d⟩ := T.obj _ _ st5 b hb
      exact (I7.pin (b, o) (List.mem_append_right _ (List.mem_append_right _ (mem_pinsAt hb e)))).2.1
    cases f with
    | next => obtain ⟨σ7, H7, I7, n7⟩ := q7; exact again I7 n7
    | cont => obtain ⟨σ7, H7, I7, n7⟩ := q7; exact again I7 n7
    | brk => obtain ⟨σ7, H7, I7, q7⟩ := q7; exact ⟨σ7, H7, I7.unpinned, q7⟩
    | ret v => obtain ⟨x7, σ7, H7, I7, r7, q7⟩ := q7; exact ⟨x7, σ7, H7, I7.unpinned, r7, q7⟩
end

/-! ### the forms one uses -/
theorem for_range {lo : Int} {n : Nat} {g : TG} {tb : TS} {D : Ends} {σ : St} {H : Hp} (Pv : Nat → St → Hp → Prop) (h0 : Pv 0 σ H)
    (hs : ∀ i σ H, i < n → Pv i σ H → g (.int (lo + i)) σ H fun σ2 H2 => tb { D with nx := Pv (i + 1), ct := Pv (i + 1), bk := D.nx } σ2 H2) (hd : ∀ σ H, Pv n σ H → D.nx σ H) :
    ∃ W : Nat → Nat → St → Hp → Prop, (∃ m, W 0 m σ H) ∧ ∀ i m σ H, W i m σ H →
      ((Itr lo n).stop i H ∧ D.nx σ H) ∨ ((Itr lo n).go i H ∧ ∃ N : St → Hp → Prop, (∀ σ' H', N σ' H' → ∃ m', m' < m ∧ W (i + 1) m' σ' H') ∧ ∀ x H', (Itr lo n).yld i H x H' → g x σ H' fun σ2 H2 => tb { D with nx := N, ct := N, bk := D.nx } σ2 H2) := by
  refine ⟨fun i m σ H => m = n - i ∧ i ≤ n ∧ Pv i σ H, ⟨n, by simp, Nat.zero_le _, h0⟩, ?_⟩
  rintro i m σ H ⟨rfl, hi, p⟩
  by_cases hlt : i < n
  · refine .inr ⟨hlt, Pv (i + 1), fun σ' H' p' => ⟨n - (i + 1), by omega, rfl, hlt, p'⟩, fun x H' y => ?_⟩
    obtain ⟨e, y⟩ := y
    subst e y
    exact hs i σ _ hlt p
  · have e : i = n := by omega
    subst e
    exact .inl ⟨Nat.le_refl _, hd σ H p⟩
end L2

namespace L2
open PySem PySem.Spec PyProof.Rows

abbrev R2 := V → V → Hp → VK → Prop
/-- a two-place operation on values: f is binaryOp op, inplaceOp op or compareOp op -/
def OpR (X : Cx) (f : Value → Value → Sem Value) (r : R2) : Prop :=
  ∀ (pins : List (Addr × Obj)) (s : Shared) (σ : St) (H : Hp) (x y : V) (v u : Value) (Q : VK), Inv X pins σ H s → RelV x v → RelV y u → r x y H Q →
    wpAny (model X.prog X.w) X.A (f v u) (EP X pins σ Q) X.xe s
/-- a one-place operation -/
def UnR (X : Cx) (f : Value → Sem Value) (r : V → Hp → VK → Prop) : Prop :=
  ∀ (pins : List (Addr × Obj)) (s : Shared) (σ : St) (H : Hp) (x : V) (v : Value) (Q : VK), Inv X pins σ H s → RelV x v → r x H Q →
    wpAny (model X.prog X.w) X.A (f v) (EP X pins σ Q) X.xe s
/-- a call of a value that is known (a builtin, a type) with values -/
def CallR (X : Cx) (f : Value) (r : List V → Hp → VK → Prop) : Prop :=
  ∀ (pins : List (Addr × Obj)) (s : Shared) (σ : St) (H : Hp) (xs : List V) (us : List Value) (Q : VK), Inv X pins σ H s → Vals xs us → r xs H Q →
    wpAny (model X.prog X.w) X.A (call f us) (EP X pins σ Q) X.xe s
def tOp (r : R2) (ta tb : TE) : TE := fun σ H Q => ta σ H fun x H1 => tb σ H1 fun y H2 => r x y H2 Q
def tUn (r : V → Hp → VK → Prop) (ta : TE) : TE := fun σ H Q => ta σ H fun x H1 => r x H1 Q
/-- ints in, under C, and a value out -/
def rI (C : Int → Int → Prop) (g : Int → Int → V) : R2 := fun x y H Q => ∃ i j, x = .int i ∧ y = .int j ∧ C i j ∧ Q (g i j) H
def rI0 (g : Int → Int → V) : R2 := fun x y H Q => ∃ i j, x = .int i ∧ y = .int j ∧ Q (g i j) H
def rU (g : Int → V) : V → Hp → VK → Prop := fun x H Q => ∃ i, x = .int i ∧ Q (g i) H

section
variable {X : Cx} {a b c : Expr} {ta tb tc : TE} {pos : Pos}

theorem binT (ha : PE X a ta) (hb : PE X b tb) {pins : List (Addr × Obj)} {s : Shared} {σ : St} {H : Hp} {R : V → V → Hp → Prop} (I : Inv X pins σ H s)
    (h : ta σ H fun x H1 => tb σ H1 fun y H2 => R x y H2) {Q : Value → Shared → Prop} {f : Value → Value → Sem Value}
    (hf : ∀ v u s2 x y H2, Inv X pins σ H2 s2 → RelV x v → RelV y u → R x y H2 → wpAny (model X.prog X.w) X.A (f v u) Q X.xe s2) :
    wpAny (model X.prog X.w) X.A (eval a X.env) (fun v s₁ => wpAny (model X.prog X.w) X.A (eval b X.env) (fun u s₂ => wpAny (model X.prog X.w) X.A (f v u) Q X.xe s₂) X.xe s₁) X.xe s := by
  refine thn (ha pins s σ H _ I h) fun v s1 ⟨x, H1, I1, r1, q1⟩ => ?_
  refine thn (hb pins s1 σ H1 _ I1 q1) fun u s2 ⟨y, H2, I2, r2, q2⟩ => ?_
  exact hf v u s2 x y H2 I2 r1 r2 q2

theorem pe_op {op : Operator} {r : R2} (ho : OpR X (binaryOp op) r) (ha : PE X a ta) (hb : PE X b tb) : PE X (.BinOp a op b pos) (tOp r ta tb) := by
  intro pins s σ H Q I h
  exact wpAny_BinOp (binT ha hb I h fun v u s2 x y H2 I2 rx ry q => ho pins s2 σ H2 x y v u Q I2 rx ry q)
theorem pe_un {op : UnaryOp} {r : V → Hp → VK → Prop} (ho : UnR X (unaryOp op) r) (ha : PE X a ta) : PE X (.UnaryOp op a pos) (tUn r ta) := by
  intro pins s σ H Q I h
  exact UnaryOp_ (thn (ha pins s σ H _ I h) fun v s1 ⟨x, H1, I1, r1, q1⟩ => ho pins s1 σ H1 x v Q I1 r1 q1)
/-! ### ints -/
theorem opI {f : Value → Value → Sem Value} {C : Int → Int → Prop} {g : Int → Int → Int}
    (rule : ∀ (i j : Int) (t u : Tok) (s : Shared) (Q : Value → Shared → Prop) (E : Value → Shared → Prop), C i j → Q (.int (g i j) s.toks) { s with toks := s.toks + 1 } → wpAny (model X.prog X.w) X.A (f (.int i t) (.int j u)) Q E s) :
    OpR X f (rI C fun i j => .int (g i j)) := by
  intro pins s σ H x y v u Q I rx ry h
  obtain ⟨i, j, rfl, rfl, hc, q⟩ := h
  obtain ⟨t, rfl⟩ := rx
  obtain ⟨t', rfl⟩ := ry
  exact rule i j t t' s _ _ hc ⟨.int (g i j), H, I.tok _, ⟨_, rfl⟩, q⟩
theorem opI0 {f : Value → Value → Sem Value} {g : Int → Int → Int}
    (rule : ∀ (i j : Int) (t u : Tok) (s : Shared) (Q : Value → Shared → Prop) (E : Value → Shared → Prop), Q (.int (g i j) s.toks) { s with toks := s.toks + 1 } → wpAny (model X.prog X.w) X.A (f (.int i t) (.int j u)) Q E s) :
    OpR X f (rI0 fun i j => .int (g i j)) := by
  intro pins s σ H x y v u Q I rx ry h
  obtain ⟨i, j, rfl, rfl, q⟩ := h
  obtain ⟨t, rfl⟩ := rx
  obtain ⟨t', rfl⟩ := ry
  exact rule i j t t' s _ _ ⟨.int (g i j), H, I.tok _, ⟨_, rfl⟩, q⟩
theorem opB0 {f : Value → Value → Sem Value} {g : Int → Int → Bool}
    (rule : ∀ (i j : Int) (t u : Tok) (s : Shared) (Q : Value → Shared → Prop) (E : Value → Shared → Prop), Q (.bool (g i j)) s → wpAny (model X.prog X.w) X.A (f (.int i t) (.int j u)) Q E s) :
    OpR X f (rI0 fun i j => .bl (g i j)) := by
  intro pins s σ H x y v u Q I rx ry h
  obtain ⟨i, j, rfl, rfl, q⟩ := h
  obtain ⟨t, rfl⟩ := rx
  obtain ⟨t', rfl⟩ := ry
  exact rule i j t t' s _ _ ⟨.bl (g i j), H, I, rfl, q⟩

def CDiv (i j : Int) : Prop := 0 < j ∧ j < 1073741824
def CPow (i j : Int) : Prop := 0 ≤ j ∧ j ≤ 1000000 ∧ i.natAbs < 2 ^ 64
theorem two_pow_nn (k : Nat) : (0 : Int) ≤ 2 ^ k := by
  rw [two_pow_cast]
  exact Int.natCast_nonneg _

theorem op_add : OpR X (binaryOp .Add) (rI0 fun i j => .int (i + j)) := opI0 fun _ _ _ _ _ _ _ q => add_int q
theorem op_sub : OpR X (binaryOp .Sub) (rI0 fun i j => .int (i - j)) := opI0 fun _ _ _ _ _ _ _ q => sub_int q
/-- // by a positive divisor -/
theorem op_fdiv : OpR X (binaryOp .FloorDiv) (rI CDiv fun i j => .int (i / j)) := opI fun i j _ _ _ _ _ hc q => by
  have h1 : (0 : Int) < j := hc.1
  have h2 : j < 1073741824 := hc.2
  exact floordiv_int (by omega) (by rw [Int.fdiv_eq_ediv_of_nonneg i (by omega)]; exact q) (.inl (PyProof.noPylong_small (by omega)))
/-- % by a positive divisor of any size -/
theorem op_mod : OpR X (binaryOp .Mod) (rI (fun _ j => 0 < j) fun i j => .int (i % j)) := opI fun i j _ _ _ _ _ hc q => by
  have h1 : (0 : Int) < j := hc
  exact mod_int' (by omega) (by rw [Int.fmod_eq_emod_of_nonneg i (by omega)]; exact q)
theorem op_pow : OpR X (binaryOp .Pow) (rI CPow fun i j => .int (i ^ j.toNat)) := opI fun _ _ _ _ _ _ _ hc q => pow_int_small hc.1 hc.2.1 hc.2.2 q
theorem op_shr : OpR X (binaryOp .RShift) (rI (fun _ j => 0 ≤ j) fun i j => .int (i / 2 ^ j.toNat)) := opI fun i j _ _ _ _ _ hc q =>
  rshift_int hc (by rw [Int.fdiv_eq_ediv_of_nonneg i (two_pow_nn _)]; exact q)
theorem unI {f : Value → Sem Value} {g : Int → Int}
    (rule : ∀ (i : Int) (t : Tok) (s : Shared) (Q : Value → Shared → Prop) (E : Value → Shared → Prop), Q (.int (g i) s.toks) { s with toks := s.toks + 1 } → wpAny (model X.prog X.w) X.A (f (.int i t)) Q E s) :
    UnR X f (rU fun i => .int (g i)) := by
  intro pins s σ H x v Q I rx h
  obtain ⟨i, rfl, q⟩ := h
  obtain ⟨t, rfl⟩ := rx
  exact rule i t s _ _ ⟨.int (g i), H, I.tok _, ⟨_, rfl⟩, q⟩
theorem un_neg : UnR X (unaryOp .USub) (rU fun i => .int (-i)) := unI fun _ _ _ _ _ q => neg_int q
/-! ### bools among ints: n += (a < b) -/
end

/-! ### comparisons -/
/-- the scalars that == tells apart as data does -/
def scal : V → V → Bool
  | .non, .non => true | .non, .int _ => true | .int _, .non => true | .non, .bl _ => true | .bl _, .non => true | .non, .str _ => true | .str _, .non => true
  | .int _, .int _ => true | .bl _, .bl _ => true | .str _, .str _ => true | .byt _, .byt _ => true
  | .int _, .str _ => true | .str _, .int _ => true | .bl _, .str _ => true | .str _, .bl _ => true
  | _, _ => false
def rEq : R2 := fun x y H Q => scal x y = true ∧ Q (.bl (decide (x = y))) H
theorem dec_int {i j : Int} : decide (V.int i = V.int j) = (i == j) := by
  rw [Bool.eq_iff_iff]
  simp
theorem dec_bl {i j : Bool} : decide (V.bl i = V.bl j) = (i == j) := by
  rw [Bool.eq_iff_iff]
  simp
theorem dec_str {i j : Str} : decide (V.str i = V.str j) = (i == j) := by
  rw [Bool.eq_iff_iff]
  simp
theorem dec_byt {i j : Array UInt8} : decide (V.byt i = V.byt j) = (i.toList == j.toList) := by
  rw [Bool.eq_iff_iff]
  cases i
  cases j
  simp

section
variable {X : Cx} {a b c : Expr} {ta tb tc : TE} {pos : Pos}
theorem fin_bl {pins : List (Addr × Obj)} {σ : St} {H : Hp} {s : Shared} {Q : VK} {k k' : Bool} (I : Inv X pins σ H s) (q : Q (.bl k) H) (e : k = k') : EP X pins σ Q (.bool k') s := by
  subst e
  exact ⟨.bl k, H, I, rfl, q⟩
theorem op_eq : OpR X (compareOp .Eq) rEq := by
  intro pins s σ H x y v u Q I rx ry h
  obtain ⟨hs, q⟩ := h
  cases x with
  | non =>
    cases rx
    cases y with
    | non => cases ry; exact PySem.EqNone.eq_none_none (fin_bl I q (by simp))
    | bl j => cases ry; exact PySem.EqNone.eq_none_bool (fin_bl I q (by simp))
    | int j => obtain ⟨t', rfl⟩ := ry; exact PySem.EqNone.eq_none_int (fin_bl I q (by simp))
    | str j => obtain ⟨t', rfl⟩ := ry; exact PySem.EqNone.eq_none_str (fin_bl I q (by simp))
    | _ => exact absurd (show false = true from hs) Bool.false_ne_true
  | bl i =>
    cases rx
    cases y with
    | non => cases ry; exact PySem.EqNone.eq_bool_none (fin_bl I q (by simp))
    | bl j => cases ry; exact eq_bool (fin_bl I q dec_bl)
    | str j => obtain ⟨t', rfl⟩ := ry; exact PySem.EqMixed.eq_bool_str (fin_bl I q (by simp))
    | _ => exact absurd (show false = true from hs) Bool.false_ne_true
  | int i =>
    obtain ⟨t, rfl⟩ := rx
    cases y with
    | non => cases ry; exact PySem.EqNone.eq_int_none (fin_bl I q (by simp))
    | int j => obtain ⟨t', rfl⟩ := ry; exact eq_int (fin_bl I q dec_int)
    | str j => obtain ⟨t', rfl⟩ := ry; exact PySem.EqMixed.eq_int_str (fin_bl I q (by simp))
    | _ => exact absurd (show false = true from hs) Bool.false_ne_true
  | str i =>
    obtain ⟨t, rfl⟩ := rx
    cases y with
    | non => cases ry; exact PySem.EqNone.eq_str_none (fin_bl I q (by simp))
    | bl j => cases ry; exact PySem.EqMixed.eq_str_bool (fin_bl I q (by simp))
    | int j => obtain ⟨t', rfl⟩ := ry; exact PySem.EqMixed.eq_str_int (fin_bl I q (by simp))
    | str j => obtain ⟨t', rfl⟩ := ry; exact eq_str (fin_bl I q dec_str)
    | _ => exact absurd (show false = true from hs) Bool.false_ne_true
  | byt i =>
    obtain ⟨t, rfl⟩ := rx
    cases y with
    | byt j => obtain ⟨t', rfl⟩ := ry; exact PySem.W.eq_bytes (fin_bl I q dec_byt)
    | _ => exact absurd (show false = true from hs) Bool.false_ne_true
  | _ => cases y <;> exact absurd (show false = true from hs) Bool.false_ne_true
theorem op_lt : OpR X (compareOp .Lt) (rI0 fun i j => .bl (decide (i < j))) := opB0 fun _ _ _ _ _ _ _ q => lt_int q
theorem op_gt : OpR X (compareOp .Gt) (rI0 fun i j => .bl (decide (j < i))) := opB0 fun _ _ _ _ _ _ _ q => gt_int q
/-- two rules for one operation: by cases -/
theorem OpR.or {f : Value → Value → Sem Value} {r r' : R2} (h : OpR X f r) (h' : OpR X f r') : OpR X f (fun x y H Q => r x y H Q ∨ r' x y H Q) := by
  intro pins s σ H x y v u Q I rx ry q
  rcases q with q | q
  · exact h pins s σ H x y v u Q I rx ry q
  · exact h' pins s σ H x y v u Q I rx ry q

theorem nomark (b : Expr) {op : CmpOp} (h : op ≠ .In := by decide) (h2 : op ≠ .NotIn := by decide) : behindInMarks op b = false := by
  have e1 : (op == CmpOp.In) = false := by cases op <;> first | rfl | exact absurd rfl h
  have e2 : (op == CmpOp.NotIn) = false := by cases op <;> first | rfl | exact absurd rfl h2
  cases b <;> simp [behindInMarks, e1, e2]
/-- a comparison as a value; hm: nomark b, or (for in, not in) by with_unfolding_all rfl -/
theorem pe_cmpR {op : CmpOp} {r : R2} (ho : OpR X (compareOp op) r) (ha : PE X a ta) (hb : PE X b tb) (hm : behindInMarks op b = false) : PE X (.Compare a [op] [b] pos) (tOp r ta tb) := by
  intro pins s σ H Q I h
  exact wpAny_Compare1 (binT ha hb I h fun v u s2 x y H2 I2 rx ry q => ho pins s2 σ H2 x y v u Q I2 rx ry q) hm
/-- a reading of a value as a test -/
def tTest (t : TE) : TT := fun σ H Q => t σ H fun x H' => ∃ k, x = .bl k ∧ Q k H'
theorem pt_cmpR {op : CmpOp} {r : R2} (ho : OpR X (compareOp op) r) (ha : PE X a ta) (hb : PE X b tb) (hm : behindInMarks op b = false) : PT X (.Compare a [op] [b] pos) (tTest (tOp r ta tb)) := by
  intro pins s σ H Q I h
  refine wpAny_isTrue_Compare1 (thn (ha pins s σ H _ I h) fun v s1 ⟨x, H1, I1, r1, q1⟩ => thn (hb pins s1 σ H1 _ I1 q1) fun u s2 ⟨y, H2, I2, r2, q2⟩ =>
    thn (ho pins s2 σ H2 x y v u _ I2 r1 r2 q2) fun c s3 ⟨z, H3, I3, r3, k, e, q3⟩ => ?_) hm
  subst e
  cases r3
  exact wpAny_truthy_bool ⟨H3, I3, q3⟩
/-! ### truth -/
theorem isEmpty_kv {κ : Type} {kvs : List (κ × V)} {vs : List (κ × Value)} (r : KV kvs vs) : (!vs.isEmpty) = !kvs.isEmpty := by
  cases r <;> rfl
theorem isEmpty_of {xs : List V} {its : List Value} (r : Vals xs its) : (!its.toArray.isEmpty) = !xs.isEmpty := by
  cases r <;> simp
theorem line63 : (sizeLine : Nat) < 2 ^ 63 := by rw [sizeLine_eq]; decide
/-! ### strs and bytes -/
theorem op_add_str : OpR X (binaryOp .Add) (fun x y H Q => ∃ i j, x = .str i ∧ y = .str j ∧ i.length + j.length ≤ sizeLine ∧ Q (.str (i ++ j)) H) := by
  intro pins s σ H x y v u Q I rx ry h
  obtain ⟨i, j, rfl, rfl, hz, q⟩ := h
  obtain ⟨t, rfl⟩ := rx
  obtain ⟨t', rfl⟩ := ry
  exact add_str (fun t' tk => ⟨.str (i ++ j), H, I.tok _, ⟨_, rfl⟩, q⟩) hz
/-! ### scalar builtins, by CallR -/
theorem vals1 {x : V} {us : List Value} (r : Vals [x] us) : ∃ u, us = [u] ∧ RelV x u := by
  cases r with
  | cons r1 r2 => cases r2; exact ⟨_, rfl, r1⟩
theorem vals2 {x y : V} {us : List Value} (r : Vals [x, y] us) : ∃ u w', us = [u, w'] ∧ RelV x u ∧ RelV y w' := by
  cases r with
  | cons r1 r2 =>
    cases r2 with
    | cons r3 r4 => cases r4; exact ⟨_, _, rfl, r1, r3⟩
theorem call_max2 (hc : X.calm = true) : CallR X (.builtin "max") (fun xs H Q => ∃ i j, xs = [.int i, .int j] ∧ Q (.int (if j > i then j else i)) H) := by
  intro pins s σ H xs us Q I r h
  obtain ⟨i, j, rfl, q⟩ := h
  obtain ⟨u, w', rfl, ⟨t, rfl⟩, ⟨t', rfl⟩⟩ := vals2 r
  refine max_two_ints (I.ok.hd hc) fun h' tk k => ⟨_, H, I.kept k, ?_, q⟩
  by_cases hj : j > i
  · rw [if_pos hj, if_pos hj]; exact ⟨_, rfl⟩
  · rw [if_neg hj, if_neg hj]; exact ⟨_, rfl⟩
theorem call_int1 : CallR X (.type "int") (fun xs H Q => (∃ i, xs = [.int i] ∧ Q (.int i) H) ∨ ∃ k, xs = [.bl k] ∧ Q (.int (if k then 1 else 0)) H) := by
  intro pins s σ H xs us Q I r h
  rcases h with ⟨i, rfl, q⟩ | ⟨k, rfl, q⟩
  · obtain ⟨u, rfl, t, rfl⟩ := vals1 r
    exact call_int_int ⟨.int i, H, I, ⟨_, rfl⟩, q⟩
  · obtain ⟨u, rfl, r1⟩ := vals1 r
    cases r1
    exact call_int_bool ⟨.int (if k then 1 else 0), H, I.tok _, ⟨_, rfl⟩, q⟩
/-- len of a str, a bytes, a list, a tuple -/
def LenV (K : PySem.W.Frag) (x : V) (H : Hp) (n : Nat) : Prop :=
  match x with
  | .str y => y.length ≤ sizeLine ∧ n = y.length
  | .byt y => y.size ≤ sizeLine ∧ n = y.size
  | .ref p => (∃ xs, SqL K H p xs ∧ n = xs.length) ∨ ∃ xs, SqT K H p xs ∧ n = xs.length
  | _ => False
theorem call_len : CallR X (.builtin "len") (fun xs H Q => ∃ x n, xs = [x] ∧ LenV X.K x H n ∧ Q (.int n) H) := by
  intro pins s σ H xs us Q I r h
  obtain ⟨x, n, rfl, e, q⟩ := h
  obtain ⟨u, rfl, rx⟩ := vals1 r
  have hl := line63
  have hs : sizeLine = 16777216 := sizeLine_eq
  cases x with
  | str y =>
    obtain ⟨t, rfl⟩ := rx
    obtain ⟨hy, e'⟩ : y.length ≤ sizeLine ∧ n = y.length := e
    subst e'
    exact len_str (by omega) ⟨.int _, H, I.tok _, ⟨_, rfl⟩, q⟩
  | byt y =>
    obtain ⟨t, rfl⟩ := rx
    obtain ⟨hy, e'⟩ : y.size ≤ sizeLine ∧ n = y.size := e
    subst e'
    exact PySem.W.len_bytes (by omega) ⟨.int _, H, I.tok _, ⟨_, rfl⟩, q⟩
  | ref p =>
    cases rx
    have e' : (∃ xs, SqL X.K H p xs ∧ n = xs.length) ∨ ∃ xs, SqT X.K H p xs ∧ n = xs.length := e
    rcases e' with ⟨xs, hx, e'⟩ | ⟨xs, hx, e'⟩
    · subst e'
      obtain ⟨its, r', pl, hz⟩ := I.list hx
      have hlen := r'.length
      exact Calls.call_len_list pl.isList (by simp only [List.size_toArray]; omega) ⟨.int xs.length, H, I.tok _, ⟨_, by simp only [List.size_toArray]; rw [hlen]⟩, q⟩
    · subst e'
      obtain ⟨its, r', pl, hz⟩ := I.tuple hx
      have hlen := r'.length
      exact len_tuple pl (by simp only [List.size_toArray]; omega) ⟨.int xs.length, H, I.tok _, ⟨_, by simp only [List.size_toArray]; rw [hlen]⟩, q⟩
  | _ => exact (show False from e).elim
end
end L2

namespace L2
open PySem PySem.Spec PyProof.Rows

/-! ### an instance, its attributes a map -/
structure ObjM (h : Heap) (x dx C : Addr) (mA : Str → Option Value) : Prop where
  obj : h.get? x = some (PySem.W.instObj C dx)
  ns : h.Ns1 dx mA
  ne : dx ≠ x

theorem lookIn_ns {h : Heap} {dx : Addr} {mA : Str → Option Value} (n : h.Ns1 dx mA) : ∃ od, h.get? dx = some od ∧ ∀ name, PySem.W.lookIn name od = some (mA name) := by
  obtain ⟨o, es, ep, ho, hd, hk, _, hm⟩ := n
  refine ⟨o, ho, fun name => ?_⟩
  have e := hm name
  unfold nsFind findBy at e
  rw [← Array.find?_toList] at e
  unfold PySem.W.lookIn
  rw [hd]
  dsimp only
  split
  · rename_i y q
    rw [q] at e
    exact congrArg some e
  · rename_i q
    rw [q] at e
    have a : es.toList.any (·.refKey) = false := by
      rw [List.any_eq_false]
      intro y hy
      obtain ⟨z, t, hkey⟩ := hk y (Array.mem_toList_iff.mp hy)
      simp [DictEntry.refKey, hkey]
    have a' : ¬ es.toList.any (·.refKey) = true := by rw [a]; exact Bool.false_ne_true
    rw [if_neg a']
    exact congrArg some e

theorem ObjM.look {h : Heap} {x dx C : Addr} {mA : Str → Option Value} (I : ObjM h x dx C mA) : ∃ od, PySem.W.InstAt h x (PySem.W.instObj C dx) C (some od) ∧ ∀ name, PySem.W.lookIn name od = some (mA name) :=
  let ⟨od, ho, hl⟩ := lookIn_ns I.ns
  ⟨od, ⟨I.obj, rfl, rfl, ho⟩, hl⟩

section
variable {prog : Program} {w : World} {A : Around} {E : Value → Shared → Prop} {s : Shared} {K : PySem.W.Frag} {x dx C f : Addr} {mA : Str → Option Value} {name : Str} {v : Value}

end

/-! ### the attributes as a list of pairs -/
theorem RelO.some_of {v : V} {o : Option Value} (r : RelO (some v) o) : ∃ u, o = some u ∧ RelV v u := by
  cases o with
  | none => exact (show False from r).elim
  | some u => exact ⟨u, rfl, r⟩
theorem RelO.none_of {o : Option Value} (r : RelO none o) : o = none := by
  cases o with
  | none => rfl
  | some u => exact (show False from r).elim
section
variable {P : Program} {w : World} {H H' : Hp} {h h' : Heap} {a C dx : Addr} {fs fs' : List (Str × V)}
theorem ins_get (hok : HOk P w H h) (e : H a = some (.ins C dx fs)) : ∃ mA, ObjM h a dx C mA ∧ (∀ f, RelO (fs.lookup f) (mA f)) ∧ PySem.Within mA (fs.map (·.1)) ∧ fs.length ≤ 1000 ∧ H dx = some (.own a) := by
  obtain ⟨d, z, ne, ob, mA, n, r, q⟩ := (show ObjOk P w H h a (.ins C dx fs) from hok a _ e)
  exact ⟨mA, ⟨ob, n, ne⟩, r, q, z, d⟩
end

/-! ### what of the text a class must have -/
structure Cls (K : PySem.W.Frag) (C : Addr) : Prop where
  pg : PySem.W.plainGet K C Str.empty = true
  hd : PySem.W.hasDictIn K C = true
  po : PySem.W.plainOver K C = true
  sa : PySem.W.findIn K (.ref C) "__setattr__" = some (some (.builtin "object.__setattr__"))
theorem Cls.get {K : PySem.W.Frag} {C : Addr} (c : Cls K C) (f : Str) : PySem.W.plainGet K C f = true := c.pg
section
variable {X : Cx} {pins : List (Addr × Obj)} {σ : St} {H : Hp} {s : Shared} {a C dx : Addr} {fs : List (Str × V)} {f : Str} {v : V} {A : Around} {E : Value → Shared → Prop}

end

/-! ### readings and rules -/
section
variable {X : Cx} {o e value : Expr} {f : Str} {pos pos' tpos : Pos} {ta tv : TE}
end

/-! ### isinstance -/
section
variable {X : Cx} {pins : List (Addr × Obj)} {σ : St} {H : Hp} {s : Shared} {A : Around} {E : Value → Shared → Prop} {Q : Value → Shared → Prop} {c : Value} {b : Bool}
/-- the type of a value, as the fragment's deciders take it; for an instance its class -/
inductive TyOf (K : PySem.W.Frag) (H : Hp) : V → Value → Prop where
  | non : TyOf K H .non (.type "NoneType")
  | bl (x : Bool) : TyOf K H (.bl x) (.type "bool")
  | int (i : Int) : TyOf K H (.int i) (.type "int")
  | str (x : Str) : TyOf K H (.str x) (.type "str")
  | flt (x : UInt64) : TyOf K H (.flt x) (.type "float")
  | lst {a : Addr} {xs : List V} (e : H a = some (.lst xs)) : TyOf K H (.ref a) (.type "list")
  | frz {a : Addr} {o : Obj} {xs : List V} (e : H a = some (.frz o (.lst xs))) : TyOf K H (.ref a) (.type "list")
  | tup {a : Addr} {xs : List V} (e : H a = some (.tup xs)) : TyOf K H (.ref a) (.type "tuple")
  | dK {a : Addr} {kvs : List (Key × V)} (e : H a = some (.dK kvs)) : TyOf K H (.ref a) (.type "dict")
  | dT {a : Addr} {kvs : List (List Key × V)} (e : H a = some (.dT kvs)) : TyOf K H (.ref a) (.type "dict")
  | ins {a C dx : Addr} {fs : List (Str × V)} (e : H a = some (.ins C dx fs)) (cl : Cls K C) (ha : PySem.W.findIn K (.ref C) "__class__" = some (some (.builtin "object.__class__")))
      (hn : PySem.W.specialIn K (.builtin "object.__class__") "__get__" = some (some (.builtin "getset_descriptor.__get__"))) (htk : PySem.W.takesIn K (.builtin "object.__class__") = some true)
      (hm : PySem.W.mroIn K C (.type "object") = some true) : TyOf K H (.ref a) (.ref C)
/-- isinstance(x, c) for one class c, a built-in or an own one: kitOne's answer -/
theorem isinst_ok {x : V} {u t : Value} (I : Inv X pins σ H s) (rx : RelV x u) (ty : TyOf X.K H x t) (e : PySem.W.kitOne X.K t c = some b) (h : ∀ tk, Q (.bool b) { s with toks := tk }) :
    wpAny (model X.prog X.w) A (call (.builtin "isinstance") [u, c]) Q E s := by
  cases ty with
  | non => cases (show u = Value.none from rx); exact PySem.W.kia_one PySem.W.kitx_none I.kIn True.intro e (fun z => nomatch z) h
  | bl y => cases (show u = Value.bool y from rx); exact PySem.W.kia_one PySem.W.kitx_bool I.kIn True.intro e (fun z => nomatch z) h
  | int i => obtain ⟨t, q⟩ := (show ∃ t, u = Value.int i t from rx); cases q; exact PySem.W.kia_one PySem.W.kitx_int I.kIn True.intro e (fun z => nomatch z) h
  | str y => obtain ⟨t, q⟩ := (show ∃ t, u = Value.str y t from rx); cases q; exact PySem.W.kia_one PySem.W.kitx_str I.kIn True.intro e (fun z => nomatch z) h
  | flt y => obtain ⟨t, q⟩ := (show ∃ t, u = Value.float y t from rx); cases q; exact PySem.W.kia_one PySem.W.kitx_float I.kIn True.intro e (fun z => nomatch z) h
  | @lst a xs ea =>
    cases (show u = Value.ref a from rx)
    obtain ⟨_, _, n, _, h1⟩ := (show ObjOk X.prog X.w H s.heap a (.lst xs) from I.hok a _ ea)
    exact PySem.W.kia_one PySem.W.kitx_list I.kIn ⟨_, h1, rfl⟩ e (fun z => nomatch z) h
  | @frz a ob xs ea =>
    cases (show u = Value.ref a from rx)
    obtain ⟨_, _, _, n, _, h1⟩ := (show ObjOk X.prog X.w H s.heap a (.frz ob (.lst xs)) from I.hok a _ ea)
    exact PySem.W.kia_one PySem.W.kitx_list I.kIn ⟨_, h1, rfl⟩ e (fun z => nomatch z) h
  | @tup a xs ea =>
    cases (show u = Value.ref a from rx)
    obtain ⟨_, _, _, p⟩ := (show ObjOk X.prog X.w H s.heap a (.tup xs) from I.hok a _ ea)
    obtain ⟨o, h1, h2, _⟩ := p
    exact PySem.W.kia_one PySem.W.kitx_tuple I.kIn ⟨o, h1, h2⟩ e (fun z => nomatch z) h
  | @dK a kvs ea =>
    cases (show u = Value.ref a from rx)
    obtain ⟨_, _, vs, _, p⟩ := (show ObjOk X.prog X.w H s.heap a (.dK kvs) from I.hok a _ ea)
    obtain ⟨o, es, ep, h1, h2, _⟩ := p
    exact PySem.W.kia_one PySem.W.kitx_dict I.kIn ⟨o, h1, h2.1⟩ e (fun z => nomatch z) h
  | @dT a kvs ea =>
    cases (show u = Value.ref a from rx)
    obtain ⟨_, _, xs, _, o, es, ep, h1, h2, _⟩ := (show ObjOk X.prog X.w H s.heap a (.dT kvs) from I.hok a _ ea)
    exact PySem.W.kia_one PySem.W.kitx_dict I.kIn ⟨o, h1, h2.1⟩ e (fun z => nomatch z) h
  | @ins a C dx fs ea cl ha hn htk hm =>
    cases (show u = Value.ref a from rx)
    obtain ⟨mA, O, _⟩ := ins_get I.hok ea
    obtain ⟨od, J, _⟩ := O.look
    exact PySem.W.kia_one (PySem.W.kitx_own (cl.get _) cl.hd ha hn htk hm) I.kIn J e (fun z => nomatch z) h
end
end L2

namespace L2
open PySem PySem.Spec PyProof.Rows

/-! ### room -/
structure Room (k : Nat) (A : Around) : Prop where
  hd : A.handled = none
  dp : A.depth + 3 * k + 5 < recursionLimit
  un : A.units + 16 * k + 200 < cLine
theorem Room.mono {j k : Nat} {A : Around} (r : Room k A) (h : j ≤ k) : Room j A := ⟨r.hd, by have := r.dp; omega, by have := r.un; omega⟩
theorem Room.deeper {k : Nat} {A : Around} (r : Room (k + 1) A) (env : Env) : Room k (A.deeper env) :=
  ⟨r.hd, by have := r.dp; show A.depth + 1 + 3 * k + 5 < _; omega, by have := r.un; show A.units + 3 + 16 * k + 200 < _; omega⟩
theorem Room.depth {k : Nat} {A : Around} (r : Room k A) : A.depth < recursionLimit := by have := r.dp; omega
theorem Room.units {k : Nat} {A : Around} (r : Room k A) : A.units + 64 < cLine := by have := r.un; omega
theorem Room.units0 {k : Nat} {A : Around} (r : Room k A) : A.units < cLine := by have := r.un; omega

/-! ### argument lists and displays -/
def tNil : TA := fun _ H Q => Q [] H
def tCons (ta : TE) (tr : TA) : TA := fun σ H Q => ta σ H fun x H1 => tr σ H1 fun xs H2 => Q (x :: xs) H2
section
variable {X : Cx} {e : Expr} {es : List Expr} {te : TE} {t : TA} {pos : Pos}
theorem pa_nil : PA X [] tNil := fun _ _ _ _ H Q I h => Calls.spliced_nil ⟨[], H, I, .nil, h⟩
theorem pa_cons (ha : PE X e te) (hr : PA X es t) (hs : starEach (e :: es) X.env = (false, eval e X.env) :: starEach es X.env := by rfl) : PA X (e :: es) (tCons te t) := by
  intro pos pins s σ H Q I h
  rw [hs]
  show wpAny _ _ (spliced ((false, eval e X.env) :: backTo pos (starEach es X.env))) _ _ s
  refine Calls.spliced_cons (thn (ha pins s σ H _ I h) fun u s1 ⟨x, H1, I1, r1, q1⟩ => ?_)
  exact thn (hr pos pins s1 σ H1 _ I1 q1) fun us s2 ⟨xs, H2, I2, r2, q2⟩ => ⟨x :: xs, H2, I2, .cons r1 r2, q2⟩

/-- a tuple, a list of written items -/
def tTup (t : TA) : TE := fun σ H Q => t σ H fun xs H1 => xs.length ≤ sizeLine ∧ ∀ p, H1 p = none → Q (.ref p) (upd H1 p (.tup xs))
def tLst (t : TA) : TE := fun σ H Q => t σ H fun xs H1 => xs.length ≤ sizeLine ∧ ∀ p, H1 p = none → Q (.ref p) (upd H1 p (.lst xs))
theorem pe_tup {x1} (h : PA X es t) : PE X (.Tuple es x1 pos) (tTup t) := by
  intro pins s σ H Q I hq
  refine wpAny_Tuple_spliced (thn (h pos pins s σ H _ I hq) fun us s1 ⟨xs, H1, I1, r, z, q⟩ => ⟨by rw [← r.length]; exact z, ?_⟩)
  have hf : H1 s1.heap.objs.size = none := I1.hok.fresh (Nat.le_refl _)
  refine ⟨.ref s1.heap.objs.size, upd H1 s1.heap.objs.size (.tup xs), I1.laid (t' := s1.toks) (fun b u e => Heap.get?_push_of_some _ e) (Nat.le_refl _) ?_, rfl, q _ hf⟩
  exact ⟨z, us, r, ⟨_, Heap.get?_push_size _ rfl, rfl, _, rfl⟩⟩
theorem pe_lst (h : PA X es t) : PE X (.List es pos) (tLst t) := by
  intro pins s σ H Q I hq
  refine wpAny_List_spliced (thn (h pos pins s σ H _ I hq) fun us s1 ⟨xs, H1, I1, r, z, q⟩ => ⟨by rw [← r.length]; exact z, ?_⟩)
  have hf : H1 s1.heap.objs.size = none := I1.hok.fresh (Nat.le_refl _)
  refine ⟨.ref s1.heap.objs.size, upd H1 s1.heap.objs.size (.lst xs), I1.laid (t' := s1.toks) (fun b u e => Heap.get?_push_of_some _ e) (Nat.le_refl _) ?_, rfl, q _ hf⟩
  exact ⟨z, us, 0, r, Heap.get?_push_size _ rfl⟩
end

/-! ### what a def promises -/
/-- a def's promise: the bound arguments in the parameters' order, the heap, the wanted end, the wanted exception -/
abbrev Sp := List V → Hp → VK → XK → Prop
/-- how an exception lies behind a call (file 08 gives it): the callers' frames, abstract heap and state ahead of the call, the wish, the exception, the state -/
abbrev CXT := List Env → Hp → Shared → XK → Value → Shared → Prop

/-- the state at a call -/
structure Env0 (P : Program) (w : World) (K : PySem.W.Frag) (mg : Str → Option Value) (base : Heap) (A : Around) (outer : List Env) (s : Shared) (H : Hp) : Prop where
  frames : A.frames = some outer
  mod : Mod K mg base
  bs : ∀ b o, base.get? b = some o → s.heap.get? b = some o ∧ H b = none
  bsz : base.objs.size ≤ s.heap.objs.size
  funs : s.heap.FunFrames base outer
  frf : ∀ b ∈ frs outer, H b = none
  hok : HOk P w H s.heap
  bare : AllBare s.gens
/-- a call's end -/
def CE (outer : List Env) (P : Program) (w : World) (H : Hp) (s : Shared) (Q : VK) (u : Value) (s' : Shared) : Prop :=
  ∃ v H', s'.os = s.os ∧ AllBare s'.gens ∧ Un (frs outer) [] H H' s.heap s'.heap ∧ HOk P w H' s'.heap ∧ RelV v u ∧ Q v H'
def CR (CX : CXT) (outer : List Env) (P : Program) (w : World) (H : Hp) (s : Shared) (Q : VK) (E : XK) (r : Result) (s' : Shared) : Prop :=
  match r with
  | .ok (.ret u) => CE outer P w H s Q u s'
  | .ok _ => False
  | .error e => CX outer H s E e s'
structure FnOk (P : Program) (w : World) (K : PySem.W.Frag) (mg : Str → Option Value) (base : Heap) (CX : CXT) (k : Nat) (f : Addr) (fd : FuncData) (ps : List Str) (sp : Sp) : Prop where
  len : ∀ vs H Q E, sp vs H Q E → vs.length = ps.length
  run : ∀ (A : Around) (outer : List Env) (s : Shared) (H : Hp) (args : Args) (us : List Value) (vs : List V) (Q : VK) (E : XK), Room k A → Env0 P w K mg base A outer s H → BindsTo s fd args (ps.zip us) → Vals vs us → sp vs H Q E →
    codeAny (model P w) A (.call (.ref f) args) (CR CX outer P w H s Q E) s
section
variable {X : Cx} {pins : List (Addr × Obj)} {σ : St} {H : Hp} {s s' : Shared}
/-- from a body: what a callee wants -/
theorem Inv.env0 (I : Inv X pins σ H s) : Env0 X.prog X.w X.K X.mg X.base X.A X.stack s H :=
  ⟨I.ok.frames, I.ok.mod, I.bs, Nat.le_trans I.ok.bsz I.sz, I.stack, I.stkFree, I.hok, I.bare⟩
/-- behind a call -/
theorem Inv.after {Q : VK} {u : Value} (I : Inv X pins σ H s) (h : CE X.stack X.prog X.w H s Q u s') : EP X pins σ Q u s' := by
  obtain ⟨v, H', os, bare, un, hok, r, q⟩ := h
  obtain ⟨hh, g, d, t, os'⟩ := s'
  obtain rfl : os' = s.os := os
  exact ⟨v, H', I.call (h' := hh) (g' := g) (d' := d) (t' := t) (ch := []) un hok bare (fun b z => absurd z (by simp)), r, q⟩
end

/-! ### calls -/
/-- f(..): the written arguments, then the defaults dvs; E: what is wanted of an exception -/
def tCall (sp : Sp) (dvs : List V) (E : XK) (t : TA) : TE := fun σ H Q => t σ H fun vs H1 => sp (vs ++ dvs) H1 Q E
/-- how the parameters are bound: us the positional arguments, kw the keywords' values by name, ds the defaults that fill up -/
def Binds (K : PySem.W.Frag) (fd : FuncData) (ps : List Str) (ds : List Value) : Prop :=
  ∀ (s : Shared) (us : List Value), K.In s.heap → (us ++ ds).length = ps.length → BindsTo s fd ⟨us, []⟩ (ps.zip (us ++ ds))
/-- every parameter is given -/
theorem Binds.all {K : PySem.W.Frag} {fd : FuncData} {ps : List Str} (h : ∀ us : List Value, us.length = ps.length → bindArgs fd ⟨us, []⟩ = pure (ps.zip us)) : Binds K fd ps [] := fun s us _ hl => by
  rw [List.append_nil] at hl ⊢
  exact .of_eq (h us hl)

/-- an exception of a callee reaches what this body wants of exceptions -/
def Passes (CX : CXT) (X : Cx) (E : XK) : Prop := ∀ (pins : List (Addr × Obj)) (σ : St) (H : Hp) (s : Shared) (e : Value) (s' : Shared), Inv X pins σ H s → CX X.stack H s E e s' → X.xe e s'

section
variable {X : Cx} {CX : CXT} {k : Nat} {f C : Addr} {fd : FuncData} {ps : List Str} {sp : Sp} {dvs : List V} {ds : List Value} {E : XK} {x m : Str} {p pos apos : Pos} {e o : Expr} {es : List Expr} {ta : TE} {t : TA}

/-- the callee runs -/
theorem run_fn {pins : List (Addr × Obj)} {σ : St} {H : Hp} {s : Shared} {Q : VK} {us : List Value} {vs : List V} (F : FnOk X.prog X.w X.K X.mg X.base CX k f fd ps sp) (hr : Room k X.A) (hb : Binds X.K fd ps ds) (hd : Vals dvs ds) (hx : Passes CX X E)
    (I : Inv X pins σ H s) (r : Vals vs us) (h : sp (vs ++ dvs) H Q E) : wpAny (model X.prog X.w) X.A (call (.ref f) us) (EP X pins σ Q) X.xe s := by
  have r2 : Vals (vs ++ dvs) (us ++ ds) := r.append hd
  have hl : (us ++ ds).length = ps.length := by rw [← r2.length]; exact F.len _ _ _ _ h
  refine wpAny_call (codeAny_mono (F.run X.A X.stack s H ⟨us, []⟩ (us ++ ds) (vs ++ dvs) Q E hr I.env0 (hb s us I.kIn hl) r2 h) fun r s' hq => ?_)
  cases r with
  | error e => exact hx pins σ H s e s' I hq
  | ok fl =>
    cases fl with
    | ret u => exact I.after hq
    | next => exact False.elim hq
    | brk => exact False.elim hq
    | cont => exact False.elim hq

theorem pe_call (F : FnOk X.prog X.w X.K X.mg X.base CX k f fd ps sp) (hr : Room k X.A) (hg : Gl X x) (hm : X.mg x = some (.ref f)) (hk : PySem.W.keepIn X.K (.ref f) = true) (hb : Binds X.K fd ps ds) (hd : Vals dvs ds) (hx : Passes CX X E)
    (ha : PA X (e :: es) t) (hdb : (x == ("__debug__" : Str)) = false := by decide) (he : starEach (e :: es) X.env = (false, eval e X.env) :: starEach es X.env := by rfl) (hpl : (backTo pos (starEach es X.env)).any (·.1) = false := by rfl) :
    PE X (.Call (.Name x p) (e :: es) [] pos) (tCall sp dvs E t) := by
  intro pins s σ H Q I h
  refine wpAny_Call_Name_kw (ld_glob I hg hm ?_ hdb)
  refine PySem.W.callWith_K (h₀ := X.base) I.ok.mod.kin hk (thn (ha pos pins s σ H _ I h) fun us s1 ⟨vs, H1, I1, r, q⟩ => ⟨I1.kIn, ?_⟩) he hpl
  exact run_fn F hr hb hd hx I1 r q
end

/-! ### keywords -/
section
variable {X : Cx} {CX : CXT} {k : Nat} {f C : Addr} {fd : FuncData} {ps ks : List Str} {sp : Sp} {E : XK} {x m : Str} {p pos apos kpos : Pos} {e o : Expr} {es : List Expr} {kws : List Keyword} {te ta : TE} {t tk : TA} {nm : Option Str}
variable {g : List Value → List Value → List Value} {gV : List V → List V → List V}
end

/-! ### a def's body keeps its promise -/
/-- names: the parameters first -/
structure FnScope (N P : List Str) (sc : Scope) : Prop where
  kind : sc.kind = .function
  co : sc.isCoroutine = false
  gen : sc.isGenerator = false
  nd : N.Nodup
  pre : N.take P.length = P
  par : ∀ x ∈ P, sc.names.lookup x = some .local ∨ sc.names.lookup x = some .cell
  nofree : ∀ y ∈ sc.names, y.2 ≠ .free

theorem bindL_out {kindOf : Str → Option NameKind} {x : Str} : ∀ {binds : List (Str × Value)} {m : Str → Option Value}, (∀ v, (x, v) ∉ binds) → bindL kindOf binds m x = m x
  | [], _, _ => rfl
  | (n, v) :: r, m, h => by
    unfold bindL
    rw [bindL_out fun w hw => h w (List.mem_cons_of_mem _ hw)]
    split
    · have : x ≠ n := by rintro rfl; exact h v List.mem_cons_self
      simp [this]
    · rfl
theorem bindC_out {kindOf : Str → Option NameKind} {x : Str} : ∀ {binds : List (Str × Value)} {m : Str → Option Value}, (∀ v, (x, v) ∉ binds) → bindC kindOf binds m x = m x
  | [], _, _ => rfl
  | (n, v) :: r, m, h => by
    unfold bindC
    rw [bindC_out fun w hw => h w (List.mem_cons_of_mem _ hw)]
    split
    · rfl
    · have : x ≠ n := by rintro rfl; exact h v List.mem_cons_self
      simp [this]
theorem bindL_get {kindOf : Str → Option NameKind} {x : Str} {v : Value} : ∀ {P : List Str} {vs : List Value} {i : Nat} {m : Str → Option Value}, P.Nodup → P[i]? = some x → vs[i]? = some v → kindOf x = some .local →
    bindL kindOf (P.zip vs) m x = some v
  | [], _, _, _, _, h, _, _ => by simp at h
  | _ :: _, [], _, _, _, _, h, _ => by simp at h
  | p :: P, w :: vs, 0, m, nd, h1, h2, hk => by
    simp at h1 h2; subst h1; subst h2
    show bindL kindOf ((p, w) :: P.zip vs) m p = _
    unfold bindL
    rw [bindL_out fun v hv => (List.nodup_cons.mp nd).1 (List.of_mem_zip hv).1, if_pos hk]
    simp
  | p :: P, w :: vs, i + 1, m, nd, h1, h2, hk => by
    show bindL kindOf ((p, w) :: P.zip vs) m x = _
    unfold bindL
    exact bindL_get (i := i) (List.nodup_cons.mp nd).2 (by simpa using h1) (by simpa using h2) hk
theorem bindC_get {kindOf : Str → Option NameKind} {x : Str} {v : Value} : ∀ {P : List Str} {vs : List Value} {i : Nat} {m : Str → Option Value}, P.Nodup → P[i]? = some x → vs[i]? = some v → kindOf x ≠ some .local →
    bindC kindOf (P.zip vs) m x = some v
  | [], _, _, _, _, h, _, _ => by simp at h
  | _ :: _, [], _, _, _, _, h, _ => by simp at h
  | p :: P, w :: vs, 0, m, nd, h1, h2, hk => by
    simp at h1 h2; subst h1; subst h2
    show bindC kindOf ((p, w) :: P.zip vs) m p = _
    unfold bindC
    rw [bindC_out fun v hv => (List.nodup_cons.mp nd).1 (List.of_mem_zip hv).1, if_neg hk]
    simp
  | p :: P, w :: vs, i + 1, m, nd, h1, h2, hk => by
    show bindC kindOf ((p, w) :: P.zip vs) m x = _
    unfold bindC
    exact bindC_get (i := i) (List.nodup_cons.mp nd).2 (by simpa using h1) (by simpa using h2) hk

/-- the names' values at the entry -/
def start (N : List Str) (vs : List V) : St := vs.map some ++ List.replicate (N.length - vs.length) none

/-- the context of a def's body, at its entry; an exception leaves the frame, then lies as CX says -/
def cxOf (CX : CXT) (P : Program) (w : World) (K : PySem.W.Frag) (mg : Str → Option Value) (base : Heap) (N : List Str) (qual : Str) (scope : Scope) (f : Addr) (cd : Value) (A : Around) (outer : List Env) (s : Shared) (H : Hp) (E : XK) : Cx where
  prog := P
  w := w
  K := K
  mg := mg
  base := base
  A := A.deeper (envOfC qual scope s.heap.objs.size f cd)
  N := N
  s₀ := s
  H₀ := H
  env := envOfC qual scope s.heap.objs.size f cd
  outer := outer
  stack := envOfC qual scope s.heap.objs.size f cd :: outer
  ex := []
  calm := true
  fn := fun _ => true
  pn := []
  xe := fun e s' => wpAny (model P w) (A.deeper (envOfC qual scope s.heap.objs.size f cd)) (leaving (envOfC qual scope s.heap.objs.size f cd) e) (fun _ s'' => CX outer H s E e s'') (fun e' s'' => CX outer H s E e' s'') s'

theorem cell_has {sc : Scope} {n : Nat} {x : Str} (h : sc.names.lookup x = some .cell) : ∃ c, (cellsFrom n sc.names []).lookup x = some c := by
  have q := PySem.W.cellsFrom_some sc.names n [] (.inl h)
  exact Option.isSome_iff_exists.mp q

theorem inv_start {CX : CXT} {P : Program} {w : World} {K : PySem.W.Frag} {mg : Str → Option Value} {base : Heap} {N ps : List Str} {qual : Str} {scope : Scope} {f : Addr} {cd : Value} {A : Around} {outer : List Env} {s s1 : Shared} {H : Hp} {E : XK} {us : List Value} {vs : List V}
    (S : FnScope N ps scope) (hd : A.handled = none) (e0 : Env0 P w K mg base A outer s H) (hl : vs.length = ps.length) (r : Vals vs us)
    (x : InCallC s s.heap.objs.size (bindL (envOfC qual scope s.heap.objs.size f cd).kindOf (ps.zip us) fun _ => none) (cellsFrom (s.heap.objs.size + 1) scope.names []) (bindC (envOfC qual scope s.heap.objs.size f cd).kindOf (ps.zip us) fun _ => none) s1) :
    Inv (cxOf CX P w K mg base N qual scope f cd A outer s H E) [] (start N vs) H s1 := by
  have hpl : ps.length ≤ N.length := by have := congrArg List.length S.pre; rw [List.length_take] at this; omega
  obtain ⟨h1, tk, rfl, hk⟩ := x.done
  have noA : ∀ b : Addr, b ∉ (cxOf CX P w K mg base N qual scope f cd A outer s H E).ex := fun b z => absurd (show b ∈ ([] : List Addr) from z) (by simp)
  refine ⟨⟨e0.mod, S.kind, rfl, rfl, Nat.le_refl _, fun y z c h1 h2 => ?_, fun y hy => ?_, fun y c _ h => ?_, fun _ => hd, Around.frames_deeper e0.frames, .inr ⟨rfl, rfl⟩, fun b z => absurd z (noA b), e0.bs, e0.bsz, fun b _ _ => noA b, fun b z => absurd z (noA b), e0.funs, e0.frf⟩,
    rfl, e0.bare, Un.kept hk, ⟨_, x.toInCall.ns, fun i y v h1 h2 h3 => ?_⟩, fun y c h => ⟨_, x.cell y c h⟩, e0.hok.fresh (Nat.le_refl _), fun y c h => ?_, fun p hp => absurd (show p ∈ ([] : List (Addr × Obj)) from hp) (by simp), e0.hok.kept hk, ?_⟩
  · exact name_of_addr x.apart (PySem.mem_of_lookup h1) (PySem.mem_of_lookup h2)
  · have hy : scope.names.lookup y = some .cell ∨ scope.names.lookup y = some .free := hy
    rcases hy with hy | hy
    · exact cell_has hy
    · exact absurd rfl (S.nofree _ (PySem.mem_of_lookup hy))
  · exact Nat.le_of_lt (x.above y c (PySem.mem_of_lookup h))
  · have hi : i < vs.length := by
      unfold start at h2
      by_cases hi : i < vs.length
      · exact hi
      · rw [List.getElem?_append_right (by simpa using hi)] at h2
        rw [List.getElem?_replicate] at h2
        split at h2 <;> cases h2
    have ha : vs[i]? = some v := by
      unfold start at h2
      rw [List.getElem?_append_left (by simpa using hi), List.getElem?_map] at h2
      cases e : vs[i]? with
      | none => rw [e] at h2; cases h2
      | some a => rw [e] at h2; cases h2; rfl
    obtain ⟨u, hu, rv⟩ := r.get ha
    have hp : ps[i]? = some y := by
      rw [← S.pre, List.getElem?_take_of_lt (by omega)]; exact h1
    have ndP : ps.Nodup := by rw [← S.pre]; exact S.nd.sublist (List.take_sublist _ _)
    refine ⟨u, rv, ?_⟩
    rcases S.par y (List.mem_of_getElem? hp) with k | k
    · exact .inl ⟨k, bindL_get ndP hp hu k⟩
    · obtain ⟨c, e⟩ := cell_has (n := s.heap.objs.size + 1) k
      refine .inr ⟨.inl k, c, e, ?_⟩
      have q := x.cell y c e
      rw [bindC_get ndP hp hu (by show scope.names.lookup y ≠ _; rw [k]; decide)] at q
      exact q
  · exact e0.hok.fresh (Nat.le_of_lt (x.above y c (PySem.mem_of_lookup h)))
  · unfold start
    show _ = N.length
    rw [List.length_append, List.length_map, List.length_replicate]
    omega

/-- THE RULE: a def (or a method) of the text, by its body. The body's reading t is chosen for each entry; it is run at the parameters' values -/
theorem fn_of {CX : CXT} {P : Program} {w : World} {K : PySem.W.Frag} {mg : Str → Option Value} {base : Heap} {k : Nat} {f : Addr} {name qual : Str} {params : Arguments} {body : List Stmt} {scope : Scope} {dV kV doc pm cdv ct oc : Value} {an od : Option Addr}
    {osl : Array (Option Value)} {N ps : List Str} {sp : Sp} (lk : K.lookup f = some ⟨oc, od, .func (PySem.W.fnOf name qual params body scope dV kV doc pm an cdv ct), osl⟩) (hcd : PySem.W.codeIn K cdv qual = true) (S : FnScope N ps scope)
    (len : ∀ vs H Q E, sp vs H Q E → vs.length = ps.length)
    (hbody : ∀ (A : Around) (outer : List Env) (s : Shared) (H : Hp) (vs : List V) (Q : VK) (E : XK), Room k (A.deeper (envOfC qual scope s.heap.objs.size f cdv)) → sp vs H Q E →
      ∃ t, PSs (cxOf CX P w K mg base N qual scope f cdv A outer s H E) body t ∧ t { nx := fun _ H' => Q .non H', rt := Q } (start N vs) H) :
    FnOk P w K mg base CX (k + 1) f (PySem.W.fnOf name qual params body scope dV kV doc pm an cdv ct) ps sp := by
  refine ⟨len, fun A outer s H args us vs Q E hr e0 hb r hsp => ?_⟩
  have hl := len _ _ _ _ hsp
  have KX : K.In s.heap := e0.mod.kin.keeps fun b o e => (e0.bs b o e).1
  have lim : s.heap.NoLimit := e0.mod.nolimit.keeps fun b o e => (e0.bs b o e).1
  have hkind : ∀ y ∈ ps.zip us, scope.names.lookup y.1 = some .local ∨ (scope.names.lookup y.1 = some .cell ∧ ((cellsFrom (s.heap.objs.size + 1) scope.names []).lookup y.1).isSome = true) := fun ⟨n, v⟩ hy => by
    rcases S.par n (List.of_mem_zip hy).1 with q | q
    · exact .inl q
    · exact .inr ⟨q, PySem.W.cellsFrom_some _ _ _ (.inl q)⟩
  refine codeAny_call_function hr.depth (KX _ _ lk) rfl S.co S.gen rfl (PySem.W.codeRec_of KX hcd) (hb _ _ _ _ ?_)
  refine wpAny_newFunctionEnv_cells S.kind hkind fun env he s1 x => ?_
  subst he
  refine ⟨lim.keeps x.toInCall.keep, codeAny_func ?_⟩
  obtain ⟨t, ht, hq⟩ := hbody A outer s H vs Q E (hr.deeper _) hsp
  have I : Inv (cxOf CX P w K mg base N qual scope f cdv A outer s H E) [] (start N vs) H s1 := inv_start S hr.hd e0 hl r x
  refine wpAny_mono (ht [] s1 (start N vs) H _ I hq) (fun fl s' hs => ?_) fun e s' hs => hs
  have fin : ∀ {σ' : St} {H' : Hp} {v : V} {u : Value}, Inv (cxOf CX P w K mg base N qual scope f cdv A outer s H E) [] σ' H' s' → RelV v u → Q v H' → CE outer P w H s Q u s' :=
    fun {σ' H' v u} J rv q => ⟨v, H', J.os, J.bare, J.base, J.hok, rv, q⟩
  cases fl with
  | ret u =>
    obtain ⟨v, σ', H', J, rv, q⟩ := hs
    exact fin J rv q
  | next =>
    obtain ⟨σ', H', J, q⟩ := hs
    exact fin (v := V.non) (u := Value.none) J rfl q
  | brk =>
    obtain ⟨_, _, _, q⟩ := hs
    exact False.elim q
  | cont =>
    obtain ⟨_, _, _, q⟩ := hs
    exact False.elim q
end L2

namespace L2
open PySem PySem.Spec PyProof.Rows
section
variable {X : Cx} {x : Str} {p pos : Pos} {e : Expr} {es : List Expr} {t : TA} {id T : String} {r : List V → Hp → VK → Prop}

def tCB (r : List V → Hp → VK → Prop) (t : TA) : TE := fun σ H Q => t σ H fun vs H1 => r vs H1 Q
/-- f(e, ..), f a built-in function -/
theorem pe_callB (hc : CallR X (.builtin id) r) (hg : Gl X x) (hm : X.mg x = none) (hv : bootBuiltins x = some (.builtin id)) (ha : PA X (e :: es) t) (hn : x ≠ "__name__" := by decide) (hdb : (x == ("__debug__" : Str)) = false := by decide)
    (he : starEach (e :: es) X.env = (false, eval e X.env) :: starEach es X.env := by rfl) (hpl : (backTo pos (starEach es X.env)).any (·.1) = false := by rfl) : PE X (.Call (.Name x p) (e :: es) [] pos) (tCB r t) := by
  intro pins s σ H Q I h
  refine wpAny_Call_Name_kw (ld_blt I hg hm hv ?_ hn hdb)
  exact PyProof.Rows.callWith_builtin1 (thn (ha pos pins s σ H _ I h) fun us s1 ⟨vs, H1, I1, r1, q1⟩ => hc pins s1 σ H1 vs us Q I1 r1 q1) he hpl
/-- T(e, ..), T a built-in type -/
theorem pe_callTy (hc : CallR X (.type T) r) (hg : Gl X x) (hm : X.mg x = none) (hv : bootBuiltins x = some (.type T)) (ha : PA X (e :: es) t) (hn : x ≠ "__name__" := by decide) (hdb : (x == ("__debug__" : Str)) = false := by decide)
    (he : starEach (e :: es) X.env = (false, eval e X.env) :: starEach es X.env := by rfl) (hpl : (backTo pos (starEach es X.env)).any (·.1) = false := by rfl) : PE X (.Call (.Name x p) (e :: es) [] pos) (tCB r t) := by
  intro pins s σ H Q I h
  refine wpAny_Call_Name_kw (ld_blt I hg hm hv ?_ hn hdb)
  exact PyProof.Rows.callWith_type1 (thn (ha pos pins s σ H _ I h) fun us s1 ⟨vs, H1, I1, r1, q1⟩ => hc pins s1 σ H1 vs us Q I1 r1 q1) he hpl
end
end L2

namespace HT
open PySem PyProof.Rows

section
open PySem.SeqAt
open PySem.AutoSeq1 (wpAny_loadPart')
open PySem.MeetsSeq PySem.MeetsSeq2 PySem.MeetsSeq3

end

section
variable {prog : Program} {w : World} {A : Around} {E : Value → Shared → Prop} {s : Shared}

/-- t + u, t not empty -/
theorem cat_tup {t b : Addr} {vs ws : List Value} {Q : Value → Shared → Prop} (ht : IsTup s.heap t vs.toArray) (hb : IsTup s.heap b ws.toArray) (hv : vs ≠ [])
    (h1 : ws = [] → Q (.ref t) s) (h2 : ws ≠ [] → Q (.ref s.heap.objs.size) { s with heap := s.heap.push { cls := .type "tuple", data := .seq (vs ++ ws).toArray } })
    (hsz : vs.length + ws.length ≤ sizeLine) : wpAny (model prog w) A (binaryOp .Add (.ref t) (.ref b)) Q E s := by
  obtain ⟨⟨cls, dd, data, sl⟩, ho, hc, n, hd⟩ := id ht
  obtain ⟨⟨cls2, dd2, data2, sl2⟩, ho2, hc2, n2, hd2⟩ := id hb
  simp only at hc hd hc2 hd2
  subst hc hd hc2 hd2
  have e : vs.toArray ++ ws.toArray = (vs ++ ws).toArray := by simp
  by_cases hw : ws = []
  · exact concat_meets ⟨_, ho, rfl⟩ ⟨_, ho2, rfl⟩ noFill_tuple_add seq_tuple_add PySem.F.slot_tuple_add PySem.F.entry_tuple_add (PySem.F.args_tuple_add_2 _ _)
      (tuple_addW1 t b vs.toArray ws.toArray n n2 dd dd2 sl sl2 (by simpa using hv) (by simp [hw])) ⟨ho, ho2, h1 hw⟩
  · refine concat_meets ⟨_, ho, rfl⟩ ⟨_, ho2, rfl⟩ noFill_tuple_add seq_tuple_add PySem.F.slot_tuple_add PySem.F.entry_tuple_add (PySem.F.args_tuple_add_2 _ _)
      (tuple_addW2 t b vs.toArray ws.toArray n n2 dd dd2 sl sl2 (by simpa using hv) (by simpa using hw) (by rw [List.size_toArray, List.size_toArray]; exact hsz)) ⟨ho, ho2, ?_⟩
    rw [e]
    exact h2 hw

/-! ### t[a:b], not the whole -/
/-- a slice's bound as a place among n (d where it is left out) -/
def sIx (n d : Nat) : Option Int → Nat
  | none => d
  | some v => if v < 0 then (v + (n : Int)).toNat else min v.toNat n
theorem sIx_none (n d : Nat) : sIx n d none = d := rfl
theorem sIx_nat (n d k : Nat) : sIx n d (some (k : Int)) = min k n := by
  show (if (k : Int) < 0 then ((k : Int) + (n : Int)).toNat else min (k : Int).toNat n) = min k n
  rw [if_neg (by omega), Int.toNat_natCast]
theorem sIx_le (n d : Nat) (hd : d ≤ n) (o : Option Int) : sIx n d o ≤ n := by
  cases o with
  | none => exact hd
  | some v =>
    show (if v < 0 then (v + (n : Int)).toNat else min v.toNat n) ≤ n
    by_cases hv : v < 0
    · rw [if_pos hv]; omega
    · rw [if_neg hv]; exact Nat.min_le_right _ _
theorem clip_eq (v : Int) (n d : Nat) : (if v < 0 then max (v + (n : Int)) 0 else min v (n : Int)) = ((sIx n d (some v) : Nat) : Int) := by
  show (if v < 0 then max (v + (n : Int)) 0 else min v (n : Int)) = (((if v < 0 then (v + (n : Int)).toNat else min v.toNat n) : Nat) : Int)
  by_cases hv : v < 0
  · simp only [if_pos hv]; omega
  · simp only [if_neg hv]; omega
theorem adjust_gen (lo hi : Option Int) (n : Nat) : Builtin.Slice.sliceAdjust lo hi 1 (n : Int) = (((sIx n 0 lo : Nat) : Int), ((sIx n n hi : Nat) : Int)) := by
  have h1 : ¬ ((1 : Int) < 0) := by omega
  unfold Builtin.Slice.sliceAdjust
  simp only [h1, if_false]
  refine Prod.ext ?_ ?_
  · cases lo with
    | none => rfl
    | some v => exact clip_eq v n 0
  · cases hi with
    | none => rfl
    | some v => exact clip_eq v n n
theorem places_gen (i j : Nat) : Builtin.Slice.slicePlaces (i : Int) (j : Int) 1 = j - i := by
  unfold Builtin.Slice.slicePlaces
  have h1 : (1 : Int) > 0 := by omega
  simp only [h1, if_true, Int.ediv_one]
  split <;> omega
theorem slicePart_ {v : Value} {o : Option Int} {Q : Option Int → Shared → Prop} (p : IsPart v o) (h : Q o s) : wpAny (model prog w) A (Builtin.Slice.slicePartIndex v) Q E s := by
  cases p with
  | none => exact slicePart_none h
  | int i t => exact slicePart_int h
theorem sliceApplied_gen {sl : Addr} {vl vu : Value} {lo hi : Option Int} {n : Nat} {Q : Int × Int × Nat → Shared → Prop} (hs : s.heap.IsSliceOf sl vl vu .none) (pl : IsPart vl lo) (pu : IsPart vu hi)
    (h : Q (((sIx n 0 lo : Nat) : Int), 1, sIx n n hi - sIx n 0 lo) s) : wpAny (model prog w) A (Builtin.Slice.sliceApplied (.ref sl) (pure (n : Int))) Q E s := by
  obtain ⟨os, hos, hcs, hds⟩ := id hs
  unfold Builtin.Slice.sliceApplied Builtin.Slice.sliceFields
  refine wpAny_bind (wpAny_bind (wpAny_field hos hds (x := vl) rfl (wpAny_bind (wpAny_field hos hds (x := vu) rfl (wpAny_bind (wpAny_field hos hds (x := .none) rfl (wpAny_pure ?_)))))))
  refine wpAny_bind (slicePart_none ?_)
  show wpAny _ _ (if ((1 : Int) == 0) = true then _ else _) _ _ s
  rw [if_neg (by decide)]
  refine wpAny_bind (slicePart_ pl (wpAny_bind (slicePart_ pu (wpAny_bind (wpAny_pure ?_)))))
  show wpAny _ _ (match Builtin.Slice.sliceAdjust lo hi 1 (n : Int) with | (lo, hi) => pure (lo, (1 : Int), Builtin.Slice.slicePlaces lo hi 1)) _ _ s
  rw [adjust_gen lo hi n]
  show wpAny _ _ (pure (((sIx n 0 lo : Nat) : Int), (1 : Int), Builtin.Slice.slicePlaces ((sIx n 0 lo : Nat) : Int) ((sIx n n hi : Nat) : Int) 1)) _ _ s
  rw [places_gen]
  exact wpAny_pure h
theorem pick_gen (xs : Array Value) (i k : Nat) : ((List.range k).filterMap fun (m : Nat) => xs[((i : Int) + (m : Int) * 1).toNat]?).toArray = ((xs.toList.drop i).take k).toArray := by
  have e : (fun (m : Nat) => xs[((i : Int) + (m : Int) * 1).toNat]?) = fun m => xs[i + m]? := by
    funext m
    have : ((i : Int) + (m : Int) * 1).toNat = i + m := by omega
    rw [this]
  rw [e]
  have := pick_run xs i k
  rw [List.filterMap_map] at this
  have e2 : ((fun x => xs[x]?) ∘ fun x => i + x) = fun m => xs[i + m]? := rfl
  rw [e2] at this
  rw [this]

theorem getItem_tuple_cut {t sl : Addr} {items : Array Value} {vl vu : Value} {lo hi : Option Int} {Q : Value → Shared → Prop} (ht : IsTup s.heap t items) (hs : s.heap.IsSliceOf sl vl vu .none) (pl : IsPart vl lo) (pu : IsPart vu hi)
    (hw : ¬ (sIx items.size 0 lo = 0 ∧ sIx items.size items.size hi = items.size))
    (h : Q (.ref s.heap.objs.size) { s with heap := s.heap.push { cls := .type "tuple", data := .seq ((items.toList.drop (sIx items.size 0 lo)).take (sIx items.size items.size hi - sIx items.size 0 lo)).toArray } })
    (hsz : items.size ≤ sizeLine) : wpAny (model prog w) A (getItem (.ref t) (.ref sl)) Q E s := by
  have htake : sizeOk (.seq ((items.toList.drop (sIx items.size 0 lo)).take (sIx items.size items.size hi - sIx items.size 0 lo)).toArray) := by
    show ((items.toList.drop (sIx items.size 0 lo)).take (sIx items.size items.size hi - sIx items.size 0 lo)).toArray.size ≤ sizeLine
    rw [List.size_toArray, List.length_take, List.length_drop, Array.length_toList]
    omega
  have hj : sIx items.size items.size hi ≤ items.size := sIx_le _ _ (Nat.le_refl _) hi
  obtain ⟨os, hos, hcs, hds⟩ := id hs
  have hTs : s.TypeIs (.ref sl) "slice" := ⟨os, hos, hcs⟩
  unfold getItem
  try with_reducible refine wpAny_holding ?_
  first | refine wpAny_bind (wpAny_pure ?_) | skip
  refine wpAny_bind (wpAny_sequenceKey ht.typeIs (by decide) ?_)
  refine wpAny_bind (wpAny_callSpecial?_slot (name := Str.ofString "__getitem__") ht.typeIs PyProof.Rows.slot_tuple_getitem
    (wpAny_call_entry PyProof.Rows.slot_tuple_getitem ht.typeIs entry_tuple_getitem ?_ (args_tuple_getitem _ _)))
  show wpAny _ _ (Builtin.Tuple.tupleItemsOf (.ref t) >>= _) _ _ s
  refine wpAny_bind (tupleItemsOf_ ht ?_)
  refine wpAny_bind (wpAny_typeOf hTs ?_)
  rw [if_pos (by decide)]
  refine wpAny_bind (sliceApplied_gen hs pl pu ?_)
  have hno : ¬ ((((sIx items.size 0 lo : Nat) : Int) == 0 && (1 : Int) == 1 && (sIx items.size items.size hi - sIx items.size 0 lo) == items.size) = true) := by
    intro q
    rw [Bool.and_eq_true, Bool.and_eq_true] at q
    have q1 : ((sIx items.size 0 lo : Nat) : Int) = 0 := eq_of_beq q.1.1
    have q2 : sIx items.size items.size hi - sIx items.size 0 lo = items.size := eq_of_beq q.2
    exact hw ⟨by omega, by omega⟩
  show wpAny _ _ (if (((sIx items.size 0 lo : Nat) : Int) == 0 && (1 : Int) == 1 && (sIx items.size items.size hi - sIx items.size 0 lo) == items.size) = true then _ else _) _ _ s
  rw [if_neg hno, pick_gen]
  first
    | exact wpAny_bind (m := Builtin.Tuple.tupleExact _) (wpAny_newObj_type (wpAny_pure ⟨_, rfl, wpAny_pure h⟩) htake)
    | exact wpAny_bind (m := Builtin.Tuple.tupleExact _) (wpAny_newObj_type (wpAny_bind (wpAny_pure (wpAny_pure ⟨_, rfl, wpAny_pure h⟩))) htake)
    | exact wpAny_bind (wpAny_bind (m := Builtin.Tuple.tupleExact _) (wpAny_newObj_type (wpAny_pure (wpAny_pure ⟨_, rfl, wpAny_pure h⟩)) htake))
    | exact wpAny_bind (wpAny_bind (m := Builtin.Tuple.tupleExact _) (wpAny_newObj_type (wpAny_pure ⟨_, rfl, wpAny_pure h⟩) htake))
end
end HT

namespace L2
open PySem PySem.Spec PyProof.Rows

/-! ### the parts of a slice -/
abbrev TO := St → Hp → (Option Int → Hp → Prop) → Prop
/-- a slice's part (left out, or an int) -/
def PO (X : Cx) (e : Option Expr) (t : TO) : Prop :=
  ∀ (pins : List (Addr × Obj)) (s : Shared) (σ : St) (H : Hp) (Q : Option Int → Hp → Prop), Inv X pins σ H s → t σ H Q →
    wpAny (model X.prog X.w) X.A (evalPart e X.env) (fun u s' => ∃ o H', Inv X pins σ H' s' ∧ IsPart u o ∧ Q o H') X.xe s
def tNoPart : TO := fun _ H Q => Q none H
def tPart (t : TE) : TO := fun σ H Q => t σ H fun x H1 => ∃ i, x = .int i ∧ Q (some i) H1

theorem intsAre_of {ns : List Int} : ∀ {us : List Value}, Vals (ns.map V.int) us → IntsAre us ns := by
  induction ns with
  | nil => intro us r; rw [List.map_nil] at r; cases r; exact .nil
  | cons n ns ih =>
    intro us r
    rw [List.map_cons] at r
    cases r with
    | cons r1 r2 =>
      obtain ⟨t, e⟩ := r1
      subst e
      exact .cons n t (ih r2)

section
variable {X : Cx} {e : Expr} {te : TE} {lo hi : Option Expr} {tl th : TO} {pos p2 : Pos}

theorem po_none : PO X none tNoPart := by
  intro pins s σ H Q I h
  rw [evalPart_none]
  exact wpAny_pure ⟨none, H, I, .none, h⟩
theorem po_some (h : PE X e te) : PO X (some e) (tPart te) := by
  intro pins s σ H Q I hw
  rw [evalPart_some]
  refine thn (h pins s σ H _ I hw) fun u s1 ⟨x, H1, I1, r1, q1⟩ => ?_
  obtain ⟨i, rfl, q⟩ := q1
  obtain ⟨t, rfl⟩ := r1
  exact ⟨some i, H1, I1, .int i t, q⟩

/-- what a slice of a value is, by values: the slice object stands at sl -/
def SlR (X : Cx) (r : V → Option Int → Option Int → Hp → VK → Prop) : Prop :=
  ∀ (pins : List (Addr × Obj)) (s : Shared) (σ : St) (H : Hp) (x : V) (v vl vu : Value) (lo hi : Option Int) (sl : Addr) (Q : VK), Inv X pins σ H s → RelV x v → s.heap.IsSliceOf sl vl vu .none → IsPart vl lo → IsPart vu hi → r x lo hi H Q →
    ∃ T id, typeLookup (.type T) "__getitem__" = pure (some (.builtin id)) ∧ s.TypeIs v T ∧ wpAny (model X.prog X.w) X.A (getItem v (.ref sl)) (EP X pins σ Q) X.xe s
theorem SlR.or {r r' : V → Option Int → Option Int → Hp → VK → Prop} (h : SlR X r) (h' : SlR X r') : SlR X (fun x lo hi H Q => r x lo hi H Q ∨ r' x lo hi H Q) := by
  intro pins s σ H x v vl vu lo hi sl Q I rx hs pl pu q
  rcases q with q | q
  · exact h pins s σ H x v vl vu lo hi sl Q I rx hs pl pu q
  · exact h' pins s σ H x v vl vu lo hi sl Q I rx hs pl pu q
def tSl (r : V → Option Int → Option Int → Hp → VK → Prop) (te : TE) (tl th : TO) : TE := fun σ H Q => te σ H fun x H1 => tl σ H1 fun l H2 => th σ H2 fun u H3 => r x l u H3 Q
/-- a[lo:hi], any a -/
theorem pe_slice {r : V → Option Int → Option Int → Hp → VK → Prop} (hr : SlR X r) (he : PE X e te) (hl : PO X lo tl) (hu : PO X hi th) : PE X (.Subscript e (.Slice lo hi none p2) pos) (tSl r te tl th) := by
  intro pins s σ H Q I h
  refine Subscript_ (thn (he pins s σ H _ I h) fun v s1 ⟨x, H1, I1, r1, q1⟩ => ?_)
  refine wpAny_Slice (thn (hl pins s1 σ H1 _ I1 q1) fun vl s2 ⟨l, H2, I2, pl, q2⟩ => thn (hu pins s2 σ H2 _ I2 q2) fun vu s3 ⟨u, H3, I3, pu, q3⟩ => ?_)
  rw [evalPart_none]
  refine wpAny_pure ?_
  have I4 : Inv X pins σ H3 { s3 with heap := s3.heap.push { cls := .type "slice", data := .fields #[vl, vu, .none] } } := I3.kept (t' := s3.toks) fun b ob q => Heap.get?_push_of_some _ q
  obtain ⟨T, id, hT, ht, hg⟩ := hr pins { s3 with heap := s3.heap.push { cls := .type "slice", data := .fields #[vl, vu, .none] } } σ H3 x v vl vu l u s3.heap.objs.size Q I4 r1 (Heap.IsSliceOf.new ..) pl pu q3
  show wpAny (model X.prog X.w) X.A (subscriptTail e (.Slice lo hi none p2) v (.ref s3.heap.objs.size)) (EP X pins σ Q) X.xe { s3 with heap := s3.heap.push { cls := .type "slice", data := .fields #[vl, vu, .none] } }
  exact tail_any (ops := [.ref s3.heap.objs.size, v]) ht hT hg (by with_unfolding_all rfl)

/-- the items of xs[lo:hi] -/
def cutV (xs : List V) (lo hi : Option Int) : List V := (xs.drop (HT.sIx xs.length 0 lo)).take (HT.sIx xs.length xs.length hi - HT.sIx xs.length 0 lo)
theorem cutV_length (xs : List V) (lo hi : Option Int) : (cutV xs lo hi).length ≤ xs.length := by
  unfold cutV
  rw [List.length_take, List.length_drop]
  omega
/-- t[lo:hi], not the whole of it (the whole would be t itself) -/
def rSlT (K : PySem.W.Frag) : V → Option Int → Option Int → Hp → VK → Prop := fun x lo hi H Q => ∃ a xs, x = .ref a ∧ SqT K H a xs ∧
  ¬ (HT.sIx xs.length 0 lo = 0 ∧ HT.sIx xs.length xs.length hi = xs.length) ∧ ∀ p, H p = none → Q (.ref p) (upd H p (.tup (cutV xs lo hi)))
theorem sl_tup : SlR X (rSlT X.K) := by
  intro pins s σ H x v vl vu lo hi sl Q I rx hs pl pu h
  obtain ⟨a, xs, rfl, hx, hw, q⟩ := h
  cases rx
  obtain ⟨its, r, ht, hz⟩ := I.tuple hx
  have hlen : its.toArray.size = xs.length := by rw [List.size_toArray]; exact r.length.symm
  refine ⟨"tuple", _, PyProof.Rows.slot_tuple_getitem.lookup, ht.typeIs, ?_⟩
  refine HT.getItem_tuple_cut ht hs pl pu (by rw [hlen]; exact hw) ?_ (by rw [hlen]; exact hz)
  rw [hlen]
  refine ⟨.ref s.heap.objs.size, _, I.laid (t' := s.toks) (o := .tup (cutV xs lo hi)) (fun b ob q => Heap.get?_push_of_some _ q) (Nat.le_refl _) ?_, rfl, q _ (I.hok.fresh (Nat.le_refl _))⟩
  exact ⟨Nat.le_trans (cutV_length xs lo hi) hz, _, (r.drop (HT.sIx xs.length 0 lo)).take (HT.sIx xs.length xs.length hi - HT.sIx xs.length 0 lo), IsTup.new _ _⟩

/-! ### t < u, t + u -/
/-- t + u, t not empty: u empty gives t itself -/
def rCatT (K : PySem.W.Frag) : R2 := fun x y H Q => ∃ a b xs ys, x = .ref a ∧ y = .ref b ∧ SqT K H a xs ∧ SqT K H b ys ∧ xs ≠ [] ∧ xs.length + ys.length ≤ sizeLine ∧
  (ys = [] → Q (.ref a) H) ∧ (ys ≠ [] → ∀ p, H p = none → Q (.ref p) (upd H p (.tup (xs ++ ys))))
theorem Vals.nil_iff {xs : List V} {us : List Value} (r : Vals xs us) : us = [] ↔ xs = [] := by
  cases r with
  | nil => simp
  | cons _ _ => simp
theorem op_catT : OpR X (binaryOp .Add) (rCatT X.K) := by
  intro pins s σ H x y v u Q I rx ry h
  obtain ⟨a, b, xs, ys, rfl, rfl, ha, hb, hx, hz, q1, q2⟩ := h
  cases rx
  cases ry
  obtain ⟨its, r1, p1, _⟩ := I.tuple ha
  obtain ⟨its2, r2, p2, _⟩ := I.tuple hb
  refine HT.cat_tup p1 p2 (fun z => hx (r1.nil_iff.mp z)) (fun z => ⟨.ref a, H, I, rfl, q1 (r2.nil_iff.mp z)⟩) (fun z => ?_) (by rw [← r1.length, ← r2.length]; exact hz)
  refine ⟨.ref s.heap.objs.size, _, I.laid (t' := s.toks) (o := .tup (xs ++ ys)) (fun b ob q => Heap.get?_push_of_some _ q) (Nat.le_refl _) ?_, rfl, q2 (fun w => z (r2.nil_iff.mpr w)) _ (I.hok.fresh (Nat.le_refl _))⟩
  exact ⟨by rw [List.length_append]; exact hz, _, r1.append r2, IsTup.new _ _⟩
end
end L2

namespace L2
open PySem PySem.Spec PyProof.Rows

/-! ### places -/
/-- the place that an index of any sign means -/
def ixN (n : Nat) (i : Int) : Option Nat := if 0 ≤ i then (if i < n then some i.toNat else none) else if -(n : Int) ≤ i then some (i + n).toNat else none
def atI {α : Type} (xs : List α) (i : Int) : Option α := (ixN xs.length i).bind fun j => xs[j]?
theorem ixN_seq {n : Nat} {i : Int} {j : Nat} (h : ixN n i = some j) : seqIndex? i n = some j ∧ j < n ∧ -(n : Int) ≤ i ∧ i < n := by
  unfold ixN at h
  by_cases h0 : 0 ≤ i
  · rw [if_pos h0] at h
    by_cases h1 : i < n
    · rw [if_pos h1] at h
      have e : i.toNat = j := Option.some.inj h
      exact ⟨by rw [seqIndex_of h0 h1, e], by omega, by omega, h1⟩
    · rw [if_neg h1] at h; cases h
  · rw [if_neg h0] at h
    by_cases h1 : -(n : Int) ≤ i
    · rw [if_pos h1] at h
      have e : (i + n).toNat = j := Option.some.inj h
      exact ⟨by rw [seqIndex_neg (by omega) h1, e], by omega, h1, by omega⟩
    · rw [if_neg h1] at h; cases h
theorem atI_get {α : Type} {xs : List α} {i : Int} {v : α} (h : atI xs i = some v) : ∃ j, seqIndex? i xs.length = some j ∧ xs[j]? = some v ∧ j < xs.length ∧ -(xs.length : Int) ≤ i ∧ i < xs.length := by
  unfold atI at h
  cases e : ixN xs.length i with
  | none => rw [e] at h; cases h
  | some j =>
    rw [e] at h
    obtain ⟨h1, h2, h3, h4⟩ := ixN_seq e
    exact ⟨j, h1, h, h2, h3, h4⟩
theorem atI_nat {α : Type} {xs : List α} {j : Nat} {v : α} (h : xs[j]? = some v) : atI xs (j : Int) = some v := by
  have hj : j < xs.length := (List.getElem?_eq_some_iff.mp h).1
  have e : ixN xs.length (j : Int) = some j := by
    unfold ixN
    rw [if_pos (by omega), if_pos (by omega)]; simp
  unfold atI; rw [e]; exact h
/-! ### what may be subscripted -/
/-- what stands as an index of a plain subscript -/
def PlainIx (b : Expr) : Prop := ∀ o i, subscripted b false o i = operate [o, i] (getItem o i)
/-- a subscript by values -/
def IxR (X : Cx) (r : R2) : Prop :=
  ∀ (value slice : Expr) (pins : List (Addr × Obj)) (s : Shared) (σ : St) (H : Hp) (x y : V) (v u : Value) (Q : VK), Inv X pins σ H s → RelV x v → RelV y u → r x y H Q →
    subscripted slice false v u = operate [v, u] (getItem v u) → wpAny (model X.prog X.w) X.A (subscriptTail value slice v u) (EP X pins σ Q) X.xe s
/-- a call of a builtin's method by values: the receiver, the arguments -/
def MtR (X : Cx) (id : String) (r : V → List V → Hp → VK → Prop) : Prop :=
  ∀ (pins : List (Addr × Obj)) (s : Shared) (σ : St) (H : Hp) (x : V) (xs : List V) (v : Value) (us : List Value) (Q : VK), Inv X pins σ H s → RelV x v → Vals xs us → r x xs H Q →
    wpAny (model X.prog X.w) X.A (call (.builtin id) (v :: us)) (EP X pins σ Q) X.xe s
section
variable {X : Cx} {a b : Expr} {ta tb : TE} {pos : Pos}
theorem IxR.or {r r' : R2} (h : IxR X r) (h' : IxR X r') : IxR X (fun x y H Q => r x y H Q ∨ r' x y H Q) := by
  intro value slice pins s σ H x y v u Q I rx ry q hs
  rcases q with q | q
  · exact h value slice pins s σ H x y v u Q I rx ry q hs
  · exact h' value slice pins s σ H x y v u Q I rx ry q hs
/-- a[b] -/
theorem pe_ix {r : R2} (hr : IxR X r) (ha : PE X a ta) (hb : PE X b tb) (hs : PlainIx b) : PE X (.Subscript a b pos) (tOp r ta tb) := by
  intro pins s σ H Q I h
  exact Subscript_ (binT ha hb I h fun v u s2 x y H2 I2 rx ry q => hr a b pins s2 σ H2 x y v u Q I2 rx ry q (hs _ _))

def rIxL (K : PySem.W.Frag) : R2 := fun x y H Q => ∃ p xs i v, x = .ref p ∧ y = .int i ∧ SqL K H p xs ∧ atI xs i = some v ∧ Q v H
def rIxT (K : PySem.W.Frag) : R2 := fun x y H Q => ∃ p xs i v, x = .ref p ∧ y = .int i ∧ SqT K H p xs ∧ atI xs i = some v ∧ Q v H
def rIxS : R2 := fun x y H Q => ∃ z i c, x = .str z ∧ y = .int i ∧ z.length ≤ sizeLine ∧ atI z.cps.toList i = some c ∧ Q (.str ⟨#[c]⟩) H
theorem ix_list : IxR X (rIxL X.K) := by
  intro value slice pins s σ H x y v u Q I rx ry h hs
  obtain ⟨p, xs, i, z, rfl, rfl, hq, he, q⟩ := h
  cases rx
  obtain ⟨t, rfl⟩ := ry
  obtain ⟨its, r, pl, hz⟩ := I.list hq
  obtain ⟨j, h1, h2, h3, h4, h5⟩ := atI_get he
  obtain ⟨w, ew, rw'⟩ := r.get h2
  have hl := r.length
  have hn := line63
  have fin : EP X pins σ Q w s := ⟨z, H, I, rw', q⟩
  by_cases h0 : 0 ≤ i
  · have hj : i.toNat = j := by
      rw [seqIndex_of h0 h5] at h1
      exact Option.some.inj h1
    exact item_listR pl.isList h0 (by omega) (by rw [hj]; simpa using ew) fin hs
  · have hj : (i + (its.toArray.size : Int)).toNat = j := by
      rw [seqIndex_neg (by omega) h4] at h1
      rw [List.size_toArray, ← hl]
      exact Option.some.inj h1
    exact subscriptTail_builtinR (x := w) pl.isList.typeIs slot_list_getitem.lookup
      (wpAny_getItem_list_neg (Q := fun r s' => r = w ∧ EP X pins σ Q r s') pl.isList (by omega) (by rw [List.size_toArray] <;> omega) (by omega) (by rw [hj]; simpa using ew) ⟨rfl, fin⟩) hs
theorem ix_tup : IxR X (rIxT X.K) := by
  intro value slice pins s σ H x y v u Q I rx ry h hs
  obtain ⟨p, xs, i, z, rfl, rfl, hq, he, q⟩ := h
  cases rx
  obtain ⟨t, rfl⟩ := ry
  obtain ⟨its, r, pl, hz⟩ := I.tuple hq
  obtain ⟨j, h1, h2, h3, h4, h5⟩ := atI_get he
  obtain ⟨w, ew, rw'⟩ := r.get h2
  have hl := r.length
  have hn := line63
  have fin : EP X pins σ Q w s := ⟨z, H, I, rw', q⟩
  exact subscriptTail_builtinR (x := w) pl.typeIs slot_tuple_getitem.lookup
    (getItem_tuple (j := j) (Q := fun r s' => r = w ∧ EP X pins σ Q r s') pl (by omega) (by omega) (by rw [List.size_toArray, ← hl]; exact h1) (by simpa using ew) ⟨rfl, fin⟩) hs
theorem ix_str : IxR X rIxS := by
  intro value slice pins s σ H x y v u Q I rx ry h hs
  obtain ⟨z, i, c, rfl, rfl, hz, he, q⟩ := h
  obtain ⟨t, rfl⟩ := rx
  obtain ⟨t', rfl⟩ := ry
  obtain ⟨j, h1, h2, h3, h4, h5⟩ := atI_get he
  have hl : z.cps.toList.length = z.length := by simp [Str.length]
  rw [hl] at h1 h4 h5
  have hn := line63
  exact tail_any (typeIs_str s z t) slot_str_getitem.lookup (getItem_str (c := c) (by
    have e1 : decide (i < -(2 ^ 63 : Int)) = false := decide_eq_false (by omega)
    have e2 : decide (i ≥ 2 ^ 63) = false := decide_eq_false (by omega)
    rw [e1, e2, Bool.or_false]) (by rw [h1]; simpa using h2) ⟨.str ⟨#[c]⟩, H, I.tok _, ⟨_, rfl⟩, q⟩) hs
/-- list, tuple or str -/
def rIx (K : PySem.W.Frag) : R2 := fun x y H Q => rIxL K x y H Q ∨ rIxT K x y H Q ∨ rIxS x y H Q
theorem ix_seq : IxR X (rIx X.K) := ix_list.or (ix_tup.or ix_str)

/-! ### xs[i] = v, any sign -/
/-- the list's object behind a store -/
theorem mapSeq_set (its : List Value) (n j : Nat) (u : Value) : Obj.mapSeq (·.setIfInBounds j u) { cls := .type "list", data := .seq its.toArray n } = { cls := .type "list", data := .seq (its.set j u).toArray n } := by
  simp [Obj.mapSeq]
theorem Inv.lst {pins : List (Addr × Obj)} {σ : St} {H : Hp} {s : Shared} {p : Addr} {xs : List V} (I : Inv X pins σ H s) (h : H p = some (.lst xs)) :
    ∃ (its : List Value) (n : Nat), Vals xs its ∧ s.heap.get? p = some { cls := .type "list", data := .seq its.toArray n } ∧ xs.length ≤ sizeLine := by
  obtain ⟨z, its, n, r, e⟩ := I.hok p _ h
  exact ⟨its, n, r, e, z⟩
/-- the list at p is written by an update of its object -/
theorem Inv.lstUpd {pins : List (Addr × Obj)} {σ : St} {H : Hp} {s : Shared} {p : Addr} {xs ys : List V} {its its' : List Value} {n n' : Nat} {f : Obj → Obj} (I : Inv X pins σ H s) (h : H p = some (.lst xs))
    (ho : s.heap.get? p = some { cls := .type "list", data := .seq its.toArray n }) (hf : f { cls := .type "list", data := .seq its.toArray n } = { cls := .type "list", data := .seq its'.toArray n' }) (r : Vals ys its') (hz : ys.length ≤ sizeLine) (t : Nat) :
    Inv X pins σ (upd H p (.lst ys)) { s with heap := s.heap.update p f, toks := t } := by
  have e : (s.heap.update p f).get? p = some { cls := .type "list", data := .seq its'.toArray n' } := by
    rw [Heap.get?_update_self f ho (by rw [hf] <;> rfl), hf]
  refine I.write (x := p) (e := p) (by rw [h]; trivial) (.inl rfl) (fun b u hb q => (Heap.get?_update_other _ _ (Ne.symm hb)).trans q) ⟨_, e⟩ ?_
  exact ⟨hz, its', n', r, e⟩
def rSetL : V → V → V → Hp → (Hp → Prop) → Prop := fun o i v H Q => ∃ p xs k j, o = .ref p ∧ i = .int k ∧ H p = some (.lst xs) ∧ ixN xs.length k = some j ∧ Q (upd H p (.lst (xs.set j v)))
theorem set_list : PSet X rSetL := by
  intro pins s σ H o i v ov iv u Q I ro ri rv h
  obtain ⟨p, xs, k, j, rfl, rfl, hp, hj, q⟩ := h
  cases ro
  obtain ⟨t, rfl⟩ := ri
  obtain ⟨its, n, r, ho, hz⟩ := I.lst hp
  obtain ⟨h1, h2, h3, h4⟩ := ixN_seq hj
  have hl := r.length
  have hn := line63
  have I' : Inv X pins σ (upd H p (.lst (xs.set j v))) { s with heap := s.heap.update p (Obj.mapSeq (·.setIfInBounds j u)) } :=
    I.lstUpd hp ho (mapSeq_set its n j u) (r.set rv j) (by rw [List.length_set]; exact hz) s.toks
  by_cases h0 : 0 ≤ k
  · have hk : k.toNat = j := by
      rw [seqIndex_of h0 h4] at h1
      exact Option.some.inj h1
    exact PySem.W.ki_setAt ho h0 (by omega) (by rw [List.size_toArray, ← hl]; exact h4) (by rw [hk]; exact ⟨_, I', q⟩)
  · have hk : (k + (its.toArray.size : Int)).toNat = j := by
      rw [seqIndex_neg (by omega) h3] at h1
      rw [List.size_toArray, ← hl]
      exact Option.some.inj h1
    exact PySem.W.ki_setBack ho (by omega) (by rw [List.size_toArray, ← hl]; exact h3) (by omega) (by rw [hk]; exact ⟨_, I', q⟩)

/-! ### slices -/
theorem slice_bounds (lo hi : Option Int) (n : Nat) : (sliceBounds lo hi none n).1 = ((HT.sIx n 0 lo : Nat) : Int) ∧ (sliceBounds lo hi none n).2.1 = ((HT.sIx n n hi : Nat) : Int) ∧ (sliceBounds lo hi none n).2.2 = 1 := by
  refine ⟨?_, ?_, rfl⟩
  · cases lo with
    | none => simp [sliceBounds, HT.sIx]
    | some i =>
      simp only [sliceBounds, HT.sIx, Option.getD_none, show (1 : Int) > 0 by decide, if_true]
      by_cases h : i < 0
      · simp only [h, if_true] <;> omega
      · simp only [h, if_false] <;> omega
  · cases hi with
    | none => simp [sliceBounds, HT.sIx]
    | some i =>
      simp only [sliceBounds, HT.sIx, Option.getD_none, show (1 : Int) > 0 by decide, if_true]
      by_cases h : i < 0
      · simp only [h, if_true] <;> omega
      · simp only [h, if_false] <;> omega
theorem slicePick_cut (its : List Value) (lo hi : Option Int) : slicePick its.toArray lo hi none = ((its.drop (HT.sIx its.length 0 lo)).take (HT.sIx its.length its.length hi - HT.sIx its.length 0 lo)).toArray := by
  obtain ⟨h1, h2, h3⟩ := slice_bounds lo hi its.toArray.size
  unfold slicePick
  rw [h1, h2, h3]
  simp only [sliceRange_one, pick_run, List.size_toArray] <;> rfl
/-- xs[lo:hi] of a list: a new list -/
def rSlL (K : PySem.W.Frag) : V → Option Int → Option Int → Hp → VK → Prop := fun x lo hi H Q => ∃ a xs, x = .ref a ∧ SqL K H a xs ∧ ∀ p, H p = none → Q (.ref p) (upd H p (.lst (cutV xs lo hi)))
theorem sl_list : SlR X (rSlL X.K) := by
  intro pins s σ H x v vl vu lo hi sl Q I rx hs pl pu h
  obtain ⟨a, xs, rfl, hx, q⟩ := h
  cases rx
  obtain ⟨its, r, ht, hz⟩ := I.list hx
  have hlen := r.length
  refine ⟨"list", _, slot_list_getitem.lookup, ht.isList.typeIs, ?_⟩
  refine wpAny_getItem_list_slice ht.isList hs pl pu .none (by simp) ?_ (by rw [List.size_toArray] <;> omega)
  rw [slicePick_cut, ← hlen]
  refine ⟨.ref s.heap.objs.size, _, I.laid (t' := s.toks) (o := .lst (cutV xs lo hi)) (fun b ob q => Heap.get?_push_of_some _ q) (Nat.le_refl _) ?_, rfl, q _ (I.hok.fresh (Nat.le_refl _))⟩
  exact ⟨Nat.le_trans (cutV_length xs lo hi) hz, _, 0, (r.drop (HT.sIx xs.length 0 lo)).take (HT.sIx xs.length xs.length hi - HT.sIx xs.length 0 lo), Heap.get?_push_size _ rfl⟩

/-! ### in, not in: flat items -/
def flatV : V → Bool
  | .non => true
  | .bl _ => true
  | .int _ => true
  | .str _ => true
  | _ => false
/-- == of flat values -/
def eqV : V → V → Bool
  | .non, .non => true
  | .bl a, .bl b => a == b
  | .bl a, .int b => (if a then 1 else 0) == b
  | .int a, .bl b => a == (if b then 1 else 0)
  | .int a, .int b => a == b
  | .str a, .str b => a == b
  | _, _ => false
theorem eqAt_V {A : Around} {s : Shared} {y x : V} {u v : Value} (ry : RelV y u) (rx : RelV x v) (fy : flatV y = true) (fx : flatV x = true) : SeqAt.EqAt A s u v (eqV y x) := by
  cases y with
  | non =>
    cases ry
    cases x with
    | non => cases rx; exact SeqAt.EqAt.same _
    | bl b => cases rx; exact SeqAt.EqAt.none_bool b
    | int b => obtain ⟨t, rfl⟩ := rx; exact SeqAt.EqAt.none_int b t
    | str b => obtain ⟨t, rfl⟩ := rx; exact SeqAt.EqAt.none_str b t
    | _ => exact absurd (show false = true from fx) Bool.false_ne_true
  | bl a =>
    cases ry
    cases x with
    | non => cases rx; exact SeqAt.EqAt.bool_none a
    | bl b => cases rx; exact SeqAt.EqAt.bool_bool a b
    | int b => obtain ⟨t, rfl⟩ := rx; exact SeqAt.EqAt.bool_int a b t
    | str b => obtain ⟨t, rfl⟩ := rx; exact SeqAt.EqAt.bool_str a b t
    | _ => exact absurd (show false = true from fx) Bool.false_ne_true
  | int a =>
    obtain ⟨t', rfl⟩ := ry
    cases x with
    | non => cases rx; exact SeqAt.EqAt.int_none a t'
    | bl b => cases rx; exact SeqAt.EqAt.int_bool a t' b
    | int b => obtain ⟨t, rfl⟩ := rx; exact SeqAt.EqAt.int_int a t' b t
    | str b => obtain ⟨t, rfl⟩ := rx; exact SeqAt.EqAt.int_str a t' b t
    | _ => exact absurd (show false = true from fx) Bool.false_ne_true
  | str a =>
    obtain ⟨t', rfl⟩ := ry
    cases x with
    | non => cases rx; exact SeqAt.EqAt.str_none a t'
    | bl b => cases rx; exact SeqAt.EqAt.str_bool a t' b
    | int b => obtain ⟨t, rfl⟩ := rx; exact SeqAt.EqAt.str_int a t' b t
    | str b => obtain ⟨t, rfl⟩ := rx; exact SeqAt.EqAt.str_str a t' b t
    | _ => exact absurd (show false = true from fx) Bool.false_ne_true
  | _ => exact absurd (show false = true from fy) Bool.false_ne_true
/-! ### len, list(x), tuple(x) of any list or tuple that is read -/
theorem call_list_of : CallR X (.type "list") (fun xs H Q => ∃ p ys, xs = [.ref p] ∧ (SqL X.K H p ys ∨ SqT X.K H p ys) ∧ ∀ l, H l = none → Q (.ref l) (upd H l (.lst ys))) := by
  intro pins s σ H xs us Q I r h
  obtain ⟨p, ys, rfl, hq, q⟩ := h
  obtain ⟨u, rfl, rx⟩ := vals1 r
  cases rx
  have fin : ∀ (its : List Value), Vals ys its → ys.length ≤ sizeLine → ∀ (h' : Heap) (c' : Nat), (∀ b o', s.heap.get? b = some o' → h'.get? b = some o') →
      h'.get? s.heap.objs.size = some { cls := .type "list", dict := none, data := .seq its.toArray c', slots := #[] } → EP X pins σ Q (.ref s.heap.objs.size) { s with heap := h' } := fun its r' hz h' c' kp e =>
    ⟨.ref s.heap.objs.size, _, I.laid (t' := s.toks) kp (Nat.le_refl _) (show ObjOk X.prog X.w _ h' _ (.lst ys) from ⟨hz, its, c', r', e⟩), rfl, q _ (I.hok.fresh (Nat.le_refl _))⟩
  rcases hq with hq | hq
  · obtain ⟨its, r', pl, hz⟩ := I.list hq
    have hlen := r'.length
    obtain ⟨o, ho, hc, n, hd⟩ := pl.isList
    exact call_list_seq p (.inl rfl) ho hc hd (fun h' c' kp e => fin its r' hz h' c' kp e) (by simp only [List.size_toArray] <;> omega)
  · obtain ⟨its, r', pl, hz⟩ := I.tuple hq
    have hlen := r'.length
    obtain ⟨o, ho, hc, n, hd⟩ := pl
    exact call_list_seq p (.inr rfl) ho hc hd (fun h' c' kp e => fin its r' hz h' c' kp e) (by simp only [List.size_toArray] <;> omega)
theorem call_tuple_of : CallR X (.type "tuple") (fun xs H Q => ∃ p ys, xs = [.ref p] ∧ ((SqL X.K H p ys ∧ ∀ l, H l = none → Q (.ref l) (upd H l (.tup ys))) ∨ (SqT X.K H p ys ∧ Q (.ref p) H))) := by
  intro pins s σ H xs us Q I r h
  obtain ⟨p, ys, rfl, h⟩ := h
  obtain ⟨u, rfl, rx⟩ := vals1 r
  cases rx
  rcases h with ⟨hq, q⟩ | ⟨hq, q⟩
  · obtain ⟨its, r', pl, hz⟩ := I.list hq
    have hlen := r'.length
    refine call_tuple_list pl.isList (fun h' kp => ?_) (by simp only [List.size_toArray] <;> omega)
    have I1 : Inv X pins σ H { s with heap := h' } := I.kept (t' := s.toks) kp
    have I2 : Inv X pins σ (upd H h'.objs.size (.tup ys)) { s with heap := h'.push { cls := .type "tuple", data := .seq its.toArray } } :=
      I1.laid (t' := s.toks) (fun b o e => Heap.get?_push_of_some _ e) (Nat.le_refl _) (show ObjOk X.prog X.w _ _ _ (.tup ys) from ⟨hz, its, r', IsTup.new _ _⟩)
    exact ⟨.ref h'.objs.size, _, I2, rfl, q _ (I1.hok.fresh (Nat.le_refl _))⟩
  · obtain ⟨its, r', pl, hz⟩ := I.tuple hq
    exact call_tuple_same pl ⟨.ref p, H, I, rfl, q⟩

/-! ### the call of a builtin's method: o.m(..) -/
/-- the value is of that builtin type -/
def tyV (K : PySem.W.Frag) (T : String) (x : V) (H : Hp) : Prop := match x with
  | .str _ => T = "str"
  | .int _ => T = "int"
  | .ref p => (T = "list" ∧ ∃ xs, SqL K H p xs) ∨ (T = "tuple" ∧ ∃ o, K.lookup p = some o ∧ o.cls = .type "tuple" ∧ o.dict = none) ∨
      (T = "dict" ∧ ((∃ kvs, H p = some (.dK kvs)) ∨ ∃ kvs, H p = some (.dT kvs))) ∨ (T = "set" ∧ ∃ S n, H p = some (.set S n))
  | _ => False
theorem tyV_is {pins : List (Addr × Obj)} {σ : St} {H : Hp} {s : Shared} {T : String} {x : V} {v : Value} (I : Inv X pins σ H s) (r : RelV x v) (ty : tyV X.K T x H) :
    s.TypeIs v T ∧ ∀ a, v = .ref a → ∃ ob, s.heap.get? a = some ob ∧ ob.dict = none := by
  cases x with
  | str z =>
    obtain ⟨t, rfl⟩ := r
    cases (show T = "str" from ty)
    exact ⟨typeIs_str s z t, fun _ e => nomatch e⟩
  | int i =>
    obtain ⟨t, rfl⟩ := r
    cases (show T = "int" from ty)
    exact ⟨typeIs_int s i t, fun _ e => nomatch e⟩
  | ref p =>
    cases r
    rcases ty with ⟨rfl, xs, hq⟩ | ⟨rfl, o, hk, hc, hd⟩ | ⟨rfl, hk⟩ | ⟨rfl, S, n, hk⟩
    · obtain ⟨its, _, pl, _⟩ := I.list hq
      refine ⟨pl.isList.typeIs, fun a e => ?_⟩
      cases e
      obtain ⟨o, n, e, c, hd, _⟩ := pl
      exact ⟨o, e, hd⟩
    · refine ⟨⟨o, I.kIn p o hk, hc⟩, fun a e => ?_⟩
      cases e
      exact ⟨o, I.kIn _ o hk, hd⟩
    · have z : ∃ o, s.heap.get? p = some o ∧ o.ExactDict := by
        rcases hk with ⟨kvs, hk⟩ | ⟨kvs, hk⟩
        · obtain ⟨_, _, _, _, o, _, _, e, ex, _⟩ := I.hok p _ hk
          exact ⟨o, e, ex⟩
        · obtain ⟨_, _, _, _, o, _, _, e, ex, _⟩ := I.hok p _ hk
          exact ⟨o, e, ex⟩
      obtain ⟨o, e, ex⟩ := z
      refine ⟨⟨o, e, ex.1⟩, fun a e2 => ?_⟩
      cases e2
      exact ⟨o, e, ex.2.1⟩
    · obtain ⟨o, _, _, _, e, ex, _⟩ := I.hok p _ hk
      refine ⟨⟨o, e, ex.1⟩, fun a e2 => ?_⟩
      cases e2
      exact ⟨o, e, ex.2.1⟩
  | _ => exact False.elim ty
def tBM0 (K : PySem.W.Frag) (T : String) (r : V → List V → Hp → VK → Prop) (to : TE) : TE := fun σ H Q => to σ H fun x H1 => tyV K T x H1 ∧ r x [] H1 Q
def tBM (K : PySem.W.Frag) (T : String) (r : V → List V → Hp → VK → Prop) (to : TE) (t : TA) : TE := fun σ H Q => to σ H fun x H1 => tyV K T x H1 ∧ t σ H1 fun xs H2 => r x xs H2 Q
variable {o e : Expr} {es : List Expr} {to : TE} {t : TA} {name : Str} {apos cpos : Pos} {T id : String} {r : V → List V → Hp → VK → Prop}
theorem pe_bm0 (pa : PlainAttrs T) (slot : Slot T name id) (hty : typeOf (.builtin id) = pure (.type "method_descriptor")) (hm : MtR X id r) (ho : PE X o to)
    (hbase : attributeBase o name X.env (eval o X.env) = eval o X.env := by rfl) (hline : (apos.endLine == cpos.line) = true := by rfl) : PE X (.Call (.Attribute o name apos) [] [] cpos) (tBM0 X.K T r to) := by
  intro pins s σ H Q I h
  refine wpAny_Call_method0_late hbase hline (thn (ho pins s σ H _ I h) fun v s1 ⟨x, H1, I1, r1, ty, q1⟩ => ?_)
  obtain ⟨h1, h2⟩ := tyV_is I1 r1 ty
  exact ⟨T, id, pa, slot, hty, h1, h2, Calls.callWith_builtin rfl (PySem.evalArgs_none (hm pins s1 σ H1 x [] v [] Q I1 r1 .nil q1))⟩
theorem pe_bm (pa : PlainAttrs T) (slot : Slot T name id) (hty : typeOf (.builtin id) = pure (.type "method_descriptor")) (hm : MtR X id r) (ho : PE X o to) (ha : PA X (e :: es) t)
    (hbase : attributeBase o name X.env (eval o X.env) = eval o X.env := by rfl)
    (hfew : ((backTo cpos (starEach (e :: es) X.env)).all (fun x => !x.1) && (backToKw cpos (keywordEach [] X.env)).all (fun x => x.1.isSome)
      && decide ((e :: es).length + ([] : List Keyword).length + (if ([] : List Keyword).isEmpty then 0 else 1) < 30)) = true := by rfl)
    (hline : (apos.endLine == cpos.line) = true := by rfl) (hs : starEach (e :: es) X.env = (false, eval e X.env) :: starEach es X.env := by rfl) (hplain : (backTo cpos (starEach es X.env)).any (·.1) = false := by rfl) :
    PE X (.Call (.Attribute o name apos) (e :: es) [] cpos) (tBM X.K T r to t) := by
  intro pins s σ H Q I h
  refine wpAny_Call_method_late hbase hfew hline rfl (thn (ho pins s σ H _ I h) fun v s1 ⟨x, H1, I1, r1, ty, q1⟩ => ?_)
  obtain ⟨h1, h2⟩ := tyV_is I1 r1 ty
  refine ⟨T, id, pa, slot, hty, h1, h2, ?_⟩
  have hA := ha cpos pins s1 σ H1 _ I1 q1
  rw [hs] at hA ⊢
  refine Calls.callWith_builtin (by show (false || (backTo cpos (starEach es X.env)).any (·.1)) = false; rw [hplain] <;> rfl) (Calls.evalArgs_plain ?_)
  exact thn hA fun us s2 ⟨vs, H2, I2, r2, q2⟩ => hm pins s2 σ H2 x vs v us Q I2 r1 r2 q2
/- xs.append(e), list.index on a module's tuple .. are MtR facts of 06m -/
end
end L2

namespace L2
open PySem PySem.Spec PyProof.Rows

def MtM (X : Cx) (id : String) (r : V → List V → Hp → VK → Prop) : Prop :=
  ∀ (pins : List (Addr × Obj)) (s : Shared) (σ : St) (H : Hp) (x : V) (xs : List V) (v : Value) (us : List Value) (Q : VK), Inv X pins σ H s → RelV x v → Vals xs us → r x xs H Q →
    wpAny (model X.prog X.w) X.A (call (.builtin id) (v :: us)) (EP X pins σ Q) X.xe s

/-! ### lists of values -/
theorem Vals.one : ∀ {x : V} {us : List Value}, Vals [x] us → ∃ u, us = [u] ∧ RelV x u
  | _, _, .cons r .nil => ⟨_, rfl, r⟩
theorem Vals.two : ∀ {x y : V} {us : List Value}, Vals [x, y] us → ∃ u v, us = [u, v] ∧ RelV x u ∧ RelV y v
  | _, _, _, .cons r (.cons q .nil) => ⟨_, _, rfl, r, q⟩
theorem Vals.rep {xs : List V} {us : List Value} (h : Vals xs us) : ∀ k : Nat, Vals (List.replicate k xs).flatten (List.replicate k us).flatten
  | 0 => .nil
  | k + 1 => by
    rw [List.replicate_succ, List.replicate_succ, List.flatten_cons, List.flatten_cons]
    exact Vals.append h (Vals.rep h k)
theorem foldl_rep (its : List Value) : ∀ (k : Nat) (acc : List Value),
    List.foldl (fun x1 x2 => x1 ++ x2) acc.toArray (List.replicate k its.toArray) = (acc ++ (List.replicate k its).flatten).toArray
  | 0, acc => by simp
  | k + 1, acc => by
    have e : acc.toArray ++ its.toArray = (acc ++ its).toArray := by simp
    have e2 : (acc ++ its) ++ (List.replicate k its).flatten = acc ++ (List.replicate (k + 1) its).flatten := by
      rw [List.replicate_succ, List.flatten_cons, List.append_assoc]
    rw [← e2, ← foldl_rep its k (acc ++ its), ← e, List.replicate_succ, List.foldl_cons]

section
variable {X : Cx} {pins : List (Addr × Obj)} {σ : St} {H : Hp} {s : Shared} {l b : Addr} {xs ys zs : List V}

/-! ### the two steps: a tracked list is rewritten, a new list is laid -/
theorem Inv.lset {its its' : List Value} {n : Nat} {f : Array Value → Array Value} {t' : Nat} (I : Inv X pins σ H s) (hH : H l = some (.lst xs))
    (e : s.heap.get? l = some { cls := .type "list", data := .seq its.toArray n }) (hf : f its.toArray = its'.toArray) (hv : Vals ys its') (hz : ys.length ≤ sizeLine) :
    Inv X pins σ (upd H l (.lst ys)) { s with heap := s.heap.update l (Obj.mapSeq f), toks := t' } := by
  have q := PySem.IsL.update e f
  rw [hf] at q
  refine I.write (x := l) (e := l) (by rw [hH]; exact trivial) (.inl rfl) (fun b' u hb hu => (Heap.get?_update_other s.heap (Obj.mapSeq f) (Ne.symm hb)).trans hu) ⟨_, q⟩ ?_
  exact ⟨hz, its', _, hv, q⟩
theorem Inv.lnew {its : List Value} {t' : Nat} (I : Inv X pins σ H s) (hv : Vals ys its) (hz : ys.length ≤ sizeLine) :
    Inv X pins σ (upd H s.heap.objs.size (.lst ys)) { s with heap := s.heap.push { cls := .type "list", data := .seq its.toArray }, toks := t' } :=
  I.laid (fun _ _ q => Heap.get?_push_of_some _ q) (Nat.le_refl _) ⟨hz, its, 0, hv, Heap.get?_push_size _ rfl⟩
theorem Inv.fresh (I : Inv X pins σ H s) : H s.heap.objs.size = none := I.hok.fresh (Nat.le_refl _)
theorem Inv.lstM (I : Inv X pins σ H s) (hH : H l = some (.lst xs)) : xs.length ≤ sizeLine ∧ ∃ (its : List Value) (n : Nat), Vals xs its ∧ xs.length = its.length ∧ s.heap.get? l = some { cls := .type "list", data := .seq its.toArray n } := by
  obtain ⟨z, its, n, r, e⟩ := I.hok l _ hH
  exact ⟨z, its, n, r, r.length, e⟩

theorem notLongL {n : Nat} (h : n ≤ sizeLine) : Builtin.List.listTooLong n = false := by
  unfold Builtin.List.listTooLong
  exact decide_eq_false (by omega)
end

section
variable {X : Cx}

/-! ### methods -/
def rAppend : V → List V → Hp → VK → Prop := fun x vs H Q => ∃ l xs y, x = .ref l ∧ vs = [y] ∧ H l = some (.lst xs) ∧ xs.length < sizeLine ∧ Q .non (upd H l (.lst (xs ++ [y])))
theorem mt_append : MtM X "list.append" rAppend := by
  intro pins s σ H x vs v us Q I rx rv h
  obtain ⟨l, xs, y, rfl, rfl, hH, hz, q⟩ := h
  cases rx
  obtain ⟨u, rfl, ru⟩ := rv.one
  obtain ⟨z, its, n, r, hl, e⟩ := I.lstM hH
  refine call_meets F.slot_list_append ⟨_, e, rfl⟩ F.entry_list_append (F.args_list_append_2 _ _) (PySem.list_append l its.toArray n u (by rw [List.size_toArray]; omega)) ⟨e, ?_⟩
  refine ⟨.non, _, I.lset (its' := its ++ [u]) hH e (by simp) (r.append (.cons ru .nil)) ?_, rfl, q⟩
  rw [List.length_append, List.length_singleton]
  omega

/-! ### list + list, list += list, list * int -/
def rCat : R2 := fun x y H Q => ∃ l b xs zs, x = .ref l ∧ y = .ref b ∧ H l = some (.lst xs) ∧ H b = some (.lst zs) ∧ xs.length + zs.length ≤ sizeLine ∧ ∀ p, H p = none → Q (.ref p) (upd H p (.lst (xs ++ zs)))
theorem op_cat : OpR X (binaryOp .Add) rCat := by
  intro pins s σ H x y v u Q I rx ry h
  obtain ⟨l, b, xs, zs, rfl, rfl, hH, hB, hz, q⟩ := h
  cases rx
  cases ry
  obtain ⟨z, its, n, r, hl, e⟩ := I.lstM hH
  obtain ⟨z2, its2, n2, r2, hl2, e2⟩ := I.lstM hB
  refine PySem.P.add_list e e2 ?_ (by rw [List.size_toArray, List.size_toArray]; omega)
  have ea : its.toArray ++ its2.toArray = (its ++ its2).toArray := by simp
  rw [ea]
  exact ⟨.ref _, _, I.lnew (t' := s.toks) (r.append r2) (by rw [List.length_append]; omega), rfl, q _ I.fresh⟩
/-- a list times an int (a negative one is nothing) -/
def rRep : R2 := fun x y H Q => ∃ l k xs, x = .ref l ∧ y = .int k ∧ H l = some (.lst xs) ∧ -(2 ^ 63) ≤ k ∧ k < 2 ^ 63 ∧ xs.length * k.toNat ≤ sizeLine ∧
  ∀ p, H p = none → Q (.ref p) (upd H p (.lst (List.replicate k.toNat xs).flatten))
theorem len_rep {α : Type} (xs : List α) (k : Nat) : (List.replicate k xs).flatten.length = k * xs.length := by
  induction k with
  | zero => simp
  | succ k ih => rw [List.replicate_succ, List.flatten_cons, List.length_append, ih, Nat.succ_mul, Nat.add_comm]
theorem op_rep : OpR X (binaryOp .Mult) rRep := by
  intro pins s σ H x y v u Q I rx ry h
  obtain ⟨l, k, xs, rfl, rfl, hH, h1, h2, hz, q⟩ := h
  cases rx
  obtain ⟨t, rfl⟩ := ry
  obtain ⟨z, its, n, r, hl, e⟩ := I.lstM hH
  have hlen : its.toArray.size * k.toNat ≤ sizeLine := by rw [List.size_toArray, ← hl]; exact hz
  have hcap : ¬ its.toArray.size * k.toNat > (2 ^ 63 - 1) / 8 := by
    have : (sizeLine : Nat) ≤ (2 ^ 63 - 1) / 8 := by decide
    omega
  have hfit : ¬ (!Builtin.List.listFitsIndex k) = true := by
    rw [fitsIndex_both h1 h2]
    exact Bool.false_ne_true
  have hlong : ¬ Builtin.List.listTooLong (its.toArray.size * k.toNat) = true := by
    rw [notLongL hlen]
    exact Bool.false_ne_true
  have hnew : List.foldl (fun x1 x2 => x1 ++ x2) #[] (List.replicate (if its.toArray.isEmpty = true then 0 else k.toNat) its.toArray) = (List.replicate k.toNat its).flatten.toArray := by
    have f0 : ∀ m : Nat, List.foldl (fun x1 x2 => x1 ++ x2) #[] (List.replicate m its.toArray) = (List.replicate m its).flatten.toArray := fun m => by
      have := foldl_rep its m []
      rw [List.nil_append] at this
      exact this
    rw [f0]
    cases its with
    | nil => simp
    | cons a r' => rw [if_neg (by simp)]
  refine wpAny_binaryOp_repeat_ref (T := "list") (U := "int") (by decide) ⟨_, e, rfl⟩ (fun s' => typeIs_int s' k t) noFill_list_mul F.fills_int_mul F.slot_int_rmul repeat_list F.slot_int_index.lookup
    (call_meets F.slot_int_rmul (typeIs_int s k t) F.entry_int_rmul (F.args_int_rmul_2 _ _) (int___rmul___int_list k t l its.toArray n)
      ⟨e, rfl, ⟨_, e, rfl⟩, call_meets F.slot_list_mul ⟨_, e, rfl⟩ F.entry_list_mul (F.args_list_mul_2 _ _) (AutoListH.list___mul___list_int_3 l its.toArray n k t hfit hcap hlong) ⟨e, ?_⟩⟩)
  rw [hnew]
  exact ⟨.ref _, _, I.lnew (t' := s.toks) (r.rep k.toNat) (by rw [len_rep, Nat.mul_comm]; exact hz), rfl, q _ I.fresh⟩

/-! ### del xs[i] -/
end

/-! ### xs[a:b] = ys -/
section
variable {prog : Program} {w : World} {A : Around} {E : Value → Shared → Prop} {s : Shared}
end

section
variable {X : Cx}
end
end L2

namespace L2
open PySem PySem.Spec PyProof.Rows

/-! ### lists of pairs as tables -/
section
variable {κ : Type} [DecidableEq κ]
def valV (kvs : List (κ × V)) (k : κ) : Option V := (kvs.find? fun kv => decide (kv.1 = k)).map (·.2)
theorem valV_pos {p : κ × V} {r : List (κ × V)} {k : κ} (e : p.1 = k) : valV (p :: r) k = some p.2 := by simp [valV, List.find?_cons, e]
theorem valV_neg {p : κ × V} {r : List (κ × V)} {k : κ} (e : ¬ p.1 = k) : valV (p :: r) k = valV r k := by simp [valV, List.find?_cons, e]
/-- raw tables of the same keys -/
theorem KV.val {kvs : List (κ × V)} {vs : List (κ × Value)} (r : KV kvs vs) (k : κ) : RelO (valV kvs k) (valueAt vs k) := by
  unfold KV at r
  induction r with
  | nil => exact True.intro
  | @cons p q ps qs h t ih =>
    obtain ⟨h1, h2⟩ := h
    by_cases e : p.1 = k
    · have e' : q.1 = k := h1.symm.trans e
      have b : valueAt (q :: qs) k = some q.2 := by simp [valueAt, List.find?_cons, e']
      rw [valV_pos e, b]; exact h2
    · have e' : ¬ q.1 = k := fun z => e (h1.trans z)
      have b : valueAt (q :: qs) k = valueAt qs k := by simp [valueAt, List.find?_cons, e']
      rw [valV_neg e, b]; exact ih
end


/-! ### a tracked dict, its keys ints and texts or tuples of these -/
section
variable {P : Program} {w : World} {H : Hp} {h : Heap} {a : Addr}
end

section
variable {X : Cx} {pins : List (Addr × Obj)} {σ : St} {H : Hp} {s : Shared} {a : Addr} {y v : V} {u r : Value} {o : Option V} {A : Around} {E : Value → Shared → Prop}

end

section
variable {X : Cx} {pins : List (Addr × Obj)} {σ : St} {H : Hp} {s : Shared} {a : Addr} {kvs : List (Key × V)} {k : Key} {u : Value} {A : Around} {E : Value → Shared → Prop}
end


/-! ### readings and rules -/
section
variable {X : Cx} {o i e value : Expr} {pos pos' tpos : Pos} {td ty tv : TE}
end


/-! ### displays -/
section
variable {X : Cx} {pos : Pos}
end

/-! ### methods -/
section
variable {X : Cx} {pins : List (Addr × Obj)} {σ : St} {H : Hp} {s : Shared} {a : Addr} {y d : V} {u r : Value} {o : Option V} {A : Around} {E : Value → Shared → Prop}
end

section
variable {X : Cx} {o e f : Expr} {apos cpos : Pos} {td ty tx : TE}
end

/-! ### dict(d): a copy -/
section
variable {X : Cx} {pins : List (Addr × Obj)} {σ : St} {H : Hp} {s : Shared} {a : Addr} {kvs : List (Key × V)} {A : Around} {E : Value → Shared → Prop}
end


section
variable {X : Cx} {pins : List (Addr × Obj)} {σ : St} {H : Hp} {s : Shared} {a : Addr} {y : V} {u : Value} {A : Around} {E : Value → Shared → Prop}
end
end L2

namespace Att
open PySem PySem.W PySem.Calls PyProof.Rows

/-! ### the script -/
theorem ints_of_wellAll {P : Params} {h : Heap} : ∀ (ns : List Int) (vs : List Value), WellAll P h vs (ns.map WData.int) → IntsAre vs ns := by
  intro ns
  induction ns with
  | nil =>
    intro vs w
    rw [List.map_nil] at w
    cases w
    exact .nil
  | cons n ns ih =>
    intro vs w
    rw [List.map_cons] at w
    cases w with
    | cons a b =>
      cases a
      exact .cons _ _ (ih _ b)

theorem script_of {l : OpenLaw} {n : Nat} (hn : l.most = some n) {P : Params} {h : Heap} {args : List WData} {vals : List Value}
    (hpre : l.row.toRowW.claim.pre args = true) (hwl : WellAll P h vals args) :
    ∃ a vs ns, vals = [Value.ref a] ∧ args = [WData.list (ns.map WData.int)] ∧ h.get? a = some { cls := .type "list", data := .seq vs.toArray } ∧ IntsAre vs ns ∧ ns.length ≤ n := by
  have hsh : WShape.hasAll [] args [.list .int] = true := (pre_splitW hpre).1
  have hc : l.pre.holds [] { args := args } = true := (pre_splitW hpre).2
  obtain ⟨d, r, rfl, h1, h2⟩ := hasAllW_cons hsh
  obtain rfl := hasAllW_nil h2
  obtain ⟨xs, rfl, h3⟩ := hasW_list h1
  obtain ⟨ns, rfl⟩ := items_int h3
  have hlen : ns.length ≤ n := by
    unfold OpenLaw.pre at hc
    have h4 : (WTm.not (.lt (.lit (.int (n : Int))) (.len (.arg 0)))).holds [] { args := [.list (ns.map .int)] } = true := by
      have h4 := (holds_andW hc).1
      rw [hn] at h4
      exact h4
    have h5 := condW_of h4 (w_not (w_lt w_lit (w_len_list (w_arg rfl))))
    rw [List.length_map] at h5
    refine Nat.le_of_not_lt fun q => ?_
    have q' : (n : Int) < ((ns.length : Nat) : Int) := by omega
    first
      | (rw [decide_eq_true q'] at h5; exact absurd h5 (by decide))
      | (simp at h5; omega)
  cases hwl with
  | cons w1 w2 =>
    cases w2
    cases w1 with
    | list ho hall => exact ⟨_, _, ns, rfl, rfl, ho, ints_of_wellAll ns _ hall, hlen⟩

theorem post_true (l : OpenLaw) (args : List WData) : l.row.toRowW.claim.post args (.bool true) args = true :=
  postW_of (r := l.row.toRowW) (X := (true == true))
    (show WShape.has [] (.bool true) .bool = true by first | rfl | decide | simp [WShape.has, WShape.arms, WShape.armsAll])
    (show (WTm.eq .res (.lit (.bool true))).value [] { args := args, res := some (.bool true), after := args } = some (.bool (true == true)) from w_eq_bool (w_res rfl) w_lit) rfl

/-! ### the attachment: holds_open's last premise (the goal 'hc' behind k_head) from a wpAny of the law's body -/
/-! ### rules over ANY heap (no ledger) from facts about the written part K: the library's own take a ledger (News) for what they write -/
section
variable {prog : Program} {w : World} {A : Around} {E : Value → Shared → Prop} {s : Shared} {K : Frag}

/-! the whole heap as the ledger: makes every rule that writes through a ledger a rule over any heap -/
end
end Att

namespace L2
open PySem PySem.Spec PyProof.Rows

theorem vals_ints : ∀ {vs : List Value} {ns : List Int}, IntsAre vs ns → Vals (ns.map V.int) vs
  | _, _, .nil => .nil
  | _, _, .cons n t h => .cons ⟨t, rfl⟩ (vals_ints h)

/-- nothing is tracked but the script, known to the object (or it is an object of the module) -/
def Only (H : Hp) : Prop := ∀ b, H b = none ∨ ∃ o xs, H b = some (.frz o (.lst xs))

/-- THE HEAD: the law's promise, at the heap behind the top. F, the promise of the law's def, may use that base is part of the heap (so K.In base, base.Ns mainGlobals mg stand in Mod) -/
theorem law_call {P : Program} {w : World} {K : PySem.W.Frag} {mg mb : Str → Option Value} {CX : CXT} {k : Nat} {fa a : Addr} {fd : FuncData} {x : Str} {sp : Sp} {s₁ : Shared} {vs : List Value} {ns : List Int}
    (KX : K.In s₁.heap) (hns : s₁.heap.Ns mainGlobals mg) (hb : s₁.heap.Ns builtinsNs mb) (hbb : ∀ x : Str, x ≠ "__name__" → mb x = bootBuiltins x) (hlim : s₁.heap.NoLimit) (hg : s₁.gens = #[])
    (ha : s₁.heap.get? a = some { cls := .type "list", data := .seq vs.toArray }) (hi : IntsAre vs ns) (hl : ns.length ≤ sizeLine) (hr : Room k callerA)
    (F : ∀ base : Heap, K.In base → base.Ns mainGlobals mg → FnOk P w K mg base CX k fa fd [x] sp) (hbind : ∀ (s : Shared) (u : Value), BindsTo s fd ⟨[u], []⟩ [(x, u)])
    (hsp : ∀ H : Hp, Only H → SqL K H a (ns.map V.int) → sp [.ref a] H (fun v _ => v = .bl true) fun _ _ _ => False)
    (hCX : ∀ H e s', CX [] H s₁ (fun _ _ _ => False) e s' → False) :
    codeAny (model P w) callerA (.call (.ref fa) ⟨[.ref a], []⟩) (fun r s' => r = .ok (.ret (.bool true)) ∧ OldK s₁.heap s'.heap ∧ s'.os = s₁.os ∧ AllBare s'.gens) s₁ := by
  have rv := vals_ints hi
  have lenV := hi.length
  -- from an abstract heap in which nothing but the script may be tracked
  have core : ∀ H : Hp, Only H → SqL K H a (ns.map V.int) → HOk P w H s₁.heap → (∀ b, H b ≠ none → b = a) → (H a ≠ none → K.lookup a = none) →
      codeAny (model P w) callerA (.call (.ref fa) ⟨[.ref a], []⟩) (fun r s' => r = .ok (.ret (.bool true)) ∧ OldK s₁.heap s'.heap ∧ s'.os = s₁.os ∧ AllBare s'.gens) s₁ := by
    intro H hO hS hok hA hK
    have base_of : ∀ {b : Addr} {o : Obj}, s₁.heap.get? b = some o → H b = none → (hidT s₁.heap H).get? b = some o := fun e n => hidT_get e n
    have noA : ∀ {b : Addr} {o : Obj} {es : Array DictEntry} {ep : Nat}, s₁.heap.get? b = some o → o.data = .dict es ep → H b = none := fun {b o es ep} e d => by
      cases q : H b with
      | none => rfl
      | some u =>
        have e' : b = a := hA b (by rw [q]; simp)
        subst e'
        rw [ha] at e; cases e
        have d' : Data.seq vs.toArray _ = Data.dict es ep := d
        cases d'
    have nsK : ∀ {b : Addr} {m : Str → Option Value}, s₁.heap.Ns b m → (hidT s₁.heap H).Ns b m := fun {b m} ⟨o, es, ep, e, d, r⟩ => ⟨o, es, ep, base_of e (noA e d), d, r⟩
    have hKb : K.In (hidT s₁.heap H) := fun b o e => base_of (KX b o e) (by
      cases q : H b with
      | none => rfl
      | some u =>
        have e' : b = a := hA b (by rw [q]; simp)
        subst e'
        rw [hK (by rw [q]; simp)] at e; cases e)
    have hM : Mod K mg (hidT s₁.heap H) := ⟨hKb, nsK hns, ⟨mb, nsK hb, hbb⟩, let ⟨mc, h1, h2⟩ := hlim; ⟨mc, nsK h1, h2⟩⟩
    have e0 : Env0 P w K mg (hidT s₁.heap H) callerA [] s₁ H := ⟨rfl, hM, fun b o e => of_hidT e, Nat.le_of_eq (hidT_size _ _), trivial, fun b hb => absurd (show b ∈ ([] : List Addr) from hb) (by simp), hok, .of_eq hg⟩
    refine codeAny_mono ((F _ hKb (nsK hns)).run callerA [] s₁ H ⟨[.ref a], []⟩ [.ref a] [.ref a] _ _ hr e0 (hbind s₁ (.ref a)) (.cons rfl .nil) (hsp H hO hS)) fun r s' h => ?_
    cases r with
    | error e => exact (hCX H e s' h).elim
    | ok fl =>
      cases fl with
      | next => exact False.elim h
      | brk => exact False.elim h
      | cont => exact False.elim h
      | ret u =>
        obtain ⟨v, H', os, bare, un, hok', r', q⟩ := h
        have q' : v = .bl true := q
        subst q'
        obtain rfl : u = Value.bool true := r'
        refine ⟨rfl, OldK.of_keep fun b o e => ?_, os, bare⟩
        cases q : H b with
        | none => exact un.keep b o e q (by intro z; exact absurd (show b ∈ ([] : List Addr) from z) (by simp)) (by simp)
        | some u =>
          rcases hO b with z | ⟨ob, xs, z⟩
          · rw [q] at z; cases z
          · have z2 := un.frzs b ob _ z
            obtain ⟨e1, _⟩ := hok b _ z
            obtain ⟨e2, _⟩ := hok' b _ z2
            rw [e] at e1; cases e1
            exact e2
  cases hk : K.lookup a with
  | some o =>
    -- the script is one of the module's own objects
    have e := KX a o hk
    rw [ha] at e
    cases e
    refine core (fun _ => none) (fun _ => .inl rfl) (.inr ⟨_, vs.toArray, _, hk, rfl, rfl, rfl, by rw [List.size_toArray, lenV]; exact hl, by simpa using rv⟩) (fun b u z => by have z' : (none : Option HO) = some u := z; cases z') (fun b z => absurd rfl z) fun z => absurd rfl z
  | none =>
    refine core (fun b => if b = a then some (.frz { cls := .type "list", data := .seq vs.toArray } (.lst (ns.map V.int))) else none) (fun b => ?_) (.inl (.inr ⟨{ cls := .type "list", data := .seq vs.toArray }, if_pos rfl⟩)) (fun b u z => ?_) (fun b z => ?_) fun _ => hk
    · by_cases hb : b = a
      · exact .inr ⟨_, _, if_pos hb⟩
      · exact .inl (if_neg hb)
    · by_cases hb : b = a
      · have z' := (if_pos hb).symm.trans z
        cases z'
        subst hb
        exact ⟨ha, by rw [List.length_map]; exact hl, vs, _, rv, ha⟩
      · have z' := (if_neg hb).symm.trans z
        cases z'
    · by_cases hb : b = a
      · exact hb
      · exact absurd (if_neg hb) z
end L2

namespace L2
open PySem PySem.Spec PyProof.Rows

end L2

/- THE LAST THEOREM (shape; LID, My.* are yours):
   My.Adr: a structure of the addresses that your layer names (classes, functions); My.Txt K t: a structure (Prop) of the equations over K;
   My.txt_mk : {K} {implicit addresses ..} (e1 : nsIn K mainGlobals "law" = some (some (.ref f))) (e2 : K.lookup f = some ⟨oc, od, .func (fnOf "law" "law" params body scope dV kV doc pm an cdv ct), sl⟩) (e3 : codeIn K cdv "law" = true) .. : ∃ t, My.Txt K t

set_option maxRecDepth 100000 in
set_option maxHeartbeats 0 in
theorem PySem.Challenge.cw_LID_holds : PySem.Challenge.rw_LID.Holds := by
  w_on; o_law; k_head; (case hw => w_witness2)
  k_fill
  refine L2.walk_of (l := PySem.Challenge.rw_LID) (n := 63) (k := 40) (x := "script") (CX := fun w => ..) (sp := fun _ => My.sp_law) rfl (by decide) rfl ⟨rfl, by decide, by decide⟩ (fun w h Y => PySem.W.kIn_of Y) ?F ?S ?C
  case F =>
    intro w mg fa h KX G hmg
    have T : ∃ t, My.Txt (L2.KOf KX) t := by
      dsimp only [L2.KOf]                          -- K must stand as «<heap const> w.params» for k_is
      refine' My.txt_mk ?e1 ?e2 ?e3 ..
      (case e1 => PySem.W.k_is)                    -- in the order: a name -> its address -> its object -> its parts
      (case e2 => PySem.W.k_is)
      ..
    obtain ⟨t, T⟩ := T
    have e0 := hmg.symm.trans (PySem.W.mg_of KX G T.law)
    cases e0                                       -- fa is the law's own address
    exact ⟨_, fun s u => .of_eq rfl, fun base kb nb => My.law_fn T kb nb⟩     -- if «.of_eq rfl» comes too early: refine' ⟨_, ?b, fun base kb nb => My.law_fn T kb nb⟩; exact fun s u => .of_eq rfl
  case S => exact fun w H a ns hl hO hS => ..
  case C => exact ..
(the tactic k_is has no namespace: write k_is) -/

/-! SHORT WORDS over the layer: a def of the text, its body, what a loop and a test want. -/
namespace L2
open PySem PySem.Spec PyProof.Rows

/-! ### the text by places -/
def defArgs (s : Stmt) : Arguments := match s with
  | .FunctionDef _ a _ _ _ _ _ _ _ _ => a
  | _ => { posonlyargs := [], args := [], vararg := none, kwonlyargs := [], kw_defaults := [], kwarg := none, defaults := [] }
def defBody (s : Stmt) : List Stmt := match s with
  | .FunctionDef _ _ b _ _ _ _ _ _ _ => b
  | _ => []
def defScope (s : Stmt) : Scope := match s with
  | .FunctionDef _ _ _ _ _ _ sc _ _ _ => sc
  | _ => { kind := .function, names := [], isGenerator := false, isCoroutine := false }

/-! ### no exception leaves a def -/
abbrev E0 : XK := fun _ _ _ => False
/-! ### a def (or method) of the text as it stands behind the top -/
structure Fun (K : PySem.W.Frag) (x qual : Str) (st : Stmt) (f : Addr) (fd : FuncData) : Prop where
  ex : ∃ (oc : Value) (od : Option Addr) (kV doc pm : Value) (an : Option Addr) (cdv ct : Value) (osl : Array (Option Value)),
    fd = PySem.W.fnOf x qual (defArgs st) (defBody st) (defScope st) .none kV doc pm an cdv ct ∧ K.lookup f = some ⟨oc, od, .func fd, osl⟩ ∧ PySem.W.codeIn K cdv qual = true
  kp : PySem.W.keepIn K (.ref f) = true
section
variable {P : Program} {w : World} {K : PySem.W.Frag} {mg : Str → Option Value} {base : Heap}
/-- how its arguments bind (no defaults): h is «fun _ _ _ _ _ _ us hl => match us, hl with | [_, _], _ => rfl», one _ a parameter -/
theorem Fun.binds {x qual : Str} {st : Stmt} {f : Addr} {fd : FuncData} {ps : List Str} (F : Fun K x qual st f fd)
    (h : ∀ (kV doc pm : Value) (an : Option Addr) (cdv ct : Value) (us : List Value), us.length = ps.length → bindArgs (PySem.W.fnOf x qual (defArgs st) (defBody st) (defScope st) .none kV doc pm an cdv ct) ⟨us, []⟩ = pure (ps.zip us)) : Binds K fd ps [] := by
  obtain ⟨oc, od, kV, doc, pm, an, cdv, ct, osl, rfl, lk, hcd⟩ := F.ex
  exact .all (h kV doc pm an cdv ct)
theorem fun_mk {x qual : Str} {st : Stmt} {f : Addr} {oc : Value} {od an : Option Addr} {osl : Array (Option Value)} {kV doc pm cdv ct : Value} (l : K.lookup f = some ⟨oc, od, .func (PySem.W.fnOf x qual (defArgs st) (defBody st) (defScope st) .none kV doc pm an cdv ct), osl⟩)
    (c : PySem.W.codeIn K cdv qual = true) (k : PySem.W.keepIn K (.ref f) = true) : Fun K x qual st f (PySem.W.fnOf x qual (defArgs st) (defBody st) (defScope st) .none kV doc pm an cdv ct) := ⟨⟨oc, od, kV, doc, pm, an, cdv, ct, osl, rfl, l, c⟩, k⟩
end
theorem small1000 {n : Nat} (h : n ≤ 1000) : n < sizeLine := Nat.lt_of_le_of_lt h (by decide)

/-! ### expressions in short: the name that stands in the i-th slot -/
section
variable {X : Cx}
theorem pv (i : Nat) {x : Str} {pos : Pos} (hN : X.N[i]? = some x := by rfl) (hv : Vis X.env.scope x := by first | exact Or.inl rfl | exact Or.inr (Or.inl rfl) | exact Or.inr (Or.inr rfl)) (hd : (x == ("__debug__" : Str)) = false := by decide)
    (hcd : (x == ("__classdict__" : Str)) = false := by decide) : PE X (.Name x pos) (tVar i) := pe_var hN hv hd hcd
end

/-! ### tests -/
theorem iteF {A B : Prop} (h : B) : if false = true then A else B := by
  rw [if_neg Bool.false_ne_true]
  exact h
theorem iteT {A B : Prop} (h : A) : if true = true then A else B := by
  rw [if_pos rfl]
  exact h
theorem ite2 {c A B : Prop} [Decidable c] (h1 : c → A) (h2 : ¬ c → B) : if c then A else B := by
  by_cases h : c
  · rw [if_pos h]
    exact h1 h
  · rw [if_neg h]
    exact h2 h
/-! ### heaps -/
/-- all that was tracked is as it was -/
def Same (H H' : Hp) : Prop := ∀ b o, H b = some o → H' b = some o
theorem Same.refl (H : Hp) : Same H H := fun _ _ h => h
theorem Same.trans {H H1 H2 : Hp} (a : Same H H1) (b : Same H1 H2) : Same H H2 := fun c o h => b c o (a c o h)
theorem Same.free {H H' : Hp} (e : Same H H') {l : Addr} (h : H' l = Option.none) : H l = Option.none := by
  cases q : H l with
  | none => rfl
  | some o =>
    rw [e l o q] at h
    cases h
theorem Same.seq {K : PySem.W.Frag} {H H' : Hp} {a : Addr} {xs : List V} (e : Same H H') (h : SqL K H a xs) : SqL K H' a xs := by
  rcases h with (h | ⟨o, h⟩) | h
  · exact .inl (.inl (e _ _ h))
  · exact .inl (.inr ⟨o, e _ _ h⟩)
  · exact .inr h

/-! ### a dict's pairs: keys that differ -/
section
variable {κ : Type} [DecidableEq κ]
end
end L2

namespace L2
open PySem PySem.Spec PyProof.Rows
/-! ### an exception has left a call: its own objects are new, all else but the callers' frames stands in B -/
structure Flown (P : Program) (w : World) (outer : List Env) (H : Hp) (s : Shared) (E : XK) (e : Value) (s' : Shared) : Prop where
  ex : ∃ (ea C : Addr) (a0 : Value) (B : Heap) (H' : Hp), e = .ref ea ∧ s'.os = s.os ∧ AllBare s'.gens ∧ Heap.FlyingW B outer ea (.ref C) a0 s'.heap ∧ HOk P w H' B ∧ Un (frs outer) [] H H' s.heap s'.heap ∧
    (∀ b o, s.heap.get? b = some o → b ∈ frs outer ∨ ∃ o', B.get? b = some o') ∧ E (.ref C) none H'
theorem flown_none {P : Program} {w : World} {outer : List Env} {H : Hp} {s s' : Shared} {e : Value} (h : Flown P w outer H s E0 e s') : False := by
  obtain ⟨_, _, _, _, _, _, _, _, _, _, _, _, q⟩ := h.ex
  exact q
theorem passF0 {X : Cx} : Passes (Flown X.prog X.w) X E0 := fun _ _ _ _ _ _ _ h => (flown_none h).elim
section
variable {X : Cx} {pins : List (Addr × Obj)} {σ : St} {H : Hp} {s : Shared}
end
abbrev cxF (P : Program) (w : World) (K : PySem.W.Frag) (mg : Str → Option Value) (base : Heap) (N : List Str) (qual : Str) (scope : Scope) (f : Addr) (cdv : Value) (A : Around) (outer : List Env) (s : Shared) (H : Hp) (E : XK) : Cx :=
  cxOf (Flown P w) P w K mg base N qual scope f cdv A outer s H E
section
variable {P : Program} {w : World} {K : PySem.W.Frag} {mg : Str → Option Value} {base : Heap} {N : List Str} {qual : Str} {scope : Scope} {f : Addr} {cdv : Value} {A : Around} {outer : List Env} {s₀ : Shared} {H₀ : Hp} {E : XK}
end
/-! ### raise C(..) -/
/-! ### a def whose body may raise -/
theorem Fun.okF {P : Program} {w : World} {K : PySem.W.Frag} {mg : Str → Option Value} {base : Heap} {x qual : Str} {st : Stmt} {f : Addr} {fd : FuncData} {N ps : List Str} {k : Nat} {sp : Sp} (F : Fun K x qual st f fd) (S : FnScope N ps (defScope st)) (len : ∀ vs H Q E, sp vs H Q E → vs.length = ps.length)
    (hbody : ∀ (cdv : Value) (A : Around) (outer : List Env) (s : Shared) (H : Hp) (vs : List V) (Q : VK) (E : XK), Room k (A.deeper (envOfC qual (defScope st) s.heap.objs.size f cdv)) → sp vs H Q E →
      ∃ t, PSs (cxF P w K mg base N qual (defScope st) f cdv A outer s H E) (defBody st) t ∧ t { nx := fun _ H' => Q .non H', rt := Q } (start N vs) H) : FnOk P w K mg base (Flown P w) (k + 1) f fd ps sp := by
  obtain ⟨oc, od, kV, doc, pm, an, cdv, ct, osl, rfl, lk, hcd⟩ := F.ex
  exact fn_of lk hcd S len fun A outer s H vs Q E hr hsp => hbody cdv A outer s H vs Q E hr hsp
theorem Fun.okN {P : Program} {w : World} {K : PySem.W.Frag} {mg : Str → Option Value} {base : Heap} {x qual : Str} {st : Stmt} {f : Addr} {fd : FuncData} {N ps : List Str} {k : Nat} {sp : Sp} (F : Fun K x qual st f fd) (S : FnScope N ps (defScope st)) (len : ∀ vs H Q E, sp vs H Q E → vs.length = ps.length)
    (hbody : ∀ (cdv : Value) (A : Around) (outer : List Env) (s : Shared) (H : Hp) (vs : List V) (Q : VK) (E : XK), Room k (A.deeper (envOfC qual (defScope st) s.heap.objs.size f cdv)) → sp vs H Q E →
      ∃ t, PSs (cxF P w K mg base N qual (defScope st) f cdv A outer s H E).nox (defBody st) t ∧ t { nx := fun _ H' => Q .non H', rt := Q } (start N vs) H) : FnOk P w K mg base (Flown P w) (k + 1) f fd ps sp :=
  F.okF S len fun cdv A outer s H vs Q E hr h => let ⟨t, a, b⟩ := hbody cdv A outer s H vs Q E hr h; ⟨t, a.nox, b⟩
end L2
namespace L2
open PySem PySem.Spec PyProof.Rows
section
variable {X : Cx}

/-! ### weaker readings -/
theorem OpR.imp {f : Value → Value → Sem Value} {r r' : R2} (h : OpR X f r) (i : ∀ x y H Q, r' x y H Q → r x y H Q) : OpR X f r' := fun pins s σ H x y v u Q I rx ry q => h pins s σ H x y v u Q I rx ry (i _ _ _ _ q)
theorem IxR.imp {r r' : R2} (h : IxR X r) (i : ∀ x y H Q, r' x y H Q → r x y H Q) : IxR X r' := fun value slice pins s σ H x y v u Q I rx ry q hs => h value slice pins s σ H x y v u Q I rx ry (i _ _ _ _ q) hs

/-! ### names of the module -/
theorem pe_globI {x : Str} {i : Int} {pos : Pos} (hg : Gl X x) (hm : ∃ t, X.mg x = some (.int i t)) (hd : (x == ("__debug__" : Str)) = false := by decide) : PE X (.Name x pos) (tC (.int i)) := by
  obtain ⟨t, e⟩ := hm
  exact pe_glob hg e ⟨t, rfl⟩ hd

theorem pe_tyB {x : Str} {n : String} {pos : Pos} (hg : Gl X x) (hm : X.mg x = none) (hv : bootBuiltins x = some (.type n)) (hn : x ≠ "__name__" := by decide) (hd : (x == ("__debug__" : Str)) = false := by decide) : PE X (.Name x pos) (tC (.ty n)) :=
  pe_bltn hg hm hv (v := .ty n) rfl hn hd
/-! ### a call of a def of the text, the def's facts in one piece -/
structure Cal (P : Program) (w : World) (K : PySem.W.Frag) (mg : Str → Option Value) (base : Heap) (x : Str) (k : Nat) (ps : List Str) (sp : Sp) : Prop where
  ex : ∃ (g : Addr) (gd : FuncData), mg x = some (.ref g) ∧ PySem.W.keepIn K (.ref g) = true ∧ Binds K gd ps [] ∧ FnOk P w K mg base (Flown P w) k g gd ps sp
theorem pe_callC {x : Str} {k k' : Nat} {ps : List Str} {sp : Sp} {p pos : Pos} {e : Expr} {es : List Expr} {t : TA} (C : Cal X.prog X.w X.K X.mg X.base x k ps sp) (hr : Room k' X.A) (hg : Gl X x) (ha : PA X (e :: es) t)
    (hk : k ≤ k' := by decide) (hd : (x == ("__debug__" : Str)) = false := by decide)
    (he : starEach (e :: es) X.env = (false, eval e X.env) :: starEach es X.env := by rfl) (hpl : (backTo pos (starEach es X.env)).any (·.1) = false := by rfl) : PE X (.Call (.Name x p) (e :: es) [] pos) (tCall sp [] E0 t) := by
  obtain ⟨g, gd, hm, hkp, hb, F⟩ := C.ex
  exact pe_call F (hr.mono hk) hg hm hkp hb .nil passF0 ha hd he hpl
/-! ### + and * -/
theorem cat_tup0 {prog : Program} {w : World} {A : Around} {E : Value → Shared → Prop} {s : Shared} {t b : Addr} {vs ws : List Value} {Q : Value → Shared → Prop} (ht : IsTup s.heap t vs.toArray) (hb : IsTup s.heap b ws.toArray) (hv : vs = [])
    (h1 : Q (.ref b) s) : wpAny (model prog w) A (binaryOp .Add (.ref t) (.ref b)) Q E s := by
  obtain ⟨⟨cls, dd, data, sl⟩, ho, hc, n, hd⟩ := id ht
  obtain ⟨⟨cls2, dd2, data2, sl2⟩, ho2, hc2, n2, hd2⟩ := id hb
  simp only at hc hd hc2 hd2
  subst hc hd hc2 hd2
  exact concat_meets ⟨_, ho, rfl⟩ ⟨_, ho2, rfl⟩ noFill_tuple_add seq_tuple_add PySem.F.slot_tuple_add PySem.F.entry_tuple_add (PySem.F.args_tuple_add_2 _ _)
      (tuple_addW0 t b vs.toArray ws.toArray n n2 dd dd2 sl sl2 (by simp [hv])) ⟨ho, ho2, h1⟩
def rCat0 (K : PySem.W.Frag) : R2 := fun x y H Q => ∃ a b ys, x = .ref a ∧ y = .ref b ∧ SqT K H a [] ∧ SqT K H b ys ∧ Q (.ref b) H
theorem op_cat0 : OpR X (binaryOp .Add) (rCat0 X.K) := by
  intro pins s σ H x y v u Q I rx ry h
  obtain ⟨a, b, ys, rfl, rfl, ha, hb, q⟩ := h
  cases rx
  cases ry
  obtain ⟨its, r1, p1, _⟩ := I.tuple ha
  obtain ⟨its2, r2, p2, _⟩ := I.tuple hb
  exact cat_tup0 p1 p2 (r1.nil_iff.mpr rfl) ⟨.ref b, H, I, rfl, q⟩
def rAddV (K : PySem.W.Frag) : R2 := fun x y H Q => match x, y with
  | .int i, .int j => Q (.int (i + j)) H
  | .str i, .str j => i.length + j.length ≤ sizeLine ∧ Q (.str (i ++ j)) H
  | .ref a, .ref b => (∃ xs ys, H a = some (.lst xs) ∧ H b = some (.lst ys) ∧ xs.length + ys.length ≤ sizeLine ∧ ∀ p, H p = none → Q (.ref p) (upd H p (.lst (xs ++ ys)))) ∨
      (∃ xs ys, SqT K H a xs ∧ SqT K H b ys ∧ xs.length + ys.length ≤ sizeLine ∧ (xs = [] → Q (.ref b) H) ∧ (xs ≠ [] → ys = [] → Q (.ref a) H) ∧ (xs ≠ [] → ys ≠ [] → ∀ p, H p = none → Q (.ref p) (upd H p (.tup (xs ++ ys)))))
  | _, _ => False
theorem v_add : OpR X (binaryOp .Add) (rAddV X.K) := by
  refine ((op_add.or op_add_str).or (op_cat.or (op_catT.or op_cat0))).imp fun x y H Q h => ?_
  unfold rAddV at h
  split at h
  · exact .inl (.inl ⟨_, _, rfl, rfl, h⟩)
  · exact .inl (.inr ⟨_, _, rfl, rfl, h⟩)
  · rcases h with ⟨xs, ys, h1, h2, h3, h4⟩ | ⟨xs, ys, h1, h2, h3, h4, h5, h6⟩
    · exact .inr (.inl ⟨_, _, xs, ys, rfl, rfl, h1, h2, h3, h4⟩)
    · by_cases hx : xs = []
      · subst hx
        exact .inr (.inr (.inr ⟨_, _, ys, rfl, rfl, h1, h2, h4 rfl⟩))
      · exact .inr (.inr (.inl ⟨_, _, xs, ys, rfl, rfl, h1, h2, hx, h3, h5 hx, h6 hx⟩))
  · exact h.elim
def rMulV : R2 := fun x y H Q => match x, y with
  | .int i, .int j => IntMulOk i j ∧ Q (.int (i * j)) H
  | .ref l, .int k => ∃ xs, H l = some (.lst xs) ∧ -(2 ^ 63) ≤ k ∧ k < 2 ^ 63 ∧ xs.length * k.toNat ≤ sizeLine ∧ ∀ p, H p = none → Q (.ref p) (upd H p (.lst (List.replicate k.toNat xs).flatten))
  | _, _ => False
theorem op_mulG : OpR X (binaryOp .Mult) (rI IntMulOk fun i j => .int (i * j)) := opI fun _ _ _ _ _ _ _ hc q => mul_int q hc
theorem v_mul : OpR X (binaryOp .Mult) rMulV := by
  refine (op_mulG.or op_rep).imp fun x y H Q h => ?_
  unfold rMulV at h
  split at h
  · exact .inl ⟨_, _, rfl, rfl, h.1, h.2⟩
  · obtain ⟨xs, h1, h2, h3, h4, h5⟩ := h
    exact .inr ⟨_, _, xs, rfl, rfl, h1, h2, h3, h4, h5⟩
  · exact h.elim

/-! ### an item, a slice -/
def rIxV (K : PySem.W.Frag) : R2 := fun x y H Q => match x, y with
  | .ref p, .int i => ∃ xs v, (SqL K H p xs ∨ SqT K H p xs) ∧ atI xs i = some v ∧ Q v H
  | .str z, .int i => ∃ c, z.length ≤ sizeLine ∧ atI z.cps.toList i = some c ∧ Q (.str ⟨#[c]⟩) H
  | _, _ => False
theorem v_ix : IxR X (rIxV X.K) := by
  refine ix_seq.imp fun x y H Q h => ?_
  unfold rIxV at h
  split at h
  · obtain ⟨xs, v, h1 | h1, h2, h3⟩ := h
    · exact .inl ⟨_, xs, _, v, rfl, rfl, h1, h2, h3⟩
    · exact .inr (.inl ⟨_, xs, _, v, rfl, rfl, h1, h2, h3⟩)
  · obtain ⟨c, h1, h2, h3⟩ := h
    exact .inr (.inr ⟨_, _, c, rfl, rfl, h1, h2, h3⟩)
  · exact h.elim

/-! ### isinstance of built-in types -/
def tyNm (H : Hp) : V → Option String
  | .non => some "NoneType"
  | .bl _ => some "bool"
  | .int _ => some "int"
  | .str _ => some "str"
  | .ref a => match H a with
    | some (.lst _) => some "list"
    | some (.frz _ (.lst _)) => some "list"
    | some (.tup _) => some "tuple"
    | some (.dK _) => some "dict"
    | _ => none
  | _ => none
def subB (t c : String) : Bool := t == c || (t == "bool" && c == "int")
theorem kit_b {K : PySem.W.Frag} {t c : String} (ht : t ∈ ["NoneType", "bool", "int", "str", "list", "tuple", "dict"]) (hc : c ∈ ["int", "bool", "tuple", "list", "str", "dict"]) : PySem.W.kitOne K (.type t) (.type c) = some (subB t c) := by
  simp only [List.mem_cons, List.not_mem_nil, or_false] at ht hc
  rcases ht with rfl | rfl | rfl | rfl | rfl | rfl | rfl <;> rcases hc with rfl | rfl | rfl | rfl | rfl | rfl <;> kernel_rfl
theorem tyNm_of {K : PySem.W.Frag} {H : Hp} {x : V} {t : String} (h : tyNm H x = some t) : TyOf K H x (.type t) ∧ t ∈ ["NoneType", "bool", "int", "str", "list", "tuple", "dict"] := by
  unfold tyNm at h
  split at h
  · cases h; exact ⟨.non, by simp⟩
  · cases h; exact ⟨.bl _, by simp⟩
  · cases h; exact ⟨.int _, by simp⟩
  · cases h; exact ⟨.str _, by simp⟩
  · split at h
    · rename_i e; cases h; exact ⟨.lst e, by simp⟩
    · rename_i e; cases h; exact ⟨.frz e, by simp⟩
    · rename_i e; cases h; exact ⟨.tup e, by simp⟩
    · rename_i e; cases h; exact ⟨.dK e, by simp⟩
    · cases h
  · cases h
theorem v_isinstance : CallR X (.builtin "isinstance") (fun xs H Q => ∃ x c t, xs = [x, .ty c] ∧ tyNm H x = some t ∧ c ∈ ["int", "bool", "tuple", "list", "str", "dict"] ∧ Q (.bl (subB t c)) H) := by
  intro pins s σ H xs us Q I r h
  obtain ⟨x, c, t, rfl, ht, hc, q⟩ := h
  obtain ⟨u, v, rfl, ru, rv⟩ := r.two
  cases rv
  obtain ⟨ty, hm⟩ := tyNm_of (K := X.K) ht
  exact isinst_ok I ru ty (kit_b hm hc) fun tk => ⟨.bl _, H, I.tok tk, rfl, q⟩

/-! ### all of a list of bools, the sum of a list of ints -/
theorem v_sum (hc : X.calm = true) : CallR X (.builtin "sum") (fun xs H Q => ∃ (l : Addr) (ns : List Int), xs = [.ref l] ∧ SqL X.K H l (ns.map V.int) ∧ Q (.int ns.sum) H) := by
  intro pins s σ H xs us Q I r h
  obtain ⟨l, ns, rfl, hl, q⟩ := h
  obtain ⟨u, rfl, ru⟩ := r.one
  cases ru
  obtain ⟨its, rv, pl, hz⟩ := I.list hl
  have hi := intsAre_of rv
  obtain ⟨xs, hx⟩ := hi.allInts.items
  have hl' : s.heap.IsList l (intItems xs) := hx ▸ pl.isList
  refine sum_intListG (I.ok.hd hc) hl' fun h' tk t' hk => ?_
  have e1 : ns = xs.toList.map (·.1) := by
    rw [← nums_intItems, ← hx]
    exact (show numsOf its.toArray.toList = ns from hi.numsOf).symm
  have e2 : preSum (numAt xs) xs.size = ns.sum := by
    rw [preSum_eq, List.take_of_length_le (by simp), e1]
  rw [e2]
  exact ⟨.int _, H, I.kept hk, ⟨_, rfl⟩, q⟩

/-! ### what is walked: a list or a tuple -/
def iSeq (K : PySem.W.Frag) (tl : TE) : TI := fun σ H R => tl σ H fun x H1 => ∃ a, x = .ref a ∧ (((∃ xs, SqL K H1 a xs) ∧ R (Itl K a) H1) ∨ ((∃ xs, SqT K H1 a xs) ∧ R (Itt K a) H1))
theorem pi_seq {tg l : Expr} {tl : TE} (hl : PE X l tl) : PI X tg l (iSeq X.K tl) := by
  intro pins s σ H R I h
  refine thn (hl pins s σ H _ I h) fun v s1 ⟨x, H1, I1, r1, a, e, q⟩ => ?_
  subst e
  cases r1
  rcases q with ⟨⟨xs, hq⟩, q⟩ | ⟨⟨xs, hq⟩, q⟩
  · have hh : PI X tg l (iList X.K fun σ' H' Q => Q (.ref a) H') → True := fun _ => trivial
    obtain ⟨its, rv, p, hz⟩ := I1.list hq
    refine wpAny_pyIter_list p.isList ?_
    refine ⟨s1.heap.objs.size, [s1.heap.objs.size], _, _, H1, rfl, I1.kept (t' := s1.toks) fun b o e => Heap.get?_push_of_some _ e, turn_list a _, ⟨_, Heap.get?_push_size _ rfl, rfl, rfl⟩, fun b hb => ?_, q⟩
    have e : b = s1.heap.objs.size := by simpa using hb
    subst e
    exact I1.fpOk (Nat.le_refl _) (I1.hok.fresh (Nat.le_refl _))
  · obtain ⟨its, rv, p, hz⟩ := I1.tuple hq
    refine wpAny_pyIter_tuple (show s1.heap.IsTuple a its.toArray from p) ?_
    refine ⟨s1.heap.objs.size, [s1.heap.objs.size], _, _, H1, rfl, I1.kept (t' := s1.toks) fun b o e => Heap.get?_push_of_some _ e, turn_tuple a _, ⟨_, Heap.get?_push_size _ rfl, rfl, rfl⟩, fun b hb => ?_, q⟩
    have e : b = s1.heap.objs.size := by simpa using hb
    subst e
    exact I1.fpOk (Nat.le_refl _) (I1.hok.fresh (Nat.le_refl _))
end
end L2
namespace L2
open PySem PySem.Spec PyProof.Rows

/-! ### a list comprehension of one clause: its block, its rule -/
theorem closure_go {env : Env} : ∀ (names : List (Str × NameKind)) (acc : List (Str × Addr)), (∀ y ∈ names, y.2 = .free → ∃ c, env.cells.lookup y.1 = some c) → (∀ p ∈ acc, env.cells.lookup p.1 = some p.2) →
   ∃ cl, (forIn names acc fun (y : Str × NameKind) (cs : List (Str × Addr)) => match y with | (name, kind) => if (kind == .free) = true then do let a ← cellOf env name; pure (ForInStep.yield ((name, a) :: cs)) else pure (ForInStep.yield cs)) = (pure cl : Sem _) ∧ (∀ p ∈ cl, env.cells.lookup p.1 = some p.2) ∧ (∀ p ∈ acc, p ∈ cl) ∧ ∀ y ∈ names, y.2 = .free → ∃ c, (y.1, c) ∈ cl
  | [], acc, _, ha => ⟨acc, rfl, ha, fun _ h => h, fun _ h => nomatch h⟩
  | (n, k) :: r, acc, hf, ha => by
    have hr : ∀ y ∈ r, y.2 = .free → ∃ c, env.cells.lookup y.1 = some c := fun y hy => hf y (List.mem_cons_of_mem _ hy)
    by_cases hk : k = .free
    · subst hk
      obtain ⟨c, hc⟩ := hf (n, .free) List.mem_cons_self rfl
      obtain ⟨cl, e, h1, h2, h3⟩ := closure_go r ((n, c) :: acc) hr (fun p hp => by
        rcases List.mem_cons.mp hp with rfl | hp
        · exact hc
        · exact ha p hp)
      refine ⟨cl, ?_, h1, fun p hp => h2 p (List.mem_cons_of_mem _ hp), fun y hy hyf => ?_⟩
      · rw [List.forIn_cons]
        simp only [beq_self_eq_true, if_true, cellOf, hc, pure_bind]
        exact e
      · rcases List.mem_cons.mp hy with rfl | hy
        · exact ⟨c, h2 _ List.mem_cons_self⟩
        · exact h3 y hy hyf
    · have hb : (k == NameKind.free) = false := by simpa using hk
      obtain ⟨cl, e, h1, h2, h3⟩ := closure_go r acc hr ha
      refine ⟨cl, ?_, h1, h2, fun y hy hyf => ?_⟩
      · rw [List.forIn_cons]
        simp only [hb, Bool.false_eq_true, if_false, pure_bind]
        exact e
      · rcases List.mem_cons.mp hy with rfl | hy
        · exact absurd hyf hk
        · exact h3 y hy hyf
theorem closure_ok {env : Env} {scope : Scope} (hf : ∀ y ∈ scope.names, y.2 = .free → ∃ c, env.cells.lookup y.1 = some c) :
    ∃ cl, closureFor scope env = pure cl ∧ (∀ x c, cl.lookup x = some c → env.cells.lookup x = some c) ∧ ∀ y ∈ scope.names, y.2 = .free → ∃ c, cl.lookup y.1 = some c := by
  obtain ⟨cl, e, h1, _, h3⟩ := closure_go (env := env) scope.names [] hf (fun _ h => nomatch h)
  refine ⟨cl, ?_, fun x c h => h1 (x, c) (PySem.mem_of_lookup h), fun y hy hyf => ?_⟩
  · unfold closureFor
    simp only [bind_pure_comp] at e ⊢
    rw [e]
    rfl
  · obtain ⟨c, hc⟩ := h3 y hy hyf
    cases q : cl.lookup y.1 with
    | some d => exact ⟨d, rfl⟩
    | none =>
      have z := List.lookup_eq_none_iff.mp q (y.1, c) hc
      simp at z

def cEnv (sc : Scope) (cl : List (Str × Addr)) (C : Addr) (env : Env) : Env :=
  { scope := sc, locals := C, globals := env.globals, cells := cl, qual := env.qual, func := none, code := env.code, frame := env.frame, builtins := env.builtins }
/-- the context of the block -/
def cCx (X : Cx) (sc : Scope) (N : List Str) (cl : List (Str × Addr)) (C : Addr) (s₀ : Shared) (H₀ : Hp) (ex : List Addr) : Cx :=
  { X with env := cEnv sc cl C X.env, N := N, s₀ := s₀, H₀ := H₀, outer := X.stack, ex := ex, fn := fun _ => false, pn := [], xe := fun _ _ => False }
/-- the block's names: new ones (none), and those of the def around it, by their slots there -/
def cst (ix : List (Option Nat)) (σ : St) : St := ix.map fun o => match o with
  | none => none
  | some i => match σ[i]? with
    | some v => v
    | none => none

def PIf (X : Cx) (ifs : List Expr) (t : TT) : Prop :=
  ∀ (pins : List (Addr × Obj)) (s : Shared) (σ : St) (H : Hp) (Q : Bool → Hp → Prop), Inv X pins σ H s → t σ H Q →
    wpAny (model X.prog X.w) X.A (forIn ifs true fun c r => if r = true then do let ok ← isTrue c X.env (eval c X.env); pure (ForInStep.yield ok) else pure (ForInStep.yield r)) (TP X pins σ Q) X.xe s
def tYes : TT := fun _ H Q => Q true H
theorem pif_nil {X : Cx} : PIf X [] tYes := fun _ _ _ H _ I h => wpAny_tests_nil ⟨H, I, h⟩
theorem codeAny_compLoop_any {prog : Program} {w : World} {A : Around} {R : Result → Shared → Prop} {s : Shared} {elt target iter : Expr} {ifs : List Expr} {scope : Scope} {pos : Pos} {it acc : Value} {env : Env} (I : Nat → Shared → Prop)
    (turn : ∀ n s, I n s → wpAny (model prog w) A (pyNext it) (fun r s₁ => match r with
      | none => R (.ok .next) s₁
      | some v => wpAny (model prog w) A (letOwnedTupleGo target it v) (fun _ s₀ => wpAny (model prog w) A (assign target env v) (fun _ s₂ =>
          wpAny (model prog w) A (forIn ifs true fun c r => if r = true then do let ok ← isTrue c env (eval c env); pure (ForInStep.yield ok) else pure (ForInStep.yield r)) (fun ok s₃ =>
            if ok = true then wpAny (model prog w) A (eval elt env) (fun x s₄ =>
              wpAny (model prog w) A (call (.builtin "list.append") [acc, x]) (fun _ s₅ => ∃ m, m < n ∧ I m s₅) (fun _ _ => False) s₄) (fun _ _ => False) s₃
            else ∃ m, m < n ∧ I m s₃) (fun _ _ => False) s₂) (fun _ _ => False) s₀) (fun _ _ => False) s₁) (fun _ _ => False) s)
    (n : Nat) (h : I n s) :
    codeAny (model prog w) A (.compLoop (.ListComp elt [⟨target, iter, ifs, 0⟩] scope pos) 0 it acc env) R s := by
  refine codeAny_loop rfl I (fun n s hI => ?_) n h
  show wpAny _ A ((compTurn (.ListComp elt [⟨target, iter, ifs, 0⟩] scope pos) 0 it acc env).onRaise (fun x => do noteFrame x env; theTreesLotGoes x)) _ _ s
  refine wpAny_noted ?_
  rw [compTurn_list]
  refine wpAny_bind (wpAny_standAt (wpAny_bind (wpAny_mono (turn n s hI) (fun r s₁ h₁ => ?_) fun _ _ h' => h'.elim)))
  cases r with
  | none => exact wpAny_pure h₁
  | some v =>
    refine wpAny_bind (wpAny_mono h₁ (fun _ s₀ h₀ => ?_) fun _ _ h' => h'.elim)
    refine wpAny_bind (wpAny_mono h₀ (fun _ s₂ h₂ => wpAny_bind (wpAny_mono h₂ (fun ok s₃ h₃ => ?_) fun _ _ h' => h'.elim)) fun _ _ h' => h'.elim)
    cases ok with
    | false => exact wpAny_pure ⟨rfl, h₃⟩
    | true =>
      exact wpAny_bind (wpAny_bind (wpAny_mono h₃ (fun x s₄ h₄ => wpAny_bind (wpAny_mono h₄ (fun _ s₅ h₅ => wpAny_pure (wpAny_pure ⟨rfl, h₅⟩)) fun _ _ h' => h'.elim)) fun _ _ h' => h'.elim))

/-- the block's loop (D: the new list; W: the invariant by the turn and a measure, over the block's names); a structure, so that nothing opens it by itself -/
structure CompK (ix : List (Option Nat)) (g : TG) (tc : TT) (te : TE) (σ : St) (Q : VK) (J : It) (H1 : Hp) : Prop where
  go : ∀ D, H1 D = none → ∃ W : Nat → Nat → St → Hp → Prop, (∃ m, W 0 m (cst ix σ) (upd H1 D (.lst []))) ∧
    ∀ i m σ' H', W i m σ' H' → (J.stop i H' ∧ Q (.ref D) H') ∨ (J.go i H' ∧ ∀ x H2, J.yld i H' x H2 → g x σ' H2 fun σ3 H3 => tc σ3 H3 fun b H4 =>
      if b = true then te σ3 H4 fun y H5 => ∃ ys, H5 D = some (.lst ys) ∧ ys.length < sizeLine ∧ ∃ m', m' < m ∧ W (i + 1) m' σ3 (upd H5 D (.lst (ys ++ [y])))
      else ∃ m', m' < m ∧ W (i + 1) m' σ3 H4)
def tComp (ix : List (Option Nat)) (wi : TI) (g : TG) (tc : TT) (te : TE) : TE := fun σ H Q => wi σ H fun J H1 => CompK ix g tc te σ Q J H1

structure CompOk (X : Cx) (scope sc : Scope) (N : List Str) (ix : List (Option Nat)) : Prop where
  rel : relabel scope X.env = sc
  kind : scope.kind = .function
  cell : ∀ y ∈ scope.names, y.2 ≠ .cell
  names : ∀ x ∈ scope.names, x.2 = .local → scope.names.lookup x.1 = some .local
  free : ∀ y ∈ scope.names, y.2 = .free → X.env.kindOf y.1 = some .cell ∨ X.env.kindOf y.1 = some .free
  len : N.length = ix.length
  ix : ∀ (j : Nat) (x : Str) (i : Nat), N[j]? = some x → ix[j]? = some (some i) → X.N[i]? = some x ∧ (x, NameKind.free) ∈ scope.names ∧ (sc.names.lookup x = some .cell ∨ sc.names.lookup x = some .free)
  has : ∀ x, (sc.names.lookup x = some .cell ∨ sc.names.lookup x = some .free) → (x, NameKind.free) ∈ scope.names

theorem comp_core {X : Cx} {tg iter elt : Expr} {ifs : List Expr} {scope sc : Scope} {pos ip : Pos} {wi : TI} {g : TG} {tc : TT} {te : TE} {N : List Str} {ix : List (Option Nat)} (O : CompOk X scope sc N ix) (hc : X.calm = true) (hi : PI X tg iter wi)
    (hb : ∀ cl C s₀ H₀ ex, PG (cCx X sc N cl C s₀ H₀ ex) tg g ∧ PIf (cCx X sc N cl C s₀ H₀ ex) ifs tc ∧ PE (cCx X sc N cl C s₀ H₀ ex) elt te) (hs : ∀ x, foldedSetIterable iter X.env x = pure x)
    {use : Option (Value → Sem Unit)} {QQ : Value → Shared → Prop} {pins : List (Addr × Obj)} {s : Shared} {σ : St} {H : Hp} {Q : VK} (I : Inv X pins σ H s) (h : tComp ix wi g tc te σ H Q)
    (fin : ∀ (D C : Addr) (s6 : Shared) (H5 : Hp) (m : Str → Option Value), Inv X pins σ H5 s6 → s6.heap.Ns C m → FpOk X pins H5 C → Q (.ref D) H5 → compPost (model X.prog X.w) X.A X.xe use QQ (.ref D) C (.ok .next) s6) :
    wpAny (model X.prog X.w) X.A (comprehension (.ListComp elt [⟨tg, iter, ifs, 0⟩] scope pos) scope X.env ip (newList []) false (eval iter X.env) use) QQ X.xe s := by
  have hcl : ∃ cl, closureFor scope X.env = pure cl ∧ (∀ x c, cl.lookup x = some c → X.env.cells.lookup x = some c) ∧ ∀ y ∈ scope.names, y.2 = .free → ∃ c, cl.lookup y.1 = some c :=
    closure_ok fun y hy hf => I.ok.has y.1 (O.free y hy hf)
  obtain ⟨cl, ecl, hcl1, hcl2⟩ := hcl
  refine wpAny_comprehension_free (use := use) rfl hs ecl O.kind O.names (thn (hi pins s σ H _ I h) fun v s1 h1 => thn h1 fun itv s2 h2 => ?_)
  obtain ⟨it, fp, tn, J, H2, e, I2, T, st2, f2, q2⟩ := h2
  subst e
  obtain ⟨W, ⟨m0, w0⟩, turn⟩ := q2.go s2.heap.objs.size I2.fresh
  -- the new list
  refine wpAny_newObj_type ?_
  have I3 := I2.lnew (its := []) (t' := s2.toks) (ys := []) .nil (Nat.zero_le _)
  generalize eH3 : upd H2 s2.heap.objs.size (.lst []) = H3 at I3 w0
  have eD : H3 s2.heap.objs.size = some (.lst []) := by rw [← eH3]; exact upd_same
  have hfp2 : ∀ b ∈ fp, b ≠ s2.heap.objs.size := fun b hb z => by
    obtain ⟨o, ho, _⟩ := T.obj _ _ st2 b hb
    exact absurd (Heap.lt_size ho) (by rw [z]; exact Nat.lt_irrefl _)
  have st3 : tn 0 (s2.heap.push { cls := .type "list", dict := none, data := .seq ([] : List Value).toArray }) := T.keep _ _ _ st2 fun b _ o e => Heap.get?_push_of_some _ e
  have f3 : ∀ b ∈ fp, FpOk X pins H3 b := fun b hb => ⟨by rw [← eH3, upd_ne (hfp2 b hb)]; exact (f2 b hb).1, (f2 b hb).2⟩
  generalize es3 : ({ s2 with heap := s2.heap.push { cls := .type "list", dict := none, data := .seq ([] : List Value).toArray }, toks := s2.toks } : Shared) = s3 at I3
  have st3' : tn 0 s3.heap := by rw [← es3]; exact st3
  -- the block's frame
  refine wpAny_newFunctionEnv O.cell (fun y hy => nomatch hy) (fun h4 hns4 hsb4 => ?_) O.kind
  have keep4 : ∀ b o, s3.heap.get? b = some o → h4.get? b = some o := fun b o e => (hsb4.2 b (Nat.ne_of_lt (Heap.lt_size e))).trans (Heap.get?_push_of_some _ e)
  have I4 : Inv X pins σ H3 { s3 with heap := h4, toks := s3.toks + ([] : List (Str × Value)).length } := I3.kept keep4
  have eenv : ({ newEnv scope s3.heap.objs.size X.env.globals cl X.env.qual none .none (some X.env) builtinsNs with scope := relabel scope X.env } : Env) = cEnv sc cl s3.heap.objs.size X.env := by rw [O.rel]; rfl
  rw [eenv]
  show codeAny _ _ _ (compPost (model X.prog X.w) X.A X.xe use QQ (.ref s2.heap.objs.size) s3.heap.objs.size) _
  generalize eC : s3.heap.objs.size = C
  generalize es4 : ({ s3 with heap := h4, toks := s3.toks + ([] : List (Str × Value)).length } : Shared) = s4 at I4
  have h4s : s4.heap = h4 := by rw [← es4]
  have o4s : s4.os = s3.os := by rw [← es4]
  have fC : ∀ b ∈ fp, b ≠ C := fun b hb z => by
    obtain ⟨o, ho, _⟩ := T.obj _ _ st3' b hb
    exact absurd (Heap.lt_size ho) (by rw [z, eC]; exact Nat.lt_irrefl _)
  have okC : (cCx X sc N cl C s3 H3 fp).Ok := by
    refine ⟨I3.ok.mod, ?_, I3.ok.glob, I3.ok.blt, Nat.le_of_eq eC, fun x y c h1 h2 => I3.ok.inj x y c (hcl1 x c h1) (hcl1 y c h2), fun x hx => ?_, fun x c z _ => (nomatch z), I3.ok.hd, I3.ok.frames, .inl rfl, fun b hb => ⟨fC b hb, fun x c e => (f3 b hb).2.2.2.2.1 x c (hcl1 x c e)⟩,
      I3.bs, Nat.le_trans I3.ok.bsz I3.sz, fun b o e hb => ?_, fun b hb z => ?_, I3.stack, I3.stkFree⟩
    · show sc.kind = .function
      rw [← O.rel]; exact O.kind
    · exact hcl2 (x, .free) (O.has x hx) rfl
    · rcases (f3 b hb).2.2.2.1 with z | z
      · exact I3.ok.noex b o e z
      · exact absurd (Nat.lt_of_lt_of_le (Heap.lt_size e) (Nat.le_trans I3.ok.bsz z)) (Nat.lt_irrefl _)
    · rcases List.mem_cons.mp (I3.stkSub b z) with z | z
      · exact (f3 b hb).2.1 z
      · exact (f3 b hb).2.2.1 z
  have IC : Inv (cCx X sc N cl C s3 H3 fp) [] (cst ix σ) H3 s4 := by
    refine ⟨okC, o4s, I4.bare, ?_, ?_, fun x c e => I4.cell x c (hcl1 x c e), ?_, fun x c e => I4.freeC x c (hcl1 x c e), fun p hp => (nomatch hp), I4.hok, ?_⟩
    · rw [h4s]
      exact Un.kept keep4
    · refine ⟨_, by rw [h4s, ← eC]; exact hns4, fun j x v e1 e2 e3 => ?_⟩
      have e2' : (cst ix σ)[j]? = some (some v) := e2
      unfold cst at e2'
      rw [List.getElem?_map] at e2'
      cases q : ix[j]? with
      | none => rw [q] at e2'; cases e2'
      | some o =>
        rw [q] at e2'
        cases o with
        | none => cases e2'
        | some i =>
          obtain ⟨hx, hm, hsc⟩ := O.ix j x i e1 q
          cases q2 : σ[i]? with
          | none => simp [q2] at e2'
          | some w' =>
            simp [q2] at e2'
            subst e2'
            obtain ⟨m, hn, hl⟩ := I4.loc
            have kf := O.free (x, .free) hm rfl
            have vis : Vis X.env.scope x := by
              rcases kf with k | k
              · exact .inr (.inl k)
              · exact .inr (.inr k)
            obtain ⟨u, r, l⟩ := hl i x v hx q2 vis
            refine ⟨u, r, ?_⟩
            rcases l with ⟨k, _⟩ | ⟨_, c, e, z⟩
            · rcases kf with k' | k'
              · rw [k] at k'; cases k'
              · rw [k] at k'; cases k'
            · obtain ⟨c', e'⟩ := hcl2 (x, .free) hm rfl
              have := hcl1 x c' e'
              rw [e] at this; cases this
              exact .inr ⟨hsc, c, e', z⟩
    · rw [← eC]
      exact I3.fresh
    · show (cst ix σ).length = N.length
      rw [O.len]; simp [cst]
  have st4 : tn 0 s4.heap := T.keep _ _ _ st3' fun b _ o e => by rw [h4s]; exact keep4 b o e
  have stat : ∀ {H' : Hp}, (∀ b ∈ fp, H' b = none) → ∀ b ∈ fp, FpOk (cCx X sc N cl C s3 H3 fp) [] H' b := fun hn b hb =>
    ⟨hn b hb, fC b hb, okC.exfs b hb, .inl hb, fun x c e => (f3 b hb).2.2.2.2.1 x c (hcl1 x c e), fun p hp => (nomatch hp)⟩
  obtain ⟨hg, ht, he⟩ := hb cl C s3 H3 fp
  -- the loop
  have loop : codeAny (model X.prog X.w) X.A (.compLoop (.ListComp elt [⟨tg, iter, ifs, 0⟩] scope pos) 0 (.ref it) (.ref s2.heap.objs.size) (cEnv sc cl C X.env))
      (compPost (model X.prog X.w) X.A X.xe use QQ (.ref s2.heap.objs.size) C) s4 := by
    refine codeAny_compLoop_any (fun n s' => ∃ i σ' H', Inv (cCx X sc N cl C s3 H3 fp) [] σ' H' s' ∧ tn i s'.heap ∧ (∀ b ∈ fp, H' b = none) ∧ W i n σ' H') ?_ m0 ⟨0, cst ix σ, H3, IC, st4, fun b hb => (f3 b hb).1, w0⟩
    rintro n s5 ⟨i, σ5, H5, I5, st5, fr5, w5⟩
    rcases turn i n σ5 H5 w5 with ⟨stop, qn⟩ | ⟨go, step⟩
    · refine thn (T.done (cCx X sc N cl C s3 H3 fp) rfl rfl rfl hc i [] s5 σ5 H5 (fun _ _ => False) I5 (stat fr5) st5 stop) fun r s6 ⟨hr, I6⟩ => ?_
      subst hr
      obtain ⟨m, hn, _⟩ := id I6.loc
      have I7 : Inv X pins σ H5 s6 := I3.call' (ch := fp) I6.os I6.base I6.hok I6.bare fun b hb => ⟨(f3 b hb).2.2.2.1, (f3 b hb).2.1, (f3 b hb).2.2.2.2.1, (f3 b hb).2.2.2.2.2⟩
      exact fin _ C s6 H5 m I7 hn (I3.fpOk (Nat.le_of_eq eC) I6.free) qn
    · refine thn (T.item (cCx X sc N cl C s3 H3 fp) rfl rfl rfl hc i [] s5 σ5 H5 (fun _ _ => False) I5 (stat fr5) st5 go) fun r s6 ⟨u, hr, h6⟩ => ?_
      subst hr
      refine thn h6 fun _ s7 ⟨x, H7, I7, r7, y7, st7, fr7⟩ => ?_
      have I7' := I7.pinned (stat fr7) (T.obj _ _ st7)
      have again : ∀ {σ9 : St} {H9 : Hp} {s9 : Shared} {m' : Nat}, Inv (cCx X sc N cl C s3 H3 fp) ([] ++ pinsAt fp s7.heap) σ9 H9 s9 → m' < n → W (i + 1) m' σ9 H9 →
          ∃ m, m < n ∧ ∃ i σ' H', Inv (cCx X sc N cl C s3 H3 fp) [] σ' H' s9 ∧ tn i s9.heap ∧ (∀ b ∈ fp, H' b = none) ∧ W i m σ' H' := fun {σ9 H9 s9 m'} I9 hm w9 => by
        refine ⟨m', hm, i + 1, σ9, H9, I9.unpinned, T.keep _ _ _ st7 fun b hb o e => (I9.pin (b, o) (List.mem_append_right _ (List.mem_append_right _ (mem_pinsAt hb e)))).1, fun b hb => ?_, w9⟩
        obtain ⟨o, e, d⟩ := T.obj _ _ st7 b hb
        exact (I9.pin (b, o) (List.mem_append_right _ (List.mem_append_right _ (mem_pinsAt hb e)))).2.1
      refine thn (hg _ s7 σ5 H7 x u _ I7' r7 (step x H7 y7)) fun _ s8 ⟨σ8, H8, I8, q8⟩ => ?_
      refine thn (ht _ s8 σ8 H8 _ I8 q8) fun b s9 ⟨H9, I9, q9⟩ => ?_
      cases b with
      | false =>
        rw [if_neg Bool.false_ne_true] at q9
        obtain ⟨m', hm, w9⟩ := q9
        rw [if_neg Bool.false_ne_true]
        exact again I9 hm w9
      | true =>
        rw [if_pos rfl] at q9
        rw [if_pos rfl]
        refine thn (he _ s9 σ8 H9 _ I9 q9) fun y s10 ⟨yv, H10, I10, r10, ys, e10, z10, m', hm, w10⟩ => ?_
        refine thn (mt_append _ s10 σ8 H10 (.ref s2.heap.objs.size) [yv] (.ref s2.heap.objs.size) [y] (fun _ H' => W (i + 1) m' σ8 H') I10 rfl (.cons r10 .nil) ⟨_, ys, yv, rfl, rfl, e10, z10, w10⟩) fun _ s11 ⟨_, H11, I11, _, w11⟩ => ?_
        exact again I11 hm w11
  exact codeAny_compStart_list loop (T.self _ _ _ _ _ st4 loop)
theorem pe_comp {X : Cx} {tg iter elt : Expr} {ifs : List Expr} {scope sc : Scope} {pos : Pos} {wi : TI} {g : TG} {tc : TT} {te : TE} {N : List Str} {ix : List (Option Nat)} (O : CompOk X scope sc N ix) (hc : X.calm = true) (hi : PI X tg iter wi)
    (hb : ∀ cl C s₀ H₀ ex, PG (cCx X sc N cl C s₀ H₀ ex) tg g ∧ PIf (cCx X sc N cl C s₀ H₀ ex) ifs tc ∧ PE (cCx X sc N cl C s₀ H₀ ex) elt te)
    (hs : ∀ x, foldedSetIterable iter X.env x = pure x := by intro _; rfl) : PE X (.ListComp elt [⟨tg, iter, ifs, 0⟩] scope pos) (tComp ix wi g tc te) := by
  intro pins s σ H Q I h
  rw [eval_ListComp]
  exact comp_core (use := none) (QQ := EP X pins σ Q) O hc hi hb hs I h fun D C s6 H5 m I7 hn f q => ⟨m, hn, fun h' hs' => ⟨.ref D, H5, I7.turned (it := C) (t' := s6.toks) (fun b o hb e => (hs'.2 b hb).trans e) f.1 f.2.1 f.2.2.2.1 f.2.2.2.2.1 f.2.2.2.2.2, rfl, q⟩⟩
/-- name = [..] in one row: stored before the block's names go -/
theorem ps_setC {X : Cx} {i : Nat} {y : Str} {py spos : Pos} {tg iter elt : Expr} {ifs : List Expr} {scope sc : Scope} {pos : Pos} {wi : TI} {g : TG} {tc : TT} {te : TE} {N : List Str} {ix : List (Option Nat)} (hN : X.N.Nodup) (hi' : X.N[i]? = some y) (hx : Loc X.env.scope y)
    (O : CompOk X scope sc N ix) (hc : X.calm = true) (hi : PI X tg iter wi)
    (hb : ∀ cl C s₀ H₀ ex, PG (cCx X sc N cl C s₀ H₀ ex) tg g ∧ PIf (cCx X sc N cl C s₀ H₀ ex) ifs tc ∧ PE (cCx X sc N cl C s₀ H₀ ex) elt te)
    (hs : ∀ x, foldedSetIterable iter X.env x = pure x := by intro _; rfl) (hsw : swapsWith (.ListComp elt [⟨tg, iter, ifs, 0⟩] scope pos) (some (.Name y py)) spos.line X.env = pure true := by rfl)
    (hf : X.fn y = true ∨ X.env.scope.names.lookup y = some .local := by first | exact .inl rfl | exact .inr rfl | assumption) :
    PS X (.Assign [.Name y py] (.ListComp elt [⟨tg, iter, ifs, 0⟩] scope pos) spos) (tAsg (tComp ix wi g tc te) (gName i)) := by
  intro pins s σ H D I h
  rw [exec_Assign_Name_used _ _ _ _ hsw]
  refine wpAny_bind (wpAny_standAt (wpAny_bind ?_))
  show wpAny _ X.A (do let _ ← comprehension (.ListComp elt [⟨tg, iter, ifs, 0⟩] scope pos) scope X.env _ (newList []) false (eval iter X.env) (some (assign (.Name y py) X.env))) _ _ s
  refine wpAny_bind (wpAny_mono (comp_core (use := some (assign (.Name y py) X.env)) (QQ := fun _ s' => ∃ σ' H', Inv X pins σ' H' s' ∧ D.nx σ' H') O hc hi hb hs I h fun D1 C s6 H5 m I7 hn f q => ?_) (fun _ s' ⟨σ', H', I', q'⟩ => wpAny_pure (wpAny_pure ⟨σ', H', I', q'⟩)) fun _ _ e => e)
  obtain ⟨o, es, ep, ho, hc1, hc2⟩ := id hn
  have I8 := I7.pinned (fp := [C]) (fun b hb => by
    have e : b = C := by simpa using hb
    subst e; exact f) (fun b hb => by
    have e : b = C := by simpa using hb
    subst e; exact ⟨o, ho, fun v z => by first | (rw [hc1.2] at z; cases z) | (rw [hc2.1] at z; cases z) | (rw [hc1] at z; cases z) | (simp_all)⟩)
  show wpAny _ X.A (assign (.Name y py) X.env (.ref D1)) _ _ _
  refine wpAny_assign_Name (store_ok I8 hN hi' hx (v := .ref D1) rfl (fun s7 I9 => ?_) hf)
  have hC := (I9.pin (C, o) (List.mem_append_right _ (List.mem_append_right _ (mem_pinsAt (by simp) ho)))).1
  refine ⟨m, ⟨o, es, ep, hC, hc1, hc2⟩, fun h' hs' => ⟨_, H5, I9.unpinned.turned (it := C) (t' := s7.toks) (fun b o hb e => (hs'.2 b hb).trans e) f.1 f.2.1 f.2.2.2.1 f.2.2.2.2.1 f.2.2.2.2.2, q⟩⟩
end L2
namespace L2
open PySem PySem.Spec PyProof.Rows

/-! ### values read as data -/
mutual
inductive RdD (K : PySem.W.Frag) (H : Hp) : V → PyData → Prop
  | non : RdD K H .non .none
  | bl (b : Bool) : RdD K H (.bl b) (.bool b)
  | int (i : Int) : RdD K H (.int i) (.int i)
  | str (x : Str) : RdD K H (.str x) (.str x)
  | lst {a : Addr} {xs : List V} {ds : List PyData} : SqL K H a xs → RdDs K H xs ds → RdD K H (.ref a) (.list ds)
  | tup {a : Addr} {xs : List V} {ds : List PyData} : SqT K H a xs → RdDs K H xs ds → RdD K H (.ref a) (.tuple ds)
inductive RdDs (K : PySem.W.Frag) (H : Hp) : List V → List PyData → Prop
  | nil : RdDs K H [] []
  | cons {x : V} {d : PyData} {xs : List V} {ds : List PyData} : RdD K H x d → RdDs K H xs ds → RdDs K H (x :: xs) (d :: ds)
end
section
variable {X : Cx} {pins : List (Addr × Obj)} {σ : St} {H : Hp} {s : Shared}
mutual
theorem Inv.reads (I : Inv X pins σ H s) : ∀ {x : V} {d : PyData} {u : Value}, RdD X.K H x d → RelV x u → ∃ as, Reads s.heap u d as
  | _, _, _, .non, r => by cases r; exact ⟨_, .none⟩
  | _, _, _, .bl b, r => by cases r; exact ⟨_, .bool b⟩
  | _, _, _, .int i, r => by obtain ⟨t, rfl⟩ := r; exact ⟨_, .int i t⟩
  | _, _, _, .str x, r => by obtain ⟨t, rfl⟩ := r; exact ⟨_, .str x t⟩
  | _, _, _, .lst hq hs, r => by
    cases r
    obtain ⟨its, rv, pl, _⟩ := I.list hq
    obtain ⟨as, ra⟩ := Inv.readsAll I hs rv
    obtain ⟨o, ho, hc, n, hd⟩ := pl.isList
    exact ⟨_, .list ho hc hd (by simpa using ra)⟩
  | _, _, _, .tup hq hs, r => by
    cases r
    obtain ⟨its, rv, pl, _⟩ := I.tuple hq
    obtain ⟨as, ra⟩ := Inv.readsAll I hs rv
    obtain ⟨o, ho, hc, n, hd⟩ := pl
    exact ⟨_, .tuple ho hc hd (by simpa using ra)⟩
theorem Inv.readsAll (I : Inv X pins σ H s) : ∀ {xs : List V} {ds : List PyData} {us : List Value}, RdDs X.K H xs ds → Vals xs us → ∃ as, ReadsAll s.heap us ds as
  | _, _, _, .nil, .nil => ⟨_, .nil⟩
  | _, _, _, .cons h1 h2, .cons r1 r2 => by
    obtain ⟨as, a⟩ := Inv.reads I h1 r1
    obtain ⟨bs, b⟩ := Inv.readsAll I h2 r2
    exact ⟨_, .cons a b⟩
end
theorem RdDs.ints {K : PySem.W.Frag} {H : Hp} : ∀ ns : List Int, RdDs K H (ns.map V.int) (ns.map PyData.int)
  | [] => .nil
  | n :: r => .cons (.int n) (RdDs.ints r)

/-! ### dicts of flat values -/
def dictHits (kb : List (Key × V)) : List (Key × V) → Bool
  | [] => true
  | (k, v) :: r => match valV kb k with
    | none => false
    | some y => eqV v y && dictHits kb r
theorem hits_of {A : Around} {kb : List (Key × V)} {vb : List (Key × Value)} (hb : KV kb vb) (fb : kb.all (fun p => flatV p.2) = true) : ∀ {ka : List (Key × V)} {va : List (Key × Value)}, KV ka va → ka.all (fun p => flatV p.2) = true →
    PySem.W.KeqHits A s vb va (dictHits kb ka)
  | [], _, .nil, _ => .nil
  | (k, v) :: r, (k', v') :: r', .cons ⟨e, rv⟩ t, f => by
    cases (show k = k' from e)
    rw [List.all_cons, Bool.and_eq_true] at f
    have hv := KV.val hb k
    cases q : valV kb k with
    | none =>
      have hn : valueAt vb k = none := RelO.none_of (by rw [q] at hv; exact hv)
      have e2 : dictHits kb ((k, v) :: r) = false := by simp [dictHits, q]
      rw [e2]
      exact .miss hn
    | some y =>
      rw [q] at hv
      obtain ⟨u, hu, ru⟩ := RelO.some_of hv
      have fy : flatV y = true := by
        unfold valV at q
        cases q2 : kb.find? (fun kv => decide (kv.1 = k)) with
        | none => rw [q2] at q; cases q
        | some p =>
          rw [q2] at q; cases q
          exact List.all_eq_true.mp fb p (List.mem_of_find?_eq_some q2)
      have e2 : dictHits kb ((k, v) :: r) = (eqV v y && dictHits kb r) := by simp [dictHits, q]
      rw [e2]
      exact .hit hu (eqAt_V rv ru f.1 fy) (hits_of hb fb t f.2)
end

section
variable {X : Cx}
def rEqV (K : PySem.W.Frag) (g : Bool → Bool) : R2 := fun x y H Q => match x, y with
  | .int i, .int j => Q (.bl (g (decide (i = j)))) H
  | .bl i, .bl j => Q (.bl (g (decide (i = j)))) H
  | .str i, .str j => Q (.bl (g (decide (i = j)))) H
  | .non, .non => Q (.bl (g true)) H
  | .ref a, .ref b => (∃ d e, RdD K H (.ref a) d ∧ RdD K H (.ref b) e ∧ SeqAt.shaped d = true ∧ SeqAt.shaped e = true ∧ Q (.bl (g (PyData.eqv d e))) H) ∨
      (∃ ka kb, H a = some (.dK ka) ∧ H b = some (.dK kb) ∧ ka.all (fun p => flatV p.2) = true ∧ kb.all (fun p => flatV p.2) = true ∧ Q (.bl (g (ka.length == kb.length && dictHits kb ka))) H)
  | .non, .ref _ => False
  | .ref _, .non => False
  | x, y => scal x y = true ∧ Q (.bl (g (decide (x = y)))) H
theorem op_eqD {k : Nat} (hr : Room k X.A) : OpR X (compareOp .Eq) (fun x y H Q => ∃ d e, RdD X.K H x d ∧ RdD X.K H y e ∧ SeqAt.shaped d = true ∧ SeqAt.shaped e = true ∧ Q (.bl (PyData.eqv d e)) H) := by
  intro pins s σ H x y v u Q I rx ry h
  obtain ⟨d, e, h1, h2, h3, h4, q⟩ := h
  obtain ⟨as, ra⟩ := I.reads h1 rx
  obtain ⟨bs, rb⟩ := I.reads h2 ry
  exact eq_dataH ra rb h3 h4 hr.units ⟨.bl _, H, I, rfl, q⟩
theorem op_eqK {k : Nat} (hr : Room k X.A) : OpR X (compareOp .Eq) (fun x y H Q => ∃ a b ka kb, x = .ref a ∧ y = .ref b ∧ H a = some (.dK ka) ∧ H b = some (.dK kb) ∧ ka.all (fun p => flatV p.2) = true ∧ kb.all (fun p => flatV p.2) = true ∧ Q (.bl (ka.length == kb.length && dictHits kb ka)) H) := by
  intro pins s σ H x y v u Q I rx ry h
  obtain ⟨a, b, ka, kb, rfl, rfl, h1, h2, h3, h4, q⟩ := h
  cases rx; cases ry
  obtain ⟨_, ea, va, ra, da⟩ : ka.length ≤ sizeLine ∧ (a == sysModules) = false ∧ ∃ vs, KV ka vs ∧ s.heap.DictOf (mixKind X.prog X.w) a vs := I.hok a _ h1
  obtain ⟨_, eb, vb, rb, db⟩ : kb.length ≤ sizeLine ∧ (b == sysModules) = false ∧ ∃ vs, KV kb vs ∧ s.heap.DictOf (mixKind X.prog X.w) b vs := I.hok b _ h2
  refine PySem.W.keq_eq ea eb da db hr.units0 (fun _ => hits_of rb h4 ra h3) ⟨.bl _, H, I, ?_, q⟩
  show _ = Value.bool _
  rw [Paired.length ra, Paired.length rb]
theorem dec_i {i j : Int} : decide (V.int i = V.int j) = decide (i = j) := by simp
theorem dec_b {i j : Bool} : decide (V.bl i = V.bl j) = decide (i = j) := by simp
theorem dec_s {i j : Str} : decide (V.str i = V.str j) = decide (i = j) := by simp
theorem v_eq {k : Nat} (hr : Room k X.A) : OpR X (compareOp .Eq) (rEqV X.K id) := by
  refine (op_eq.or ((op_eqD hr).or (op_eqK hr))).imp fun x y H Q h => ?_
  unfold rEqV at h
  split at h
  · exact .inl ⟨rfl, by rw [dec_i]; exact h⟩
  · exact .inl ⟨rfl, by rw [dec_b]; exact h⟩
  · exact .inl ⟨rfl, by rw [dec_s]; exact h⟩
  · exact .inl ⟨rfl, by rw [decide_eq_true rfl]; exact h⟩
  · rcases h with ⟨d, e, h⟩ | ⟨ka, kb, h⟩
    · exact .inr (.inl ⟨d, e, h⟩)
    · exact .inr (.inr ⟨_, _, ka, kb, rfl, rfl, h⟩)
  · exact h.elim
  · exact h.elim
  · exact .inl h
end
end L2

/-! ### an int against a dict; «in» a list of ints, of any thing -/
namespace PySem.SeqAt
open AutoSeq1 (wpAny_loadPart')
open MeetsSeq MeetsSeq2 MeetsSeq3 SeqRoads2
section
variable {A : Around} {s : Shared}
end
end PySem.SeqAt
namespace L2
open PySem PySem.Spec PyProof.Rows
section
variable {X : Cx}
end

/-! ### names of built-ins -/
theorem boot_isinstance : bootBuiltins "isinstance" = some (.builtin "isinstance") := by decide +kernel
theorem boot_sum : bootBuiltins "sum" = some (.builtin "sum") := by decide +kernel
theorem boot_max : bootBuiltins "max" = some (.builtin "max") := by decide +kernel
theorem boot_int : bootBuiltins "int" = some (.type "int") := by decide +kernel
theorem boot_bool : bootBuiltins "bool" = some (.type "bool") := by decide +kernel
theorem boot_tuple : bootBuiltins "tuple" = some (.type "tuple") := by decide +kernel
theorem boot_list : bootBuiltins "list" = some (.type "list") := by decide +kernel

/-! ### a def's facts at the top -/
structure Fn (K : PySem.W.Frag) (mg : Str → Option Value) (x : Str) (st : Stmt) (ps : List Str) : Prop where
  ex : ∃ (f : Addr) (fd : FuncData), Fun K x x st f fd ∧ mg x = some (.ref f) ∧ Binds K fd ps []
/-- the rule for a def, in one piece -/
theorem Fn.cal {P : Program} {w : World} {K : PySem.W.Frag} {mg : Str → Option Value} {base : Heap} {x : Str} {st : Stmt} {N ps : List Str} {k : Nat} {sp : Sp} (F : Fn K mg x st ps) (S : FnScope N ps (defScope st)) (len : ∀ vs H Q E, sp vs H Q E → vs.length = ps.length)
    (hbody : ∀ (f : Addr) (cdv : Value) (A : Around) (outer : List Env) (s : Shared) (H : Hp) (vs : List V) (Q : VK) (E : XK), Room k (A.deeper (envOfC x (defScope st) s.heap.objs.size f cdv)) → sp vs H Q E →
      ∃ t, PSs (cxF P w K mg base N x (defScope st) f cdv A outer s H E).nox (defBody st) t ∧ t { nx := fun _ H' => Q .non H', rt := Q } (start N vs) H) : Cal P w K mg base x (k + 1) ps sp := by
  obtain ⟨f, fd, F, m, b⟩ := F.ex
  exact ⟨f, fd, m, F.kp, b, F.okN S len fun cdv A outer s H vs Q E hr h => hbody f cdv A outer s H vs Q E hr h⟩
theorem Same.new {H : Hp} {p : Addr} (h : H p = none) (o : HO) : Same H (upd H p o) := fun b u q => by rw [upd_ne (ne_of_none q h)]; exact q
theorem Same.upd {H H' : Hp} {p : Addr} (g : Same H H') (h : H p = none) (o : HO) : Same H (L2.upd H' p o) := fun b u q => by rw [upd_ne (ne_of_none q h)]; exact g b u q
theorem mulL {i j : Int} (h1 : -(2 ^ 64) < i) (h2 : i < 2 ^ 64) : IntMulOk i j := .of_left (intBits_le_64 h1 h2)
theorem mulR {i j : Int} (h1 : -(2 ^ 64) < j) (h2 : j < 2 ^ 64) : IntMulOk i j := .of_right (intBits_le_64 h1 h2)
/-- a comprehension's facts: each part by computing -/
theorem comp_mk {X : Cx} {scope sc : Scope} {N : List Str} {ix : List (Option Nat)} (sc' : relabel scope X.env = sc) (kind : scope.kind = .function) (cell : scope.names.all (fun y => y.2 != .cell) = true)
    (names : scope.names.all (fun x => x.2 != .local || scope.names.lookup x.1 == some .local) = true)
    (free : scope.names.all (fun y => y.2 != .free || (X.env.scope.names.lookup y.1 == some .cell || X.env.scope.names.lookup y.1 == some .free)) = true)
    (len : N.length = ix.length)
    (hix : (N.zip ix).all (fun p => match p.2 with
      | none => true
      | some i => X.N[i]? == some p.1 && scope.names.any (fun y => y.1 == p.1 && y.2 == .free) && (sc.names.lookup p.1 == some .cell || sc.names.lookup p.1 == some .free)) = true)
    (has : sc.names.all (fun y => (y.2 != .cell && y.2 != .free) || scope.names.any (fun z => z.1 == y.1 && z.2 == .free)) = true) : CompOk X scope sc N ix := by
  have mem : ∀ x : Str, scope.names.any (fun y => y.1 == x && y.2 == .free) = true → (x, NameKind.free) ∈ scope.names := fun x h => by
    obtain ⟨y, hy, e⟩ := List.any_eq_true.mp h
    rw [Bool.and_eq_true] at e
    obtain ⟨a, b⟩ := y
    have e1 : a = x := eq_of_beq e.1
    have e2 : b = .free := eq_of_beq e.2
    subst e1; subst e2
    exact hy
  refine ⟨sc', kind, fun y hy e => ?_, fun x hx e => ?_, fun y hy e => ?_, len, fun j x i h1 h2 => ?_, fun x hx => ?_⟩
  · have := List.all_eq_true.mp cell y hy
    rw [e] at this; cases this
  · have := List.all_eq_true.mp names x hx
    rw [e] at this
    simpa using this
  · have := List.all_eq_true.mp free y hy
    rw [e] at this
    simpa [Env.kindOf] using this
  · have hm : (x, some i) ∈ N.zip ix := by
      have : (N.zip ix)[j]? = some (x, some i) := by
        rw [List.getElem?_zip_eq_some]
        exact ⟨h1, h2⟩
      exact List.mem_of_getElem? this
    have := List.all_eq_true.mp hix _ hm
    simp only [Bool.and_eq_true] at this
    obtain ⟨⟨a1, a2⟩, a3⟩ := this
    refine ⟨eq_of_beq a1, mem x a2, ?_⟩
    rw [Bool.or_eq_true] at a3
    rcases a3 with z | z
    · exact .inl (eq_of_beq z)
    · exact .inr (eq_of_beq z)
  · have hm : ∃ k, (x, k) ∈ sc.names ∧ (k = .cell ∨ k = .free) := by
      rcases hx with z | z
      · exact ⟨_, PySem.mem_of_lookup z, .inl rfl⟩
      · exact ⟨_, PySem.mem_of_lookup z, .inr rfl⟩
    obtain ⟨k, hk, e⟩ := hm
    have := List.all_eq_true.mp has _ hk
    rw [Bool.or_eq_true] at this
    rcases this with z | z
    · rcases e with e | e <;> (subst e; simp at z)
    · exact mem x z
end L2
namespace L2
open PySem PySem.Spec PyProof.Rows
/-- a def as the top has written it -/
structure FnIn (K : PySem.W.Frag) (x : Str) (st : Stmt) : Prop where
  ex : ∃ (f : Addr) (oc : Value) (od : Option Addr) (kV doc pm : Value) (an : Option Addr) (cdv ct : Value) (sl : Array (Option Value)), PySem.W.nsIn K mainGlobals x = some (some (.ref f)) ∧
    K.lookup f = some ⟨oc, od, .func (PySem.W.fnOf x x (defArgs st) (defBody st) (defScope st) .none kV doc pm an cdv ct), sl⟩ ∧ PySem.W.codeIn K cdv x = true ∧ PySem.W.keepIn K (.ref f) = true
theorem fnIn_mk {K : PySem.W.Frag} {x : Str} {st : Stmt} {f : Addr} {oc : Value} {od : Option Addr} {kV doc pm : Value} {an : Option Addr} {cdv ct : Value} {sl : Array (Option Value)} (a : PySem.W.nsIn K mainGlobals x = some (some (.ref f)))
    (l : K.lookup f = some ⟨oc, od, .func (PySem.W.fnOf x x (defArgs st) (defBody st) (defScope st) .none kV doc pm an cdv ct), sl⟩) (c : PySem.W.codeIn K cdv x = true) (k : PySem.W.keepIn K (.ref f) = true) : FnIn K x st :=
  ⟨f, oc, od, kV, doc, pm, an, cdv, ct, sl, a, l, c, k⟩
theorem FnIn.fn {K : PySem.W.Frag} {h : Heap} {mg : Str → Option Value} {x : Str} {st : Stmt} {ps : List Str} (F : FnIn K x st) (X : K.In h) (G : h.Ns mainGlobals mg)
    (hb : ∀ (kV doc pm : Value) (an : Option Addr) (cdv ct : Value) (us : List Value), us.length = ps.length → bindArgs (PySem.W.fnOf x x (defArgs st) (defBody st) (defScope st) .none kV doc pm an cdv ct) ⟨us, []⟩ = pure (ps.zip us)) : Fn K mg x st ps := by
  obtain ⟨f, oc, od, kV, doc, pm, an, cdv, ct, sl, a, l, c, k⟩ := F.ex
  have FF := fun_mk (st := st) l c k
  exact ⟨f, _, FF, PySem.W.mg_of X G a, FF.binds hb⟩
end L2
namespace L2
open PySem PySem.Spec PyProof.Rows

/-! ### what an iterator yields through heaps that keep what is tracked -/
structure ItS (J : It) (xs : List V) (H1 : Hp) : Prop where
  go : ∀ i H', Same H1 H' → i < xs.length → J.go i H'
  yld : ∀ i H' x H2, Same H1 H' → J.yld i H' x H2 → H2 = H' ∧ (i < xs.length → xs[i]? = some x)
  stop : ∀ i H', Same H1 H' → xs.length ≤ i → J.stop i H'
theorem its_list {K : PySem.W.Frag} {a : Addr} {xs : List V} {H1 : Hp} (hq : SqL K H1 a xs) : ItS (Itl K a) xs H1 :=
  ⟨fun i H' g h => ⟨xs, xs[i], g.seq hq, by simp [h]⟩, fun i H' x H2 g y => ⟨y.1, fun _ => y.2 xs (g.seq hq)⟩, fun i H' g h => ⟨xs, g.seq hq, h⟩⟩
theorem its_range {lo : Int} {n : Nat} {H1 : Hp} : ItS (Itr lo n) ((List.range n).map fun i => V.int (lo + (i : Nat))) H1 :=
  ⟨fun i H' g h => show i < n by simpa using h, fun i H' x H2 g y => ⟨y.1, fun h => by
    have h' : i < n := by simpa using h
    rw [List.getElem?_map, List.getElem?_range h', y.2]; rfl⟩, fun i H' g h => show n ≤ i by simpa using h⟩

/-- a comprehension of one new name whose tests and elements change nothing -/
theorem comp_pure {J : It} {xs : List V} {ix : List (Option Nat)} {tc : TT} {te : TE} {σ : St} {H1 : Hp} {Q : VK} (I : ItS J xs H1) (hz : xs.length ≤ sizeLine) {rest : St} (hst : cst ix σ = none :: rest) (p : V → Bool) (F : V → V)
    (ht : ∀ H' x, Same H1 H' → x ∈ xs → ∀ k : Bool → Hp → Prop, k (p x) H' → tc (some x :: rest) H' k)
    (he : ∀ H' x, Same H1 H' → x ∈ xs → p x = true → ∀ k : VK, k (F x) H' → te (some x :: rest) H' k)
    (hQ : ∀ D, H1 D = none → Q (.ref D) (upd H1 D (.lst ((xs.filter p).map F)))) :
    CompK ix (gName 0) tc te σ Q J H1 := by
  constructor
  intro D hD
  refine ⟨fun i m σ' H' => m = xs.length - i ∧ i ≤ xs.length ∧ (∃ o, σ' = o :: rest) ∧ H' = upd H1 D (.lst (((xs.take i).filter p).map F)), ⟨xs.length, by simp, Nat.zero_le _, ⟨none, hst⟩, by simp⟩, ?_⟩
  rintro i m σ' H' ⟨rfl, hi, ⟨o, rfl⟩, rfl⟩
  have g : Same H1 (upd H1 D (.lst (((xs.take i).filter p).map F))) := Same.new hD _
  by_cases hlt : i < xs.length
  · refine .inr ⟨I.go i _ g hlt, fun x H2 y => ?_⟩
    obtain ⟨rfl, hx⟩ := I.yld i _ x H2 g y
    have hx := hx hlt
    have hm : x ∈ xs := List.mem_of_getElem? hx
    have et : xs.take (i + 1) = xs.take i ++ [x] := by
      rw [List.take_add_one, hx]; rfl
    show tc (some x :: rest) _ _
    refine ht _ x g hm _ ?_
    cases hp : p x with
    | true =>
      rw [if_pos rfl]
      refine he _ x g hm hp _ ⟨_, upd_same, ?_, xs.length - (i + 1), by omega, rfl, hlt, ⟨_, rfl⟩, ?_⟩
      · have h1 : (((xs.take i).filter p).map F).length ≤ i := by
          rw [List.length_map]
          exact Nat.le_trans (List.length_filter_le _ _) (by rw [List.length_take]; omega)
        omega
      · rw [upd_upd, et, List.filter_append, List.map_append]
        simp [hp]
    | false =>
      rw [if_neg Bool.false_ne_true]
      refine ⟨xs.length - (i + 1), by omega, rfl, hlt, ⟨_, rfl⟩, ?_⟩
      rw [et, List.filter_append]
      simp [hp]
  · have e : i = xs.length := by omega
    subst e
    refine .inl ⟨I.stop _ _ g (Nat.le_refl _), ?_⟩
    rw [List.take_length]
    exact hQ D hD
/-- a for over what an iterator yields -/
theorem for_its {J : It} {xs : List V} {g : TG} {tb : TS} {D : Ends} {σ : St} {H : Hp} (I : ItS J xs H) (Pv : Nat → St → Hp → Prop) (h0 : Pv 0 σ H) (hsame : ∀ i σ' H', Pv i σ' H' → Same H H')
    (hs : ∀ i x σ' H', xs[i]? = some x → Pv i σ' H' → g x σ' H' fun σ2 H2 => tb { D with nx := Pv (i + 1), ct := Pv (i + 1), bk := D.nx } σ2 H2) (hd : ∀ σ' H', Pv xs.length σ' H' → D.nx σ' H') :
    ∃ W : Nat → Nat → St → Hp → Prop, (∃ m, W 0 m σ H) ∧ ∀ i m σ H, W i m σ H →
      (J.stop i H ∧ D.nx σ H) ∨ (J.go i H ∧ ∃ N : St → Hp → Prop, (∀ σ' H', N σ' H' → ∃ m', m' < m ∧ W (i + 1) m' σ' H') ∧ ∀ x H', J.yld i H x H' → g x σ H' fun σ2 H2 => tb { D with nx := N, ct := N, bk := D.nx } σ2 H2) := by
  refine ⟨fun i m σ' H' => m = xs.length - i ∧ i ≤ xs.length ∧ Pv i σ' H', ⟨xs.length, by simp, Nat.zero_le _, h0⟩, ?_⟩
  rintro i m σ' H' ⟨rfl, hi, p⟩
  have gs := hsame i σ' H' p
  by_cases hlt : i < xs.length
  · refine .inr ⟨I.go i _ gs hlt, Pv (i + 1), fun σ2 H2 p' => ⟨xs.length - (i + 1), by omega, rfl, hlt, p'⟩, fun x H2 y => ?_⟩
    obtain ⟨rfl, hx⟩ := I.yld i _ x H2 gs y
    exact hs i x σ' _ (hx hlt) p
  · have e : i = xs.length := by omega
    subst e
    exact .inl ⟨I.stop _ _ gs (Nat.le_refl _), hd σ' H' p⟩
end L2
namespace L2
open PySem PySem.Spec PyProof.Rows
/-- a reading that nothing opens by itself -/
structure Bar (t : TE) (σ : St) (H : Hp) (Q : VK) : Prop where
  go : t σ H Q
def tBar (t : TE) : TE := fun σ H Q => Bar t σ H Q
theorem Bar.by {t : TE} {σ : St} {H : Hp} {Q : VK} (R : V → Hp → Prop) (h : ∀ k : VK, (∀ v H1, R v H1 → k v H1) → t σ H k) (q : ∀ v H1, R v H1 → Q v H1) : Bar t σ H Q := ⟨h Q q⟩
theorem pe_bar {X : Cx} {e : Expr} {t : TE} (h : PE X e t) : PE X e (tBar t) := fun pins s σ H Q I q => h pins s σ H Q I q.go
/-- the same for a statement whose ways meet behind it -/
structure BarS (t : TS) (D : Ends) (σ : St) (H : Hp) : Prop where
  go : t D σ H
def tBarS (t : TS) : TS := fun D σ H => BarS t D σ H
theorem ps_bar {X : Cx} {st : Stmt} {t : TS} (h : PS X st t) : PS X st (tBarS t) := fun pins s σ H D I q => h pins s σ H D I q.go
theorem BarS.by {t : TS} {D : Ends} {σ : St} {H : Hp} (R : St → Hp → Prop) (h : ∀ N : St → Hp → Prop, (∀ σ' H', R σ' H' → N σ' H') → t { D with nx := N } σ H) (q : ∀ σ' H', R σ' H' → D.nx σ' H') : BarS t D σ H := by
  constructor
  exact h D.nx q
end L2
namespace HT
open PySem PyProof.Rows
section
variable {prog : Program} {w : World} {A : Around} {E : Value → Shared → Prop} {s : Shared}
/-- t[a:b], the whole of it: t itself -/
theorem getItem_tuple_all {t sl : Addr} {items : Array Value} {vl vu : Value} {lo hi : Option Int} {Q : Value → Shared → Prop} (ht : IsTup s.heap t items) (hs : s.heap.IsSliceOf sl vl vu .none) (pl : IsPart vl lo) (pu : IsPart vu hi)
    (hw : sIx items.size 0 lo = 0 ∧ sIx items.size items.size hi = items.size) (h : Q (.ref t) s) : wpAny (model prog w) A (getItem (.ref t) (.ref sl)) Q E s := by
  obtain ⟨os, hos, hcs, hds⟩ := id hs
  have hTs : s.TypeIs (.ref sl) "slice" := ⟨os, hos, hcs⟩
  unfold getItem
  try with_reducible refine wpAny_holding ?_
  first | refine wpAny_bind (wpAny_pure ?_) | skip
  refine wpAny_bind (wpAny_sequenceKey ht.typeIs (by decide) ?_)
  refine wpAny_bind (wpAny_callSpecial?_slot (name := Str.ofString "__getitem__") ht.typeIs PyProof.Rows.slot_tuple_getitem
    (wpAny_call_entry PyProof.Rows.slot_tuple_getitem ht.typeIs entry_tuple_getitem ?_ (args_tuple_getitem _ _)))
  show wpAny _ _ (Builtin.Tuple.tupleItemsOf (.ref t) >>= _) _ _ s
  refine wpAny_bind (tupleItemsOf_ ht ?_)
  refine wpAny_bind (wpAny_typeOf hTs ?_)
  rw [if_pos (by decide)]
  refine wpAny_bind (sliceApplied_gen hs pl pu ?_)
  have hyes : (((sIx items.size 0 lo : Nat) : Int) == 0 && (1 : Int) == 1 && (sIx items.size items.size hi - sIx items.size 0 lo) == items.size) = true := by
    rw [hw.1, hw.2]; simp
  show wpAny _ _ (if (((sIx items.size 0 lo : Nat) : Int) == 0 && (1 : Int) == 1 && (sIx items.size items.size hi - sIx items.size 0 lo) == items.size) = true then _ else _) _ _ s
  rw [if_pos hyes]
  unfold Builtin.Tuple.tupleIsExact
  refine wpAny_bind (wpAny_bind (wpAny_typeOf ht.typeIs (wpAny_pure ?_)))
  rw [if_pos (by decide)]
  exact wpAny_bind (wpAny_rule (wpAny_pure ⟨_, rfl, wpAny_pure h⟩))
end
end HT
namespace L2
open PySem PySem.Spec PyProof.Rows
section
variable {X : Cx}
theorem sl_tupAll : SlR X (fun x lo hi H Q => ∃ a xs, x = .ref a ∧ SqT X.K H a xs ∧ (HT.sIx xs.length 0 lo = 0 ∧ HT.sIx xs.length xs.length hi = xs.length) ∧ Q (.ref a) H) := by
  intro pins s σ H x v vl vu lo hi sl Q I rx hs pl pu h
  obtain ⟨a, xs, rfl, hx, hw, q⟩ := h
  cases rx
  obtain ⟨its, r, ht, hz⟩ := I.tuple hx
  have hlen : its.toArray.size = xs.length := by rw [List.size_toArray]; exact r.length.symm
  refine ⟨"tuple", _, PyProof.Rows.slot_tuple_getitem.lookup, ht.typeIs, ?_⟩
  exact HT.getItem_tuple_all ht hs pl pu (by rw [hlen]; exact hw) ⟨.ref a, H, I, rfl, q⟩
end
end L2
namespace L2
open PySem PySem.Spec PyProof.Rows
/-! ### the rules, the written part K by its own name -/
section
variable {X : Cx} (K : PySem.W.Frag)
theorem SlR.imp {r r' : V → Option Int → Option Int → Hp → VK → Prop} (h : SlR X r) (i : ∀ x lo hi H Q, r' x lo hi H Q → r x lo hi H Q) : SlR X r' := fun pins s σ H x v vl vu lo hi sl Q I rx hs pl pu q => h pins s σ H x v vl vu lo hi sl Q I rx hs pl pu (i _ _ _ _ _ q)
theorem xadd (hK : X.K = K := by rfl) : OpR X (binaryOp .Add) (rAddV K) := by subst hK; exact v_add
theorem xix (hK : X.K = K := by rfl) : IxR X (rIxV K) := by subst hK; exact v_ix
theorem xeq {k : Nat} (hr : Room k X.A) (hK : X.K = K := by rfl) : OpR X (compareOp .Eq) (rEqV K id) := by subst hK; exact v_eq hr
theorem xlen (hK : X.K = K := by rfl) : CallR X (.builtin "len") (fun xs H Q => ∃ x n, xs = [x] ∧ LenV K x H n ∧ Q (.int n) H) := by subst hK; exact call_len
theorem xsum (hc : X.calm = true) (hK : X.K = K := by rfl) : CallR X (.builtin "sum") (fun xs H Q => ∃ (l : Addr) (ns : List Int), xs = [.ref l] ∧ SqL K H l (ns.map V.int) ∧ Q (.int ns.sum) H) := by subst hK; exact v_sum hc
theorem xlist (hK : X.K = K := by rfl) : CallR X (.type "list") (fun xs H Q => ∃ p ys, xs = [.ref p] ∧ (SqL K H p ys ∨ SqT K H p ys) ∧ ∀ l, H l = none → Q (.ref l) (upd H l (.lst ys))) := by subst hK; exact call_list_of
theorem xtuple (hK : X.K = K := by rfl) : CallR X (.type "tuple") (fun xs H Q => ∃ p ys, xs = [.ref p] ∧ ((SqL K H p ys ∧ ∀ l, H l = none → Q (.ref l) (upd H l (.tup ys))) ∨ (SqT K H p ys ∧ Q (.ref p) H))) := by subst hK; exact call_tuple_of
/-- xs[lo:hi]: of a list a new one; of a tuple a new one, or itself where it is the whole -/
def rSlV (K : PySem.W.Frag) : V → Option Int → Option Int → Hp → VK → Prop := fun x lo hi H Q => match x with
  | .ref a => (∃ xs, SqL K H a xs ∧ ∀ p, H p = none → Q (.ref p) (upd H p (.lst (cutV xs lo hi)))) ∨
      (∃ xs, SqT K H a xs ∧ ¬ (HT.sIx xs.length 0 lo = 0 ∧ HT.sIx xs.length xs.length hi = xs.length) ∧ ∀ p, H p = none → Q (.ref p) (upd H p (.tup (cutV xs lo hi)))) ∨
      (∃ xs, SqT K H a xs ∧ (HT.sIx xs.length 0 lo = 0 ∧ HT.sIx xs.length xs.length hi = xs.length) ∧ Q (.ref a) H)
  | _ => False
theorem xsl (hK : X.K = K := by rfl) : SlR X (rSlV K) := by
  subst hK
  refine (sl_list.or (sl_tup.or sl_tupAll)).imp fun x lo hi H Q h => ?_
  unfold rSlV at h
  split at h
  · rcases h with ⟨xs, h⟩ | ⟨xs, h⟩ | ⟨xs, h⟩
    · exact .inl ⟨_, xs, rfl, h⟩
    · exact .inr (.inl ⟨_, xs, rfl, h⟩)
    · exact .inr (.inr ⟨_, xs, rfl, h⟩)
  · exact h.elim
theorem xseq {tg l : Expr} {tl : TE} (hl : PE X l tl) (hK : X.K = K := by rfl) : PI X tg l (iSeq K tl) := by subst hK; exact pi_seq hl
theorem xgtup {es : List Expr} {k : Nat} {t : TGs} {n : Nat} {pos : Pos} (hc : X.calm = true) (h : PGs X es t) (hK : X.K = K := by rfl)
    (hn : (assignEach es X.env).length = n := by rfl) (hst : (assignEach es X.env).findIdx? (·.1) = none := by rfl) : PG X (.Tuple es k pos) (gTup K n t) := by subst hK; exact pg_tup hc h hn hst
theorem xappend {o e : Expr} {to : TE} {te : TE} {apos cpos : Pos} (ho : PE X o to) (he : PE X e te) (hK : X.K = K := by rfl)
    (hbase : attributeBase o "append" X.env (eval o X.env) = eval o X.env := by rfl)
    (hfew : ((backTo cpos (starEach [e] X.env)).all (fun x => !x.1) && (backToKw cpos (keywordEach [] X.env)).all (fun x => x.1.isSome)
      && decide ([e].length + ([] : List Keyword).length + (if ([] : List Keyword).isEmpty then 0 else 1) < 30)) = true := by rfl)
    (hline : (apos.endLine == cpos.line) = true := by rfl) (hs : starEach [e] X.env = (false, eval e X.env) :: starEach [] X.env := by rfl) :
    PE X (.Call (.Attribute o "append" apos) [e] [] cpos) (tBM K "list" rAppend to (tCons te tNil)) := by
  subst hK
  exact pe_bm PySem.F.plainAttrs_list PySem.F.slot_list_append PySem.F.type_list_append mt_append ho (pa_cons he pa_nil hs) hbase hfew hline hs rfl
end

/-! ### arguments by their kinds: that none is starred is told once -/
section
variable {X : Cx} {es : List Expr} {te : TE} {t : TA}
theorem pa_k {c : Const} {j} {p : Pos} (h : PE X (.Constant c j p) te) (hr : PA X es t) : PA X ((.Constant c j p) :: es) (tCons te t) := pa_cons h hr rfl
theorem pa_n {x : Str} {p : Pos} (h : PE X (.Name x p) te) (hr : PA X es t) : PA X ((.Name x p) :: es) (tCons te t) := pa_cons h hr rfl
theorem pa_t {as : List Expr} {j} {p : Pos} (h : PE X (.Tuple as j p) te) (hr : PA X es t) : PA X ((.Tuple as j p) :: es) (tCons te t) := pa_cons h hr rfl
theorem pa_b {a : Expr} {o : Operator} {b : Expr} {p : Pos} (h : PE X (.BinOp a o b p) te) (hr : PA X es t) : PA X ((.BinOp a o b p) :: es) (tCons te t) := pa_cons h hr rfl
theorem pa_u {o : UnaryOp} {a : Expr} {p : Pos} (h : PE X (.UnaryOp o a p) te) (hr : PA X es t) : PA X ((.UnaryOp o a p) :: es) (tCons te t) := pa_cons h hr rfl
end
end L2
namespace L2
open PySem PySem.Spec PyProof.Rows
/-! ### an exception that was taken: its object, its class -/
section
variable {X : Cx} {pins : List (Addr × Obj)} {σ : St} {H : Hp} {s : Shared}
end
end L2
namespace L2
open PySem PySem.Spec PyProof.Rows
/-! ### isinstance(e, ..) of an exception of a class of the text -/
section
variable {prog : Program} {w : World} {A : Around} {E : Value → Shared → Prop} {h : Heap} {g : Array GenState} {d : Drawn} {t : Nat} {os : OsState} {a C : Addr} {o : Obj} {K : PySem.W.Frag}
end
end L2
namespace L2
open PySem PySem.Spec PyProof.Rows
/-! ### the class facts, out of the written part -/
end L2
namespace L2
open PySem PySem.Spec PyProof.Rows
/-! ### is True, is False -/
section
variable {X : Cx} {a : Expr} {ta : TE}
end
end L2
namespace L2
open PySem
/-! ### lists and tuples of ints compared -/
theorem canLay_ints : ∀ ns : List Int, PyData.canLayAll0 (ns.map PyData.int) = true
  | [] => rfl
  | n :: r => by
    have := canLay_ints r
    simp [PyData.canLayAll0, PyData.canLay0, this]
theorem depth_ints : ∀ ns : List Int, PyData.depthAll (ns.map PyData.int) ≤ 1
  | [] => by simp [PyData.depthAll]
  | n :: r => by
    have := depth_ints r
    simp [PyData.depthAll, PyData.depth]
    omega
theorem shaped_list (ns : List Int) : SeqAt.shaped (.list (ns.map .int)) = true := by
  have h1 := canLay_ints ns
  have h2 := depth_ints ns
  simp only [SeqAt.shaped, PyData.canLay0, PyData.depth, h1, Bool.true_and]
  exact decide_eq_true (by omega)
theorem eqv_list (ns ms : List Int) : PyData.eqv (.list (ns.map .int)) (.list (ms.map .int)) = decide (ns = ms) := by
  rw [PyData.eqv]; exact PySem.W.ked_eqvAll ns ms
/-- two lists of ints compared -/
theorem eqLL {K : PySem.W.Frag} {g : Bool → Bool} {H : Hp} {a b : Addr} {ns ms : List Int} {Q : VK} (ha : SqL K H a (ns.map V.int)) (hb : SqL K H b (ms.map V.int)) (q : Q (.bl (g (decide (ns = ms)))) H) : rEqV K g (.ref a) (.ref b) H Q :=
  .inl ⟨_, _, .lst ha (RdDs.ints ns), .lst hb (RdDs.ints ms), shaped_list ns, shaped_list ms, by rw [eqv_list]; exact q⟩
end L2

set_option maxHeartbeats 4000000
namespace L2
open PySem PySem.Spec PyProof.Rows
/-! ### range(a, b, -1) -/
/-- lo, lo - 1, .. (n of them) -/
def Itd (lo : Int) (n : Nat) : It := ⟨fun i _ => i < n, fun i H x H' => H' = H ∧ x = .int (lo - i), fun i _ => n ≤ i⟩
theorem turn_down {P : Program} {w : World} {K : PySem.W.Frag} {tg : Expr} (it : Addr) (lo : Int) (n : Nat) : Turn P w K tg (Itd lo n) [it] it (fun i h => IsRangeIter h it (lo + (i : Nat) * (-1)) ((n : Int) - (i : Nat)) (-1)) where
  mem := by simp
  obj := fun i h st b hb => by
    have e : b = it := by simpa using hb
    subst e
    exact ⟨_, st, fun v z => by
      have z' : Data.fields _ = Data.cell v := z
      cases z'⟩
  keep := fun i h h' st k => k it (by simp) _ st
  item := by
    intro X hP hw hK hc i pins s σ H E I hf st hg
    subst hP hw hK
    obtain ⟨f0, f1, f2, f3, f4, f5⟩ := hf it (by simp)
    have W := Walks.range (prog := X.prog) (w := X.w) (I.ok.hd hc) it lo (-1) n
    refine W.item i s _ _ hg st fun v h' tk hv st' kk => ?_
    obtain ⟨t, rfl⟩ := hv
    have I1 : Inv X pins σ H { s with heap := h', toks := tk } := I.turned (fun b o hb e => kk b o (by simpa using hb) e) f0 f1 f3 f4 f5
    refine ⟨_, rfl, go_of (s := { s with heap := h', toks := tk }) (n := "range_iterator") st' rfl rfl (by decide) ⟨.int (lo - i), H, I1, ⟨t, ?_⟩, ⟨rfl, rfl⟩, st', fun b hb => (hf b hb).1⟩⟩
    rw [Int.mul_neg_one]; rfl
  done := by
    intro X hP hw hK hc i pins s σ H E I hf st hg
    subst hP hw hK
    obtain ⟨f0, f1, f2, f3, f4, f5⟩ := hf it (by simp)
    exact wpAny_pyNext_range_end (I.ok.hd hc) st (by have : n ≤ i := hg; omega) fun h' eb => ⟨rfl, I.turned (t' := s.toks) (fun b o hb e => eb b o hb e) f0 f1 f3 f4 f5⟩
  self := fun _ _ _ _ _ st h => wpAny_pyIter_rangeiter st h
theorem rangeSize_down (a b : Int) : Builtin.Range.rangeSize a b (-1) = if b < a then a - b else 0 := by
  unfold Builtin.Range.rangeSize
  simp only [show ¬ (-1 : Int) > 0 by decide, if_false, Int.neg_neg, Int.ediv_one]
  split <;> omega
theorem small_down {a b : Int} (ha : -(2 ^ 62) ≤ a) (ha' : a < 2 ^ 62) (hb : -(2 ^ 62) ≤ b) (hb' : b < 2 ^ 62) : Builtin.Range.small a b (-1) = true := by
  unfold Builtin.Range.small
  rw [rangeSize_down]
  simp only [Builtin.Range.rangeFitsLong, Bool.and_eq_true, Bool.or_eq_true, decide_eq_true_eq, beq_iff_eq, show ¬ (-1 : Int) > 0 by decide, if_false]
  split <;> omega
section
variable {X : Cx} {tg : Expr}
theorem down_it {pins : List (Addr × Obj)} {σ : St} {H : Hp} {s : Shared} {R : It → Hp → Prop} {E : Value → Shared → Prop} {lo hi : Int} {t u v : Tok} {tk : Nat} (I : Inv X pins σ H s) (h1 : -(2 ^ 62) ≤ lo) (h2 : lo < 2 ^ 62) (h3 : -(2 ^ 62) ≤ hi) (h4 : hi < 2 ^ 62)
    (q : R (Itd lo (lo - hi).toNat) H) : wpAny (model X.prog X.w) X.A (pyIter (.ref s.heap.objs.size)) (PIE X pins σ tg R) E { s with heap := s.heap.push { cls := .type "range", data := .fields #[.int lo t, .int hi u, .int (-1) v] }, toks := tk } := by
  refine wpAny_pyIter_range (IsRange.new ..) (small_down h1 h2 h3 h4) ?_
  have I1 : Inv X pins σ H { s with heap := s.heap.push { cls := .type "range", data := .fields #[.int lo t, .int hi u, .int (-1) v] }, toks := tk } := I.kept fun b o e => Heap.get?_push_of_some _ e
  refine ⟨(s.heap.push { cls := .type "range", data := .fields #[.int lo t, .int hi u, .int (-1) v] }).objs.size, [(s.heap.push { cls := .type "range", data := .fields #[.int lo t, .int hi u, .int (-1) v] }).objs.size], _, _, H, rfl,
    I1.kept (t' := tk) fun b o e => Heap.get?_push_of_some _ e, turn_down _ lo (lo - hi).toNat, ?_, fun b hb => ?_, q⟩
  · have e1 : lo + ((0 : Nat) : Int) * (-1) = lo := by simp
    have e2 : (((lo - hi).toNat : Nat) : Int) - ((0 : Nat) : Int) = Builtin.Range.rangeSize lo hi (-1) := by rw [rangeSize_down]; split <;> omega
    show IsRangeIter _ _ (lo + ((0 : Nat) : Int) * (-1)) ((((lo - hi).toNat : Nat) : Int) - ((0 : Nat) : Int)) (-1)
    rw [e1, e2]
    exact Heap.get?_push_size _ rfl
  · have e : b = (s.heap.push { cls := .type "range", data := .fields #[.int lo t, .int hi u, .int (-1) v] }).objs.size := by simpa using hb
    subst e
    exact I1.fpOk (Nat.le_refl _) (I1.hok.fresh (Nat.le_refl _))
def iRngD (ta : TA) : TI := fun σ H R => ta σ H fun vs H1 => ∃ i j : Int, vs = [.int i, .int j, .int (-1)] ∧ (-(2 ^ 62) ≤ i ∧ i < 2 ^ 62 ∧ -(2 ^ 62) ≤ j ∧ j < 2 ^ 62) ∧ R (Itd i (i - j).toNat) H1
theorem pi_rangeD {a b c : Expr} {ta : TA} {p pos : Pos} (hg : Gl X "range") (hm : X.mg "range" = none) (ha : PA X [a, b, c] ta) (hs : starEach [a, b, c] X.env = (false, eval a X.env) :: starEach [b, c] X.env := by rfl) (hs2 : (backTo pos (starEach [b, c] X.env)).any (·.1) = false := by rfl) :
    PI X tg (.Call (.Name "range" p) [a, b, c] [] pos) (iRngD ta) := by
  intro pins s σ H R I h
  refine Call_ (ld_blt I hg hm boot_range (PyProof.Rows.callWith_type1 (thn (ha pos pins s σ H _ I h) fun us s1 ⟨vs, H1, I1, r1, q1⟩ => ?_) hs hs2))
  obtain ⟨i, j, e, ⟨q1, q2, q3, q4⟩, q⟩ := q1
  subst e
  cases r1 with
  | cons r rr =>
    cases rr with
    | cons r' rr =>
      cases rr with
      | cons r'' rr =>
        cases rr
        obtain ⟨t, rfl⟩ := r
        obtain ⟨t', rfl⟩ := r'
        obtain ⟨t'', rfl⟩ := r''
        exact call_range_3 (by decide) (down_it (tk := s1.toks) I1 q1 q2 q3 q4 q) (.inl (PyProof.noPylong_small (by omega)))
end
theorem for_down {lo : Int} {n : Nat} {g : TG} {tb : TS} {D : Ends} {σ : St} {H : Hp} (Pv : Nat → St → Hp → Prop) (h0 : Pv 0 σ H)
    (hs : ∀ i σ H, i < n → Pv i σ H → g (.int (lo - i)) σ H fun σ2 H2 => tb { D with nx := Pv (i + 1), ct := Pv (i + 1), bk := D.nx } σ2 H2) (hd : ∀ σ H, Pv n σ H → D.nx σ H) :
    ∃ W : Nat → Nat → St → Hp → Prop, (∃ m, W 0 m σ H) ∧ ∀ i m σ H, W i m σ H →
      ((Itd lo n).stop i H ∧ D.nx σ H) ∨ ((Itd lo n).go i H ∧ ∃ N : St → Hp → Prop, (∀ σ' H', N σ' H' → ∃ m', m' < m ∧ W (i + 1) m' σ' H') ∧ ∀ x H', (Itd lo n).yld i H x H' → g x σ H' fun σ2 H2 => tb { D with nx := N, ct := N, bk := D.nx } σ2 H2) := by
  refine ⟨fun i m σ H => m = n - i ∧ i ≤ n ∧ Pv i σ H, ⟨n, by simp, Nat.zero_le _, h0⟩, ?_⟩
  rintro i m σ H ⟨rfl, hi, p⟩
  by_cases hlt : i < n
  · refine .inr ⟨hlt, Pv (i + 1), fun σ' H' p' => ⟨n - (i + 1), by omega, rfl, hlt, p'⟩, fun x H' y => ?_⟩
    obtain ⟨e, y⟩ := y
    subst e y
    exact hs i σ _ hlt p
  · have e : i = n := by omega
    subst e
    exact .inl ⟨Nat.le_refl _, hd σ H p⟩
end L2
namespace Att
open PySem PySem.W PySem.Calls PyProof.Rows
/-! ### the script, with how great its numbers are -/
theorem bits_of_lay {ns : List Int} (h : WData.layableAll [WData.list (ns.map WData.int)] = true) : ∀ x ∈ ns, Builtin.Int.intBits x ≤ 1048576 := by
  intro x hx
  obtain ⟨h1, _, h3⟩ := layableW_iff.mp (layW_cons h).1
  simp only [WData.canLay] at h1
  simp only [WData.weight] at h3
  have hm : WData.int x ∈ ns.map WData.int := List.mem_map.mpr ⟨x, hx, rfl⟩
  have hc : WData.canLayAll (ns.map WData.int) = true := by simpa using h1
  obtain ⟨_, _, c⟩ := items_part hm hc
  have e : WData.weight (.int x) = Builtin.Int.intBits x := rfl
  rw [e] at c
  have : (2 : Nat) ^ 20 = 1048576 := by decide
  omega
theorem attach_callB {l : OpenLaw} {n : Nat} {q : Program} {loose : List Str} {XP : (Str → Option Value) → Heap → Prop} {YP : World → Heap → Prop} {d : DefRec}
    (hn : l.most = some n) (hdf : d.params.defaults = [])
    (call : ∀ (w : World) (s₀ s₁ : Shared) (mg mb : Str → Option Value) (fa : Addr) (o : Obj) (pm cd doc : Value) (a : Addr) (vs : List Value) (ns : List Int),
      Ground q loose [] XP w s₀ mg mb s₁.heap → YP w s₁.heap →
      s₁.heap.get? fa = some o → o.data = .func (docDef d.name d.params d.body d.scope pm cd doc) → s₁.heap.CodeRec cd d.name → mg d.name = some (.ref fa) →
      s₁.heap.get? a = some { cls := .type "list", data := .seq vs.toArray } → IntsAre vs ns → ns.length ≤ n → (∀ x ∈ ns, Builtin.Int.intBits x ≤ 1048576) → s₁.gens = #[] →
      codeAny (model l.prog w) callerA (.call (.ref fa) ⟨[.ref a], []⟩) (fun r s' => r = .ok (.ret (.bool true)) ∧ OldK s₁.heap s'.heap ∧ s'.os = s₁.os ∧ AllBare s'.gens) s₁) :
    WalkO q loose XP YP l.row.toRowW d [] (fun f vs => PySem.call f vs) := by
  intro w s₀ s₁ mg mb G Y fa o pm cd doc dV kV ho hd hcd hD hmg hg args vals as hpre hlay hrd hwl hlo
  obtain rfl : dV = .none := Dflts.none hD hdf
  obtain rfl : kV = .none := Dflts.noKw hD
  obtain ⟨a, vs, ns, rfl, rfl, hobj, hints, hlen⟩ := script_of hn hpre hwl
  refine enter_call (codeAny_mono (call w s₀ s₁ mg mb fa o pm cd doc a vs ns G Y ho (fd_plain hd) hcd hmg hobj hints hlen (bits_of_lay hlay) hg) fun r s' hq => ?_)
  obtain ⟨rfl, h2, h3, h4⟩ := hq
  exact ⟨.inl ⟨.bool true, .bool true, [], rfl, fun _ => rfl, .bool true, post_true l _, fun _ => ⟨List.Pairwise.nil, fun _ hm => (nomatch hm)⟩⟩, h2, h3, h4⟩
end Att
namespace L2
open PySem PySem.Spec PyProof.Rows
theorem walk_ofB {l : PySem.W.OpenLaw} {n k : Nat} {q : Program} {loose : List Str} {XP : (Str → Option Value) → Heap → Prop} {YP : World → Heap → Prop} {d : DefRec} {K : Params → PySem.W.Frag} {CX : World → CXT} {sp : World → Sp} {x : Str}
    (hn : l.most = some n) (hn2 : n ≤ sizeLine) (hdf : d.params.defaults = []) (hr : Room k callerA)
    (hY : ∀ (w : World) (h : Heap), YP w h → (K w.params).In h)
    (F : ∀ (w : World) (mg : Str → Option Value) (fa : Addr) (h : Heap), (K w.params).In h → h.Ns mainGlobals mg → mg d.name = some (.ref fa) →
      ∃ fd : FuncData, (∀ (s : Shared) (u : Value), BindsTo s fd ⟨[u], []⟩ [(x, u)]) ∧
        ∀ base : Heap, (K w.params).In base → base.Ns mainGlobals mg → FnOk l.prog w (K w.params) mg base (CX w) k fa fd [x] (sp w))
    (hsp : ∀ (w : World) (H : Hp) (a : Addr) (ns : List Int), ns.length ≤ n → (∀ x ∈ ns, Builtin.Int.intBits x ≤ 1048576) → Only H → SqL (K w.params) H a (ns.map V.int) → sp w [.ref a] H (fun v _ => v = .bl true) fun _ _ _ => False)
    (hCX : ∀ (w : World) (H : Hp) (s : Shared) (e : Value) (s' : Shared), CX w [] H s (fun _ _ _ => False) e s' → False) :
    PySem.W.WalkO q loose XP YP l.row.toRowW d [] (fun f vs => PySem.call f vs) := by
  refine Att.attach_callB hn hdf fun w s₀ s₁ mg mb fa o pm cd doc a vs ns G Y ho hd hcd hmg hobj hints hlen hbits hg => ?_
  have KX := hY w _ Y
  obtain ⟨fd, hb, hF⟩ := F w mg fa _ KX G.T.g hmg
  exact law_call KX G.T.g G.T.b G.T.builtins G.T.nolimit hg hobj hints (Nat.le_trans hlen hn2) hr hF hb (fun H hO hS => hsp w H a ns hlen hbits hO hS) fun H e s' => hCX w H s₁ e s'
/-! ### n.bit_length() -/
section
variable {X : Cx}
def rBits : V → List V → Hp → VK → Prop := fun x vs H Q => ∃ n : Int, x = .int n ∧ vs = [] ∧ Q (.int (Builtin.Int.intBits n : Nat)) H
theorem mt_bits : MtR X "int.bit_length" rBits := by
  intro pins s σ H x vs v us Q I rx rv h
  obtain ⟨n, rfl, rfl, q⟩ := h
  obtain ⟨t, rfl⟩ := rx
  cases rv
  exact call_gives F.slot_int_bit_length (typeIs_int s n t) F.entry_int_bit_length (F.args_int_bit_length_1 _) (AutoIntG2.int_bit_length_int_0 n t) ⟨.int _, H, I.tok _, ⟨_, rfl⟩, q⟩
theorem xbits (K : PySem.W.Frag) {o : Expr} {to : TE} {apos cpos : Pos} (ho : PE X o to) (hK : X.K = K := by rfl) (hbase : attributeBase o "bit_length" X.env (eval o X.env) = eval o X.env := by rfl) (hline : (apos.endLine == cpos.line) = true := by rfl) :
    PE X (.Call (.Attribute o "bit_length" apos) [] [] cpos) (tBM0 K "int" rBits to) := by
  subst hK
  exact pe_bm0 PySem.F.plainAttrs_int PySem.F.slot_int_bit_length PySem.F.type_int_bit_length mt_bits ho hbase hline
end
end L2
namespace L2
open PySem PySem.Spec PyProof.Rows
/-! ### list(range(n)) -/
theorem vals_from : ∀ (ys : List Value) (k : Nat), (∀ (i : Nat) (v : Value), ys[i]? = some v → ∃ t, v = Value.int ((k + i : Nat) : Int) t) → Vals ((List.range ys.length).map fun i => V.int ((k + i : Nat) : Int)) ys
  | [], _, _ => .nil
  | y :: r, k, h => by
    rw [List.length_cons, List.range_succ_eq_map, List.map_cons, List.map_map]
    obtain ⟨t, e⟩ := h 0 y rfl
    have q := vals_from r (k + 1) fun i v hv => by
      obtain ⟨t, e⟩ := h (i + 1) v (by simpa using hv)
      exact ⟨t, by rw [e, show k + 1 + i = k + (i + 1) by omega]⟩
    refine .cons ⟨t, by rw [e]⟩ ?_
    have e2 : ((fun i => V.int ((k + i : Nat) : Int)) ∘ Nat.succ) = fun i => V.int ((k + 1 + i : Nat) : Int) := by
      funext i
      show V.int ((k + (i + 1) : Nat) : Int) = _
      rw [show k + (i + 1) = k + 1 + i by omega]
    rw [e2]; exact q
section
variable {X : Cx}
def tListR (ta : TA) : TE := fun σ H Q => ta σ H fun vs H1 => ∃ n : Nat, vs = [.int n] ∧ n ≤ 1000 ∧ ∀ l, H1 l = none → Q (.ref l) (upd H1 l (.lst ((List.range n).map fun i => V.int (i : Nat))))
theorem pe_listRange {a : Expr} {ta : TA} {p p2 pos pos2 : Pos} (hc : X.calm = true) (hg : Gl X "list") (hm : X.mg "list" = none) (hg2 : Gl X "range") (hm2 : X.mg "range" = none) (ha : PA X [a] ta)
    (hs2 : starEach [a] X.env = [(false, eval a X.env)] := by rfl)
    (hs : starEach [.Call (.Name "range" p2) [a] [] pos2] X.env = [(false, eval (.Call (.Name "range" p2) [a] [] pos2) X.env)] := by rfl) :
    PE X (.Call (.Name "list" p) [.Call (.Name "range" p2) [a] [] pos2] [] pos) (tListR ta) := by
  intro pins s σ H Q I h
  refine wpAny_Call_Name_kw (ld_blt I hg hm boot_list ?_ (by decide) (by decide))
  refine PyProof.Rows.callWith_type1 ?_ hs rfl
  rw [hs]
  show wpAny _ _ (spliced ((false, eval (.Call (.Name "range" p2) [a] [] pos2) X.env) :: backTo pos [])) _ _ s
  refine Calls.spliced_cons ?_
  refine Call_ (ld_blt I hg2 hm2 boot_range (PyProof.Rows.callWith_type1 (thn (ha pos2 pins s σ H _ I h) fun us s1 ⟨vs, H1, I1, r1, q1⟩ => ?_) hs2 rfl))
  obtain ⟨n, e, hn, q⟩ := q1
  subst e
  cases r1 with
  | cons r rr =>
    cases rr
    obtain ⟨t, rfl⟩ := r
    refine call_range_1 ?_
    refine Calls.spliced_nil ?_
    have I2 : Inv X pins σ H1 { s1 with heap := s1.heap.push { cls := .type "range", data := .fields #[.int 0 s1.toks, .int (n : Int) t, .int 1 (s1.toks + 1)] }, toks := s1.toks + 1 + 1 } := I1.kept fun b o e => Heap.get?_push_of_some _ e
    have z24 : n ≤ 2 ^ 24 := Nat.le_trans hn (by decide)
    have sz : Builtin.Range.rangeSize 0 (n : Int) 1 = (n : Int) := by rw [rangeSize_one]; split <;> omega
    have sm1 : Builtin.Range.small 0 (n : Int) 1 = true := small_one (by decide) (by decide) (by omega) (by omega)
    refine call_list_range (n := n) (I1.ok.hd hc) (IsRange.new ..) sm1 sz z24 fun h' tk acc' c' hk hS hacc => ?_
    have hv := vals_from acc'.toList 0 fun i v hv => by
      obtain ⟨t, e⟩ := hacc.2 i v (by simpa using hv)
      exact ⟨t, by rw [e]; simp⟩
    have hl : acc'.toList.length = n := by simpa using hacc.1
    rw [hl] at hv
    have ev : ((List.range n).map fun i => V.int ((0 + i : Nat) : Int)) = (List.range n).map fun i => V.int (i : Nat) := List.map_congr_left fun i _ => by rw [Nat.zero_add]
    rw [ev] at hv
    refine ⟨.ref _, _, I2.laid (t' := tk) (o := .lst ((List.range n).map fun i => V.int (i : Nat))) hk (Nat.le_refl _) ?_, rfl, q _ (I2.hok.fresh (Nat.le_refl _))⟩
    exact ⟨by rw [List.length_map, List.length_range]; exact Nat.le_of_lt (small1000 hn), acc'.toList, c', hv, by simpa using hS⟩
end
end L2
namespace Rm
/-! ### rows, as plain functions -/
def tk (b n : Int) : Int := if b = 0 then n else n % b
theorem tk_zero (n : Int) : tk 0 n = n := if_pos rfl
theorem tk_pos {b : Int} (h : b ≠ 0) (n : Int) : tk b n = n % b := if_neg h
theorem tk_tk (b n : Int) : tk b (tk b n) = tk b n := by
  unfold tk; split
  · rfl
  · exact Int.emod_emod_of_dvd _ (Int.dvd_refl b)
theorem tk_add_l (b x y : Int) : tk b (tk b x + y) = tk b (x + y) := by
  unfold tk; split
  · rfl
  · exact Int.emod_add_emod ..
theorem tk_add_r (b x y : Int) : tk b (x + tk b y) = tk b (x + y) := by
  rw [Int.add_comm, tk_add_l, Int.add_comm]
theorem tk_mul_r (b x y : Int) : tk b (x * tk b y) = tk b (x * y) := by
  unfold tk; split
  · rfl
  · rw [Int.mul_emod, Int.emod_emod_of_dvd _ (Int.dvd_refl b), ← Int.mul_emod]
theorem tk_mul_l (b x y : Int) : tk b (tk b x * y) = tk b (x * y) := by
  rw [Int.mul_comm, tk_mul_r, Int.mul_comm]
theorem tk_congr_add {b x x' y y' : Int} (h : tk b x = tk b x') (h' : tk b y = tk b y') : tk b (x + y) = tk b (x' + y') := by
  rw [← tk_add_l, ← tk_add_r, h, h', tk_add_r, tk_add_l]
/-- the sum over k below m of rule[k] times f (n - 1 - k) -/
def S (rule : List Int) (f : Nat → Int) (n : Nat) : Nat → Int
  | 0 => 0
  | m + 1 => S rule f n m + rule.getD m 0 * f (n - 1 - m)
theorem S_congr {rule : List Int} {f g : Nat → Int} {n : Nat} : ∀ {m : Nat}, (∀ k, k < m → f (n - 1 - k) = g (n - 1 - k)) → S rule f n m = S rule g n m
  | 0, _ => rfl
  | m + 1, h => by
    unfold S
    rw [S_congr fun k hk => h k (by omega), h m (by omega)]
theorem S_shift {rule : List Int} {f : Nat → Int} {n d : Nat} : ∀ {m : Nat}, m ≤ n → S rule (fun i => f (d + i)) n m = S rule f (d + n) m
  | 0, _ => rfl
  | m + 1, h => by
    unfold S
    rw [S_shift (by omega), show d + n - 1 - m = d + (n - 1 - m) by omega]
theorem S_lin (b : Int) {rule : List Int} {f g : Nat → Int} {c : Int} {n : Nat} : ∀ m : Nat, tk b (S rule (fun i => tk b (f i + c * g i)) n m) = tk b (S rule f n m + c * S rule g n m)
  | 0 => by simp [S]
  | m + 1 => by
    unfold S
    have h1 := S_lin b (rule := rule) (f := f) (g := g) (c := c) (n := n) m
    have h2 : tk b (rule.getD m 0 * tk b (f (n - 1 - m) + c * g (n - 1 - m))) = tk b (rule.getD m 0 * (f (n - 1 - m) + c * g (n - 1 - m))) := tk_mul_r ..
    rw [tk_congr_add h1 h2]
    congr 1
    rw [Int.mul_add, Int.mul_add, Int.mul_left_comm (rule.getD m 0) c]
    omega
/-- the first n places -/
def row (b : Int) (rule starts : List Int) : Nat → List Int
  | 0 => []
  | n + 1 => row b rule starts n ++ [if n < starts.length then starts.getD n 0 else tk b (S rule (fun i => (row b rule starts n).getD i 0) n rule.length)]
theorem row_len (b : Int) (rule starts : List Int) : ∀ n, (row b rule starts n).length = n
  | 0 => rfl
  | n + 1 => by simp [row, row_len b rule starts n]
def at_ (b : Int) (rule starts : List Int) (n : Nat) : Int := (row b rule starts (n + 1)).getD n 0
theorem row_get (b : Int) (rule starts : List Int) : ∀ {n i : Nat}, i < n → (row b rule starts n).getD i 0 = at_ b rule starts i
  | n + 1, i, h => by
    by_cases e : i = n
    · subst e; rfl
    · have hi : i < n := by omega
      have hl := row_len b rule starts n
      have := row_get b rule starts (n := n) (i := i) hi
      rw [← this]
      show (row b rule starts n ++ _).getD i 0 = _
      rw [List.getD_eq_getElem?_getD, List.getElem?_append_left (by omega), ← List.getD_eq_getElem?_getD]
theorem at_val (b : Int) (rule starts : List Int) (n : Nat) : at_ b rule starts n = if n < starts.length then starts.getD n 0 else tk b (S rule (fun i => (row b rule starts n).getD i 0) n rule.length) := by
  unfold at_
  have hl := row_len b rule starts n
  show (row b rule starts n ++ _).getD n 0 = _
  rw [List.getD_eq_getElem?_getD, List.getElem?_append_right (by omega), hl]
  simp
theorem at_lt {b : Int} {rule starts : List Int} {n : Nat} (h : n < starts.length) : at_ b rule starts n = starts.getD n 0 := by
  rw [at_val, if_pos h]
theorem at_ge {b : Int} {rule starts : List Int} {n : Nat} (hl : rule.length = starts.length) (h : starts.length ≤ n) : at_ b rule starts n = tk b (S rule (at_ b rule starts) n rule.length) := by
  rw [at_val, if_neg (by omega)]
  congr 1
  refine S_congr fun k hk => row_get b rule starts (by omega)
theorem row_eq (b : Int) (rule starts : List Int) : ∀ n, row b rule starts n = (List.range n).map (at_ b rule starts)
  | 0 => rfl
  | n + 1 => by
    rw [List.range_succ, List.map_append, ← row_eq b rule starts n]
    show _ ++ [_] = _ ++ [at_ b rule starts n]
    rw [at_val]
theorem row_succ (b : Int) (rule starts : List Int) (n : Nat) : row b rule starts (n + 1) = row b rule starts n ++ [at_ b rule starts n] := by
  rw [at_val]; rfl
/-- what goes by the rule is the row -/
theorem at_uniq {b : Int} {rule starts : List Int} (hl : rule.length = starts.length) {g : Nat → Int} (h1 : ∀ i, i < starts.length → g i = starts.getD i 0)
    (h2 : ∀ i, starts.length ≤ i → g i = tk b (S rule g i rule.length)) : ∀ n, at_ b rule starts n = g n := by
  intro n
  induction n using Nat.strongRecOn with
  | ind n ih =>
    by_cases h : n < starts.length
    · rw [at_lt h, h1 n h]
    · rw [at_ge hl (by omega), h2 n (by omega)]
      congr 1
      exact S_congr fun k hk => ih _ (by omega)
theorem row_starts {b : Int} {rule starts : List Int} : ∀ {n : Nat}, n ≤ starts.length → row b rule starts n = starts.take n
  | 0, _ => by simp [row]
  | n + 1, h => by
    rw [row_succ, row_starts (by omega), at_lt (by omega), List.take_add_one, List.getD_eq_getElem?_getD, List.getElem?_eq_getElem (by omega)]
    rfl
/-- from a place on -/
theorem at_window {b : Int} {rule starts w : List Int} {d : Nat} (hl : rule.length = starts.length) (hw : w.length = starts.length) (h : ∀ i, i < w.length → w.getD i 0 = at_ b rule starts (d + i)) (n : Nat) :
    at_ b rule w n = at_ b rule starts (d + n) := by
  refine at_uniq (by omega) (g := fun i => at_ b rule starts (d + i)) (fun i hi => (h i hi).symm) (fun i hi => ?_) n
  rw [S_shift (by omega), at_ge hl (by omega)]
/-- two rows of one rule -/
theorem at_both {b c : Int} {rule s1 s2 s3 : List Int} (h1 : rule.length = s1.length) (h2 : rule.length = s2.length) (h3 : rule.length = s3.length)
    (h : ∀ i, i < s3.length → s3.getD i 0 = tk b (s1.getD i 0 + c * s2.getD i 0)) (n : Nat) : at_ b rule s3 n = tk b (at_ b rule s1 n + c * at_ b rule s2 n) := by
  refine at_uniq h3 (g := fun i => tk b (at_ b rule s1 i + c * at_ b rule s2 i)) (fun i hi => ?_) (fun i hi => ?_) n
  · rw [at_lt (by omega), at_lt (by omega), h i hi]
  · rw [S_lin, at_ge h1 (by omega), at_ge h2 (by omega), tk_add_l, ← tk_add_r, tk_mul_r, tk_add_r]
/-! ### sizes -/
def Bd (n : Nat) (x : Int) : Prop := x.natAbs < 2 ^ n
theorem Bd.mono {m n : Nat} {x : Int} (h : Bd m x) (hmn : m ≤ n) : Bd n x := Nat.lt_of_lt_of_le h (Nat.pow_le_pow_right (by decide) hmn)
theorem Bd.mul {m n : Nat} {x y : Int} (h : Bd m x) (h' : Bd n y) : Bd (m + n) (x * y) := by
  unfold Bd at *
  rw [Int.natAbs_mul, Nat.pow_add]
  exact Nat.mul_lt_mul'' h h'
theorem Bd.add {n : Nat} {x y : Int} (h : Bd n x) (h' : Bd n y) : Bd (n + 1) (x + y) := by
  unfold Bd at *
  have := Int.natAbs_add_le x y
  rw [Nat.pow_succ]
  omega
theorem Bd.zero (n : Nat) : Bd n 0 := Nat.pow_pos (by decide)
theorem Bd.of {n : Nat} {x : Int} (h1 : -(2 ^ n) < x) (h2 : x < 2 ^ n) : Bd n x := by
  unfold Bd
  have e : ((2 ^ n : Nat) : Int) = (2 : Int) ^ n := by simp
  omega
theorem Bd.emod {n : Nat} {x b : Int} (hb : 0 < b) (h : Bd n b) : Bd n (x % b) := by
  unfold Bd at *
  have := Int.emod_nonneg x (show b ≠ 0 by omega)
  have := Int.emod_lt_of_pos x hb
  omega
theorem Bd.S {rule : List Int} {f : Nat → Int} {n a c : Nat} (hr : ∀ k, Bd a (rule.getD k 0)) : ∀ m : Nat, (∀ k, k < m → Bd c (f (n - 1 - k))) → Bd (a + c + m) (Rm.S rule f n m)
  | 0, _ => Bd.zero _
  | m + 1, h => by
    unfold Rm.S
    refine Bd.add (n := a + c + m) (Bd.S hr m fun k hk => h k (by omega)) (((hr m).mul (h m (by omega))).mono (by omega))
theorem getD_mem_or (l : List Int) (k : Nat) : l.getD k 0 = 0 ∨ l.getD k 0 ∈ l := by
  by_cases h : k < l.length
  · right
    rw [List.getD_eq_getElem?_getD, List.getElem?_eq_getElem h]
    exact List.getElem_mem h
  · left
    rw [List.getD_eq_getElem?_getD, List.getElem?_eq_none (by omega)]
    rfl
theorem Bd.getD {l : List Int} {n : Nat} (h : ∀ x ∈ l, Bd n x) (k : Nat) : Bd n (l.getD k 0) := by
  rcases getD_mem_or l k with e | e
  · rw [e]; exact .zero n
  · exact h _ e
theorem tk_bd {b x : Int} {n : Nat} (hb : 0 ≤ b) (hb' : Bd n b) (h : Bd n x) : Bd n (tk b x) := by
  unfold tk
  split
  · exact h
  · exact Bd.emod (by omega) hb'
theorem at_bd {b : Int} {rule starts : List Int} {a c : Nat} (hl : rule.length = starts.length) (hb : 0 ≤ b) (hb' : Bd c b) (hr : ∀ x ∈ rule, Bd a x) (hs : ∀ x ∈ starts, Bd c x) :
    ∀ n, Bd (c + n * (a + rule.length)) (at_ b rule starts n) := by
  intro n
  induction n using Nat.strongRecOn with
  | ind n ih =>
    by_cases h : n < starts.length
    · rw [at_lt h]
      exact (Bd.getD hs n).mono (by omega)
    · rw [at_ge hl (by omega)]
      by_cases h0 : rule.length = 0
      · rw [h0]
        exact tk_bd hb (hb'.mono (by omega)) (.zero _)
      · have hn : 0 < n := by omega
        have q := Bd.S (rule := rule) (f := at_ b rule starts) (n := n) (a := a) (c := c + (n - 1) * (a + rule.length)) (fun k => Bd.getD hr k) rule.length fun k hk => by
          refine (ih (n - 1 - k) (by omega)).mono ?_
          have : (n - 1 - k) * (a + rule.length) ≤ (n - 1) * (a + rule.length) := Nat.mul_le_mul_right _ (by omega)
          omega
        have e : n * (a + rule.length) = (n - 1) * (a + rule.length) + (a + rule.length) := by
          obtain ⟨m, rfl⟩ : ∃ m, n = m + 1 := ⟨n - 1, by omega⟩
          rw [Nat.add_sub_cancel, Nat.succ_mul]
        exact tk_bd hb (hb'.mono (by omega)) (q.mono (by omega))
end Rm
namespace Om
end Om
namespace Pm
open Rm
/-! ### sums -/
def sm : Nat → (Nat → Int) → Int
  | 0, _ => 0
  | n + 1, f => sm n f + f n
theorem sm_congr {f g : Nat → Int} : ∀ {n : Nat}, (∀ k, k < n → f k = g k) → sm n f = sm n g
  | 0, _ => rfl
  | n + 1, h => by rw [sm, sm, sm_congr fun k hk => h k (by omega), h n (by omega)]
theorem sm_zero : ∀ n : Nat, sm n (fun _ => 0) = 0
  | 0 => rfl
  | n + 1 => by rw [sm, sm_zero n]; rfl
theorem sm_none {f : Nat → Int} {n : Nat} (h : ∀ k, k < n → f k = 0) : sm n f = 0 := by rw [sm_congr h, sm_zero]
theorem sm_head (f : Nat → Int) : ∀ n : Nat, sm (n + 1) f = f 0 + sm n (fun i => f (i + 1))
  | 0 => by simp [sm]
  | n + 1 => by
    rw [sm, sm_head f n, sm, Int.add_assoc]
theorem sm_add (f g : Nat → Int) : ∀ n : Nat, sm n (fun k => f k + g k) = sm n f + sm n g
  | 0 => rfl
  | n + 1 => by rw [sm, sm, sm, sm_add f g n]; omega
theorem sm_mul (c : Int) (f : Nat → Int) : ∀ n : Nat, sm n (fun k => c * f k) = c * sm n f
  | 0 => by simp [sm]
  | n + 1 => by rw [sm, sm, sm_mul c f n, Int.mul_add]
/-- what is nought behind a place may be left out -/
theorem sm_more {f : Nat → Int} {m : Nat} : ∀ {n : Nat}, m ≤ n → (∀ k, m ≤ k → k < n → f k = 0) → sm n f = sm m f
  | 0, h, _ => by rw [show m = 0 by omega]
  | n + 1, h, h0 => by
    by_cases e : m = n + 1
    · rw [e]
    · rw [sm, sm_more (n := n) (by omega) (fun k h1 h2 => h0 k h1 (by omega)), h0 n (by omega) (by omega), Int.add_zero]
theorem tk0 (b : Int) : tk b 0 = 0 := by unfold tk; split <;> simp
theorem tk_sm {b : Int} {f g : Nat → Int} : ∀ {n : Nat}, (∀ k, k < n → tk b (f k) = tk b (g k)) → tk b (sm n f) = tk b (sm n g)
  | 0, _ => rfl
  | n + 1, h => by
    rw [sm, sm]
    exact tk_congr_add (tk_sm fun k hk => h k (by omega)) (h n (by omega))
theorem list_sum (f : Nat → Int) : ∀ n : Nat, ((List.range n).map f).sum = sm n f
  | 0 => rfl
  | n + 1 => by rw [List.range_succ, List.map_append, List.sum_append, list_sum f n]; simp [sm]
/-! ### products -/
def cv : (Nat → Int) → (Nat → Int) → Nat → Int
  | f, g, 0 => f 0 * g 0
  | f, g, k + 1 => f 0 * g (k + 1) + cv (fun i => f (i + 1)) g k
theorem cv_sm : ∀ (f g : Nat → Int) (k : Nat), cv f g k = sm (k + 1) (fun j => f j * g (k - j))
  | f, g, 0 => by simp [cv, sm]
  | f, g, k + 1 => by
    rw [cv, cv_sm _ g k, sm_head (fun j => f j * g (k + 1 - j))]
    refine congrArg (_ + ·) (sm_congr fun j hj => ?_)
    rw [show k + 1 - (j + 1) = k - j by omega]
theorem cv_congr {f f' g g' : Nat → Int} {k : Nat} (h : ∀ i, i ≤ k → f i = f' i) (h' : ∀ i, i ≤ k → g i = g' i) : cv f g k = cv f' g' k := by
  rw [cv_sm, cv_sm]
  exact sm_congr fun j hj => by rw [h j (by omega), h' _ (by omega)]
theorem cv_addl (f f' g : Nat → Int) (k : Nat) : cv (fun i => f i + f' i) g k = cv f g k + cv f' g k := by
  rw [cv_sm, cv_sm, cv_sm, ← sm_add]
  exact sm_congr fun j _ => Int.add_mul ..
theorem cv_zero {f g : Nat → Int} {k : Nat} (h : ∀ i, i ≤ k → f i = 0 ∨ g (k - i) = 0) : cv f g k = 0 := by
  rw [cv_sm]
  exact sm_none fun j hj => by rcases h j (by omega) with e | e <;> rw [e] <;> simp
/-! ### lists of numbers -/
def co (p : List Int) (k : Nat) : Int := p.getD k 0
theorem co_nil (k : Nat) : co [] k = 0 := by simp [co]
theorem co_zero (x : Int) (r : List Int) : co (x :: r) 0 = x := by simp [co]
theorem co_succ (x : Int) (r : List Int) (k : Nat) : co (x :: r) (k + 1) = co r k := by simp [co]
theorem co_ge {p : List Int} {k : Nat} (h : p.length ≤ k) : co p k = 0 := by
  rw [co, List.getD_eq_getElem?_getD, List.getElem?_eq_none h]; rfl
theorem co_lt {p : List Int} {k : Nat} (h : k < p.length) : co p k = p[k] := by
  rw [co, List.getD_eq_getElem?_getD, List.getElem?_eq_getElem h]; rfl
theorem co_mem {p : List Int} {k : Nat} (h : k < p.length) : co p k ∈ p := by rw [co_lt h]; exact List.getElem_mem h
def ofF (n : Nat) (f : Nat → Int) : List Int := (List.range n).map f
theorem ofF_len (n : Nat) (f : Nat → Int) : (ofF n f).length = n := by simp [ofF]
theorem co_ofF (n : Nat) (f : Nat → Int) (k : Nat) : co (ofF n f) k = if k < n then f k else 0 := by
  by_cases h : k < n
  · rw [if_pos h, co, ofF, List.getD_eq_getElem?_getD, List.getElem?_map, List.getElem?_range h]; rfl
  · rw [if_neg h, co_ge (by rw [ofF_len]; omega)]
theorem ofF_succ (n : Nat) (f : Nat → Int) : ofF (n + 1) f = ofF n f ++ [f n] := by
  rw [ofF, List.range_succ, List.map_append]; rfl
theorem ofF_co (p : List Int) : ofF p.length (co p) = p := by
  apply List.ext_getElem (by rw [ofF_len])
  intro i h1 h2
  simp only [ofF, List.getElem_map, List.getElem_range]
  exact co_lt h2
theorem co_ext {p q : List Int} (hl : p.length = q.length) (h : ∀ k, co p k = co q k) : p = q := by
  rw [← ofF_co p, ← ofF_co q, hl]
  exact List.map_congr_left fun k _ => h k
theorem co_set (p : List Int) (i : Nat) (x : Int) (k : Nat) (hi : i < p.length) : co (p.set i x) k = if k = i then x else co p k := by
  unfold co
  rw [List.getD_eq_getElem?_getD, List.getElem?_set, List.getD_eq_getElem?_getD]
  by_cases e : i = k
  · subst e; simp [hi]
  · rw [if_neg e, if_neg (fun z => e z.symm)]
theorem co_append (p q : List Int) (k : Nat) : co (p ++ q) k = if k < p.length then co p k else co q (k - p.length) := by
  unfold co
  by_cases h : k < p.length
  · rw [if_pos h, List.getD_eq_getElem?_getD, List.getElem?_append_left h, ← List.getD_eq_getElem?_getD]
  · rw [if_neg h, List.getD_eq_getElem?_getD, List.getElem?_append_right (by omega), ← List.getD_eq_getElem?_getD]
/-! ### without noughts behind -/
def trim : List Int → List Int
  | [] => []
  | x :: r => if x = 0 ∧ trim r = [] then [] else x :: trim r
theorem co_trim : ∀ (p : List Int) (k : Nat), co (trim p) k = co p k
  | [], k => rfl
  | x :: r, k => by
    rw [trim]
    have ih := co_trim r
    by_cases h : x = 0 ∧ trim r = []
    · rw [if_pos h]
      rw [h.2] at ih
      cases k with
      | zero => rw [co_nil, co_zero, h.1]
      | succ k => rw [co_succ, ← ih k, co_nil, co_nil]
    · rw [if_neg h]
      cases k with
      | zero => rw [co_zero, co_zero]
      | succ k => rw [co_succ, co_succ, ih k]
theorem trim_nil {p : List Int} : trim p = [] ↔ ∀ k, co p k = 0 := by
  constructor
  · intro h k; rw [← co_trim, h, co_nil]
  · intro h
    induction p with
    | nil => rfl
    | cons x r ih =>
      rw [trim, if_pos ⟨by have := h 0; rwa [co_zero] at this, ih fun k => by have := h (k + 1); rwa [co_succ] at this⟩]
theorem trim_ext : ∀ {p q : List Int}, (∀ k, co p k = co q k) → trim p = trim q
  | [], q, h => by rw [show trim q = [] from trim_nil.mpr fun k => by rw [← h k, co_nil]]; rfl
  | x :: r, [], h => by rw [show trim (x :: r) = [] from trim_nil.mpr fun k => by rw [h k, co_nil]]; rfl
  | x :: r, y :: s, h => by
    have e1 := h 0
    rw [co_zero, co_zero] at e1
    have e2 : trim r = trim s := trim_ext fun k => by have := h (k + 1); rwa [co_succ, co_succ] at this
    rw [trim, trim, e1, e2]
theorem trim_trim (p : List Int) : trim (trim p) = trim p := trim_ext (co_trim p)
theorem trim_len_le : ∀ p : List Int, (trim p).length ≤ p.length
  | [] => Nat.le_refl _
  | x :: r => by
    have := trim_len_le r
    rw [trim]; split
    · simp
    · simp; omega
theorem trim_len_of : ∀ {p : List Int} {n : Nat}, (∀ k, n ≤ k → co p k = 0) → (trim p).length ≤ n
  | [], n, _ => Nat.zero_le _
  | x :: r, 0, h => by rw [trim_nil.mpr fun k => h k (Nat.zero_le _)]; exact Nat.le_refl 0
  | x :: r, n + 1, h => by
    have := trim_len_of (p := r) (n := n) fun k hk => by have := h (k + 1) (by omega); rwa [co_succ] at this
    rw [trim]; split
    · simp
    · simp; omega
theorem trim_zero (p : List Int) : trim (p ++ [0]) = trim p := trim_ext fun k => by
  rw [co_append]
  by_cases h : k < p.length
  · rw [if_pos h]
  · rw [if_neg h, co_ge (p := p) (by omega)]
    cases k - p.length with
    | zero => rfl
    | succ j => rw [co_succ, co_nil]
theorem trim_last : ∀ (p : List Int) {x : Int}, x ≠ 0 → trim (p ++ [x]) = p ++ [x]
  | [], x, h => by simp [trim, h]
  | y :: r, x, h => by
    show trim (y :: (r ++ [x])) = _
    rw [trim, trim_last r h, if_neg (by simp)]; rfl
theorem trim_mem {p : List Int} {x : Int} (h : x ∈ trim p) : x ∈ p := by
  induction p with
  | nil => exact h
  | cons y r ih =>
    rw [trim] at h
    split at h
    · cases h
    · rcases List.mem_cons.mp h with rfl | h
      · exact List.mem_cons_self
      · exact List.mem_cons_of_mem _ (ih h)
/-- a polynomial by b -/
structure Py (b : Int) (p : List Int) : Prop where
  tr : trim p = p
  nu : ∀ x ∈ p, tk b x = x
theorem Py.co {b : Int} {p : List Int} (h : Py b p) (k : Nat) : tk b (co p k) = co p k := by
  by_cases hk : k < p.length
  · exact h.nu _ (co_mem hk)
  · rw [co_ge (by omega), tk0]
theorem Py.of {b : Int} {p : List Int} (h : ∀ x ∈ p, tk b x = x) : Py b (trim p) := ⟨trim_trim p, fun x hx => h x (trim_mem hx)⟩
theorem mem_ofF {n : Nat} {f : Nat → Int} {x : Int} (h : x ∈ ofF n f) : ∃ k, k < n ∧ x = f k := by
  obtain ⟨k, hk, e⟩ := List.mem_map.mp h
  exact ⟨k, List.mem_range.mp hk, e.symm⟩
theorem Py.ofF (b : Int) (n : Nat) (f : Nat → Int) : Py b (trim (Pm.ofF n fun k => tk b (f k))) := Py.of fun x hx => by
  obtain ⟨k, _, rfl⟩ := mem_ofF hx
  exact tk_tk ..
/-! ### sums, products -/
def add (b : Int) (p q : List Int) : List Int := trim (ofF (max p.length q.length) fun k => tk b (co p k + co q k))
def mul (b : Int) (p q : List Int) : List Int := trim (ofF (p.length + q.length) fun k => tk b (cv (co p) (co q) k))
theorem mul_py (b : Int) (p q : List Int) : Py b (mul b p q) := Py.ofF ..
theorem add_co (b : Int) (p q : List Int) (k : Nat) : co (add b p q) k = tk b (co p k + co q k) := by
  rw [add, co_trim, co_ofF]
  split
  · rfl
  · rw [co_ge (p := p) (by omega), co_ge (p := q) (by omega), Int.add_zero, tk0]
theorem mul_co (b : Int) (p q : List Int) (k : Nat) : co (mul b p q) k = tk b (cv (co p) (co q) k) := by
  rw [mul, co_trim, co_ofF]
  split
  · rfl
  · rw [cv_zero, tk0]
    intro i hi
    by_cases h : i < p.length
    · exact .inr (co_ge (by omega))
    · exact .inl (co_ge (by omega))
/-! ### the product, step by step -/
/-- the rows of the product below i, and of row i what stands below k -/
def W (f g : Nat → Int) (i k c : Nat) : Int := sm i (fun j => if j ≤ c then f j * g (c - j) else 0) + (if i ≤ c ∧ c - i < k then f i * g (c - i) else 0)
theorem W_zero (f g : Nat → Int) (c : Nat) : W f g 0 0 c = 0 := by simp [W, sm]
theorem W_step {f g : Nat → Int} {i k c : Nat} : W f g i (k + 1) c = W f g i k c + (if c = i + k then f i * g k else 0) := by
  unfold W
  by_cases h : c = i + k
  · rw [if_pos h, if_pos (by omega), if_neg (by omega), show c - i = k by omega]; omega
  · rw [if_neg h]
    by_cases h2 : i ≤ c ∧ c - i < k
    · rw [if_pos h2, if_pos (by omega)]; omega
    · rw [if_neg h2, if_neg (by omega)]; omega
theorem W_row {f g : Nat → Int} {i n c : Nat} (hg : ∀ k, n ≤ k → g k = 0) : W f g i n c = W f g (i + 1) 0 c := by
  unfold W
  rw [sm, if_neg (show ¬ (i + 1 ≤ c ∧ c - (i + 1) < 0) by omega)]
  by_cases h : i ≤ c
  · rw [if_pos h]
    by_cases h2 : c - i < n
    · rw [if_pos ⟨h, h2⟩]; omega
    · rw [if_neg (by omega), hg _ (by omega), Int.mul_zero]; omega
  · rw [if_neg (by omega), if_neg h]; omega
theorem W_end {f g : Nat → Int} {m c : Nat} (hf : ∀ k, m ≤ k → f k = 0) : W f g m 0 c = cv f g c := by
  unfold W
  rw [if_neg (by omega), Int.add_zero, cv_sm]
  by_cases h : m ≤ c + 1
  · rw [sm_more (n := c + 1) h fun k h1 _ => by rw [hf k h1, Int.zero_mul]]
    exact sm_congr fun j hj => if_pos (by omega)
  · rw [sm_more (m := c + 1) (n := m) (by omega) fun k h1 _ => if_neg (by omega)]
    exact sm_congr fun j hj => if_pos (by omega)
end Pm
namespace Pm
open Rm
/-! ### what keeps a row -/
theorem sm_swap (F : Nat → Nat → Int) (m : Nat) : ∀ n : Nat, sm m (fun k => sm n (fun j => F k j)) = sm n (fun j => sm m (fun k => F k j))
  | 0 => by simp only [sm]; exact sm_zero m
  | n + 1 => by
    simp only [sm]
    rw [sm_add, sm_swap F m n]
theorem S_sm (rule : List Int) (f : Nat → Int) (n : Nat) : ∀ m : Nat, S rule f n m = sm m (fun k => co rule k * f (n - 1 - k))
  | 0 => rfl
  | m + 1 => by rw [S, sm, S_sm rule f n m]; rfl
/-- the sum of a polynomial's numbers times what stands from n on -/
def ks (p : List Int) (a : Nat → Int) (n : Nat) : Int := sm p.length (fun k => co p k * a (n + k))
/-- the polynomial of a rule, the rule of a polynomial -/
def ofRule (b : Int) (c : List Int) : List Int := ofF c.length (fun k => tk b (0 - co c (c.length - 1 - k))) ++ [1]
theorem ofRule_len (b : Int) (c : List Int) : (ofRule b c).length = c.length + 1 := by simp [ofRule, ofF_len]
theorem at_rec {b : Int} {rule starts : List Int} (hl : rule.length = starts.length) : ∀ n, rule.length ≤ n → tk b (at_ b rule starts n) = tk b (S rule (at_ b rule starts) n rule.length) := fun n hn => by
  rw [at_ge hl (by omega), tk_tk]
/-! ### sizes -/
theorem Bd_sm {f : Nat → Int} {c : Nat} : ∀ n : Nat, (∀ k, k < n → Bd c (f k)) → Bd (c + n) (sm n f)
  | 0, _ => Bd.zero _
  | n + 1, h => by
    rw [sm]
    exact Bd.add (n := c + n) (Bd_sm n fun k hk => h k (by omega)) ((h n (by omega)).mono (by omega))
theorem Bd_co {p : List Int} {u : Nat} (h : ∀ x ∈ p, Bd u x) (k : Nat) : Bd u (co p k) := Bd.getD h k
theorem Bd_cv {p q : List Int} {u v : Nat} (h : ∀ x ∈ p, Bd u x) (h' : ∀ x ∈ q, Bd v x) (k : Nat) : Bd (u + v + p.length) (cv (co p) (co q) k) := by
  rw [← W_end (m := p.length) fun j hj => co_ge hj, W, if_neg (by omega), Int.add_zero]
  refine Bd_sm _ fun j _ => ?_
  split
  · exact (Bd_co h j).mul (Bd_co h' _)
  · exact Bd.zero _
theorem mul_bd {b : Int} {p q : List Int} {u v : Nat} (hb : 0 ≤ b) (hb1 : b < 1000) (hu : 10 ≤ u) (h : ∀ x ∈ p, Bd u x) (h' : ∀ x ∈ q, Bd v x) : ∀ x ∈ mul b p q, Bd (u + v + p.length) x := by
  intro x hx
  obtain ⟨k, _, rfl⟩ := mem_ofF (trim_mem hx)
  refine tk_bd hb ?_ (Bd_cv h h' k)
  exact (Bd.of (n := 10) (by omega) (by omega)).mono (by omega)
theorem ofRule_bd {b : Int} {c : List Int} {u : Nat} (hb : 0 ≤ b) (hb1 : b < 1000) (hu : 10 ≤ u) (h : ∀ x ∈ c, Bd u x) : ∀ x ∈ ofRule b c, Bd u x := by
  intro x hx
  rcases List.mem_append.mp hx with hx | hx
  · obtain ⟨k, _, rfl⟩ := mem_ofF hx
    refine tk_bd hb ((Bd.of (n := 10) (by omega) (by omega)).mono (by omega)) ?_
    have := Bd_co h (c.length - 1 - k)
    unfold Bd at this ⊢
    rw [Int.zero_sub, Int.natAbs_neg]; exact this
  · rw [List.mem_singleton.mp hx]
    exact (Bd.of (n := 10) (by decide) (by decide)).mono hu
end Pm
namespace Pm
open Rm
/-! ### divided by a monic one -/
theorem sm_single (x : Int) (j : Nat) : ∀ n : Nat, sm n (fun i => if i = j then x else 0) = if j < n then x else 0
  | 0 => by simp [sm]
  | n + 1 => by
    rw [sm, sm_single x j n]
    by_cases h : n = j
    · rw [if_pos h, if_neg (by omega), if_pos (by omega)]; omega
    · rw [if_neg h]
      by_cases h2 : j < n
      · rw [if_pos h2, if_pos (by omega)]; omega
      · rw [if_neg h2, if_neg (by omega)]; omega
/-- f at s put into a product -/
theorem cv_point (f : Int) (s : Nat) (g : Nat → Int) (k : Nat) : cv (fun i => if i = s then f else 0) g k = if s ≤ k then f * g (k - s) else 0 := by
  rw [cv_sm]
  have e : sm (k + 1) (fun j => (if j = s then f else 0) * g (k - j)) = sm (k + 1) (fun j => if j = s then f * g (k - s) else 0) := sm_congr fun j _ => by
    by_cases h : j = s
    · rw [if_pos h, if_pos h, h]
    · rw [if_neg h, if_neg h, Int.zero_mul]
  rw [e, sm_single]
  by_cases h : s ≤ k
  · rw [if_pos h, if_pos (by omega)]
  · rw [if_neg h, if_neg (by omega)]
/-- monic -/
structure Mon (m : List Int) : Prop where
  pos : 0 < m.length
  one : co m (m.length - 1) = 1
/-- how often q, what is left r -/
structure Div (b : Int) (p m q r : List Int) : Prop where
  qy : Py b q
  ry : Py b r
  short : r.length < m.length
  eq : ∀ k, tk b (cv (co q) (co m) k + co r k) = tk b (co p k)
/-- the way of dividing: the shifts from s on are done -/
structure DivI (b : Int) (p m : List Int) (s : Nat) (o l : List Int) : Prop where
  eq : ∀ k, tk b (cv (co o) (co m) k + co l k) = tk b (co p k)
  zero : ∀ k, s + (m.length - 1) ≤ k → co l k = 0
  low : ∀ k, k < s → co o k = 0
  ol : o.length = p.length - (m.length - 1)
  ll : l.length = p.length
  on : ∀ k, tk b (co o k) = co o k
  ln : ∀ k, tk b (co l k) = co l k
theorem DivI.start {b : Int} {p m : List Int} (hp : ∀ k, tk b (co p k) = co p k) : DivI b p m (p.length - (m.length - 1)) (ofF (p.length - (m.length - 1)) fun _ => 0) p := by
  have z : ∀ k, co (ofF (p.length - (m.length - 1)) fun _ => 0) k = 0 := fun k => by rw [co_ofF]; split <;> rfl
  exact ⟨fun k => by rw [cv_zero fun i _ => .inl (z i), Int.zero_add], fun k hk => co_ge (by omega), fun k _ => z k, ofF_len _ _, rfl, fun k => by rw [z, tk0], hp⟩
/-- what is left behind k steps of a shift -/
def lf (b f : Int) (s t : Nat) (l m : List Int) (k : Nat) : Int := if s ≤ k ∧ k < s + t then tk b (co l k - f * co m (k - s)) else co l k
theorem lf_zero (b f : Int) (s : Nat) (l m : List Int) (k : Nat) : lf b f s 0 l m k = co l k := if_neg (by omega)
theorem lf_step (b f : Int) (s t : Nat) (l m : List Int) (k : Nat) : lf b f s (t + 1) l m k = if k = s + t then tk b (lf b f s t l m k - f * co m t) else lf b f s t l m k := by
  unfold lf
  by_cases h : k = s + t
  · rw [if_pos h, if_pos (by omega), if_neg (by omega), show k - s = t by omega]
  · rw [if_neg h]
    by_cases h2 : s ≤ k ∧ k < s + t
    · rw [if_pos h2, if_pos (by omega)]
    · rw [if_neg h2, if_neg (by omega)]
theorem lf_all {b f : Int} {s : Nat} {l m : List Int} (hl : ∀ k, tk b (co l k) = co l k) (k : Nat) : lf b f s m.length l m k = tk b (co l k - (if s ≤ k then f * co m (k - s) else 0)) := by
  unfold lf
  by_cases h : s ≤ k
  · rw [if_pos h]
    by_cases h2 : k < s + m.length
    · rw [if_pos ⟨h, h2⟩]
    · rw [if_neg (by omega), co_ge (p := m) (by omega), Int.mul_zero, Int.sub_zero, hl]
  · rw [if_neg (by omega), if_neg h, Int.sub_zero, hl]
theorem DivI.step {b : Int} {p m o l l' : List Int} {s : Nat} (hm : Mon m) (h : DivI b p m (s + 1) o l) (hs : s < p.length - (m.length - 1)) (hl : l'.length = l.length) (e : ∀ k, co l' k = lf b (co l (s + (m.length - 1))) s m.length l m k) :
    DivI b p m s (o.set s (co l (s + (m.length - 1)))) l' := by
  have hp := hm.pos
  have ho := h.ol
  have eo : co (o.set s (co l (s + (m.length - 1)))) = fun k => co o k + (if k = s then co l (s + (m.length - 1)) else 0) := by
    funext k
    rw [co_set _ _ _ _ (by omega)]
    by_cases c : k = s
    · rw [if_pos c, if_pos c, c, h.low s (by omega), Int.zero_add]
    · rw [if_neg c, if_neg c, Int.add_zero]
  have el : ∀ k, co l' k = tk b (co l k - (if s ≤ k then co l (s + (m.length - 1)) * co m (k - s) else 0)) := fun k => by rw [e, lf_all h.ln]
  refine ⟨fun k => ?_, fun k hk => ?_, fun k hk => ?_, by rw [List.length_set, ho], by rw [hl, h.ll], fun k => ?_, fun k => by rw [el, tk_tk]⟩
  · rw [eo, cv_addl (co o), cv_point, el, tk_add_r, ← h.eq k]
    congr 1; omega
  · rw [el, if_pos (by omega)]
    by_cases c : k = s + (m.length - 1)
    · rw [c, show s + (m.length - 1) - s = m.length - 1 by omega, hm.one, Int.mul_one, Int.sub_self, tk0]
    · rw [h.zero k (by omega), co_ge (p := m) (by omega), Int.mul_zero, Int.sub_zero, tk0]
  · rw [eo]; simp only; rw [h.low k (by omega), if_neg (by omega), Int.add_zero]
  · rw [co_set _ _ _ _ (by omega)]
    split
    · exact h.ln _
    · exact h.on _
theorem DivI.stop {b : Int} {p m o l : List Int} (hm : Mon m) (h : DivI b p m 0 o l) : Div b p m (trim o) (trim l) := by
  have hp := hm.pos
  have y : ∀ {x : List Int}, (∀ k, tk b (co x k) = co x k) → Py b (trim x) := fun hx => Py.of fun z hz => by
    obtain ⟨k, hk, e⟩ := List.mem_iff_getElem.mp hz
    rw [← e, ← co_lt hk]; exact hx k
  refine ⟨y h.on, y h.ln, ?_, fun k => ?_⟩
  · have := trim_len_of (p := l) (n := m.length - 1) fun k hk => h.zero k (by omega)
    omega
  · rw [co_trim, ← h.eq k]
    congr 2
    exact cv_congr (fun i _ => co_trim _ _) (fun _ _ => rfl)
/-! ### sizes -/
theorem lf_bd {b f : Int} {s t : Nat} {l m : List Int} {u v : Nat} (hb : 0 ≤ b) (hb1 : b < 1000) (hu : 10 ≤ u) (hf : Bd u f) (hl : ∀ k, Bd u (co l k)) (hm : ∀ x ∈ m, Bd v x) (k : Nat) : Bd (u + v + 1) (lf b f s t l m k) := by
  unfold lf
  split
  · refine tk_bd hb ((Bd.of (n := 10) (by omega) (by omega)).mono (by omega)) ?_
    rw [Int.sub_eq_add_neg]
    refine Bd.add ((hl k).mono (by omega)) ?_
    have := hf.mul (Bd_co hm (k - s))
    unfold Bd at this ⊢
    rw [Int.natAbs_neg]; exact this
  · exact (hl k).mono (by omega)
end Pm
namespace Pm
open Rm
/-! ### products as deeds upon a row -/
theorem sm_shift (g : Nat → Int) (j : Nat) : ∀ m : Nat, sm (j + m) (fun k => if j ≤ k then g (k - j) else 0) = sm m g
  | 0 => by
    rw [Nat.add_zero]
    exact sm_none fun k hk => if_neg (by omega)
  | m + 1 => by
    rw [← Nat.add_assoc, sm, sm, sm_shift g j m, if_pos (by omega), Nat.add_sub_cancel_left]
theorem ks_more (p : List Int) (a : Nat → Int) (n : Nat) {N : Nat} (h : p.length ≤ N) : sm N (fun k => co p k * a (n + k)) = ks p a n :=
  sm_more h fun k h1 _ => by rw [co_ge h1, Int.zero_mul]
theorem ks_tk {b : Int} {p q : List Int} {a : Nat → Int} (h : ∀ k, tk b (co p k) = tk b (co q k)) (n : Nat) : tk b (ks p a n) = tk b (ks q a n) := by
  rw [← ks_more p a n (Nat.le_max_left p.length q.length), ← ks_more q a n (Nat.le_max_right p.length q.length)]
  exact tk_sm fun k _ => by rw [← tk_mul_l, h k, tk_mul_l]
theorem ks_add {b : Int} (p q : List Int) (a : Nat → Int) (n : Nat) : tk b (ks (add b p q) a n) = tk b (ks p a n + ks q a n) := by
  have hl : (add b p q).length ≤ max p.length q.length := by
    have := trim_len_le (ofF (max p.length q.length) fun k => tk b (co p k + co q k))
    rwa [ofF_len] at this
  rw [← ks_more _ a n hl, ← ks_more p a n (Nat.le_max_left p.length q.length), ← ks_more q a n (Nat.le_max_right p.length q.length), ← sm_add]
  exact tk_sm fun k _ => by rw [add_co, tk_mul_l, Int.add_mul]
theorem ks_mul {b : Int} (p q : List Int) (a : Nat → Int) (n : Nat) : tk b (ks (mul b p q) a n) = tk b (ks p (ks q a) n) := by
  have hl : (mul b p q).length ≤ p.length + q.length := by
    have := trim_len_le (ofF (p.length + q.length) fun k => tk b (cv (co p) (co q) k))
    rwa [ofF_len] at this
  rw [← ks_more _ a n hl]
  have e1 : tk b (sm (p.length + q.length) fun k => co (mul b p q) k * a (n + k)) = tk b (sm (p.length + q.length) fun k => sm p.length fun j => co p j * (if j ≤ k then co q (k - j) * a (n + k) else 0)) := tk_sm fun k _ => by
    rw [mul_co, tk_mul_l, ← W_end (m := p.length) fun j hj => co_ge hj, W, if_neg (by omega), Int.add_zero, Int.mul_comm, ← sm_mul]
    congr 1
    refine sm_congr fun j _ => ?_
    by_cases h : j ≤ k
    · rw [if_pos h, if_pos h, Int.mul_comm, Int.mul_assoc]
    · rw [if_neg h, if_neg h, Int.mul_zero, Int.mul_zero]
  rw [e1, sm_swap]
  congr 1
  refine sm_congr fun j hj => ?_
  rw [sm_mul]
  congr 1
  have e2 : (fun k => if j ≤ k then co q (k - j) * a (n + k) else 0) = fun k => if j ≤ k then (fun i => co q i * a (n + j + i)) (k - j) else 0 := by
    funext k
    by_cases h : j ≤ k
    · rw [if_pos h, if_pos h]
      show _ = co q (k - j) * a (n + j + (k - j))
      rw [show n + j + (k - j) = n + k by omega]
    · rw [if_neg h, if_neg h]
  rw [e2, show p.length + q.length = j + (p.length - j + q.length) by omega]
  refine (sm_shift (fun i => co q i * a (n + j + i)) j _).trans ?_
  exact ks_more q a (n + j) (by omega)
theorem ks_zero {b : Int} {p : List Int} {a : Nat → Int} (h : ∀ n, tk b (a n) = 0) (n : Nat) : tk b (ks p a n) = 0 := by
  have : tk b (ks p a n) = tk b (sm p.length fun _ => 0) := tk_sm fun k _ => by rw [← tk_mul_r, h, Int.mul_zero]
  rw [this, sm_zero, tk0]
/-- keeps, at all places -/
def Kp (b : Int) (p : List Int) (a : Nat → Int) : Prop := ∀ n, tk b (ks p a n) = 0
theorem Kp.mulr {b : Int} {q : List Int} {a : Nat → Int} (h : Kp b q a) (p : List Int) : Kp b (mul b p q) a := fun n => by rw [ks_mul]; exact ks_zero h n
/-- the polynomial of the rule keeps what goes by the rule -/
theorem Kp.ofRule {b : Int} {rule : List Int} {a : Nat → Int} (ha : ∀ n, rule.length ≤ n → tk b (a n) = tk b (S rule a n rule.length)) : Kp b (ofRule b rule) a := fun n => by
  unfold ks
  rw [ofRule_len, sm]
  have e1 : co (Pm.ofRule b rule) rule.length = 1 := by
    rw [Pm.ofRule, co_append, ofF_len, if_neg (by omega), Nat.sub_self]; rfl
  have e2 : tk b (sm rule.length fun k => co (Pm.ofRule b rule) k * a (n + k)) = tk b (sm rule.length fun k => -1 * (co rule (rule.length - 1 - k) * a (n + k))) := tk_sm fun k hk => by
    rw [Pm.ofRule, co_append, ofF_len, if_pos hk, co_ofF, if_pos hk, tk_mul_l, Int.zero_sub, Int.neg_mul, Int.neg_one_mul]
  have e3 : S rule a (n + rule.length) rule.length = sm rule.length fun k => co rule (rule.length - 1 - k) * a (n + k) := by
    rw [S_sm]
    have rev : ∀ (m : Nat) (f : Nat → Int), sm m f = sm m fun k => f (m - 1 - k) := by
      intro m
      induction m with
      | zero => intro f; rfl
      | succ m ih =>
        intro f
        rw [sm_head, sm, ih fun i => f (i + 1), Int.add_comm]
        have : m + 1 - 1 - m = 0 := by omega
        rw [this]
        congr 1
        exact sm_congr fun k hk => by rw [show m - 1 - k + 1 = m + 1 - 1 - k by omega]
    rw [rev]
    exact sm_congr fun k hk => by rw [show n + rule.length - 1 - (rule.length - 1 - k) = n + k by omega]
  rw [e1, Int.one_mul, ← tk_add_l, e2, tk_add_l, sm_mul, ← e3, ← tk_add_r, ha (n + rule.length) (by omega), tk_add_r, Int.neg_one_mul, Int.add_left_neg, tk0]
/-! ### sums of multiples of two -/
/-! ### the greatest -/
end Pm
namespace Pm
open Rm
/-! ### made monic by a prime -/
/-! ### the way to the greatest -/
end Pm
namespace Pm
open Rm
/-! ### longer rules -/
theorem ofRule_mon (b : Int) (c : List Int) : Mon (ofRule b c) := ⟨by rw [ofRule_len]; omega, by
  rw [ofRule_len, ofRule, co_append, ofF_len, if_neg (by omega), show c.length + 1 - 1 - c.length = 0 by omega]; rfl⟩
end Pm
namespace Pm
open Rm
/-! ### jumps: what stands at a far place is a sum of what stands at the first ones -/
/-- noughts and a one at place j -/
def unit (n j : Nat) : List Int := ofF n fun i => if i = j then 1 else 0
theorem unit_len (n j : Nat) : (unit n j).length = n := ofF_len ..
theorem unit_get (n j i : Nat) : (unit n j).getD i 0 = if i < n then (if i = j then 1 else 0) else 0 := co_ofF ..
/-- the row that begins so -/
def ej (b : Int) (rule : List Int) (j n : Nat) : Int := at_ b rule (unit rule.length j) n
theorem ej_start {b : Int} {rule : List Int} {j n : Nat} (h : n < rule.length) : ej b rule j n = if n = j then 1 else 0 := by
  rw [ej, at_lt (by rw [unit_len]; exact h), unit_get, if_pos h]
theorem ej_rec {b : Int} {rule : List Int} (j : Nat) : ∀ n, rule.length ≤ n → tk b (ej b rule j n) = tk b (S rule (ej b rule j) n rule.length) := at_rec (by rw [unit_len])
theorem ej_tk {b : Int} (h1 : tk b 1 = 1) {rule : List Int} (j n : Nat) : tk b (ej b rule j n) = ej b rule j n := by
  by_cases h : n < rule.length
  · rw [ej_start h]; split
    · exact h1
    · exact tk0 b
  · have e : ej b rule j n = tk b (S rule (ej b rule j) n rule.length) := at_ge (by rw [unit_len]) (by rw [unit_len]; omega)
    rw [e, tk_tk]
theorem S_point {rule : List Int} {f : Nat → Int} {n j : Nat} (hn : rule.length ≤ n) (hj : j < rule.length) (h : ∀ i, i < n → f i = if i = n - rule.length + j then 1 else 0) :
    S rule f n rule.length = co rule (rule.length - 1 - j) := by
  rw [S_sm]
  have e : sm rule.length (fun k => co rule k * f (n - 1 - k)) = sm rule.length (fun k => if k = rule.length - 1 - j then co rule (rule.length - 1 - j) else 0) := by
    refine sm_congr fun k hk => ?_
    rw [h _ (by omega)]
    by_cases e : k = rule.length - 1 - j
    · rw [if_pos e, if_pos (by omega), Int.mul_one, e]
    · rw [if_neg e, if_neg (by omega), Int.mul_zero]
  rw [e, sm_single, if_pos (by omega)]
/-- one place on: what is left, times x -/
theorem ej_next {b : Int} (h1 : tk b 1 = 1) {rule : List Int} {j : Nat} (hj : j < rule.length) (n : Nat) :
    ej b rule j (n + 1) = tk b ((if j = 0 then 0 else ej b rule (j - 1) n) + ej b rule (rule.length - 1) n * co rule (rule.length - 1 - j)) := by
  have hw := at_window (b := b) (rule := rule) (starts := unit rule.length j) (w := ofF rule.length fun i => ej b rule j (1 + i)) (d := 1) (by rw [unit_len]) (by rw [ofF_len, unit_len]) (fun i hi => by
    rw [ofF_len] at hi
    have := co_ofF rule.length (fun i => ej b rule j (1 + i)) i
    rw [if_pos hi] at this
    exact this) n
  have e : ej b rule j (n + 1) = at_ b rule (ofF rule.length fun i => ej b rule j (1 + i)) n := by rw [hw, Nat.add_comm]; rfl
  have hN : ej b rule j rule.length = tk b (co rule (rule.length - 1 - j)) := by
    have q : ej b rule j rule.length = tk b (S rule (ej b rule j) rule.length rule.length) := at_ge (by rw [unit_len]) (by rw [unit_len]; omega)
    rw [q, S_point (Nat.le_refl _) hj]
    intro i hi
    rw [ej_start hi, Nat.sub_self, Nat.zero_add]
  by_cases h0 : j = 0
  · rw [e, if_pos h0]
    have q := at_both (b := b) (c := co rule (rule.length - 1 - j)) (rule := rule) (s1 := ofF rule.length fun _ => 0) (s2 := unit rule.length (rule.length - 1)) (s3 := ofF rule.length fun i => ej b rule j (1 + i)) (by rw [ofF_len]) (by rw [unit_len]) (by rw [ofF_len]) (fun i hi => by
      rw [ofF_len] at hi
      have e1 := co_ofF rule.length (fun i => ej b rule j (1 + i)) i
      have e2 := co_ofF rule.length (fun _ => (0 : Int)) i
      rw [if_pos hi] at e1 e2
      show co _ i = tk b (co _ i + _ * (unit rule.length (rule.length - 1)).getD i 0)
      rw [e1, e2, unit_get, if_pos hi]
      by_cases c : i = rule.length - 1
      · rw [if_pos c, Int.mul_one, Int.zero_add, show 1 + i = rule.length by omega, hN]
      · rw [if_neg c, Int.mul_zero, Int.zero_add, tk0, ej_start (by omega), if_neg (by omega)]) n
    rw [q]
    have z : at_ b rule (ofF rule.length fun _ => 0) n = 0 := by
      refine at_uniq (by rw [ofF_len]) (g := fun _ => 0) (fun i hi => ?_) (fun i _ => ?_) n
      · have := co_ofF rule.length (fun _ => (0 : Int)) i
        show (0 : Int) = co _ i
        rw [this]; split <;> rfl
      · rw [S_sm, sm_none (fun k _ => Int.mul_zero _), tk0]
    rw [z, Int.mul_comm]; rfl
  · rw [e, if_neg h0]
    have q := at_both (b := b) (c := co rule (rule.length - 1 - j)) (rule := rule) (s1 := unit rule.length (j - 1)) (s2 := unit rule.length (rule.length - 1)) (s3 := ofF rule.length fun i => ej b rule j (1 + i)) (by rw [unit_len]) (by rw [unit_len]) (by rw [ofF_len]) (fun i hi => by
      rw [ofF_len] at hi
      have e1 := co_ofF rule.length (fun i => ej b rule j (1 + i)) i
      rw [if_pos hi] at e1
      show co _ i = tk b ((unit rule.length (j - 1)).getD i 0 + _ * (unit rule.length (rule.length - 1)).getD i 0)
      rw [e1, unit_get, unit_get, if_pos hi, if_pos hi]
      by_cases c : i = rule.length - 1
      · rw [if_pos c, if_neg (by omega), Int.mul_one, Int.zero_add, show 1 + i = rule.length by omega, hN]
      · rw [if_neg c, Int.mul_zero, Int.add_zero, ej_start (by omega)]
        by_cases d : i = j - 1
        · rw [if_pos d, if_pos (by omega), h1]
        · rw [if_neg d, if_neg (by omega), tk0]) n
    rw [q, Int.mul_comm]; rfl
theorem sm_rev (f : Nat → Int) : ∀ n : Nat, sm n f = sm n (fun k => f (n - 1 - k))
  | 0 => rfl
  | n + 1 => by
    rw [sm_head, sm_rev (fun i => f (i + 1)) n, sm]
    rw [Int.add_comm]
    congr 1
    · exact sm_congr fun k hk => by rw [show n - 1 - k + 1 = n + 1 - 1 - k by omega]
    · rw [show n + 1 - 1 - n = 0 by omega]
/-- the jump: n places on from m -/
theorem jump_sum {b : Int} (h1 : tk b 1 = 1) {rule : List Int} {a : Nat → Int} (ha : ∀ n, rule.length ≤ n → tk b (a n) = tk b (S rule a n rule.length)) :
    ∀ n m, tk b (sm rule.length fun k => ej b rule k n * a (m + k)) = tk b (a (m + n))
  | 0, m => by
    by_cases h0 : rule.length = 0
    · rw [h0, ha (m + 0) (by omega), h0]; rfl
    · have e : sm rule.length (fun k => ej b rule k 0 * a (m + k)) = sm rule.length (fun k => if k = 0 then a m else 0) := by
        refine sm_congr fun k _ => ?_
        rw [ej_start (by omega)]
        by_cases e : k = 0
        · rw [if_pos e, if_pos e.symm, Int.one_mul, e]; rfl
        · rw [if_neg e, if_neg (fun z => e z.symm), Int.zero_mul]
      rw [e, sm_single, if_pos (by omega)]; rfl
  | n + 1, m => by
    by_cases h0 : rule.length = 0
    · rw [h0, ha (m + (n + 1)) (by omega), h0]; rfl
    obtain ⟨N, hN⟩ : ∃ N, rule.length = N + 1 := ⟨rule.length - 1, by omega⟩
    have ih := jump_sum h1 ha n (m + 1)
    rw [show m + (n + 1) = m + 1 + n by omega, ← ih]
    have e1 : tk b (sm rule.length fun k => ej b rule k (n + 1) * a (m + k)) = tk b (sm rule.length fun k => (if k = 0 then 0 else ej b rule (k - 1) n) * a (m + k) + ej b rule N n * (co rule (N - k) * a (m + k))) := by
      refine tk_sm fun k hk => ?_
      rw [ej_next h1 hk, tk_mul_l, Int.add_mul, Int.mul_assoc, hN]; rfl
    rw [e1, sm_add, sm_mul, hN]
    have e2 : sm (N + 1) (fun k => (if k = 0 then 0 else ej b rule (k - 1) n) * a (m + k)) = sm N (fun k => ej b rule k n * a (m + 1 + k)) := by
      rw [sm_head, if_pos rfl, Int.zero_mul, Int.zero_add]
      refine sm_congr fun k _ => ?_
      rw [if_neg (by omega), Nat.add_sub_cancel, show m + (k + 1) = m + 1 + k by omega]
    have e3 : tk b (sm (N + 1) fun k => co rule (N - k) * a (m + k)) = tk b (a (m + 1 + N)) := by
      rw [show m + 1 + N = m + (N + 1) by omega, ha (m + (N + 1)) (by omega), S_sm, hN]
      congr 1
      rw [sm_rev]
      refine sm_congr fun k hk => ?_
      rw [show N - (N + 1 - 1 - k) = k by omega, show m + (N + 1 - 1 - k) = m + (N + 1) - 1 - k by omega]
    rw [e2]
    show _ = tk b (sm N _ + _)
    rw [← tk_add_r, ← tk_mul_r, e3, tk_mul_r, tk_add_r]
/-- goes by the rule -/
def Gr (b : Int) (rule : List Int) (a : Nat → Int) : Prop := ∀ n, rule.length ≤ n → tk b (a n) = tk b (S rule a n rule.length)
theorem Gr.shift {b : Int} {rule : List Int} {a : Nat → Int} (h : Gr b rule a) (m : Nat) : Gr b rule fun n => a (n + m) := fun n hn => by
  have e : (fun n => a (n + m)) = fun n => a (m + n) := funext fun n => by rw [Nat.add_comm]
  rw [e, S_shift hn]
  exact h (m + n) (by omega)
theorem ks_seq {b : Int} {p : List Int} {a a' : Nat → Int} (h : ∀ n, tk b (a n) = tk b (a' n)) (n : Nat) : tk b (ks p a n) = tk b (ks p a' n) :=
  tk_sm fun k _ => by rw [← tk_mul_r, h, tk_mul_r]
/-- does what x to the power m does -/
def Pw (b : Int) (rule : List Int) (m : Nat) (p : List Int) : Prop := ∀ a, Gr b rule a → ∀ n, tk b (ks p a n) = tk b (a (n + m))
theorem Pw.one (b : Int) (rule : List Int) : Pw b rule 0 [1] := fun a _ n => by simp [ks, sm, co_zero]
theorem Pw.x (b : Int) (rule : List Int) : Pw b rule 1 [0, 1] := fun a _ n => by simp [ks, sm, co_zero, co_succ]
theorem Pw.mul {b : Int} {rule : List Int} {m m' : Nat} {p q : List Int} (h : Pw b rule m p) (h' : Pw b rule m' q) : Pw b rule (m + m') (mul b p q) := fun a ha n => by
  rw [ks_mul, ks_seq (h' a ha), h _ (ha.shift m'), Nat.add_assoc]
theorem Pw.left {b : Int} {rule : List Int} {m : Nat} {p q r : List Int} (h : Pw b rule m p) (d : Div b p (ofRule b rule) q r) : Pw b rule m r := fun a ha n => by
  rw [← h a ha n]
  have e1 : ∀ k, tk b (co (Pm.add b (Pm.mul b q (ofRule b rule)) r) k) = tk b (co p k) := fun k => by rw [add_co, mul_co, tk_tk, tk_add_l]; exact d.eq k
  rw [← ks_tk e1, ks_add, ← tk_add_l, (Kp.ofRule ha).mulr q n, Int.zero_add]
theorem ej_gr (b : Int) (rule : List Int) (j : Nat) : Gr b rule (ej b rule j) := ej_rec j
theorem Pw.co {b : Int} (h1 : tk b 1 = 1) {rule : List Int} {m : Nat} {r : List Int} (h : Pw b rule m r) (hy : Py b r) (hs : r.length ≤ rule.length) {j : Nat} (hj : j < rule.length) : Pm.co r j = ej b rule j m := by
  have q := h _ (ej_gr b rule j) 0
  rw [Nat.zero_add, ej_tk h1, ← ks_more r _ 0 hs] at q
  have e : sm rule.length (fun k => Pm.co r k * ej b rule j (0 + k)) = sm rule.length (fun k => if k = j then Pm.co r j else 0) := sm_congr fun k hk => by
    rw [Nat.zero_add, ej_start hk]
    by_cases c : k = j
    · rw [if_pos c, if_pos c, Int.mul_one, c]
    · rw [if_neg c, if_neg c, Int.mul_zero]
  rw [e, sm_single, if_pos hj, hy.co] at q
  exact q
/-- as many numbers as the rule has -/
def rest (b : Int) (rule : List Int) (m : Nat) : List Int := ofF rule.length fun j => ej b rule j m
theorem rest_len (b : Int) (rule : List Int) (m : Nat) : (rest b rule m).length = rule.length := ofF_len ..
theorem co_rest {b : Int} {rule : List Int} {m j : Nat} (hj : j < rule.length) : Pm.co (rest b rule m) j = ej b rule j m := by rw [rest, co_ofF, if_pos hj]
theorem rest_zero (b : Int) (rule : List Int) : rest b rule 0 = ofF rule.length fun j => if j = 0 then 1 else 0 := co_ext (by rw [rest_len, ofF_len]) fun k => by
  rw [rest, co_ofF, co_ofF]
  by_cases h : k < rule.length
  · rw [if_pos h, if_pos h, ej_start (by omega)]
    by_cases c : k = 0
    · rw [if_pos c, if_pos c.symm]
    · rw [if_neg c, if_neg (fun z => c z.symm)]
  · rw [if_neg h, if_neg h]
theorem jump_rest {b : Int} (h1 : tk b 1 = 1) {rule : List Int} {a : Nat → Int} (ha : Gr b rule a) (n m : Nat) : tk b (sm rule.length fun k => Pm.co (rest b rule n) k * a (m + k)) = tk b (a (m + n)) := by
  rw [← jump_sum h1 ha n m]
  exact congrArg (tk b) (sm_congr fun k hk => by rw [co_rest hk])
/-- two jumps put together -/
theorem rest_add {b : Int} (h1 : tk b 1 = 1) {rule : List Int} (m n : Nat) {j : Nat} (hj : j < rule.length) : tk b (sm rule.length fun i => Pm.co (rest b rule m) i * Pm.co (rest b rule (n + i)) j) = Pm.co (rest b rule (n + m)) j := by
  have q := jump_rest h1 (ej_gr b rule j) m n
  rw [co_rest hj, ← ej_tk h1, ← q]
  exact congrArg (tk b) (sm_congr fun k hk => by rw [co_rest hj])
theorem tk_range {b x : Int} (hb : 0 < b) : 0 ≤ tk b x ∧ tk b x < b := by
  rw [tk_pos (by omega)]
  exact ⟨Int.emod_nonneg _ (by omega), Int.emod_lt_of_pos _ hb⟩
theorem ej_bd {b : Int} (h1 : tk b 1 = 1) (hb : 0 ≤ b) (hb1 : b < 1000) {rule : List Int} {a : Nat} (ha : 10 ≤ a) (hr : ∀ x ∈ rule, Bd a x) (j n : Nat) (hn : b = 0 → n ≤ 1100) : Bd (10 + 1100 * (a + rule.length)) (ej b rule j n) := by
  by_cases h0 : b = 0
  · have q := at_bd (b := b) (rule := rule) (starts := unit rule.length j) (a := a) (c := 10) (by rw [unit_len]) hb (Bd.of (by omega) (by omega)) hr (fun x hx => by
      obtain ⟨k, _, rfl⟩ := mem_ofF hx
      split
      · exact Bd.of (by decide) (by decide)
      · exact Bd.zero _) n
    have : n * (a + rule.length) ≤ 1100 * (a + rule.length) := Nat.mul_le_mul_right _ (hn h0)
    exact q.mono (by omega)
  · rw [← ej_tk h1]
    have := tk_range (b := b) (x := ej b rule j n) (by omega)
    exact (Bd.of (n := 10) (by omega) (by omega)).mono (by omega)
end Pm
namespace K38
open PySem L2
seal PA PE PS PSs PT PW PI PG PGs PO PIf
def top (i : Nat) : Stmt := PySem.Challenge.pw_nextbyrule_k38_far_places.main.body.getD i (.Pass ⟨0, 0, 0, 0⟩)
abbrev s_taken : Stmt := top 4
abbrev s_trimmed : Stmt := top 6
abbrev s_number_at : Stmt := top 7
abbrev s_times : Stmt := top 8
abbrev s_divided : Stmt := top 9
abbrev s_of_rule : Stmt := top 10
abbrev s_sum_at : Stmt := top 11
abbrev s_refuse_far_jump : Stmt := top 14
abbrev s_power_left : Stmt := top 15
abbrev s_jump : Stmt := top 16
abbrev s_place_at : Stmt := top 17
abbrev s_Lcell_at : Stmt := top 19
abbrev s_Lmix : Stmt := top 20
abbrev s_Ldrawn_by : Stmt := top 21
abbrev s_Ltaken : Stmt := top 22
abbrev s_Lone_number : Stmt := top 23
abbrev s_Lmade_longer : Stmt := top 24
abbrev s_Ldrawn_row : Stmt := top 25
abbrev s_Lplaces : Stmt := top 26
abbrev s_Ltimes_x : Stmt := top 27
abbrev s_Lstep_by_step : Stmt := top 28
abbrev s_Lrolled_rests : Stmt := top 29
abbrev s_Lrest_far : Stmt := top 30
abbrev s_Lsame : Stmt := top 31
abbrev s_law : Stmt := top 32
theorem sc_taken : FnScope ["by", "number"] ["by", "number"] (defScope s_taken) := ⟨rfl, rfl, rfl, by decide +kernel, rfl, by decide +kernel, by decide +kernel⟩
theorem sc_trimmed : FnScope ["numbers", "end"] ["numbers"] (defScope s_trimmed) := ⟨rfl, rfl, rfl, by decide +kernel, rfl, by decide +kernel, by decide +kernel⟩
theorem sc_number_at : FnScope ["poly", "k"] ["poly", "k"] (defScope s_number_at) := ⟨rfl, rfl, rfl, by decide +kernel, rfl, by decide +kernel, by decide +kernel⟩
theorem sc_times : FnScope ["by", "one", "other", "total", "i", "k"] ["by", "one", "other"] (defScope s_times) := ⟨rfl, rfl, rfl, by decide +kernel, rfl, by decide +kernel, by decide +kernel⟩
theorem sc_divided : FnScope ["by", "one", "other", "top", "often", "left", "shift", "factor", "k"] ["by", "one", "other"] (defScope s_divided) := ⟨rfl, rfl, rfl, by decide +kernel, rfl, by decide +kernel, by decide +kernel⟩
theorem sc_of_rule : FnScope ["by", "rule", "length", "numbers"] ["by", "rule"] (defScope s_of_rule) := ⟨rfl, rfl, rfl, by decide +kernel, rfl, by decide +kernel, by decide +kernel⟩
theorem sc_sum_at : FnScope ["by", "poly", "found", "n"] ["by", "poly", "found", "n"] (defScope s_sum_at) := ⟨rfl, rfl, rfl, by decide +kernel, rfl, by decide +kernel, by decide +kernel⟩
theorem sc_refuse_far_jump : FnScope ["by", "n"] ["by", "n"] (defScope s_refuse_far_jump) := ⟨rfl, rfl, rfl, by decide +kernel, rfl, by decide +kernel, by decide +kernel⟩
theorem sc_power_left : FnScope ["by", "poly", "n", "left", "figure", "doubled"] ["by", "poly", "n"] (defScope s_power_left) := ⟨rfl, rfl, rfl, by decide +kernel, rfl, by decide +kernel, by decide +kernel⟩
theorem sc_jump : FnScope ["row", "n", "by", "rule", "left"] ["row", "n"] (defScope s_jump) := ⟨rfl, rfl, rfl, by decide +kernel, rfl, by decide +kernel, by decide +kernel⟩
theorem sc_place_at : FnScope ["row", "n"] ["row", "n"] (defScope s_place_at) := ⟨rfl, rfl, rfl, by decide +kernel, rfl, by decide +kernel, by decide +kernel⟩
theorem sc_Lcell_at : FnScope ["_law_script", "_law_k"] ["_law_script", "_law_k"] (defScope s_Lcell_at) := ⟨rfl, rfl, rfl, by decide +kernel, rfl, by decide +kernel, by decide +kernel⟩
theorem sc_Lmix : FnScope ["_law_cell", "_law_k", "_law_number"] ["_law_cell", "_law_k"] (defScope s_Lmix) := ⟨rfl, rfl, rfl, by decide +kernel, rfl, by decide +kernel, by decide +kernel⟩
theorem sc_Ldrawn_by : FnScope ["_law_cell"] ["_law_cell"] (defScope s_Ldrawn_by) := ⟨rfl, rfl, rfl, by decide +kernel, rfl, by decide +kernel, by decide +kernel⟩
theorem sc_Ltaken : FnScope ["_law_by", "_law_number"] ["_law_by", "_law_number"] (defScope s_Ltaken) := ⟨rfl, rfl, rfl, by decide +kernel, rfl, by decide +kernel, by decide +kernel⟩
theorem sc_Lone_number : FnScope ["_law_by", "_law_cell", "_law_k", "_law_far", "_law_small"] ["_law_by", "_law_cell", "_law_k"] (defScope s_Lone_number) := ⟨rfl, rfl, rfl, by decide +kernel, rfl, by decide +kernel, by decide +kernel⟩
theorem sc_Lmade_longer : FnScope ["_law_row", "_law_number", "_law_by", "_law_rule", "_law_starts", "_law_some", "_law_longer", "_law_k"] ["_law_row", "_law_number"] (defScope s_Lmade_longer) := ⟨rfl, rfl, rfl, by decide +kernel, rfl, by decide +kernel, by decide +kernel⟩
theorem sc_Ldrawn_row : FnScope ["_law_script", "_law_start", "_law_by", "_law_most", "_law_cell", "_law_size", "_law_mine", "_law_rule", "_law_k", "_law_row"] ["_law_script", "_law_start", "_law_by", "_law_most"] (defScope s_Ldrawn_row) := ⟨rfl, rfl, rfl, by decide +kernel, rfl, by decide +kernel, by decide +kernel⟩
theorem sc_Lplaces : FnScope ["_law_row", "_law_count", "_law_by", "_law_rule", "_law_starts", "_law_found", "_law_total"] ["_law_row", "_law_count"] (defScope s_Lplaces) := ⟨rfl, rfl, rfl, by decide +kernel, rfl, by decide +kernel, by decide +kernel⟩
theorem sc_Ltimes_x : FnScope ["_law_by", "_law_row", "_law_rest", "_law_rule", "_law_starts", "_law_top", "_law_found"] ["_law_by", "_law_row", "_law_rest"] (defScope s_Ltimes_x) := ⟨rfl, rfl, rfl, by decide +kernel, rfl, by decide +kernel, by decide +kernel⟩
theorem sc_Lstep_by_step : FnScope ["_law_by", "_law_row", "_law_n", "_law_size", "_law_rest", "_law_k"] ["_law_by", "_law_row", "_law_n"] (defScope s_Lstep_by_step) := ⟨rfl, rfl, rfl, by decide +kernel, rfl, by decide +kernel, by decide +kernel⟩
theorem sc_Lrolled_rests : FnScope ["_law_by", "_law_row", "_law_one", "_law_other", "_law_total", "_law_part", "_law_number"] ["_law_by", "_law_row", "_law_one", "_law_other"] (defScope s_Lrolled_rests) := ⟨rfl, rfl, rfl, by decide +kernel, rfl, by decide +kernel, by decide +kernel⟩
theorem sc_Lrest_far : FnScope ["_law_by", "_law_row", "_law_n", "_law_found", "_law_square"] ["_law_by", "_law_row", "_law_n"] (defScope s_Lrest_far) := ⟨rfl, rfl, rfl, by decide +kernel, rfl, by decide +kernel, by decide +kernel⟩
theorem sc_Lsame : FnScope ["_law_found", "_law_due"] ["_law_found", "_law_due"] (defScope s_Lsame) := ⟨rfl, rfl, rfl, by decide +kernel, rfl, by decide +kernel, by decide +kernel⟩
theorem sc_law : FnScope ["_law_script", "_law_by", "_law_row", "_law_cell", "_law_whole", "_law_some", "_law_n", "_law_far", "_law_rest", "_law_due"] ["_law_script"] (defScope s_law) := ⟨rfl, rfl, rfl, by decide +kernel, rfl, by decide +kernel, by decide +kernel⟩
abbrev cs_of_rule1 : Scope := { kind := .function, names := [(".0", .local), ("k", .local), ("taken", .globalImplicit), ("by", .cell), ("length", .cell), ("rule", .cell)], isGenerator := false, isCoroutine := false }
abbrev cs_sum_at1 : Scope := { kind := .function, names := [(".0", .local), ("k", .local), ("found", .cell), ("n", .cell), ("poly", .cell)], isGenerator := false, isCoroutine := false }
abbrev cs_jump1 : Scope := { kind := .function, names := [(".0", .local), ("i", .local), ("number_at", .globalImplicit), ("left", .cell)], isGenerator := false, isCoroutine := false }
abbrev cs_Lmade_longer1 : Scope := { kind := .function, names := [(".0", .local), ("_law_one", .local), ("_law_taken", .globalImplicit), ("_law_by", .cell)], isGenerator := false, isCoroutine := false }
abbrev cs_Ldrawn_row1 : Scope := { kind := .function, names := [(".0", .local), ("_law_k", .local), ("_law_one_number", .globalImplicit), ("_law_by", .cell), ("_law_mine", .cell)], isGenerator := false, isCoroutine := false }
abbrev cs_Ldrawn_row2 : Scope := { kind := .function, names := [(".0", .local), ("_law_k", .local), ("_law_one_number", .globalImplicit), ("_law_by", .cell), ("_law_mine", .cell)], isGenerator := false, isCoroutine := false }
abbrev cs_Lplaces1 : Scope := { kind := .function, names := [(".0", .local), ("_law_k", .local), ("_law_found", .cell), ("_law_rule", .cell)], isGenerator := false, isCoroutine := false }
abbrev cs_Ltimes_x1 : Scope := { kind := .function, names := [(".0", .local), ("_law_k", .local), ("_law_taken", .globalImplicit), ("len", .globalImplicit), ("_law_by", .cell), ("_law_found", .cell), ("_law_rule", .cell), ("_law_top", .cell)], isGenerator := false, isCoroutine := false }
abbrev cs_Lrolled_rests1 : Scope := { kind := .function, names := [(".0", .local), ("_law_k", .local), ("_law_taken", .globalImplicit), ("_law_by", .cell), ("_law_number", .cell), ("_law_part", .cell), ("_law_total", .cell)], isGenerator := false, isCoroutine := false }
abbrev cs_law1 : Scope := { kind := .function, names := [(".0", .local), ("_law_k", .local), ("_law_rest", .cell), ("_law_whole", .cell)], isGenerator := false, isCoroutine := false }
structure Bt (mg : Str → Option Value) : Prop where
  b_bool : mg "bool" = none
  b_int : mg "int" = none
  b_isinstance : mg "isinstance" = none
  b_len : mg "len" = none
  b_list : mg "list" = none
  b_max : mg "max" = none
  b_range : mg "range" = none
  b_sum : mg "sum" = none
  b_tuple : mg "tuple" = none
  g_FARTHEST_BY_0 : ∃ t, mg "FARTHEST_BY_0" = some (.int 400 t)
abbrev KLAW : Nat := 9
/-! ### the drawn numbers -/
theorem emod_lo (a : Int) {b : Int} (h : 0 < b) : 0 ≤ a % b := Int.emod_nonneg _ (by omega)
theorem emod_hi (a : Int) {b : Int} (h : 0 < b) : a % b < b := Int.emod_lt_of_pos _ h
theorem atI_ints {ns : List Int} {k : Int} (h0 : 0 ≤ k) (h1 : k < (ns.length : Int)) : atI (ns.map V.int) k = some (.int (ns.getD k.toNat 0)) := by
  have e : k = ((k.toNat : Nat) : Int) := by omega
  have hk : k.toNat < ns.length := by omega
  conv => lhs; rw [e]
  exact atI_nat (by rw [List.getElem?_map, List.getElem?_eq_getElem hk, List.getD_eq_getElem?_getD, List.getElem?_eq_getElem hk] <;> rfl)
theorem dec_true {p : Prop} [Decidable p] (c : decide p = true) : p := of_decide_eq_true c
theorem dec_false {p : Prop} [Decidable p] (c : ¬ decide p = true) : ¬ p := of_decide_eq_false (Bool.eq_false_iff.mpr c)
/-! ### the law's rows -/
/-- a number by a by -/
def IsNum (b x : Int) : Prop := b = 0 ∨ (0 ≤ x ∧ x < b)
/-- a row, as plain data -/
structure Rw where
  b : Int
  rule : List Int
  starts : List Int
/-- what is true of each row here -/
structure RwOk (r : Rw) : Prop where
  len : r.rule.length = r.starts.length
  short : r.rule.length ≤ 12
  by0 : 0 ≤ r.b
  by1 : r.b < 1000
  ruleNum : ∀ x ∈ r.rule, IsNum r.b x
  startsNum : ∀ x ∈ r.starts, IsNum r.b x
  ruleBd : ∀ x ∈ r.rule, Rm.Bd 200 x
  startsBd : ∀ x ∈ r.starts, Rm.Bd 200 x
def Rw.row (r : Rw) (n : Nat) : List Int := Rm.row r.b r.rule r.starts n
def Rw.at (r : Rw) (n : Nat) : Int := Rm.at_ r.b r.rule r.starts n
theorem RwOk.bd {r : Rw} (h : RwOk r) (n : Nat) (hn : n ≤ 1000) : Rm.Bd 300000 (r.at n) := by
  have q := Rm.at_bd (b := r.b) (rule := r.rule) (starts := r.starts) (a := 200) (c := 200) h.len h.by0 (Rm.Bd.of (by have := h.by0; omega) (by have := h.by1; omega)) h.ruleBd h.startsBd n
  refine q.mono ?_
  have h1 := h.short
  have h2 : n * (200 + r.rule.length) ≤ 1000 * 212 := Nat.mul_le_mul hn (by omega)
  omega
theorem RwOk.rowBd {r : Rw} (h : RwOk r) (n : Nat) (hn : n ≤ 1000) : ∀ x ∈ r.row n, Rm.Bd 300000 x := by
  intro x hx
  have e : r.row n = (List.range n).map r.at := Rm.row_eq ..
  rw [e] at hx
  obtain ⟨i, hi, rfl⟩ := List.mem_map.mp hx
  exact h.bd i (by have := List.mem_range.mp hi; omega)
theorem Rw.row_len (r : Rw) (n : Nat) : (r.row n).length = n := Rm.row_len ..
theorem mulBd {x y : Int} {m n : Nat} (h : Rm.Bd m x) (h' : Rm.Bd n y) (hn : m + n ≤ 134217728) : IntMulOk x y :=
  IntMulOk.of_le (intBits_le_iff.mpr h) (intBits_le_iff.mpr h') hn
/-- a row at a value -/
def RowIs (H : Hp) (v : V) (r : Rw) : Prop :=
  ∃ a p q, v = .ref a ∧ H a = some (.tup [.int r.b, .ref p, .ref q]) ∧ H p = some (.tup (r.rule.map V.int)) ∧ H q = some (.tup (r.starts.map V.int))
theorem RowIs.same {H H' : Hp} {v : V} {r : Rw} (h : RowIs H v r) (g : Same H H') : RowIs H' v r := by
  obtain ⟨a, p, q, e, h1, h2, h3⟩ := h
  exact ⟨a, p, q, e, g _ _ h1, g _ _ h2, g _ _ h3⟩
theorem sum_S (rule : List Int) (f : Nat → Int) (n : Nat) : ∀ m : Nat, ((List.range m).map fun k => rule.getD k 0 * f (n - 1 - k)).sum = Rm.S rule f n m
  | 0 => rfl
  | m + 1 => by
    rw [List.range_succ, List.map_append, List.sum_append, sum_S rule f n m]
    simp [Rm.S]
theorem map_snoc (xs : List Int) (x : Int) : (xs ++ [x]).map V.int = xs.map V.int ++ [.int x] := by rw [List.map_append]; rfl
/-- a list told: new, at r -/
def Told (H : Hp) (Q : VK) (xs : List V) : Prop := ∀ r H', Same H H' → H r = none → H' r = some (.lst xs) → Q (.ref r) H'
def spLaw (K : PySem.W.Frag) : Sp := fun vs H Q _ => ∃ (a : Addr) (ns : List Int), vs = [.ref a] ∧ SqL K H a (ns.map V.int) ∧ ns.length ≤ 63 ∧ (∀ x ∈ ns, PySem.Builtin.Int.intBits x ≤ 1048576) ∧ ∀ H', Q (.bl true) H'
theorem cut_to (xs : List V) (k : Nat) : cutV xs none (some (k : Int)) = xs.take k := by
  unfold cutV
  rw [HT.sIx_nat, HT.sIx_none, List.drop_zero, Nat.sub_zero, List.take_eq_take_iff]
  omega
/-! ### polynomials on the heap -/
/-- a tuple of ints told -/
def ToldT (H : Hp) (Q : VK) (ns : List Int) : Prop := ∀ p H', Same H H' → H' p = some (.tup (ns.map V.int)) → Q (.ref p) H'
theorem take_step {xs : List Int} {n : Nat} (h : 0 < n) (hn : n ≤ xs.length) : xs.take n = xs.take (n - 1) ++ [xs.getD (n - 1) 0] := by
  obtain ⟨m, rfl⟩ : ∃ m, n = m + 1 := ⟨n - 1, by omega⟩
  rw [Nat.add_sub_cancel, List.take_add_one, List.getElem?_eq_getElem (by omega), List.getD_eq_getElem?_getD, List.getElem?_eq_getElem (by omega)]
  rfl
theorem trim_down {xs : List Int} {n : Nat} (h : 0 < n) (hn : n ≤ xs.length) (ht : Pm.trim (xs.take n) = Pm.trim xs) (h0 : xs.getD (n - 1) 0 = 0) : Pm.trim (xs.take (n - 1)) = Pm.trim xs := by
  rw [take_step h hn, h0, Pm.trim_zero] at ht
  exact ht
theorem trim_stop {xs : List Int} {n : Nat} (hn : n ≤ xs.length) (ht : Pm.trim (xs.take n) = Pm.trim xs) (h0 : n = 0 ∨ xs.getD (n - 1) 0 ≠ 0) : xs.take n = Pm.trim xs := by
  rcases h0 with h0 | h0
  · subst h0; rw [← ht]; rfl
  · by_cases hz : n = 0
    · subst hz; rw [← ht]; rfl
    · rw [← ht, take_step (by omega) hn, Pm.trim_last _ h0]
theorem ixN_of {n j : Nat} {i : Int} (e : i = (j : Int)) (h : j < n) : ixN n i = some j := by
  subst e
  unfold ixN
  rw [if_pos (by omega), if_pos (by omega), Int.toNat_natCast]
theorem map_set_int (L : List Int) (j : Nat) (x : Int) : (L.map V.int).set j (.int x) = (L.set j x).map V.int := by rw [List.map_set]
theorem replicate_ofF (n : Nat) : (List.replicate n [V.int 0]).flatten = (Pm.ofF n fun _ => 0).map V.int := by
  induction n with
  | zero => rfl
  | succ n ih =>
    rw [Pm.ofF_succ, List.map_append, ← ih, List.replicate_succ', List.flatten_append]
    rfl
/-- a comprehension over a range, of ints -/
theorem comp_rng {n : Nat} {ix : List (Option Nat)} {te : TE} {σ : St} {H1 : Hp} {Q : VK} (hz : n ≤ 1000) {rest : St} (hst : cst ix σ = none :: rest) (f : Nat → Int)
    (he : ∀ H' k, Same H1 H' → k < n → ∀ kk : VK, kk (.int (f k)) H' → te (some (.int (0 + (k : Int))) :: rest) H' kk)
    (hQ : ∀ D, H1 D = none → Q (.ref D) (upd H1 D (.lst ((Pm.ofF n f).map V.int)))) : CompK ix (gName 0) tYes te σ Q (Itr 0 n) H1 := by
  refine comp_pure its_range (by rw [List.length_map, List.length_range]; exact Nat.le_of_lt (small1000 hz)) hst (fun _ => true) (fun x => match x with | .int k => .int (f k.toNat) | _ => .non) ?_ ?_ ?_
  · intro H2 x g2 hx k hk; exact hk
  · intro H2 x g2 hx _ k hk
    obtain ⟨j, hj, rfl⟩ := List.mem_map.mp hx
    have e1 : (0 + (j : Int)).toNat = j := by omega
    refine he H2 j g2 (List.mem_range.mp hj) k ?_
    have hk' : k (V.int (f (0 + (j : Int)).toNat)) H2 := hk
    rwa [e1] at hk'
  · intro D hD
    have el : ((((List.range n).map fun i => V.int (0 + (i : Nat))).filter fun _ => true).map fun x => match x with | .int k => V.int (f k.toNat) | _ => V.non) = (Pm.ofF n f).map V.int := by
      rw [List.filter_eq_self.mpr (by simp), List.map_map, Pm.ofF, List.map_map]
      refine List.map_congr_left fun k _ => ?_
      show V.int (f (0 + (k : Int)).toNat) = V.int (f k)
      rw [show (0 + (k : Int)).toNat = k by omega]
    rw [el]
    exact hQ D hD
theorem numTk {b x : Int} (h : IsNum b x) : Rm.tk b x = x := by
  unfold Rm.tk
  rcases h with h | ⟨h1, h2⟩
  · rw [if_pos h]
  · split
    · rfl
    · exact Int.emod_eq_of_lt h1 h2
theorem comp_lst {K : PySem.W.Frag} {a : Addr} {xs : List Int} {ix : List (Option Nat)} {te : TE} {σ : St} {H1 : Hp} {Q : VK} (hA : H1 a = some (.lst (xs.map V.int))) (hz : xs.length ≤ 1000) {rest : St} (hst : cst ix σ = none :: rest) (f : Int → Int)
    (he : ∀ H' x, Same H1 H' → x ∈ xs → ∀ kk : VK, kk (.int (f x)) H' → te (some (.int x) :: rest) H' kk)
    (hQ : ∀ D, H1 D = none → Q (.ref D) (upd H1 D (.lst ((xs.map f).map V.int)))) : CompK ix (gName 0) tYes te σ Q (Itl K a) H1 := by
  refine comp_pure (its_list (SqL.of hA)) (by rw [List.length_map]; exact Nat.le_of_lt (small1000 hz)) hst (fun _ => true) (fun x => match x with | .int k => .int (f k) | _ => .non) ?_ ?_ ?_
  · intro H2 x g2 hx k hk; exact hk
  · intro H2 x g2 hx _ k hk
    obtain ⟨y, hy, rfl⟩ := List.mem_map.mp hx
    exact he H2 y g2 hy k hk
  · intro D hD
    have el : (((xs.map V.int).filter fun _ => true).map fun x => match x with | .int k => V.int (f k) | _ => V.non) = (xs.map f).map V.int := by
      rw [List.filter_eq_self.mpr (by simp), List.map_map, List.map_map]; rfl
    rw [el]
    exact hQ D hD
theorem map_int_get {p : List Int} {i : Nat} {x : V} (h : (p.map V.int)[i]? = some x) : x = .int (Pm.co p i) ∧ i < p.length := by
  by_cases hi : i < p.length
  · rw [List.getElem?_map, List.getElem?_eq_getElem hi] at h
    cases h
    refine ⟨?_, hi⟩
    show V.int _ = V.int (p.getD i 0)
    rw [List.getD_eq_getElem?_getD, List.getElem?_eq_getElem hi]; rfl
  · rw [List.getElem?_eq_none (by rw [List.length_map]; omega)] at h; cases h
/-- a comprehension over a range whose elements may lay new objects: ints of which something is known -/
theorem comp_rngP {n : Nat} {ix : List (Option Nat)} {te : TE} {σ : St} {H1 : Hp} {Q : VK} (hz : n ≤ 1000) {rest : St} (hst : cst ix σ = none :: rest) (P : Int → Prop)
    (he : ∀ H' k, Same H1 H' → k < n → ∀ kk : VK, (∀ x H2, Same H' H2 → P x → kk (.int x) H2) → te (some (.int (0 + (k : Int))) :: rest) H' kk)
    (hQ : ∀ D H' xs, H1 D = none → Same H1 H' → H' D = some (.lst (List.map V.int xs)) → xs.length = n → (∀ x ∈ xs, P x) → Q (.ref D) H') : CompK ix (gName 0) tYes te σ Q (Itr 0 n) H1 := by
  have I : ItS (Itr 0 n) ((List.range n).map fun i => V.int (0 + (i : Nat))) H1 := its_range
  have lI : ((List.range n).map fun i => V.int (0 + (i : Nat))).length = n := by rw [List.length_map, List.length_range]
  constructor
  intro D hD
  refine ⟨fun i m σ' H' => m = n - i ∧ i ≤ n ∧ (∃ o, σ' = o :: rest) ∧ Same H1 H' ∧ ∃ xs : List Int, H' D = some (.lst (xs.map V.int)) ∧ xs.length = i ∧ ∀ x ∈ xs, P x, ⟨n, rfl, Nat.zero_le _, ⟨none, hst⟩, Same.new hD _, [], upd_same, rfl, fun _ h => nomatch h⟩, ?_⟩
  rintro i m σ' H' ⟨rfl, hi, ⟨o, rfl⟩, g, xs, hl, lx, hP⟩
  by_cases hlt : i < n
  · refine .inr ⟨I.go i _ g (by rw [lI]; exact hlt), fun x H2 y => ?_⟩
    obtain ⟨rfl, hx⟩ := I.yld i _ x H2 g y
    have hx := hx (by rw [lI]; exact hlt)
    rw [List.getElem?_map, List.getElem?_range hlt] at hx
    cases hx
    change te (some (.int (0 + (i : Int))) :: rest) H2 _
    refine he H2 i g hlt _ fun x H3 g3 hx => ⟨_, g3 _ _ hl, by rw [List.length_map, lx]; exact small1000 (by omega), n - (i + 1), by omega, rfl, hlt, ⟨_, rfl⟩, Same.upd (g.trans g3) hD _, xs ++ [x], ?_, by rw [List.length_append, lx]; rfl, fun z hz => ?_⟩
    · rw [upd_same, map_snoc]
    · rcases List.mem_append.mp hz with hz | hz
      · exact hP z hz
      · rw [List.mem_singleton.mp hz]; exact hx
  · have e : i = n := by omega
    subst e
    exact .inl ⟨I.stop _ _ g (by rw [lI]; exact Nat.le_refl _), hQ D H' xs hD g hl lx hP⟩
/-! ### rows of the far laws -/
theorem atI_back {ns : List Int} {k : Int} (j : Nat) (h0 : k < 0) (e : k + (ns.length : Int) = (j : Int)) : atI (ns.map V.int) k = some (.int (ns.getD j 0)) := by
  have hj : j < ns.length := by omega
  unfold atI ixN
  rw [List.length_map, if_neg (by omega), if_pos (by omega), show (k + (ns.length : Int)).toNat = j by omega]
  show (ns.map V.int)[j]? = _
  rw [List.getElem?_map, List.getElem?_eq_getElem hj, List.getD_eq_getElem?_getD, List.getElem?_eq_getElem hj]
  rfl
theorem Bd_pow {x : Int} {n : Nat} (h : Rm.Bd n x) : ∀ k : Nat, Rm.Bd (n * k + 1) (x ^ k)
  | 0 => by rw [Int.pow_zero, Nat.mul_zero]; exact Rm.Bd.of (by decide) (by decide)
  | k + 1 => by
    rw [Int.pow_succ]
    exact ((Bd_pow h k).mul h).mono (by rw [Nat.mul_succ]; omega)
def byF : List Int := [0, 0, 0, 2, 3, 5, 7, 11, 101, 997]
structure ByF (b : Int) : Prop where
  lo : 0 ≤ b
  hi : b < 1000
  one : Rm.tk b 1 = 1
theorem byF_ok : ∀ k < 10, 0 ≤ byF.getD k 0 ∧ byF.getD k 0 < 1000 ∧ Rm.tk (byF.getD k 0) 1 = 1 := by decide
theorem tk_num {b : Int} (hb : 0 ≤ b) (x : Int) : IsNum b (Rm.tk b x) := by
  by_cases h : b = 0
  · exact .inl h
  · exact .inr (Pm.tk_range (by omega))
theorem tk_bdF {b x : Int} {n : Nat} (hb : ByF b) (hn : 10 ≤ n) (h : Rm.Bd n x) : Rm.Bd n (Rm.tk b x) :=
  Rm.tk_bd hb.lo ((Rm.Bd.of (n := 10) (by have := hb.lo; omega) (by have := hb.hi; omega)).mono hn) h
/-- how great the numbers of a row are that was made longer s times -/
def uS (s : Nat) : Nat := 31 + 12 * s
def vS : Nat → Nat
  | 0 => 31
  | s + 1 => uS s + vS s + 12
structure RwS (b : Int) (s : Nat) (r : Rw) : Prop where
  by_ : r.b = b
  len : r.rule.length = r.starts.length
  short : r.rule.length ≤ 12
  ruleNum : ∀ x ∈ r.rule, IsNum b x
  startsNum : ∀ x ∈ r.starts, IsNum b x
  ruleBd : ∀ x ∈ r.rule, Rm.Bd (uS s) x
  startsBd : ∀ x ∈ r.starts, Rm.Bd (vS s) x
theorem vS_le : ∀ s, vS s ≤ vS (s + 1) := fun s => by rw [vS]; omega
theorem RwS.up {b : Int} {s : Nat} {r : Rw} (h : RwS b s r) : RwS b (s + 1) r :=
  ⟨h.by_, h.len, h.short, h.ruleNum, h.startsNum, fun x hx => (h.ruleBd x hx).mono (by unfold uS; omega), fun x hx => (h.startsBd x hx).mono (vS_le s)⟩
theorem vS_3 : ∀ s, s ≤ 3 → vS s ≤ 200 ∧ uS s ≤ 67
  | 0, _ => by decide
  | 1, _ => by decide
  | 2, _ => by decide
  | 3, _ => by decide
theorem RwS.ok {b : Int} {s : Nat} {r : Rw} (hb : ByF b) (h : RwS b s r) (hs : s ≤ 3) : RwOk r := by
  have e := h.by_
  have := vS_3 s hs
  exact ⟨h.len, h.short, by rw [e]; exact hb.lo, by rw [e]; exact hb.hi, by rw [e]; exact h.ruleNum, by rw [e]; exact h.startsNum, fun x hx => (h.ruleBd x hx).mono (by omega), fun x hx => (h.startsBd x hx).mono (by omega)⟩
/-- what is known of a row that the far laws ask about -/
structure RwF (r : Rw) : Prop where
  ok : RwOk r
  one : Rm.tk r.b 1 = 1
  bd : ∀ x ∈ r.rule, Rm.Bd 67 x
theorem RwS.far {b : Int} {s : Nat} {r : Rw} (hb : ByF b) (h : RwS b s r) (hs : s ≤ 3) : RwF r := ⟨h.ok hb hs, by rw [h.by_]; exact hb.one, fun x hx => (h.ruleBd x hx).mono (vS_3 s hs).2⟩
theorem RwF.byF {r : Rw} (h : RwF r) : ByF r.b := ⟨h.ok.by0, h.ok.by1, h.one⟩
theorem RwF.rest_bd {r : Rw} (h : RwF r) {m : Nat} (hm : r.b = 0 → m ≤ 1100) : ∀ x ∈ Pm.rest r.b r.rule m, Rm.Bd 100000 x := fun x hx => by
  obtain ⟨j, _, rfl⟩ := Pm.mem_ofF hx
  refine (Pm.ej_bd h.one h.ok.by0 h.ok.by1 (a := 67) (by decide) h.bd j m hm).mono ?_
  have := h.ok.short
  have : 1100 * (67 + r.rule.length) ≤ 1100 * 79 := Nat.mul_le_mul_left _ (by omega)
  omega
theorem RwF.gr {r : Rw} (h : RwF r) : Pm.Gr r.b r.rule r.at := Pm.at_rec h.ok.len
theorem RwF.at_tk {r : Rw} (h : RwF r) (n : Nat) : Rm.tk r.b (r.at n) = r.at n := by
  by_cases c : n < r.starts.length
  · have e : r.at n = r.starts.getD n 0 := Rm.at_lt c
    rw [e]
    exact numTk (h.ok.startsNum _ (Pm.co_mem c))
  · have e : r.at n = Rm.tk r.b (Rm.S r.rule r.at n r.rule.length) := Rm.at_ge h.ok.len (by omega)
    rw [e, Rm.tk_tk]
/-- on the way there -/
def longW (n : Int) (rule : List Int) (i k : Nat) : Int := (if k = 0 then n else if k ≤ i then -(n * Pm.co rule (k - 1)) else 0) + (if k < i then Pm.co rule k else 0)
def longL (n : Int) (rule : List Int) (i : Nat) : List Int := Pm.ofF (rule.length + 1) fun k => longW n rule i k
theorem longL_len (n : Int) (rule : List Int) (i : Nat) : (longL n rule i).length = rule.length + 1 := Pm.ofF_len ..
theorem longL_co {n : Int} {rule : List Int} {i k : Nat} (h : k < rule.length + 1) : Pm.co (longL n rule i) k = longW n rule i k := by rw [longL, Pm.co_ofF, if_pos h]
theorem longL_zero (n : Int) (rule : List Int) : longL n rule 0 = [n] ++ Pm.ofF rule.length fun _ => 0 := by
  refine Pm.co_ext (by rw [longL_len, List.length_append, Pm.ofF_len]; simp; omega) fun k => ?_
  by_cases h : k < rule.length + 1
  · rw [longL_co h, Pm.co_append, Pm.co_ofF]
    unfold longW
    rw [if_neg (Nat.not_lt_zero _), Int.add_zero]
    by_cases c : k = 0
    · rw [if_pos c, if_pos (by simp; omega), c]; rfl
    · rw [if_neg c, if_neg (by omega), if_neg (by simp; omega)]
      split <;> rfl
  · rw [Pm.co_ge (by rw [longL_len]; omega), Pm.co_ge (by rw [List.length_append, Pm.ofF_len]; simp; omega)]
theorem longL_step {n : Int} {rule : List Int} {i : Nat} (hi : i < rule.length) :
    ((longL n rule i).set i (Pm.co (longL n rule i) i + Pm.co rule i)).set (i + 1) (Pm.co ((longL n rule i).set i (Pm.co (longL n rule i) i + Pm.co rule i)) (i + 1) - n * Pm.co rule i) = longL n rule (i + 1) := by
  refine Pm.co_ext (by rw [List.length_set, List.length_set, longL_len, longL_len]) fun k => ?_
  rw [Pm.co_set _ _ _ _ (by rw [List.length_set, longL_len]; omega), Pm.co_set _ _ _ _ (by rw [longL_len]; omega), Pm.co_set _ _ _ _ (by rw [longL_len]; omega)]
  by_cases h : k < rule.length + 1
  · rw [longL_co h, longL_co (by omega), longL_co (by omega), longL_co h, if_neg (by omega : ¬ i + 1 = i)]
    unfold longW
    by_cases c : k = i + 1
    · rw [if_pos c, if_neg (by omega), if_neg (by omega), if_neg (by omega), if_neg (by omega), if_pos (by omega), if_neg (by omega), c, Nat.add_sub_cancel]
      omega
    · rw [if_neg c]
      by_cases d : k = i
      · rw [if_pos d, d, if_neg (Nat.lt_irrefl i), if_pos (by omega : i < i + 1)]
        by_cases z : i = 0
        · rw [if_pos z, if_pos z]; omega
        · rw [if_neg z, if_neg z, if_pos (by omega), if_pos (by omega)]; omega
      · rw [if_neg d]
        by_cases z : k = 0
        · rw [if_pos z, if_pos z]
          by_cases y : k < i
          · rw [if_pos y, if_pos (by omega)]
          · rw [if_neg y, if_neg (by omega)]
        · rw [if_neg z, if_neg z]
          by_cases y : k < i
          · rw [if_pos (by omega : k ≤ i), if_pos y, if_pos (by omega : k ≤ i + 1), if_pos (by omega : k < i + 1)]
          · rw [if_neg (by omega : ¬ k ≤ i), if_neg y, if_neg (by omega : ¬ k ≤ i + 1), if_neg (by omega : ¬ k < i + 1)]
  · rw [if_neg (by omega), if_neg (by omega), Pm.co_ge (by rw [longL_len]; omega), Pm.co_ge (by rw [longL_len]; omega)]
theorem longL_bd {n : Int} {rule : List Int} {u : Nat} (hu : 10 ≤ u) (hn : Rm.Bd 10 n) (h : ∀ x ∈ rule, Rm.Bd u x) (i : Nat) : ∀ x ∈ longL n rule i, Rm.Bd (u + 12) x := fun x hx => by
  obtain ⟨k, _, rfl⟩ := Pm.mem_ofF hx
  unfold longW
  refine (Rm.Bd.add (n := u + 11) ?_ ?_).mono (by omega)
  · split
    · exact hn.mono (by omega)
    · split
      · have := (hn.mul (Pm.Bd_co h (k - 1))).mono (show 10 + u ≤ u + 11 by omega)
        unfold Rm.Bd at this ⊢
        rw [Int.natAbs_neg]; exact this
      · exact Rm.Bd.zero _
  · split
    · exact (Pm.Bd_co h k).mono (by omega)
    · exact Rm.Bd.zero _
theorem RwS.longer {b : Int} {s : Nat} {r : Rw} (hb : ByF b) (h : RwS b s r) (hs : r.rule.length < 12) {n : Int} (hn : Rm.Bd 10 n) :
    RwS b (s + 1) ⟨b, (longL n r.rule r.rule.length).map (Rm.tk b), r.row (r.rule.length + 1)⟩ := by
  have e := h.by_
  have el : ∀ x ∈ r.row (r.rule.length + 1), x = Rm.tk b (Rm.S r.rule r.at r.rule.length r.rule.length) ∨ x ∈ r.starts := fun x hx => by
    have e1 : r.row (r.rule.length + 1) = r.row r.rule.length ++ [r.at r.rule.length] := Rm.row_succ ..
    have e2 : r.row r.rule.length = r.starts := by
      have q : r.row r.rule.length = r.starts.take r.rule.length := Rm.row_starts (by have := h.len; omega)
      rw [q, h.len, List.take_length]
    rw [e1, e2] at hx
    rcases List.mem_append.mp hx with hx | hx
    · exact .inr hx
    · left
      rw [List.mem_singleton.mp hx, ← e]
      exact Rm.at_ge h.len (by have := h.len; omega)
  refine ⟨rfl, ?_, ?_, ?_, ?_, ?_, ?_⟩
  · show ((longL n r.rule r.rule.length).map (Rm.tk b)).length = (r.row (r.rule.length + 1)).length
    rw [List.length_map, longL_len, Rw.row_len]
  · show ((longL n r.rule r.rule.length).map (Rm.tk b)).length ≤ 12
    rw [List.length_map, longL_len]; omega
  · intro x hx
    obtain ⟨y, _, rfl⟩ := List.mem_map.mp hx
    exact tk_num hb.lo y
  · intro x hx
    rcases el x hx with rfl | hx
    · exact tk_num hb.lo _
    · exact h.startsNum x hx
  · intro x hx
    obtain ⟨y, hy, rfl⟩ := List.mem_map.mp hx
    exact tk_bdF hb (by unfold uS; omega) ((longL_bd (by unfold uS; omega) hn h.ruleBd _ y hy).mono (by unfold uS; omega))
  · intro x hx
    rcases el x hx with rfl | hx
    · refine tk_bdF hb (by rw [vS]; omega) ((Rm.Bd.S (rule := r.rule) (f := r.at) (n := r.rule.length) (a := uS s) (c := vS s) (fun k => Rm.Bd.getD h.ruleBd k) r.rule.length fun k hk => ?_).mono (by rw [vS]; omega))
      have q : r.at (r.rule.length - 1 - k) = r.starts.getD (r.rule.length - 1 - k) 0 := Rm.at_lt (by have := h.len; omega)
      rw [q]
      exact Rm.Bd.getD h.startsBd _
    · exact (h.startsBd x hx).mono (vS_le s)
/-- times x, as the laws do it -/
def timesX (b : Int) (rule xs : List Int) : List Int := Pm.ofF rule.length fun k => Rm.tk b ((if k = 0 then 0 else Pm.co xs (k - 1)) + Pm.co xs (rule.length - 1) * Pm.co rule (rule.length - 1 - k))
theorem timesX_rest {b : Int} (h1 : Rm.tk b 1 = 1) (rule : List Int) (m : Nat) : timesX b rule (Pm.rest b rule m) = Pm.rest b rule (m + 1) := by
  refine Pm.co_ext (by rw [timesX, Pm.ofF_len, Pm.rest_len]) fun k => ?_
  rw [timesX, Pm.co_ofF]
  by_cases h : k < rule.length
  · rw [if_pos h, Pm.co_rest h, Pm.ej_next h1 h, Pm.co_rest (j := rule.length - 1) (by omega)]
    by_cases z : k = 0
    · rw [if_pos z, if_pos z]
    · rw [if_neg z, if_neg z, Pm.co_rest (by omega)]
  · rw [if_neg h, Pm.co_ge (by rw [Pm.rest_len]; omega)]
/-- on the way of two rests put together -/
def rollI (b : Int) (rule : List Int) (m n i : Nat) : List Int := Pm.ofF rule.length fun k => Rm.tk b (Pm.sm i fun t => Pm.co (Pm.rest b rule m) t * Pm.co (Pm.rest b rule (n + t)) k)
theorem rollI_end {b : Int} (h1 : Rm.tk b 1 = 1) (rule : List Int) (m n : Nat) : rollI b rule m n rule.length = Pm.rest b rule (n + m) := by
  refine Pm.co_ext (by rw [rollI, Pm.ofF_len, Pm.rest_len]) fun k => ?_
  rw [rollI, Pm.co_ofF]
  by_cases h : k < rule.length
  · rw [if_pos h, Pm.rest_add h1 m n h]
  · rw [if_neg h, Pm.co_ge (by rw [Pm.rest_len]; omega)]
theorem rollI_zero (b : Int) (rule : List Int) (m n : Nat) : rollI b rule m n 0 = Pm.ofF rule.length fun _ => 0 := by
  unfold rollI
  congr 1
  funext k
  exact Pm.tk0 b
theorem rollI_step (b : Int) (rule : List Int) (m n i : Nat) : rollI b rule m n (i + 1) = Pm.ofF rule.length fun k => Rm.tk b (Pm.co (rollI b rule m n i) k + Pm.co (Pm.rest b rule m) i * Pm.co (Pm.rest b rule (n + i)) k) := by
  refine Pm.co_ext (by rw [rollI, Pm.ofF_len, Pm.ofF_len]) fun k => ?_
  rw [rollI, Pm.co_ofF, Pm.co_ofF]
  by_cases h : k < rule.length
  · rw [if_pos h, if_pos h, rollI, Pm.co_ofF, if_pos h, Rm.tk_add_l]; rfl
  · rw [if_neg h, if_neg h]
theorem rest_one (b : Int) (rule : List Int) (h : 0 < rule.length) : Pm.rest b rule 0 = [1] ++ Pm.ofF (rule.length - 1) fun _ => 0 := by
  rw [Pm.rest_zero]
  refine Pm.co_ext (by rw [List.length_append, Pm.ofF_len, Pm.ofF_len]; show _ = 1 + (rule.length - 1); omega) fun k => ?_
  rw [Pm.co_ofF, Pm.co_append, Pm.co_ofF]
  by_cases c : k = 0
  · rw [c, if_pos h, if_pos rfl, if_pos (by simp)]; rfl
  · rw [if_neg (show ¬ k < [(1 : Int)].length by show ¬ k < 1; omega), if_neg c]
    split <;> split <;> rfl
theorem rest_nil {b : Int} {rule : List Int} (h : rule.length = 0) (m : Nat) : Pm.rest b rule m = [] := List.eq_nil_of_length_eq_zero (by rw [Pm.rest_len, h])
def spTaken : Sp := fun vs H Q _ => ∃ b n : Int, vs = [.int b, .int n] ∧ 0 ≤ b ∧ Q (.int (Rm.tk b n)) H
def spTrim (K : PySem.W.Frag) : Sp := fun vs H Q _ => ∃ (l : Addr) (xs : List Int), vs = [.ref l] ∧ SqL K H l (xs.map V.int) ∧ ToldT H Q (Pm.trim xs)
def spNumAt : Sp := fun vs H Q _ => ∃ (a : Addr) (p : List Int) (k : Int), vs = [.ref a, .int k] ∧ H a = some (.tup (p.map V.int)) ∧ 0 ≤ k ∧ Q (.int (Pm.co p k.toNat)) H
def spTimes : Sp := fun vs H Q _ => ∃ (b : Int) (a c : Addr) (p r : List Int), vs = [.int b, .ref a, .ref c] ∧ 0 ≤ b ∧ H a = some (.tup (p.map V.int)) ∧ H c = some (.tup (r.map V.int)) ∧ p.length ≤ 400 ∧ r.length ≤ 400 ∧
  (∀ x ∈ p, Rm.Bd 1000000 x) ∧ (∀ x ∈ r, Rm.Bd 1000000 x) ∧ ToldT H Q (Pm.mul b p r)
def ToldD (H : Hp) (Q : VK) (b : Int) (P M : List Int) : Prop := ∀ t x y q r H', Same H H' → H' t = some (.tup [.ref x, .ref y]) → H' x = some (.tup (List.map V.int q)) → H' y = some (.tup (List.map V.int r)) → Pm.Div b P M q r →
  (∀ z ∈ q, Rm.Bd 500000 z) → (∀ z ∈ r, Rm.Bd 500000 z) → q.length ≤ P.length → Q (.ref t) H'
def spDivided : Sp := fun vs H Q _ => ∃ (b : Int) (a c : Addr) (P M : List Int), vs = [.int b, .ref a, .ref c] ∧ 0 ≤ b ∧ b < 1000 ∧ H a = some (.tup (P.map V.int)) ∧ H c = some (.tup (M.map V.int)) ∧ P.length ≤ 100 ∧ M.length ≤ 100 ∧ Pm.Mon M ∧
  (∀ k, Rm.tk b (Pm.co P k) = Pm.co P k) ∧ (∀ x ∈ P, Rm.Bd 300000 x) ∧ (∀ x ∈ M, Rm.Bd 1000 x) ∧ ToldD H Q b P M
theorem bd_trim {L : List Int} {u : Nat} (h : ∀ k, Rm.Bd u (Pm.co L k)) : ∀ x ∈ Pm.trim L, Rm.Bd u x := fun x hx => by
  obtain ⟨k, hk, e⟩ := List.mem_iff_getElem.mp hx
  rw [← e, ← Pm.co_lt hk, Pm.co_trim]; exact h k
theorem max_zero (m n : Nat) : (if (m : Int) - ((n : Int) - 1) > 0 then (m : Int) - ((n : Int) - 1) else 0).toNat = m - (n - 1) ∨ n = 0 := by
  by_cases h : n = 0
  · exact .inr h
  · left; split <;> omega
def spOfRule : Sp := fun vs H Q _ => ∃ (b : Int) (a : Addr) (c : List Int), vs = [.int b, .ref a] ∧ 0 ≤ b ∧ H a = some (.tup (c.map V.int)) ∧ c.length ≤ 100 ∧ ToldT H Q (Pm.ofRule b c)
/-! ### the program's jumps -/
def spRefJ : Sp := fun vs H Q _ => ∃ b n : Int, vs = [.int b, .int n] ∧ 0 ≤ n ∧ (b = 0 → n ≤ 400) ∧ Q .non H
theorem figs_lt {n : Nat} {k : Nat} (h : PySem.Builtin.Int.intBits (n : Int) ≤ k) : n / 2 ^ k = 0 := by
  have : (n : Int).natAbs < 2 ^ k := intBits_le_iff.mp h
  exact Nat.div_eq_of_lt (by omega)
theorem figs_step (n k : Nat) : n / 2 ^ k = 2 * (n / 2 ^ (k + 1)) + n / 2 ^ k % 2 := by
  rw [Nat.pow_succ, ← Nat.div_div_eq_div_mul]
  omega
theorem figs_le {n k : Nat} : n / 2 ^ k ≤ n := Nat.div_le_self ..
def spPower : Sp := fun vs H Q _ => ∃ (b : Int) (a : Addr) (rule : List Int) (n : Nat), vs = [.int b, .ref a, .int n] ∧ ByF b ∧ H a = some (.tup ((Pm.ofRule b rule).map V.int)) ∧ rule.length ≤ 12 ∧ (∀ x ∈ rule, Rm.Bd 67 x) ∧ (b = 0 → n ≤ 400) ∧ Rm.Bd 400 (n : Int) ∧
  ∀ p H' l, Same H H' → H' p = some (.tup (List.map V.int l)) → Pm.Pw b rule n l → Pm.Py b l → l.length ≤ rule.length → Q (.ref p) H'
theorem pw_bd {b : Int} (hb : ByF b) {rule l : List Int} (hr : rule.length ≤ 12) (hR : ∀ x ∈ rule, Rm.Bd 67 x) {m : Nat} (hm : b = 0 → m ≤ 400) (h : Pm.Pw b rule m l) (hy : Pm.Py b l) (hl : l.length ≤ rule.length) : ∀ x ∈ l, Rm.Bd 100000 x := fun x hx => by
  obtain ⟨k, hk, e⟩ := List.mem_iff_getElem.mp hx
  rw [← e, ← Pm.co_lt hk, h.co hb.one hy hl (by omega)]
  refine (Pm.ej_bd hb.one hb.lo hb.hi (a := 67) (by decide) hR k m (fun z => by have := hm z; omega)).mono ?_
  have : 1100 * (67 + rule.length) ≤ 1100 * 79 := Nat.mul_le_mul_left _ (by omega)
  omega
theorem mul_lenF (b : Int) (p q : List Int) : (Pm.mul b p q).length ≤ p.length + q.length := by
  refine Nat.le_trans (Pm.trim_len_le _) ?_
  rw [Pm.ofF_len]
  exact Nat.le_refl _
theorem one_tk {b : Int} (hb : ByF b) (k : Nat) : Rm.tk b (Pm.co [1] k) = Pm.co [1] k := by
  cases k with
  | zero => rw [Pm.co_zero]; exact hb.one
  | succ k => rw [Pm.co_succ, Pm.co_nil]; exact Pm.tk0 b
def spJump : Sp := fun vs H Q _ => ∃ (v : V) (r : Rw) (n : Nat), vs = [v, .int n] ∧ RowIs H v r ∧ RwF r ∧ (r.b = 0 → n ≤ 400) ∧ Rm.Bd 400 (n : Int) ∧ ToldT H Q (Pm.rest r.b r.rule n)
def spSumAt : Sp := fun vs H Q _ => ∃ (b : Int) (a l : Addr) (p f : List Int) (n : Nat), vs = [.int b, .ref a, .ref l, .int (0 + (n : Int))] ∧ 0 ≤ b ∧ H a = some (.tup (p.map V.int)) ∧ (H l = some (.lst (f.map V.int)) ∨ H l = some (.tup (f.map V.int))) ∧ n + p.length ≤ f.length ∧ p.length ≤ 1000 ∧
  (∀ x ∈ p, Rm.Bd 1000000 x) ∧ (∀ x ∈ f, Rm.Bd 300000 x) ∧ ∀ H', Same H H' → Q (.int (Rm.tk b (Pm.ks p (Pm.co f) n))) H'
/-- the jump's sum is what stands there -/
theorem RwF.sum_at {r : Rw} (h : RwF r) (n m N : Nat) (hN : m + r.rule.length ≤ N) : Rm.tk r.b (Pm.ks (Pm.rest r.b r.rule n) (Pm.co (r.row N)) m) = r.at (m + n) := by
  rw [← h.at_tk, ← Pm.jump_rest h.one h.gr n m]
  unfold Pm.ks
  rw [Pm.rest_len]
  refine congrArg (Rm.tk r.b) (Pm.sm_congr fun k hk => ?_)
  have e2 : Pm.co (r.row N) (m + k) = r.at (m + k) := Rm.row_get _ _ _ (by omega)
  rw [e2]
theorem RwF.row_starts {r : Rw} (h : RwF r) : r.row r.rule.length = r.starts := by
  have q : r.row r.rule.length = r.starts.take r.rule.length := Rm.row_starts (by have := h.ok.len; omega)
  rw [q, h.ok.len, List.take_length]
def spPlaceAt : Sp := fun vs H Q _ => ∃ (v : V) (r : Rw) (n : Nat), vs = [v, .int n] ∧ RowIs H v r ∧ RwF r ∧ (r.b = 0 → n ≤ 400) ∧ Rm.Bd 400 (n : Int) ∧ ∀ H', Same H H' → Q (.int (r.at n)) H'
/-! ### the far laws' own rows -/
def spCellF (K : PySem.W.Frag) : Sp := fun vs H Q _ => ∃ (a : Addr) (ns : List Int) (k : Int), vs = [.ref a, .int k] ∧ SqL K H a (ns.map V.int) ∧ 0 ≤ k ∧ k ≤ 1000 ∧ (∀ x ∈ ns, PySem.Builtin.Int.intBits x ≤ 1048576) ∧ ∀ c, Rm.Bd 1048576 c → Q (.int c) H
def spMixF : Sp := fun vs H Q _ => ∃ c k : Int, vs = [.int c, .int k] ∧ 0 ≤ k ∧ k ≤ 1000 ∧ ∀ x, 0 ≤ x → x < 2147483587 → Q (.int x) H
def spByF : Sp := fun vs H Q _ => ∃ c : Int, vs = [.int c] ∧ ∀ b H', Same H H' → ByF b → Q (.int b) H'
def smallF : List Int := [0, 1, -1, 2, 1, -2, 3, 0, 1, 5]
theorem smallF_ok : ∀ k < 10, -10 < smallF.getD k 0 ∧ smallF.getD k 0 < 10 := by decide
def spOneF : Sp := fun vs H Q _ => ∃ b c k : Int, vs = [.int b, .int c, .int k] ∧ ByF b ∧ Rm.Bd 1048576 c ∧ 0 ≤ k ∧ k ≤ 30 ∧ ∀ x H', Same H H' → IsNum b x → Rm.Bd 31 x → Q (.int x) H'
def spPlacesF : Sp := fun vs H Q _ => ∃ (v : V) (r : Rw) (c : Int), vs = [v, .int c] ∧ RowIs H v r ∧ RwOk r ∧ 0 ≤ c ∧ c ≤ 900 ∧ Told H Q ((r.row c.toNat).map V.int)
def spLonger : Sp := fun vs H Q _ => ∃ (b : Int) (s : Nat) (v : V) (r : Rw) (n : Int), vs = [v, .int n] ∧ RowIs H v r ∧ ByF b ∧ RwS b s r ∧ s < 3 ∧ r.rule.length < 12 ∧ Rm.Bd 10 n ∧ ∀ v' r' H', Same H H' → RowIs H' v' r' → RwS b (s + 1) r' → Q v' H'
def timesL : List Int := [0, 0, 1, 0, 2, 0, 0, 3]
theorem timesL_ok : ∀ k < 8, 0 ≤ timesL.getD k 0 ∧ timesL.getD k 0 ≤ 3 := by decide
def spDrawn (K : PySem.W.Frag) : Sp := fun vs H Q _ => ∃ (a : Addr) (ns : List Int) (st b m : Int), vs = [.ref a, .int st, .int b, .int m] ∧ SqL K H a (ns.map V.int) ∧ 0 ≤ st ∧ st ≤ 500 ∧ (∀ x ∈ ns, PySem.Builtin.Int.intBits x ≤ 1048576) ∧ ByF b ∧ 0 ≤ m ∧ m ≤ 12 ∧ ∀ v r H', Same H H' → RowIs H' v r → RwF r → r.b = b → Q v H'
def spTimesX : Sp := fun vs H Q _ => ∃ (b : Int) (v : V) (r : Rw) (l : Addr) (xs : List Int), vs = [.int b, v, .ref l] ∧ RowIs H v r ∧ RwF r ∧ H l = some (.lst (xs.map V.int)) ∧ xs.length = r.rule.length ∧ (∀ x ∈ xs, Rm.Bd 100000 x) ∧ Told H Q ((timesX r.b r.rule xs).map V.int)
def spSteps : Sp := fun vs H Q _ => ∃ (b : Int) (v : V) (r : Rw) (n : Nat), vs = [.int b, v, .int n] ∧ RowIs H v r ∧ RwF r ∧ n ≤ 100 ∧ Told H Q ((Pm.rest r.b r.rule n).map V.int)
def spRolled : Sp := fun vs H Q _ => ∃ (b : Int) (v : V) (r : Rw) (l1 l2 : Addr) (m n : Nat), vs = [.int b, v, .ref l1, .ref l2] ∧ b = r.b ∧ RowIs H v r ∧ RwF r ∧ H l1 = some (.lst ((Pm.rest r.b r.rule m).map V.int)) ∧ H l2 = some (.lst ((Pm.rest r.b r.rule n).map V.int)) ∧ (r.b = 0 → m + n ≤ 1024) ∧ Told H Q ((Pm.rest r.b r.rule (n + m)).map V.int)
def spRestFar : Sp := fun vs H Q _ => ∃ (b : Int) (v : V) (r : Rw) (n : Nat), vs = [.int b, v, .int n] ∧ b = r.b ∧ RowIs H v r ∧ RwF r ∧ (r.b = 0 → n ≤ 400) ∧ Told H Q ((Pm.rest r.b r.rule n).map V.int)
def spSame : Sp := fun vs H Q _ => ∃ x : Int, vs = [.int x, .int x] ∧ Q (.bl true) H
def modL : List Int := [10 ^ (60 : Int).toNat, 10 ^ (5 : Int).toNat, 10 ^ (20 : Int).toNat, 1000]
theorem modL_ok : ∀ k < 4, 0 < modL.getD k 0 ∧ modL.getD k 0 ≤ 10 ^ 60 := by decide
section
variable {P : Program} {w : World} {K : PySem.W.Frag} {mg : Str → Option Value} {base : Heap}
theorem ok_taken (B : Bt mg) (F : Fn K mg "taken" s_taken ["by", "number"]) : Cal P w K mg base "taken" 1 ["by", "number"] spTaken := by
  refine F.cal sc_taken (fun vs H Q E h => ?_) (fun f cdv A outer s H vs Q E hr h => ?_)
  · obtain ⟨b, n, rfl, _⟩ := h; rfl
  · obtain ⟨b, n, rfl, h0, q⟩ := h
    refine ⟨_, (pss_cons (ps_if (pt_cmpR (xeq K hr) (pv 0) pe_int (nomark _))
      (pss_one (ps_ret (pv 1)))
      pss_nil)
      (pss_one (ps_ret (pe_op op_mod (pv 1) (pv 0))))), ?_⟩
    refine ⟨_, rfl, _, rfl, ?_⟩
    refine ite2 (fun c => ?_) (fun c => ?_)
    · refine ⟨_, rfl, ?_⟩
      have c' : b = 0 := dec_true c
      have e : Rm.tk b n = n := by rw [c', Rm.tk_zero]
      rw [e] at q; exact q
    · have c' : ¬ b = 0 := dec_false c
      refine ⟨_, rfl, _, rfl, _, _, rfl, rfl, (by omega : (0 : Int) < b), ?_⟩
      rw [Rm.tk_pos c'] at q; exact q
theorem ok_trimmed (B : Bt mg) (F : Fn K mg "trimmed" s_trimmed ["numbers"]) : Cal P w K mg base "trimmed" 1 ["numbers"] (spTrim K) := by
  refine F.cal sc_trimmed (fun vs H Q E h => ?_) (fun f cdv A outer s H vs Q E hr h => ?_)
  · obtain ⟨l, xs, rfl, _⟩ := h; rfl
  · obtain ⟨l, xs, rfl, hL, q⟩ := h
    refine ⟨_, (pss_cons (ps_set (i := 1) sc_trimmed.nd rfl (Or.inl rfl) (pe_callB (xlen K) rfl B.b_len boot_len (pa_n (pv 0) pa_nil)))
      (pss_cons (ps_while PassesOwn.never (PW.pt (pw_and (pt_cmpR op_gt (pv 1) pe_int (nomark _)) (pw_and1 (pt_cmpR (xeq K hr) (pe_ix (xix K) (pv 0) (pe_op op_sub (pv 1) pe_int) (fun _ _ => rfl)) pe_int (nomark _)))))
      (pss_one (ps_set (i := 1) sc_trimmed.nd rfl (Or.inl rfl) (pe_op op_sub (pv 1) pe_int))))
      (pss_one (ps_ret (pe_callTy (xtuple K) rfl B.b_tuple boot_tuple (pa_cons (pe_slice (xsl K) (pv 0) po_none (po_some (pv 1))) pa_nil)))))), ?_⟩
    have lL : (xs.map V.int).length = xs.length := List.length_map _
    refine ⟨_, rfl, .ref l, xs.length, rfl, .inl ⟨_, hL, lL.symm⟩, ?_⟩
    refine ⟨fun m σ' H' => ∃ n : Nat, m = n ∧ n ≤ xs.length ∧ σ' = [some (.ref l), some (.int (n : Int))] ∧ H' = H ∧ Pm.trim (xs.take n) = Pm.trim xs, ⟨_, xs.length, rfl, Nat.le_refl _, rfl, rfl, by rw [List.take_length]⟩, ?_⟩
    rintro m σ' H' ⟨n, e0, hn, rfl, rfl, ht⟩
    refine ⟨_, rfl, _, _, rfl, rfl, _, rfl, ?_⟩
    refine ite2 (fun c => ?_) (fun c => iteF ?_)
    · have h0 : 0 < n := by have := dec_true c; omega
      have e1 : ((n : Int) - 1).toNat = n - 1 := by omega
      refine ⟨_, rfl, _, rfl, _, _, rfl, rfl, _, _, .inl hL, atI_ints (ns := xs) (by omega : (0 : Int) ≤ (n : Int) - 1) (by omega), _, rfl, ?_⟩
      refine ite2 (fun c2 => ?_) (fun c2 => ?_)
      · have hz := dec_true c2
        rw [e1] at hz
        refine ⟨_, fun _ _ z => z, ?_⟩
        refine ⟨_, rfl, _, _, rfl, rfl, ?_⟩
        refine ⟨n - 1, by omega, n - 1, rfl, by omega, ?_, rfl, trim_down h0 hn ht hz⟩
        rw [show ((n - 1 : Nat) : Int) = (n : Int) - 1 by omega]
        rfl
      · have hz := dec_false c2
        rw [e1] at hz
        refine ⟨_, rfl, _, rfl, _, rfl, .inl ⟨_, hL, fun p hp => ?_⟩⟩
        refine ⟨p, _, rfl, .inl ⟨SqL.of upd_same, fun p2 hp2 => ?_⟩⟩
        refine q p2 _ ((Same.new hp _).trans (Same.new hp2 _)) ?_
        rw [upd_same, cut_to, ← List.map_take, trim_stop hn ht (.inr hz)]
    · have h0 : n = 0 := by have := dec_false c; omega
      refine ⟨_, rfl, _, rfl, _, rfl, .inl ⟨_, hL, fun p hp => ?_⟩⟩
      refine ⟨p, _, rfl, .inl ⟨SqL.of upd_same, fun p2 hp2 => ?_⟩⟩
      refine q p2 _ ((Same.new hp _).trans (Same.new hp2 _)) ?_
      rw [upd_same, cut_to, ← List.map_take, trim_stop hn ht (.inl h0)]
theorem ok_number_at (B : Bt mg) (F : Fn K mg "number_at" s_number_at ["poly", "k"]) : Cal P w K mg base "number_at" 1 ["poly", "k"] spNumAt := by
  refine F.cal sc_number_at (fun vs H Q E h => ?_) (fun f cdv A outer s H vs Q E hr h => ?_)
  · obtain ⟨a, p, k, rfl, _⟩ := h; rfl
  · obtain ⟨a, p, k, rfl, hA, h0, q⟩ := h
    refine ⟨_, (pss_one (ps_ret (pe_ifExp (pt_cmpR op_lt (pv 1) (pe_callB (xlen K) rfl B.b_len boot_len (pa_n (pv 0) pa_nil)) (nomark _)) (pe_ix (xix K) (pv 0) (pv 1) (fun _ _ => rfl)) pe_int))), ?_⟩
    have lP : (p.map V.int).length = p.length := List.length_map _
    refine ⟨_, rfl, _, rfl, .ref a, p.length, rfl, .inr ⟨_, SqT.of hA, lP.symm⟩, _, _, rfl, rfl, _, rfl, ?_⟩
    refine ite2 (fun c => ?_) (fun c => ?_)
    · exact ⟨_, rfl, _, rfl, _, _, .inr (SqT.of hA), atI_ints (ns := p) h0 (dec_true c), q⟩
    · have c' := dec_false c
      have e : Pm.co p k.toNat = 0 := Pm.co_ge (by omega)
      rw [e] at q
      exact q
theorem ok_times (B : Bt mg) (F : Fn K mg "times" s_times ["by", "one", "other"]) (C_taken : Cal P w K mg base "taken" 1 ["by", "number"] spTaken) (C_trimmed : Cal P w K mg base "trimmed" 1 ["numbers"] (spTrim K)) : Cal P w K mg base "times" 2 ["by", "one", "other"] spTimes := by
  refine F.cal sc_times (fun vs H Q E h => ?_) (fun f cdv A outer s H vs Q E hr h => ?_)
  · obtain ⟨b, a, c, p, r, rfl, _⟩ := h; rfl
  · obtain ⟨b, a, c, p, r, rfl, hb, hA, hC, zA, zC, bA, bC, q⟩ := h
    refine ⟨_, (pss_cons (ps_set (i := 3) sc_times.nd rfl (Or.inl rfl) (pe_op v_mul (pe_lst (pa_k pe_int pa_nil)) (pe_op (xadd K) (pe_callB (xlen K) rfl B.b_len boot_len (pa_n (pv 1) pa_nil)) (pe_callB (xlen K) rfl B.b_len boot_len (pa_n (pv 2) pa_nil)))))
      (pss_cons (ps_for PassesOwn.never rfl (pi_range1 rfl B.b_range (pa_cons (pe_callB (xlen K) rfl B.b_len boot_len (pa_n (pv 1) pa_nil)) pa_nil)) (pg_name (i := 4) sc_times.nd rfl (Or.inl rfl))
      (pss_one (ps_for PassesOwn.never rfl (pi_range1 rfl B.b_range (pa_cons (pe_callB (xlen K) rfl B.b_len boot_len (pa_n (pv 2) pa_nil)) pa_nil)) (pg_name (i := 5) sc_times.nd rfl (Or.inl rfl))
      (pss_one (ps_asg (pe_callC C_taken hr rfl (pa_n (pv 0) (pa_b (pe_op (xadd K) (pe_ix (xix K) (pv 3) (pe_op (xadd K) (pv 4) (pv 5)) (fun _ _ => rfl)) (pe_op v_mul (pe_ix (xix K) (pv 1) (pv 4) (fun _ _ => rfl)) (pe_ix (xix K) (pv 2) (pv 5) (fun _ _ => rfl)))) pa_nil))) (pg_sub (pv 3) (pe_op (xadd K) (pv 4) (pv 5)) set_list))))))
      (pss_one (ps_ret (pe_callC C_trimmed hr rfl (pa_n (pv 3) pa_nil)))))), ?_⟩
    have lP : (p.map V.int).length = p.length := List.length_map _
    have lR : (r.map V.int).length = r.length := List.length_map _
    refine ⟨(by show 1 ≤ sizeLine; decide), fun l0 h0 => ?_⟩
    have g0 := Same.new h0 (.lst [.int 0])
    refine ⟨_, rfl, .ref a, p.length, rfl, .inr ⟨_, SqT.of (g0 _ _ hA), lP.symm⟩, _, rfl, .ref c, r.length, rfl, .inr ⟨_, SqT.of (g0 _ _ hC), lR.symm⟩, ?_⟩
    have en : ((p.length : Int) + (r.length : Int)).toNat = p.length + r.length := by omega
    refine ⟨_, upd_same, (by omega : -(2 ^ 63) ≤ (p.length : Int) + (r.length : Int)), (by omega : (p.length : Int) + (r.length : Int) < 2 ^ 63), ?_, fun l hl => ?_⟩
    · rw [en]; show 1 * (p.length + r.length) ≤ sizeLine; rw [Nat.one_mul]; exact Nat.le_of_lt (small1000 (by omega))
    have g1 := g0.trans (Same.new hl (.lst (List.replicate ((p.length : Int) + (r.length : Int)).toNat [V.int 0]).flatten))
    have hl0 : H l = none := g0.free hl
    refine ⟨_, rfl, .ref a, p.length, rfl, .inr ⟨_, SqT.of (g1 _ _ hA), lP.symm⟩, ?_⟩
    refine ⟨(p.length : Int), rfl, (by omega : -(2 ^ 62) ≤ (p.length : Int)), (by omega : (p.length : Int) < 2 ^ 62), ?_⟩
    refine for_range (lo := 0) (n := (p.length : Int).toNat) (fun i σ' H' => ∃ o4 o5 L, σ' = [some (.int b), some (.ref a), some (.ref c), some (.ref l), o4, o5] ∧ Same H H' ∧ H' l = some (.lst (L.map V.int)) ∧ L.length = p.length + r.length ∧ ∀ k, Pm.co L k = Rm.tk b (Pm.W (Pm.co p) (Pm.co r) i 0 k))
      ⟨_, _, Pm.ofF (p.length + r.length) (fun _ => 0), rfl, g1, (by rw [upd_same, en, replicate_ofF]), Pm.ofF_len _ _, fun k => by rw [Pm.co_ofF, Pm.W_zero, Pm.tk0]; split <;> rfl⟩ ?_ ?_
    · rintro i σ' H' hi ⟨o4, o5, L, rfl, g, hL, zL, hW⟩
      have hi' : i < p.length := by omega
      refine ⟨_, rfl, .ref c, r.length, rfl, .inr ⟨_, SqT.of (g _ _ hC), lR.symm⟩, ?_⟩
      refine ⟨(r.length : Int), rfl, (by omega : -(2 ^ 62) ≤ (r.length : Int)), (by omega : (r.length : Int) < 2 ^ 62), ?_⟩
      refine for_range (lo := 0) (n := (r.length : Int).toNat) (fun k σ' H' => ∃ o5 L, σ' = [some (.int b), some (.ref a), some (.ref c), some (.ref l), some (.int (0 + (i : Int))), o5] ∧ Same H H' ∧ H' l = some (.lst (L.map V.int)) ∧ L.length = p.length + r.length ∧ ∀ j, Pm.co L j = Rm.tk b (Pm.W (Pm.co p) (Pm.co r) i k j))
        ⟨_, L, rfl, g, hL, zL, hW⟩ ?_ ?_
      · rintro k σ' H2 hk ⟨o5, L, rfl, g, hL, zL, hW⟩
        have hk' : k < r.length := by omega
        have lL : (L.map V.int).length = L.length := List.length_map _
        have e1 : (0 + (i : Int) + (0 + (k : Int))).toNat = i + k := by omega
        have e2 : (0 + (i : Int)).toNat = i := by omega
        have e3 : (0 + (k : Int)).toNat = k := by omega
        refine ⟨_, rfl, _, rfl, _, rfl, _, rfl, _, _, .inl (SqL.of hL), atI_ints (ns := L) (by omega : (0 : Int) ≤ 0 + (i : Int) + (0 + (k : Int))) (by omega), ?_⟩
        refine ⟨_, rfl, _, rfl, _, _, .inr (SqT.of (g _ _ hA)), atI_ints (ns := p) (by omega : (0 : Int) ≤ 0 + (i : Int)) (by omega), ?_⟩
        refine ⟨_, rfl, _, rfl, _, _, .inr (SqT.of (g _ _ hC)), atI_ints (ns := r) (by omega : (0 : Int) ≤ 0 + (k : Int)) (by omega), ?_⟩
        refine ⟨mulBd (Rm.Bd.getD bA _) (Rm.Bd.getD bC _) (by decide), ?_⟩
        refine ⟨b, _, rfl, hb, ?_⟩
        refine ⟨_, rfl, _, rfl, _, rfl, l, _, _, i + k, rfl, rfl, hL, ixN_of (by omega) (by rw [lL]; omega), ?_⟩
        refine ⟨_, L.set (i + k) _, rfl, g.upd hl0 _, (by rw [upd_same, map_set_int]), (by rw [List.length_set]; exact zL), fun j => ?_⟩
        rw [Pm.co_set _ _ _ _ (by omega), Pm.W_step, e1, e2, e3]
        by_cases ej : j = i + k
        · have hw := hW j
          rw [if_pos ej, if_pos ej]
          rw [ej] at hw ⊢
          rw [← Rm.tk_add_l b (Pm.W (Pm.co p) (Pm.co r) i k (i + k)), ← hw]; rfl
        · rw [if_neg ej, if_neg ej, Int.add_zero]; exact hW j
      · rintro σ' H2 ⟨o5, L, rfl, g, hL, zL, hW⟩
        refine ⟨_, _, L, rfl, g, hL, zL, fun k => ?_⟩
        rw [hW k, Int.toNat_natCast, Pm.W_row fun k hk => Pm.co_ge hk]
    · rintro σ' H' ⟨o4, o5, L, rfl, g, hL, zL, hW⟩
      refine ⟨_, rfl, l, L, rfl, SqL.of hL, fun t H2 g2 ht => q t H2 (g.trans g2) ?_⟩
      have e : Pm.trim L = Pm.mul b p r := by
        refine Pm.trim_ext fun k => ?_
        rw [hW k, Int.toNat_natCast, Pm.W_end fun k hk => Pm.co_ge hk, Pm.co_ofF]
        split
        · rfl
        · rw [← Pm.mul_co, Pm.mul, Pm.co_trim, Pm.co_ofF, if_neg (by assumption)]
      rw [← e]; exact ht
theorem ok_divided (B : Bt mg) (F : Fn K mg "divided" s_divided ["by", "one", "other"]) (C_taken : Cal P w K mg base "taken" 1 ["by", "number"] spTaken) (C_trimmed : Cal P w K mg base "trimmed" 1 ["numbers"] (spTrim K)) : Cal P w K mg base "divided" 2 ["by", "one", "other"] spDivided := by
  refine F.cal sc_divided (fun vs H Q E h => ?_) (fun f cdv A outer s H vs Q E hr h => ?_)
  · obtain ⟨b, a, c, P, M, rfl, _⟩ := h; rfl
  · obtain ⟨b, a, c, P, M, rfl, hb, hb1, hA, hC, zA, zC, hM, nP, bA, bC, q⟩ := h
    refine ⟨_, (pss_cons (ps_set (i := 3) sc_divided.nd rfl (Or.inl rfl) (pe_op op_sub (pe_callB (xlen K) rfl B.b_len boot_len (pa_n (pv 2) pa_nil)) pe_int))
      (pss_cons (ps_set (i := 4) sc_divided.nd rfl (Or.inl rfl) (pe_op v_mul (pe_lst (pa_k pe_int pa_nil)) (pe_callB (call_max2 rfl) rfl B.b_max boot_max (pa_k pe_int (pa_b (pe_op op_sub (pe_callB (xlen K) rfl B.b_len boot_len (pa_n (pv 1) pa_nil)) (pv 3)) pa_nil)))))
      (pss_cons (ps_set (i := 5) sc_divided.nd rfl (Or.inl rfl) (pe_callTy (xlist K) rfl B.b_list boot_list (pa_n (pv 1) pa_nil)))
      (pss_cons (ps_for PassesOwn.never rfl (pi_rangeD rfl B.b_range (pa_b (pe_op op_sub (pe_callB (xlen K) rfl B.b_len boot_len (pa_n (pv 4) pa_nil)) pe_int) (pa_u (pe_un un_neg pe_int) (pa_u (pe_un un_neg pe_int) pa_nil)))) (pg_name (i := 6) sc_divided.nd rfl (Or.inl rfl))
      (pss_cons (ps_set (i := 7) sc_divided.nd rfl (Or.inl rfl) (pe_ix (xix K) (pv 5) (pe_op (xadd K) (pv 6) (pv 3)) (fun _ _ => rfl)))
      (pss_cons (ps_asg (pv 7) (pg_sub (pv 4) (pv 6) set_list))
      (pss_one (ps_for PassesOwn.never rfl (pi_range1 rfl B.b_range (pa_cons (pe_callB (xlen K) rfl B.b_len boot_len (pa_n (pv 2) pa_nil)) pa_nil)) (pg_name (i := 8) sc_divided.nd rfl (Or.inl rfl))
      (pss_one (ps_asg (pe_callC C_taken hr rfl (pa_n (pv 0) (pa_b (pe_op op_sub (pe_ix (xix K) (pv 5) (pe_op (xadd K) (pv 6) (pv 8)) (fun _ _ => rfl)) (pe_op v_mul (pv 7) (pe_ix (xix K) (pv 2) (pv 8) (fun _ _ => rfl)))) pa_nil))) (pg_sub (pv 5) (pe_op (xadd K) (pv 6) (pv 8)) set_list))))))))
      (pss_one (ps_ret (pe_tup (pa_cons (pe_callC C_trimmed hr rfl (pa_n (pv 4) pa_nil)) (pa_cons (pe_callC C_trimmed hr rfl (pa_n (pv 5) pa_nil)) pa_nil))))))))), ?_⟩
    have lP : (P.map V.int).length = P.length := List.length_map _
    have lM : (M.map V.int).length = M.length := List.length_map _
    have hMp := hM.pos
    refine ⟨_, rfl, .ref c, M.length, rfl, .inr ⟨_, SqT.of hC, lM.symm⟩, _, _, rfl, rfl, ?_⟩
    refine ⟨(by show 1 ≤ sizeLine; decide), fun l0 h0 => ?_⟩
    have g0 := Same.new h0 (.lst [.int 0])
    refine ⟨_, rfl, .ref a, P.length, rfl, .inr ⟨_, SqT.of (g0 _ _ hA), lP.symm⟩, _, rfl, _, _, rfl, rfl, _, _, rfl, ?_⟩
    have en : (if (P.length : Int) - ((M.length : Int) - 1) > 0 then (P.length : Int) - ((M.length : Int) - 1) else 0).toNat = P.length - (M.length - 1) := (max_zero P.length M.length).resolve_right (by omega)
    refine ⟨_, upd_same, ?_, ?_, ?_, fun lo hlo => ?_⟩
    · split <;> omega
    · split <;> omega
    · rw [en]; show 1 * (P.length - (M.length - 1)) ≤ sizeLine; rw [Nat.one_mul]; exact Nat.le_of_lt (small1000 (by omega))
    rw [en, replicate_ofF]
    have hlo0 : H lo = none := g0.free hlo
    have g1 := g0.trans (Same.new hlo (.lst ((Pm.ofF (P.length - (M.length - 1)) fun _ => 0).map V.int)))
    have hO0 : (upd (upd H l0 (.lst [.int 0])) lo (.lst ((Pm.ofF (P.length - (M.length - 1)) fun _ => 0).map V.int))) lo = some (.lst ((Pm.ofF (P.length - (M.length - 1)) fun _ => 0).map V.int)) := upd_same
    generalize upd (upd H l0 (.lst [.int 0])) lo (.lst ((Pm.ofF (P.length - (M.length - 1)) fun _ => 0).map V.int)) = H1 at g1 hO0
    refine ⟨_, rfl, a, _, rfl, .inr (SqT.of (g1 _ _ hA)), fun ll hll => ?_⟩
    have hll0 : H ll = none := g1.free hll
    have hne : lo ≠ ll := ne_of_none hO0 hll
    have gll := Same.new hll (.lst (P.map V.int))
    have g2 := g1.trans gll
    have hO2 := gll _ _ hO0
    have hL2 : (upd H1 ll (.lst (P.map V.int))) ll = some (.lst (P.map V.int)) := upd_same
    generalize upd H1 ll (.lst (P.map V.int)) = H2 at gll g2 hO2 hL2
    generalize hn : P.length - (M.length - 1) = n at hO2
    refine ⟨_, rfl, .ref lo, n, rfl, .inl ⟨_, SqL.of hO2, by rw [List.length_map, Pm.ofF_len]⟩, _, _, rfl, rfl, _, rfl, _, rfl, (n : Int) - 1, -1, rfl, ⟨by omega, by omega, by omega, by omega⟩, ?_⟩
    refine for_down (lo := (n : Int) - 1) (n := ((n : Int) - 1 - (-1)).toNat) (fun i σ' H' => ∃ o6 o7 o8 O L, σ' = [some (.int b), some (.ref a), some (.ref c), some (.int ((M.length : Int) - 1)), some (.ref lo), some (.ref ll), o6, o7, o8] ∧ Same H H' ∧ H' lo = some (.lst (List.map V.int O)) ∧ H' ll = some (.lst (List.map V.int L)) ∧ Pm.DivI b P M (n - i) O L ∧ (∀ k, Rm.Bd (300000 + i * 1001) (Pm.co O k)) ∧ ∀ k, Rm.Bd (300000 + i * 1001) (Pm.co L k))
      ⟨_, _, _, _, P, rfl, g2, hO2, hL2, (by rw [Nat.sub_zero, ← hn]; exact Pm.DivI.start nP), fun k => by rw [Pm.co_ofF]; split <;> exact Rm.Bd.zero _, fun k => (Pm.Bd_co bA k).mono (by omega)⟩ ?_ ?_
    · rintro i σ' H' hi ⟨o6, o7, o8, O, L, rfl, g, hO, hL, I, bO, bL⟩
      have hi' : i < n := by omega
      have hs : n - i = n - (i + 1) + 1 := by omega
      rw [hs] at I
      generalize es : n - (i + 1) = s at I
      have esI : (n : Int) - 1 - (i : Int) = (s : Int) := by omega
      rw [esI]
      have hlL := I.ll
      have hlO := I.ol
      have lO : (O.map V.int).length = O.length := List.length_map _
      have e1 : ((s : Int) + ((M.length : Int) - 1)).toNat = s + (M.length - 1) := by omega
      refine ⟨_, rfl, _, rfl, _, rfl, _, _, .inl (SqL.of hL), atI_ints (ns := L) (by omega : (0 : Int) ≤ (s : Int) + ((M.length : Int) - 1)) (by omega), ?_⟩
      rw [e1]
      have hF : Rm.Bd (300000 + i * 1001) (L.getD (s + (M.length - 1)) 0) := bL _
      have eF : L.getD (s + (M.length - 1)) 0 = Pm.co L (s + (M.length - 1)) := rfl
      rw [eF] at hF ⊢
      generalize hf : Pm.co L (s + (M.length - 1)) = f at hF
      refine ⟨_, rfl, _, rfl, _, rfl, lo, _, _, s, rfl, rfl, hO, ixN_of rfl (by rw [lO]; omega), ?_⟩
      have hO3 : (upd H' lo (.lst ((O.map V.int).set s (.int f)))) lo = some (.lst ((O.set s f).map V.int)) := by rw [upd_same, map_set_int]
      have hL3 : (upd H' lo (.lst ((O.map V.int).set s (.int f)))) ll = some (.lst (L.map V.int)) := by rw [upd_ne hne.symm]; exact hL
      have g3 := g.upd hlo0 (.lst ((O.map V.int).set s (.int f)))
      generalize upd H' lo (.lst ((O.map V.int).set s (.int f))) = H3 at hO3 hL3 g3
      refine ⟨_, rfl, .ref c, M.length, rfl, .inr ⟨_, SqT.of (g3 _ _ hC), lM.symm⟩, ?_⟩
      refine ⟨(M.length : Int), rfl, (by omega : -(2 ^ 62) ≤ (M.length : Int)), (by omega : (M.length : Int) < 2 ^ 62), ?_⟩
      refine for_range (lo := 0) (n := (M.length : Int).toNat) (fun t σ' H' => ∃ o8 L', σ' = [some (.int b), some (.ref a), some (.ref c), some (.int ((M.length : Int) - 1)), some (.ref lo), some (.ref ll), some (.int (s : Int)), some (.int f), o8] ∧ Same H H' ∧ H' lo = some (.lst ((O.set s f).map V.int)) ∧ H' ll = some (.lst (List.map V.int L')) ∧ L'.length = L.length ∧ ∀ k, Pm.co L' k = Pm.lf b f s t L M k)
        ⟨_, L, rfl, g3, hO3, hL3, rfl, fun k => (Pm.lf_zero ..).symm⟩ ?_ ?_
      · rintro t σ' H4 ht ⟨o8, L', rfl, g4, hO4, hL4, zL', eL'⟩
        have ht' : t < M.length := by omega
        have lL' : (L'.map V.int).length = L'.length := List.length_map _
        have e2 : ((s : Int) + (0 + (t : Int))).toNat = s + t := by omega
        have e3 : (0 + (t : Int)).toNat = t := by omega
        refine ⟨_, rfl, _, rfl, _, rfl, _, rfl, _, _, .inl (SqL.of hL4), atI_ints (ns := L') (by omega : (0 : Int) ≤ (s : Int) + (0 + (t : Int))) (by omega), ?_⟩
        refine ⟨_, rfl, _, rfl, _, rfl, _, _, .inr (SqT.of (g4 _ _ hC)), atI_ints (ns := M) (by omega : (0 : Int) ≤ 0 + (t : Int)) (by omega), ?_⟩
        refine ⟨mulBd hF (Rm.Bd.getD bC _) (by have : i * 1001 ≤ 100 * 1001 := Nat.mul_le_mul_right _ (by omega); omega), _, _, rfl, rfl, ?_⟩
        refine ⟨b, _, rfl, hb, ?_⟩
        refine ⟨_, rfl, _, rfl, _, rfl, ll, _, _, s + t, rfl, rfl, hL4, ixN_of (by omega) (by rw [lL']; omega), ?_⟩
        refine ⟨_, L'.set (s + t) _, rfl, g4.upd hll0 _, (by rw [upd_ne hne]; exact hO4), (by rw [upd_same, map_set_int]), (by rw [List.length_set]; exact zL'), fun k => ?_⟩
        rw [Pm.co_set _ _ _ _ (by omega), Pm.lf_step, e2, e3, ← eL' k]
        by_cases ek : k = s + t
        · rw [if_pos ek, if_pos ek, ek]; rfl
        · rw [if_neg ek, if_neg ek]
      · rintro σ' H4 ⟨o8, L', rfl, g4, hO4, hL4, zL', eL'⟩
        rw [Int.toNat_natCast] at eL'
        refine ⟨_, _, _, O.set s f, L', rfl, g4, hO4, hL4, ?_, fun k => ?_, fun k => ?_⟩
        · rw [← hf]
          rw [← hf] at eL'
          exact I.step hM (by omega) zL' eL'
        · rw [Pm.co_set _ _ _ _ (by omega)]
          split
          · exact hF.mono (by omega)
          · exact (bO k).mono (by omega)
        · rw [eL' k]
          exact (Pm.lf_bd hb hb1 (by omega) hF bL bC k).mono (by omega)
    · rintro σ' H' ⟨o6, o7, o8, O, L, rfl, g, hO, hL, I, bO, bL⟩
      have e9 : ((n : Int) - 1 - (-1)).toNat = n := by omega
      rw [e9] at I bO bL
      rw [Nat.sub_self] at I
      refine ⟨_, rfl, lo, O, rfl, SqL.of hO, fun t1 H3 g3 h3 => ?_⟩
      refine ⟨_, rfl, ll, L, rfl, SqL.of (g3 _ _ hL), fun t2 H4 g4 h4 => ?_⟩
      refine ⟨(by show 2 ≤ sizeLine; decide), fun t ht => ?_⟩
      have gt := Same.new ht (.tup [.ref t1, .ref t2])
      have hz : 300000 + n * 1001 ≤ 500000 := by have : n * 1001 ≤ 100 * 1001 := Nat.mul_le_mul_right _ (by omega); omega
      refine q t t1 t2 (Pm.trim O) (Pm.trim L) _ (g.trans (g3.trans (g4.trans gt))) upd_same (gt _ _ (g4 _ _ h3)) (gt _ _ h4) (I.stop hM) (fun z hz' => (bd_trim bO z hz').mono hz) (fun z hz' => (bd_trim bL z hz').mono hz) ?_
      have := Pm.trim_len_le O
      have := I.ol
      omega
theorem ok_of_rule (B : Bt mg) (F : Fn K mg "of_rule" s_of_rule ["by", "rule"]) (C_taken : Cal P w K mg base "taken" 1 ["by", "number"] spTaken) : Cal P w K mg base "of_rule" 2 ["by", "rule"] spOfRule := by
  refine F.cal sc_of_rule (fun vs H Q E h => ?_) (fun f cdv A outer s H vs Q E hr h => ?_)
  · obtain ⟨b, a, c, rfl, _⟩ := h; rfl
  · obtain ⟨b, a, c, rfl, hb, hA, zA, q⟩ := h
    refine ⟨_, (pss_cons (ps_set (i := 2) sc_of_rule.nd rfl (Or.inr rfl) (pe_callB (xlen K) rfl B.b_len boot_len (pa_n (pv 1) pa_nil)))
      (pss_cons (ps_setC (i := 3) (hN := sc_of_rule.nd) (hi' := rfl) (hx := (Or.inl rfl)) (sc := cs_of_rule1) (N := ["k", "by", "length", "rule"]) (ix := [none, some 0, some 2, some 1]) (comp_mk (by kernel_rfl) (by kernel_rfl) (by kernel_rfl) (by kernel_rfl) (by kernel_rfl) (by kernel_rfl) (by kernel_rfl) (by kernel_rfl)) rfl (pi_range1 rfl B.b_range (pa_n (pv 2) pa_nil)) (fun cl C s₀ H₀ ex => ⟨(pg_name (i := 0) (show (["k", "by", "length", "rule"] : List Str).Nodup by decide +kernel) rfl (Or.inl rfl)), pif_nil, (pe_callC C_taken hr rfl (pa_n (pv 1) (pa_b (pe_op op_sub pe_int (pe_ix (xix K) (pv 3) (pe_op op_sub (pe_op op_sub (pv 2) pe_int) (pv 0)) (fun _ _ => rfl))) pa_nil)))⟩))
      (pss_one (ps_ret (pe_callTy (xtuple K) rfl B.b_tuple boot_tuple (pa_b (pe_op (xadd K) (pv 3) (pe_lst (pa_k pe_int pa_nil))) pa_nil)))))), ?_⟩
    have lC : (c.map V.int).length = c.length := List.length_map _
    refine ⟨_, rfl, .ref a, c.length, rfl, .inr ⟨_, SqT.of hA, lC.symm⟩, ?_⟩
    refine ⟨_, rfl, (c.length : Int), rfl, (by omega : -(2 ^ 62) ≤ (c.length : Int)), (by omega : (c.length : Int) < 2 ^ 62), ?_⟩
    rw [Int.toNat_natCast]
    refine comp_rng (n := c.length) (by omega) rfl (fun k => Rm.tk b (0 - Pm.co c (c.length - 1 - k))) ?_ ?_
    · intro H2 k g2 hk kk hkk
      have e1 : ((c.length : Int) - 1 - (0 + (k : Int))).toNat = c.length - 1 - k := by omega
      refine ⟨_, rfl, _, rfl, _, rfl, _, _, rfl, rfl, _, rfl, _, _, rfl, rfl, _, _, .inr (SqT.of (g2 _ _ hA)), atI_ints (ns := c) (by omega : (0 : Int) ≤ (c.length : Int) - 1 - (0 + (k : Int))) (by omega), _, _, rfl, rfl, ?_⟩
      refine ⟨b, _, rfl, hb, ?_⟩
      rw [e1]
      exact hkk
    · intro D hD
      have g1 := Same.new hD (.lst ((Pm.ofF c.length fun k => Rm.tk b (0 - Pm.co c (c.length - 1 - k))).map V.int))
      refine ⟨_, rfl, (by show 1 ≤ sizeLine; decide), fun l2 hl2 => ?_⟩
      have g2 := Same.new hl2 (.lst [.int 1])
      refine .inl ⟨_, _, g2 _ _ upd_same, upd_same, ?_, fun l3 hl3 => ?_⟩
      · rw [List.length_map, Pm.ofF_len]; exact Nat.le_of_lt (small1000 (by show _ + 1 ≤ 1000; omega))
      refine ⟨l3, _, rfl, .inl ⟨SqL.of upd_same, fun t ht => ?_⟩⟩
      refine q t _ (g1.trans (g2.trans ((Same.new hl3 _).trans (Same.new ht _)))) ?_
      rw [upd_same, Pm.ofRule, map_snoc]
theorem ok_refuse_far_jump (B : Bt mg) (F : Fn K mg "refuse_far_jump" s_refuse_far_jump ["by", "n"]) : Cal P w K mg base "refuse_far_jump" 1 ["by", "n"] spRefJ := by
  refine F.cal sc_refuse_far_jump (fun vs H Q E h => ?_) (fun f cdv A outer s H vs Q E hr h => ?_)
  · obtain ⟨b, n, rfl, _⟩ := h; rfl
  · obtain ⟨b, n, rfl, h0, h1, q⟩ := h
    refine ⟨_, (pss_one (ps_if (PW.pt (pw_or (pt_cmpR op_lt (pv 1) pe_int (nomark _)) (pw_or1 (PW.pt (pw_and (pt_cmpR (xeq K hr) (pv 0) pe_int (nomark _)) (pw_and1 (pt_cmpR op_gt (pv 1) (pe_globI rfl B.g_FARTHEST_BY_0) (nomark _))))))))
      (pss_one ps_never)
      pss_nil)), ?_⟩
    refine ⟨_, rfl, _, _, rfl, rfl, _, rfl, ?_⟩
    rw [decide_eq_false (by omega : ¬ n < 0)]
    refine iteF ?_
    refine ⟨_, rfl, _, rfl, ?_⟩
    refine ite2 (fun c => ?_) (fun c => ?_)
    · have := h1 (dec_true c)
      refine ⟨_, rfl, _, _, rfl, rfl, _, rfl, ?_⟩
      rw [decide_eq_false (by omega : ¬ n > 400)]
      exact iteF q
    · exact iteF q
theorem ok_power_left (B : Bt mg) (F : Fn K mg "power_left" s_power_left ["by", "poly", "n"]) (C_divided : Cal P w K mg base "divided" 2 ["by", "one", "other"] spDivided) (C_times : Cal P w K mg base "times" 2 ["by", "one", "other"] spTimes) : Cal P w K mg base "power_left" 3 ["by", "poly", "n"] spPower := by
  refine F.cal sc_power_left (fun vs H Q E h => ?_) (fun f cdv A outer s H vs Q E hr h => ?_)
  · obtain ⟨b, a, rule, n, rfl, _⟩ := h; rfl
  · obtain ⟨b, a, rule, n, rfl, hb, hA, hrl, hR, hn, hN, q⟩ := h
    refine ⟨_, (pss_cons (ps_set (i := 3) sc_power_left.nd rfl (Or.inl rfl) (pe_ix (xix K) (pe_callC C_divided hr rfl (pa_n (pv 0) (pa_t (pe_tup (pa_k pe_int pa_nil)) (pa_n (pv 1) pa_nil)))) pe_int (fun _ _ => rfl)))
      (pss_cons (ps_for PassesOwn.never rfl (pi_rangeD rfl B.b_range (pa_b (pe_op op_sub (xbits K (pv 2)) pe_int) (pa_u (pe_un un_neg pe_int) (pa_u (pe_un un_neg pe_int) pa_nil)))) (pg_name (i := 4) sc_power_left.nd rfl (Or.inl rfl))
      (pss_cons (ps_set (i := 5) sc_power_left.nd rfl (Or.inl rfl) (pe_callC C_times hr rfl (pa_n (pv 0) (pa_n (pv 3) (pa_n (pv 3) pa_nil)))))
      (pss_cons (ps_bar (ps_if (pt_cmpR (xeq K hr) (pe_op op_mod (pe_op op_shr (pv 2) (pv 4)) pe_int) pe_int (nomark _))
      (pss_one (ps_set (i := 5) sc_power_left.nd rfl (Or.inl rfl) (pe_callC C_times hr rfl (pa_n (pv 0) (pa_n (pv 5) (pa_t (pe_tup (pa_k pe_int (pa_k pe_int pa_nil))) pa_nil))))))
      pss_nil))
      (pss_one (ps_set (i := 3) sc_power_left.nd rfl (Or.inl rfl) (pe_ix (xix K) (pe_callC C_divided hr rfl (pa_n (pv 0) (pa_n (pv 5) (pa_n (pv 1) pa_nil)))) pe_int (fun _ _ => rfl)))))))
      (pss_one (ps_ret (pv 3))))), ?_⟩
    have hM := Pm.ofRule_mon b rule
    have lM := Pm.ofRule_len b rule
    have bM : ∀ x ∈ Pm.ofRule b rule, Rm.Bd 1000 x := fun x hx => (Pm.ofRule_bd hb.lo hb.hi (u := 67) (by decide) hR x hx).mono (by decide)
    -- what is left of one
    refine ⟨_, rfl, (by show 1 ≤ sizeLine; decide), fun t0 ht0 => ?_⟩
    have g0 := Same.new ht0 (.tup [.int 1])
    refine ⟨_, rfl, b, t0, a, [1], Pm.ofRule b rule, rfl, hb.lo, hb.hi, upd_same, g0 _ _ hA, by decide, by omega, hM, one_tk hb, fun x hx => by
      rw [List.mem_singleton.mp hx]; exact (Rm.Bd.of (n := 1) (by decide) (by decide)).mono (by decide), bM, fun t x y q1 r1 H1 g1 ht hx hy d1 bq1 br1 lq1 => ?_⟩
    refine ⟨_, _, .inr (SqT.of ht), rfl, ?_⟩
    -- the figures
    refine ⟨_, rfl, rfl, _, rfl, rfl, ?_⟩
    have hB4 : PySem.Builtin.Int.intBits (n : Int) ≤ 400 := intBits_le_iff.mpr hN
    generalize hB : PySem.Builtin.Int.intBits (n : Int) = B at hB4
    have hB0 : n / 2 ^ B = 0 := figs_lt (Nat.le_of_eq hB)
    refine ⟨_, _, rfl, rfl, _, rfl, _, rfl, (B : Int) - 1, -1, rfl, ⟨by omega, by omega, by omega, by omega⟩, ?_⟩
    refine for_down (lo := (B : Int) - 1) (n := ((B : Int) - 1 - (-1)).toNat) (fun i σ' H' => ∃ (p : Addr) (l : List Int) (o4 o5 : Option V), σ' = [some (.int b), some (.ref a), some (.int n), some (.ref p), o4, o5] ∧ Same H H' ∧ H' p = some (.tup (List.map V.int l)) ∧ Pm.Pw b rule (n / 2 ^ (B - i)) l ∧ Pm.Py b l ∧ l.length ≤ rule.length)
      ⟨y, r1, _, _, rfl, g0.trans g1, hy, ?_, d1.ry, ?_⟩ ?_ ?_
    · rw [Nat.sub_zero, hB0]
      exact (Pm.Pw.one b rule).left d1
    · have := d1.short; omega
    · rintro i σ' H' hi ⟨p, l, o4, o5, rfl, g, hp, hw, hy2, hl⟩
      have hi' : i < B := by omega
      obtain ⟨k, hk⟩ : ∃ k, B - i = k + 1 := ⟨B - i - 1, by omega⟩
      rw [hk] at hw
      have ek : B - (i + 1) = k := by omega
      have ekI : (B : Int) - 1 - (i : Int) = (k : Int) := by omega
      rw [ekI]
      have hm1 : b = 0 → n / 2 ^ (k + 1) ≤ 400 := fun z => Nat.le_trans figs_le (hn z)
      have bl := pw_bd hb hrl hR hm1 hw hy2 hl
      have bl2 : ∀ x ∈ l, Rm.Bd 1000000 x := fun x hx => (bl x hx).mono (by decide)
      refine ⟨_, rfl, _, rfl, _, rfl, b, p, p, l, l, rfl, hb.lo, hp, hp, by omega, by omega, bl2, bl2, fun p2 H2 g2 hp2 => ?_⟩
      have hw2 : Pm.Pw b rule (n / 2 ^ (k + 1) + n / 2 ^ (k + 1)) (Pm.mul b l l) := hw.mul hw
      have bD : ∀ x ∈ Pm.mul b l l, Rm.Bd 200012 x := fun x hx => (Pm.mul_bd hb.lo hb.hi (by decide) bl bl x hx).mono (by omega)
      have lD := mul_lenF b l l
      refine BarS.by (fun σ' H' => ∃ (p3 : Addr) (l3 : List Int), σ' = [some (.int b), some (.ref a), some (.int n), some (.ref p), some (.int (k : Int)), some (.ref p3)] ∧ Same H H' ∧ H' p3 = some (.tup (List.map V.int l3)) ∧ Pm.Pw b rule (n / 2 ^ k) l3 ∧ (∀ j, Rm.tk b (Pm.co l3 j) = Pm.co l3 j) ∧ l3.length ≤ 40 ∧ ∀ x ∈ l3, Rm.Bd 300000 x) (fun NN hNN => ?_) ?_
      · refine ⟨_, rfl, _, rfl, _, _, rfl, rfl, (by omega : (0 : Int) ≤ (k : Int)), _, _, rfl, rfl, (by decide : (0 : Int) < 2), _, rfl, ?_⟩
        have eshift : ((n : Int) / 2 ^ (k : Int).toNat) % 2 = ((n / 2 ^ k % 2 : Nat) : Int) := by
          rw [Int.toNat_natCast]
          norm_cast
        rw [eshift]
        have fs := figs_step n k
        refine ite2 (fun c => ?_) (fun c => ?_)
        · have c' : n / 2 ^ k % 2 = 1 := by have := dec_true c; omega
          refine ⟨_, rfl, _, rfl, (by show 2 ≤ sizeLine; decide), fun t2 ht2 => ?_⟩
          have g3 := Same.new ht2 (.tup [.int 0, .int 1])
          refine ⟨b, p2, t2, Pm.mul b l l, [0, 1], rfl, hb.lo, g3 _ _ hp2, upd_same, by omega, by decide, fun x hx => (bD x hx).mono (by decide), fun x hx => ?_, fun p4 H4 g4 hp4 => ?_⟩
          · rcases List.mem_cons.mp hx with rfl | hx
            · exact Rm.Bd.zero _
            · rw [List.mem_singleton.mp hx]; exact (Rm.Bd.of (n := 1) (by decide) (by decide)).mono (by decide)
          · refine hNN _ _ ⟨p4, _, rfl, g.trans (g2.trans (g3.trans g4)), hp4, ?_, fun j => (Pm.mul_py b _ _).co j, ?_, ?_⟩
            · have := hw2.mul (Pm.Pw.x b rule)
              rw [fs, c', show 2 * (n / 2 ^ (k + 1)) + 1 = n / 2 ^ (k + 1) + n / 2 ^ (k + 1) + 1 by omega]
              exact this
            · have := mul_lenF b (Pm.mul b l l) [0, 1]
              have e2 : ([0, 1] : List Int).length = 2 := rfl
              omega
            · intro x hx
              refine (Pm.mul_bd hb.lo hb.hi (u := 200012) (v := 2) (by decide) bD (fun x hx => ?_) x hx).mono (by omega)
              rcases List.mem_cons.mp hx with rfl | hx
              · exact Rm.Bd.zero _
              · rw [List.mem_singleton.mp hx]; exact Rm.Bd.of (by decide) (by decide)
        · have c' : n / 2 ^ k % 2 = 0 := by have := dec_false c; omega
          refine hNN _ _ ⟨p2, _, rfl, g.trans g2, hp2, ?_, fun j => (Pm.mul_py b _ _).co j, by omega, fun x hx => (bD x hx).mono (by decide)⟩
          rw [fs, c', show 2 * (n / 2 ^ (k + 1)) + 0 = n / 2 ^ (k + 1) + n / 2 ^ (k + 1) by omega]
          exact hw2
      · rintro σ' H3 ⟨p3, l3, rfl, g3, hp3, hw3, ht3, z3, b3⟩
        refine ⟨_, rfl, _, rfl, _, rfl, b, p3, a, l3, Pm.ofRule b rule, rfl, hb.lo, hb.hi, hp3, g3 _ _ hA, by omega, by omega, hM, ht3, b3, bM, fun t x y q4 r4 H4 g4 ht hx hy d4 _ _ _ => ?_⟩
        refine ⟨_, _, .inr (SqT.of ht), rfl, ?_⟩
        refine ⟨y, r4, _, _, rfl, g3.trans g4, hy, ?_, d4.ry, ?_⟩
        · rw [ek]; exact hw3.left d4
        · have := d4.short; omega
    · rintro σ' H' ⟨p, l, o4, o5, rfl, g, hp, hw, hy2, hl⟩
      have e9 : B - ((B : Int) - 1 - (-1)).toNat = 0 := by omega
      rw [e9, Nat.pow_zero, Nat.div_one] at hw
      exact ⟨_, rfl, q p H' l g hp hw hy2 hl⟩
theorem ok_jump (B : Bt mg) (F : Fn K mg "jump" s_jump ["row", "n"]) (C_refuse_far_jump : Cal P w K mg base "refuse_far_jump" 1 ["by", "n"] spRefJ) (C_power_left : Cal P w K mg base "power_left" 3 ["by", "poly", "n"] spPower) (C_of_rule : Cal P w K mg base "of_rule" 2 ["by", "rule"] spOfRule) (C_number_at : Cal P w K mg base "number_at" 1 ["poly", "k"] spNumAt) : Cal P w K mg base "jump" 4 ["row", "n"] spJump := by
  refine F.cal sc_jump (fun vs H Q E h => ?_) (fun f cdv A outer s H vs Q E hr h => ?_)
  · obtain ⟨v, r, n, rfl, _⟩ := h; rfl
  · obtain ⟨v, r, n, rfl, ⟨a, p, p2, rfl, hA, hR, hS⟩, ok, hn, hN, q⟩ := h
    refine ⟨_, (pss_cons (ps_set (i := 2) sc_jump.nd rfl (Or.inl rfl) (pe_ix (xix K) (pv 0) pe_int (fun _ _ => rfl)))
      (pss_cons (ps_set (i := 3) sc_jump.nd rfl (Or.inl rfl) (pe_ix (xix K) (pv 0) pe_int (fun _ _ => rfl)))
      (pss_cons (ps_expr (pe_callC C_refuse_far_jump hr rfl (pa_n (pv 2) (pa_n (pv 1) pa_nil))))
      (pss_cons (ps_set (i := 4) sc_jump.nd rfl (Or.inr rfl) (pe_callC C_power_left hr rfl (pa_n (pv 2) (pa_cons (pe_callC C_of_rule hr rfl (pa_n (pv 2) (pa_n (pv 3) pa_nil))) (pa_n (pv 1) pa_nil)))))
      (pss_one (ps_ret (pe_callTy (xtuple K) rfl B.b_tuple boot_tuple (pa_cons (pe_comp (sc := cs_jump1) (N := ["i", "left"]) (ix := [none, some 4]) (comp_mk (by kernel_rfl) (by kernel_rfl) (by kernel_rfl) (by kernel_rfl) (by kernel_rfl) (by kernel_rfl) (by kernel_rfl) (by kernel_rfl)) rfl (pi_range1 rfl B.b_range (pa_cons (pe_callB (xlen K) rfl B.b_len boot_len (pa_n (pv 3) pa_nil)) pa_nil)) (fun cl C s₀ H₀ ex => ⟨(pg_name (i := 0) (show (["i", "left"] : List Str).Nodup by decide +kernel) rfl (Or.inl rfl)), pif_nil, (pe_callC C_number_at hr rfl (pa_n (pv 1) (pa_n (pv 0) pa_nil)))⟩)) pa_nil)))))))), ?_⟩
    have hb := ok.byF
    have hl := ok.ok.short
    refine ⟨_, rfl, _, _, .inr (SqT.of hA), rfl, ?_⟩
    refine ⟨_, rfl, _, _, .inr (SqT.of hA), rfl, ?_⟩
    refine ⟨_, rfl, _, rfl, r.b, n, rfl, by omega, fun z => by have := hn z; omega, ?_⟩
    refine ⟨_, rfl, _, rfl, _, rfl, r.b, p, r.rule, rfl, hb.lo, hR, by omega, fun t1 H1 g1 h1 => ?_⟩
    refine ⟨_, rfl, r.b, t1, r.rule, n, rfl, hb, h1, hl, ok.bd, hn, hN, fun t2 H2 l g2 h2 hw hy hz => ?_⟩
    have g12 := g1.trans g2
    refine ⟨_, rfl, .ref p, r.rule.length, rfl, .inr ⟨_, SqT.of (g12 _ _ hR), (List.length_map _).symm⟩, ?_⟩
    refine ⟨(r.rule.length : Int), rfl, (by omega : -(2 ^ 62) ≤ (r.rule.length : Int)), (by omega : (r.rule.length : Int) < 2 ^ 62), ?_⟩
    rw [Int.toNat_natCast]
    refine comp_rng (n := r.rule.length) (by omega) rfl (fun j => Pm.ej r.b r.rule j n) ?_ ?_
    · intro H3 k g3 hk kk hkk
      refine ⟨_, rfl, _, rfl, t2, l, 0 + (k : Int), rfl, g3 _ _ h2, by omega, ?_⟩
      rw [show (0 + (k : Int)).toNat = k by omega, hw.co hb.one hy hz hk]
      exact hkk
    · intro D hD
      refine ⟨D, _, rfl, .inl ⟨SqL.of upd_same, fun t ht => ?_⟩⟩
      exact q t _ (g12.trans ((Same.new hD _).trans (Same.new ht _))) upd_same
theorem ok_sum_at (B : Bt mg) (F : Fn K mg "sum_at" s_sum_at ["by", "poly", "found", "n"]) (C_taken : Cal P w K mg base "taken" 1 ["by", "number"] spTaken) : Cal P w K mg base "sum_at" 2 ["by", "poly", "found", "n"] spSumAt := by
  refine F.cal sc_sum_at (fun vs H Q E h => ?_) (fun f cdv A outer s H vs Q E hr h => ?_)
  · obtain ⟨b, a, l, p, f, n, rfl, _⟩ := h; rfl
  · obtain ⟨b, a, l, p, fo, n, rfl, hb, hA, hL, hn, zA, bA, bF, q⟩ := h
    refine ⟨_, (pss_one (ps_ret (pe_callC C_taken hr rfl (pa_n (pv 0) (pa_cons (pe_callB (xsum K rfl) rfl B.b_sum boot_sum (pa_cons (pe_comp (sc := cs_sum_at1) (N := ["k", "found", "n", "poly"]) (ix := [none, some 2, some 3, some 1]) (comp_mk (by kernel_rfl) (by kernel_rfl) (by kernel_rfl) (by kernel_rfl) (by kernel_rfl) (by kernel_rfl) (by kernel_rfl) (by kernel_rfl)) rfl (pi_range1 rfl B.b_range (pa_cons (pe_callB (xlen K) rfl B.b_len boot_len (pa_n (pv 1) pa_nil)) pa_nil)) (fun cl C s₀ H₀ ex => ⟨(pg_name (i := 0) (show (["k", "found", "n", "poly"] : List Str).Nodup by decide +kernel) rfl (Or.inl rfl)), pif_nil, (pe_op v_mul (pe_ix (xix K) (pv 3) (pv 0) (fun _ _ => rfl)) (pe_ix (xix K) (pv 1) (pe_op (xadd K) (pv 2) (pv 0)) (fun _ _ => rfl)))⟩)) pa_nil)) pa_nil))))), ?_⟩
    have lC : (p.map V.int).length = p.length := List.length_map _
    refine ⟨_, rfl, _, rfl, .ref a, p.length, rfl, .inr ⟨_, SqT.of hA, lC.symm⟩, ?_⟩
    refine ⟨(p.length : Int), rfl, (by omega : -(2 ^ 62) ≤ (p.length : Int)), (by omega : (p.length : Int) < 2 ^ 62), ?_⟩
    rw [Int.toNat_natCast]
    refine comp_rng (n := p.length) zA rfl (fun k => Pm.co p k * Pm.co fo (n + k)) ?_ ?_
    · intro H2 k g2 hk kk hkk
      have e1 : (0 + (k : Int)).toNat = k := by omega
      have e2 : (0 + (n : Int) + (0 + (k : Int))).toNat = n + k := by omega
      refine ⟨_, rfl, _, rfl, _, _, .inr (SqT.of (g2 _ _ hA)), atI_ints (ns := p) (by omega : (0 : Int) ≤ 0 + (k : Int)) (by omega), ?_⟩
      refine ⟨_, rfl, _, rfl, _, rfl, _, _, hL.imp (fun z => SqL.of (g2 _ _ z)) (fun z => SqT.of (g2 _ _ z)), atI_ints (ns := fo) (by omega : (0 : Int) ≤ 0 + (n : Int) + (0 + (k : Int))) (by omega), ?_⟩
      refine ⟨mulBd (Rm.Bd.getD bA _) (Rm.Bd.getD bF _) (by decide), ?_⟩
      rw [e1, e2]
      exact hkk
    · intro D hD
      refine ⟨D, _, rfl, SqL.of upd_same, b, _, rfl, hb, ?_⟩
      have := q _ (Same.new hD (.lst ((Pm.ofF p.length fun k => Pm.co p k * Pm.co fo (n + k)).map V.int)))
      unfold Pm.ks at this
      rw [Pm.ofF, Pm.list_sum]
      exact this
theorem ok_place_at (B : Bt mg) (F : Fn K mg "place_at" s_place_at ["row", "n"]) (C_sum_at : Cal P w K mg base "sum_at" 2 ["by", "poly", "found", "n"] spSumAt) (C_jump : Cal P w K mg base "jump" 4 ["row", "n"] spJump) : Cal P w K mg base "place_at" 5 ["row", "n"] spPlaceAt := by
  refine F.cal sc_place_at (fun vs H Q E h => ?_) (fun f cdv A outer s H vs Q E hr h => ?_)
  · obtain ⟨v, r, n, rfl, _⟩ := h; rfl
  · obtain ⟨v, r, n, rfl, hR, ok, hn, hN, q⟩ := h
    refine ⟨_, (pss_one (ps_ret (pe_callC C_sum_at hr rfl (pa_cons (pe_ix (xix K) (pv 0) pe_int (fun _ _ => rfl)) (pa_cons (pe_callC C_jump hr rfl (pa_n (pv 0) (pa_n (pv 1) pa_nil))) (pa_cons (pe_ix (xix K) (pv 0) pe_int (fun _ _ => rfl)) (pa_k pe_int pa_nil))))))), ?_⟩
    obtain ⟨a, p, p2, rfl, hA, hP, hS⟩ := id hR
    have hsh := ok.ok.short
    have hl := ok.ok.len
    refine ⟨_, rfl, _, _, .inr (SqT.of hA), rfl, ?_⟩
    refine ⟨_, rfl, _, rfl, .ref a, r, n, rfl, hR, ok, hn, hN, fun tj H1 g1 hj => ?_⟩
    refine ⟨_, rfl, _, _, .inr (SqT.of (g1 _ _ hA)), rfl, ?_⟩
    refine ⟨r.b, tj, p2, Pm.rest r.b r.rule n, r.starts, 0, rfl, ok.ok.by0, hj, .inr (g1 _ _ hS), by rw [Pm.rest_len]; omega, by rw [Pm.rest_len]; omega, fun x hx => (ok.rest_bd (fun z => by have := hn z; omega) x hx).mono (by decide), fun x hx => (ok.ok.startsBd x hx).mono (by decide), fun H2 g2 => ?_⟩
    rw [← ok.row_starts, ok.sum_at n 0 r.rule.length (by omega), Nat.zero_add]
    exact q _ (g1.trans g2)
theorem ok_Lcell_at (B : Bt mg) (F : Fn K mg "_law_cell_at" s_Lcell_at ["_law_script", "_law_k"]) : Cal P w K mg base "_law_cell_at" 1 ["_law_script", "_law_k"] (spCellF K) := by
  refine F.cal sc_Lcell_at (fun vs H Q E h => ?_) (fun f cdv A outer s H vs Q E hr h => ?_)
  · obtain ⟨a, ns, k, rfl, _⟩ := h; rfl
  · obtain ⟨a, ns, k, rfl, hS, h0, h1, hB, q⟩ := h
    refine ⟨_, (pss_cons (ps_if (pt_cmpR op_lt (pv 1) (pe_callB (xlen K) rfl B.b_len boot_len (pa_n (pv 0) pa_nil)) (nomark _))
      (pss_one (ps_ret (pe_ix (xix K) (pv 0) (pv 1) (fun _ _ => rfl))))
      pss_nil)
      (pss_one (ps_ret (pe_op v_mul (pe_op (xadd K) (pe_op v_mul (pv 1) pe_int) pe_int) (pe_op (xadd K) (pv 1) pe_int))))), ?_⟩
    have hl : (ns.map V.int).length = ns.length := List.length_map _
    refine ⟨_, rfl, _, rfl, .ref a, ns.length, rfl, .inl ⟨_, hS, hl.symm⟩, _, _, rfl, rfl, _, rfl, ?_⟩
    refine ite2 (fun c => ?_) (fun c => ?_)
    · have c' : k < (ns.length : Int) := dec_true c
      refine ⟨_, rfl, _, rfl, ns.map V.int, .int (ns.getD k.toNat 0), .inl hS, atI_ints h0 c', q _ ?_⟩
      exact intBits_le_iff.mp (hB _ (Pm.co_mem (by omega)))
    · refine ⟨_, rfl, mulR (by decide) (by decide), _, rfl, mulR (by show -(2 ^ 64) < k + 31; omega) (by show k + 31 < 2 ^ 64; omega), q _ ?_⟩
      refine (Rm.Bd.mul (m := 40) (n := 40) (Rm.Bd.of (by omega) (by omega)) (Rm.Bd.of (by omega) (by omega))).mono (by decide)
theorem ok_Lmix (B : Bt mg) (F : Fn K mg "_law_mix" s_Lmix ["_law_cell", "_law_k"]) : Cal P w K mg base "_law_mix" 1 ["_law_cell", "_law_k"] spMixF := by
  refine F.cal sc_Lmix (fun vs H Q E h => ?_) (fun f cdv A outer s H vs Q E hr h => ?_)
  · obtain ⟨c, k, rfl, _⟩ := h; rfl
  · obtain ⟨c, k, rfl, h0, h1, q⟩ := h
    refine ⟨_, (pss_cons (ps_set (i := 2) sc_Lmix.nd rfl (Or.inl rfl) (pe_op op_mod (pe_op (xadd K) (pe_op v_mul (pe_op (xadd K) (pe_op op_mod (pv 0) pe_int) pe_int) (pe_op (xadd K) (pe_op (xadd K) pe_int (pe_op v_mul pe_int (pv 1))) (pe_op v_mul (pe_op v_mul pe_int (pv 1)) (pv 1)))) (pv 1)) pe_int))
      (pss_cons (ps_set (i := 2) sc_Lmix.nd rfl (Or.inl rfl) (pe_op op_mod (pe_op v_mul (pv 2) (pv 2)) pe_int))
      (pss_one (ps_ret (pe_op op_fdiv (pe_op op_mod (pe_op v_mul (pv 2) (pe_op (xadd K) (pe_op (xadd K) (pv 2) (pv 1)) pe_int)) pe_int) pe_int))))), ?_⟩
    have b1 : 0 ≤ c % 2147483629 := emod_lo _ (by decide)
    have b2 : c % 2147483629 < 2147483629 := emod_hi _ (by decide)
    refine ⟨_, rfl, _, _, rfl, rfl, (by decide : (0 : Int) < 2147483629), ?_⟩
    refine ⟨_, rfl, mulL (by decide) (by decide), _, rfl, mulL (by decide) (by decide), _, rfl, mulR (by omega) (by omega), ?_⟩
    refine ⟨mulL (by show -(2 ^ 64) < c % 2147483629 + 1; omega) (by show c % 2147483629 + 1 < 2 ^ 64; omega), _, rfl, _, _, rfl, rfl, (by decide : (0 : Int) < 2147483647), ?_⟩
    dsimp only
    have m0 := emod_lo ((c % 2147483629 + 1) * (48271 + 69621 * k + 2 * k * k) + k) (show (0 : Int) < 2147483647 by decide)
    have m1 := emod_hi ((c % 2147483629 + 1) * (48271 + 69621 * k + 2 * k * k) + k) (show (0 : Int) < 2147483647 by decide)
    generalize ((c % 2147483629 + 1) * (48271 + 69621 * k + 2 * k * k) + k) % 2147483647 = y at m0 m1
    refine ⟨_, rfl, _, rfl, mulL (by omega) (by omega), _, _, rfl, rfl, (by decide : (0 : Int) < 2147483629), ?_⟩
    dsimp only
    have n0 := emod_lo (y * y) (show (0 : Int) < 2147483629 by decide)
    have n1 := emod_hi (y * y) (show (0 : Int) < 2147483629 by decide)
    generalize y * y % 2147483629 = z at n0 n1
    refine ⟨_, rfl, _, rfl, _, rfl, mulL (by omega) (by omega), _, _, rfl, rfl, (by decide : (0 : Int) < 2147483587), _, _, rfl, rfl, ⟨by decide, by decide⟩, ?_⟩
    have l0 := emod_lo (z * (z + k + 1)) (show (0 : Int) < 2147483587 by decide)
    have l1 := emod_hi (z * (z + k + 1)) (show (0 : Int) < 2147483587 by decide)
    generalize hw : z * (z + k + 1) % 2147483587 = w at l0 l1
    exact q _ (by omega) (by omega)
theorem ok_Ldrawn_by (B : Bt mg) (F : Fn K mg "_law_drawn_by" s_Ldrawn_by ["_law_cell"]) (C_Lmix : Cal P w K mg base "_law_mix" 1 ["_law_cell", "_law_k"] spMixF) : Cal P w K mg base "_law_drawn_by" 2 ["_law_cell"] spByF := by
  refine F.cal sc_Ldrawn_by (fun vs H Q E h => ?_) (fun f cdv A outer s H vs Q E hr h => ?_)
  · obtain ⟨c, rfl, _⟩ := h; rfl
  · obtain ⟨c, rfl, q⟩ := h
    refine ⟨_, (pss_one (ps_ret (pe_ix (xix K) (pe_lst (pa_k pe_int (pa_k pe_int (pa_k pe_int (pa_k pe_int (pa_k pe_int (pa_k pe_int (pa_k pe_int (pa_k pe_int (pa_k pe_int (pa_k pe_int pa_nil))))))))))) (pe_op op_mod (pe_callC C_Lmix hr rfl (pa_n (pv 0) (pa_k pe_int pa_nil))) pe_int) (fun _ _ => rfl)))), ?_⟩
    refine ⟨(by show 10 ≤ sizeLine; decide), fun p hp => ?_⟩
    refine ⟨_, rfl, c, 1, rfl, by decide, by decide, fun x h0 h1 => ?_⟩
    have e0 := emod_lo x (show (0 : Int) < 10 by decide)
    have e1 := emod_hi x (show (0 : Int) < 10 by decide)
    refine ⟨_, _, rfl, rfl, (by decide : (0 : Int) < 10), _, _, .inl (SqL.of upd_same), atI_ints (ns := byF) e0 e1, ?_⟩
    have := byF_ok (x % 10).toNat (by omega)
    exact q _ _ (Same.new hp _) ⟨this.1, this.2.1, this.2.2⟩
theorem ok_Ltaken (B : Bt mg) (F : Fn K mg "_law_taken" s_Ltaken ["_law_by", "_law_number"]) : Cal P w K mg base "_law_taken" 1 ["_law_by", "_law_number"] spTaken := by
  refine F.cal sc_Ltaken (fun vs H Q E h => ?_) (fun f cdv A outer s H vs Q E hr h => ?_)
  · obtain ⟨b, n, rfl, _⟩ := h; rfl
  · obtain ⟨b, n, rfl, h0, q⟩ := h
    refine ⟨_, (pss_cons (ps_if (pt_cmpR (xeq K hr) (pv 0) pe_int (nomark _))
      (pss_one (ps_ret (pv 1)))
      pss_nil)
      (pss_one (ps_ret (pe_op op_mod (pv 1) (pv 0))))), ?_⟩
    refine ⟨_, rfl, _, rfl, ?_⟩
    refine ite2 (fun c => ?_) (fun c => ?_)
    · refine ⟨_, rfl, ?_⟩
      have c' : b = 0 := dec_true c
      have e : Rm.tk b n = n := by rw [c', Rm.tk_zero]
      rw [e] at q; exact q
    · have c' : ¬ b = 0 := dec_false c
      refine ⟨_, rfl, _, rfl, _, _, rfl, rfl, (by omega : (0 : Int) < b), ?_⟩
      rw [Rm.tk_pos c'] at q; exact q
theorem ok_Lone_number (B : Bt mg) (F : Fn K mg "_law_one_number" s_Lone_number ["_law_by", "_law_cell", "_law_k"]) (C_Lmix : Cal P w K mg base "_law_mix" 1 ["_law_cell", "_law_k"] spMixF) (C_Ltaken : Cal P w K mg base "_law_taken" 1 ["_law_by", "_law_number"] spTaken) : Cal P w K mg base "_law_one_number" 2 ["_law_by", "_law_cell", "_law_k"] spOneF := by
  refine F.cal sc_Lone_number (fun vs H Q E h => ?_) (fun f cdv A outer s H vs Q E hr h => ?_)
  · obtain ⟨b, c, k, rfl, _⟩ := h; rfl
  · obtain ⟨b, c, k, rfl, hb, hc, h0, h1, q⟩ := h
    refine ⟨_, (pss_cons (ps_set (i := 3) sc_Lone_number.nd rfl (Or.inl rfl) (pe_op op_sub (pe_op (xadd K) (pe_op op_mod (pe_op v_mul (pe_op (xadd K) (pv 1) pe_int) (pe_op op_pow (pe_op (xadd K) (pv 2) pe_int) pe_int)) (pe_op op_sub (pe_op v_mul pe_int (pe_op op_pow pe_int pe_int)) pe_int)) pe_int) (pe_op op_pow pe_int pe_int)))
      (pss_cons (ps_set (i := 4) sc_Lone_number.nd rfl (Or.inl rfl) (pe_ix (xix K) (pe_lst (pa_k pe_int (pa_k pe_int (pa_u (pe_un un_neg pe_int) (pa_k pe_int (pa_k pe_int (pa_u (pe_un un_neg pe_int) (pa_k pe_int (pa_k pe_int (pa_k pe_int (pa_k pe_int pa_nil))))))))))) (pe_op op_mod (pe_callC C_Lmix hr rfl (pa_n (pv 1) (pa_b (pe_op (xadd K) pe_int (pv 2)) pa_nil))) pe_int) (fun _ _ => rfl)))
      (pss_one (ps_ret (pe_callC C_Ltaken hr rfl (pa_n (pv 0) (pa_cons (pe_ix (xix K) (pe_lst (pa_n (pv 4) (pa_n (pv 3) pa_nil))) (pe_callTy call_int1 rfl B.b_int boot_int (pa_cons (pe_or (pe_cmpR op_gt (pv 0) pe_int (nomark _)) (pe_one (pe_and (pe_cmpR op_gt (pv 2) pe_int (nomark _)) (pe_one (pe_cmpR (xeq K hr) (pe_op op_mod (pe_callC C_Lmix hr rfl (pa_n (pv 1) (pa_b (pe_op (xadd K) pe_int (pv 2)) pa_nil))) pe_int) pe_int (nomark _)))))) pa_nil)) (fun _ _ => rfl)) pa_nil))))))), ?_⟩
    have hp7 : Rm.Bd (6 * 7 + 1) ((k + 3) ^ 7) := Bd_pow (Rm.Bd.of (by omega) (by omega)) 7
    refine ⟨_, rfl, _, rfl, _, _, rfl, rfl, ⟨by decide, by decide, by show (k + 3).natAbs < 2 ^ 64; omega⟩, mulBd (m := 1048577) (n := 43) (Rm.Bd.add hc ((Rm.Bd.of (n := 1) (by decide) (by decide)).mono (by decide))) hp7 (by decide), ?_⟩
    refine ⟨_, _, rfl, rfl, ⟨by decide, by decide, by decide⟩, mulL (by decide) (by decide), _, _, rfl, rfl, _, _, rfl, rfl, (by decide : (0 : Int) < 2 * 10 ^ (9 : Int).toNat - 1), ?_⟩
    refine ⟨_, _, rfl, rfl, ⟨by decide, by decide, by decide⟩, _, _, rfl, rfl, ?_⟩
    dsimp only
    have f0 := emod_lo ((c + 1) * (k + 3) ^ (7 : Int).toNat) (show (0 : Int) < 2 * 10 ^ (9 : Int).toNat - 1 by decide)
    have f1 := emod_hi ((c + 1) * (k + 3) ^ (7 : Int).toNat) (show (0 : Int) < 2 * 10 ^ (9 : Int).toNat - 1 by decide)
    have ef : (2 * 10 ^ (9 : Int).toNat - 1 : Int) = 1999999999 := by decide
    have eg : (10 ^ (9 : Int).toNat : Int) = 1000000000 := by decide
    generalize hfar : (c + 1) * (k + 3) ^ (7 : Int).toNat % (2 * 10 ^ (9 : Int).toNat - 1) + 1 - 10 ^ (9 : Int).toNat = far
    have bfar : Rm.Bd 31 far := by
      rw [ef] at f0 f1 hfar
      rw [eg] at hfar
      generalize (c + 1) * (k + 3) ^ (7 : Int).toNat % 1999999999 = w at f0 f1 hfar
      exact Rm.Bd.of (by omega) (by omega)
    clear f0 f1 hfar
    refine ⟨_, rfl, _, rfl, (by show 10 ≤ sizeLine; decide), fun p hp => ?_⟩
    refine ⟨_, rfl, _, rfl, c, 20 + k, rfl, by omega, by omega, fun x x0 x1 => ?_⟩
    have e0 := emod_lo x (show (0 : Int) < 10 by decide)
    have e1 := emod_hi x (show (0 : Int) < 10 by decide)
    refine ⟨_, _, rfl, rfl, (by decide : (0 : Int) < 10), _, _, .inl (SqL.of upd_same), atI_ints (ns := smallF) e0 e1, ?_⟩
    have bs := smallF_ok (x % 10).toNat (by omega)
    generalize smallF.getD (x % 10).toNat 0 = sm at bs
    have bsm : Rm.Bd 31 sm := Rm.Bd.of (by omega) (by omega)
    have g1 := Same.new hp (.lst ([.int 0, .int 1, .int (-1), .int 2, .int 1, .int (-2), .int 3, .int 0, .int 1, .int 5]))
    generalize upd H p (.lst ([.int 0, .int 1, .int (-1), .int 2, .int 1, .int (-2), .int 3, .int 0, .int 1, .int 5])) = H1 at g1
    refine ⟨_, rfl, _, rfl, _, rfl, (by show 2 ≤ sizeLine; decide), fun p2 hp2 => ?_⟩
    have g2 := Same.new hp2 (.lst [.int sm, .int far])
    have g12 := g1.trans g2
    have hL : (upd H1 p2 (.lst [.int sm, .int far])) p2 = some (.lst ([sm, far].map V.int)) := upd_same
    generalize upd H1 p2 (.lst [.int sm, .int far]) = H2 at g2 g12 hL
    have fin0 : ∀ x, Rm.Bd 31 x → Q (.int (Rm.tk b x)) H2 := fun x hx => q _ _ g12 (tk_num hb.lo x) (tk_bdF hb (by decide) hx)
    have fin : ∀ t : Bool, ∃ xs v, (SqL K H2 p2 xs ∨ SqT K H2 p2 xs) ∧ atI xs (if t = true then 1 else 0) = some v ∧ ∃ b' n, [V.int b, v] = [.int b', .int n] ∧ 0 ≤ b' ∧ Q (.int (Rm.tk b' n)) H2 := fun t => by
      cases t
      · exact ⟨_, _, .inl (SqL.of hL), atI_ints (ns := [sm, far]) (by decide) (by show (0 : Int) < 2; decide), b, _, rfl, hb.lo, fin0 _ bsm⟩
      · exact ⟨_, _, .inl (SqL.of hL), atI_ints (ns := [sm, far]) (by decide) (by show (1 : Int) < 2; decide), b, _, rfl, hb.lo, fin0 _ bfar⟩
    refine ⟨_, rfl, _, _, rfl, rfl, _, rfl, ?_⟩
    refine ite2 (fun _ => .inr ⟨_, rfl, fin true⟩) (fun _ => ?_)
    refine ⟨_, rfl, _, _, rfl, rfl, _, rfl, ?_⟩
    refine ite2 (fun _ => ?_) (fun _ => .inr ⟨_, rfl, fin false⟩)
    refine ⟨_, rfl, _, rfl, c, 50 + k, rfl, by omega, by omega, fun x2 _ _ => ?_⟩
    refine ⟨_, _, rfl, rfl, (by decide : (0 : Int) < 7), ?_⟩
    exact .inr ⟨_, rfl, fin _⟩
theorem ok_Lplaces (B : Bt mg) (F : Fn K mg "_law_places" s_Lplaces ["_law_row", "_law_count"]) (C_Ltaken : Cal P w K mg base "_law_taken" 1 ["_law_by", "_law_number"] spTaken) : Cal P w K mg base "_law_places" 2 ["_law_row", "_law_count"] spPlacesF := by
  refine F.cal sc_Lplaces (fun vs H Q E h => ?_) (fun f cdv A outer s H vs Q E hr h => ?_)
  · obtain ⟨v, r, c, rfl, _⟩ := h; rfl
  · obtain ⟨v, r, c, rfl, ⟨a, p, p2, rfl, hA, hR, hS⟩, ok, hc0, hc1, q⟩ := h
    refine ⟨_, (pss_cons (ps_asg (pv 0) (xgtup K (n := 3) rfl (pgs_cons (pg_name (i := 2) sc_Lplaces.nd rfl (Or.inl rfl)) (pgs_cons (pg_name (i := 3) sc_Lplaces.nd rfl (Or.inr rfl)) (pgs_cons (pg_name (i := 4) sc_Lplaces.nd rfl (Or.inl rfl)) pgs_nil)))))
      (pss_cons (ps_set (i := 5) sc_Lplaces.nd rfl (Or.inr rfl) (pe_bar (pe_callTy (xlist K) rfl B.b_list boot_list (pa_cons (pe_slice (xsl K) (pv 4) po_none (po_some (pv 1))) pa_nil))))
      (pss_cons (ps_while PassesOwn.never (pt_cmpR op_lt (pe_callB (xlen K) rfl B.b_len boot_len (pa_n (pv 5) pa_nil)) (pv 1) (nomark _))
      (pss_cons (ps_set (i := 6) sc_Lplaces.nd rfl (Or.inl rfl) (pe_callB (xsum K rfl) rfl B.b_sum boot_sum (pa_cons (pe_comp (sc := cs_Lplaces1) (N := ["_law_k", "_law_found", "_law_rule"]) (ix := [none, some 5, some 3]) (comp_mk (by kernel_rfl) (by kernel_rfl) (by kernel_rfl) (by kernel_rfl) (by kernel_rfl) (by kernel_rfl) (by kernel_rfl) (by kernel_rfl)) rfl (pi_range1 rfl B.b_range (pa_cons (pe_callB (xlen K) rfl B.b_len boot_len (pa_n (pv 3) pa_nil)) pa_nil)) (fun cl C s₀ H₀ ex => ⟨(pg_name (i := 0) (show (["_law_k", "_law_found", "_law_rule"] : List Str).Nodup by decide +kernel) rfl (Or.inl rfl)), pif_nil, (pe_op v_mul (pe_ix (xix K) (pv 2) (pv 0) (fun _ _ => rfl)) (pe_ix (xix K) (pv 1) (pe_op op_sub (pe_un un_neg pe_int) (pv 0)) (fun _ _ => rfl)))⟩)) pa_nil)))
      (pss_one (ps_expr (xappend K (pv 5) (pe_callC C_Ltaken hr rfl (pa_n (pv 2) (pa_n (pv 6) pa_nil))))))))
      (pss_one (ps_ret (pv 5)))))), ?_⟩
    have hl := ok.len
    have hl2 := ok.short
    have lS : (r.starts.map V.int).length = r.starts.length := List.length_map _
    have lR : (r.rule.map V.int).length = r.rule.length := List.length_map _
    refine ⟨_, rfl, a, _, rfl, SqT.of hA, rfl, _, _, rfl, _, _, rfl, _, _, rfl, rfl, ?_⟩
    have hcut : cutV (r.starts.map V.int) none (some c) = (r.row (min c.toNat r.starts.length)).map V.int := by
      have e : r.row (min c.toNat r.starts.length) = r.starts.take (min c.toNat r.starts.length) := Rm.row_starts (Nat.min_le_right _ _)
      rw [e]
      have e2 : c = ((c.toNat : Nat) : Int) := by omega
      unfold cutV
      rw [e2, HT.sIx_nat, HT.sIx_none, List.drop_zero, Nat.sub_zero, lS, List.map_take, Int.toNat_natCast]
    refine Bar.by (fun v H1 => ∃ l, v = .ref l ∧ Same H H1 ∧ H l = none ∧ H1 l = some (.lst ((r.row (min c.toNat r.starts.length)).map V.int))) (fun kk hkk => ?_) ?_
    · refine ⟨_, rfl, _, rfl, _, rfl, ?_⟩
      by_cases hw : r.starts.length ≤ c.toNat
      · refine .inr (.inr ⟨_, SqT.of hS, ?_, ?_⟩)
        · have e2 : c = ((c.toNat : Nat) : Int) := by omega
          rw [e2, HT.sIx_nat, HT.sIx_none, lS]; omega
        · refine ⟨p2, _, rfl, .inr (SqT.of hS), fun l hl1 => hkk _ _ ⟨l, rfl, Same.new hl1 _, hl1, ?_⟩⟩
          rw [upd_same, Nat.min_eq_right hw]
          have e : r.row r.starts.length = r.starts := (Rm.row_starts (Nat.le_refl _)).trans (List.take_length ..)
          rw [e]
      · refine .inr (.inl ⟨_, SqT.of hS, ?_, fun p3 hp3 => ?_⟩)
        · have e2 : c = ((c.toNat : Nat) : Int) := by omega
          rw [e2, HT.sIx_nat, HT.sIx_none, lS]; omega
        · refine ⟨p3, _, rfl, .inr (SqT.of upd_same), fun l hl1 => ?_⟩
          have g3 := Same.new hp3 (.tup (cutV (r.starts.map V.int) none (some c)))
          refine hkk _ _ ⟨l, rfl, g3.trans (Same.new hl1 _), g3.free hl1, ?_⟩
          rw [upd_same, hcut]
    rintro v H1 ⟨l, rfl, g1, hl1, hr1⟩
    refine ⟨fun m σ' H' => ∃ (n : Nat) (o6 : Option V), m = c.toNat - n ∧ min c.toNat r.starts.length ≤ n ∧ n ≤ c.toNat ∧ σ' = [some (.ref a), some (.int c), some (.int r.b), some (.ref p), some (.ref p2), some (.ref l), o6] ∧ Same H H' ∧ H' l = some (.lst ((r.row n).map V.int)),
      ⟨_, min c.toNat r.starts.length, _, rfl, Nat.le_refl _, Nat.min_le_left _ _, rfl, g1, hr1⟩, ?_⟩
    rintro m σ' H' ⟨n, o6, rfl, h1, h2, rfl, g, hL⟩
    have lL : ((r.row n).map V.int).length = n := by rw [List.length_map, Rw.row_len]
    have lN : (r.row n).length = n := Rw.row_len ..
    refine ⟨_, rfl, .ref l, n, rfl, .inl ⟨_, SqL.of hL, lL.symm⟩, _, rfl, _, _, rfl, rfl, _, rfl, ?_⟩
    refine ite2 (fun cc => ?_) (fun cc => ?_)
    · have hn : n < c.toNat := by have := dec_true cc; omega
      refine ⟨_, fun _ _ z => z, ?_⟩
      refine ⟨_, rfl, .ref p, r.rule.length, rfl, .inr ⟨_, SqT.of (g _ _ hR), lR.symm⟩, ?_⟩
      refine ⟨(r.rule.length : Int), rfl, (by omega : -(2 ^ 62) ≤ (r.rule.length : Int)), (by omega : (r.rule.length : Int) < 2 ^ 62), ?_⟩
      rw [Int.toNat_natCast]
      refine comp_rng (n := r.rule.length) (by omega) rfl (fun k => r.rule.getD k 0 * (r.row n).getD (n - 1 - k) 0) ?_ ?_
      · intro H2 k g2 hk kk hkk
        refine ⟨_, rfl, _, rfl, _, _, .inr (SqT.of (g2 _ _ (g _ _ hR))), atI_ints (ns := r.rule) (by omega : (0 : Int) ≤ 0 + (k : Int)) (by omega), ?_⟩
        refine ⟨_, rfl, _, rfl, _, rfl, _, _, rfl, rfl, _, _, .inl (SqL.of (g2 _ _ hL)), atI_back (ns := r.row n) (n - 1 - k) (by omega) (by rw [lN]; omega), ?_⟩
        refine ⟨mulBd (Rm.Bd.getD ok.ruleBd _) (Rm.Bd.getD (ok.rowBd n (by omega)) _) (by decide), ?_⟩
        rw [show (0 + (k : Int)).toNat = k by omega]
        exact hkk
      · intro D hD
        have gD := Same.new hD (.lst ((Pm.ofF r.rule.length fun k => r.rule.getD k 0 * (r.row n).getD (n - 1 - k) 0).map V.int))
        refine ⟨D, _, rfl, SqL.of upd_same, ?_⟩
        have es : (Pm.ofF r.rule.length fun k => r.rule.getD k 0 * (r.row n).getD (n - 1 - k) 0).sum = Rm.S r.rule (fun i => (r.row n).getD i 0) n r.rule.length := sum_S r.rule (fun i => (r.row n).getD i 0) n r.rule.length
        rw [es]
        have hL3 := gD _ _ hL
        generalize upd H' D (.lst ((Pm.ofF r.rule.length fun k => r.rule.getD k 0 * (r.row n).getD (n - 1 - k) 0).map V.int)) = H3 at gD hL3
        refine ⟨_, rfl, .inl ⟨rfl, _, SqL.of hL3⟩, _, rfl, _, rfl, r.b, _, rfl, ok.by0, ?_⟩
        refine ⟨l, _, _, rfl, rfl, hL3, ?_, ?_⟩
        · rw [lL]; exact small1000 (by omega)
        · refine ⟨c.toNat - (n + 1), by omega, n + 1, _, rfl, by omega, by omega, rfl, (g.trans gD).upd hl1 _, ?_⟩
          rw [upd_same]
          have e : r.row (n + 1) = r.row n ++ [Rm.tk r.b (Rm.S r.rule (fun i => (r.row n).getD i 0) n r.rule.length)] := by
            show _ ++ [if n < r.starts.length then r.starts.getD n 0 else _] = _
            rw [if_neg (by omega)]; rfl
          rw [e, List.map_append]; rfl
    · have hn : n = c.toNat := by have := dec_false cc; omega
      subst hn
      exact ⟨_, rfl, q l H' g hl1 hL⟩
theorem ok_Lmade_longer (B : Bt mg) (F : Fn K mg "_law_made_longer" s_Lmade_longer ["_law_row", "_law_number"]) (C_Lplaces : Cal P w K mg base "_law_places" 2 ["_law_row", "_law_count"] spPlacesF) (C_Ltaken : Cal P w K mg base "_law_taken" 1 ["_law_by", "_law_number"] spTaken) : Cal P w K mg base "_law_made_longer" 3 ["_law_row", "_law_number"] spLonger := by
  refine F.cal sc_Lmade_longer (fun vs H Q E h => ?_) (fun f cdv A outer s H vs Q E hr h => ?_)
  · obtain ⟨b, s, v, r, n, rfl, _⟩ := h; rfl
  · obtain ⟨b, s', v, r, n, rfl, hRI, hb, ok, hs, hsh, hn, q⟩ := h
    refine ⟨_, (pss_cons (ps_asg (pv 0) (xgtup K (n := 3) rfl (pgs_cons (pg_name (i := 2) sc_Lmade_longer.nd rfl (Or.inr rfl)) (pgs_cons (pg_name (i := 3) sc_Lmade_longer.nd rfl (Or.inl rfl)) (pgs_cons (pg_name (i := 4) sc_Lmade_longer.nd rfl (Or.inl rfl)) pgs_nil)))))
      (pss_cons (ps_set (i := 5) sc_Lmade_longer.nd rfl (Or.inl rfl) (pe_callC C_Lplaces hr rfl (pa_n (pv 0) (pa_b (pe_op (xadd K) (pe_callB (xlen K) rfl B.b_len boot_len (pa_n (pv 3) pa_nil)) pe_int) pa_nil))))
      (pss_cons (ps_set (i := 6) sc_Lmade_longer.nd rfl (Or.inl rfl) (pe_op (xadd K) (pe_lst (pa_n (pv 1) pa_nil)) (pe_op v_mul (pe_lst (pa_k pe_int pa_nil)) (pe_callB (xlen K) rfl B.b_len boot_len (pa_n (pv 3) pa_nil)))))
      (pss_cons (ps_for PassesOwn.never rfl (pi_range1 rfl B.b_range (pa_cons (pe_callB (xlen K) rfl B.b_len boot_len (pa_n (pv 3) pa_nil)) pa_nil)) (pg_name (i := 7) sc_Lmade_longer.nd rfl (Or.inl rfl))
      (pss_cons (ps_asg (pe_op (xadd K) (pe_ix (xix K) (pv 6) (pv 7) (fun _ _ => rfl)) (pe_ix (xix K) (pv 3) (pv 7) (fun _ _ => rfl))) (pg_sub (pv 6) (pv 7) set_list))
      (pss_one (ps_asg (pe_op op_sub (pe_ix (xix K) (pv 6) (pe_op (xadd K) (pv 7) pe_int) (fun _ _ => rfl)) (pe_op v_mul (pv 1) (pe_ix (xix K) (pv 3) (pv 7) (fun _ _ => rfl)))) (pg_sub (pv 6) (pe_op (xadd K) (pv 7) pe_int) set_list)))))
      (pss_one (ps_ret (pe_tup (pa_n (pv 2) (pa_cons (pe_callTy (xtuple K) rfl B.b_tuple boot_tuple (pa_cons (pe_comp (sc := cs_Lmade_longer1) (N := ["_law_one", "_law_by"]) (ix := [none, some 2]) (comp_mk (by kernel_rfl) (by kernel_rfl) (by kernel_rfl) (by kernel_rfl) (by kernel_rfl) (by kernel_rfl) (by kernel_rfl) (by kernel_rfl)) rfl (xseq K (pv 6)) (fun cl C s₀ H₀ ex => ⟨(pg_name (i := 0) (show (["_law_one", "_law_by"] : List Str).Nodup by decide +kernel) rfl (Or.inl rfl)), pif_nil, (pe_callC C_Ltaken hr rfl (pa_n (pv 1) (pa_n (pv 0) pa_nil)))⟩)) pa_nil)) (pa_cons (pe_callTy (xtuple K) rfl B.b_tuple boot_tuple (pa_n (pv 5) pa_nil)) pa_nil)))))))))), ?_⟩
    obtain ⟨a, p, p2, rfl, hA, hR, hS⟩ := id hRI
    have hO := ok.ok hb (by omega)
    have eb := ok.by_
    have lR : (r.rule.map V.int).length = r.rule.length := List.length_map _
    refine ⟨_, rfl, a, _, rfl, SqT.of hA, rfl, _, _, rfl, _, _, rfl, _, _, rfl, rfl, ?_⟩
    refine ⟨_, rfl, _, rfl, .ref p, r.rule.length, rfl, .inr ⟨_, SqT.of hR, lR.symm⟩, .ref a, r, (r.rule.length : Int) + 1, rfl, hRI, hO, by omega, by omega, fun l1 H1 g1 hl1 h1 => ?_⟩
    rw [show ((r.rule.length : Int) + 1).toNat = r.rule.length + 1 by omega] at h1
    refine ⟨_, rfl, (by show 1 ≤ sizeLine; decide), fun l2 hl2 => ?_⟩
    have g2 := Same.new hl2 (.lst [.int n])
    refine ⟨(by show 1 ≤ sizeLine; decide), fun l3 hl3 => ?_⟩
    have g3 := Same.new hl3 (.lst [.int 0])
    have h2 : (upd (upd H1 l2 (.lst [.int n])) l3 (.lst [.int 0])) l2 = some (.lst [.int n]) := g3 _ _ upd_same
    have h3 : (upd (upd H1 l2 (.lst [.int n])) l3 (.lst [.int 0])) l3 = some (.lst [.int 0]) := upd_same
    have g13 := g2.trans g3
    generalize upd (upd H1 l2 (.lst [.int n])) l3 (.lst [.int 0]) = H3 at g13 h2 h3
    refine ⟨_, rfl, .ref p, r.rule.length, rfl, .inr ⟨_, SqT.of (g13 _ _ (g1 _ _ hR)), lR.symm⟩, ?_⟩
    refine ⟨_, h3, by omega, by omega, ?_, fun l4 hl4 => ?_⟩
    · show 1 * (r.rule.length : Int).toNat ≤ sizeLine
      rw [Nat.one_mul]; exact Nat.le_of_lt (small1000 (by omega))
    rw [show (r.rule.length : Int).toNat = r.rule.length from Int.toNat_natCast _, replicate_ofF]
    have g4 := Same.new hl4 (.lst ((Pm.ofF r.rule.length fun _ => 0).map V.int))
    have h2' := g4 _ _ h2
    have h4 : (upd H3 l4 (.lst ((Pm.ofF r.rule.length fun _ => 0).map V.int))) l4 = some (.lst ((Pm.ofF r.rule.length fun _ => 0).map V.int)) := upd_same
    have g14 := g13.trans g4
    generalize upd H3 l4 (.lst ((Pm.ofF r.rule.length fun _ => 0).map V.int)) = H4 at g4 g14 h2' h4
    refine .inl ⟨_, _, h2', h4, ?_, fun l5 hl5 => ?_⟩
    · rw [List.length_map, Pm.ofF_len]; exact Nat.le_of_lt (small1000 (by show 1 + _ ≤ 1000; omega))
    have g5 := Same.new hl5 (.lst ([.int n] ++ (Pm.ofF r.rule.length fun _ => 0).map V.int))
    have e5 : ([.int n] ++ (Pm.ofF r.rule.length fun _ => 0).map V.int : List V) = (longL n r.rule 0).map V.int := by rw [longL_zero, List.map_append]; rfl
    have h5 : (upd H4 l5 (.lst ([.int n] ++ (Pm.ofF r.rule.length fun _ => 0).map V.int))) l5 = some (.lst ((longL n r.rule 0).map V.int)) := by rw [upd_same, e5]
    have g15 := g1.trans (g14.trans g5)
    have f5 : H l5 = none := (g1.trans g14).free hl5
    have f51 : H1 l5 = none := g14.free hl5
    have g15' := g14.trans g5
    generalize upd H4 l5 (.lst ([.int n] ++ (Pm.ofF r.rule.length fun _ => 0).map V.int)) = H5 at g5 h5 g15 g15'
    refine ⟨_, rfl, .ref p, r.rule.length, rfl, .inr ⟨_, SqT.of (g15 _ _ hR), lR.symm⟩, ?_⟩
    refine ⟨(r.rule.length : Int), rfl, (by omega : -(2 ^ 62) ≤ (r.rule.length : Int)), (by omega : (r.rule.length : Int) < 2 ^ 62), ?_⟩
    refine for_range (lo := 0) (n := (r.rule.length : Int).toNat) (fun i σ' H' => ∃ o7, σ' = [some (.ref a), some (.int n), some (.int r.b), some (.ref p), some (.ref p2), some (.ref l1), some (.ref l5), o7] ∧ Same H H' ∧ Same H1 H' ∧ H' l5 = some (.lst ((longL n r.rule i).map V.int))) ⟨_, rfl, g15, g15', h5⟩ ?_ ?_
    · rintro i σ' H' hi ⟨o7, rfl, g, gg, hL⟩
      have hi' : i < r.rule.length := by omega
      have e1 : (0 + (i : Int)).toNat = i := by omega
      have e2 : (0 + (i : Int) + 1).toNat = i + 1 := by omega
      have lL : (longL n r.rule i).length = r.rule.length + 1 := longL_len ..
      refine ⟨_, rfl, _, rfl, _, _, .inl (SqL.of hL), atI_ints (ns := longL n r.rule i) (by omega : (0 : Int) ≤ 0 + (i : Int)) (by omega), ?_⟩
      refine ⟨_, rfl, _, rfl, _, _, .inr (SqT.of (g _ _ hR)), atI_ints (ns := r.rule) (by omega : (0 : Int) ≤ 0 + (i : Int)) (by omega), ?_⟩
      refine ⟨_, rfl, _, rfl, l5, _, _, i, rfl, rfl, hL, ixN_of (by omega) (by rw [List.length_map]; omega), ?_⟩
      rw [map_set_int, e1]
      have gu := g.upd f5 (.lst (((longL n r.rule i).set i ((longL n r.rule i).getD i 0 + r.rule.getD i 0)).map V.int))
      have ggu := gg.upd f51 (.lst (((longL n r.rule i).set i ((longL n r.rule i).getD i 0 + r.rule.getD i 0)).map V.int))
      have hL2 : (upd H' l5 (.lst (((longL n r.rule i).set i ((longL n r.rule i).getD i 0 + r.rule.getD i 0)).map V.int))) l5 = some (.lst (((longL n r.rule i).set i ((longL n r.rule i).getD i 0 + r.rule.getD i 0)).map V.int)) := upd_same
      generalize upd H' l5 (.lst (((longL n r.rule i).set i ((longL n r.rule i).getD i 0 + r.rule.getD i 0)).map V.int)) = H6 at gu ggu hL2
      refine ⟨_, rfl, _, rfl, _, _, .inl (SqL.of hL2), atI_ints (ns := (longL n r.rule i).set i ((longL n r.rule i).getD i 0 + r.rule.getD i 0)) (by omega : (0 : Int) ≤ 0 + (i : Int) + 1) (by rw [List.length_set]; omega), ?_⟩
      refine ⟨_, rfl, _, rfl, _, rfl, _, _, .inr (SqT.of (gu _ _ hR)), atI_ints (ns := r.rule) (by omega : (0 : Int) ≤ 0 + (i : Int)) (by omega), ?_⟩
      refine ⟨mulBd hn (Rm.Bd.getD hO.ruleBd _) (by decide), _, _, rfl, rfl, ?_⟩
      refine ⟨_, rfl, _, rfl, l5, _, _, i + 1, rfl, rfl, hL2, ixN_of (by omega) (by rw [List.length_map, List.length_set]; omega), ?_⟩
      rw [map_set_int, e1, e2]
      refine ⟨_, rfl, gu.upd f5 _, ggu.upd f51 _, ?_⟩
      rw [upd_same, ← longL_step hi']; rfl
    · rintro σ' H' ⟨o7, rfl, g, gg, hL⟩
      rw [Int.toNat_natCast] at hL
      have lL : (longL n r.rule r.rule.length).length = r.rule.length + 1 := longL_len ..
      refine ⟨_, rfl, _, rfl, l5, rfl, .inl ⟨⟨_, SqL.of hL⟩, ?_⟩⟩
      refine comp_lst hL (by omega) rfl (fun x => Rm.tk r.b x) ?_ ?_
      · intro H2 x g2 hx k hk
        exact ⟨_, rfl, _, rfl, r.b, x, rfl, hO.by0, hk⟩
      · intro D hD
        have gD := Same.new hD (.lst (((longL n r.rule r.rule.length).map fun x => Rm.tk r.b x).map V.int))
        refine ⟨D, _, rfl, .inl ⟨SqL.of upd_same, fun t1 ht1 => ?_⟩⟩
        have gt1 := Same.new ht1 (.tup (((longL n r.rule r.rule.length).map fun x => Rm.tk r.b x).map V.int))
        refine ⟨_, rfl, l1, _, rfl, .inl ⟨SqL.of (gt1 _ _ (gD _ _ (gg _ _ h1))), fun t2 ht2 => ?_⟩⟩
        have gt2 := Same.new ht2 (.tup ((r.row (r.rule.length + 1)).map V.int))
        refine ⟨(by show 3 ≤ sizeLine; decide), fun t3 ht3 => ?_⟩
        have gt3 := Same.new ht3 (.tup [.int r.b, .ref t1, .ref t2])
        have fin := ok.longer hb hsh hn
        rw [← eb] at fin
        refine q _ ⟨r.b, (longL n r.rule r.rule.length).map (Rm.tk r.b), r.row (r.rule.length + 1)⟩ _ (g.trans (gD.trans (gt1.trans (gt2.trans gt3)))) ⟨t3, t1, t2, rfl, upd_same, gt3 _ _ (gt2 _ _ upd_same), gt3 _ _ upd_same⟩ (by rw [← eb]; exact fin)
theorem ok_Ldrawn_row (B : Bt mg) (F : Fn K mg "_law_drawn_row" s_Ldrawn_row ["_law_script", "_law_start", "_law_by", "_law_most"]) (C_Lcell_at : Cal P w K mg base "_law_cell_at" 1 ["_law_script", "_law_k"] (spCellF K)) (C_Lmix : Cal P w K mg base "_law_mix" 1 ["_law_cell", "_law_k"] spMixF) (C_Lone_number : Cal P w K mg base "_law_one_number" 2 ["_law_by", "_law_cell", "_law_k"] spOneF) (C_Lmade_longer : Cal P w K mg base "_law_made_longer" 3 ["_law_row", "_law_number"] spLonger) (C_Ltaken : Cal P w K mg base "_law_taken" 1 ["_law_by", "_law_number"] spTaken) : Cal P w K mg base "_law_drawn_row" 4 ["_law_script", "_law_start", "_law_by", "_law_most"] (spDrawn K) := by
  refine F.cal sc_Ldrawn_row (fun vs H Q E h => ?_) (fun f cdv A outer s H vs Q E hr h => ?_)
  · obtain ⟨a, ns, st, b, m, rfl, _⟩ := h; rfl
  · obtain ⟨a, ns, st, b, m, rfl, hS, s0, s1, hB, hb, m0, m1, q⟩ := h
    refine ⟨_, (pss_cons (ps_set (i := 4) sc_Ldrawn_row.nd rfl (Or.inl rfl) (pe_callC C_Lcell_at hr rfl (pa_n (pv 0) (pa_n (pv 1) pa_nil))))
      (pss_cons (ps_set (i := 5) sc_Ldrawn_row.nd rfl (Or.inl rfl) (pe_op op_mod (pe_callC C_Lmix hr rfl (pa_n (pv 4) (pa_k pe_int pa_nil))) (pe_op (xadd K) (pv 3) pe_int)))
      (pss_cons (ps_set (i := 6) sc_Ldrawn_row.nd rfl (Or.inr rfl) (pe_callC C_Lcell_at hr rfl (pa_n (pv 0) (pa_b (pe_op (xadd K) (pv 1) pe_int) pa_nil))))
      (pss_cons (ps_set (i := 7) sc_Ldrawn_row.nd rfl (Or.inl rfl) (pe_callTy (xtuple K) rfl B.b_tuple boot_tuple (pa_cons (pe_comp (sc := cs_Ldrawn_row1) (N := ["_law_k", "_law_by", "_law_mine"]) (ix := [none, some 2, some 6]) (comp_mk (by kernel_rfl) (by kernel_rfl) (by kernel_rfl) (by kernel_rfl) (by kernel_rfl) (by kernel_rfl) (by kernel_rfl) (by kernel_rfl)) rfl (pi_range1 rfl B.b_range (pa_n (pv 5) pa_nil)) (fun cl C s₀ H₀ ex => ⟨(pg_name (i := 0) (show (["_law_k", "_law_by", "_law_mine"] : List Str).Nodup by decide +kernel) rfl (Or.inl rfl)), pif_nil, (pe_callC C_Lone_number hr rfl (pa_n (pv 1) (pa_n (pv 2) (pa_n (pv 0) pa_nil))))⟩)) pa_nil)))
      (pss_cons (ps_set (i := 9) sc_Ldrawn_row.nd rfl (Or.inl rfl) (pe_tup (pa_n (pv 2) (pa_n (pv 7) (pa_cons (pe_callTy (xtuple K) rfl B.b_tuple boot_tuple (pa_cons (pe_comp (sc := cs_Ldrawn_row2) (N := ["_law_k", "_law_by", "_law_mine"]) (ix := [none, some 2, some 6]) (comp_mk (by kernel_rfl) (by kernel_rfl) (by kernel_rfl) (by kernel_rfl) (by kernel_rfl) (by kernel_rfl) (by kernel_rfl) (by kernel_rfl)) rfl (pi_range1 rfl B.b_range (pa_n (pv 5) pa_nil)) (fun cl C s₀ H₀ ex => ⟨(pg_name (i := 0) (show (["_law_k", "_law_by", "_law_mine"] : List Str).Nodup by decide +kernel) rfl (Or.inl rfl)), pif_nil, (pe_callC C_Lone_number hr rfl (pa_n (pv 1) (pa_n (pv 2) (pa_b (pe_op (xadd K) pe_int (pv 0)) pa_nil))))⟩)) pa_nil)) pa_nil)))))
      (pss_cons (ps_for PassesOwn.never rfl (pi_range1 rfl B.b_range (pa_cons (pe_ix (xix K) (pe_lst (pa_k pe_int (pa_k pe_int (pa_k pe_int (pa_k pe_int (pa_k pe_int (pa_k pe_int (pa_k pe_int (pa_k pe_int pa_nil))))))))) (pe_op op_mod (pe_callC C_Lmix hr rfl (pa_n (pv 4) (pa_k pe_int pa_nil))) pe_int) (fun _ _ => rfl)) pa_nil)) (pg_name (i := 8) sc_Ldrawn_row.nd rfl (Or.inl rfl))
      (pss_one (ps_bar (ps_if (pt_cmpR op_lt (pe_callB (xlen K) rfl B.b_len boot_len (pa_cons (pe_ix (xix K) (pv 9) pe_int (fun _ _ => rfl)) pa_nil)) pe_int (nomark _))
      (pss_one (ps_set (i := 9) sc_Ldrawn_row.nd rfl (Or.inl rfl) (pe_callC C_Lmade_longer hr rfl (pa_n (pv 9) (pa_cons (pe_callC C_Ltaken hr rfl (pa_n (pv 2) (pa_b (pe_op op_sub (pe_op op_mod (pe_callC C_Lmix hr rfl (pa_n (pv 4) (pa_b (pe_op (xadd K) pe_int (pv 8)) pa_nil))) pe_int) pe_int) pa_nil))) pa_nil)))))
      pss_nil))))
      (pss_one (ps_ret (pv 9))))))))), ?_⟩
    refine ⟨_, rfl, _, rfl, a, ns, st, rfl, hS, s0, by omega, hB, fun c hc => ?_⟩
    refine ⟨_, rfl, c, 2, rfl, by decide, by decide, fun x x0 x1 => ?_⟩
    refine ⟨_, rfl, _, _, rfl, rfl, (by show 0 < m + 1; omega), ?_⟩
    have k0 := emod_lo x (show 0 < m + 1 by omega)
    have k1 := emod_hi x (show 0 < m + 1 by omega)
    dsimp only
    generalize x % (m + 1) = sz at k0 k1
    refine ⟨_, rfl, _, rfl, a, ns, st + 1, rfl, hS, by omega, by omega, hB, fun c2 hc2 => ?_⟩
    obtain ⟨N, rfl⟩ : ∃ N : Nat, sz = (N : Int) := ⟨sz.toNat, by omega⟩
    refine ⟨_, rfl, N, rfl, (by omega : -(2 ^ 62) ≤ (N : Int)), (by omega : (N : Int) < 2 ^ 62), ?_⟩
    rw [Int.toNat_natCast]
    refine comp_rngP (n := N) (by omega) rfl (fun x => IsNum b x ∧ Rm.Bd 31 x) ?_ ?_
    · intro H2 k g2 hk kk hkk
      exact ⟨_, rfl, _, rfl, _, rfl, b, c2, 0 + (k : Int), rfl, hb, hc2, by omega, by omega, fun x H3 g3 h1 h2 => hkk x H3 g3 ⟨h1, h2⟩⟩
    intro D H1 rule hD g1 hD1 lr hr
    refine ⟨D, _, rfl, .inl ⟨SqL.of hD1, fun t1 ht1 => ?_⟩⟩
    have gt1 := Same.new ht1 (.tup (rule.map V.int))
    have h1 : (upd H1 t1 (.tup (rule.map V.int))) t1 = some (.tup (rule.map V.int)) := upd_same
    have g2 := g1.trans gt1
    generalize upd H1 t1 (.tup (rule.map V.int)) = H2 at gt1 h1 g2
    refine ⟨_, rfl, _, rfl, _, rfl, N, rfl, (by omega : -(2 ^ 62) ≤ (N : Int)), (by omega : (N : Int) < 2 ^ 62), ?_⟩
    rw [Int.toNat_natCast]
    refine comp_rngP (n := N) (by omega) rfl (fun x => IsNum b x ∧ Rm.Bd 31 x) ?_ ?_
    · intro H3 k g3 hk kk hkk
      exact ⟨_, rfl, _, rfl, _, rfl, b, c2, 15 + (0 + (k : Int)), rfl, hb, hc2, by omega, by omega, fun x H3 g3 h1 h2 => hkk x H3 g3 ⟨h1, h2⟩⟩
    intro D2 H3 starts hD2 g3 hD3 ls hs
    refine ⟨D2, _, rfl, .inl ⟨SqL.of hD3, fun t2 ht2 => ?_⟩⟩
    have gt2 := Same.new ht2 (.tup (starts.map V.int))
    refine ⟨(by show 3 ≤ sizeLine; decide), fun t3 ht3 => ?_⟩
    have gt3 := Same.new ht3 (.tup [.int b, .ref t1, .ref t2])
    have gA := g2.trans (g3.trans (gt2.trans gt3))
    have R0 : RowIs (upd (upd H3 t2 (.tup (starts.map V.int))) t3 (.tup [.int b, .ref t1, .ref t2])) (.ref t3) ⟨b, rule, starts⟩ := ⟨t3, t1, t2, rfl, upd_same, gt3 _ _ (gt2 _ _ (g3 _ _ h1)), gt3 _ _ upd_same⟩
    generalize upd (upd H3 t2 (.tup (starts.map V.int))) t3 (.tup [.int b, .ref t1, .ref t2]) = H4 at gA R0
    have S0 : RwS b 0 ⟨b, rule, starts⟩ := ⟨rfl, lr.trans ls.symm, (by show rule.length ≤ 12; omega), fun x hx => (hr x hx).1, fun x hx => (hs x hx).1, fun x hx => (hr x hx).2, fun x hx => (hs x hx).2⟩
    -- made longer
    refine ⟨(by show 8 ≤ sizeLine; decide), fun p8 hp8 => ?_⟩
    have g8 := Same.new hp8 (.lst (timesL.map V.int))
    refine ⟨_, rfl, c, 3, rfl, by decide, by decide, fun y y0 y1 => ?_⟩
    have e0 := emod_lo y (show (0 : Int) < 8 by decide)
    have e1 := emod_hi y (show (0 : Int) < 8 by decide)
    refine ⟨_, _, rfl, rfl, (by decide : (0 : Int) < 8), _, _, .inl (SqL.of upd_same), atI_ints (ns := timesL) e0 e1, ?_⟩
    have ty := timesL_ok (y % 8).toNat (by omega)
    generalize timesL.getD (y % 8).toNat 0 = T at ty
    have g9 := gA.trans g8
    have R1 := R0.same g8
    have eH : (upd H4 p8 (.lst [.int 0, .int 0, .int 1, .int 0, .int 2, .int 0, .int 0, .int 3])) = upd H4 p8 (.lst (timesL.map V.int)) := rfl
    rw [eH]
    generalize upd H4 p8 (.lst (timesL.map V.int)) = H5 at g9 R1
    refine ⟨T, rfl, (by omega : -(2 ^ 62) ≤ T), (by omega : T < 2 ^ 62), ?_⟩
    refine for_range (lo := 0) (n := T.toNat) (fun i σ' H' => ∃ (v : V) (r : Rw) (o8 : Option V), σ' = [some (.ref a), some (.int st), some (.int b), some (.int m), some (.int c), some (.int N), some (.int c2), some (.ref t1), o8, some v] ∧ Same H H' ∧ RowIs H' v r ∧ RwS b i r) ⟨.ref t3, _, _, rfl, g9, R1, S0⟩ ?_ ?_
    · rintro i σ' H' hi ⟨v, r, o8, rfl, g, hR, ok⟩
      obtain ⟨ra, rp, rq, rfl, hA, hP, hQ2⟩ := id hR
      refine BarS.by (fun σ' H' => ∃ (v : V) (r : Rw) (o8 : Option V), σ' = [some (.ref a), some (.int st), some (.int b), some (.int m), some (.int c), some (.int N), some (.int c2), some (.ref t1), o8, some v] ∧ Same H H' ∧ RowIs H' v r ∧ RwS b (i + 1) r) (fun NN hNN => ?_) (fun σ' H' z => z)
      refine ⟨_, rfl, _, _, .inr (SqT.of hA), rfl, .ref rp, r.rule.length, rfl, .inr ⟨_, SqT.of hP, (List.length_map _).symm⟩, _, _, rfl, rfl, _, rfl, ?_⟩
      refine ite2 (fun cc => ?_) (fun cc => hNN _ _ ⟨_, r, _, rfl, g, hR, ok.up⟩)
      have hsh : r.rule.length < 12 := by have := dec_true cc; omega
      refine ⟨_, rfl, _, rfl, _, rfl, _, rfl, c, 4 + (0 + (i : Int)), rfl, by omega, by omega, fun y2 _ _ => ?_⟩
      have z0 := emod_lo y2 (show (0 : Int) < 5 by decide)
      have z1 := emod_hi y2 (show (0 : Int) < 5 by decide)
      refine ⟨_, _, rfl, rfl, (by decide : (0 : Int) < 5), _, _, rfl, rfl, b, _, rfl, hb.lo, ?_⟩
      refine ⟨b, i, _, r, _, rfl, hR, hb, ok, by omega, hsh, tk_bdF hb (by decide) (Rm.Bd.of (by show -(2 ^ 10) < y2 % 5 - 2; omega) (by show y2 % 5 - 2 < 2 ^ 10; omega)), fun v' r' H2 g2 R2 ok2 => ?_⟩
      exact hNN _ _ ⟨v', r', _, rfl, g.trans g2, R2, ok2⟩
    · rintro σ' H' ⟨v, r, o8, rfl, g, hR, ok⟩
      exact ⟨_, rfl, q v r H' g hR (ok.far hb (by omega)) ok.by_⟩
theorem ok_Ltimes_x (B : Bt mg) (F : Fn K mg "_law_times_x" s_Ltimes_x ["_law_by", "_law_row", "_law_rest"]) (C_Ltaken : Cal P w K mg base "_law_taken" 1 ["_law_by", "_law_number"] spTaken) : Cal P w K mg base "_law_times_x" 2 ["_law_by", "_law_row", "_law_rest"] spTimesX := by
  refine F.cal sc_Ltimes_x (fun vs H Q E h => ?_) (fun f cdv A outer s H vs Q E hr h => ?_)
  · obtain ⟨b, v, r, l, xs, rfl, _⟩ := h; rfl
  · obtain ⟨b, v, r, l, xs, rfl, ⟨a, p, p2, rfl, hA, hR, hS⟩, ok, hL, lx, bx, q⟩ := h
    refine ⟨_, (pss_cons (ps_asg (pv 1) (xgtup K (n := 3) rfl (pgs_cons (pg_name (i := 0) sc_Ltimes_x.nd rfl (Or.inr rfl)) (pgs_cons (pg_name (i := 3) sc_Ltimes_x.nd rfl (Or.inr rfl)) (pgs_cons (pg_name (i := 4) sc_Ltimes_x.nd rfl (Or.inl rfl)) pgs_nil)))))
      (pss_cons (ps_if (pt_cmpR (xeq K hr) (pv 2) (pe_lst pa_nil) (nomark _))
      (pss_one (ps_ret (pe_lst pa_nil)))
      pss_nil)
      (pss_cons (ps_set (i := 5) sc_Ltimes_x.nd rfl (Or.inr rfl) (pe_ix (xix K) (pv 2) (pe_un un_neg pe_int) (fun _ _ => rfl)))
      (pss_cons (ps_set (i := 6) sc_Ltimes_x.nd rfl (Or.inr rfl) (pe_op (xadd K) (pe_lst (pa_k pe_int pa_nil)) (pe_slice (xsl K) (pv 2) po_none (po_some (pe_un un_neg pe_int)))))
      (pss_one (ps_ret (pe_comp (sc := cs_Ltimes_x1) (N := ["_law_k", "_law_by", "_law_found", "_law_rule", "_law_top"]) (ix := [none, some 0, some 6, some 3, some 5]) (comp_mk (by kernel_rfl) (by kernel_rfl) (by kernel_rfl) (by kernel_rfl) (by kernel_rfl) (by kernel_rfl) (by kernel_rfl) (by kernel_rfl)) rfl (pi_range1 rfl B.b_range (pa_cons (pe_callB (xlen K) rfl B.b_len boot_len (pa_n (pv 3) pa_nil)) pa_nil)) (fun cl C s₀ H₀ ex => ⟨(pg_name (i := 0) (show (["_law_k", "_law_by", "_law_found", "_law_rule", "_law_top"] : List Str).Nodup by decide +kernel) rfl (Or.inl rfl)), pif_nil, (pe_callC C_Ltaken hr rfl (pa_n (pv 1) (pa_b (pe_op (xadd K) (pe_ix (xix K) (pv 2) (pv 0) (fun _ _ => rfl)) (pe_op v_mul (pv 4) (pe_ix (xix K) (pv 3) (pe_op op_sub (pe_op op_sub (pe_callB (xlen K) rfl B.b_len boot_len (pa_n (pv 3) pa_nil)) pe_int) (pv 0)) (fun _ _ => rfl)))) pa_nil)))⟩)))))))), ?_⟩
    have hsh := ok.ok.short
    have lX : (xs.map V.int).length = xs.length := List.length_map _
    have lR : (r.rule.map V.int).length = r.rule.length := List.length_map _
    refine ⟨_, rfl, a, _, rfl, SqT.of hA, rfl, _, _, rfl, _, _, rfl, _, _, rfl, rfl, ?_⟩
    refine ⟨_, rfl, (by show 0 ≤ sizeLine; decide), fun e0 he0 => ?_⟩
    have g0 := Same.new he0 (.lst ([] : List V))
    refine eqLL (ns := xs) (ms := []) (SqL.of (g0 _ _ hL)) (SqL.of upd_same) ⟨_, rfl, ?_⟩
    refine ite2 (fun c => ?_) (fun c => ?_)
    · have c' : xs = [] := dec_true c
      refine ⟨(by show 0 ≤ sizeLine; decide), fun l2 hl2 => ?_⟩
      have e : timesX r.b r.rule xs = [] := List.eq_nil_of_length_eq_zero (by rw [timesX, Pm.ofF_len, ← lx, c']; rfl)
      rw [e] at q
      exact q l2 _ (g0.trans (Same.new hl2 _)) (g0.free hl2) upd_same
    · have c' : xs ≠ [] := dec_false c
      have hN : 0 < xs.length := List.length_pos_iff.mpr c'
      generalize upd H e0 (.lst ([] : List V)) = H0 at g0
      have hL0 := g0 _ _ hL
      refine ⟨_, rfl, _, rfl, _, _, .inl (SqL.of hL0), atI_back (ns := xs) (xs.length - 1) (by omega) (by omega), ?_⟩
      refine ⟨(by show 1 ≤ sizeLine; decide), fun l1 hl1 => ?_⟩
      have g1 := Same.new hl1 (.lst [.int 0])
      have h1 : (upd H0 l1 (.lst [.int 0])) l1 = some (.lst [.int 0]) := upd_same
      generalize upd H0 l1 (.lst [.int 0]) = H1 at g1 h1
      refine ⟨_, rfl, _, rfl, _, rfl, .inl ⟨_, SqL.of (g1 _ _ hL0), fun l2 hl2 => ?_⟩⟩
      have ecut : cutV (xs.map V.int) none (some (-1)) = (xs.take (xs.length - 1)).map V.int := by
        unfold cutV
        rw [HT.sIx_none, List.drop_zero, Nat.sub_zero, lX, List.map_take]
        congr 1
        show (if (-1 : Int) < 0 then (-1 + (xs.length : Int)).toNat else min (-1 : Int).toNat xs.length) = xs.length - 1
        rw [if_pos (by decide)]; omega
      rw [ecut]
      have g2 := Same.new hl2 (.lst ((xs.take (xs.length - 1)).map V.int))
      have h2 : (upd H1 l2 (.lst ((xs.take (xs.length - 1)).map V.int))) l2 = some (.lst ((xs.take (xs.length - 1)).map V.int)) := upd_same
      have h1' := g2 _ _ h1
      generalize upd H1 l2 (.lst ((xs.take (xs.length - 1)).map V.int)) = H2 at g2 h2 h1'
      refine .inl ⟨_, _, h1', h2, ?_, fun l3 hl3 => ?_⟩
      · rw [List.length_map, List.length_take]; exact Nat.le_of_lt (small1000 (by show 1 + _ ≤ 1000; omega))
      have g3 := Same.new hl3 (.lst ([.int 0] ++ (xs.take (xs.length - 1)).map V.int))
      have h3 : (upd H2 l3 (.lst ([.int 0] ++ (xs.take (xs.length - 1)).map V.int))) l3 = some (.lst ((0 :: xs.take (xs.length - 1)).map V.int)) := upd_same
      have gg := g0.trans (g1.trans (g2.trans g3))
      generalize upd H2 l3 (.lst ([.int 0] ++ (xs.take (xs.length - 1)).map V.int)) = H3 at g3 h3 gg
      refine ⟨_, rfl, .ref p, r.rule.length, rfl, .inr ⟨_, SqT.of (gg _ _ hR), lR.symm⟩, ?_⟩
      refine ⟨(r.rule.length : Int), rfl, (by omega : -(2 ^ 62) ≤ (r.rule.length : Int)), (by omega : (r.rule.length : Int) < 2 ^ 62), ?_⟩
      rw [Int.toNat_natCast]
      have l0 : (0 :: xs.take (xs.length - 1)).length = xs.length := by rw [List.length_cons, List.length_take]; omega
      have co0 : ∀ k, k < xs.length → (0 :: xs.take (xs.length - 1)).getD k 0 = if k = 0 then 0 else Pm.co xs (k - 1) := fun k hk => by
        cases k with
        | zero => rfl
        | succ k =>
          rw [if_neg (by omega), Nat.add_sub_cancel]
          show (xs.take (xs.length - 1)).getD k 0 = xs.getD k 0
          rw [List.getD_eq_getElem?_getD, List.getElem?_take, if_pos (by omega), ← List.getD_eq_getElem?_getD]
      refine comp_rng (n := r.rule.length) (by omega) rfl (fun k => Rm.tk r.b ((if k = 0 then 0 else Pm.co xs (k - 1)) + Pm.co xs (r.rule.length - 1) * Pm.co r.rule (r.rule.length - 1 - k))) ?_ ?_
      · intro H4 k g4 hk kk hkk
        have gk := gg.trans g4
        refine ⟨_, rfl, _, rfl, _, rfl, _, _, .inl (SqL.of (g4 _ _ h3)), atI_ints (ns := 0 :: xs.take (xs.length - 1)) (by omega : (0 : Int) ≤ 0 + (k : Int)) (by rw [l0]; omega), ?_⟩
        refine ⟨_, rfl, _, rfl, _, rfl, .ref p, r.rule.length, rfl, .inr ⟨_, SqT.of (gk _ _ hR), lR.symm⟩, _, _, rfl, rfl, _, rfl, _, _, rfl, rfl, _, _, .inr (SqT.of (gk _ _ hR)), atI_ints (ns := r.rule) (by omega : (0 : Int) ≤ (r.rule.length : Int) - 1 - (0 + (k : Int))) (by omega), ?_⟩
        refine ⟨mulBd (Rm.Bd.getD bx _) (Rm.Bd.getD ok.bd _) (by decide), r.b, _, rfl, ok.ok.by0, ?_⟩
        rw [show (0 + (k : Int)).toNat = k by omega, show ((r.rule.length : Int) - 1 - (0 + (k : Int))).toNat = r.rule.length - 1 - k by omega, co0 k (by omega), lx]
        exact hkk
      · intro D hD
        exact q D _ (gg.trans (Same.new hD _)) (gg.free hD) upd_same
theorem ok_Lstep_by_step (B : Bt mg) (F : Fn K mg "_law_step_by_step" s_Lstep_by_step ["_law_by", "_law_row", "_law_n"]) (C_Ltimes_x : Cal P w K mg base "_law_times_x" 2 ["_law_by", "_law_row", "_law_rest"] spTimesX) : Cal P w K mg base "_law_step_by_step" 3 ["_law_by", "_law_row", "_law_n"] spSteps := by
  refine F.cal sc_Lstep_by_step (fun vs H Q E h => ?_) (fun f cdv A outer s H vs Q E hr h => ?_)
  · obtain ⟨b, v, r, n, rfl, _⟩ := h; rfl
  · obtain ⟨b, v, r, n, rfl, hRI, ok, hn, q⟩ := h
    refine ⟨_, (pss_cons (ps_set (i := 3) sc_Lstep_by_step.nd rfl (Or.inl rfl) (pe_callB (xlen K) rfl B.b_len boot_len (pa_cons (pe_ix (xix K) (pv 1) pe_int (fun _ _ => rfl)) pa_nil)))
      (pss_cons (ps_set (i := 4) sc_Lstep_by_step.nd rfl (Or.inl rfl) (pe_op (xadd K) (pe_lst (pa_k pe_int pa_nil)) (pe_op v_mul (pe_lst (pa_k pe_int pa_nil)) (pe_op op_sub (pv 3) pe_int))))
      (pss_cons (ps_bar (ps_if (pt_cmpR (xeq K hr) (pv 3) pe_int (nomark _))
      (pss_one (ps_set (i := 4) sc_Lstep_by_step.nd rfl (Or.inl rfl) (pe_lst pa_nil)))
      pss_nil))
      (pss_cons (ps_for PassesOwn.never rfl (pi_range1 rfl B.b_range (pa_n (pv 2) pa_nil)) (pg_name (i := 5) sc_Lstep_by_step.nd rfl (Or.inl rfl))
      (pss_one (ps_set (i := 4) sc_Lstep_by_step.nd rfl (Or.inl rfl) (pe_callC C_Ltimes_x hr rfl (pa_n (pv 0) (pa_n (pv 1) (pa_n (pv 4) pa_nil)))))))
      (pss_one (ps_ret (pv 4))))))), ?_⟩
    obtain ⟨a, p, p2, rfl, hA, hR, hS⟩ := id hRI
    have hsh := ok.ok.short
    have lR : (r.rule.map V.int).length = r.rule.length := List.length_map _
    refine ⟨_, rfl, _, _, .inr (SqT.of hA), rfl, .ref p, r.rule.length, rfl, .inr ⟨_, SqT.of hR, lR.symm⟩, ?_⟩
    refine ⟨(by show 1 ≤ sizeLine; decide), fun l1 hl1 => ?_⟩
    have g1 := Same.new hl1 (.lst [.int 1])
    refine ⟨(by show 1 ≤ sizeLine; decide), fun l2 hl2 => ?_⟩
    have g2 := Same.new hl2 (.lst [.int 0])
    have h1 : (upd (upd H l1 (.lst [.int 1])) l2 (.lst [.int 0])) l1 = some (.lst [.int 1]) := g2 _ _ upd_same
    have h2 : (upd (upd H l1 (.lst [.int 1])) l2 (.lst [.int 0])) l2 = some (.lst [.int 0]) := upd_same
    have g12 := g1.trans g2
    generalize upd (upd H l1 (.lst [.int 1])) l2 (.lst [.int 0]) = H2 at g12 h1 h2
    refine ⟨_, rfl, _, _, rfl, rfl, _, h2, by omega, by omega, ?_, fun l3 hl3 => ?_⟩
    · show 1 * ((r.rule.length : Int) - 1).toNat ≤ sizeLine
      rw [Nat.one_mul]; exact Nat.le_of_lt (small1000 (by omega))
    rw [show ((r.rule.length : Int) - 1).toNat = r.rule.length - 1 by omega, replicate_ofF]
    have g3 := Same.new hl3 (.lst ((Pm.ofF (r.rule.length - 1) fun _ => 0).map V.int))
    have h1' := g3 _ _ h1
    have h3 : (upd H2 l3 (.lst ((Pm.ofF (r.rule.length - 1) fun _ => 0).map V.int))) l3 = some (.lst ((Pm.ofF (r.rule.length - 1) fun _ => 0).map V.int)) := upd_same
    have g13 := g12.trans g3
    generalize upd H2 l3 (.lst ((Pm.ofF (r.rule.length - 1) fun _ => 0).map V.int)) = H3 at g3 h1' h3 g13
    refine .inl ⟨_, _, h1', h3, ?_, fun l4 hl4 => ?_⟩
    · rw [List.length_map, Pm.ofF_len]; exact Nat.le_of_lt (small1000 (by show 1 + _ ≤ 1000; omega))
    have g4 := Same.new hl4 (.lst ([.int 1] ++ (Pm.ofF (r.rule.length - 1) fun _ => 0).map V.int))
    have h4 : (upd H3 l4 (.lst ([.int 1] ++ (Pm.ofF (r.rule.length - 1) fun _ => 0).map V.int))) l4 = some (.lst (([1] ++ Pm.ofF (r.rule.length - 1) fun _ => 0).map V.int)) := by rw [upd_same, List.map_append]; rfl
    have g14 := g13.trans g4
    have f4 := g13.free hl4
    generalize upd H3 l4 (.lst ([.int 1] ++ (Pm.ofF (r.rule.length - 1) fun _ => 0).map V.int)) = H4 at g4 h4 g14
    refine BarS.by (fun σ' H' => ∃ l5 : Addr, σ' = [some (.int b), some (.ref a), some (.int n), some (.int (r.rule.length : Int)), some (.ref l5), none] ∧ Same H H' ∧ H l5 = none ∧ H' l5 = some (.lst ((Pm.rest r.b r.rule 0).map V.int))) (fun NN hNN => ?_) ?_
    · refine ⟨_, rfl, _, rfl, ?_⟩
      refine ite2 (fun c => ?_) (fun c => ?_)
      · have c' : r.rule.length = 0 := by have := dec_true c; omega
        refine ⟨(by show 0 ≤ sizeLine; decide), fun l5 hl5 => hNN _ _ ⟨l5, rfl, g14.trans (Same.new hl5 _), g14.free hl5, ?_⟩⟩
        rw [upd_same, rest_nil c']; rfl
      · have c' : r.rule.length ≠ 0 := by have := dec_false c; omega
        refine hNN _ _ ⟨l4, rfl, g14, f4, ?_⟩
        rw [h4, rest_one _ _ (by omega)]
    · rintro σ' H5 ⟨l5, rfl, g5, f5, h5⟩
      refine ⟨_, rfl, (n : Int), rfl, (by omega : -(2 ^ 62) ≤ (n : Int)), (by omega : (n : Int) < 2 ^ 62), ?_⟩
      refine for_range (lo := 0) (n := (n : Int).toNat) (fun i σ' H' => ∃ (l : Addr) (o5 : Option V), σ' = [some (.int b), some (.ref a), some (.int n), some (.int (r.rule.length : Int)), some (.ref l), o5] ∧ Same H H' ∧ H l = none ∧ H' l = some (.lst ((Pm.rest r.b r.rule i).map V.int))) ⟨l5, _, rfl, g5, f5, h5⟩ ?_ ?_
      · rintro i σ' H' hi ⟨l, o5, rfl, g, f, hL⟩
        refine ⟨_, rfl, _, rfl, _, rfl, b, .ref a, r, l, Pm.rest r.b r.rule i, rfl, hRI.same g, ok, hL, Pm.rest_len .., ok.rest_bd (fun _ => by omega), fun l6 H6 g6 f6 h6 => ?_⟩
        rw [timesX_rest ok.one] at h6
        exact ⟨l6, _, rfl, g.trans g6, g.free f6, h6⟩
      · rintro σ' H' ⟨l, o5, rfl, g, f, hL⟩
        rw [Int.toNat_natCast] at hL
        exact ⟨_, rfl, q l H' g f hL⟩
theorem ok_Lrolled_rests (B : Bt mg) (F : Fn K mg "_law_rolled_rests" s_Lrolled_rests ["_law_by", "_law_row", "_law_one", "_law_other"]) (C_Ltaken : Cal P w K mg base "_law_taken" 1 ["_law_by", "_law_number"] spTaken) (C_Ltimes_x : Cal P w K mg base "_law_times_x" 2 ["_law_by", "_law_row", "_law_rest"] spTimesX) : Cal P w K mg base "_law_rolled_rests" 3 ["_law_by", "_law_row", "_law_one", "_law_other"] spRolled := by
  refine F.cal sc_Lrolled_rests (fun vs H Q E h => ?_) (fun f cdv A outer s H vs Q E hr h => ?_)
  · obtain ⟨b, v, r, l1, l2, m, n, rfl, _⟩ := h; rfl
  · obtain ⟨b, v, r, l1, l2, m, n, rfl, rfl, hRI, ok, h1, h2, hm, q⟩ := h
    refine ⟨_, (pss_cons (ps_set (i := 4) sc_Lrolled_rests.nd rfl (Or.inr rfl) (pe_op v_mul (pe_lst (pa_k pe_int pa_nil)) (pe_callB (xlen K) rfl B.b_len boot_len (pa_n (pv 2) pa_nil))))
      (pss_cons (ps_set (i := 5) sc_Lrolled_rests.nd rfl (Or.inr rfl) (pe_callTy (xlist K) rfl B.b_list boot_list (pa_n (pv 3) pa_nil)))
      (pss_cons (ps_for PassesOwn.never rfl (xseq K (pv 2)) (pg_name (i := 6) sc_Lrolled_rests.nd rfl (Or.inr rfl))
      (pss_cons (ps_set (i := 4) sc_Lrolled_rests.nd rfl (Or.inr rfl) (pe_comp (sc := cs_Lrolled_rests1) (N := ["_law_k", "_law_by", "_law_number", "_law_part", "_law_total"]) (ix := [none, some 0, some 6, some 5, some 4]) (comp_mk (by kernel_rfl) (by kernel_rfl) (by kernel_rfl) (by kernel_rfl) (by kernel_rfl) (by kernel_rfl) (by kernel_rfl) (by kernel_rfl)) rfl (pi_range1 rfl B.b_range (pa_cons (pe_callB (xlen K) rfl B.b_len boot_len (pa_n (pv 2) pa_nil)) pa_nil)) (fun cl C s₀ H₀ ex => ⟨(pg_name (i := 0) (show (["_law_k", "_law_by", "_law_number", "_law_part", "_law_total"] : List Str).Nodup by decide +kernel) rfl (Or.inl rfl)), pif_nil, (pe_callC C_Ltaken hr rfl (pa_n (pv 1) (pa_b (pe_op (xadd K) (pe_ix (xix K) (pv 4) (pv 0) (fun _ _ => rfl)) (pe_op v_mul (pv 2) (pe_ix (xix K) (pv 3) (pv 0) (fun _ _ => rfl)))) pa_nil)))⟩)))
      (pss_one (ps_set (i := 5) sc_Lrolled_rests.nd rfl (Or.inr rfl) (pe_callC C_Ltimes_x hr rfl (pa_n (pv 0) (pa_n (pv 1) (pa_n (pv 5) pa_nil))))))))
      (pss_one (ps_ret (pv 4)))))), ?_⟩
    have hsh := ok.ok.short
    have lm : (Pm.rest r.b r.rule m).length = r.rule.length := Pm.rest_len ..
    have lM : ((Pm.rest r.b r.rule m).map V.int).length = r.rule.length := by rw [List.length_map, lm]
    refine ⟨(by show 1 ≤ sizeLine; decide), fun l3 hl3 => ?_⟩
    have g3 := Same.new hl3 (.lst [.int 0])
    have h3 : (upd H l3 (.lst [.int 0])) l3 = some (.lst [.int 0]) := upd_same
    generalize upd H l3 (.lst [.int 0]) = H3 at g3 h3
    refine ⟨_, rfl, .ref l1, r.rule.length, rfl, .inl ⟨_, SqL.of (g3 _ _ h1), lM.symm⟩, ?_⟩
    refine ⟨_, h3, by omega, by omega, ?_, fun l4 hl4 => ?_⟩
    · show 1 * (r.rule.length : Int).toNat ≤ sizeLine
      rw [Nat.one_mul]; exact Nat.le_of_lt (small1000 (by omega))
    rw [show (r.rule.length : Int).toNat = r.rule.length from Int.toNat_natCast _, replicate_ofF]
    have g4 := Same.new hl4 (.lst ((Pm.ofF r.rule.length fun _ => 0).map V.int))
    have h4 : (upd H3 l4 (.lst ((Pm.ofF r.rule.length fun _ => 0).map V.int))) l4 = some (.lst ((rollI r.b r.rule m n 0).map V.int)) := by rw [upd_same, rollI_zero]
    have g34 := g3.trans g4
    generalize upd H3 l4 (.lst ((Pm.ofF r.rule.length fun _ => 0).map V.int)) = H4 at g4 h4 g34
    have f4 := g3.free hl4
    refine ⟨_, rfl, l2, _, rfl, .inl (SqL.of (g34 _ _ h2)), fun l5 hl5 => ?_⟩
    have g5 := Same.new hl5 (.lst ((Pm.rest r.b r.rule n).map V.int))
    have h5 : (upd H4 l5 (.lst ((Pm.rest r.b r.rule n).map V.int))) l5 = some (.lst ((Pm.rest r.b r.rule (n + 0)).map V.int)) := upd_same
    have h45 := g5 _ _ h4
    have g35 := g34.trans g5
    generalize upd H4 l5 (.lst ((Pm.rest r.b r.rule n).map V.int)) = H5 at g5 h5 h45 g35
    refine ⟨_, rfl, l1, rfl, .inl ⟨⟨_, SqL.of (g35 _ _ h1)⟩, ?_⟩⟩
    refine for_its (its_list (SqL.of (g35 _ _ h1))) (fun i σ' H' => ∃ (lt lp : Addr) (o6 : Option V), σ' = [some (.int r.b), some v, some (.ref l1), some (.ref l2), some (.ref lt), some (.ref lp), o6] ∧ Same H H' ∧ Same H5 H' ∧ H lt = none ∧ H' lt = some (.lst ((rollI r.b r.rule m n i).map V.int)) ∧ H' lp = some (.lst ((Pm.rest r.b r.rule (n + i)).map V.int))) ⟨l4, l5, _, rfl, g35, Same.refl _, f4, h45, h5⟩ (fun i σ' H' ⟨_, _, _, _, _, z, _⟩ => z) ?_ ?_
    · rintro i x σ' H' hx ⟨lt, lp, o6, rfl, g, g', ft, ht, hp⟩
      obtain ⟨rfl, hi⟩ := map_int_get hx
      rw [lm] at hi
      refine ⟨_, rfl, .ref l1, r.rule.length, rfl, .inl ⟨_, SqL.of (g _ _ h1), lM.symm⟩, ?_⟩
      refine ⟨(r.rule.length : Int), rfl, (by omega : -(2 ^ 62) ≤ (r.rule.length : Int)), (by omega : (r.rule.length : Int) < 2 ^ 62), ?_⟩
      rw [Int.toNat_natCast]
      have bm := ok.rest_bd (m := m) (fun z => by have := hm z; omega)
      have bn := ok.rest_bd (m := n + i) (fun z => by have := hm z; omega)
      refine comp_rng (n := r.rule.length) (by omega) rfl (fun k => Rm.tk r.b (Pm.co (rollI r.b r.rule m n i) k + Pm.co (Pm.rest r.b r.rule m) i * Pm.co (Pm.rest r.b r.rule (n + i)) k)) ?_ ?_
      · intro H6 k g6 hk kk hkk
        refine ⟨_, rfl, _, rfl, _, rfl, _, _, .inl (SqL.of (g6 _ _ ht)), atI_ints (ns := rollI r.b r.rule m n i) (by omega : (0 : Int) ≤ 0 + (k : Int)) (by rw [rollI, Pm.ofF_len]; omega), ?_⟩
        refine ⟨_, rfl, _, rfl, _, rfl, _, _, .inl (SqL.of (g6 _ _ hp)), atI_ints (ns := Pm.rest r.b r.rule (n + i)) (by omega : (0 : Int) ≤ 0 + (k : Int)) (by rw [Pm.rest_len]; omega), ?_⟩
        refine ⟨mulBd (Rm.Bd.getD bm _) (Rm.Bd.getD bn _) (by decide), r.b, _, rfl, ok.ok.by0, ?_⟩
        rw [show (0 + (k : Int)).toNat = k by omega]
        exact hkk
      · intro D hD
        have gD := Same.new hD (.lst ((Pm.ofF r.rule.length fun k => Rm.tk r.b (Pm.co (rollI r.b r.rule m n i) k + Pm.co (Pm.rest r.b r.rule m) i * Pm.co (Pm.rest r.b r.rule (n + i)) k)).map V.int))
        have hD2 : (upd H' D (.lst ((Pm.ofF r.rule.length fun k => Rm.tk r.b (Pm.co (rollI r.b r.rule m n i) k + Pm.co (Pm.rest r.b r.rule m) i * Pm.co (Pm.rest r.b r.rule (n + i)) k)).map V.int))) D = some (.lst ((rollI r.b r.rule m n (i + 1)).map V.int)) := by rw [upd_same, rollI_step]
        have hp2 := gD _ _ hp
        generalize upd H' D (.lst ((Pm.ofF r.rule.length fun k => Rm.tk r.b (Pm.co (rollI r.b r.rule m n i) k + Pm.co (Pm.rest r.b r.rule m) i * Pm.co (Pm.rest r.b r.rule (n + i)) k)).map V.int)) = H7 at gD hD2 hp2
        refine ⟨_, rfl, _, rfl, _, rfl, r.b, v, r, lp, Pm.rest r.b r.rule (n + i), rfl, (hRI.same g).same gD, ok, hp2, Pm.rest_len .., bn, fun l6 H6 g6 f6 h6 => ?_⟩
        rw [timesX_rest ok.one] at h6
        exact ⟨D, l6, _, rfl, g.trans (gD.trans g6), g'.trans (gD.trans g6), g.free hD, g6 _ _ hD2, h6⟩
    · rintro σ' H' ⟨lt, lp, o6, rfl, g, g', ft, ht, hp⟩
      rw [lM, rollI_end ok.one] at ht
      exact ⟨_, rfl, q lt H' g ft ht⟩
theorem ok_Lrest_far (B : Bt mg) (F : Fn K mg "_law_rest_far" s_Lrest_far ["_law_by", "_law_row", "_law_n"]) (C_Lstep_by_step : Cal P w K mg base "_law_step_by_step" 3 ["_law_by", "_law_row", "_law_n"] spSteps) (C_Lrolled_rests : Cal P w K mg base "_law_rolled_rests" 3 ["_law_by", "_law_row", "_law_one", "_law_other"] spRolled) : Cal P w K mg base "_law_rest_far" 4 ["_law_by", "_law_row", "_law_n"] spRestFar := by
  refine F.cal sc_Lrest_far (fun vs H Q E h => ?_) (fun f cdv A outer s H vs Q E hr h => ?_)
  · obtain ⟨b, v, r, n, rfl, _⟩ := h; rfl
  · obtain ⟨b, v, r, n, rfl, rfl, hRI, ok, hn, q⟩ := h
    refine ⟨_, (pss_cons (ps_set (i := 3) sc_Lrest_far.nd rfl (Or.inl rfl) (pe_callC C_Lstep_by_step hr rfl (pa_n (pv 0) (pa_n (pv 1) (pa_k pe_int pa_nil)))))
      (pss_cons (ps_set (i := 4) sc_Lrest_far.nd rfl (Or.inl rfl) (pe_callC C_Lstep_by_step hr rfl (pa_n (pv 0) (pa_n (pv 1) (pa_k pe_int pa_nil)))))
      (pss_cons (ps_while PassesOwn.never (pt_cmpR op_gt (pv 2) pe_int (nomark _))
      (pss_cons (ps_bar (ps_if (pt_cmpR (xeq K hr) (pe_op op_mod (pv 2) pe_int) pe_int (nomark _))
      (pss_one (ps_set (i := 3) sc_Lrest_far.nd rfl (Or.inl rfl) (pe_callC C_Lrolled_rests hr rfl (pa_n (pv 0) (pa_n (pv 1) (pa_n (pv 3) (pa_n (pv 4) pa_nil)))))))
      pss_nil))
      (pss_cons (ps_set (i := 4) sc_Lrest_far.nd rfl (Or.inl rfl) (pe_callC C_Lrolled_rests hr rfl (pa_n (pv 0) (pa_n (pv 1) (pa_n (pv 4) (pa_n (pv 4) pa_nil))))))
      (pss_one (ps_set (i := 2) sc_Lrest_far.nd rfl (Or.inl rfl) (pe_op op_fdiv (pv 2) pe_int))))))
      (pss_one (ps_ret (pv 3)))))), ?_⟩
    refine ⟨_, rfl, _, rfl, r.b, v, r, 0, rfl, hRI, ok, by decide, fun l1 H1 g1 f1 h1 => ?_⟩
    refine ⟨_, rfl, _, rfl, r.b, v, r, 1, rfl, hRI.same g1, ok, by decide, fun l2 H2 g2 f2 h2 => ?_⟩
    -- what is done, what is left to do: m found, the square e, x left
    refine ⟨fun t σ' H' => ∃ (la lb : Addr) (x m e : Nat), x = t ∧ n = m + x * e ∧ (r.b = 0 → 0 < x → e ≤ n) ∧ σ' = [some (.int r.b), some v, some (.int x), some (.ref la), some (.ref lb)] ∧ Same H H' ∧ H la = none ∧ H' la = some (.lst ((Pm.rest r.b r.rule m).map V.int)) ∧ H' lb = some (.lst ((Pm.rest r.b r.rule e).map V.int)),
      ⟨_, l1, l2, n, 0, 1, rfl, by omega, fun _ h => h, rfl, g1.trans g2, f1, g2 _ _ h1, h2⟩, ?_⟩
    rintro t σ' H' ⟨la, lb, x, m, e, rfl, hx, he, rfl, g, fa, ha, hb⟩
    refine ⟨_, rfl, _, _, rfl, rfl, _, rfl, ?_⟩
    refine ite2 (fun cc => ?_) (fun cc => ?_)
    · have hx0 : 0 < x := by have := dec_true cc; omega
      have he0 := fun z => he z hx0
      have hme : r.b = 0 → m ≤ 400 := fun z => by have := hn z; omega
      refine ⟨_, fun _ _ z => z, ?_⟩
      refine BarS.by (fun σ' H' => ∃ (la : Addr), σ' = [some (.int r.b), some v, some (.int x), some (.ref la), some (.ref lb)] ∧ Same H H' ∧ H la = none ∧ H' la = some (.lst ((Pm.rest r.b r.rule (m + x % 2 * e)).map V.int)) ∧ H' lb = some (.lst ((Pm.rest r.b r.rule e).map V.int))) (fun NN hNN => ?_) ?_
      · refine ⟨_, rfl, _, _, rfl, rfl, (by decide : (0 : Int) < 2), _, rfl, ?_⟩
        refine ite2 (fun c => ?_) (fun c => ?_)
        · have c' : x % 2 = 1 := by have := dec_true c; omega
          refine ⟨_, rfl, _, rfl, _, rfl, _, rfl, r.b, v, r, la, lb, m, e, rfl, rfl, hRI.same g, ok, ha, hb, fun z => by have := hn z; have := he0 z; have := hme z; omega, fun l3 H3 g3 f3 h3 => ?_⟩
          refine hNN _ _ ⟨l3, rfl, g.trans g3, g.free f3, ?_, g3 _ _ hb⟩
          rw [c', Nat.one_mul, Nat.add_comm m e]; exact h3
        · have c' : x % 2 = 0 := by have := dec_false c; omega
          refine hNN _ _ ⟨la, rfl, g, fa, ?_, hb⟩
          rw [c', Nat.zero_mul, Nat.add_zero]; exact ha
      · rintro σ' H3 ⟨lc, rfl, g3, fc, hc, hb3⟩
        refine ⟨_, rfl, _, rfl, _, rfl, _, rfl, r.b, v, r, lb, lb, e, e, rfl, rfl, hRI.same g3, ok, hb3, hb3, fun z => by have := hn z; have := he0 z; omega, fun l4 H4 g4 f4 h4 => ?_⟩
        refine ⟨_, rfl, _, _, rfl, rfl, ⟨by decide, by decide⟩, ?_⟩
        have ex : (x : Int) / 2 = ((x / 2 : Nat) : Int) := by omega
        have hx2 : x = 2 * (x / 2) + x % 2 := by omega
        refine ⟨x / 2, by omega, lc, l4, x / 2, m + x % 2 * e, e + e, rfl, ?_, fun z h0 => ?_, ?_, g3.trans g4, fc, g4 _ _ hc, h4⟩
        · have h1 : x * e = (2 * (x / 2) + x % 2) * e := congrArg (· * e) hx2
          rw [Nat.add_mul] at h1
          have h3 : 2 * (x / 2) * e = x / 2 * e + x / 2 * e := by rw [Nat.mul_assoc, Nat.two_mul]
          rw [hx, Nat.mul_add]
          omega
        · have h2 : 2 ≤ x := by omega
          have : 2 * e ≤ x * e := Nat.mul_le_mul_right e h2
          omega
        · show [_, _, some (V.int ((x : Int) / 2)), _, _] = _
          rw [ex]
    · have hx0 : x = 0 := by have := dec_false cc; omega
      subst hx0
      rw [Nat.zero_mul, Nat.add_zero] at hx
      subst hx
      exact ⟨_, rfl, q la H' g fa ha⟩
theorem ok_Lsame (B : Bt mg) (F : Fn K mg "_law_same" s_Lsame ["_law_found", "_law_due"]) : Cal P w K mg base "_law_same" 1 ["_law_found", "_law_due"] spSame := by
  refine F.cal sc_Lsame (fun vs H Q E h => ?_) (fun f cdv A outer s H vs Q E hr h => ?_)
  · obtain ⟨x, rfl, _⟩ := h; rfl
  · obtain ⟨x, rfl, q⟩ := h
    refine ⟨_, (pss_one (ps_ret (pe_and (pe_callB v_isinstance rfl B.b_isinstance boot_isinstance (pa_n (pv 0) (pa_n (pe_tyB rfl B.b_int boot_int) pa_nil))) (pe_and (pe_not (pe_callB v_isinstance rfl B.b_isinstance boot_isinstance (pa_n (pv 0) (pa_n (pe_tyB rfl B.b_bool boot_bool) pa_nil)))) (pe_one (pe_cmpR (xeq K hr) (pv 0) (pv 1) (nomark _))))))), ?_⟩
    refine ⟨_, rfl, .int x, "int", "int", rfl, rfl, by decide, _, rfl, iteT ?_⟩
    refine ⟨_, rfl, .int x, "bool", "int", rfl, rfl, by decide, _, rfl, _, rfl, iteT ?_⟩
    refine ⟨_, rfl, _, rfl, ?_⟩
    dsimp only [rEqV, id]
    rw [decide_eq_true rfl]
    exact q
theorem ok_law (B : Bt mg) {f : Addr} {fd : FuncData} (F : Fun K "law" "law" s_law f fd) (C_Ldrawn_by : Cal P w K mg base "_law_drawn_by" 2 ["_law_cell"] spByF) (C_Lcell_at : Cal P w K mg base "_law_cell_at" 1 ["_law_script", "_law_k"] (spCellF K)) (C_Ldrawn_row : Cal P w K mg base "_law_drawn_row" 4 ["_law_script", "_law_start", "_law_by", "_law_most"] (spDrawn K)) (C_Lplaces : Cal P w K mg base "_law_places" 2 ["_law_row", "_law_count"] spPlacesF) (C_Lmix : Cal P w K mg base "_law_mix" 1 ["_law_cell", "_law_k"] spMixF) (C_Lsame : Cal P w K mg base "_law_same" 1 ["_law_found", "_law_due"] spSame) (C_place_at : Cal P w K mg base "place_at" 5 ["row", "n"] spPlaceAt) (C_Lrest_far : Cal P w K mg base "_law_rest_far" 4 ["_law_by", "_law_row", "_law_n"] spRestFar) (C_Ltaken : Cal P w K mg base "_law_taken" 1 ["_law_by", "_law_number"] spTaken) : FnOk P w K mg base (Flown P w) KLAW f fd ["_law_script"] (spLaw K) := by
  refine F.okN (k := 8) sc_law (fun vs H Q E h => ?_) (fun cdv A outer s H vs Q E hr h => ?_)
  · obtain ⟨a, ns, rfl, _⟩ := h; rfl
  · obtain ⟨a, ns, rfl, hS, hlen, hB, q⟩ := h
    refine ⟨_, (pss_cons (ps_set (i := 1) sc_law.nd rfl (Or.inl rfl) (pe_callC C_Ldrawn_by hr rfl (pa_cons (pe_callC C_Lcell_at hr rfl (pa_n (pv 0) (pa_k pe_int pa_nil))) pa_nil)))
      (pss_cons (ps_set (i := 2) sc_law.nd rfl (Or.inl rfl) (pe_callC C_Ldrawn_row hr rfl (pa_n (pv 0) (pa_k pe_int (pa_n (pv 1) (pa_k pe_int pa_nil))))))
      (pss_cons (ps_set (i := 3) sc_law.nd rfl (Or.inl rfl) (pe_callC C_Lcell_at hr rfl (pa_n (pv 0) (pa_k pe_int pa_nil))))
      (pss_cons (ps_set (i := 4) sc_law.nd rfl (Or.inr rfl) (pe_callC C_Lplaces hr rfl (pa_n (pv 2) (pa_k pe_int pa_nil))))
      (pss_cons (ps_set (i := 5) sc_law.nd rfl (Or.inl rfl) (pe_op (xadd K) (pe_lst (pa_b (pe_op op_mod (pe_callC C_Lmix hr rfl (pa_n (pv 3) (pa_k pe_int pa_nil))) pe_int) (pa_b (pe_op op_mod (pe_callC C_Lmix hr rfl (pa_n (pv 3) (pa_k pe_int pa_nil))) pe_int) (pa_k pe_int pa_nil)))) (pe_listRange rfl rfl B.b_list rfl B.b_range (pa_k pe_int pa_nil))))
      (pss_cons (ps_for PassesOwn.never rfl (xseq K (pv 5)) (pg_name (i := 6) sc_law.nd rfl (Or.inl rfl))
      (pss_one (ps_if (pt_not (pt_val (pe_callC C_Lsame hr rfl (pa_cons (pe_callC C_place_at hr rfl (pa_n (pv 2) (pa_n (pv 6) pa_nil))) (pa_cons (pe_ix (xix K) (pv 4) (pv 6) (fun _ _ => rfl)) pa_nil)))))
      (pss_one (ps_ret pe_bl))
      pss_nil)))
      (pss_cons (ps_bar (ps_if (pt_cmpR op_gt (pv 1) pe_int (nomark _))
      (pss_cons (ps_set (i := 7) sc_law.nd rfl (Or.inl rfl) (pe_op op_mod (pe_op v_mul (pe_op (xadd K) (pv 3) pe_int) (pe_op op_pow pe_int pe_int)) (pe_ix (xix K) (pe_lst (pa_b (pe_op op_pow pe_int pe_int) (pa_b (pe_op op_pow pe_int pe_int) (pa_b (pe_op op_pow pe_int pe_int) (pa_k pe_int pa_nil))))) (pe_op op_mod (pe_callC C_Lmix hr rfl (pa_n (pv 3) (pa_k pe_int pa_nil))) pe_int) (fun _ _ => rfl))))
      (pss_cons (ps_set (i := 8) sc_law.nd rfl (Or.inr rfl) (pe_callC C_Lrest_far hr rfl (pa_n (pv 1) (pa_n (pv 2) (pa_n (pv 7) pa_nil)))))
      (pss_cons (ps_set (i := 9) sc_law.nd rfl (Or.inl rfl) (pe_callC C_Ltaken hr rfl (pa_n (pv 1) (pa_cons (pe_callB (xsum K rfl) rfl B.b_sum boot_sum (pa_cons (pe_comp (sc := cs_law1) (N := ["_law_k", "_law_rest", "_law_whole"]) (ix := [none, some 8, some 4]) (comp_mk (by kernel_rfl) (by kernel_rfl) (by kernel_rfl) (by kernel_rfl) (by kernel_rfl) (by kernel_rfl) (by kernel_rfl) (by kernel_rfl)) rfl (pi_range1 rfl B.b_range (pa_cons (pe_callB (xlen K) rfl B.b_len boot_len (pa_n (pv 8) pa_nil)) pa_nil)) (fun cl C s₀ H₀ ex => ⟨(pg_name (i := 0) (show (["_law_k", "_law_rest", "_law_whole"] : List Str).Nodup by decide +kernel) rfl (Or.inl rfl)), pif_nil, (pe_op v_mul (pe_ix (xix K) (pv 1) (pv 0) (fun _ _ => rfl)) (pe_ix (xix K) (pv 2) (pv 0) (fun _ _ => rfl)))⟩)) pa_nil)) pa_nil))))
      (pss_one (ps_if (PW.pt (pw_or (pt_not (pt_val (pe_callC C_Lsame hr rfl (pa_cons (pe_callC C_place_at hr rfl (pa_n (pv 2) (pa_n (pv 7) pa_nil))) (pa_n (pv 9) pa_nil))))) (pw_or1 (pt_not (pt_val (pe_callC C_Lsame hr rfl (pa_cons (pe_callC C_place_at hr rfl (pa_n (pv 2) (pa_n (pv 7) pa_nil))) (pa_n (pv 9) pa_nil))))))))
      (pss_one (ps_ret pe_bl))
      pss_nil)))))
      pss_nil))
      (pss_one (ps_ret (pe_callC C_Lsame hr rfl (pa_cons (pe_callC C_place_at hr rfl (pa_n (pv 2) (pa_cons (pe_ix (xix K) (pv 5) pe_int (fun _ _ => rfl)) pa_nil))) (pa_cons (pe_ix (xix K) (pv 4) (pe_ix (xix K) (pv 5) pe_int (fun _ _ => rfl)) (fun _ _ => rfl)) pa_nil)))))))))))), ?_⟩
    refine ⟨_, rfl, a, ns, 0, rfl, hS, by decide, by decide, hB, fun c hc => ?_⟩
    refine ⟨c, rfl, fun b H1 g1 hb => ?_⟩
    refine ⟨_, rfl, _, rfl, a, ns, 1, b, 12, rfl, g1.seq hS, by decide, by decide, hB, hb, by decide, by decide, fun v r H2 g2 hR ok eb => ?_⟩
    subst eb
    refine ⟨_, rfl, a, ns, 3, rfl, g2.seq (g1.seq hS), by decide, by decide, hB, fun c3 hc3 => ?_⟩
    refine ⟨_, rfl, v, r, 401, rfl, hR, ok.ok, by decide, by decide, fun lw H3 g3 fw hw => ?_⟩
    rw [show (401 : Int).toNat = 401 from rfl] at hw
    have hR3 := hR.same g3
    have hsh := ok.ok.short
    refine ⟨_, rfl, c3, 1, rfl, by decide, by decide, fun x1 _ _ => ?_⟩
    refine ⟨_, _, rfl, rfl, (by decide : (0 : Int) < 401), ?_⟩
    refine ⟨_, rfl, c3, 2, rfl, by decide, by decide, fun x2 _ _ => ?_⟩
    refine ⟨_, _, rfl, rfl, (by decide : (0 : Int) < 401), ?_⟩
    refine ⟨(by show 3 ≤ sizeLine; decide), fun la hla => ?_⟩
    refine ⟨14, rfl, by decide, fun lr hlr => ?_⟩
    have ga := Same.new hla (.lst [.int (x1 % 401), .int (x2 % 401), .int 400])
    have gr := Same.new hlr (.lst ((List.range 14).map fun i => V.int (i : Nat)))
    refine .inl ⟨_, _, gr _ _ upd_same, upd_same, (by show 17 ≤ sizeLine; decide), fun ls hls => ?_⟩
    have gs := Same.new hls (.lst ([.int (x1 % 401), .int (x2 % 401), .int 400] ++ (List.range 14).map fun i => V.int (i : Nat)))
    have g6 := ga.trans (gr.trans gs)
    have h6 : (upd (upd (upd H3 la (.lst [.int (x1 % 401), .int (x2 % 401), .int 400])) lr (.lst ((List.range 14).map fun i => V.int (i : Nat)))) ls (.lst ([.int (x1 % 401), .int (x2 % 401), .int 400] ++ (List.range 14).map fun i => V.int (i : Nat)))) ls = some (.lst ([.int (x1 % 401), .int (x2 % 401), .int 400] ++ (List.range 14).map fun i => V.int (i : Nat))) := upd_same
    have a0 := emod_lo x1 (show (0 : Int) < 401 by decide)
    have a1 := emod_hi x1 (show (0 : Int) < 401 by decide)
    have b0 := emod_lo x2 (show (0 : Int) < 401 by decide)
    have b1 := emod_hi x2 (show (0 : Int) < 401 by decide)
    have at401 : ∀ n, n ≤ 400 → (r.row 401).getD n 0 = r.at n := fun n hn => Rm.row_get _ _ _ (by omega)
    have nbd : ∀ n : Nat, n ≤ 400 → Rm.Bd 400 (n : Int) := fun n hn => (Rm.Bd.of (n := 10) (by omega) (by omega)).mono (by decide)
    refine ⟨_, rfl, ls, rfl, .inl ⟨⟨_, SqL.of upd_same⟩, ?_⟩⟩
    refine for_its (its_list (SqL.of upd_same)) (fun i σ' H' => ∃ (o6 : Option V), σ' = [some (.ref a), some (.int r.b), some v, some (.int c3), some (.ref lw), some (.ref ls), o6, none, none, none] ∧ Same (upd (upd (upd H3 la (.lst [.int (x1 % 401), .int (x2 % 401), .int 400])) lr (.lst ((List.range 14).map fun i => V.int (i : Nat)))) ls (.lst ([.int (x1 % 401), .int (x2 % 401), .int 400] ++ (List.range 14).map fun i => V.int (i : Nat)))) H') ⟨_, rfl, Same.refl _⟩ (fun i σ' H' ⟨_, _, z⟩ => z) ?_ ?_
    · rintro i x σ' H' hx ⟨o6, rfl, g⟩
      have hx' : x ∈ ([.int (x1 % 401), .int (x2 % 401), .int 400] ++ (List.range 14).map fun i => V.int (i : Nat) : List V) := List.mem_of_getElem? hx
      obtain ⟨n, rfl, hn⟩ : ∃ n : Nat, x = .int (n : Int) ∧ n ≤ 400 := by
        rcases List.mem_append.mp hx' with h | h
        · simp only [List.mem_cons, List.not_mem_nil, or_false] at h
          rcases h with rfl | rfl | rfl
          · exact ⟨(x1 % 401).toNat, by rw [Int.toNat_of_nonneg a0], by omega⟩
          · exact ⟨(x2 % 401).toNat, by rw [Int.toNat_of_nonneg b0], by omega⟩
          · exact ⟨400, rfl, by decide⟩
        · obtain ⟨j, hj, rfl⟩ := List.mem_map.mp h
          exact ⟨j, rfl, by have := List.mem_range.mp hj; omega⟩
      have gg := g6.trans g
      refine ⟨_, rfl, _, rfl, v, r, n, rfl, hR3.same gg, ok, fun _ => hn, nbd n hn, fun H7 g7 => ?_⟩
      refine ⟨_, rfl, _, rfl, _, _, .inl (SqL.of (g7 _ _ (gg _ _ hw))), atI_ints (ns := r.row 401) (by omega : (0 : Int) ≤ (n : Int)) (by rw [Rw.row_len]; omega), ?_⟩
      rw [Int.toNat_natCast, at401 n hn]
      exact ⟨_, rfl, _, rfl, iteF ⟨_, rfl, g.trans g7⟩⟩
    rintro σ' H5 ⟨o6, rfl, g⟩
    have gg := g6.trans g
    have hR5 := hR3.same gg
    have hw5 := gg _ _ hw
    have hs5 := g _ _ h6
    clear g6 g h6 ga gr gs
    -- the far one
    refine BarS.by (fun σ' H' => ∃ (o7 o8 o9 : Option V), σ' = [some (.ref a), some (.int r.b), some v, some (.int c3), some (.ref lw), some (.ref ls), o6, o7, o8, o9] ∧ Same H5 H') (fun NN hNN => ?_) ?_
    · refine ⟨_, rfl, _, _, rfl, rfl, _, rfl, ?_⟩
      refine ite2 (fun cb => ?_) (fun _ => hNN _ _ ⟨_, _, _, rfl, Same.refl _⟩)
      have hb0 : 0 < r.b := dec_true cb
      refine ⟨_, rfl, _, _, rfl, rfl, ⟨by decide, by decide, by decide⟩, mulBd (m := 1048577) (n := 300) (Rm.Bd.add hc3 ((Rm.Bd.of (n := 2) (by decide) (by decide)).mono (by decide))) (Rm.Bd.of (by decide) (by decide)) (by decide), ?_⟩
      refine ⟨_, _, rfl, rfl, ⟨by decide, by decide, by decide⟩, _, _, rfl, rfl, ⟨by decide, by decide, by decide⟩, _, _, rfl, rfl, ⟨by decide, by decide, by decide⟩, (by show 4 ≤ sizeLine; decide), fun l4 hl4 => ?_⟩
      have g7 := Same.new hl4 (.lst (modL.map V.int))
      refine ⟨_, rfl, c3, 3, rfl, by decide, by decide, fun x4 _ _ => ?_⟩
      have e0 := emod_lo x4 (show (0 : Int) < 4 by decide)
      have e1 := emod_hi x4 (show (0 : Int) < 4 by decide)
      have hM := modL_ok (x4 % 4).toNat (by omega)
      refine ⟨_, _, rfl, rfl, (by decide : (0 : Int) < 4), _, _, .inl (SqL.of upd_same), atI_ints (ns := modL) e0 e1, _, _, rfl, rfl, hM.1, ?_⟩
      generalize modL.getD (x4 % 4).toNat 0 = mm at hM
      dsimp only
      obtain ⟨n, e⟩ : ∃ n : Nat, (c3 + 3) * 982451653 ^ (7 : Int).toNat % mm = (n : Int) := ⟨_, (Int.toNat_of_nonneg (emod_lo _ hM.1)).symm⟩
      have hN : Rm.Bd 400 (n : Int) := by
        have h1 := emod_hi ((c3 + 3) * 982451653 ^ (7 : Int).toNat) hM.1
        rw [e] at h1
        refine Rm.Bd.mono (m := 200) (Rm.Bd.of (by omega) ?_) (by decide)
        exact Int.lt_of_lt_of_le h1 (Int.le_trans hM.2 (by decide))
      rw [e]
      have hn : r.b = 0 → n ≤ 400 := fun z => by omega
      have eH : (upd H5 l4 (.lst [.int (10 ^ (60 : Int).toNat), .int (10 ^ (5 : Int).toNat), .int (10 ^ (20 : Int).toNat), .int 1000])) = upd H5 l4 (.lst (modL.map V.int)) := rfl
      rw [eH]
      have hw7 := g7 _ _ hw5
      have hR7 := hR5.same g7
      generalize upd H5 l4 (.lst (modL.map V.int)) = H7 at g7 hw7 hR7
      refine ⟨_, rfl, _, rfl, _, rfl, r.b, v, r, n, rfl, rfl, hR7, ok, hn, fun ld H8 g8 fd hd => ?_⟩
      have lD : ((Pm.rest r.b r.rule n).map V.int).length = r.rule.length := by rw [List.length_map, Pm.rest_len]
      have hw8 := g8 _ _ hw7
      refine ⟨_, rfl, _, rfl, .ref ld, r.rule.length, rfl, .inl ⟨_, SqL.of hd, lD.symm⟩, ?_⟩
      refine ⟨(r.rule.length : Int), rfl, (by omega : -(2 ^ 62) ≤ (r.rule.length : Int)), (by omega : (r.rule.length : Int) < 2 ^ 62), ?_⟩
      rw [Int.toNat_natCast]
      have bR := ok.rest_bd (m := n) (fun z => by have := hn z; omega)
      refine comp_rng (n := r.rule.length) (by omega) rfl (fun k => Pm.co (Pm.rest r.b r.rule n) k * Pm.co (r.row 401) (0 + k)) ?_ ?_
      · intro H9 k g9 hk kk hkk
        refine ⟨_, rfl, _, rfl, _, _, .inl (SqL.of (g9 _ _ hd)), atI_ints (ns := Pm.rest r.b r.rule n) (by omega : (0 : Int) ≤ 0 + (k : Int)) (by rw [Pm.rest_len]; omega), ?_⟩
        refine ⟨_, rfl, _, rfl, _, _, .inl (SqL.of (g9 _ _ hw8)), atI_ints (ns := r.row 401) (by omega : (0 : Int) ≤ 0 + (k : Int)) (by rw [Rw.row_len]; omega), ?_⟩
        refine ⟨mulBd (Rm.Bd.getD bR _) (Rm.Bd.getD (ok.ok.rowBd 401 (by decide)) _) (by decide), ?_⟩
        rw [show (0 + (k : Int)).toNat = k by omega]
        rw [show 0 + k = k by omega] at hkk
        exact hkk
      intro D hD
      have gD := Same.new hD (.lst ((Pm.ofF r.rule.length fun k => Pm.co (Pm.rest r.b r.rule n) k * Pm.co (r.row 401) (0 + k)).map V.int))
      refine ⟨D, _, rfl, SqL.of upd_same, r.b, _, rfl, ok.ok.by0, ?_⟩
      have es : Rm.tk r.b (Pm.ofF r.rule.length fun k => Pm.co (Pm.rest r.b r.rule n) k * Pm.co (r.row 401) (0 + k)).sum = r.at n := by
        have := ok.sum_at n 0 401 (by omega)
        unfold Pm.ks at this
        rw [Pm.rest_len, Nat.zero_add] at this
        rw [Pm.ofF, Pm.list_sum]
        exact this
      rw [es]
      have hR9 := (hR7.same g8).same gD
      generalize upd H8 D (.lst ((Pm.ofF r.rule.length fun k => Pm.co (Pm.rest r.b r.rule n) k * Pm.co (r.row 401) (0 + k)).map V.int)) = H9 at gD hR9
      refine ⟨_, rfl, _, rfl, v, r, n, rfl, hR9, ok, hn, hN, fun H10 g10 => ?_⟩
      refine ⟨_, rfl, _, rfl, _, rfl, iteF ?_⟩
      refine ⟨_, rfl, _, rfl, v, r, n, rfl, hR9.same g10, ok, hn, hN, fun H11 g11 => ?_⟩
      exact ⟨_, rfl, _, rfl, _, rfl, iteF (hNN _ _ ⟨_, _, _, rfl, g7.trans (g8.trans (gD.trans (g10.trans g11)))⟩)⟩
    rintro σ' H6 ⟨o7, o8, o9, rfl, g6⟩
    have hs6 := g6 _ _ hs5
    obtain ⟨n, e⟩ : ∃ n : Nat, x1 % 401 = (n : Int) := ⟨_, (Int.toNat_of_nonneg a0).symm⟩
    have hn : n ≤ 400 := by omega
    rw [e] at hs6
    refine ⟨_, rfl, _, rfl, _, .int (n : Int), .inl (SqL.of hs6), rfl, v, r, n, rfl, hR5.same g6, ok, fun _ => hn, nbd n hn, fun H7 g7 => ?_⟩
    refine ⟨_, rfl, _, rfl, _, .int (n : Int), .inl (SqL.of (g7 _ _ hs6)), rfl, _, _, .inl (SqL.of (g7 _ _ (g6 _ _ hw5))), atI_ints (ns := r.row 401) (by omega : (0 : Int) ≤ (n : Int)) (by rw [Rw.row_len]; omega), ?_⟩
    rw [Int.toNat_natCast, at401 n hn]
    exact ⟨_, rfl, q _⟩
end
theorem all_mk {l : PySem.W.OpenLaw} {w : World} {K : PySem.W.Frag} {h : Heap} {mg : Str → Option Value} {fa : Addr} (X : K.In h) (G : h.Ns mainGlobals mg) (hfa : mg "law" = some (.ref fa))
    (F0 : FnIn K "taken" s_taken) (F1 : FnIn K "trimmed" s_trimmed) (F2 : FnIn K "number_at" s_number_at) (F3 : FnIn K "times" s_times) (F4 : FnIn K "divided" s_divided) (F5 : FnIn K "of_rule" s_of_rule) (F6 : FnIn K "sum_at" s_sum_at) (F7 : FnIn K "refuse_far_jump" s_refuse_far_jump) (F8 : FnIn K "power_left" s_power_left) (F9 : FnIn K "jump" s_jump) (F10 : FnIn K "place_at" s_place_at) (F11 : FnIn K "_law_cell_at" s_Lcell_at) (F12 : FnIn K "_law_mix" s_Lmix) (F13 : FnIn K "_law_drawn_by" s_Ldrawn_by) (F14 : FnIn K "_law_taken" s_Ltaken) (F15 : FnIn K "_law_one_number" s_Lone_number) (F16 : FnIn K "_law_places" s_Lplaces) (F17 : FnIn K "_law_made_longer" s_Lmade_longer) (F18 : FnIn K "_law_drawn_row" s_Ldrawn_row) (F19 : FnIn K "_law_times_x" s_Ltimes_x) (F20 : FnIn K "_law_step_by_step" s_Lstep_by_step) (F21 : FnIn K "_law_rolled_rests" s_Lrolled_rests) (F22 : FnIn K "_law_rest_far" s_Lrest_far) (F23 : FnIn K "_law_same" s_Lsame) (FL : FnIn K "law" s_law) (z_bool : PySem.W.nsIn K mainGlobals "bool" = some none) (z_int : PySem.W.nsIn K mainGlobals "int" = some none) (z_isinstance : PySem.W.nsIn K mainGlobals "isinstance" = some none) (z_len : PySem.W.nsIn K mainGlobals "len" = some none) (z_list : PySem.W.nsIn K mainGlobals "list" = some none) (z_max : PySem.W.nsIn K mainGlobals "max" = some none) (z_range : PySem.W.nsIn K mainGlobals "range" = some none) (z_sum : PySem.W.nsIn K mainGlobals "sum" = some none) (z_tuple : PySem.W.nsIn K mainGlobals "tuple" = some none) (g_FARTHEST_BY_0 : ∃ t, PySem.W.nsIn K mainGlobals "FARTHEST_BY_0" = some (some (.int 400 t))) :
    ∃ fd : FuncData, (∀ (s : Shared) (v : Value), BindsTo s fd ⟨[v], []⟩ [("_law_script", v)]) ∧ ∀ base : Heap, K.In base → base.Ns mainGlobals mg → FnOk l.prog w K mg base (Flown l.prog w) KLAW fa fd ["_law_script"] (spLaw K) := by
  obtain ⟨f, oc, od, kV, doc, pm, an, cdv, ct, sl, e1, e2, e3, e4⟩ := FL.ex
  have e := hfa.symm.trans (PySem.W.mg_of X G e1)
  cases e
  have FF := fun_mk (st := s_law) e2 e3 e4
  have B : Bt mg := ⟨PySem.W.mg_none_of X G z_bool, PySem.W.mg_none_of X G z_int, PySem.W.mg_none_of X G z_isinstance, PySem.W.mg_none_of X G z_len, PySem.W.mg_none_of X G z_list, PySem.W.mg_none_of X G z_max, PySem.W.mg_none_of X G z_range, PySem.W.mg_none_of X G z_sum, PySem.W.mg_none_of X G z_tuple, (let ⟨t, q⟩ := g_FARTHEST_BY_0; ⟨t, PySem.W.mg_of X G q⟩)⟩
  have G0 := F0.fn X G (ps := ["by", "number"]) fun _ _ _ _ _ _ us hl => match us, hl with | [_, _], _ => rfl
  have G1 := F1.fn X G (ps := ["numbers"]) fun _ _ _ _ _ _ us hl => match us, hl with | [_], _ => rfl
  have G2 := F2.fn X G (ps := ["poly", "k"]) fun _ _ _ _ _ _ us hl => match us, hl with | [_, _], _ => rfl
  have G3 := F3.fn X G (ps := ["by", "one", "other"]) fun _ _ _ _ _ _ us hl => match us, hl with | [_, _, _], _ => rfl
  have G4 := F4.fn X G (ps := ["by", "one", "other"]) fun _ _ _ _ _ _ us hl => match us, hl with | [_, _, _], _ => rfl
  have G5 := F5.fn X G (ps := ["by", "rule"]) fun _ _ _ _ _ _ us hl => match us, hl with | [_, _], _ => rfl
  have G6 := F6.fn X G (ps := ["by", "poly", "found", "n"]) fun _ _ _ _ _ _ us hl => match us, hl with | [_, _, _, _], _ => rfl
  have G7 := F7.fn X G (ps := ["by", "n"]) fun _ _ _ _ _ _ us hl => match us, hl with | [_, _], _ => rfl
  have G8 := F8.fn X G (ps := ["by", "poly", "n"]) fun _ _ _ _ _ _ us hl => match us, hl with | [_, _, _], _ => rfl
  have G9 := F9.fn X G (ps := ["row", "n"]) fun _ _ _ _ _ _ us hl => match us, hl with | [_, _], _ => rfl
  have G10 := F10.fn X G (ps := ["row", "n"]) fun _ _ _ _ _ _ us hl => match us, hl with | [_, _], _ => rfl
  have G11 := F11.fn X G (ps := ["_law_script", "_law_k"]) fun _ _ _ _ _ _ us hl => match us, hl with | [_, _], _ => rfl
  have G12 := F12.fn X G (ps := ["_law_cell", "_law_k"]) fun _ _ _ _ _ _ us hl => match us, hl with | [_, _], _ => rfl
  have G13 := F13.fn X G (ps := ["_law_cell"]) fun _ _ _ _ _ _ us hl => match us, hl with | [_], _ => rfl
  have G14 := F14.fn X G (ps := ["_law_by", "_law_number"]) fun _ _ _ _ _ _ us hl => match us, hl with | [_, _], _ => rfl
  have G15 := F15.fn X G (ps := ["_law_by", "_law_cell", "_law_k"]) fun _ _ _ _ _ _ us hl => match us, hl with | [_, _, _], _ => rfl
  have G16 := F16.fn X G (ps := ["_law_row", "_law_count"]) fun _ _ _ _ _ _ us hl => match us, hl with | [_, _], _ => rfl
  have G17 := F17.fn X G (ps := ["_law_row", "_law_number"]) fun _ _ _ _ _ _ us hl => match us, hl with | [_, _], _ => rfl
  have G18 := F18.fn X G (ps := ["_law_script", "_law_start", "_law_by", "_law_most"]) fun _ _ _ _ _ _ us hl => match us, hl with | [_, _, _, _], _ => rfl
  have G19 := F19.fn X G (ps := ["_law_by", "_law_row", "_law_rest"]) fun _ _ _ _ _ _ us hl => match us, hl with | [_, _, _], _ => rfl
  have G20 := F20.fn X G (ps := ["_law_by", "_law_row", "_law_n"]) fun _ _ _ _ _ _ us hl => match us, hl with | [_, _, _], _ => rfl
  have G21 := F21.fn X G (ps := ["_law_by", "_law_row", "_law_one", "_law_other"]) fun _ _ _ _ _ _ us hl => match us, hl with | [_, _, _, _], _ => rfl
  have G22 := F22.fn X G (ps := ["_law_by", "_law_row", "_law_n"]) fun _ _ _ _ _ _ us hl => match us, hl with | [_, _, _], _ => rfl
  have G23 := F23.fn X G (ps := ["_law_found", "_law_due"]) fun _ _ _ _ _ _ us hl => match us, hl with | [_, _], _ => rfl
  refine ⟨PySem.W.fnOf "law" "law" (defArgs s_law) (defBody s_law) (defScope s_law) .none kV doc pm an cdv ct, fun s v => .of_eq rfl, fun base kB gB => ?_⟩
  have C_taken := ok_taken (P := l.prog) (w := w) (base := base) B G0 
  have C_trimmed := ok_trimmed (P := l.prog) (w := w) (base := base) B G1 
  have C_number_at := ok_number_at (P := l.prog) (w := w) (base := base) B G2 
  have C_times := ok_times (P := l.prog) (w := w) (base := base) B G3 C_taken C_trimmed
  have C_divided := ok_divided (P := l.prog) (w := w) (base := base) B G4 C_taken C_trimmed
  have C_of_rule := ok_of_rule (P := l.prog) (w := w) (base := base) B G5 C_taken
  have C_sum_at := ok_sum_at (P := l.prog) (w := w) (base := base) B G6 C_taken
  have C_refuse_far_jump := ok_refuse_far_jump (P := l.prog) (w := w) (base := base) B G7 
  have C_power_left := ok_power_left (P := l.prog) (w := w) (base := base) B G8 C_divided C_times
  have C_jump := ok_jump (P := l.prog) (w := w) (base := base) B G9 C_refuse_far_jump C_power_left C_of_rule C_number_at
  have C_place_at := ok_place_at (P := l.prog) (w := w) (base := base) B G10 C_sum_at C_jump
  have C_Lcell_at := ok_Lcell_at (P := l.prog) (w := w) (base := base) B G11 
  have C_Lmix := ok_Lmix (P := l.prog) (w := w) (base := base) B G12 
  have C_Ldrawn_by := ok_Ldrawn_by (P := l.prog) (w := w) (base := base) B G13 C_Lmix
  have C_Ltaken := ok_Ltaken (P := l.prog) (w := w) (base := base) B G14 
  have C_Lone_number := ok_Lone_number (P := l.prog) (w := w) (base := base) B G15 C_Lmix C_Ltaken
  have C_Lplaces := ok_Lplaces (P := l.prog) (w := w) (base := base) B G16 C_Ltaken
  have C_Lmade_longer := ok_Lmade_longer (P := l.prog) (w := w) (base := base) B G17 C_Lplaces C_Ltaken
  have C_Ldrawn_row := ok_Ldrawn_row (P := l.prog) (w := w) (base := base) B G18 C_Lcell_at C_Lmix C_Lone_number C_Lmade_longer C_Ltaken
  have C_Ltimes_x := ok_Ltimes_x (P := l.prog) (w := w) (base := base) B G19 C_Ltaken
  have C_Lstep_by_step := ok_Lstep_by_step (P := l.prog) (w := w) (base := base) B G20 C_Ltimes_x
  have C_Lrolled_rests := ok_Lrolled_rests (P := l.prog) (w := w) (base := base) B G21 C_Ltaken C_Ltimes_x
  have C_Lrest_far := ok_Lrest_far (P := l.prog) (w := w) (base := base) B G22 C_Lstep_by_step C_Lrolled_rests
  have C_Lsame := ok_Lsame (P := l.prog) (w := w) (base := base) B G23 
  exact ok_law B FF C_Ldrawn_by C_Lcell_at C_Ldrawn_row C_Lplaces C_Lmix C_Lsame C_place_at C_Lrest_far C_Ltaken
end K38
open PySem PySem.W PyProof.Rows
set_option maxRecDepth 100000 in
set_option maxHeartbeats 0 in
theorem PySem.Challenge.cw_nextbyrule_k38_far_places_holds : PySem.Challenge.rw_nextbyrule_k38_far_places.Holds := by
  w_on; o_law; k_head; (case hw => w_witness2)
  k_fill
  refine L2.walk_ofB (l := PySem.Challenge.rw_nextbyrule_k38_far_places) (n := 63) (k := K38.KLAW) (x := "_law_script") (CX := fun w => L2.Flown PySem.Challenge.rw_nextbyrule_k38_far_places.prog w) (sp := fun _ => K38.spLaw _) rfl (by decide) rfl ⟨rfl, by decide, by decide⟩ (fun w h Y => PySem.W.kIn_of Y) ?F (fun w H a ns hl hb _ hS => ⟨a, ns, rfl, hS, hl, hb, fun _ => rfl⟩) (fun _ _ _ _ _ z => L2.flown_none z)
  case F =>
    intro w mg fa h KX G hmg
    refine' K38.all_mk KX G hmg ?F0 ?F1 ?F2 ?F3 ?F4 ?F5 ?F6 ?F7 ?F8 ?F9 ?F10 ?F11 ?F12 ?F13 ?F14 ?F15 ?F16 ?F17 ?F18 ?F19 ?F20 ?F21 ?F22 ?F23 ?FL ?z_bool ?z_int ?z_isinstance ?z_len ?z_list ?z_max ?z_range ?z_sum ?z_tuple ?g_FARTHEST_BY_0
    (case F0 => (refine' L2.fnIn_mk ?a ?l ?c ?k; (case a => k_is); (case l => k_is); (case c => k_is); (case k => k_is)))
    (case F1 => (refine' L2.fnIn_mk ?a ?l ?c ?k; (case a => k_is); (case l => k_is); (case c => k_is); (case k => k_is)))
    (case F2 => (refine' L2.fnIn_mk ?a ?l ?c ?k; (case a => k_is); (case l => k_is); (case c => k_is); (case k => k_is)))
    (case F3 => (refine' L2.fnIn_mk ?a ?l ?c ?k; (case a => k_is); (case l => k_is); (case c => k_is); (case k => k_is)))
    (case F4 => (refine' L2.fnIn_mk ?a ?l ?c ?k; (case a => k_is); (case l => k_is); (case c => k_is); (case k => k_is)))
    (case F5 => (refine' L2.fnIn_mk ?a ?l ?c ?k; (case a => k_is); (case l => k_is); (case c => k_is); (case k => k_is)))
    (case F6 => (refine' L2.fnIn_mk ?a ?l ?c ?k; (case a => k_is); (case l => k_is); (case c => k_is); (case k => k_is)))
    (case F7 => (refine' L2.fnIn_mk ?a ?l ?c ?k; (case a => k_is); (case l => k_is); (case c => k_is); (case k => k_is)))
    (case F8 => (refine' L2.fnIn_mk ?a ?l ?c ?k; (case a => k_is); (case l => k_is); (case c => k_is); (case k => k_is)))
    (case F9 => (refine' L2.fnIn_mk ?a ?l ?c ?k; (case a => k_is); (case l => k_is); (case c => k_is); (case k => k_is)))
    (case F10 => (refine' L2.fnIn_mk ?a ?l ?c ?k; (case a => k_is); (case l => k_is); (case c => k_is); (case k => k_is)))
    (case F11 => (refine' L2.fnIn_mk ?a ?l ?c ?k; (case a => k_is); (case l => k_is); (case c => k_is); (case k => k_is)))
    (case F12 => (refine' L2.fnIn_mk ?a ?l ?c ?k; (case a => k_is); (case l => k_is); (case c => k_is); (case k => k_is)))
    (case F13 => (refine' L2.fnIn_mk ?a ?l ?c ?k; (case a => k_is); (case l => k_is); (case c => k_is); (case k => k_is)))
    (case F14 => (refine' L2.fnIn_mk ?a ?l ?c ?k; (case a => k_is); (case l => k_is); (case c => k_is); (case k => k_is)))
    (case F15 => (refine' L2.fnIn_mk ?a ?l ?c ?k; (case a => k_is); (case l => k_is); (case c => k_is); (case k => k_is)))
    (case F16 => (refine' L2.fnIn_mk ?a ?l ?c ?k; (case a => k_is); (case l => k_is); (case c => k_is); (case k => k_is)))
    (case F17 => (refine' L2.fnIn_mk ?a ?l ?c ?k; (case a => k_is); (case l => k_is); (case c => k_is); (case k => k_is)))
    (case F18 => (refine' L2.fnIn_mk ?a ?l ?c ?k; (case a => k_is); (case l => k_is); (case c => k_is); (case k => k_is)))
    (case F19 => (refine' L2.fnIn_mk ?a ?l ?c ?k; (case a => k_is); (case l => k_is); (case c => k_is); (case k => k_is)))
    (case F20 => (refine' L2.fnIn_mk ?a ?l ?c ?k; (case a => k_is); (case l => k_is); (case c => k_is); (case k => k_is)))
    (case F21 => (refine' L2.fnIn_mk ?a ?l ?c ?k; (case a => k_is); (case l => k_is); (case c => k_is); (case k => k_is)))
    (case F22 => (refine' L2.fnIn_mk ?a ?l ?c ?k; (case a => k_is); (case l => k_is); (case c => k_is); (case k => k_is)))
    (case F23 => (refine' L2.fnIn_mk ?a ?l ?c ?k; (case a => k_is); (case l => k_is); (case c => k_is); (case k => k_is)))
    (case FL => (refine' L2.fnIn_mk ?a ?l ?c ?k; (case a => k_is); (case l => k_is); (case c => k_is); (case k => k_is)))
    (case z_bool => k_is)
    (case z_int => k_is)
    (case z_isinstance => k_is)
    (case z_len => k_is)
    (case z_list => k_is)
    (case z_max => k_is)
    (case z_range => k_is)
    (case z_sum => k_is)
    (case z_tuple => k_is)
    (case g_FARTHEST_BY_0 => exact ⟨_, by k_is⟩)
