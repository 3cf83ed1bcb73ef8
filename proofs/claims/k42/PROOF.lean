import PyProof.Rows.All
import Wide.All
import OpenK.AllK
import Wide.FinOn
import Lean
import PyProof.EqAt
import PyProof.EqKinds
import PyProof.TupleCall
import PySem.Challenge.RW_nextbyrule_k42_places_of_a_number
set_option Elab.async false
set_option linter.all false
set_option maxRecDepth 100000
/-! THE HAND LAYER, for ints, bools, texts, own classes, LISTS and tuples (index, slices, in, append, pop ..), calls, loops. Paste it whole ahead of your own text; what your proof does not reach may be deleted. -/
namespace L2
open PySem PySem.Spec PyProof.Rows

/-- a key: an int or a str -/
abbrev Key := Sum Int Str
def keyIs : Key → Value → Bool
  | .inl k, v => Value.isInt k v
  | .inr x, v => Value.isStrOf x v
def keyH (w : World) : Key → Int
  | .inl k => hashInt k
  | .inr x => hashStr w x
theorem keyIs_shape : ∀ {k : Key} {v : Value}, keyIs k v = true → (∃ i t, k = Sum.inl i ∧ v = Value.int i t) ∨ (∃ x t, k = Sum.inr x ∧ v = Value.str x t)
  | .inl i, v, h => by
    obtain ⟨t, e⟩ := Value.isInt_shape (k := i) (v := v) h
    exact .inl ⟨i, t, rfl, e⟩
  | .inr x, v, h => by
    obtain ⟨t, e⟩ := Value.isStrOf_shape (x := x) (v := v) h
    exact .inr ⟨x, t, rfl, e⟩
theorem keyIs_int (i : Int) (t : Tok) : keyIs (.inl i) (.int i t) = true := by simp [keyIs, Value.isInt]
theorem keyIs_str (x : Str) (t : Tok) : keyIs (.inr x) (.str x t) = true := by simp [keyIs, Value.isStrOf]
theorem key_ll (a b : Int) : decide ((Sum.inl a : Key) = Sum.inl b) = (a == b) := by
  by_cases e : a = b
  · subst e; simp
  · have h : ¬ (Sum.inl a : Key) = Sum.inl b := fun q => e (Sum.inl.inj q)
    rw [decide_eq_false h]
    exact (beq_eq_false_iff_ne.mpr e).symm
theorem key_rr (a b : Str) : decide ((Sum.inr a : Key) = Sum.inr b) = decide (a = b) := by
  by_cases e : a = b
  · subst e; simp
  · have h : ¬ (Sum.inr a : Key) = Sum.inr b := fun q => e (Sum.inr.inj q)
    rw [decide_eq_false h, decide_eq_false e]
theorem key_lr (a : Int) (b : Str) : decide ((Sum.inl a : Key) = Sum.inr b) = false := decide_eq_false (fun q => nomatch q)
theorem key_rl (a : Str) (b : Int) : decide ((Sum.inr a : Key) = Sum.inl b) = false := decide_eq_false (fun q => nomatch q)

def mixKind (prog : Program) (w : World) : PySem.KeyKind prog w Key where
  is := keyIs
  hash := keyH w
  inj := fun v a b ha hb => by
    rcases keyIs_shape ha with ⟨i, t, rfl, rfl⟩ | ⟨x, t, rfl, rfl⟩
    · rcases keyIs_shape hb with ⟨j, u, rfl, e⟩ | ⟨y, u, rfl, e⟩
      · injection e with e1 _; rw [e1]
      · exact nomatch e
    · rcases keyIs_shape hb with ⟨j, u, rfl, e⟩ | ⟨y, u, rfl, e⟩
      · exact nomatch e
      · injection e with e1 _; rw [e1]
  byValue := fun k v h => by
    rcases keyIs_shape h with ⟨i, t, rfl, rfl⟩ | ⟨x, t, rfl, rfl⟩ <;> rfl
  pyHash := fun hv h => by
    rcases keyIs_shape hv with ⟨i, t, rfl, rfl⟩ | ⟨x, t, rfl, rfl⟩
    · exact wpAny_pyHash_int h
    · exact wpAny_pyHash_str h
  eqBool := fun hu hv h => by
    rcases keyIs_shape hu with ⟨i, t, rfl, rfl⟩ | ⟨x, t, rfl, rfl⟩
    · rcases keyIs_shape hv with ⟨j, u, rfl, rfl⟩ | ⟨y, u, rfl, rfl⟩
      · rw [key_ll] at h; exact wpAny_eqBool_int h
      · rw [key_lr] at h; exact SeqAt.EqAt.int_str i t y u _ _ _ _ h
    · rcases keyIs_shape hv with ⟨j, u, rfl, rfl⟩ | ⟨y, u, rfl, rfl⟩
      · rw [key_rl] at h; exact SeqAt.EqAt.str_int x t j u _ _ _ _ h
      · rw [key_rr] at h; exact wpAny_eqBool_str h
  «strs» := fun k x t v h => by
    rcases keyIs_shape h with ⟨i, u, rfl, e⟩ | ⟨y, u, rfl, e⟩
    · exact nomatch e
    · injection e with e1 _
      subst e1
      cases v <;> rfl

theorem mixKind_int (prog : Program) (w : World) (i : Int) (t : Tok) : (mixKind prog w).is (.inl i) (.int i t) = true := keyIs_int i t
theorem mixKind_str (prog : Program) (w : World) (x : Str) (t : Tok) : (mixKind prog w).is (.inr x) (.str x t) = true := keyIs_str x t
end L2

namespace L2
open PySem PySem.Spec PyProof.Rows

/-- a value, without the heap -/
inductive V where
  | non | bl (b : Bool) | int (i : Int) | str (x : Str) | byt (b : Array UInt8) | flt (b : UInt64) | ref (a : Addr) | ty (n : String)
  deriving DecidableEq

def RelV : V → Value → Prop
  | .non, u => u = Value.none
  | .bl b, u => u = Value.bool b
  | .int i, u => ∃ t, u = Value.int i t
  | .str x, u => ∃ t, u = Value.str x t
  | .byt b, u => ∃ t, u = Value.bytes b t
  | .flt b, u => ∃ t, u = Value.float b t
  | .ref a, u => u = Value.ref a
  | .ty n, u => u = Value.type n

abbrev Vals : List V → List Value → Prop := Paired RelV
theorem Vals.length {xs : List V} {us : List Value} (r : Vals xs us) : xs.length = us.length := Paired.length r
theorem Vals.get : ∀ {xs : List V} {us : List Value} {i : Nat} {x : V}, Vals xs us → xs[i]? = some x → ∃ u, us[i]? = some u ∧ RelV x u
  | _, _, _, _, .nil, e => by simp at e
  | _, _, 0, _, .cons r _, e => by simp at e; subst e; exact ⟨_, rfl, r⟩
  | _, _, i + 1, x, .cons _ t, e => by
    obtain ⟨u, h1, h2⟩ := Vals.get (i := i) (x := x) t (by simpa using e)
    exact ⟨u, by simpa using h1, h2⟩
theorem Vals.set {x : V} {u : Value} (r : RelV x u) : ∀ {xs : List V} {us : List Value} (i : Nat), Vals xs us → Vals (xs.set i x) (us.set i u)
  | _, _, _, .nil => .nil
  | _, _, 0, .cons _ t => .cons r t
  | _, _, i + 1, .cons q t => .cons q (Vals.set r i t)
theorem Vals.append : ∀ {xs ys : List V} {us ws : List Value}, Vals xs us → Vals ys ws → Vals (xs ++ ys) (us ++ ws)
  | _, _, _, _, .nil, s => s
  | _, _, _, _, .cons r t, s => .cons r (Vals.append t s)
theorem Vals.take : ∀ {xs : List V} {us : List Value} (n : Nat), Vals xs us → Vals (xs.take n) (us.take n)
  | _, _, 0, _ => .nil
  | _, _, _ + 1, .nil => .nil
  | _, _, n + 1, .cons r t => .cons r (Vals.take n t)
theorem Vals.drop : ∀ {xs : List V} {us : List Value} (n : Nat), Vals xs us → Vals (xs.drop n) (us.drop n)
  | _, _, 0, r => r
  | _, _, _ + 1, .nil => .nil
  | _, _, n + 1, .cons _ t => Vals.drop n t
def RelO : Option V → Option Value → Prop
  | some v, some u => RelV v u
  | none, none => True
  | _, _ => False
def KV {κ : Type} : List (κ × V) → List (κ × Value) → Prop := Paired fun (p : κ × V) (q : κ × Value) => p.1 = q.1 ∧ RelV p.2 q.2

/-- a key of a dict (00_mix): an int or a text -/
def kV : Key → V
  | .inl i => .int i
  | .inr x => .str x

/-- what stands at a tracked address -/
inductive HO where
  /-- a list -/
  | lst (xs : List V)
  /-- a tuple (never changes) -/
  | tup (xs : List V)
  /-- a dict whose keys are ints and texts; one whose keys are tuples of ints and texts (the empty one is both) -/
  | dK (kvs : List (Key × V)) | dT (kvs : List (List Key × V))
  /-- a set of ints: its members, its size -/
  | set (S : Int → Bool) (n : Nat)
  /-- an instance of the class at C, its dict at dx, its attributes -/
  | ins (C dx : Addr) (fs : List (Str × V))
  /-- the dict of the instance at x -/
  | own (x : Addr)
  /-- the dict of an exception -/
  | xd (fs : List (Str × V))
  /-- a bound method, f of x -/
  | met (f x : Addr)
  /-- a range object lo, lo + 1, .. below hi -/
  | rng (lo hi : Int)
  /-- a thing that is known to the object (the script; a dict while a loop walks it): read, never written while it is so -/
  | frz (o : Obj) (u : HO)
  /-- a code object's table -/
  | tbl (ps : Array Value)
  /-- any other thing, by what is true of its one object (a def of one's own: SetO a S n := HO.ext fun h => ..) -/
  | ext (φ : Heap → Prop)

abbrev Hp := Addr → Option HO
def upd (H : Hp) (a : Addr) (o : HO) : Hp := fun b => if b = a then some o else H b
theorem upd_same {H : Hp} {a : Addr} {o : HO} : upd H a o a = some o := by unfold upd; rw [if_pos rfl]
theorem upd_ne {H : Hp} {a b : Addr} {o : HO} (h : b ≠ a) : upd H a o b = H b := by unfold upd; rw [if_neg h]
theorem upd_upd {H : Hp} {a : Addr} {o u : HO} : upd (upd H a o) a u = upd H a u := by
  funext b; unfold upd; split <;> rfl
/-- two objects of different content stand apart -/
theorem ne_of {H : Hp} {a b : Addr} {o u : HO} (h : H a = some o) (h' : H b = some u) (d : o ≠ u) : a ≠ b := by
  intro e; subst e; rw [h] at h'; exact d (Option.some.inj h')
theorem ne_of_none {H : Hp} {a b : Addr} {o : HO} (h : H a = some o) (h' : H b = none) : a ≠ b := by
  intro e; subst e; rw [h] at h'; cases h'

section
variable (P : Program) (w : World)
def ObjOk (H : Hp) (h : Heap) (a : Addr) : HO → Prop
  | .lst xs => xs.length ≤ sizeLine ∧ ∃ (its : List Value) (n : Nat), Vals xs its ∧ h.get? a = some { cls := .type "list", data := .seq its.toArray n }
  | .tup xs => xs.length ≤ sizeLine ∧ ∃ its : List Value, Vals xs its ∧ IsTup h a its.toArray
  | .dK kvs => kvs.length ≤ sizeLine ∧ (a == sysModules) = false ∧ ∃ vs, KV kvs vs ∧ h.DictOf (mixKind P w) a vs
  | .dT kvs => kvs.length ≤ sizeLine ∧ (a == sysModules) = false ∧ ∃ xs : List (List Key × Addr × Value),
      Paired (fun (p : List Key × V) (q : List Key × Addr × Value) => p.1 = q.1 ∧ H q.2.1 = some (.tup (p.1.map kV)) ∧ RelV p.2 q.2.2) kvs xs ∧
      ∃ o es ep, h.get? a = some o ∧ o.ExactDict ∧ o.data = .dict es ep ∧ es.toList = xs.map (entryOfKey (tupleKind (mixKind P w))) ∧ (xs.map (·.1)).Nodup
  | .set S n => h.SetOf (intKind P w) a S n
  | .ins C dx fs => H dx = some (.own a) ∧ fs.length ≤ 1000 ∧ dx ≠ a ∧ h.get? a = some (PySem.W.instObj C dx) ∧
      ∃ mA, h.Ns1 dx mA ∧ (∀ f, RelO (fs.lookup f) (mA f)) ∧ PySem.Within mA (fs.map (·.1))
  | .own _ => ∃ o, h.get? a = some o
  | .xd fs => ∃ mA, h.Ns1 a mA ∧ ∀ f, RelO (fs.lookup f) (mA f)
  | .rng lo hi => ∃ t u v, h.get? a = some { cls := .type "range", data := .fields #[.int lo t, .int hi u, .int 1 v] }
  | .frz o u => h.get? a = some o ∧ ObjOk H h a u
  | .tbl ps => h.get? a = some { cls := .none, data := .fields ps }
  | .met f x => h.get? a = some (PySem.W.methodObj (.ref f) (.ref x))
  | .ext φ => φ h ∧ (∃ o, h.get? a = some o) ∧ ∀ h1 h2 : Heap, φ h1 → (∀ o, h1.get? a = some o → h2.get? a = some o) → φ h2
/-- the abstract heap is held -/
def HOk (H : Hp) (h : Heap) : Prop := ∀ a o, H a = some o → ObjOk P w H h a o
end

section
variable {P : Program} {w : World} {H H' : Hp} {h h' : Heap} {a : Addr} {o : HO}
theorem ObjOk.lt (x : ObjOk P w H h a o) : a < h.objs.size := by
  cases o with
  | lst xs => obtain ⟨_, _, _, _, e⟩ := x; exact Heap.lt_size e
  | tup xs => obtain ⟨_, _, _, p⟩ := x; exact p.lt
  | dK kvs => obtain ⟨_, _, _, _, o, _, _, e, _⟩ := x; exact Heap.lt_size e
  | dT kvs => obtain ⟨_, _, _, _, o, _, _, e, _⟩ := x; exact Heap.lt_size e
  | set S n => obtain ⟨o, _, _, _, e, _⟩ := x; exact Heap.lt_size e
  | ins C dx fs => obtain ⟨_, _, _, e, _⟩ := x; exact Heap.lt_size e
  | own y => obtain ⟨_, e⟩ := x; exact Heap.lt_size e
  | xd fs => obtain ⟨_, ⟨_, _, _, e, _⟩, _⟩ := x; exact Heap.lt_size e
  | rng lo hi => obtain ⟨_, _, _, e⟩ := x; exact Heap.lt_size e
  | frz ob u => obtain ⟨e, _⟩ := x; exact Heap.lt_size e
  | tbl ps => exact Heap.lt_size (show h.get? a = some _ from x)
  | met f y => exact Heap.lt_size (show h.get? a = some _ from x)
  | ext φ => obtain ⟨_, ⟨_, e⟩, _⟩ := x; exact Heap.lt_size e
theorem Paired.mapP {α β : Type} {F G : α → β → Prop} : ∀ {l₁ : List α} {l₂ : List β}, Paired F l₁ l₂ → (∀ a b, F a b → G a b) → Paired G l₁ l₂
  | _, _, .nil, _ => .nil
  | _, _, .cons r t, f => .cons (f _ _ r) (Paired.mapP t f)
/-- what an object's description leans on: its own object, its own dict, the tuples -/
theorem ObjOk.stay (x : ObjOk P w H h a o) (k : ∀ b u, (b = a ∨ H b = some (.own a)) → h.get? b = some u → h'.get? b = some u)
    (ho : ∀ b, H b = some (.own a) → H' b = some (.own a)) (ht : ∀ b xs, H b = some (.tup xs) → H' b = some (.tup xs)) : ObjOk P w H' h' a o := by
  induction o with
  | lst xs => obtain ⟨z, its, n, r, e⟩ := x; exact ⟨z, its, n, r, k _ _ (.inl rfl) e⟩
  | tup xs => obtain ⟨z, its, r, ob, e, c⟩ := x; exact ⟨z, its, r, ob, k _ _ (.inl rfl) e, c⟩
  | dK kvs => obtain ⟨z, y, vs, r, ob, es, ep, e, c⟩ := x; exact ⟨z, y, vs, r, ob, es, ep, k _ _ (.inl rfl) e, c⟩
  | dT kvs =>
    obtain ⟨z, y, xs, r, ob, es, ep, e, c⟩ := x
    exact ⟨z, y, xs, Paired.mapP r fun p q z => ⟨z.1, ht _ _ z.2.1, z.2.2⟩, ob, es, ep, k _ _ (.inl rfl) e, c⟩
  | set S n => obtain ⟨ob, es, ep, t, e, c⟩ := x; exact ⟨ob, es, ep, t, k _ _ (.inl rfl) e, c⟩
  | ins C dx fs =>
    obtain ⟨d, z, ne, e, mA, ⟨od, es, ep, e2, c⟩, r⟩ := x
    exact ⟨ho _ d, z, ne, k _ _ (.inl rfl) e, mA, ⟨od, es, ep, k _ _ (.inr d) e2, c⟩, r⟩
  | own y => obtain ⟨ob, e⟩ := x; exact ⟨ob, k _ _ (.inl rfl) e⟩
  | xd fs => obtain ⟨mA, ⟨od, es, ep, e, c⟩, r⟩ := x; exact ⟨mA, ⟨od, es, ep, k _ _ (.inl rfl) e, c⟩, r⟩
  | rng lo hi => obtain ⟨t, u, v, e⟩ := x; exact ⟨t, u, v, k _ _ (.inl rfl) e⟩
  | frz ob u ih => obtain ⟨e, q⟩ := x; exact ⟨k _ _ (.inl rfl) e, ih q⟩
  | tbl ps =>
    have e : h.get? a = some { cls := .none, data := .fields ps } := x
    show h'.get? a = some { cls := .none, data := .fields ps }
    exact k a _ (.inl rfl) e
  | met f y =>
    have e : h.get? a = some (PySem.W.methodObj (.ref f) (.ref y)) := x
    show h'.get? a = some (PySem.W.methodObj (.ref f) (.ref y))
    exact k a _ (.inl rfl) e
  | ext φ => obtain ⟨p, ⟨o, e⟩, st⟩ := x; exact ⟨st _ _ p fun o q => k _ _ (.inl rfl) q, ⟨o, k _ _ (.inl rfl) e⟩, st⟩
theorem HOk.lt (x : HOk P w H h) (e : H a = some o) : a < h.objs.size := (x a o e).lt
theorem HOk.fresh (x : HOk P w H h) (e : h.objs.size ≤ a) : H a = none := by
  cases q : H a with
  | none => rfl
  | some u => exact absurd (Nat.lt_of_lt_of_le (x.lt q) e) (Nat.lt_irrefl _)
/-- every object of the heap is kept -/
theorem HOk.kept (x : HOk P w H h) (k : ∀ b u, h.get? b = some u → h'.get? b = some u) : HOk P w H h' := fun a o e =>
  (x a o e).stay (fun b u _ q => k b u q) (fun _ q => q) fun _ _ q => q
/-- a new object is laid and tracked -/
theorem HOk.laid (x : HOk P w H h) (k : ∀ b u, h.get? b = some u → h'.get? b = some u) (hp : h.objs.size ≤ a) (new : ObjOk P w (upd H a o) h' a o) : HOk P w (upd H a o) h' := fun b u e => by
  have hn := x.fresh hp
  by_cases hb : b = a
  · subst hb; rw [upd_same] at e; cases e; exact new
  · rw [upd_ne hb] at e
    exact (x b u e).stay (fun c v _ q => k c v q) (fun c q => by rw [upd_ne (ne_of_none q hn)]; exact q) fun c xs q => by rw [upd_ne (ne_of_none q hn)]; exact q
end

/-- what may be read as u: it is u, or a known u -/
def Rd (H : Hp) (a : Addr) (u : HO) : Prop := H a = some u ∨ ∃ o, H a = some (.frz o u)
theorem Rd.ok {P : Program} {w : World} {H : Hp} {h : Heap} {a : Addr} {u : HO} (r : Rd H a u) (x : HOk P w H h) : ObjOk P w H h a u := by
  rcases r with r | ⟨o, r⟩
  · exact x a u r
  · obtain ⟨_, q⟩ := x a _ r
    exact q
/-- what may be written -/
def Mut : Option HO → Prop
  | some (.lst _) => True
  | some (.dK _) => True
  | some (.dT _) => True
  | some (.set _ _) => True
  | some (.ins _ _ _) => True
  | some (.ext _) => True
  | _ => False
section
variable {P : Program} {w : World} {H : Hp} {h h' : Heap} {x e : Addr} {o' : HO}
/-- the object at e is changed: x itself, or the dict of the instance x -/
theorem HOk.write (ok : HOk P w H h) (mu : Mut (H x)) (he : e = x ∨ H e = some (.own x)) (k : ∀ b u, b ≠ e → h.get? b = some u → h'.get? b = some u) (heo : ∃ u, h'.get? e = some u)
    (new : ObjOk P w (upd H x o') h' x o') : HOk P w (upd H x o') h' := fun b u q => by
  have nown : ∀ c y, H c = some (.own y) → c ≠ x := fun c y r z => by subst z; rw [r] at mu; exact mu
  have ntup : ∀ c xs, H c = some (.tup xs) → c ≠ x := fun c xs r z => by subst z; rw [r] at mu; exact mu
  by_cases hb : b = x
  · subst hb; rw [upd_same] at q; cases q; exact new
  · rw [upd_ne hb] at q
    by_cases hbe : b = e
    · have q' : H b = some (.own x) := by
        rcases he with z | z
        · exact absurd (hbe.trans z) hb
        · rw [hbe]; exact z
      rw [q] at q'; cases q'
      obtain ⟨v, hv⟩ := heo
      exact ⟨v, by rw [hbe]; exact hv⟩
    · refine (ok b u q).stay (fun c v hc r => k c v ?_ r) (fun c r => by rw [upd_ne (nown c b r)]; exact r) fun c xs r => by rw [upd_ne (ntup c xs r)]; exact r
      rcases hc with rfl | hc
      · exact hbe
      · rintro rfl
        rcases he with z | z
        · exact nown c b hc z
        · rw [hc] at z; cases z; exact hb rfl
end

/-! ### kept unless tracked; of the frames at fs (the callers') the slots may change (an exception that passes writes there); of the records at ex (iterators) nothing is said -/
structure Un (fs ex : List Addr) (H H' : Hp) (h h' : Heap) : Prop where
  keep : ∀ b o, h.get? b = some o → H b = none → b ∉ fs → b ∉ ex → h'.get? b = some o
  slot : ∀ b o, h.get? b = some o → H b = none → b ∈ fs → b ∉ ex → ∃ sl, h'.get? b = some { o with slots := sl }
  free : ∀ b o, h.get? b = some o → H b = none → b ∉ ex → H' b = none
  there : ∀ b o, h.get? b = some o → b ∉ ex → ∃ o', h'.get? b = some o'
  tups : ∀ b xs, H b = some (.tup xs) → H' b = some (.tup xs)
  frzs : ∀ b o u, H b = some (.frz o u) → H' b = some (.frz o u)
  tbls : ∀ b ps, H b = some (.tbl ps) → ∃ more, H' b = some (.tbl (ps ++ more))
section
variable {fs fs' ex ex' : List Addr} {H H1 H2 : Hp} {h h1 h2 h' : Heap} {a x e : Addr} {o : HO}
theorem Un.any (u : Un fs ex H H1 h h1) {b : Addr} {ob : Obj} (q : h.get? b = some ob) (n : H b = none) (hx : b ∉ ex) : ∃ sl, h1.get? b = some { ob with slots := sl } := by
  by_cases hb : b ∈ fs
  · exact u.slot b ob q n hb hx
  · exact ⟨ob.slots, u.keep b ob q n hb hx⟩
theorem Un.kept (k : ∀ b u, h.get? b = some u → h'.get? b = some u) : Un fs ex H H h h' :=
  ⟨fun b ob q _ _ _ => k b ob q, fun b ob q _ _ _ => ⟨ob.slots, k b ob q⟩, fun _ _ _ n _ => n, fun b ob q _ => ⟨ob, k b ob q⟩, fun _ _ q => q, fun _ _ _ q => q, fun _ ps q => ⟨#[], by rw [q]; simp⟩⟩
theorem Un.refl : Un fs ex H H h h := Un.kept fun _ _ q => q
theorem Un.laid (k : ∀ b u, h.get? b = some u → h'.get? b = some u) (hp : h.objs.size ≤ a) (hn : H a = none) : Un fs ex H (upd H a o) h h' where
  keep := fun b u q _ _ _ => k b u q
  slot := fun b u q _ _ _ => ⟨u.slots, k b u q⟩
  free := fun b u q n _ => by rw [upd_ne (Nat.ne_of_lt (Nat.lt_of_lt_of_le (Heap.lt_size q) hp))]; exact n
  there := fun b u q _ => ⟨u, k b u q⟩
  tups := fun b xs q => by rw [upd_ne (ne_of_none q hn)]; exact q
  frzs := fun b u xs q => by rw [upd_ne (ne_of_none q hn)]; exact q
  tbls := fun b ps q => ⟨#[], by rw [upd_ne (ne_of_none q hn), q]; simp⟩
theorem Un.write (mu : Mut (H x)) (he : e = x ∨ H e = some (.own x)) (k : ∀ b u, b ≠ e → h.get? b = some u → h'.get? b = some u) (heo : ∃ u, h'.get? e = some u) : Un fs ex H (upd H x o) h h' := by
  have hx : ∀ b, H b = none → b ≠ x := fun b n z => by subst z; rw [n] at mu; exact mu
  have hb : ∀ b, H b = none → b ≠ e := fun b n z => by
    subst z
    rcases he with r | r
    · exact hx b n r
    · rw [n] at r; cases r
  have hm : ∀ b u, H b = some u → ¬ Mut (some u) → b ≠ x := fun b u q nm z => by subst z; rw [q] at mu; exact nm mu
  refine ⟨fun b u q n _ _ => k b u (hb b n) q, fun b u q n _ _ => ⟨u.slots, k b u (hb b n) q⟩, fun b u q n _ => by rw [upd_ne (hx b n)]; exact n, fun b u q _ => ?_,
    fun b xs q => by rw [upd_ne (hm b _ q fun z => z)]; exact q, fun b u xs q => by rw [upd_ne (hm b _ q fun z => z)]; exact q, fun b ps q => ⟨#[], by rw [upd_ne (hm b _ q fun z => z), q]; simp⟩⟩
  by_cases hbe : b = e
  · subst hbe; exact heo
  · exact ⟨u, k b u hbe q⟩
end

/-! ### the heap without what is tracked -/
def trk (h : Heap) (H : Hp) : List Addr := (List.range h.objs.size).filter fun a => (H a).isSome
def hidT (h : Heap) (H : Hp) : Heap := PySem.W.hideAll h (trk h H)
theorem hidT_size (h : Heap) (H : Hp) : (hidT h H).objs.size = h.objs.size := PySem.W.hideAll_size _ _
theorem hidT_get {h : Heap} {H : Hp} {b : Addr} {o : Obj} (e : h.get? b = some o) (n : H b = none) : (hidT h H).get? b = some o :=
  PySem.W.hideAll_get _ e fun hm => by
    have q : (H b).isSome = true := (List.mem_filter.mp hm).2
    rw [n] at q; simp at q
theorem of_hidT {h : Heap} {H : Hp} {b : Addr} {o : Obj} (e : (hidT h H).get? b = some o) : h.get? b = some o ∧ H b = none := by
  have e' : h.get? b = some o := PySem.W.of_hideAll (trk h H) e
  refine ⟨e', ?_⟩
  cases q : H b with
  | none => rfl
  | some x =>
    have hm : b ∈ trk h H := List.mem_filter.mpr ⟨List.mem_range.mpr (Heap.lt_size e'), by simp [q]⟩
    have z : (hidT h H).get? b = none := PySem.W.hideAll_none (trk h H) hm
    rw [z] at e; cases e

/-! ### OpenK's ledger, filled with every new object but one -/
end L2

namespace L2
open PySem PySem.Spec PyProof.Rows

/-- the module's facts, over the base: the heap at the law's entry without what is tracked there -/
structure Mod (K : PySem.W.Frag) (mg : Str → Option Value) (base : Heap) : Prop where
  kin : K.In base
  glob : base.Ns mainGlobals mg
  blt : ∃ mb, base.Ns builtinsNs mb ∧ ∀ x : Str, x ≠ "__name__" → mb x = bootBuiltins x
  nolimit : base.NoLimit

/-- the context: a def's body (or a comprehension's block) running. base: fixed through the whole law; s₀, H₀: the entry; outer: the frames whose slots others may change (a def's callers); stack: all frames that run;
   ex: iterators that were made ahead of the entry and are walked here (a comprehension's); fn: the names whose cells were made at the entry (a def: all; a comprehension's block: its own); calm: not within an except suite; pn: pins that every state bears; xe: what is wanted of an exception that leaves the code -/
structure Cx where
  prog : Program
  w : World
  K : PySem.W.Frag
  mg : Str → Option Value
  base : Heap
  A : Around
  N : List Str
  s₀ : Shared
  H₀ : Hp
  env : Env
  outer : List Env
  stack : List Env
  ex : List Addr
  fn : Str → Bool
  calm : Bool
  pn : List (Addr × Obj)
  xe : Value → Shared → Prop
/-- the callers' frames -/
def frs (l : List Env) : List Addr := l.filterMap (·.frame)
abbrev Cx.fs (X : Cx) : List Addr := frs X.outer

def Vis (sc : Scope) (x : Str) : Prop := sc.names.lookup x = some .local ∨ sc.names.lookup x = some .cell ∨ sc.names.lookup x = some .free
def Loc (sc : Scope) (x : Str) : Prop := sc.names.lookup x = some .local ∨ sc.names.lookup x = some .cell
def Look (env : Env) (h : Heap) (m : Str → Option Value) (x : Str) (u : Value) : Prop :=
  (env.kindOf x = some .local ∧ m x = some u) ∨ ((env.kindOf x = some .cell ∨ env.kindOf x = some .free) ∧ ∃ c, env.cells.lookup x = some c ∧ h.IsCell c (some u))

structure Cx.Ok (X : Cx) : Prop where
  mod : Mod X.K X.mg X.base
  kind : X.env.scope.kind = .function
  glob : X.env.globals = mainGlobals
  blt : X.env.builtins = builtinsNs
  above : X.s₀.heap.objs.size ≤ X.env.locals
  inj : ∀ x y c, X.env.cells.lookup x = some c → X.env.cells.lookup y = some c → x = y
  has : ∀ x, (X.env.kindOf x = some .cell ∨ X.env.kindOf x = some .free) → ∃ c, X.env.cells.lookup x = some c
  cab : ∀ x c, X.fn x = true → X.env.cells.lookup x = some c → X.s₀.heap.objs.size ≤ c
  hd : X.calm = true → X.A.handled = none
  frames : X.A.frames = some X.stack
  stk : X.stack = X.outer ∨ (X.stack = X.env :: X.outer ∧ X.env.frame = some X.env.locals)
  exf : ∀ b ∈ X.ex, b ≠ X.env.locals ∧ ∀ x c, X.env.cells.lookup x = some c → c ≠ b
  bs : ∀ b o, X.base.get? b = some o → X.s₀.heap.get? b = some o ∧ X.H₀ b = none
  bsz : X.base.objs.size ≤ X.s₀.heap.objs.size
  noex : ∀ b o, X.base.get? b = some o → b ∉ X.ex
  exfs : ∀ b ∈ X.ex, b ∉ X.fs
  funs : X.s₀.heap.FunFrames X.base X.outer
  frf : ∀ b ∈ X.fs, X.H₀ b = none

structure Inv (X : Cx) (pins : List (Addr × Obj)) (σ : List (Option V)) (H : Hp) (s : Shared) : Prop where
  ok : X.Ok
  os : s.os = X.s₀.os
  bare : AllBare s.gens
  base : Un X.fs X.ex X.H₀ H X.s₀.heap s.heap
  loc : ∃ m, s.heap.Ns X.env.locals m ∧ ∀ (i : Nat) (x : Str) (v : V), X.N[i]? = some x → σ[i]? = some (some v) → Vis X.env.scope x → ∃ u, RelV v u ∧ Look X.env s.heap m x u
  cell : ∀ x c, X.env.cells.lookup x = some c → ∃ v, s.heap.IsCell c v
  free : H X.env.locals = none
  freeC : ∀ x c, X.env.cells.lookup x = some c → H c = none
  pin : ∀ p ∈ X.pn ++ pins, s.heap.get? p.1 = some p.2 ∧ H p.1 = none ∧ p.1 ≠ X.env.locals ∧ p.1 ∉ X.fs ∧ ∀ v, p.2.data ≠ .cell v
  hok : HOk X.prog X.w H s.heap
  len : σ.length = X.N.length

section
variable {X : Cx} {pins : List (Addr × Obj)} {σ : List (Option V)} {H H' : Hp} {s : Shared} {h' : Heap}

theorem Cx.Ok.nofr (ok : X.Ok) {b : Addr} {o : Obj} (e : X.base.get? b = some o) : b ∉ X.fs := fun hb => by
  have := (ok.funs.mem hb).1
  rw [e] at this; cases this
theorem Inv.bs (I : Inv X pins σ H s) : ∀ b o, X.base.get? b = some o → s.heap.get? b = some o ∧ H b = none := fun b o e =>
  ⟨I.base.keep b o (I.ok.bs b o e).1 (I.ok.bs b o e).2 (I.ok.nofr e) (I.ok.noex b o e), I.base.free b o (I.ok.bs b o e).1 (I.ok.bs b o e).2 (I.ok.noex b o e)⟩
theorem Inv.bk (I : Inv X pins σ H s) : ∀ b o, X.base.get? b = some o → s.heap.get? b = some o := fun b o e => (I.bs b o e).1
theorem Inv.mod (I : Inv X pins σ H s) : Mod X.K X.mg X.base := I.ok.mod
theorem Inv.kIn (I : Inv X pins σ H s) : X.K.In s.heap := I.ok.mod.kin.keeps I.bk
theorem Inv.lt (I : Inv X pins σ H s) : X.env.locals < s.heap.objs.size := let ⟨_, hn, _⟩ := I.loc; hn.lt
theorem Inv.sz (I : Inv X pins σ H s) : X.s₀.heap.objs.size ≤ s.heap.objs.size := Nat.le_trans I.ok.above (Nat.le_of_lt I.lt)
theorem Inv.nofs (I : Inv X pins σ H s) {a : Addr} (h : s.heap.objs.size ≤ a) : a ∉ X.fs := fun hb => by
  obtain ⟨_, o, ho, _⟩ := I.ok.funs.mem hb
  exact absurd (Nat.lt_of_lt_of_le (Heap.lt_size ho) (Nat.le_trans I.sz h)) (Nat.lt_irrefl _)
theorem Inv.cne (I : Inv X pins σ H s) : ∀ x c, X.env.cells.lookup x = some c → c ≠ X.env.locals := fun x c e z => by
  obtain ⟨v, o, ho, hd⟩ := I.cell x c e
  obtain ⟨m, ⟨o', es, ep, ho', hd', _⟩, _⟩ := I.loc
  rw [z, ho'] at ho; cases ho; rw [hd'] at hd; cases hd
theorem Inv.funs (I : Inv X pins σ H s) : s.heap.FunFrames X.base X.outer := by
  have all : ∀ (l : List Env), (∀ b ∈ frs l, b ∈ X.fs) → X.s₀.heap.FunFrames X.base l → s.heap.FunFrames X.base l := by
    intro l
    induction l with
    | nil => intro _ _; trivial
    | cons env r ih =>
      intro hs hl
      obtain ⟨hk, ⟨L, o, hf, hn, ho, hd⟩, hr⟩ := hl
      have hL : L ∈ X.fs := hs L (by unfold frs; rw [List.filterMap_cons, hf]; exact List.mem_cons_self)
      obtain ⟨sl, e⟩ := I.base.slot L o ho (I.ok.frf L hL) hL fun z => I.ok.exfs L z hL
      exact ⟨hk, ⟨L, _, hf, hn, e, hd⟩, ih (fun b hb => hs b (by unfold frs; rw [List.filterMap_cons, hf]; exact List.mem_cons_of_mem _ hb)) hr⟩
  exact all X.outer (fun _ hb => hb) I.ok.funs

/-- the frames that run, for a call -/
theorem Inv.stack (I : Inv X pins σ H s) : s.heap.FunFrames X.base X.stack := by
  rcases I.ok.stk with e | ⟨e, hf⟩
  · rw [e]; exact I.funs
  · rw [e]
    obtain ⟨m, hn, _⟩ := I.loc
    refine .cons (by rw [I.ok.kind]; decide) hf hn ?_ I.funs
    exact Heap.get?_none_of_le (Nat.le_trans I.ok.bsz I.ok.above)
theorem Inv.stkSub (I : Inv X pins σ H s) : ∀ b ∈ frs X.stack, b ∈ X.env.locals :: X.fs := fun b hb => by
  rcases I.ok.stk with e | ⟨e, hf⟩
  · rw [e] at hb; exact List.mem_cons_of_mem _ hb
  · rw [e] at hb
    unfold frs at hb
    rw [List.filterMap_cons, hf] at hb
    exact hb
theorem Inv.stkFree (I : Inv X pins σ H s) : ∀ b ∈ frs X.stack, H b = none := fun b hb => by
  rcases List.mem_cons.mp (I.stkSub b hb) with e | hb
  · rw [e]; exact I.free
  · obtain ⟨_, o, ho, _⟩ := I.ok.funs.mem hb
    exact I.base.free b o ho (I.ok.frf b hb) fun z => I.ok.exfs b z hb

/-- THE STEP: the untracked objects but the frame and the records at ch are kept (the callers' frames up to slots), the frame's map is kept, the new abstract heap is held -/
theorem Inv.step {g' : Array GenState} {t' : Nat} {d' : Drawn} {ch : List Addr} (I : Inv X pins σ H s)
    (hch : ∀ b ∈ ch, (b ∈ X.ex ∨ X.s₀.heap.objs.size ≤ b) ∧ b ≠ X.env.locals ∧ (∀ x c, X.env.cells.lookup x = some c → c ≠ b) ∧ ∀ p ∈ X.pn ++ pins, p.1 ≠ b)
    (keep : ∀ b o, b ≠ X.env.locals → b ∉ X.fs → b ∉ ch → s.heap.get? b = some o → H b = none → h'.get? b = some o)
    (slot : ∀ b o, b ≠ X.env.locals → b ∈ X.fs → b ∉ ch → s.heap.get? b = some o → H b = none → ∃ sl, h'.get? b = some { o with slots := sl }) (free : ∀ b o, b ∉ ch → s.heap.get? b = some o → H b = none → H' b = none)
    (there : ∀ b o, b ∉ ch → s.heap.get? b = some o → ∃ o', h'.get? b = some o')
    (tups : ∀ b xs, H b = some (.tup xs) → H' b = some (.tup xs)) (frzs : ∀ b o u, H b = some (.frz o u) → H' b = some (.frz o u)) (tbls : ∀ b ps, H b = some (.tbl ps) → ∃ more, H' b = some (.tbl (ps ++ more)))
    (ns : ∀ m, s.heap.Ns X.env.locals m → h'.Ns X.env.locals m) (hok : HOk X.prog X.w H' h') (hg : AllBare g') :
    Inv X pins σ H' { s with heap := h', gens := g', drawn := d', toks := t' } := by
  have neL : ∀ b o, X.s₀.heap.get? b = some o → b ≠ X.env.locals := fun b o e => Nat.ne_of_lt (Nat.lt_of_lt_of_le (Heap.lt_size e) I.ok.above)
  have neC : ∀ b o, X.s₀.heap.get? b = some o → b ∉ X.ex → b ∉ ch := fun b o e hx hb => by
    rcases (hch b hb).1 with z | z
    · exact hx z
    · exact absurd (Nat.lt_of_lt_of_le (Heap.lt_size e) z) (Nat.lt_irrefl _)
  have cellK : ∀ x c, X.env.cells.lookup x = some c → ∀ v, s.heap.IsCell c v → h'.IsCell c v := fun x c e v ⟨o, ho, hd⟩ => by
    have nch : c ∉ ch := fun z => (hch c z).2.2.1 x c e rfl
    by_cases hc : c ∈ X.fs
    · obtain ⟨sl, q⟩ := slot c o (I.cne x c e) hc nch ho (I.freeC x c e)
      exact ⟨_, q, hd⟩
    · exact ⟨o, keep c o (I.cne x c e) hc nch ho (I.freeC x c e), hd⟩
  refine ⟨I.ok, I.os, hg, ⟨fun b o e n hb hx => ?_, fun b o e n hb hx => ?_, fun b o e n hx => ?_, fun b o e hx => ?_, fun b xs e => tups b xs (I.base.tups b xs e), fun b o xs e => frzs b o xs (I.base.frzs b o xs e), fun b ps e => ?_⟩, ?_, fun x c e => ?_, ?_, fun x c e => ?_, fun p hp => ?_, hok, I.len⟩
  · exact keep b o (neL b o e) hb (neC b o e hx) (I.base.keep b o e n hb hx) (I.base.free b o e n hx)
  · obtain ⟨sl, e1⟩ := I.base.slot b o e n hb hx
    obtain ⟨sl', e2⟩ := slot b _ (neL b o e) hb (neC b o e hx) e1 (I.base.free b o e n hx)
    exact ⟨sl', e2⟩
  · obtain ⟨o', e1⟩ := I.base.there b o e hx
    exact free b o' (neC b o e hx) e1 (I.base.free b o e n hx)
  · obtain ⟨o', e1⟩ := I.base.there b o e hx
    exact there b o' (neC b o e hx) e1
  · obtain ⟨m1, e1⟩ := I.base.tbls b ps e
    obtain ⟨m2, e2⟩ := tbls b _ e1
    exact ⟨m1 ++ m2, by rw [e2, Array.append_assoc]⟩
  · obtain ⟨m, hn, hl⟩ := I.loc
    refine ⟨m, ns m hn, fun i x v e1 e2 e3 => ?_⟩
    obtain ⟨u, r, l⟩ := hl i x v e1 e2 e3
    refine ⟨u, r, ?_⟩
    rcases l with l | ⟨k, c, e, z⟩
    · exact .inl l
    · exact .inr ⟨k, c, e, cellK x c e _ z⟩
  · obtain ⟨v, z⟩ := I.cell x c e
    exact ⟨v, cellK x c e v z⟩
  · obtain ⟨m, ⟨o, _, _, ho, _⟩, _⟩ := I.loc
    exact free _ o (fun z => (hch _ z).2.1 rfl) ho I.free
  · obtain ⟨v, o, ho, hd⟩ := I.cell x c e
    exact free c o (fun z => (hch c z).2.2.1 x c e rfl) ho (I.freeC x c e)
  · obtain ⟨e, n, ne, nf, d⟩ := I.pin p hp
    have nch : p.1 ∉ ch := fun z => (hch p.1 z).2.2.2 p hp rfl
    exact ⟨keep p.1 p.2 ne nf nch e n, free p.1 p.2 nch e n, ne, nf, d⟩
/-- .. where the frame's own object is kept too -/
theorem Inv.un {t' : Nat} (I : Inv X pins σ H s) (u : Un X.fs [] H H' s.heap h') (hok : HOk X.prog X.w H' h') : Inv X pins σ H' { s with heap := h', toks := t' } := by
  obtain ⟨m, ⟨o, es, ep, ho, r⟩, _⟩ := id I.loc
  obtain ⟨sl, hL⟩ := u.any ho I.free (by simp)
  exact I.step (g' := s.gens) (d' := s.drawn) (ch := []) (fun _ z => nomatch z) (fun b o _ hb _ e n => u.keep b o e n hb (by simp)) (fun b o _ hb _ e n => u.slot b o e n hb (by simp)) (fun b o _ e n => u.free b o e n (by simp)) (fun b o _ e => u.there b o e (by simp)) u.tups u.frzs u.tbls (fun m' hm => by
    obtain ⟨o', es', ep', ho', r'⟩ := hm
    rw [ho] at ho'; cases ho'
    exact ⟨_, es', ep', hL, r'⟩) hok I.bare
/-- behind a call (or a comprehension's block): the slots of this frame may have changed too, the records at ch may have turned -/
theorem Inv.call {g' : Array GenState} {t' : Nat} {d' : Drawn} {ch : List Addr} (I : Inv X pins σ H s) (u : Un (frs X.stack) ch H H' s.heap h') (hok : HOk X.prog X.w H' h') (hg : AllBare g')
    (hch : ∀ b ∈ ch, (b ∈ X.ex ∨ X.s₀.heap.objs.size ≤ b) ∧ b ≠ X.env.locals ∧ (∀ x c, X.env.cells.lookup x = some c → c ≠ b) ∧ ∀ p ∈ X.pn ++ pins, p.1 ≠ b) :
    Inv X pins σ H' { s with heap := h', gens := g', drawn := d', toks := t' } := by
  obtain ⟨m, ⟨o, es, ep, ho, r⟩, _⟩ := id I.loc
  obtain ⟨sl, hL⟩ := u.any ho I.free fun z => (hch _ z).2.1 rfl
  exact I.step (ch := ch) hch (fun b o hL hb hc e n => u.keep b o e n (fun z => (List.mem_cons.mp (I.stkSub b z)).elim hL hb) hc) (fun b o _ _ hc e n => u.any e n hc) (fun b o hc e n => u.free b o e n hc) (fun b o hc e => u.there b o e hc) u.tups u.frzs u.tbls (fun m' hm => by
    obtain ⟨o', es', ep', ho', r'⟩ := hm
    rw [ho] at ho'; cases ho'
    exact ⟨_, es', ep', hL, r'⟩) hok hg
/-- an untracked record of ours (an iterator) has turned -/
theorem Inv.turned {t' : Nat} {it : Addr} (I : Inv X pins σ H s) (k : ∀ b o, b ≠ it → s.heap.get? b = some o → h'.get? b = some o) (hn : H it = none) (hL : it ≠ X.env.locals)
    (h1 : it ∈ X.ex ∨ X.s₀.heap.objs.size ≤ it) (h2 : ∀ x c, X.env.cells.lookup x = some c → c ≠ it) (h3 : ∀ p ∈ X.pn ++ pins, p.1 ≠ it) : Inv X pins σ H { s with heap := h', toks := t' } := by
  have nit : ∀ b u, H b = some u → b ≠ it := fun b u e z => by rw [z, hn] at e; cases e
  refine I.step (g' := s.gens) (d' := s.drawn) (ch := [it]) (fun b hb => ?_) (fun b o _ _ hc e _ => k b o (fun z => hc (by simp [z])) e) (fun b o _ _ hc e _ => ⟨o.slots, k b o (fun z => hc (by simp [z])) e⟩) (fun _ _ _ _ n => n)
    (fun b o hc e => ⟨o, k b o (fun z => hc (by simp [z])) e⟩) (fun _ _ e => e) (fun _ _ _ e => e) (fun b ps e => ⟨#[], by rw [e]; simp⟩) (fun m hm => ?_) (fun b u e => ?_) I.bare
  · have e : b = it := by simpa using hb
    subst e
    exact ⟨h1, hL, h2, h3⟩
  · obtain ⟨o, es, ep, ho, r⟩ := hm
    exact ⟨o, es, ep, k _ o (Ne.symm hL) ho, r⟩
  · refine (I.hok b u e).stay (fun c v hc q => k c v ?_ q) (fun _ q => q) fun _ _ q => q
    rcases hc with z | z
    · rw [z]; exact nit b u e
    · exact nit c _ z
theorem Inv.tok (I : Inv X pins σ H s) (t : Nat) : Inv X pins σ H { s with toks := t } := I.un (h' := s.heap) (t' := t) Un.refl I.hok
/-- all objects kept -/
theorem Inv.kept {t' : Nat} (I : Inv X pins σ H s) (k : ∀ b u, s.heap.get? b = some u → h'.get? b = some u) : Inv X pins σ H { s with heap := h', toks := t' } := I.un (Un.kept k) (I.hok.kept k)
/-- a new object laid and tracked -/
theorem Inv.laid {a : Addr} {o : HO} {t' : Nat} (I : Inv X pins σ H s) (k : ∀ b u, s.heap.get? b = some u → h'.get? b = some u) (hp : s.heap.objs.size ≤ a) (new : ObjOk X.prog X.w (upd H a o) h' a o) :
    Inv X pins σ (upd H a o) { s with heap := h', toks := t' } := I.un (Un.laid k hp (I.hok.fresh hp)) (I.hok.laid k hp new)
/-- an object written -/
theorem Inv.write {x e : Addr} {o : HO} {t' : Nat} (I : Inv X pins σ H s) (mu : Mut (H x)) (he : e = x ∨ H e = some (.own x)) (k : ∀ b u, b ≠ e → s.heap.get? b = some u → h'.get? b = some u) (heo : ∃ u, h'.get? e = some u)
    (new : ObjOk X.prog X.w (upd H x o) h' x o) : Inv X pins σ (upd H x o) { s with heap := h', toks := t' } := I.un (Un.write mu he k heo) (I.hok.write mu he k heo new)
theorem Inv.pins_of {pins' : List (Addr × Obj)} (I : Inv X pins σ H s) (h : ∀ p ∈ pins', s.heap.get? p.1 = some p.2 ∧ H p.1 = none ∧ p.1 ≠ X.env.locals ∧ p.1 ∉ X.fs ∧ ∀ v, p.2.data ≠ .cell v) : Inv X pins' σ H s :=
  ⟨I.ok, I.os, I.bare, I.base, I.loc, I.cell, I.free, I.freeC, fun p hp => (List.mem_append.mp hp).elim (fun z => I.pin p (List.mem_append_left _ z)) (h p), I.hok, I.len⟩

theorem nodup_ix {N : List Str} (hN : N.Nodup) {i j : Nat} {x : Str} (a : N[i]? = some x) (b : N[j]? = some x) : i = j := by
  obtain ⟨h1, e1⟩ := List.getElem?_eq_some_iff.mp a
  obtain ⟨h2, e2⟩ := List.getElem?_eq_some_iff.mp b
  exact (List.getElem_inj hN).mp (e1.trans e2.symm)

/-- a name is stored; what changed -/
theorem store_ok2 {M : Model} {A : Around} {E : Value → Shared → Prop} {i : Nat} {x : Str} {v : V} {u : Value} {Q : Unit → Shared → Prop} (I : Inv X pins σ H s) (hN : X.N.Nodup) (hi : X.N[i]? = some x) (hx : Loc X.env.scope x) (r : RelV v u)
    (h : ∀ s', Inv X pins (σ.set i (some v)) H s' → (∃ a, Heap.SameBut a s.heap s'.heap ∧ (a = X.env.locals ∨ X.env.cells.lookup x = some a)) → Q () s') (hf : X.fn x = true ∨ X.env.scope.names.lookup x = some .local := by first | exact .inl rfl | exact .inr rfl | assumption) : wpAny M A (storeName X.env x u) Q E s := by
  obtain ⟨m, hn, hl⟩ := id I.loc
  have hcls : (X.env.scope.kind == .class || (X.env.scope.kind == .module && X.env.locals != X.env.globals)) = false := by rw [I.ok.kind]; rfl
  have hiσ : i < σ.length := by rw [I.len]; exact (List.getElem?_eq_some_iff.mp hi).1
  have cne := I.cne
  have tracked : ∀ {a : Addr} {h' : Heap}, (∃ o, s.heap.get? a = some o ∧ H a = none) → Heap.SameBut a s.heap h' → HOk X.prog X.w H h' := fun {a h'} ha hs b ob e => by
    obtain ⟨_, _, hfree⟩ := ha
    refine (I.hok b ob e).stay (fun c w' hc q => (hs.2 c ?_).trans q) (fun _ q => q) fun _ _ q => q
    rintro rfl
    rcases hc with rfl | hc
    · rw [hfree] at e; cases e
    · rw [hfree] at hc; cases hc
  rcases hx with hk | hk
  · refine wpAny_storeName_local hk hn (fun h' hn' hs => ?_) hcls
    obtain ⟨oL, _, _, hoL, _⟩ := id hn
    refine h _ ⟨I.ok, I.os, I.bare, ⟨fun b o e n hb hx => ?_, fun b o e n hb hx => ?_, I.base.free, fun b o e hx => ?_, I.base.tups, I.base.frzs, I.base.tbls⟩, ⟨_, hn', fun j y v' e1 e2 e3 => ?_⟩, fun y c e => ?_, I.free, I.freeC, fun p hp => ?_, tracked ⟨oL, hoL, I.free⟩ hs, by simpa using I.len⟩ ⟨_, hs, .inl rfl⟩
    · exact (hs.2 b (Nat.ne_of_lt (Nat.lt_of_lt_of_le (Heap.lt_size e) I.ok.above))).trans (I.base.keep b o e n hb hx)
    · obtain ⟨sl, e1⟩ := I.base.slot b o e n hb hx
      exact ⟨sl, (hs.2 b (Nat.ne_of_lt (Nat.lt_of_lt_of_le (Heap.lt_size e) I.ok.above))).trans e1⟩
    · obtain ⟨o', e1⟩ := I.base.there b o e hx
      exact ⟨o', (hs.2 b (Nat.ne_of_lt (Nat.lt_of_lt_of_le (Heap.lt_size e) I.ok.above))).trans e1⟩
    · by_cases hj : j = i
      · subst hj
        rw [hi] at e1; cases e1
        rw [List.getElem?_set_self hiσ] at e2
        cases e2
        exact ⟨u, r, .inl ⟨hk, by simp⟩⟩
      · rw [List.getElem?_set_ne (Ne.symm hj)] at e2
        obtain ⟨u', r', q⟩ := hl j y v' e1 e2 e3
        refine ⟨u', r', ?_⟩
        rcases q with ⟨k, e⟩ | ⟨k, c, e, z⟩
        · refine .inl ⟨k, ?_⟩
          have : y ≠ x := fun e => hj (nodup_ix hN e1 (e ▸ hi))
          simp [this, e]
        · exact .inr ⟨k, c, e, z.sameBut hs (cne y c e)⟩
    · obtain ⟨w', z⟩ := I.cell y c e
      exact ⟨w', z.sameBut hs (cne y c e)⟩
    · obtain ⟨e, n, ne, nf, d⟩ := I.pin p hp
      exact ⟨(hs.2 p.1 ne).trans e, n, ne, nf, d⟩
  · have hfn : X.fn x = true := by
      rcases hf with z | z
      · exact z
      · rw [z] at hk; cases hk
    obtain ⟨c, hc⟩ := I.ok.has x (.inl hk)
    obtain ⟨w', z⟩ := I.cell x c hc
    refine wpAny_storeName_cell I.ok.kind hk hc z (fun h' hc' hs => ?_)
    obtain ⟨oc, hoc, hocd⟩ := id z
    refine h { s with heap := h' } ⟨I.ok, I.os, I.bare, ⟨fun b o e n hb hx => ?_, fun b o e n hb hx => ?_, I.base.free, fun b o e hx => ?_, I.base.tups, I.base.frzs, I.base.tbls⟩, ⟨m, hn.sameBut hs (Ne.symm (cne x c hc)), fun j y v' e1 e2 e3 => ?_⟩, fun y c' e => ?_, I.free, I.freeC, fun p hp => ?_, tracked ⟨oc, hoc, I.freeC x c hc⟩ hs, by simpa using I.len⟩ ⟨c, hs, .inr hc⟩
    · exact (hs.2 b (Nat.ne_of_lt (Nat.lt_of_lt_of_le (Heap.lt_size e) (I.ok.cab x c hfn hc)))).trans (I.base.keep b o e n hb hx)
    · obtain ⟨sl, e1⟩ := I.base.slot b o e n hb hx
      exact ⟨sl, (hs.2 b (Nat.ne_of_lt (Nat.lt_of_lt_of_le (Heap.lt_size e) (I.ok.cab x c hfn hc)))).trans e1⟩
    · obtain ⟨o', e1⟩ := I.base.there b o e hx
      exact ⟨o', (hs.2 b (Nat.ne_of_lt (Nat.lt_of_lt_of_le (Heap.lt_size e) (I.ok.cab x c hfn hc)))).trans e1⟩
    · by_cases hj : j = i
      · subst hj
        rw [hi] at e1; cases e1
        rw [List.getElem?_set_self hiσ] at e2
        cases e2
        exact ⟨u, r, .inr ⟨.inl hk, c, hc, hc'⟩⟩
      · rw [List.getElem?_set_ne (Ne.symm hj)] at e2
        obtain ⟨u', r', q⟩ := hl j y v' e1 e2 e3
        refine ⟨u', r', ?_⟩
        rcases q with q | ⟨k, c', e, z'⟩
        · exact .inl q
        · refine .inr ⟨k, c', e, z'.sameBut hs ?_⟩
          rintro rfl
          exact hj (nodup_ix hN e1 (I.ok.inj _ _ _ e hc ▸ hi))
    · by_cases hcc : c' = c
      · subst hcc; exact ⟨_, hc'⟩
      · obtain ⟨w2, z2⟩ := I.cell y c' e
        exact ⟨w2, z2.sameBut hs hcc⟩
    · obtain ⟨e, n, ne, nf, d⟩ := I.pin p hp
      refine ⟨(hs.2 p.1 ?_).trans e, n, ne, nf, d⟩
      intro q
      rw [q, hoc] at e
      have q' : oc = p.2 := Option.some.inj e
      exact d w' (by rw [← q']; exact hocd)
theorem store_ok {M : Model} {A : Around} {E : Value → Shared → Prop} {i : Nat} {x : Str} {v : V} {u : Value} {Q : Unit → Shared → Prop} (I : Inv X pins σ H s) (hN : X.N.Nodup) (hi : X.N[i]? = some x) (hx : Loc X.env.scope x) (r : RelV v u)
    (h : ∀ s', Inv X pins (σ.set i (some v)) H s' → Q () s') (hf : X.fn x = true ∨ X.env.scope.names.lookup x = some .local := by first | exact .inl rfl | exact .inr rfl | assumption) : wpAny M A (storeName X.env x u) Q E s :=
  store_ok2 I hN hi hx r (fun s' I' _ => h s' I') hf
/-- behind a call or a block, the state as it is -/
theorem Inv.call' {s' : Shared} {ch : List Addr} (I : Inv X pins σ H s) (ho : s'.os = s.os) (u : Un (frs X.stack) ch H H' s.heap s'.heap) (hok : HOk X.prog X.w H' s'.heap) (hg : AllBare s'.gens)
    (hch : ∀ b ∈ ch, (b ∈ X.ex ∨ X.s₀.heap.objs.size ≤ b) ∧ b ≠ X.env.locals ∧ (∀ x c, X.env.cells.lookup x = some c → c ≠ b) ∧ ∀ p ∈ X.pn ++ pins, p.1 ≠ b) : Inv X pins σ H' s' := by
  obtain ⟨h', g', d', t', o'⟩ := s'
  have e : o' = s.os := ho
  subst e
  exact I.call (g' := g') (t' := t') (d' := d') u hok hg hch
end

/-! ### the judgements -/
/-- an exception: its class, its own dict's address (where it has one), the abstract heap behind it -/
abbrev XK := Value → Option Addr → Hp → Prop
abbrev St := List (Option V)
abbrev VK := V → Hp → Prop
/-- an expression's reading; a test's; an argument list's -/
abbrev TE := St → Hp → VK → Prop
abbrev TT := St → Hp → (Bool → Hp → Prop) → Prop
abbrev TA := St → Hp → (List V → Hp → Prop) → Prop
/-- what is wanted behind a statement -/
structure Ends where
  nx : St → Hp → Prop
  rt : VK
  bk : St → Hp → Prop := fun _ _ => False
  ct : St → Hp → Prop := fun _ _ => False
abbrev TS := Ends → St → Hp → Prop

def EP (X : Cx) (pins : List (Addr × Obj)) (σ : St) (Q : VK) (u : Value) (s' : Shared) : Prop := ∃ v H', Inv X pins σ H' s' ∧ RelV v u ∧ Q v H'
def TP (X : Cx) (pins : List (Addr × Obj)) (σ : St) (Q : Bool → Hp → Prop) (b : Bool) (s' : Shared) : Prop := ∃ H', Inv X pins σ H' s' ∧ Q b H'
def AP (X : Cx) (pins : List (Addr × Obj)) (σ : St) (Q : List V → Hp → Prop) (us : List Value) (s' : Shared) : Prop := ∃ vs H', Inv X pins σ H' s' ∧ Vals vs us ∧ Q vs H'
def SP (X : Cx) (pins : List (Addr × Obj)) (D : Ends) (f : Flow) (s' : Shared) : Prop :=
  match f with
  | .next => ∃ σ' H', Inv X pins σ' H' s' ∧ D.nx σ' H'
  | .brk => ∃ σ' H', Inv X pins σ' H' s' ∧ D.bk σ' H'
  | .cont => ∃ σ' H', Inv X pins σ' H' s' ∧ D.ct σ' H'
  | .ret u => ∃ v σ' H', Inv X pins σ' H' s' ∧ RelV v u ∧ D.rt v H'

def PE (X : Cx) (e : Expr) (t : TE) : Prop :=
  ∀ (pins : List (Addr × Obj)) (s : Shared) (σ : St) (H : Hp) (Q : VK), Inv X pins σ H s → t σ H Q → wpAny (model X.prog X.w) X.A (eval e X.env) (EP X pins σ Q) X.xe s
def PT (X : Cx) (e : Expr) (t : TT) : Prop :=
  ∀ (pins : List (Addr × Obj)) (s : Shared) (σ : St) (H : Hp) (Q : Bool → Hp → Prop), Inv X pins σ H s → t σ H Q → wpAny (model X.prog X.w) X.A (isTrue e X.env (eval e X.env)) (TP X pins σ Q) X.xe s
/-- a test whatever its 'whole' is (and, or) -/
def PW (X : Cx) (e : Expr) (t : TT) : Prop :=
  ∀ (whole : Sem Value) (pins : List (Addr × Obj)) (s : Shared) (σ : St) (H : Hp) (Q : Bool → Hp → Prop), Inv X pins σ H s → t σ H Q → wpAny (model X.prog X.w) X.A (isTrue e X.env whole) (TP X pins σ Q) X.xe s
theorem PW.pt {X : Cx} {e : Expr} {t : TT} (h : PW X e t) : PT X e t := h _
/-- an argument list (no star), from the left -/
def PA (X : Cx) (es : List Expr) (t : TA) : Prop :=
  ∀ (pos : Pos) (pins : List (Addr × Obj)) (s : Shared) (σ : St) (H : Hp) (Q : List V → Hp → Prop), Inv X pins σ H s → t σ H Q → wpAny (model X.prog X.w) X.A (spliced (backTo pos (starEach es X.env))) (AP X pins σ Q) X.xe s
def PS (X : Cx) (st : Stmt) (t : TS) : Prop :=
  ∀ (pins : List (Addr × Obj)) (s : Shared) (σ : St) (H : Hp) (D : Ends), Inv X pins σ H s → t D σ H → wpAny (model X.prog X.w) X.A (exec st X.env) (SP X pins D) X.xe s
def PSs (X : Cx) (st : List Stmt) (t : TS) : Prop :=
  ∀ (pins : List (Addr × Obj)) (s : Shared) (σ : St) (H : Hp) (D : Ends), Inv X pins σ H s → t D σ H → wpAny (model X.prog X.w) X.A (execs st X.env) (SP X pins D) X.xe s
/-- weaken the end -/
theorem thn {α : Type} {t : Sem α} {Q Q' : α → Shared → Prop} {M : Model} {A : Around} {E : Value → Shared → Prop} {s : Shared} (h : wpAny M A t Q E s) (hQ : ∀ a s, Q a s → Q' a s) : wpAny M A t Q' E s := wpAny_mono h hQ fun _ _ x => x
end L2

namespace L2
open PySem PySem.Spec PyProof.Rows
section
variable {X : Cx}

/-! ### names and constants -/
def tVar (i : Nat) : TE := fun σ H Q => ∃ v, σ[i]? = some (some v) ∧ Q v H
def tC (v : V) : TE := fun _ H Q => Q v H
theorem pe_var {i : Nat} {x : Str} {pos : Pos} (hN : X.N[i]? = some x) (hv : Vis X.env.scope x) (hd : (x == ("__debug__" : Str)) = false := by decide) (hcd : (x == ("__classdict__" : Str)) = false := by decide) : PE X (.Name x pos) (tVar i) := by
  intro pins s σ H Q I h
  obtain ⟨v, e, h⟩ := h
  obtain ⟨m, hn, hl⟩ := I.loc
  obtain ⟨u, r, l⟩ := hl i x v hN e hv
  have fin : EP X pins σ Q u s := ⟨v, H, I, r, h⟩
  rcases l with ⟨hk, hm⟩ | ⟨hk, c, hc, hcell⟩
  · exact wpAny_Name (wpAny_loadName_local I.ok.kind hk hn hm fin) hd
  · rcases hk with hk | hk
    · exact wpAny_Name (wpAny_loadName_cell I.ok.kind hk hc hcell fin) hd
    · exact wpAny_Name (wpAny_loadName_free I.ok.kind hk hc hcell fin hcd) hd
theorem pe_int {i j pos} : PE X (.Constant (.int i) j pos) (tC (.int i)) := fun _ _ _ H _ I h => wpAny_Constant_int ⟨.int i, H, I.tok _, ⟨_, rfl⟩, h⟩
theorem pe_bl {b j pos} : PE X (.Constant (.bool b) j pos) (tC (.bl b)) := fun _ _ _ H _ I h => Constant_bool ⟨.bl b, H, I, rfl, h⟩
theorem pe_non {j pos} : PE X (.Constant .none j pos) (tC .non) := fun _ _ _ H _ I h => Constant_none ⟨.non, H, I, rfl, h⟩
theorem pe_str {x j pos} : PE X (.Constant (.str x) j pos) (tC (.str x)) := fun _ _ _ H _ I h => Calls.Constant_str ⟨.str x, H, I.tok _, ⟨_, rfl⟩, h⟩

/-- a global name of the def -/
def Gl (X : Cx) (x : Str) : Prop := X.env.kindOf x = some .globalImplicit
theorem ld_glob {E : Value → Shared → Prop} {pins : List (Addr × Obj)} {s : Shared} {σ : St} {H : Hp} {x : Str} {u : Value} {pos : Pos} {Q : Value → Shared → Prop} (I : Inv X pins σ H s) (hg : Gl X x) (hm : X.mg x = some u) (h : Q u s)
    (hd : (x == ("__debug__" : Str)) = false := by decide) : wpAny (model X.prog X.w) X.A (eval (.Name x pos) X.env) Q E s :=
  Calls.Name_function_global I.ok.kind hg (Calls.loadGlobal_global (by rw [I.ok.glob]; exact I.mod.glob.keeps I.bk) hm h) hd
theorem ld_blt {E : Value → Shared → Prop} {pins : List (Addr × Obj)} {s : Shared} {σ : St} {H : Hp} {x : Str} {u : Value} {pos : Pos} {Q : Value → Shared → Prop} (I : Inv X pins σ H s) (hg : Gl X x) (hm : X.mg x = none) (hv : bootBuiltins x = some u) (h : Q u s)
    (hn : x ≠ "__name__" := by decide) (hd : (x == ("__debug__" : Str)) = false := by decide) : wpAny (model X.prog X.w) X.A (eval (.Name x pos) X.env) Q E s := by
  obtain ⟨mb, h1, h2⟩ := I.mod.blt
  exact Calls.Name_function_global I.ok.kind hg (Calls.loadGlobal_builtin (by rw [I.ok.glob]; exact I.mod.glob.keeps I.bk) hm (by rw [I.ok.blt]; exact h1.keeps I.bk) ((h2 x hn).trans hv) h) hd
/-- a module's constant, a class, a function, as a value -/
theorem pe_glob {x : Str} {v : V} {u : Value} {pos : Pos} (hg : Gl X x) (hm : X.mg x = some u) (r : RelV v u) (hd : (x == ("__debug__" : Str)) = false := by decide) : PE X (.Name x pos) (tC v) :=
  fun _ _ _ H _ I h => ld_glob I hg hm ⟨v, H, I, r, h⟩ hd
theorem pe_bltn {x : Str} {v : V} {u : Value} {pos : Pos} (hg : Gl X x) (hm : X.mg x = none) (hv : bootBuiltins x = some u) (r : RelV v u) (hn : x ≠ "__name__" := by decide) (hd : (x == ("__debug__" : Str)) = false := by decide) : PE X (.Name x pos) (tC v) :=
  fun _ _ _ H _ I h => ld_blt I hg hm hv ⟨v, H, I, r, h⟩ hn hd

/-! ### arithmetic -/
variable {a b : Expr} {ta tb : TE} {pos : Pos}
/-! ### comparisons -/
def PC (X : Cx) (op : CmpOp) (a b : Expr) (t : TE) : Prop :=
  ∀ (pins : List (Addr × Obj)) (s : Shared) (σ : St) (H : Hp) (Q : VK), Inv X pins σ H s → t σ H Q →
    wpAny (model X.prog X.w) X.A (eval a X.env) (fun v s₁ => wpAny (model X.prog X.w) X.A (eval b X.env) (fun u s₂ => wpAny (model X.prog X.w) X.A (compareOp op v u) (EP X pins σ Q) X.xe s₂) X.xe s₁) X.xe s
/-- a comparison as a value, as a test -/
def tB (t : TE) : TT := fun σ H Q => t σ H fun x H1 => ∃ c, x = .bl c ∧ Q c H1
theorem pt_cmp {op : CmpOp} {t : TE} (h : PC X op a b t) (h1 : behindInMarks op b = false := by first | exact nobehind _ (by decide) (by decide) | rfl) : PT X (.Compare a [op] [b] pos) (tB t) := by
  intro pins s σ H Q I hw
  refine wpAny_isTrue_Compare1 (thn (h pins s σ H _ I hw) fun v s1 h1 => thn h1 fun u s2 h2 => thn h2 fun c s3 ⟨x, H1, I1, r1, q1⟩ => ?_) h1
  obtain ⟨d, rfl, q⟩ := q1
  cases r1
  exact wpAny_truthy_bool ⟨H1, I1, q⟩
/-- an expression whose value is a bool, as a test -/
theorem pt_val {e : Expr} {t : TE} (h : PE X e t) (he : ∀ whole, isTrue e X.env whole = (do let v ← whole; standAt e.pos; holding [v] (truthy v)) := by intro _; rfl) : PT X e (tB t) := by
  intro pins s σ H Q I hw
  refine isTrue_plain (thn (h pins s σ H _ I hw) fun v s1 ⟨x, H1, I1, r1, q1⟩ => ?_) (he _)
  obtain ⟨d, rfl, q⟩ := q1
  cases r1
  exact wpAny_truthy_bool ⟨H1, I1, q⟩

/-! ### and, or, not -/
variable {tA tB' : TT} {rest : List Expr}
def tAnd (t u : TT) : TT := fun σ H Q => t σ H fun c H1 => if c = true then u σ H1 Q else Q false H1
def tOr (t u : TT) : TT := fun σ H Q => t σ H fun c H1 => if c = true then Q true H1 else u σ H1 Q
def tNot (t : TT) : TT := fun σ H Q => t σ H fun c H1 => Q (!c) H1
theorem pw_and1 (ha : PT X a tA) : PW X (.BoolOp .And [a] pos) tA := by
  intro wh pins s σ H Q I h
  refine isTrue_and (thn (ha pins s σ H Q I h) fun c s1 e => ?_)
  cases c with
  | true => exact isTrue_and_nil e
  | false => exact e
theorem pw_or1 (ha : PT X a tA) : PW X (.BoolOp .Or [a] pos) tA := by
  intro wh pins s σ H Q I h
  refine isTrue_or (thn (ha pins s σ H Q I h) fun c s1 e => ?_)
  cases c with
  | false => exact isTrue_or_nil e
  | true => exact e
theorem pw_and (ha : PT X a tA) (hb : PW X (.BoolOp .And (b :: rest) pos) tB') : PW X (.BoolOp .And (a :: b :: rest) pos) (tAnd tA tB') := by
  intro wh pins s σ H Q I h
  refine isTrue_and (thn (ha pins s σ H _ I h) fun c s1 ⟨H1, I1, q1⟩ => ?_)
  cases c with
  | true => exact hb wh pins s1 σ H1 Q I1 q1
  | false => exact ⟨H1, I1, q1⟩
theorem pw_or (ha : PT X a tA) (hb : PW X (.BoolOp .Or (b :: rest) pos) tB') : PW X (.BoolOp .Or (a :: b :: rest) pos) (tOr tA tB') := by
  intro wh pins s σ H Q I h
  refine isTrue_or (thn (ha pins s σ H _ I h) fun c s1 ⟨H1, I1, q1⟩ => ?_)
  cases c with
  | true => exact ⟨H1, I1, q1⟩
  | false => exact hb wh pins s1 σ H1 Q I1 q1
theorem pt_not (ha : PT X a tA) : PT X (.UnaryOp .Not a pos) (tNot tA) := by
  intro pins s σ H Q I h
  exact isTrue_not (ha pins s σ H (fun c H1 => Q (!c) H1) I h)
/-- .. as values (bools) -/
def tAndV (ta tb : TE) : TE := fun σ H Q => ta σ H fun x H1 => ∃ c, x = .bl c ∧ if c = true then tb σ H1 Q else Q (.bl false) H1
def tNotV (ta : TE) : TE := fun σ H Q => ta σ H fun x H1 => ∃ c, x = .bl c ∧ Q (.bl (!c)) H1
theorem pe_one {op} {t : TE} (h : PE X a t) : PE X (.BoolOp op [a] pos) t := fun pins s σ H Q I hw => BoolOp_one (h pins s σ H Q I hw)
theorem pe_and (ha : PE X a ta) (hb : PE X (.BoolOp .And (b :: rest) pos) tb) : PE X (.BoolOp .And (a :: b :: rest) pos) (tAndV ta tb) := by
  intro pins s σ H Q I h
  refine BoolOp_and (thn (ha pins s σ H _ I h) fun v s1 ⟨x, H1, I1, r1, q1⟩ => ?_)
  obtain ⟨c, rfl, q1⟩ := q1
  cases r1
  refine wpAny_truthy_bool ?_
  cases c with
  | true => exact hb pins s1 σ H1 Q I1 q1
  | false => exact ⟨.bl false, H1, I1, rfl, q1⟩
theorem pe_not (ha : PE X a ta) : PE X (.UnaryOp .Not a pos) (tNotV ta) := by
  intro pins s σ H Q I h
  refine UnaryOp_ (thn (ha pins s σ H _ I h) fun v s1 ⟨x, H1, I1, r1, q1⟩ => ?_)
  obtain ⟨c, rfl, q1⟩ := q1
  cases r1
  exact not_of (wpAny_truthy_bool ⟨.bl (!c), H1, I1, rfl, q1⟩)
/-- a if t else b -/
def tIf (t : TT) (ta tb : TE) : TE := fun σ H Q => t σ H fun c H1 => if c = true then ta σ H1 Q else tb σ H1 Q
theorem pe_ifExp {c : Expr} (hc : PT X c tA) (ha : PE X a ta) (hb : PE X b tb) : PE X (.IfExp c a b pos) (tIf tA ta tb) := by
  intro pins s σ H Q I h
  refine wpAny_IfExp (thn (hc pins s σ H _ I h) fun d s1 ⟨H1, I1, q1⟩ => ?_)
  cases d with
  | true => exact ha pins s1 σ H1 Q I1 q1
  | false => exact hb pins s1 σ H1 Q I1 q1
end
end L2

namespace L2
open PySem PySem.Spec PyProof.Rows

/-! ### a list, a tuple that is read: tracked, frozen, or an object of the module -/
def SqL (K : PySem.W.Frag) (H : Hp) (a : Addr) (xs : List V) : Prop :=
  Rd H a (.lst xs) ∨
    ∃ (o : Obj) (its : Array Value) (n : Nat), K.lookup a = some o ∧ o.cls = .type "list" ∧ o.dict = none ∧ o.data = .seq its n ∧ its.size ≤ sizeLine ∧ Vals xs its.toList
def SqT (K : PySem.W.Frag) (H : Hp) (a : Addr) (xs : List V) : Prop :=
  Rd H a (.tup xs) ∨
    ∃ (o : Obj) (its : Array Value) (n : Nat), K.lookup a = some o ∧ o.cls = .type "tuple" ∧ o.data = .seq its n ∧ its.size ≤ sizeLine ∧ Vals xs its.toList
def absV : Value → Option V
  | .none => some .non
  | .bool b => some (.bl b)
  | .int i _ => some (.int i)
  | .str x _ => some (.str x)
  | .bytes b _ => some (.byt b)
  | .float b _ => some (.flt b)
  | .ref a => some (.ref a)
  | .type n => some (.ty n)
  | _ => none
theorem RelV.abs {x : V} {u : Value} (r : RelV x u) : absV u = some x := by
  cases x with
  | non => cases r; rfl
  | bl _ => cases r; rfl
  | int _ => obtain ⟨t, rfl⟩ := r; rfl
  | str _ => obtain ⟨t, rfl⟩ := r; rfl
  | byt _ => obtain ⟨t, rfl⟩ := r; rfl
  | flt _ => obtain ⟨t, rfl⟩ := r; rfl
  | ref _ => cases r; rfl
  | ty _ => cases r; rfl
theorem RelV.inj {x y : V} {u : Value} (r : RelV x u) (q : RelV y u) : x = y := Option.some.inj (r.abs.symm.trans q.abs)
theorem Vals.inj : ∀ {xs ys : List V} {us : List Value}, Vals xs us → Vals ys us → xs = ys
  | _, _, _, .nil, .nil => rfl
  | _, _, _, .cons r t, .cons r' t' => by rw [r.inj r', Vals.inj t t']
section
variable {X : Cx} {pins : List (Addr × Obj)} {σ : St} {H : Hp} {s : Shared} {a : Addr} {xs ys : List V}
theorem SqL.of {K : PySem.W.Frag} (h : H a = some (.lst xs)) : SqL K H a xs := .inl (.inl h)
theorem SqT.of {K : PySem.W.Frag} (h : H a = some (.tup xs)) : SqT K H a xs := .inl (.inl h)
theorem Inv.list (I : Inv X pins σ H s) (h : SqL X.K H a xs) : ∃ its : List Value, Vals xs its ∧ PlainL s.heap a its.toArray ∧ xs.length ≤ sizeLine := by
  rcases h with h | ⟨o, its, n, hk, hc, hd, hs, hz, r⟩
  · obtain ⟨z, its, n, r, e⟩ := h.ok I.hok
    exact ⟨its, r, ⟨_, n, e, rfl, rfl, rfl⟩, z⟩
  · refine ⟨its.toList, r, ⟨o, n, I.kIn a o hk, hc, hd, by simpa using hs⟩, ?_⟩
    have e := r.length
    simp only [Array.length_toList] at e
    omega
theorem Inv.tuple (I : Inv X pins σ H s) (h : SqT X.K H a xs) : ∃ its : List Value, Vals xs its ∧ IsTup s.heap a its.toArray ∧ xs.length ≤ sizeLine := by
  rcases h with h | ⟨o, its, n, hk, hc, hs, hz, r⟩
  · obtain ⟨z, its, r, p⟩ := h.ok I.hok
    exact ⟨its, r, p, z⟩
  · refine ⟨its.toList, r, ⟨o, I.kIn a o hk, hc, n, by simpa using hs⟩, ?_⟩
    have e := r.length
    simp only [Array.length_toList] at e
    omega
theorem Inv.list_inj (I : Inv X pins σ H s) (h : SqL X.K H a xs) (h' : SqL X.K H a ys) : xs = ys := by
  obtain ⟨its, r, ⟨o, n, e, _, _, d⟩, _⟩ := I.list h
  obtain ⟨its', r', ⟨o', n', e', _, _, d'⟩, _⟩ := I.list h'
  rw [e] at e'; cases e'
  rw [d] at d'
  injection d' with d1 _
  have : its = its' := by simpa using congrArg Array.toList d1
  subst this
  exact r.inj r'
theorem Inv.tuple_inj (I : Inv X pins σ H s) (h : SqT X.K H a xs) (h' : SqT X.K H a ys) : xs = ys := by
  obtain ⟨its, r, ⟨o, e, _, n, d⟩, _⟩ := I.tuple h
  obtain ⟨its', r', ⟨o', e', _, n', d'⟩, _⟩ := I.tuple h'
  rw [e] at e'; cases e'
  rw [d] at d'
  injection d' with d1 _
  have : its = its' := by simpa using congrArg Array.toList d1
  subst this
  exact r.inj r'
end

/-! ### another wish about exceptions -/
abbrev Cx.wish (X : Cx) (E : Value → Shared → Prop) : Cx := { X with xe := E }
/-- no exception leaves -/
abbrev Cx.nox (X : Cx) : Cx := X.wish fun _ _ => False
theorem Cx.Ok.wish {X : Cx} (ok : X.Ok) (E : Value → Shared → Prop) : (X.wish E).Ok :=
  ⟨ok.mod, ok.kind, ok.glob, ok.blt, ok.above, ok.inj, ok.has, ok.cab, ok.hd, ok.frames, ok.stk, ok.exf, ok.bs, ok.bsz, ok.noex, ok.exfs, ok.funs, ok.frf⟩
theorem Cx.Ok.unwish {X : Cx} {E : Value → Shared → Prop} (ok : (X.wish E).Ok) : X.Ok :=
  ⟨ok.mod, ok.kind, ok.glob, ok.blt, ok.above, ok.inj, ok.has, ok.cab, ok.hd, ok.frames, ok.stk, ok.exf, ok.bs, ok.bsz, ok.noex, ok.exfs, ok.funs, ok.frf⟩
section
variable {X : Cx} {pins : List (Addr × Obj)} {σ : St} {H : Hp} {s : Shared} {E : Value → Shared → Prop}
theorem Inv.wish (I : Inv X pins σ H s) (E : Value → Shared → Prop) : Inv (X.wish E) pins σ H s := ⟨I.ok.wish E, I.os, I.bare, I.base, I.loc, I.cell, I.free, I.freeC, I.pin, I.hok, I.len⟩
theorem Inv.unwish (I : Inv (X.wish E) pins σ H s) : Inv X pins σ H s := ⟨I.ok.unwish, I.os, I.bare, I.base, I.loc, I.cell, I.free, I.freeC, I.pin, I.hok, I.len⟩
theorem SP.unwish {D : Ends} {f : Flow} {s' : Shared} (h : SP (X.wish E) pins D f s') : SP X pins D f s' := by
  cases f with
  | next => obtain ⟨σ', H', I, q⟩ := h; exact ⟨σ', H', I.unwish, q⟩
  | brk => obtain ⟨σ', H', I, q⟩ := h; exact ⟨σ', H', I.unwish, q⟩
  | cont => obtain ⟨σ', H', I, q⟩ := h; exact ⟨σ', H', I.unwish, q⟩
  | ret u => obtain ⟨v, σ', H', I, r, q⟩ := h; exact ⟨v, σ', H', I.unwish, r, q⟩
theorem PSs.nox {st : List Stmt} {t : TS} (h : PSs X.nox st t) : PSs X st t := fun pins s σ H D I hw =>
  wpAny_mono (h pins s σ H D (I.wish _) hw) (fun _ _ q => q.unwish) fun _ _ z => False.elim z
end

/-! ### blocks and small statements -/
section
variable {X : Cx} {st : Stmt} {rest : List Stmt} {t u : TS} {e : Expr} {te : TE} {pos : Pos}
def tNext : TS := fun D σ H => D.nx σ H
def tSeq (t u : TS) : TS := fun D σ H => t { D with nx := u D } σ H
theorem pss_nil : PSs X [] tNext := fun _ _ σ H _ I h => wpAny_execs_nil ⟨σ, H, I, h⟩
theorem pss_cons (h1 : PS X st t) (h2 : PSs X rest u) : PSs X (st :: rest) (tSeq t u) := by
  intro pins s σ H D I h
  refine wpAny_execs_cons (thn (h1 pins s σ H { D with nx := u D } I h) fun f s1 q => ?_)
  cases f with
  | next =>
    obtain ⟨σ', H', I', q⟩ := q
    exact h2 pins s1 σ' H' D I' q
  | ret v => exact q
  | brk => exact q
  | cont => exact q
theorem pss_one (h1 : PS X st t) : PSs X [st] t := by
  intro pins s σ H D I h
  refine wpAny_execs_cons (thn (h1 pins s σ H D I h) fun f s1 q => ?_)
  cases f with
  | next => exact wpAny_execs_nil q
  | ret v => exact q
  | brk => exact q
  | cont => exact q
/-- in a def's body nothing is shown -/
theorem Inv.quiet {pins : List (Addr × Obj)} {σ : St} {H : Hp} {s : Shared} (I : Inv X pins σ H s) : interactive X.env = false := by simp [interactive, I.ok.kind]
/-- an expression whose value is dropped -/
def tDrop (te : TE) : TS := fun D σ H => te σ H fun _ H1 => D.nx σ H1
theorem ps_expr (he : PE X e te) (hs : swapsWith e none pos.line X.env = pure false := by rfl) : PS X (.Expr e pos) (tDrop te) := by
  intro pins s σ H D I h
  exact wpAny_Expr_any (thn (he pins s σ H _ I h) fun v s1 ⟨x, H1, I1, r1, q1⟩ => ⟨σ, H1, I1, q1⟩) I.quiet hs
def tRet (te : TE) : TS := fun D σ H => te σ H D.rt
theorem ps_ret (he : PE X e te) : PS X (.Return (some e) pos) (tRet te) := by
  intro pins s σ H D I h
  exact wpAny_Return_some (thn (he pins s σ H _ I h) fun v s1 ⟨x, H1, I1, r1, q1⟩ => ⟨x, σ, H1, I1, r1, q1⟩)
def tIfS (c : TT) (t u : TS) : TS := fun D σ H => c σ H fun b H1 => if b = true then t D σ H1 else u D σ H1
theorem ps_if {c : Expr} {a b : List Stmt} {tc : TT} (hc : PT X c tc) (ha : PSs X a t) (hb : PSs X b u) : PS X (.If c a b pos) (tIfS tc t u) := by
  intro pins s σ H D I h
  refine wpAny_If (thn (hc pins s σ H _ I h) fun d s1 ⟨H1, I1, q1⟩ => ?_)
  cases d with
  | true => exact ha pins s1 σ H1 D I1 q1
  | false => exact hb pins s1 σ H1 D I1 q1
/-- code that the proof never comes to -/
def tNever : TS := fun _ _ _ => False
theorem ps_never : PS X st tNever := fun _ _ _ _ _ _ h => h.elim
end

/-! ### targets -/
abbrev TG := V → St → Hp → (St → Hp → Prop) → Prop
abbrev TGs := List V → St → Hp → (St → Hp → Prop) → Prop
def PG (X : Cx) (target : Expr) (t : TG) : Prop :=
  ∀ (pins : List (Addr × Obj)) (s : Shared) (σ : St) (H : Hp) (v : V) (u : Value) (Q : St → Hp → Prop), Inv X pins σ H s → RelV v u → t v σ H Q →
    wpAny (model X.prog X.w) X.A (assign target X.env u) (fun _ s' => ∃ σ' H', Inv X pins σ' H' s' ∧ Q σ' H') X.xe s
/-- several targets, one after another -/
def PGs (X : Cx) (ts : List Expr) (t : TGs) : Prop :=
  ∀ (pins : List (Addr × Obj)) (s : Shared) (σ : St) (H : Hp) (vs : List V) (us : List Value) (Q : St → Hp → Prop), Inv X pins σ H s → Vals vs us → t vs σ H Q →
    wpAny (model X.prog X.w) X.A (assignInOrder ((assignEach ts X.env).map (·.2)) us) (fun _ s' => ∃ σ' H', Inv X pins σ' H' s' ∧ Q σ' H') X.xe s
/-- o[i] = v, by values -/
abbrev TSet := V → V → V → Hp → (Hp → Prop) → Prop
def PSet (X : Cx) (t : TSet) : Prop :=
  ∀ (pins : List (Addr × Obj)) (s : Shared) (σ : St) (H : Hp) (o i v : V) (ov iv u : Value) (Q : Hp → Prop), Inv X pins σ H s → RelV o ov → RelV i iv → RelV v u → t o i v H Q →
    wpAny (model X.prog X.w) X.A (setItem ov iv u) (fun _ s' => ∃ H', Inv X pins σ H' s' ∧ Q H') X.xe s
section
variable {X : Cx} {pos : Pos}
def gName (i : Nat) : TG := fun v σ H Q => Q (σ.set i (some v)) H
theorem pg_name {i : Nat} {x : Str} (hN : X.N.Nodup) (hi : X.N[i]? = some x) (hx : Loc X.env.scope x) (hf : X.fn x = true ∨ X.env.scope.names.lookup x = some .local := by first | exact .inl rfl | exact .inr rfl | assumption) : PG X (.Name x pos) (gName i) := by
  intro pins s σ H v u Q I r h
  exact wpAny_assign_Name (store_ok I hN hi hx r (fun s' I' => ⟨_, H, I', h⟩) hf)
def gNil : TGs := fun vs σ H Q => vs = [] ∧ Q σ H
def gCons (t : TG) (u : TGs) : TGs := fun vs σ H Q => ∃ v r, vs = v :: r ∧ t v σ H fun σ' H' => u r σ' H' Q
theorem pgs_nil : PGs X [] gNil := by
  intro pins s σ H vs us Q I r h
  obtain ⟨e, h⟩ := h
  subst e
  cases r
  exact assignInOrder_nil ⟨σ, H, I, h⟩
theorem pgs_cons {e : Expr} {es : List Expr} {t : TG} {u : TGs} (h1 : PG X e t) (h2 : PGs X es u)
    (hs : (assignEach (e :: es) X.env).map (·.2) = assign e X.env :: (assignEach es X.env).map (·.2) := by rfl) : PGs X (e :: es) (gCons t u) := by
  intro pins s σ H vs us Q I r h
  obtain ⟨v, vr, e1, h⟩ := h
  subst e1
  cases r with
  | cons r rr =>
    rw [hs]
    refine assignInOrder_cons (thn (h1 pins s σ H _ _ _ I r h) fun _ s1 ⟨σ1, H1, I1, q1⟩ => ?_)
    exact h2 pins s1 σ1 H1 _ _ Q I1 rr q1
/-- (a, b, ..) = a tuple of that length -/
def gTup (K : PySem.W.Frag) (n : Nat) (t : TGs) : TG := fun v σ H Q => ∃ a xs, v = .ref a ∧ SqT K H a xs ∧ xs.length = n ∧ t xs σ H Q
theorem pg_tup {es : List Expr} {k : Nat} {t : TGs} {n : Nat} (hc : X.calm = true) (h : PGs X es t)
    (hn : (assignEach es X.env).length = n := by rfl) (hst : (assignEach es X.env).findIdx? (·.1) = none := by rfl) : PG X (.Tuple es k pos) (gTup X.K n t) := by
  intro pins s σ H v u Q I r hw
  obtain ⟨a, xs, e1, hq, hl, hw⟩ := hw
  subst e1
  cases r
  obtain ⟨its, rv, ht, hz⟩ := I.tuple hq
  refine assign_Tuple_tuple (I.ok.hd hc) ht (by simp [hn, ← hl, rv.length]) hst fun h' hx => ?_
  have I1 : Inv X pins σ H { s with heap := h' } := I.kept (t' := s.toks) fun b o e => hx b o (Nat.ne_of_lt (Heap.lt_size e)) e
  exact h pins _ σ H xs _ Q I1 (by simpa using rv) hw
/-- o[i] = .. -/
def gSub (to ti : TE) (t : TSet) : TG := fun v σ H Q => to σ H fun o H1 => ti σ H1 fun i H2 => t o i v H2 fun H3 => Q σ H3
theorem pg_sub {o i : Expr} {to ti : TE} {t : TSet} (ho : PE X o to) (hi : PE X i ti) (hs : PSet X t)
    (ha : ∀ v, assign (.Subscript o i pos) X.env v = (do
      let ov ← holding [v] (eval o X.env)
      let iv ← holding [v, ov] (eval i X.env)
      standAt pos
      holding [v, ov, iv] (setItem ov iv v)
      release [v, ov, iv] []) := by intro _; rfl) : PG X (.Subscript o i pos) (gSub to ti t) := by
  intro pins s σ H v u Q I r h
  rw [ha]
  refine wpAny_bind (wpAny_holding (thn (ho pins s σ H _ I h) fun ov s1 ⟨x, H1, I1, r1, q1⟩ => ?_))
  refine wpAny_bind (wpAny_holding (thn (hi pins s1 σ H1 _ I1 q1) fun iv s2 ⟨y, H2, I2, r2, q2⟩ => ?_))
  refine wpAny_bind (wpAny_standAt (wpAny_bind (wpAny_holding (thn (hs pins s2 σ H2 x y v ov iv u _ I2 r1 r2 r q2) fun _ s3 ⟨H3, I3, q3⟩ => ?_))))
  exact wpAny_release ⟨σ, H3, I3, q3⟩
/-- target = value -/
def tAsg (te : TE) (g : TG) : TS := fun D σ H => te σ H fun x H1 => g x σ H1 D.nx
theorem ps_asg {tg e : Expr} {te : TE} {g : TG} (he : PE X e te) (hg : PG X tg g) (hs : swapsWithSole [tg] e pos.line X.env = pure false := by rfl) (hw : swappedStores [tg] e X.env = pure none := by rfl)
    (h1 : (assignEach [tg] X.env).map (·.2) = [assign tg X.env] := by rfl) : PS X (.Assign [tg] e pos) (tAsg te g) := by
  intro pins s σ H D I h
  refine wpAny_Assign_stores (thn (he pins s σ H _ I h) fun v s1 ⟨x, H1, I1, r1, q1⟩ => ?_) hs hw
  rw [h1]
  exact thn (hg pins s1 σ H1 x v _ I1 r1 q1) fun _ s2 q => q
/-- name = value -/
theorem ps_set {i : Nat} {x : Str} {e : Expr} {te : TE} {pos' : Pos} (hN : X.N.Nodup) (hi : X.N[i]? = some x) (hx : Loc X.env.scope x) (he : PE X e te) (hs : swapsWith e (some (.Name x pos')) pos.line X.env = pure false := by rfl) (hf : X.fn x = true ∨ X.env.scope.names.lookup x = some .local := by first | exact .inl rfl | exact .inr rfl | assumption) :
    PS X (.Assign [.Name x pos'] e pos) (tAsg te (gName i)) := by
  intro pins s σ H D I h
  refine wpAny_Assign_Name (thn (he pins s σ H _ I h) fun v s1 ⟨y, H1, I1, r1, q1⟩ => ?_) hs
  exact store_ok I1 hN hi hx r1 (fun s2 I2 => ⟨_, H1, I2, q1⟩) hf
end

/-! ### while -/
section
variable {X : Cx} {pos : Pos}
/-- the invariant W with its measure -/
def tWhile (c : TT) (tb : TS) : TS := fun D σ H => ∃ W : Nat → St → Hp → Prop, (∃ m, W m σ H) ∧ ∀ m σ H, W m σ H →
  c σ H fun b H1 => if b = true then ∃ N : St → Hp → Prop, (∀ σ' H', N σ' H' → ∃ m', m' < m ∧ W m' σ' H') ∧ tb { D with nx := N, ct := N, bk := D.nx } σ H1 else D.nx σ H1
theorem ps_while {c : Expr} {body : List Stmt} {tc : TT} {tb : TS} (hp : PassesOwn (model X.prog X.w) X.A X.env X.xe) (hc : PT X c tc) (hb : PSs X body tb) : PS X (.While c body [] pos) (tWhile tc tb) := by
  intro pins s σ H D I h
  obtain ⟨W, ⟨m0, w0⟩, turn⟩ := h
  refine wpAny_While (codeAny_whileLoop (fun n s' => ∃ σ' H', Inv X pins σ' H' s' ∧ W n σ' H') ?_ m0 ⟨σ, H, I, w0⟩)
  rintro n s1 ⟨σ1, H1, I1, w1⟩
  refine wpAny_passesOwn hp (thn (hc pins s1 σ1 H1 _ I1 (turn n σ1 H1 w1)) fun b s2 ⟨H2, I2, q2⟩ => ?_)
  cases b with
  | true =>
    obtain ⟨N, hN, q2⟩ := q2
    rw [if_pos rfl]
    refine wpAny_passesOwn hp (thn (hb pins s2 σ1 H2 _ I2 q2) fun f s3 q3 => ?_)
    cases f with
    | next =>
      obtain ⟨σ3, H3, I3, n3⟩ := q3
      obtain ⟨m', hm, w3⟩ := hN σ3 H3 n3
      exact ⟨m', hm, σ3, H3, I3, w3⟩
    | cont =>
      obtain ⟨σ3, H3, I3, n3⟩ := q3
      obtain ⟨m', hm, w3⟩ := hN σ3 H3 n3
      exact ⟨m', hm, σ3, H3, I3, w3⟩
    | brk => exact q3
    | ret v => exact q3
  | false =>
    rw [if_neg Bool.false_ne_true]
    exact wpAny_execs_nil ⟨σ1, H2, I2, q2⟩
end

/-! ### what a loop or a comprehension walks -/
/-- at turn i: it yields x (the heap may grow), or it stops -/
structure It where
  go : Nat → Hp → Prop
  yld : Nat → Hp → V → Hp → Prop
  stop : Nat → Hp → Prop
/-- the iterator's own objects may turn: they are not the frame's, not pinned, younger than the entry (or a comprehension's own) -/
def FpOk (X : Cx) (pins : List (Addr × Obj)) (H : Hp) (b : Addr) : Prop :=
  H b = none ∧ b ≠ X.env.locals ∧ b ∉ X.fs ∧ (b ∈ X.ex ∨ X.s₀.heap.objs.size ≤ b) ∧ (∀ x c, X.env.cells.lookup x = some c → c ≠ b) ∧ ∀ p ∈ X.pn ++ pins, p.1 ≠ b
theorem Inv.fpOk {X : Cx} {pins : List (Addr × Obj)} {σ : St} {H H' : Hp} {s : Shared} {b : Addr} (I : Inv X pins σ H s) (hb : s.heap.objs.size ≤ b) (hn : H' b = none) : FpOk X pins H' b := by
  refine ⟨hn, Nat.ne_of_gt (Nat.lt_of_lt_of_le I.lt hb), I.nofs hb, .inr (Nat.le_trans I.sz hb), fun x c e z => ?_, fun p hp z => ?_⟩
  · obtain ⟨v, q⟩ := I.cell x c e
    exact absurd (Nat.lt_of_lt_of_le q.lt (by rw [z]; exact hb)) (Nat.lt_irrefl _)
  · exact absurd (Nat.lt_of_lt_of_le (Heap.lt_size (I.pin p hp).1) (by rw [z]; exact hb)) (Nat.lt_irrefl _)
structure Turn (P : Program) (w : World) (K : PySem.W.Frag) (tg : Expr) (J : It) (fp : List Addr) (it : Addr) (tn : Nat → Heap → Prop) : Prop where
  mem : it ∈ fp
  obj : ∀ i h, tn i h → ∀ b ∈ fp, ∃ o, h.get? b = some o ∧ ∀ v, o.data ≠ .cell v
  keep : ∀ i h h', tn i h → (∀ b ∈ fp, ∀ o, h.get? b = some o → h'.get? b = some o) → tn i h'
  item : ∀ (X : Cx), X.prog = P → X.w = w → X.K = K → X.calm = true → ∀ (i : Nat) (pins : List (Addr × Obj)) (s : Shared) (σ : St) (H : Hp) (E : Value → Shared → Prop), Inv X pins σ H s → (∀ b ∈ fp, FpOk X pins H b) → tn i s.heap → J.go i H →
    wpAny (model P w) X.A (pyNext (.ref it)) (fun r s1 => ∃ u, r = some u ∧
      wpAny (model P w) X.A (letOwnedTupleGo tg (.ref it) u) (fun _ s2 => ∃ x H', Inv X pins σ H' s2 ∧ RelV x u ∧ J.yld i H x H' ∧ tn (i + 1) s2.heap ∧ ∀ b ∈ fp, H' b = none) E s1) E s
  done : ∀ (X : Cx), X.prog = P → X.w = w → X.K = K → X.calm = true → ∀ (i : Nat) (pins : List (Addr × Obj)) (s : Shared) (σ : St) (H : Hp) (E : Value → Shared → Prop), Inv X pins σ H s → (∀ b ∈ fp, FpOk X pins H b) → tn i s.heap → J.stop i H →
    wpAny (model P w) X.A (pyNext (.ref it)) (fun r s1 => r = none ∧ Inv X pins σ H s1) E s
  self : ∀ (A : Around) (i : Nat) (s : Shared) (Q : Value → Shared → Prop) (E : Value → Shared → Prop), tn i s.heap → Q (.ref it) s → wpAny (model P w) A (pyIter (.ref it)) Q E s
abbrev TI := St → Hp → (It → Hp → Prop) → Prop
/-- an iterator has come -/
def PIE (X : Cx) (pins : List (Addr × Obj)) (σ : St) (tg : Expr) (R : It → Hp → Prop) (itv : Value) (s2 : Shared) : Prop :=
  ∃ (it : Addr) (fp : List Addr) (tn : Nat → Heap → Prop) (J : It) (H' : Hp), itv = .ref it ∧ Inv X pins σ H' s2 ∧ Turn X.prog X.w X.K tg J fp it tn ∧ tn 0 s2.heap ∧ (∀ b ∈ fp, FpOk X pins H' b) ∧ R J H'
def PI (X : Cx) (tg iter : Expr) (wi : TI) : Prop :=
  ∀ (pins : List (Addr × Obj)) (s : Shared) (σ : St) (H : Hp) (R : It → Hp → Prop), Inv X pins σ H s → wi σ H R →
    wpAny (model X.prog X.w) X.A (eval iter X.env) (fun v s1 => wpAny (model X.prog X.w) X.A (pyIter v) (PIE X pins σ tg R) X.xe s1) X.xe s

/-- the step ahead of the store is nothing for an iterator that keeps no tuple -/
theorem go_of {M : Model} {A : Around} {E : Value → Shared → Prop} {s : Shared} {tg : Expr} {it : Addr} {u : Value} {o : Obj} {n : String} {vs : Array Value} {Q : Unit → Shared → Prop} (ho : s.heap.get? it = some o) (hc : o.cls = .type n) (hd : o.data = .fields vs)
    (hn : ["enumerate", "zip", "dict_itemiterator", "dict_reverseitemiterator", "odict_iterator", "itertools.zip_longest", "itertools.pairwise"].contains n = false) (hQ : Q () s) : wpAny M A (letOwnedTupleGo tg (.ref it) u) Q E s := by
  unfold letOwnedTupleGo
  cases tg <;> first
    | exact wpAny_pure hQ
    | (cases u <;> first
        | exact wpAny_pure hQ
        | (refine wpAny_bind (wpAny_load ho ?_)
           rw [hc, hd]
           show wpAny M A (if (["enumerate", "zip", "dict_itemiterator", "dict_reverseitemiterator", "odict_iterator", "itertools.zip_longest", "itertools.pairwise"].contains n && vs[0]? == some (rawInt _)) = true then _ else _) Q E s
           rw [if_neg (by intro h; rw [hn, Bool.false_and] at h; cases h)]
           exact wpAny_pure hQ))

/-- the list at a, as it stands at each turn (a loop may append to it) -/
def Itl (K : PySem.W.Frag) (a : Addr) : It :=
  ⟨fun i H => ∃ xs x, SqL K H a xs ∧ xs[i]? = some x, fun i H x H' => H' = H ∧ ∀ xs, SqL K H a xs → xs[i]? = some x, fun i H => ∃ xs, SqL K H a xs ∧ xs.length ≤ i⟩
def Itt (K : PySem.W.Frag) (a : Addr) : It :=
  ⟨fun i H => ∃ xs x, SqT K H a xs ∧ xs[i]? = some x, fun i H x H' => H' = H ∧ ∀ xs, SqT K H a xs → xs[i]? = some x, fun i H => ∃ xs, SqT K H a xs ∧ xs.length ≤ i⟩
/-- lo, lo + 1, .. (n of them) -/
def Itr (lo : Int) (n : Nat) : It := ⟨fun i _ => i < n, fun i H x H' => H' = H ∧ x = .int (lo + i), fun i _ => n ≤ i⟩
theorem turn_list {P : Program} {w : World} {K : PySem.W.Frag} {tg : Expr} (a it : Addr) : Turn P w K tg (Itl K a) [it] it (fun i h => h.IsListIter it a i) where
  mem := by simp
  obj := fun i h st b hb => by
    have e : b = it := by simpa using hb
    subst e
    obtain ⟨o, e, c, d⟩ := st
    exact ⟨o, e, fun v z => by rw [d] at z; cases z⟩
  keep := fun i h h' st k => st.at fun o e => k it (by simp) o e
  item := by
    intro X hP hw hK hc i pins s σ H E I hf st hg
    subst hP hw hK
    obtain ⟨xs, x, hq, hx⟩ := hg
    obtain ⟨its, rv, p, hz⟩ := I.list hq
    obtain ⟨u, hu, ru⟩ := rv.get hx
    obtain ⟨f0, f1, f2, f3, f4, f5⟩ := hf it (by simp)
    refine wpAny_pyNext_list_item st p.isList (x := u) (by simpa using hu) fun h' st' sb => ?_
    have I1 : Inv X pins σ H { s with heap := h' } := I.turned (t' := s.toks) (fun b o hb e => (sb.2 b hb).trans e) f0 f1 f3 f4 f5
    obtain ⟨o, e, c, d⟩ := id st'
    exact ⟨u, rfl, go_of (s := { s with heap := h' }) e c d (by decide) ⟨x, H, I1, ru, ⟨rfl, fun ys hy => by rw [I.list_inj hy hq]; exact hx⟩, st', fun b hb => (hf b hb).1⟩⟩
  done := by
    intro X hP hw hK hc i pins s σ H E I hf st hg
    subst hP hw hK
    obtain ⟨xs, hq, hx⟩ := hg
    obtain ⟨its, rv, p, hz⟩ := I.list hq
    obtain ⟨f0, f1, f2, f3, f4, f5⟩ := hf it (by simp)
    have hl := rv.length
    exact wpAny_pyNext_list_end (I.ok.hd hc) st p.isList (by simp; omega) fun h' eb => ⟨rfl, I.turned (t' := s.toks) (fun b o hb e => eb b o hb e) f0 f1 f3 f4 f5⟩
  self := fun _ _ _ _ _ st h => wpAny_pyIter_listiter st h
theorem turn_tuple {P : Program} {w : World} {K : PySem.W.Frag} {tg : Expr} (a it : Addr) : Turn P w K tg (Itt K a) [it] it (fun i h => h.IsTupleIter it a i) where
  mem := by simp
  obj := fun i h st b hb => by
    have e : b = it := by simpa using hb
    subst e
    obtain ⟨o, e, c, d⟩ := st
    exact ⟨o, e, fun v z => by rw [d] at z; cases z⟩
  keep := fun i h h' st k => st.at fun o e => k it (by simp) o e
  item := by
    intro X hP hw hK hc i pins s σ H E I hf st hg
    subst hP hw hK
    obtain ⟨xs, x, hq, hx⟩ := hg
    obtain ⟨its, rv, p, hz⟩ := I.tuple hq
    obtain ⟨u, hu, ru⟩ := rv.get hx
    obtain ⟨f0, f1, f2, f3, f4, f5⟩ := hf it (by simp)
    refine wpAny_pyNext_tuple_item st (show s.heap.IsTuple a its.toArray from p) (x := u) (by simpa using hu) fun h' st' sb => ?_
    have I1 : Inv X pins σ H { s with heap := h' } := I.turned (t' := s.toks) (fun b o hb e => (sb.2 b hb).trans e) f0 f1 f3 f4 f5
    obtain ⟨o, e, c, d⟩ := id st'
    exact ⟨u, rfl, go_of (s := { s with heap := h' }) e c d (by decide) ⟨x, H, I1, ru, ⟨rfl, fun ys hy => by rw [I.tuple_inj hy hq]; exact hx⟩, st', fun b hb => (hf b hb).1⟩⟩
  done := by
    intro X hP hw hK hc i pins s σ H E I hf st hg
    subst hP hw hK
    obtain ⟨xs, hq, hx⟩ := hg
    obtain ⟨its, rv, p, hz⟩ := I.tuple hq
    obtain ⟨f0, f1, f2, f3, f4, f5⟩ := hf it (by simp)
    have hl := rv.length
    exact wpAny_pyNext_tuple_end (I.ok.hd hc) st (show s.heap.IsTuple a its.toArray from p) (by simp; omega) fun h' eb => ⟨rfl, I.turned (t' := s.toks) (fun b o hb e => eb b o hb e) f0 f1 f3 f4 f5⟩
  self := fun _ _ _ _ _ st h => wpAny_pyIter_tupleiter st h
theorem turn_range {P : Program} {w : World} {K : PySem.W.Frag} {tg : Expr} (it : Addr) (lo : Int) (n : Nat) : Turn P w K tg (Itr lo n) [it] it (fun i h => IsRangeIter h it (lo + (i : Nat) * 1) ((n : Int) - (i : Nat)) 1) where
  mem := by simp
  obj := fun i h st b hb => by
    have e : b = it := by simpa using hb
    subst e
    exact ⟨_, st, fun v z => by
      have z' : Data.fields _ = Data.cell v := z
      cases z'⟩
  keep := fun i h h' st k => k it (by simp) _ st
  item := by
    intro X hP hw hK hc i pins s σ H E I hf st hg
    subst hP hw hK
    obtain ⟨f0, f1, f2, f3, f4, f5⟩ := hf it (by simp)
    have W := Walks.range (prog := X.prog) (w := X.w) (I.ok.hd hc) it lo 1 n
    refine W.item i s _ _ hg st fun v h' tk hv st' kk => ?_
    obtain ⟨t, rfl⟩ := hv
    have I1 : Inv X pins σ H { s with heap := h', toks := tk } := I.turned (fun b o hb e => kk b o (by simpa using hb) e) f0 f1 f3 f4 f5
    refine ⟨_, rfl, go_of (s := { s with heap := h', toks := tk }) (n := "range_iterator") st' rfl rfl (by decide) ⟨.int (lo + i), H, I1, ⟨t, ?_⟩, ⟨rfl, rfl⟩, st', fun b hb => (hf b hb).1⟩⟩
    rw [Int.mul_one]
  done := by
    intro X hP hw hK hc i pins s σ H E I hf st hg
    subst hP hw hK
    obtain ⟨f0, f1, f2, f3, f4, f5⟩ := hf it (by simp)
    exact wpAny_pyNext_range_end (I.ok.hd hc) st (by have : n ≤ i := hg; omega) fun h' eb => ⟨rfl, I.turned (t' := s.toks) (fun b o hb e => eb b o hb e) f0 f1 f3 f4 f5⟩
  self := fun _ _ _ _ _ st h => wpAny_pyIter_rangeiter st h
end L2

namespace L2
open PySem PySem.Spec PyProof.Rows
section
variable {X : Cx} {tg : Expr}
def iList (K : PySem.W.Frag) (tl : TE) : TI := fun σ H R => tl σ H fun x H1 => ∃ a, x = .ref a ∧ (∃ xs, SqL K H1 a xs) ∧ R (Itl K a) H1
/-- a range object just made, walked -/
theorem range_it {pins : List (Addr × Obj)} {σ : St} {H : Hp} {s : Shared} {R : It → Hp → Prop} {E : Value → Shared → Prop} {lo hi : Int} {t u v : Tok} {tk : Nat} (I : Inv X pins σ H s) (h1 : -(2 ^ 62) ≤ lo) (h2 : lo < 2 ^ 62) (h3 : -(2 ^ 62) ≤ hi) (h4 : hi < 2 ^ 62)
    (q : R (Itr lo (hi - lo).toNat) H) : wpAny (model X.prog X.w) X.A (pyIter (.ref s.heap.objs.size)) (PIE X pins σ tg R) E { s with heap := s.heap.push { cls := .type "range", data := .fields #[.int lo t, .int hi u, .int 1 v] }, toks := tk } := by
  refine wpAny_pyIter_range (IsRange.new ..) (small_one h1 h2 h3 h4) ?_
  have I1 : Inv X pins σ H { s with heap := s.heap.push { cls := .type "range", data := .fields #[.int lo t, .int hi u, .int 1 v] }, toks := tk } := I.kept fun b o e => Heap.get?_push_of_some _ e
  refine ⟨(s.heap.push { cls := .type "range", data := .fields #[.int lo t, .int hi u, .int 1 v] }).objs.size, [(s.heap.push { cls := .type "range", data := .fields #[.int lo t, .int hi u, .int 1 v] }).objs.size], _, _, H, rfl,
    I1.kept (t' := tk) fun b o e => Heap.get?_push_of_some _ e, turn_range _ lo (hi - lo).toNat, ?_, fun b hb => ?_, q⟩
  · have e1 : lo + ((0 : Nat) : Int) * 1 = lo := by simp
    have e2 : (((hi - lo).toNat : Nat) : Int) - ((0 : Nat) : Int) = Builtin.Range.rangeSize lo hi 1 := by rw [rangeSize_one]; split <;> omega
    show IsRangeIter _ _ (lo + ((0 : Nat) : Int) * 1) ((((hi - lo).toNat : Nat) : Int) - ((0 : Nat) : Int)) 1
    rw [e1, e2]
    exact Heap.get?_push_size _ rfl
  · have e : b = (s.heap.push { cls := .type "range", data := .fields #[.int lo t, .int hi u, .int 1 v] }).objs.size := by simpa using hb
    subst e
    exact I1.fpOk (Nat.le_refl _) (I1.hok.fresh (Nat.le_refl _))
def iRng1 (ta : TA) : TI := fun σ H R => ta σ H fun vs H1 => ∃ j : Int, vs = [.int j] ∧ -(2 ^ 62) ≤ j ∧ j < 2 ^ 62 ∧ R (Itr 0 j.toNat) H1
def iRng2 (ta : TA) : TI := fun σ H R => ta σ H fun vs H1 => ∃ i j : Int, vs = [.int i, .int j] ∧ (-(2 ^ 62) ≤ i ∧ i < 2 ^ 62 ∧ -(2 ^ 62) ≤ j ∧ j < 2 ^ 62) ∧ R (Itr i (j - i).toNat) H1
theorem pi_range1 {a : Expr} {ta : TA} {p pos : Pos} (hg : Gl X "range") (hm : X.mg "range" = none) (ha : PA X [a] ta) (hs : starEach [a] X.env = [(false, eval a X.env)] := by rfl) : PI X tg (.Call (.Name "range" p) [a] [] pos) (iRng1 ta) := by
  intro pins s σ H R I h
  refine Call_ (ld_blt I hg hm boot_range (PyProof.Rows.callWith_type1 (thn (ha pos pins s σ H _ I h) fun us s1 ⟨vs, H1, I1, r1, q1⟩ => ?_) hs rfl))
  obtain ⟨j, e, q1, q2, q⟩ := q1
  subst e
  cases r1 with
  | cons r rr =>
    cases rr
    obtain ⟨t, rfl⟩ := r
    exact call_range_1 (range_it I1 (by omega) (by omega) q1 q2 (by simpa using q))
theorem pi_range2 {a b : Expr} {ta : TA} {p pos : Pos} (hg : Gl X "range") (hm : X.mg "range" = none) (ha : PA X [a, b] ta) (hs : starEach [a, b] X.env = [(false, eval a X.env), (false, eval b X.env)] := by rfl) (hs2 : starEach [b] X.env = [(false, eval b X.env)] := by rfl) :
    PI X tg (.Call (.Name "range" p) [a, b] [] pos) (iRng2 ta) := by
  intro pins s σ H R I h
  refine Call_ (ld_blt I hg hm boot_range (PyProof.Rows.callWith_type1 (thn (ha pos pins s σ H _ I h) fun us s1 ⟨vs, H1, I1, r1, q1⟩ => ?_) (by rw [hs, hs2]) (by rw [hs2]; rfl)))
  obtain ⟨i, j, e, ⟨q1, q2, q3, q4⟩, q⟩ := q1
  subst e
  cases r1 with
  | cons r rr =>
    cases rr with
    | cons r' rr =>
      cases rr
      obtain ⟨t, rfl⟩ := r
      obtain ⟨t', rfl⟩ := r'
      exact call_range_2 (range_it I1 q1 q2 q3 q4 q)

/-! ### for -/
/-- W: the invariant by the turn and a measure; N: what the body is to reach -/
def tFor (wi : TI) (g : TG) (tb : TS) : TS := fun D σ H => wi σ H fun J H1 => ∃ W : Nat → Nat → St → Hp → Prop, (∃ m, W 0 m σ H1) ∧ ∀ i m σ H, W i m σ H →
  (J.stop i H ∧ D.nx σ H) ∨ (J.go i H ∧ ∃ N : St → Hp → Prop, (∀ σ' H', N σ' H' → ∃ m', m' < m ∧ W (i + 1) m' σ' H') ∧ ∀ x H', J.yld i H x H' → g x σ H' fun σ2 H2 => tb { D with nx := N, ct := N, bk := D.nx } σ2 H2)
/-- the records at fp as they stand -/
def pinsAt (fp : List Addr) (h : Heap) : List (Addr × Obj) := fp.filterMap fun b => (h.get? b).map fun o => (b, o)
theorem mem_pinsAt {fp : List Addr} {h : Heap} {b : Addr} {o : Obj} (hb : b ∈ fp) (e : h.get? b = some o) : (b, o) ∈ pinsAt fp h := List.mem_filterMap.mpr ⟨b, hb, by rw [e]; rfl⟩
theorem of_pinsAt {fp : List Addr} {h : Heap} {p : Addr × Obj} (hp : p ∈ pinsAt fp h) : p.1 ∈ fp ∧ h.get? p.1 = some p.2 := by
  obtain ⟨b, hb, e⟩ := List.mem_filterMap.mp hp
  cases q : h.get? b with
  | none => rw [q] at e; cases e
  | some o =>
    rw [q] at e
    have e' : (b, o) = p := Option.some.inj e
    subst e'
    exact ⟨hb, q⟩
theorem Inv.pinned {pins : List (Addr × Obj)} {σ : St} {H : Hp} {s : Shared} {fp : List Addr} (I : Inv X pins σ H s) (hf : ∀ b ∈ fp, FpOk X pins H b) (ho : ∀ b ∈ fp, ∃ o, s.heap.get? b = some o ∧ ∀ v, o.data ≠ .cell v) : Inv X (pins ++ pinsAt fp s.heap) σ H s :=
  I.pins_of fun p hp => (List.mem_append.mp hp).elim (fun z => I.pin p (List.mem_append_right _ z)) fun z => by
    obtain ⟨hb, e⟩ := of_pinsAt z
    obtain ⟨f0, f1, f2, _⟩ := hf p.1 hb
    obtain ⟨o, e', d⟩ := ho p.1 hb
    rw [e] at e'; cases e'
    exact ⟨e, f0, f1, f2, d⟩
theorem Inv.unpinned {pins pl : List (Addr × Obj)} {σ : St} {H : Hp} {s : Shared} (I : Inv X (pins ++ pl) σ H s) : Inv X pins σ H s := I.pins_of fun p hp => I.pin p (List.mem_append_right _ (List.mem_append_left _ hp))
theorem ps_for {iter : Expr} {body : List Stmt} {wi : TI} {g : TG} {tb : TS} {pos : Pos} (hp : PassesOwn (model X.prog X.w) X.A X.env X.xe) (hc : X.calm = true) (hi : PI X tg iter wi) (hg : PG X tg g) (hb : PSs X body tb)
    (hs : ∀ x, foldedSetIterable iter X.env x = pure x := by intro _; rfl) : PS X (.For tg iter body [] pos) (tFor wi g tb) := by
  intro pins s σ H D I h
  refine wpAny_For (thn (hi pins s σ H _ I h) fun v s1 h1 => thn h1 fun itv s2 h2 => ?_) hs
  obtain ⟨it, fp, tn, J, H2, e, I2, T, st2, f2, W, ⟨m0, w0⟩, turn⟩ := h2
  subst e
  -- what stays true of the iterator's objects through the loop
  have stat : ∀ {H' : Hp}, (∀ b ∈ fp, H' b = none) → ∀ b ∈ fp, FpOk X pins H' b := fun hn b hb => ⟨hn b hb, (f2 b hb).2⟩
  refine codeAny_forLoop_any (fun n s' => ∃ i σ' H', Inv X pins σ' H' s' ∧ tn i s'.heap ∧ (∀ b ∈ fp, H' b = none) ∧ W i n σ' H') ?_ m0 ⟨0, σ, H2, I2, st2, fun b hb => (f2 b hb).1, w0⟩
  rintro n s3 ⟨i, σ3, H3, I3, st3, fr3, w3⟩
  rcases turn i n σ3 H3 w3 with ⟨stop, qn⟩ | ⟨go, N, hN, step⟩
  · refine wpAny_passesOwn hp (thn (T.done X rfl rfl rfl hc i pins s3 σ3 H3 X.xe I3 (stat fr3) st3 stop) fun r s4 ⟨hr, I4⟩ => ?_)
    subst hr
    exact wpAny_execs_nil ⟨σ3, H3, I4, qn⟩
  · refine wpAny_passesOwn hp (thn (T.item X rfl rfl rfl hc i pins s3 σ3 H3 X.xe I3 (stat fr3) st3 go) fun r s4 ⟨u, hr, h4⟩ => ?_)
    subst hr
    refine wpAny_passesOwn hp (thn h4 fun _ s5 ⟨x, H5, I5, r5, y5, st5, fr5⟩ => ?_)
    have I5' := I5.pinned (stat fr5) (T.obj _ _ st5)
    refine wpAny_passesOwn hp (thn (hg _ s5 σ3 H5 x u _ I5' r5 (step x H5 y5)) fun _ s6 ⟨σ6, H6, I6, q6⟩ => ?_)
    refine wpAny_passesOwn hp (thn (hb _ s6 σ6 H6 _ I6 q6) fun f s7 q7 => ?_)
    have again : ∀ {σ7 : St} {H7 : Hp}, Inv X (pins ++ pinsAt fp s5.heap) σ7 H7 s7 → N σ7 H7 → ∃ m, m < n ∧ ∃ i σ' H', Inv X pins σ' H' s7 ∧ tn i s7.heap ∧ (∀ b ∈ fp, H' b = none) ∧ W i m σ' H' := fun {σ7 H7} I7 n7 => by
      obtain ⟨m', hm, w7⟩ := hN σ7 H7 n7
      refine ⟨m', hm, i + 1, σ7, H7, I7.unpinned, T.keep _ _ _ st5 fun b hb o e => (I7.pin (b, o) (List.mem_append_right _ (List.mem_append_right _ (mem_pinsAt hb e)))).1, fun b hb => ?_, w7⟩
      obtain ⟨o, e, d⟩ := T.obj _ _ st5 b hb
      exact (I7.pin (b, o) (List.mem_append_right _ (List.mem_append_right _ (mem_pinsAt hb e)))).2.1
    cases f with
    | next => obtain ⟨σ7, H7, I7, n7⟩ := q7; exact again I7 n7
    | cont => obtain ⟨σ7, H7, I7, n7⟩ := q7; exact again I7 n7
    | brk => obtain ⟨σ7, H7, I7, q7⟩ := q7; exact ⟨σ7, H7, I7.unpinned, q7⟩
    | ret v => obtain ⟨x7, σ7, H7, I7, r7, q7⟩ := q7; exact ⟨x7, σ7, H7, I7.unpinned, r7, q7⟩
end

/-! ### the forms one uses -/
theorem for_range {lo : Int} {n : Nat} {g : TG} {tb : TS} {D : Ends} {σ : St} {H : Hp} (Pv : Nat → St → Hp → Prop) (h0 : Pv 0 σ H)
    (hs : ∀ i σ H, i < n → Pv i σ H → g (.int (lo + i)) σ H fun σ2 H2 => tb { D with nx := Pv (i + 1), ct := Pv (i + 1), bk := D.nx } σ2 H2) (hd : ∀ σ H, Pv n σ H → D.nx σ H) :
    ∃ W : Nat → Nat → St → Hp → Prop, (∃ m, W 0 m σ H) ∧ ∀ i m σ H, W i m σ H →
      ((Itr lo n).stop i H ∧ D.nx σ H) ∨ ((Itr lo n).go i H ∧ ∃ N : St → Hp → Prop, (∀ σ' H', N σ' H' → ∃ m', m' < m ∧ W (i + 1) m' σ' H') ∧ ∀ x H', (Itr lo n).yld i H x H' → g x σ H' fun σ2 H2 => tb { D with nx := N, ct := N, bk := D.nx } σ2 H2) := by
  refine ⟨fun i m σ H => m = n - i ∧ i ≤ n ∧ Pv i σ H, ⟨n, by simp, Nat.zero_le _, h0⟩, ?_⟩
  rintro i m σ H ⟨rfl, hi, p⟩
  by_cases hlt : i < n
  · refine .inr ⟨hlt, Pv (i + 1), fun σ' H' p' => ⟨n - (i + 1), by omega, rfl, hlt, p'⟩, fun x H' y => ?_⟩
    obtain ⟨e, y⟩ := y
    subst e y
    exact hs i σ _ hlt p
  · have e : i = n := by omega
    subst e
    exact .inl ⟨Nat.le_refl _, hd σ H p⟩
end L2

namespace L2
open PySem PySem.Spec PyProof.Rows

abbrev R2 := V → V → Hp → VK → Prop
/-- a two-place operation on values: f is binaryOp op, inplaceOp op or compareOp op -/
def OpR (X : Cx) (f : Value → Value → Sem Value) (r : R2) : Prop :=
  ∀ (pins : List (Addr × Obj)) (s : Shared) (σ : St) (H : Hp) (x y : V) (v u : Value) (Q : VK), Inv X pins σ H s → RelV x v → RelV y u → r x y H Q →
    wpAny (model X.prog X.w) X.A (f v u) (EP X pins σ Q) X.xe s
/-- a one-place operation -/
def UnR (X : Cx) (f : Value → Sem Value) (r : V → Hp → VK → Prop) : Prop :=
  ∀ (pins : List (Addr × Obj)) (s : Shared) (σ : St) (H : Hp) (x : V) (v : Value) (Q : VK), Inv X pins σ H s → RelV x v → r x H Q →
    wpAny (model X.prog X.w) X.A (f v) (EP X pins σ Q) X.xe s
/-- a call of a value that is known (a builtin, a type) with values -/
def CallR (X : Cx) (f : Value) (r : List V → Hp → VK → Prop) : Prop :=
  ∀ (pins : List (Addr × Obj)) (s : Shared) (σ : St) (H : Hp) (xs : List V) (us : List Value) (Q : VK), Inv X pins σ H s → Vals xs us → r xs H Q →
    wpAny (model X.prog X.w) X.A (call f us) (EP X pins σ Q) X.xe s
def tOp (r : R2) (ta tb : TE) : TE := fun σ H Q => ta σ H fun x H1 => tb σ H1 fun y H2 => r x y H2 Q
def tUn (r : V → Hp → VK → Prop) (ta : TE) : TE := fun σ H Q => ta σ H fun x H1 => r x H1 Q
/-- ints in, under C, and a value out -/
def rI (C : Int → Int → Prop) (g : Int → Int → V) : R2 := fun x y H Q => ∃ i j, x = .int i ∧ y = .int j ∧ C i j ∧ Q (g i j) H
def rI0 (g : Int → Int → V) : R2 := fun x y H Q => ∃ i j, x = .int i ∧ y = .int j ∧ Q (g i j) H
def rU (g : Int → V) : V → Hp → VK → Prop := fun x H Q => ∃ i, x = .int i ∧ Q (g i) H

section
variable {X : Cx} {a b c : Expr} {ta tb tc : TE} {pos : Pos}

theorem binT (ha : PE X a ta) (hb : PE X b tb) {pins : List (Addr × Obj)} {s : Shared} {σ : St} {H : Hp} {R : V → V → Hp → Prop} (I : Inv X pins σ H s)
    (h : ta σ H fun x H1 => tb σ H1 fun y H2 => R x y H2) {Q : Value → Shared → Prop} {f : Value → Value → Sem Value}
    (hf : ∀ v u s2 x y H2, Inv X pins σ H2 s2 → RelV x v → RelV y u → R x y H2 → wpAny (model X.prog X.w) X.A (f v u) Q X.xe s2) :
    wpAny (model X.prog X.w) X.A (eval a X.env) (fun v s₁ => wpAny (model X.prog X.w) X.A (eval b X.env) (fun u s₂ => wpAny (model X.prog X.w) X.A (f v u) Q X.xe s₂) X.xe s₁) X.xe s := by
  refine thn (ha pins s σ H _ I h) fun v s1 ⟨x, H1, I1, r1, q1⟩ => ?_
  refine thn (hb pins s1 σ H1 _ I1 q1) fun u s2 ⟨y, H2, I2, r2, q2⟩ => ?_
  exact hf v u s2 x y H2 I2 r1 r2 q2

theorem pe_op {op : Operator} {r : R2} (ho : OpR X (binaryOp op) r) (ha : PE X a ta) (hb : PE X b tb) : PE X (.BinOp a op b pos) (tOp r ta tb) := by
  intro pins s σ H Q I h
  exact wpAny_BinOp (binT ha hb I h fun v u s2 x y H2 I2 rx ry q => ho pins s2 σ H2 x y v u Q I2 rx ry q)
theorem pe_un {op : UnaryOp} {r : V → Hp → VK → Prop} (ho : UnR X (unaryOp op) r) (ha : PE X a ta) : PE X (.UnaryOp op a pos) (tUn r ta) := by
  intro pins s σ H Q I h
  exact UnaryOp_ (thn (ha pins s σ H _ I h) fun v s1 ⟨x, H1, I1, r1, q1⟩ => ho pins s1 σ H1 x v Q I1 r1 q1)
/-! ### ints -/
theorem opI {f : Value → Value → Sem Value} {C : Int → Int → Prop} {g : Int → Int → Int}
    (rule : ∀ (i j : Int) (t u : Tok) (s : Shared) (Q : Value → Shared → Prop) (E : Value → Shared → Prop), C i j → Q (.int (g i j) s.toks) { s with toks := s.toks + 1 } → wpAny (model X.prog X.w) X.A (f (.int i t) (.int j u)) Q E s) :
    OpR X f (rI C fun i j => .int (g i j)) := by
  intro pins s σ H x y v u Q I rx ry h
  obtain ⟨i, j, rfl, rfl, hc, q⟩ := h
  obtain ⟨t, rfl⟩ := rx
  obtain ⟨t', rfl⟩ := ry
  exact rule i j t t' s _ _ hc ⟨.int (g i j), H, I.tok _, ⟨_, rfl⟩, q⟩
theorem opI0 {f : Value → Value → Sem Value} {g : Int → Int → Int}
    (rule : ∀ (i j : Int) (t u : Tok) (s : Shared) (Q : Value → Shared → Prop) (E : Value → Shared → Prop), Q (.int (g i j) s.toks) { s with toks := s.toks + 1 } → wpAny (model X.prog X.w) X.A (f (.int i t) (.int j u)) Q E s) :
    OpR X f (rI0 fun i j => .int (g i j)) := by
  intro pins s σ H x y v u Q I rx ry h
  obtain ⟨i, j, rfl, rfl, q⟩ := h
  obtain ⟨t, rfl⟩ := rx
  obtain ⟨t', rfl⟩ := ry
  exact rule i j t t' s _ _ ⟨.int (g i j), H, I.tok _, ⟨_, rfl⟩, q⟩
theorem opB0 {f : Value → Value → Sem Value} {g : Int → Int → Bool}
    (rule : ∀ (i j : Int) (t u : Tok) (s : Shared) (Q : Value → Shared → Prop) (E : Value → Shared → Prop), Q (.bool (g i j)) s → wpAny (model X.prog X.w) X.A (f (.int i t) (.int j u)) Q E s) :
    OpR X f (rI0 fun i j => .bl (g i j)) := by
  intro pins s σ H x y v u Q I rx ry h
  obtain ⟨i, j, rfl, rfl, q⟩ := h
  obtain ⟨t, rfl⟩ := rx
  obtain ⟨t', rfl⟩ := ry
  exact rule i j t t' s _ _ ⟨.bl (g i j), H, I, rfl, q⟩

def CDiv (i j : Int) : Prop := 0 < j ∧ j < 1073741824
theorem op_add : OpR X (binaryOp .Add) (rI0 fun i j => .int (i + j)) := opI0 fun _ _ _ _ _ _ _ q => add_int q
theorem op_sub : OpR X (binaryOp .Sub) (rI0 fun i j => .int (i - j)) := opI0 fun _ _ _ _ _ _ _ q => sub_int q
/-- // by a positive divisor -/
theorem op_fdiv : OpR X (binaryOp .FloorDiv) (rI CDiv fun i j => .int (i / j)) := opI fun i j _ _ _ _ _ hc q => by
  have h1 : (0 : Int) < j := hc.1
  have h2 : j < 1073741824 := hc.2
  exact floordiv_int (by omega) (by rw [Int.fdiv_eq_ediv_of_nonneg i (by omega)]; exact q) (.inl (PyProof.noPylong_small (by omega)))
/-- % by a positive divisor of any size -/
theorem op_mod : OpR X (binaryOp .Mod) (rI (fun _ j => 0 < j) fun i j => .int (i % j)) := opI fun i j _ _ _ _ _ hc q => by
  have h1 : (0 : Int) < j := hc
  exact mod_int' (by omega) (by rw [Int.fmod_eq_emod_of_nonneg i (by omega)]; exact q)
theorem unI {f : Value → Sem Value} {g : Int → Int}
    (rule : ∀ (i : Int) (t : Tok) (s : Shared) (Q : Value → Shared → Prop) (E : Value → Shared → Prop), Q (.int (g i) s.toks) { s with toks := s.toks + 1 } → wpAny (model X.prog X.w) X.A (f (.int i t)) Q E s) :
    UnR X f (rU fun i => .int (g i)) := by
  intro pins s σ H x v Q I rx h
  obtain ⟨i, rfl, q⟩ := h
  obtain ⟨t, rfl⟩ := rx
  exact rule i t s _ _ ⟨.int (g i), H, I.tok _, ⟨_, rfl⟩, q⟩
theorem un_neg : UnR X (unaryOp .USub) (rU fun i => .int (-i)) := unI fun _ _ _ _ _ q => neg_int q
/-! ### bools among ints: n += (a < b) -/
end

/-! ### comparisons -/
/-- the scalars that == tells apart as data does -/
def scal : V → V → Bool
  | .non, .non => true | .non, .int _ => true | .int _, .non => true | .non, .bl _ => true | .bl _, .non => true | .non, .str _ => true | .str _, .non => true
  | .int _, .int _ => true | .bl _, .bl _ => true | .str _, .str _ => true | .byt _, .byt _ => true
  | .int _, .str _ => true | .str _, .int _ => true | .bl _, .str _ => true | .str _, .bl _ => true
  | _, _ => false
def rEq : R2 := fun x y H Q => scal x y = true ∧ Q (.bl (decide (x = y))) H
def rNe : R2 := fun x y H Q => scal x y = true ∧ Q (.bl (!decide (x = y))) H

theorem dec_int {i j : Int} : decide (V.int i = V.int j) = (i == j) := by
  rw [Bool.eq_iff_iff]
  simp
theorem dec_bl {i j : Bool} : decide (V.bl i = V.bl j) = (i == j) := by
  rw [Bool.eq_iff_iff]
  simp
theorem dec_str {i j : Str} : decide (V.str i = V.str j) = (i == j) := by
  rw [Bool.eq_iff_iff]
  simp
theorem dec_byt {i j : Array UInt8} : decide (V.byt i = V.byt j) = (i.toList == j.toList) := by
  rw [Bool.eq_iff_iff]
  cases i
  cases j
  simp

section
variable {X : Cx} {a b c : Expr} {ta tb tc : TE} {pos : Pos}
theorem fin_bl {pins : List (Addr × Obj)} {σ : St} {H : Hp} {s : Shared} {Q : VK} {k k' : Bool} (I : Inv X pins σ H s) (q : Q (.bl k) H) (e : k = k') : EP X pins σ Q (.bool k') s := by
  subst e
  exact ⟨.bl k, H, I, rfl, q⟩
theorem op_eq : OpR X (compareOp .Eq) rEq := by
  intro pins s σ H x y v u Q I rx ry h
  obtain ⟨hs, q⟩ := h
  cases x with
  | non =>
    cases rx
    cases y with
    | non => cases ry; exact PySem.EqNone.eq_none_none (fin_bl I q (by simp))
    | bl j => cases ry; exact PySem.EqNone.eq_none_bool (fin_bl I q (by simp))
    | int j => obtain ⟨t', rfl⟩ := ry; exact PySem.EqNone.eq_none_int (fin_bl I q (by simp))
    | str j => obtain ⟨t', rfl⟩ := ry; exact PySem.EqNone.eq_none_str (fin_bl I q (by simp))
    | _ => exact absurd (show false = true from hs) Bool.false_ne_true
  | bl i =>
    cases rx
    cases y with
    | non => cases ry; exact PySem.EqNone.eq_bool_none (fin_bl I q (by simp))
    | bl j => cases ry; exact eq_bool (fin_bl I q dec_bl)
    | str j => obtain ⟨t', rfl⟩ := ry; exact PySem.EqMixed.eq_bool_str (fin_bl I q (by simp))
    | _ => exact absurd (show false = true from hs) Bool.false_ne_true
  | int i =>
    obtain ⟨t, rfl⟩ := rx
    cases y with
    | non => cases ry; exact PySem.EqNone.eq_int_none (fin_bl I q (by simp))
    | int j => obtain ⟨t', rfl⟩ := ry; exact eq_int (fin_bl I q dec_int)
    | str j => obtain ⟨t', rfl⟩ := ry; exact PySem.EqMixed.eq_int_str (fin_bl I q (by simp))
    | _ => exact absurd (show false = true from hs) Bool.false_ne_true
  | str i =>
    obtain ⟨t, rfl⟩ := rx
    cases y with
    | non => cases ry; exact PySem.EqNone.eq_str_none (fin_bl I q (by simp))
    | bl j => cases ry; exact PySem.EqMixed.eq_str_bool (fin_bl I q (by simp))
    | int j => obtain ⟨t', rfl⟩ := ry; exact PySem.EqMixed.eq_str_int (fin_bl I q (by simp))
    | str j => obtain ⟨t', rfl⟩ := ry; exact eq_str (fin_bl I q dec_str)
    | _ => exact absurd (show false = true from hs) Bool.false_ne_true
  | byt i =>
    obtain ⟨t, rfl⟩ := rx
    cases y with
    | byt j => obtain ⟨t', rfl⟩ := ry; exact PySem.W.eq_bytes (fin_bl I q dec_byt)
    | _ => exact absurd (show false = true from hs) Bool.false_ne_true
  | _ => cases y <;> exact absurd (show false = true from hs) Bool.false_ne_true
theorem op_ne : OpR X (compareOp .NotEq) rNe := by
  intro pins s σ H x y v u Q I rx ry h
  obtain ⟨hs, q⟩ := h
  cases x with
  | non =>
    cases rx
    cases y with
    | non => cases ry; exact PySem.EqNone.ne_none_none (fin_bl I q (by simp))
    | bl j => cases ry; exact PySem.EqNone.ne_none_bool (fin_bl I q (by simp))
    | int j => obtain ⟨t', rfl⟩ := ry; exact PySem.EqNone.ne_none_int (fin_bl I q (by simp))
    | str j => obtain ⟨t', rfl⟩ := ry; exact PySem.EqNone.ne_none_str (fin_bl I q (by simp))
    | _ => exact absurd (show false = true from hs) Bool.false_ne_true
  | bl i =>
    cases rx
    cases y with
    | non => cases ry; exact PySem.EqNone.ne_bool_none (fin_bl I q (by simp))
    | bl j => cases ry; exact ne_bool (fin_bl I q (congrArg not dec_bl))
    | str j => obtain ⟨t', rfl⟩ := ry; exact PySem.EqMixed.ne_bool_str (fin_bl I q (by simp))
    | _ => exact absurd (show false = true from hs) Bool.false_ne_true
  | int i =>
    obtain ⟨t, rfl⟩ := rx
    cases y with
    | non => cases ry; exact PySem.EqNone.ne_int_none (fin_bl I q (by simp))
    | int j => obtain ⟨t', rfl⟩ := ry; exact ne_int (fin_bl I q (congrArg not dec_int))
    | str j => obtain ⟨t', rfl⟩ := ry; exact PySem.EqMixed.ne_int_str (fin_bl I q (by simp))
    | _ => exact absurd (show false = true from hs) Bool.false_ne_true
  | str i =>
    obtain ⟨t, rfl⟩ := rx
    cases y with
    | non => cases ry; exact PySem.EqNone.ne_str_none (fin_bl I q (by simp))
    | bl j => cases ry; exact PySem.EqMixed.ne_str_bool (fin_bl I q (by simp))
    | int j => obtain ⟨t', rfl⟩ := ry; exact PySem.EqMixed.ne_str_int (fin_bl I q (by simp))
    | str j => obtain ⟨t', rfl⟩ := ry; exact ne_str (fin_bl I q (congrArg not dec_str))
    | _ => exact absurd (show false = true from hs) Bool.false_ne_true
  | byt i =>
    obtain ⟨t, rfl⟩ := rx
    cases y with
    | byt j => obtain ⟨t', rfl⟩ := ry; exact PySem.W.ne_bytes (fin_bl I q (congrArg not dec_byt))
    | _ => exact absurd (show false = true from hs) Bool.false_ne_true
  | _ => cases y <;> exact absurd (show false = true from hs) Bool.false_ne_true

theorem op_lt : OpR X (compareOp .Lt) (rI0 fun i j => .bl (decide (i < j))) := opB0 fun _ _ _ _ _ _ _ q => lt_int q
theorem op_gt : OpR X (compareOp .Gt) (rI0 fun i j => .bl (decide (j < i))) := opB0 fun _ _ _ _ _ _ _ q => gt_int q
/-- two rules for one operation: by cases -/
theorem OpR.or {f : Value → Value → Sem Value} {r r' : R2} (h : OpR X f r) (h' : OpR X f r') : OpR X f (fun x y H Q => r x y H Q ∨ r' x y H Q) := by
  intro pins s σ H x y v u Q I rx ry q
  rcases q with q | q
  · exact h pins s σ H x y v u Q I rx ry q
  · exact h' pins s σ H x y v u Q I rx ry q

theorem nomark (b : Expr) {op : CmpOp} (h : op ≠ .In := by decide) (h2 : op ≠ .NotIn := by decide) : behindInMarks op b = false := by
  have e1 : (op == CmpOp.In) = false := by cases op <;> first | rfl | exact absurd rfl h
  have e2 : (op == CmpOp.NotIn) = false := by cases op <;> first | rfl | exact absurd rfl h2
  cases b <;> simp [behindInMarks, e1, e2]
/-- a comparison as a value; hm: nomark b, or (for in, not in) by with_unfolding_all rfl -/
theorem pe_cmpR {op : CmpOp} {r : R2} (ho : OpR X (compareOp op) r) (ha : PE X a ta) (hb : PE X b tb) (hm : behindInMarks op b = false) : PE X (.Compare a [op] [b] pos) (tOp r ta tb) := by
  intro pins s σ H Q I h
  exact wpAny_Compare1 (binT ha hb I h fun v u s2 x y H2 I2 rx ry q => ho pins s2 σ H2 x y v u Q I2 rx ry q) hm
/-- a reading of a value as a test -/
def tTest (t : TE) : TT := fun σ H Q => t σ H fun x H' => ∃ k, x = .bl k ∧ Q k H'
theorem pt_cmpR {op : CmpOp} {r : R2} (ho : OpR X (compareOp op) r) (ha : PE X a ta) (hb : PE X b tb) (hm : behindInMarks op b = false) : PT X (.Compare a [op] [b] pos) (tTest (tOp r ta tb)) := by
  intro pins s σ H Q I h
  refine wpAny_isTrue_Compare1 (thn (ha pins s σ H _ I h) fun v s1 ⟨x, H1, I1, r1, q1⟩ => thn (hb pins s1 σ H1 _ I1 q1) fun u s2 ⟨y, H2, I2, r2, q2⟩ =>
    thn (ho pins s2 σ H2 x y v u _ I2 r1 r2 q2) fun c s3 ⟨z, H3, I3, r3, k, e, q3⟩ => ?_) hm
  subst e
  cases r3
  exact wpAny_truthy_bool ⟨H3, I3, q3⟩
/-! ### truth -/
theorem isEmpty_kv {κ : Type} {kvs : List (κ × V)} {vs : List (κ × Value)} (r : KV kvs vs) : (!vs.isEmpty) = !kvs.isEmpty := by
  cases r <;> rfl
theorem isEmpty_of {xs : List V} {its : List Value} (r : Vals xs its) : (!its.toArray.isEmpty) = !xs.isEmpty := by
  cases r <;> simp
theorem line63 : (sizeLine : Nat) < 2 ^ 63 := by rw [sizeLine_eq]; decide
/-! ### strs and bytes -/
theorem op_add_str : OpR X (binaryOp .Add) (fun x y H Q => ∃ i j, x = .str i ∧ y = .str j ∧ i.length + j.length ≤ sizeLine ∧ Q (.str (i ++ j)) H) := by
  intro pins s σ H x y v u Q I rx ry h
  obtain ⟨i, j, rfl, rfl, hz, q⟩ := h
  obtain ⟨t, rfl⟩ := rx
  obtain ⟨t', rfl⟩ := ry
  exact add_str (fun t' tk => ⟨.str (i ++ j), H, I.tok _, ⟨_, rfl⟩, q⟩) hz
/-! ### scalar builtins, by CallR -/
theorem vals1 {x : V} {us : List Value} (r : Vals [x] us) : ∃ u, us = [u] ∧ RelV x u := by
  cases r with
  | cons r1 r2 => cases r2; exact ⟨_, rfl, r1⟩
theorem vals2 {x y : V} {us : List Value} (r : Vals [x, y] us) : ∃ u w', us = [u, w'] ∧ RelV x u ∧ RelV y w' := by
  cases r with
  | cons r1 r2 =>
    cases r2 with
    | cons r3 r4 => cases r4; exact ⟨_, _, rfl, r1, r3⟩
theorem call_max2 (hc : X.calm = true) : CallR X (.builtin "max") (fun xs H Q => ∃ i j, xs = [.int i, .int j] ∧ Q (.int (if j > i then j else i)) H) := by
  intro pins s σ H xs us Q I r h
  obtain ⟨i, j, rfl, q⟩ := h
  obtain ⟨u, w', rfl, ⟨t, rfl⟩, ⟨t', rfl⟩⟩ := vals2 r
  refine max_two_ints (I.ok.hd hc) fun h' tk k => ⟨_, H, I.kept k, ?_, q⟩
  by_cases hj : j > i
  · rw [if_pos hj, if_pos hj]; exact ⟨_, rfl⟩
  · rw [if_neg hj, if_neg hj]; exact ⟨_, rfl⟩
theorem call_min2 (hc : X.calm = true) : CallR X (.builtin "min") (fun xs H Q => ∃ i j, xs = [.int i, .int j] ∧ Q (.int (if j < i then j else i)) H) := by
  intro pins s σ H xs us Q I r h
  obtain ⟨i, j, rfl, q⟩ := h
  obtain ⟨u, w', rfl, ⟨t, rfl⟩, ⟨t', rfl⟩⟩ := vals2 r
  refine min_two_ints (I.ok.hd hc) fun h' tk k => ⟨_, H, I.kept k, ?_, q⟩
  by_cases hj : j < i
  · rw [if_pos hj, if_pos hj]; exact ⟨_, rfl⟩
  · rw [if_neg hj, if_neg hj]; exact ⟨_, rfl⟩
theorem call_int1 : CallR X (.type "int") (fun xs H Q => (∃ i, xs = [.int i] ∧ Q (.int i) H) ∨ ∃ k, xs = [.bl k] ∧ Q (.int (if k then 1 else 0)) H) := by
  intro pins s σ H xs us Q I r h
  rcases h with ⟨i, rfl, q⟩ | ⟨k, rfl, q⟩
  · obtain ⟨u, rfl, t, rfl⟩ := vals1 r
    exact call_int_int ⟨.int i, H, I, ⟨_, rfl⟩, q⟩
  · obtain ⟨u, rfl, r1⟩ := vals1 r
    cases r1
    exact call_int_bool ⟨.int (if k then 1 else 0), H, I.tok _, ⟨_, rfl⟩, q⟩
/-- len of a str, a bytes, a list, a tuple -/
def LenV (K : PySem.W.Frag) (x : V) (H : Hp) (n : Nat) : Prop :=
  match x with
  | .str y => y.length ≤ sizeLine ∧ n = y.length
  | .byt y => y.size ≤ sizeLine ∧ n = y.size
  | .ref p => (∃ xs, SqL K H p xs ∧ n = xs.length) ∨ ∃ xs, SqT K H p xs ∧ n = xs.length
  | _ => False
theorem call_len : CallR X (.builtin "len") (fun xs H Q => ∃ x n, xs = [x] ∧ LenV X.K x H n ∧ Q (.int n) H) := by
  intro pins s σ H xs us Q I r h
  obtain ⟨x, n, rfl, e, q⟩ := h
  obtain ⟨u, rfl, rx⟩ := vals1 r
  have hl := line63
  have hs : sizeLine = 16777216 := sizeLine_eq
  cases x with
  | str y =>
    obtain ⟨t, rfl⟩ := rx
    obtain ⟨hy, e'⟩ : y.length ≤ sizeLine ∧ n = y.length := e
    subst e'
    exact len_str (by omega) ⟨.int _, H, I.tok _, ⟨_, rfl⟩, q⟩
  | byt y =>
    obtain ⟨t, rfl⟩ := rx
    obtain ⟨hy, e'⟩ : y.size ≤ sizeLine ∧ n = y.size := e
    subst e'
    exact PySem.W.len_bytes (by omega) ⟨.int _, H, I.tok _, ⟨_, rfl⟩, q⟩
  | ref p =>
    cases rx
    have e' : (∃ xs, SqL X.K H p xs ∧ n = xs.length) ∨ ∃ xs, SqT X.K H p xs ∧ n = xs.length := e
    rcases e' with ⟨xs, hx, e'⟩ | ⟨xs, hx, e'⟩
    · subst e'
      obtain ⟨its, r', pl, hz⟩ := I.list hx
      have hlen := r'.length
      exact Calls.call_len_list pl.isList (by simp only [List.size_toArray]; omega) ⟨.int xs.length, H, I.tok _, ⟨_, by simp only [List.size_toArray]; rw [hlen]⟩, q⟩
    · subst e'
      obtain ⟨its, r', pl, hz⟩ := I.tuple hx
      have hlen := r'.length
      exact len_tuple pl (by simp only [List.size_toArray]; omega) ⟨.int xs.length, H, I.tok _, ⟨_, by simp only [List.size_toArray]; rw [hlen]⟩, q⟩
  | _ => exact (show False from e).elim
end
end L2

namespace L2
open PySem PySem.Spec PyProof.Rows

/-! ### an instance, its attributes a map -/
structure ObjM (h : Heap) (x dx C : Addr) (mA : Str → Option Value) : Prop where
  obj : h.get? x = some (PySem.W.instObj C dx)
  ns : h.Ns1 dx mA
  ne : dx ≠ x

theorem lookIn_ns {h : Heap} {dx : Addr} {mA : Str → Option Value} (n : h.Ns1 dx mA) : ∃ od, h.get? dx = some od ∧ ∀ name, PySem.W.lookIn name od = some (mA name) := by
  obtain ⟨o, es, ep, ho, hd, hk, _, hm⟩ := n
  refine ⟨o, ho, fun name => ?_⟩
  have e := hm name
  unfold nsFind findBy at e
  rw [← Array.find?_toList] at e
  unfold PySem.W.lookIn
  rw [hd]
  dsimp only
  split
  · rename_i y q
    rw [q] at e
    exact congrArg some e
  · rename_i q
    rw [q] at e
    have a : es.toList.any (·.refKey) = false := by
      rw [List.any_eq_false]
      intro y hy
      obtain ⟨z, t, hkey⟩ := hk y (Array.mem_toList_iff.mp hy)
      simp [DictEntry.refKey, hkey]
    have a' : ¬ es.toList.any (·.refKey) = true := by rw [a]; exact Bool.false_ne_true
    rw [if_neg a']
    exact congrArg some e

theorem ObjM.look {h : Heap} {x dx C : Addr} {mA : Str → Option Value} (I : ObjM h x dx C mA) : ∃ od, PySem.W.InstAt h x (PySem.W.instObj C dx) C (some od) ∧ ∀ name, PySem.W.lookIn name od = some (mA name) :=
  let ⟨od, ho, hl⟩ := lookIn_ns I.ns
  ⟨od, ⟨I.obj, rfl, rfl, ho⟩, hl⟩

section
variable {prog : Program} {w : World} {A : Around} {E : Value → Shared → Prop} {s : Shared} {K : PySem.W.Frag} {x dx C f : Addr} {mA : Str → Option Value} {name : Str} {v : Value}

end

/-! ### the attributes as a list of pairs -/
theorem RelO.some_of {v : V} {o : Option Value} (r : RelO (some v) o) : ∃ u, o = some u ∧ RelV v u := by
  cases o with
  | none => exact (show False from r).elim
  | some u => exact ⟨u, rfl, r⟩
theorem RelO.none_of {o : Option Value} (r : RelO none o) : o = none := by
  cases o with
  | none => rfl
  | some u => exact (show False from r).elim
section
variable {P : Program} {w : World} {H H' : Hp} {h h' : Heap} {a C dx : Addr} {fs fs' : List (Str × V)}
theorem ins_get (hok : HOk P w H h) (e : H a = some (.ins C dx fs)) : ∃ mA, ObjM h a dx C mA ∧ (∀ f, RelO (fs.lookup f) (mA f)) ∧ PySem.Within mA (fs.map (·.1)) ∧ fs.length ≤ 1000 ∧ H dx = some (.own a) := by
  obtain ⟨d, z, ne, ob, mA, n, r, q⟩ := (show ObjOk P w H h a (.ins C dx fs) from hok a _ e)
  exact ⟨mA, ⟨ob, n, ne⟩, r, q, z, d⟩
end

/-! ### what of the text a class must have -/
structure Cls (K : PySem.W.Frag) (C : Addr) : Prop where
  pg : PySem.W.plainGet K C Str.empty = true
  hd : PySem.W.hasDictIn K C = true
  po : PySem.W.plainOver K C = true
  sa : PySem.W.findIn K (.ref C) "__setattr__" = some (some (.builtin "object.__setattr__"))
theorem Cls.get {K : PySem.W.Frag} {C : Addr} (c : Cls K C) (f : Str) : PySem.W.plainGet K C f = true := c.pg
section
variable {X : Cx} {pins : List (Addr × Obj)} {σ : St} {H : Hp} {s : Shared} {a C dx : Addr} {fs : List (Str × V)} {f : Str} {v : V} {A : Around} {E : Value → Shared → Prop}

end

/-! ### readings and rules -/
section
variable {X : Cx} {o e value : Expr} {f : Str} {pos pos' tpos : Pos} {ta tv : TE}
end

/-! ### isinstance -/
section
variable {X : Cx} {pins : List (Addr × Obj)} {σ : St} {H : Hp} {s : Shared} {A : Around} {E : Value → Shared → Prop} {Q : Value → Shared → Prop} {c : Value} {b : Bool}
/-- the type of a value, as the fragment's deciders take it; for an instance its class -/
inductive TyOf (K : PySem.W.Frag) (H : Hp) : V → Value → Prop where
  | non : TyOf K H .non (.type "NoneType")
  | bl (x : Bool) : TyOf K H (.bl x) (.type "bool")
  | int (i : Int) : TyOf K H (.int i) (.type "int")
  | str (x : Str) : TyOf K H (.str x) (.type "str")
  | flt (x : UInt64) : TyOf K H (.flt x) (.type "float")
  | lst {a : Addr} {xs : List V} (e : H a = some (.lst xs)) : TyOf K H (.ref a) (.type "list")
  | frz {a : Addr} {o : Obj} {xs : List V} (e : H a = some (.frz o (.lst xs))) : TyOf K H (.ref a) (.type "list")
  | tup {a : Addr} {xs : List V} (e : H a = some (.tup xs)) : TyOf K H (.ref a) (.type "tuple")
  | dK {a : Addr} {kvs : List (Key × V)} (e : H a = some (.dK kvs)) : TyOf K H (.ref a) (.type "dict")
  | dT {a : Addr} {kvs : List (List Key × V)} (e : H a = some (.dT kvs)) : TyOf K H (.ref a) (.type "dict")
  | ins {a C dx : Addr} {fs : List (Str × V)} (e : H a = some (.ins C dx fs)) (cl : Cls K C) (ha : PySem.W.findIn K (.ref C) "__class__" = some (some (.builtin "object.__class__")))
      (hn : PySem.W.specialIn K (.builtin "object.__class__") "__get__" = some (some (.builtin "getset_descriptor.__get__"))) (htk : PySem.W.takesIn K (.builtin "object.__class__") = some true)
      (hm : PySem.W.mroIn K C (.type "object") = some true) : TyOf K H (.ref a) (.ref C)
/-- isinstance(x, c) for one class c, a built-in or an own one: kitOne's answer -/
theorem isinst_ok {x : V} {u t : Value} (I : Inv X pins σ H s) (rx : RelV x u) (ty : TyOf X.K H x t) (e : PySem.W.kitOne X.K t c = some b) (h : ∀ tk, Q (.bool b) { s with toks := tk }) :
    wpAny (model X.prog X.w) A (call (.builtin "isinstance") [u, c]) Q E s := by
  cases ty with
  | non => cases (show u = Value.none from rx); exact PySem.W.kia_one PySem.W.kitx_none I.kIn True.intro e (fun z => nomatch z) h
  | bl y => cases (show u = Value.bool y from rx); exact PySem.W.kia_one PySem.W.kitx_bool I.kIn True.intro e (fun z => nomatch z) h
  | int i => obtain ⟨t, q⟩ := (show ∃ t, u = Value.int i t from rx); cases q; exact PySem.W.kia_one PySem.W.kitx_int I.kIn True.intro e (fun z => nomatch z) h
  | str y => obtain ⟨t, q⟩ := (show ∃ t, u = Value.str y t from rx); cases q; exact PySem.W.kia_one PySem.W.kitx_str I.kIn True.intro e (fun z => nomatch z) h
  | flt y => obtain ⟨t, q⟩ := (show ∃ t, u = Value.float y t from rx); cases q; exact PySem.W.kia_one PySem.W.kitx_float I.kIn True.intro e (fun z => nomatch z) h
  | @lst a xs ea =>
    cases (show u = Value.ref a from rx)
    obtain ⟨_, _, n, _, h1⟩ := (show ObjOk X.prog X.w H s.heap a (.lst xs) from I.hok a _ ea)
    exact PySem.W.kia_one PySem.W.kitx_list I.kIn ⟨_, h1, rfl⟩ e (fun z => nomatch z) h
  | @frz a ob xs ea =>
    cases (show u = Value.ref a from rx)
    obtain ⟨_, _, _, n, _, h1⟩ := (show ObjOk X.prog X.w H s.heap a (.frz ob (.lst xs)) from I.hok a _ ea)
    exact PySem.W.kia_one PySem.W.kitx_list I.kIn ⟨_, h1, rfl⟩ e (fun z => nomatch z) h
  | @tup a xs ea =>
    cases (show u = Value.ref a from rx)
    obtain ⟨_, _, _, p⟩ := (show ObjOk X.prog X.w H s.heap a (.tup xs) from I.hok a _ ea)
    obtain ⟨o, h1, h2, _⟩ := p
    exact PySem.W.kia_one PySem.W.kitx_tuple I.kIn ⟨o, h1, h2⟩ e (fun z => nomatch z) h
  | @dK a kvs ea =>
    cases (show u = Value.ref a from rx)
    obtain ⟨_, _, vs, _, p⟩ := (show ObjOk X.prog X.w H s.heap a (.dK kvs) from I.hok a _ ea)
    obtain ⟨o, es, ep, h1, h2, _⟩ := p
    exact PySem.W.kia_one PySem.W.kitx_dict I.kIn ⟨o, h1, h2.1⟩ e (fun z => nomatch z) h
  | @dT a kvs ea =>
    cases (show u = Value.ref a from rx)
    obtain ⟨_, _, xs, _, o, es, ep, h1, h2, _⟩ := (show ObjOk X.prog X.w H s.heap a (.dT kvs) from I.hok a _ ea)
    exact PySem.W.kia_one PySem.W.kitx_dict I.kIn ⟨o, h1, h2.1⟩ e (fun z => nomatch z) h
  | @ins a C dx fs ea cl ha hn htk hm =>
    cases (show u = Value.ref a from rx)
    obtain ⟨mA, O, _⟩ := ins_get I.hok ea
    obtain ⟨od, J, _⟩ := O.look
    exact PySem.W.kia_one (PySem.W.kitx_own (cl.get _) cl.hd ha hn htk hm) I.kIn J e (fun z => nomatch z) h
end
end L2

namespace L2
open PySem PySem.Spec PyProof.Rows

/-! ### room -/
structure Room (k : Nat) (A : Around) : Prop where
  hd : A.handled = none
  dp : A.depth + 3 * k + 5 < recursionLimit
  un : A.units + 16 * k + 200 < cLine
theorem Room.mono {j k : Nat} {A : Around} (r : Room k A) (h : j ≤ k) : Room j A := ⟨r.hd, by have := r.dp; omega, by have := r.un; omega⟩
theorem Room.deeper {k : Nat} {A : Around} (r : Room (k + 1) A) (env : Env) : Room k (A.deeper env) :=
  ⟨r.hd, by have := r.dp; show A.depth + 1 + 3 * k + 5 < _; omega, by have := r.un; show A.units + 3 + 16 * k + 200 < _; omega⟩
theorem Room.depth {k : Nat} {A : Around} (r : Room k A) : A.depth < recursionLimit := by have := r.dp; omega
theorem Room.units {k : Nat} {A : Around} (r : Room k A) : A.units + 64 < cLine := by have := r.un; omega
theorem Room.units0 {k : Nat} {A : Around} (r : Room k A) : A.units < cLine := by have := r.un; omega

/-! ### argument lists and displays -/
def tNil : TA := fun _ H Q => Q [] H
def tCons (ta : TE) (tr : TA) : TA := fun σ H Q => ta σ H fun x H1 => tr σ H1 fun xs H2 => Q (x :: xs) H2
section
variable {X : Cx} {e : Expr} {es : List Expr} {te : TE} {t : TA} {pos : Pos}
theorem pa_nil : PA X [] tNil := fun _ _ _ _ H Q I h => Calls.spliced_nil ⟨[], H, I, .nil, h⟩
theorem pa_cons (ha : PE X e te) (hr : PA X es t) (hs : starEach (e :: es) X.env = (false, eval e X.env) :: starEach es X.env := by rfl) : PA X (e :: es) (tCons te t) := by
  intro pos pins s σ H Q I h
  rw [hs]
  show wpAny _ _ (spliced ((false, eval e X.env) :: backTo pos (starEach es X.env))) _ _ s
  refine Calls.spliced_cons (thn (ha pins s σ H _ I h) fun u s1 ⟨x, H1, I1, r1, q1⟩ => ?_)
  exact thn (hr pos pins s1 σ H1 _ I1 q1) fun us s2 ⟨xs, H2, I2, r2, q2⟩ => ⟨x :: xs, H2, I2, .cons r1 r2, q2⟩

/-- a tuple, a list of written items -/
def tTup (t : TA) : TE := fun σ H Q => t σ H fun xs H1 => xs.length ≤ sizeLine ∧ ∀ p, H1 p = none → Q (.ref p) (upd H1 p (.tup xs))
def tLst (t : TA) : TE := fun σ H Q => t σ H fun xs H1 => xs.length ≤ sizeLine ∧ ∀ p, H1 p = none → Q (.ref p) (upd H1 p (.lst xs))
theorem pe_tup {x1} (h : PA X es t) : PE X (.Tuple es x1 pos) (tTup t) := by
  intro pins s σ H Q I hq
  refine wpAny_Tuple_spliced (thn (h pos pins s σ H _ I hq) fun us s1 ⟨xs, H1, I1, r, z, q⟩ => ⟨by rw [← r.length]; exact z, ?_⟩)
  have hf : H1 s1.heap.objs.size = none := I1.hok.fresh (Nat.le_refl _)
  refine ⟨.ref s1.heap.objs.size, upd H1 s1.heap.objs.size (.tup xs), I1.laid (t' := s1.toks) (fun b u e => Heap.get?_push_of_some _ e) (Nat.le_refl _) ?_, rfl, q _ hf⟩
  exact ⟨z, us, r, ⟨_, Heap.get?_push_size _ rfl, rfl, _, rfl⟩⟩
theorem pe_lst (h : PA X es t) : PE X (.List es pos) (tLst t) := by
  intro pins s σ H Q I hq
  refine wpAny_List_spliced (thn (h pos pins s σ H _ I hq) fun us s1 ⟨xs, H1, I1, r, z, q⟩ => ⟨by rw [← r.length]; exact z, ?_⟩)
  have hf : H1 s1.heap.objs.size = none := I1.hok.fresh (Nat.le_refl _)
  refine ⟨.ref s1.heap.objs.size, upd H1 s1.heap.objs.size (.lst xs), I1.laid (t' := s1.toks) (fun b u e => Heap.get?_push_of_some _ e) (Nat.le_refl _) ?_, rfl, q _ hf⟩
  exact ⟨z, us, 0, r, Heap.get?_push_size _ rfl⟩
end

/-! ### what a def promises -/
/-- a def's promise: the bound arguments in the parameters' order, the heap, the wanted end, the wanted exception -/
abbrev Sp := List V → Hp → VK → XK → Prop
/-- how an exception lies behind a call (file 08 gives it): the callers' frames, abstract heap and state ahead of the call, the wish, the exception, the state -/
abbrev CXT := List Env → Hp → Shared → XK → Value → Shared → Prop

/-- the state at a call -/
structure Env0 (P : Program) (w : World) (K : PySem.W.Frag) (mg : Str → Option Value) (base : Heap) (A : Around) (outer : List Env) (s : Shared) (H : Hp) : Prop where
  frames : A.frames = some outer
  mod : Mod K mg base
  bs : ∀ b o, base.get? b = some o → s.heap.get? b = some o ∧ H b = none
  bsz : base.objs.size ≤ s.heap.objs.size
  funs : s.heap.FunFrames base outer
  frf : ∀ b ∈ frs outer, H b = none
  hok : HOk P w H s.heap
  bare : AllBare s.gens
/-- a call's end -/
def CE (outer : List Env) (P : Program) (w : World) (H : Hp) (s : Shared) (Q : VK) (u : Value) (s' : Shared) : Prop :=
  ∃ v H', s'.os = s.os ∧ AllBare s'.gens ∧ Un (frs outer) [] H H' s.heap s'.heap ∧ HOk P w H' s'.heap ∧ RelV v u ∧ Q v H'
def CR (CX : CXT) (outer : List Env) (P : Program) (w : World) (H : Hp) (s : Shared) (Q : VK) (E : XK) (r : Result) (s' : Shared) : Prop :=
  match r with
  | .ok (.ret u) => CE outer P w H s Q u s'
  | .ok _ => False
  | .error e => CX outer H s E e s'
structure FnOk (P : Program) (w : World) (K : PySem.W.Frag) (mg : Str → Option Value) (base : Heap) (CX : CXT) (k : Nat) (f : Addr) (fd : FuncData) (ps : List Str) (sp : Sp) : Prop where
  len : ∀ vs H Q E, sp vs H Q E → vs.length = ps.length
  run : ∀ (A : Around) (outer : List Env) (s : Shared) (H : Hp) (args : Args) (us : List Value) (vs : List V) (Q : VK) (E : XK), Room k A → Env0 P w K mg base A outer s H → BindsTo s fd args (ps.zip us) → Vals vs us → sp vs H Q E →
    codeAny (model P w) A (.call (.ref f) args) (CR CX outer P w H s Q E) s
section
variable {X : Cx} {pins : List (Addr × Obj)} {σ : St} {H : Hp} {s s' : Shared}
/-- from a body: what a callee wants -/
theorem Inv.env0 (I : Inv X pins σ H s) : Env0 X.prog X.w X.K X.mg X.base X.A X.stack s H :=
  ⟨I.ok.frames, I.ok.mod, I.bs, Nat.le_trans I.ok.bsz I.sz, I.stack, I.stkFree, I.hok, I.bare⟩
/-- behind a call -/
theorem Inv.after {Q : VK} {u : Value} (I : Inv X pins σ H s) (h : CE X.stack X.prog X.w H s Q u s') : EP X pins σ Q u s' := by
  obtain ⟨v, H', os, bare, un, hok, r, q⟩ := h
  obtain ⟨hh, g, d, t, os'⟩ := s'
  obtain rfl : os' = s.os := os
  exact ⟨v, H', I.call (h' := hh) (g' := g) (d' := d) (t' := t) (ch := []) un hok bare (fun b z => absurd z (by simp)), r, q⟩
end

/-! ### calls -/
/-- f(..): the written arguments, then the defaults dvs; E: what is wanted of an exception -/
def tCall (sp : Sp) (dvs : List V) (E : XK) (t : TA) : TE := fun σ H Q => t σ H fun vs H1 => sp (vs ++ dvs) H1 Q E
/-- how the parameters are bound: us the positional arguments, kw the keywords' values by name, ds the defaults that fill up -/
def Binds (K : PySem.W.Frag) (fd : FuncData) (ps : List Str) (ds : List Value) : Prop :=
  ∀ (s : Shared) (us : List Value), K.In s.heap → (us ++ ds).length = ps.length → BindsTo s fd ⟨us, []⟩ (ps.zip (us ++ ds))
/-- every parameter is given -/
theorem Binds.all {K : PySem.W.Frag} {fd : FuncData} {ps : List Str} (h : ∀ us : List Value, us.length = ps.length → bindArgs fd ⟨us, []⟩ = pure (ps.zip us)) : Binds K fd ps [] := fun s us _ hl => by
  rw [List.append_nil] at hl ⊢
  exact .of_eq (h us hl)

/-- an exception of a callee reaches what this body wants of exceptions -/
def Passes (CX : CXT) (X : Cx) (E : XK) : Prop := ∀ (pins : List (Addr × Obj)) (σ : St) (H : Hp) (s : Shared) (e : Value) (s' : Shared), Inv X pins σ H s → CX X.stack H s E e s' → X.xe e s'

section
variable {X : Cx} {CX : CXT} {k : Nat} {f C : Addr} {fd : FuncData} {ps : List Str} {sp : Sp} {dvs : List V} {ds : List Value} {E : XK} {x m : Str} {p pos apos : Pos} {e o : Expr} {es : List Expr} {ta : TE} {t : TA}

/-- the callee runs -/
theorem run_fn {pins : List (Addr × Obj)} {σ : St} {H : Hp} {s : Shared} {Q : VK} {us : List Value} {vs : List V} (F : FnOk X.prog X.w X.K X.mg X.base CX k f fd ps sp) (hr : Room k X.A) (hb : Binds X.K fd ps ds) (hd : Vals dvs ds) (hx : Passes CX X E)
    (I : Inv X pins σ H s) (r : Vals vs us) (h : sp (vs ++ dvs) H Q E) : wpAny (model X.prog X.w) X.A (call (.ref f) us) (EP X pins σ Q) X.xe s := by
  have r2 : Vals (vs ++ dvs) (us ++ ds) := r.append hd
  have hl : (us ++ ds).length = ps.length := by rw [← r2.length]; exact F.len _ _ _ _ h
  refine wpAny_call (codeAny_mono (F.run X.A X.stack s H ⟨us, []⟩ (us ++ ds) (vs ++ dvs) Q E hr I.env0 (hb s us I.kIn hl) r2 h) fun r s' hq => ?_)
  cases r with
  | error e => exact hx pins σ H s e s' I hq
  | ok fl =>
    cases fl with
    | ret u => exact I.after hq
    | next => exact False.elim hq
    | brk => exact False.elim hq
    | cont => exact False.elim hq

theorem pe_call (F : FnOk X.prog X.w X.K X.mg X.base CX k f fd ps sp) (hr : Room k X.A) (hg : Gl X x) (hm : X.mg x = some (.ref f)) (hk : PySem.W.keepIn X.K (.ref f) = true) (hb : Binds X.K fd ps ds) (hd : Vals dvs ds) (hx : Passes CX X E)
    (ha : PA X (e :: es) t) (hdb : (x == ("__debug__" : Str)) = false := by decide) (he : starEach (e :: es) X.env = (false, eval e X.env) :: starEach es X.env := by rfl) (hpl : (backTo pos (starEach es X.env)).any (·.1) = false := by rfl) :
    PE X (.Call (.Name x p) (e :: es) [] pos) (tCall sp dvs E t) := by
  intro pins s σ H Q I h
  refine wpAny_Call_Name_kw (ld_glob I hg hm ?_ hdb)
  refine PySem.W.callWith_K (h₀ := X.base) I.ok.mod.kin hk (thn (ha pos pins s σ H _ I h) fun us s1 ⟨vs, H1, I1, r, q⟩ => ⟨I1.kIn, ?_⟩) he hpl
  exact run_fn F hr hb hd hx I1 r q
end

/-! ### keywords -/
section
variable {X : Cx} {CX : CXT} {k : Nat} {f C : Addr} {fd : FuncData} {ps ks : List Str} {sp : Sp} {E : XK} {x m : Str} {p pos apos kpos : Pos} {e o : Expr} {es : List Expr} {kws : List Keyword} {te ta : TE} {t tk : TA} {nm : Option Str}
variable {g : List Value → List Value → List Value} {gV : List V → List V → List V}
end

/-! ### a def's body keeps its promise -/
/-- names: the parameters first -/
structure FnScope (N P : List Str) (sc : Scope) : Prop where
  kind : sc.kind = .function
  co : sc.isCoroutine = false
  gen : sc.isGenerator = false
  nd : N.Nodup
  pre : N.take P.length = P
  par : ∀ x ∈ P, sc.names.lookup x = some .local ∨ sc.names.lookup x = some .cell
  nofree : ∀ y ∈ sc.names, y.2 ≠ .free

theorem bindL_out {kindOf : Str → Option NameKind} {x : Str} : ∀ {binds : List (Str × Value)} {m : Str → Option Value}, (∀ v, (x, v) ∉ binds) → bindL kindOf binds m x = m x
  | [], _, _ => rfl
  | (n, v) :: r, m, h => by
    unfold bindL
    rw [bindL_out fun w hw => h w (List.mem_cons_of_mem _ hw)]
    split
    · have : x ≠ n := by rintro rfl; exact h v List.mem_cons_self
      simp [this]
    · rfl
theorem bindC_out {kindOf : Str → Option NameKind} {x : Str} : ∀ {binds : List (Str × Value)} {m : Str → Option Value}, (∀ v, (x, v) ∉ binds) → bindC kindOf binds m x = m x
  | [], _, _ => rfl
  | (n, v) :: r, m, h => by
    unfold bindC
    rw [bindC_out fun w hw => h w (List.mem_cons_of_mem _ hw)]
    split
    · rfl
    · have : x ≠ n := by rintro rfl; exact h v List.mem_cons_self
      simp [this]
theorem bindL_get {kindOf : Str → Option NameKind} {x : Str} {v : Value} : ∀ {P : List Str} {vs : List Value} {i : Nat} {m : Str → Option Value}, P.Nodup → P[i]? = some x → vs[i]? = some v → kindOf x = some .local →
    bindL kindOf (P.zip vs) m x = some v
  | [], _, _, _, _, h, _, _ => by simp at h
  | _ :: _, [], _, _, _, _, h, _ => by simp at h
  | p :: P, w :: vs, 0, m, nd, h1, h2, hk => by
    simp at h1 h2; subst h1; subst h2
    show bindL kindOf ((p, w) :: P.zip vs) m p = _
    unfold bindL
    rw [bindL_out fun v hv => (List.nodup_cons.mp nd).1 (List.of_mem_zip hv).1, if_pos hk]
    simp
  | p :: P, w :: vs, i + 1, m, nd, h1, h2, hk => by
    show bindL kindOf ((p, w) :: P.zip vs) m x = _
    unfold bindL
    exact bindL_get (i := i) (List.nodup_cons.mp nd).2 (by simpa using h1) (by simpa using h2) hk
theorem bindC_get {kindOf : Str → Option NameKind} {x : Str} {v : Value} : ∀ {P : List Str} {vs : List Value} {i : Nat} {m : Str → Option Value}, P.Nodup → P[i]? = some x → vs[i]? = some v → kindOf x ≠ some .local →
    bindC kindOf (P.zip vs) m x = some v
  | [], _, _, _, _, h, _, _ => by simp at h
  | _ :: _, [], _, _, _, _, h, _ => by simp at h
  | p :: P, w :: vs, 0, m, nd, h1, h2, hk => by
    simp at h1 h2; subst h1; subst h2
    show bindC kindOf ((p, w) :: P.zip vs) m p = _
    unfold bindC
    rw [bindC_out fun v hv => (List.nodup_cons.mp nd).1 (List.of_mem_zip hv).1, if_neg hk]
    simp
  | p :: P, w :: vs, i + 1, m, nd, h1, h2, hk => by
    show bindC kindOf ((p, w) :: P.zip vs) m x = _
    unfold bindC
    exact bindC_get (i := i) (List.nodup_cons.mp nd).2 (by simpa using h1) (by simpa using h2) hk

/-- the names' values at the entry -/
def start (N : List Str) (vs : List V) : St := vs.map some ++ List.replicate (N.length - vs.length) none

/-- the context of a def's body, at its entry; an exception leaves the frame, then lies as CX says -/
def cxOf (CX : CXT) (P : Program) (w : World) (K : PySem.W.Frag) (mg : Str → Option Value) (base : Heap) (N : List Str) (qual : Str) (scope : Scope) (f : Addr) (cd : Value) (A : Around) (outer : List Env) (s : Shared) (H : Hp) (E : XK) : Cx where
  prog := P
  w := w
  K := K
  mg := mg
  base := base
  A := A.deeper (envOfC qual scope s.heap.objs.size f cd)
  N := N
  s₀ := s
  H₀ := H
  env := envOfC qual scope s.heap.objs.size f cd
  outer := outer
  stack := envOfC qual scope s.heap.objs.size f cd :: outer
  ex := []
  calm := true
  fn := fun _ => true
  pn := []
  xe := fun e s' => wpAny (model P w) (A.deeper (envOfC qual scope s.heap.objs.size f cd)) (leaving (envOfC qual scope s.heap.objs.size f cd) e) (fun _ s'' => CX outer H s E e s'') (fun e' s'' => CX outer H s E e' s'') s'

theorem cell_has {sc : Scope} {n : Nat} {x : Str} (h : sc.names.lookup x = some .cell) : ∃ c, (cellsFrom n sc.names []).lookup x = some c := by
  have q := PySem.W.cellsFrom_some sc.names n [] (.inl h)
  exact Option.isSome_iff_exists.mp q

theorem inv_start {CX : CXT} {P : Program} {w : World} {K : PySem.W.Frag} {mg : Str → Option Value} {base : Heap} {N ps : List Str} {qual : Str} {scope : Scope} {f : Addr} {cd : Value} {A : Around} {outer : List Env} {s s1 : Shared} {H : Hp} {E : XK} {us : List Value} {vs : List V}
    (S : FnScope N ps scope) (hd : A.handled = none) (e0 : Env0 P w K mg base A outer s H) (hl : vs.length = ps.length) (r : Vals vs us)
    (x : InCallC s s.heap.objs.size (bindL (envOfC qual scope s.heap.objs.size f cd).kindOf (ps.zip us) fun _ => none) (cellsFrom (s.heap.objs.size + 1) scope.names []) (bindC (envOfC qual scope s.heap.objs.size f cd).kindOf (ps.zip us) fun _ => none) s1) :
    Inv (cxOf CX P w K mg base N qual scope f cd A outer s H E) [] (start N vs) H s1 := by
  have hpl : ps.length ≤ N.length := by have := congrArg List.length S.pre; rw [List.length_take] at this; omega
  obtain ⟨h1, tk, rfl, hk⟩ := x.done
  have noA : ∀ b : Addr, b ∉ (cxOf CX P w K mg base N qual scope f cd A outer s H E).ex := fun b z => absurd (show b ∈ ([] : List Addr) from z) (by simp)
  refine ⟨⟨e0.mod, S.kind, rfl, rfl, Nat.le_refl _, fun y z c h1 h2 => ?_, fun y hy => ?_, fun y c _ h => ?_, fun _ => hd, Around.frames_deeper e0.frames, .inr ⟨rfl, rfl⟩, fun b z => absurd z (noA b), e0.bs, e0.bsz, fun b _ _ => noA b, fun b z => absurd z (noA b), e0.funs, e0.frf⟩,
    rfl, e0.bare, Un.kept hk, ⟨_, x.toInCall.ns, fun i y v h1 h2 h3 => ?_⟩, fun y c h => ⟨_, x.cell y c h⟩, e0.hok.fresh (Nat.le_refl _), fun y c h => ?_, fun p hp => absurd (show p ∈ ([] : List (Addr × Obj)) from hp) (by simp), e0.hok.kept hk, ?_⟩
  · exact name_of_addr x.apart (PySem.mem_of_lookup h1) (PySem.mem_of_lookup h2)
  · have hy : scope.names.lookup y = some .cell ∨ scope.names.lookup y = some .free := hy
    rcases hy with hy | hy
    · exact cell_has hy
    · exact absurd rfl (S.nofree _ (PySem.mem_of_lookup hy))
  · exact Nat.le_of_lt (x.above y c (PySem.mem_of_lookup h))
  · have hi : i < vs.length := by
      unfold start at h2
      by_cases hi : i < vs.length
      · exact hi
      · rw [List.getElem?_append_right (by simpa using hi)] at h2
        rw [List.getElem?_replicate] at h2
        split at h2 <;> cases h2
    have ha : vs[i]? = some v := by
      unfold start at h2
      rw [List.getElem?_append_left (by simpa using hi), List.getElem?_map] at h2
      cases e : vs[i]? with
      | none => rw [e] at h2; cases h2
      | some a => rw [e] at h2; cases h2; rfl
    obtain ⟨u, hu, rv⟩ := r.get ha
    have hp : ps[i]? = some y := by
      rw [← S.pre, List.getElem?_take_of_lt (by omega)]; exact h1
    have ndP : ps.Nodup := by rw [← S.pre]; exact S.nd.sublist (List.take_sublist _ _)
    refine ⟨u, rv, ?_⟩
    rcases S.par y (List.mem_of_getElem? hp) with k | k
    · exact .inl ⟨k, bindL_get ndP hp hu k⟩
    · obtain ⟨c, e⟩ := cell_has (n := s.heap.objs.size + 1) k
      refine .inr ⟨.inl k, c, e, ?_⟩
      have q := x.cell y c e
      rw [bindC_get ndP hp hu (by show scope.names.lookup y ≠ _; rw [k]; decide)] at q
      exact q
  · exact e0.hok.fresh (Nat.le_of_lt (x.above y c (PySem.mem_of_lookup h)))
  · unfold start
    show _ = N.length
    rw [List.length_append, List.length_map, List.length_replicate]
    omega

/-- THE RULE: a def (or a method) of the text, by its body. The body's reading t is chosen for each entry; it is run at the parameters' values -/
theorem fn_of {CX : CXT} {P : Program} {w : World} {K : PySem.W.Frag} {mg : Str → Option Value} {base : Heap} {k : Nat} {f : Addr} {name qual : Str} {params : Arguments} {body : List Stmt} {scope : Scope} {dV kV doc pm cdv ct oc : Value} {an od : Option Addr}
    {osl : Array (Option Value)} {N ps : List Str} {sp : Sp} (lk : K.lookup f = some ⟨oc, od, .func (PySem.W.fnOf name qual params body scope dV kV doc pm an cdv ct), osl⟩) (hcd : PySem.W.codeIn K cdv qual = true) (S : FnScope N ps scope)
    (len : ∀ vs H Q E, sp vs H Q E → vs.length = ps.length)
    (hbody : ∀ (A : Around) (outer : List Env) (s : Shared) (H : Hp) (vs : List V) (Q : VK) (E : XK), Room k (A.deeper (envOfC qual scope s.heap.objs.size f cdv)) → sp vs H Q E →
      ∃ t, PSs (cxOf CX P w K mg base N qual scope f cdv A outer s H E) body t ∧ t { nx := fun _ H' => Q .non H', rt := Q } (start N vs) H) :
    FnOk P w K mg base CX (k + 1) f (PySem.W.fnOf name qual params body scope dV kV doc pm an cdv ct) ps sp := by
  refine ⟨len, fun A outer s H args us vs Q E hr e0 hb r hsp => ?_⟩
  have hl := len _ _ _ _ hsp
  have KX : K.In s.heap := e0.mod.kin.keeps fun b o e => (e0.bs b o e).1
  have lim : s.heap.NoLimit := e0.mod.nolimit.keeps fun b o e => (e0.bs b o e).1
  have hkind : ∀ y ∈ ps.zip us, scope.names.lookup y.1 = some .local ∨ (scope.names.lookup y.1 = some .cell ∧ ((cellsFrom (s.heap.objs.size + 1) scope.names []).lookup y.1).isSome = true) := fun ⟨n, v⟩ hy => by
    rcases S.par n (List.of_mem_zip hy).1 with q | q
    · exact .inl q
    · exact .inr ⟨q, PySem.W.cellsFrom_some _ _ _ (.inl q)⟩
  refine codeAny_call_function hr.depth (KX _ _ lk) rfl S.co S.gen rfl (PySem.W.codeRec_of KX hcd) (hb _ _ _ _ ?_)
  refine wpAny_newFunctionEnv_cells S.kind hkind fun env he s1 x => ?_
  subst he
  refine ⟨lim.keeps x.toInCall.keep, codeAny_func ?_⟩
  obtain ⟨t, ht, hq⟩ := hbody A outer s H vs Q E (hr.deeper _) hsp
  have I : Inv (cxOf CX P w K mg base N qual scope f cdv A outer s H E) [] (start N vs) H s1 := inv_start S hr.hd e0 hl r x
  refine wpAny_mono (ht [] s1 (start N vs) H _ I hq) (fun fl s' hs => ?_) fun e s' hs => hs
  have fin : ∀ {σ' : St} {H' : Hp} {v : V} {u : Value}, Inv (cxOf CX P w K mg base N qual scope f cdv A outer s H E) [] σ' H' s' → RelV v u → Q v H' → CE outer P w H s Q u s' :=
    fun {σ' H' v u} J rv q => ⟨v, H', J.os, J.bare, J.base, J.hok, rv, q⟩
  cases fl with
  | ret u =>
    obtain ⟨v, σ', H', J, rv, q⟩ := hs
    exact fin J rv q
  | next =>
    obtain ⟨σ', H', J, q⟩ := hs
    exact fin (v := V.non) (u := Value.none) J rfl q
  | brk =>
    obtain ⟨_, _, _, q⟩ := hs
    exact False.elim q
  | cont =>
    obtain ⟨_, _, _, q⟩ := hs
    exact False.elim q
end L2

namespace L2
open PySem PySem.Spec PyProof.Rows
section
variable {X : Cx} {x : Str} {p pos : Pos} {e : Expr} {es : List Expr} {t : TA} {id T : String} {r : List V → Hp → VK → Prop}

def tCB (r : List V → Hp → VK → Prop) (t : TA) : TE := fun σ H Q => t σ H fun vs H1 => r vs H1 Q
/-- f(e, ..), f a built-in function -/
theorem pe_callB (hc : CallR X (.builtin id) r) (hg : Gl X x) (hm : X.mg x = none) (hv : bootBuiltins x = some (.builtin id)) (ha : PA X (e :: es) t) (hn : x ≠ "__name__" := by decide) (hdb : (x == ("__debug__" : Str)) = false := by decide)
    (he : starEach (e :: es) X.env = (false, eval e X.env) :: starEach es X.env := by rfl) (hpl : (backTo pos (starEach es X.env)).any (·.1) = false := by rfl) : PE X (.Call (.Name x p) (e :: es) [] pos) (tCB r t) := by
  intro pins s σ H Q I h
  refine wpAny_Call_Name_kw (ld_blt I hg hm hv ?_ hn hdb)
  exact PyProof.Rows.callWith_builtin1 (thn (ha pos pins s σ H _ I h) fun us s1 ⟨vs, H1, I1, r1, q1⟩ => hc pins s1 σ H1 vs us Q I1 r1 q1) he hpl
/-- T(e, ..), T a built-in type -/
theorem pe_callTy (hc : CallR X (.type T) r) (hg : Gl X x) (hm : X.mg x = none) (hv : bootBuiltins x = some (.type T)) (ha : PA X (e :: es) t) (hn : x ≠ "__name__" := by decide) (hdb : (x == ("__debug__" : Str)) = false := by decide)
    (he : starEach (e :: es) X.env = (false, eval e X.env) :: starEach es X.env := by rfl) (hpl : (backTo pos (starEach es X.env)).any (·.1) = false := by rfl) : PE X (.Call (.Name x p) (e :: es) [] pos) (tCB r t) := by
  intro pins s σ H Q I h
  refine wpAny_Call_Name_kw (ld_blt I hg hm hv ?_ hn hdb)
  exact PyProof.Rows.callWith_type1 (thn (ha pos pins s σ H _ I h) fun us s1 ⟨vs, H1, I1, r1, q1⟩ => hc pins s1 σ H1 vs us Q I1 r1 q1) he hpl
end
end L2

namespace HT
open PySem PyProof.Rows

section
open PySem.SeqAt
open PySem.AutoSeq1 (wpAny_loadPart')
open PySem.MeetsSeq PySem.MeetsSeq2 PySem.MeetsSeq3

end

section
variable {prog : Program} {w : World} {A : Around} {E : Value → Shared → Prop} {s : Shared}

/-- t + u, t not empty -/
theorem cat_tup {t b : Addr} {vs ws : List Value} {Q : Value → Shared → Prop} (ht : IsTup s.heap t vs.toArray) (hb : IsTup s.heap b ws.toArray) (hv : vs ≠ [])
    (h1 : ws = [] → Q (.ref t) s) (h2 : ws ≠ [] → Q (.ref s.heap.objs.size) { s with heap := s.heap.push { cls := .type "tuple", data := .seq (vs ++ ws).toArray } })
    (hsz : vs.length + ws.length ≤ sizeLine) : wpAny (model prog w) A (binaryOp .Add (.ref t) (.ref b)) Q E s := by
  obtain ⟨⟨cls, dd, data, sl⟩, ho, hc, n, hd⟩ := id ht
  obtain ⟨⟨cls2, dd2, data2, sl2⟩, ho2, hc2, n2, hd2⟩ := id hb
  simp only at hc hd hc2 hd2
  subst hc hd hc2 hd2
  have e : vs.toArray ++ ws.toArray = (vs ++ ws).toArray := by simp
  by_cases hw : ws = []
  · exact concat_meets ⟨_, ho, rfl⟩ ⟨_, ho2, rfl⟩ noFill_tuple_add seq_tuple_add PySem.F.slot_tuple_add PySem.F.entry_tuple_add (PySem.F.args_tuple_add_2 _ _)
      (tuple_addW1 t b vs.toArray ws.toArray n n2 dd dd2 sl sl2 (by simpa using hv) (by simp [hw])) ⟨ho, ho2, h1 hw⟩
  · refine concat_meets ⟨_, ho, rfl⟩ ⟨_, ho2, rfl⟩ noFill_tuple_add seq_tuple_add PySem.F.slot_tuple_add PySem.F.entry_tuple_add (PySem.F.args_tuple_add_2 _ _)
      (tuple_addW2 t b vs.toArray ws.toArray n n2 dd dd2 sl sl2 (by simpa using hv) (by simpa using hw) (by rw [List.size_toArray, List.size_toArray]; exact hsz)) ⟨ho, ho2, ?_⟩
    rw [e]
    exact h2 hw

/-! ### t[a:b], not the whole -/
/-- a slice's bound as a place among n (d where it is left out) -/
def sIx (n d : Nat) : Option Int → Nat
  | none => d
  | some v => if v < 0 then (v + (n : Int)).toNat else min v.toNat n
theorem sIx_none (n d : Nat) : sIx n d none = d := rfl
theorem sIx_nat (n d k : Nat) : sIx n d (some (k : Int)) = min k n := by
  show (if (k : Int) < 0 then ((k : Int) + (n : Int)).toNat else min (k : Int).toNat n) = min k n
  rw [if_neg (by omega), Int.toNat_natCast]
theorem sIx_le (n d : Nat) (hd : d ≤ n) (o : Option Int) : sIx n d o ≤ n := by
  cases o with
  | none => exact hd
  | some v =>
    show (if v < 0 then (v + (n : Int)).toNat else min v.toNat n) ≤ n
    by_cases hv : v < 0
    · rw [if_pos hv]; omega
    · rw [if_neg hv]; exact Nat.min_le_right _ _
theorem clip_eq (v : Int) (n d : Nat) : (if v < 0 then max (v + (n : Int)) 0 else min v (n : Int)) = ((sIx n d (some v) : Nat) : Int) := by
  show (if v < 0 then max (v + (n : Int)) 0 else min v (n : Int)) = (((if v < 0 then (v + (n : Int)).toNat else min v.toNat n) : Nat) : Int)
  by_cases hv : v < 0
  · simp only [if_pos hv]; omega
  · simp only [if_neg hv]; omega
theorem adjust_gen (lo hi : Option Int) (n : Nat) : Builtin.Slice.sliceAdjust lo hi 1 (n : Int) = (((sIx n 0 lo : Nat) : Int), ((sIx n n hi : Nat) : Int)) := by
  have h1 : ¬ ((1 : Int) < 0) := by omega
  unfold Builtin.Slice.sliceAdjust
  simp only [h1, if_false]
  refine Prod.ext ?_ ?_
  · cases lo with
    | none => rfl
    | some v => exact clip_eq v n 0
  · cases hi with
    | none => rfl
    | some v => exact clip_eq v n n
theorem places_gen (i j : Nat) : Builtin.Slice.slicePlaces (i : Int) (j : Int) 1 = j - i := by
  unfold Builtin.Slice.slicePlaces
  have h1 : (1 : Int) > 0 := by omega
  simp only [h1, if_true, Int.ediv_one]
  split <;> omega
theorem slicePart_ {v : Value} {o : Option Int} {Q : Option Int → Shared → Prop} (p : IsPart v o) (h : Q o s) : wpAny (model prog w) A (Builtin.Slice.slicePartIndex v) Q E s := by
  cases p with
  | none => exact slicePart_none h
  | int i t => exact slicePart_int h
theorem sliceApplied_gen {sl : Addr} {vl vu : Value} {lo hi : Option Int} {n : Nat} {Q : Int × Int × Nat → Shared → Prop} (hs : s.heap.IsSliceOf sl vl vu .none) (pl : IsPart vl lo) (pu : IsPart vu hi)
    (h : Q (((sIx n 0 lo : Nat) : Int), 1, sIx n n hi - sIx n 0 lo) s) : wpAny (model prog w) A (Builtin.Slice.sliceApplied (.ref sl) (pure (n : Int))) Q E s := by
  obtain ⟨os, hos, hcs, hds⟩ := id hs
  unfold Builtin.Slice.sliceApplied Builtin.Slice.sliceFields
  refine wpAny_bind (wpAny_bind (wpAny_field hos hds (x := vl) rfl (wpAny_bind (wpAny_field hos hds (x := vu) rfl (wpAny_bind (wpAny_field hos hds (x := .none) rfl (wpAny_pure ?_)))))))
  refine wpAny_bind (slicePart_none ?_)
  show wpAny _ _ (if ((1 : Int) == 0) = true then _ else _) _ _ s
  rw [if_neg (by decide)]
  refine wpAny_bind (slicePart_ pl (wpAny_bind (slicePart_ pu (wpAny_bind (wpAny_pure ?_)))))
  show wpAny _ _ (match Builtin.Slice.sliceAdjust lo hi 1 (n : Int) with | (lo, hi) => pure (lo, (1 : Int), Builtin.Slice.slicePlaces lo hi 1)) _ _ s
  rw [adjust_gen lo hi n]
  show wpAny _ _ (pure (((sIx n 0 lo : Nat) : Int), (1 : Int), Builtin.Slice.slicePlaces ((sIx n 0 lo : Nat) : Int) ((sIx n n hi : Nat) : Int) 1)) _ _ s
  rw [places_gen]
  exact wpAny_pure h
theorem pick_gen (xs : Array Value) (i k : Nat) : ((List.range k).filterMap fun (m : Nat) => xs[((i : Int) + (m : Int) * 1).toNat]?).toArray = ((xs.toList.drop i).take k).toArray := by
  have e : (fun (m : Nat) => xs[((i : Int) + (m : Int) * 1).toNat]?) = fun m => xs[i + m]? := by
    funext m
    have : ((i : Int) + (m : Int) * 1).toNat = i + m := by omega
    rw [this]
  rw [e]
  have := pick_run xs i k
  rw [List.filterMap_map] at this
  have e2 : ((fun x => xs[x]?) ∘ fun x => i + x) = fun m => xs[i + m]? := rfl
  rw [e2] at this
  rw [this]

theorem getItem_tuple_cut {t sl : Addr} {items : Array Value} {vl vu : Value} {lo hi : Option Int} {Q : Value → Shared → Prop} (ht : IsTup s.heap t items) (hs : s.heap.IsSliceOf sl vl vu .none) (pl : IsPart vl lo) (pu : IsPart vu hi)
    (hw : ¬ (sIx items.size 0 lo = 0 ∧ sIx items.size items.size hi = items.size))
    (h : Q (.ref s.heap.objs.size) { s with heap := s.heap.push { cls := .type "tuple", data := .seq ((items.toList.drop (sIx items.size 0 lo)).take (sIx items.size items.size hi - sIx items.size 0 lo)).toArray } })
    (hsz : items.size ≤ sizeLine) : wpAny (model prog w) A (getItem (.ref t) (.ref sl)) Q E s := by
  have htake : sizeOk (.seq ((items.toList.drop (sIx items.size 0 lo)).take (sIx items.size items.size hi - sIx items.size 0 lo)).toArray) := by
    show ((items.toList.drop (sIx items.size 0 lo)).take (sIx items.size items.size hi - sIx items.size 0 lo)).toArray.size ≤ sizeLine
    rw [List.size_toArray, List.length_take, List.length_drop, Array.length_toList]
    omega
  have hj : sIx items.size items.size hi ≤ items.size := sIx_le _ _ (Nat.le_refl _) hi
  obtain ⟨os, hos, hcs, hds⟩ := id hs
  have hTs : s.TypeIs (.ref sl) "slice" := ⟨os, hos, hcs⟩
  unfold getItem
  try with_reducible refine wpAny_holding ?_
  first | refine wpAny_bind (wpAny_pure ?_) | skip
  refine wpAny_bind (wpAny_sequenceKey ht.typeIs (by decide) ?_)
  refine wpAny_bind (wpAny_callSpecial?_slot (name := Str.ofString "__getitem__") ht.typeIs PyProof.Rows.slot_tuple_getitem
    (wpAny_call_entry PyProof.Rows.slot_tuple_getitem ht.typeIs entry_tuple_getitem ?_ (args_tuple_getitem _ _)))
  show wpAny _ _ (Builtin.Tuple.tupleItemsOf (.ref t) >>= _) _ _ s
  refine wpAny_bind (tupleItemsOf_ ht ?_)
  refine wpAny_bind (wpAny_typeOf hTs ?_)
  rw [if_pos (by decide)]
  refine wpAny_bind (sliceApplied_gen hs pl pu ?_)
  have hno : ¬ ((((sIx items.size 0 lo : Nat) : Int) == 0 && (1 : Int) == 1 && (sIx items.size items.size hi - sIx items.size 0 lo) == items.size) = true) := by
    intro q
    rw [Bool.and_eq_true, Bool.and_eq_true] at q
    have q1 : ((sIx items.size 0 lo : Nat) : Int) = 0 := eq_of_beq q.1.1
    have q2 : sIx items.size items.size hi - sIx items.size 0 lo = items.size := eq_of_beq q.2
    exact hw ⟨by omega, by omega⟩
  show wpAny _ _ (if (((sIx items.size 0 lo : Nat) : Int) == 0 && (1 : Int) == 1 && (sIx items.size items.size hi - sIx items.size 0 lo) == items.size) = true then _ else _) _ _ s
  rw [if_neg hno, pick_gen]
  first
    | exact wpAny_bind (m := Builtin.Tuple.tupleExact _) (wpAny_newObj_type (wpAny_pure ⟨_, rfl, wpAny_pure h⟩) htake)
    | exact wpAny_bind (m := Builtin.Tuple.tupleExact _) (wpAny_newObj_type (wpAny_bind (wpAny_pure (wpAny_pure ⟨_, rfl, wpAny_pure h⟩))) htake)
    | exact wpAny_bind (wpAny_bind (m := Builtin.Tuple.tupleExact _) (wpAny_newObj_type (wpAny_pure (wpAny_pure ⟨_, rfl, wpAny_pure h⟩)) htake))
    | exact wpAny_bind (wpAny_bind (m := Builtin.Tuple.tupleExact _) (wpAny_newObj_type (wpAny_pure ⟨_, rfl, wpAny_pure h⟩) htake))
end
end HT

namespace L2
open PySem PySem.Spec PyProof.Rows

/-! ### the parts of a slice -/
abbrev TO := St → Hp → (Option Int → Hp → Prop) → Prop
/-- a slice's part (left out, or an int) -/
def PO (X : Cx) (e : Option Expr) (t : TO) : Prop :=
  ∀ (pins : List (Addr × Obj)) (s : Shared) (σ : St) (H : Hp) (Q : Option Int → Hp → Prop), Inv X pins σ H s → t σ H Q →
    wpAny (model X.prog X.w) X.A (evalPart e X.env) (fun u s' => ∃ o H', Inv X pins σ H' s' ∧ IsPart u o ∧ Q o H') X.xe s
def tNoPart : TO := fun _ H Q => Q none H
def tPart (t : TE) : TO := fun σ H Q => t σ H fun x H1 => ∃ i, x = .int i ∧ Q (some i) H1

theorem intsAre_of {ns : List Int} : ∀ {us : List Value}, Vals (ns.map V.int) us → IntsAre us ns := by
  induction ns with
  | nil => intro us r; rw [List.map_nil] at r; cases r; exact .nil
  | cons n ns ih =>
    intro us r
    rw [List.map_cons] at r
    cases r with
    | cons r1 r2 =>
      obtain ⟨t, e⟩ := r1
      subst e
      exact .cons n t (ih r2)

section
variable {X : Cx} {e : Expr} {te : TE} {lo hi : Option Expr} {tl th : TO} {pos p2 : Pos}

theorem po_none : PO X none tNoPart := by
  intro pins s σ H Q I h
  rw [evalPart_none]
  exact wpAny_pure ⟨none, H, I, .none, h⟩
theorem po_some (h : PE X e te) : PO X (some e) (tPart te) := by
  intro pins s σ H Q I hw
  rw [evalPart_some]
  refine thn (h pins s σ H _ I hw) fun u s1 ⟨x, H1, I1, r1, q1⟩ => ?_
  obtain ⟨i, rfl, q⟩ := q1
  obtain ⟨t, rfl⟩ := r1
  exact ⟨some i, H1, I1, .int i t, q⟩

/-- what a slice of a value is, by values: the slice object stands at sl -/
def SlR (X : Cx) (r : V → Option Int → Option Int → Hp → VK → Prop) : Prop :=
  ∀ (pins : List (Addr × Obj)) (s : Shared) (σ : St) (H : Hp) (x : V) (v vl vu : Value) (lo hi : Option Int) (sl : Addr) (Q : VK), Inv X pins σ H s → RelV x v → s.heap.IsSliceOf sl vl vu .none → IsPart vl lo → IsPart vu hi → r x lo hi H Q →
    ∃ T id, typeLookup (.type T) "__getitem__" = pure (some (.builtin id)) ∧ s.TypeIs v T ∧ wpAny (model X.prog X.w) X.A (getItem v (.ref sl)) (EP X pins σ Q) X.xe s
theorem SlR.or {r r' : V → Option Int → Option Int → Hp → VK → Prop} (h : SlR X r) (h' : SlR X r') : SlR X (fun x lo hi H Q => r x lo hi H Q ∨ r' x lo hi H Q) := by
  intro pins s σ H x v vl vu lo hi sl Q I rx hs pl pu q
  rcases q with q | q
  · exact h pins s σ H x v vl vu lo hi sl Q I rx hs pl pu q
  · exact h' pins s σ H x v vl vu lo hi sl Q I rx hs pl pu q
def tSl (r : V → Option Int → Option Int → Hp → VK → Prop) (te : TE) (tl th : TO) : TE := fun σ H Q => te σ H fun x H1 => tl σ H1 fun l H2 => th σ H2 fun u H3 => r x l u H3 Q
/-- a[lo:hi], any a -/
theorem pe_slice {r : V → Option Int → Option Int → Hp → VK → Prop} (hr : SlR X r) (he : PE X e te) (hl : PO X lo tl) (hu : PO X hi th) : PE X (.Subscript e (.Slice lo hi none p2) pos) (tSl r te tl th) := by
  intro pins s σ H Q I h
  refine Subscript_ (thn (he pins s σ H _ I h) fun v s1 ⟨x, H1, I1, r1, q1⟩ => ?_)
  refine wpAny_Slice (thn (hl pins s1 σ H1 _ I1 q1) fun vl s2 ⟨l, H2, I2, pl, q2⟩ => thn (hu pins s2 σ H2 _ I2 q2) fun vu s3 ⟨u, H3, I3, pu, q3⟩ => ?_)
  rw [evalPart_none]
  refine wpAny_pure ?_
  have I4 : Inv X pins σ H3 { s3 with heap := s3.heap.push { cls := .type "slice", data := .fields #[vl, vu, .none] } } := I3.kept (t' := s3.toks) fun b ob q => Heap.get?_push_of_some _ q
  obtain ⟨T, id, hT, ht, hg⟩ := hr pins { s3 with heap := s3.heap.push { cls := .type "slice", data := .fields #[vl, vu, .none] } } σ H3 x v vl vu l u s3.heap.objs.size Q I4 r1 (Heap.IsSliceOf.new ..) pl pu q3
  show wpAny (model X.prog X.w) X.A (subscriptTail e (.Slice lo hi none p2) v (.ref s3.heap.objs.size)) (EP X pins σ Q) X.xe { s3 with heap := s3.heap.push { cls := .type "slice", data := .fields #[vl, vu, .none] } }
  exact tail_any (ops := [.ref s3.heap.objs.size, v]) ht hT hg (by with_unfolding_all rfl)

/-- the items of xs[lo:hi] -/
def cutV (xs : List V) (lo hi : Option Int) : List V := (xs.drop (HT.sIx xs.length 0 lo)).take (HT.sIx xs.length xs.length hi - HT.sIx xs.length 0 lo)
theorem cutV_length (xs : List V) (lo hi : Option Int) : (cutV xs lo hi).length ≤ xs.length := by
  unfold cutV
  rw [List.length_take, List.length_drop]
  omega
/-- t[lo:hi], not the whole of it (the whole would be t itself) -/
def rSlT (K : PySem.W.Frag) : V → Option Int → Option Int → Hp → VK → Prop := fun x lo hi H Q => ∃ a xs, x = .ref a ∧ SqT K H a xs ∧
  ¬ (HT.sIx xs.length 0 lo = 0 ∧ HT.sIx xs.length xs.length hi = xs.length) ∧ ∀ p, H p = none → Q (.ref p) (upd H p (.tup (cutV xs lo hi)))
theorem sl_tup : SlR X (rSlT X.K) := by
  intro pins s σ H x v vl vu lo hi sl Q I rx hs pl pu h
  obtain ⟨a, xs, rfl, hx, hw, q⟩ := h
  cases rx
  obtain ⟨its, r, ht, hz⟩ := I.tuple hx
  have hlen : its.toArray.size = xs.length := by rw [List.size_toArray]; exact r.length.symm
  refine ⟨"tuple", _, PyProof.Rows.slot_tuple_getitem.lookup, ht.typeIs, ?_⟩
  refine HT.getItem_tuple_cut ht hs pl pu (by rw [hlen]; exact hw) ?_ (by rw [hlen]; exact hz)
  rw [hlen]
  refine ⟨.ref s.heap.objs.size, _, I.laid (t' := s.toks) (o := .tup (cutV xs lo hi)) (fun b ob q => Heap.get?_push_of_some _ q) (Nat.le_refl _) ?_, rfl, q _ (I.hok.fresh (Nat.le_refl _))⟩
  exact ⟨Nat.le_trans (cutV_length xs lo hi) hz, _, (r.drop (HT.sIx xs.length 0 lo)).take (HT.sIx xs.length xs.length hi - HT.sIx xs.length 0 lo), IsTup.new _ _⟩

/-! ### t < u, t + u -/
/-- t + u, t not empty: u empty gives t itself -/
def rCatT (K : PySem.W.Frag) : R2 := fun x y H Q => ∃ a b xs ys, x = .ref a ∧ y = .ref b ∧ SqT K H a xs ∧ SqT K H b ys ∧ xs ≠ [] ∧ xs.length + ys.length ≤ sizeLine ∧
  (ys = [] → Q (.ref a) H) ∧ (ys ≠ [] → ∀ p, H p = none → Q (.ref p) (upd H p (.tup (xs ++ ys))))
theorem Vals.nil_iff {xs : List V} {us : List Value} (r : Vals xs us) : us = [] ↔ xs = [] := by
  cases r with
  | nil => simp
  | cons _ _ => simp
theorem op_catT : OpR X (binaryOp .Add) (rCatT X.K) := by
  intro pins s σ H x y v u Q I rx ry h
  obtain ⟨a, b, xs, ys, rfl, rfl, ha, hb, hx, hz, q1, q2⟩ := h
  cases rx
  cases ry
  obtain ⟨its, r1, p1, _⟩ := I.tuple ha
  obtain ⟨its2, r2, p2, _⟩ := I.tuple hb
  refine HT.cat_tup p1 p2 (fun z => hx (r1.nil_iff.mp z)) (fun z => ⟨.ref a, H, I, rfl, q1 (r2.nil_iff.mp z)⟩) (fun z => ?_) (by rw [← r1.length, ← r2.length]; exact hz)
  refine ⟨.ref s.heap.objs.size, _, I.laid (t' := s.toks) (o := .tup (xs ++ ys)) (fun b ob q => Heap.get?_push_of_some _ q) (Nat.le_refl _) ?_, rfl, q2 (fun w => z (r2.nil_iff.mpr w)) _ (I.hok.fresh (Nat.le_refl _))⟩
  exact ⟨by rw [List.length_append]; exact hz, _, r1.append r2, IsTup.new _ _⟩
end
end L2

namespace L2
open PySem PySem.Spec PyProof.Rows

/-! ### places -/
/-- the place that an index of any sign means -/
def ixN (n : Nat) (i : Int) : Option Nat := if 0 ≤ i then (if i < n then some i.toNat else none) else if -(n : Int) ≤ i then some (i + n).toNat else none
def atI {α : Type} (xs : List α) (i : Int) : Option α := (ixN xs.length i).bind fun j => xs[j]?
theorem ixN_seq {n : Nat} {i : Int} {j : Nat} (h : ixN n i = some j) : seqIndex? i n = some j ∧ j < n ∧ -(n : Int) ≤ i ∧ i < n := by
  unfold ixN at h
  by_cases h0 : 0 ≤ i
  · rw [if_pos h0] at h
    by_cases h1 : i < n
    · rw [if_pos h1] at h
      have e : i.toNat = j := Option.some.inj h
      exact ⟨by rw [seqIndex_of h0 h1, e], by omega, by omega, h1⟩
    · rw [if_neg h1] at h; cases h
  · rw [if_neg h0] at h
    by_cases h1 : -(n : Int) ≤ i
    · rw [if_pos h1] at h
      have e : (i + n).toNat = j := Option.some.inj h
      exact ⟨by rw [seqIndex_neg (by omega) h1, e], by omega, h1, by omega⟩
    · rw [if_neg h1] at h; cases h
theorem atI_get {α : Type} {xs : List α} {i : Int} {v : α} (h : atI xs i = some v) : ∃ j, seqIndex? i xs.length = some j ∧ xs[j]? = some v ∧ j < xs.length ∧ -(xs.length : Int) ≤ i ∧ i < xs.length := by
  unfold atI at h
  cases e : ixN xs.length i with
  | none => rw [e] at h; cases h
  | some j =>
    rw [e] at h
    obtain ⟨h1, h2, h3, h4⟩ := ixN_seq e
    exact ⟨j, h1, h, h2, h3, h4⟩
theorem atI_nat {α : Type} {xs : List α} {j : Nat} {v : α} (h : xs[j]? = some v) : atI xs (j : Int) = some v := by
  have hj : j < xs.length := (List.getElem?_eq_some_iff.mp h).1
  have e : ixN xs.length (j : Int) = some j := by
    unfold ixN
    rw [if_pos (by omega), if_pos (by omega)]; simp
  unfold atI; rw [e]; exact h
/-! ### what may be subscripted -/
/-- what stands as an index of a plain subscript -/
def PlainIx (b : Expr) : Prop := ∀ o i, subscripted b false o i = operate [o, i] (getItem o i)
/-- a subscript by values -/
def IxR (X : Cx) (r : R2) : Prop :=
  ∀ (value slice : Expr) (pins : List (Addr × Obj)) (s : Shared) (σ : St) (H : Hp) (x y : V) (v u : Value) (Q : VK), Inv X pins σ H s → RelV x v → RelV y u → r x y H Q →
    subscripted slice false v u = operate [v, u] (getItem v u) → wpAny (model X.prog X.w) X.A (subscriptTail value slice v u) (EP X pins σ Q) X.xe s
/-- a call of a builtin's method by values: the receiver, the arguments -/
def MtR (X : Cx) (id : String) (r : V → List V → Hp → VK → Prop) : Prop :=
  ∀ (pins : List (Addr × Obj)) (s : Shared) (σ : St) (H : Hp) (x : V) (xs : List V) (v : Value) (us : List Value) (Q : VK), Inv X pins σ H s → RelV x v → Vals xs us → r x xs H Q →
    wpAny (model X.prog X.w) X.A (call (.builtin id) (v :: us)) (EP X pins σ Q) X.xe s
section
variable {X : Cx} {a b : Expr} {ta tb : TE} {pos : Pos}
theorem IxR.or {r r' : R2} (h : IxR X r) (h' : IxR X r') : IxR X (fun x y H Q => r x y H Q ∨ r' x y H Q) := by
  intro value slice pins s σ H x y v u Q I rx ry q hs
  rcases q with q | q
  · exact h value slice pins s σ H x y v u Q I rx ry q hs
  · exact h' value slice pins s σ H x y v u Q I rx ry q hs
/-- a[b] -/
theorem pe_ix {r : R2} (hr : IxR X r) (ha : PE X a ta) (hb : PE X b tb) (hs : PlainIx b) : PE X (.Subscript a b pos) (tOp r ta tb) := by
  intro pins s σ H Q I h
  exact Subscript_ (binT ha hb I h fun v u s2 x y H2 I2 rx ry q => hr a b pins s2 σ H2 x y v u Q I2 rx ry q (hs _ _))

def rIxL (K : PySem.W.Frag) : R2 := fun x y H Q => ∃ p xs i v, x = .ref p ∧ y = .int i ∧ SqL K H p xs ∧ atI xs i = some v ∧ Q v H
def rIxT (K : PySem.W.Frag) : R2 := fun x y H Q => ∃ p xs i v, x = .ref p ∧ y = .int i ∧ SqT K H p xs ∧ atI xs i = some v ∧ Q v H
def rIxS : R2 := fun x y H Q => ∃ z i c, x = .str z ∧ y = .int i ∧ z.length ≤ sizeLine ∧ atI z.cps.toList i = some c ∧ Q (.str ⟨#[c]⟩) H
theorem ix_list : IxR X (rIxL X.K) := by
  intro value slice pins s σ H x y v u Q I rx ry h hs
  obtain ⟨p, xs, i, z, rfl, rfl, hq, he, q⟩ := h
  cases rx
  obtain ⟨t, rfl⟩ := ry
  obtain ⟨its, r, pl, hz⟩ := I.list hq
  obtain ⟨j, h1, h2, h3, h4, h5⟩ := atI_get he
  obtain ⟨w, ew, rw'⟩ := r.get h2
  have hl := r.length
  have hn := line63
  have fin : EP X pins σ Q w s := ⟨z, H, I, rw', q⟩
  by_cases h0 : 0 ≤ i
  · have hj : i.toNat = j := by
      rw [seqIndex_of h0 h5] at h1
      exact Option.some.inj h1
    exact item_listR pl.isList h0 (by omega) (by rw [hj]; simpa using ew) fin hs
  · have hj : (i + (its.toArray.size : Int)).toNat = j := by
      rw [seqIndex_neg (by omega) h4] at h1
      rw [List.size_toArray, ← hl]
      exact Option.some.inj h1
    exact subscriptTail_builtinR (x := w) pl.isList.typeIs slot_list_getitem.lookup
      (wpAny_getItem_list_neg (Q := fun r s' => r = w ∧ EP X pins σ Q r s') pl.isList (by omega) (by rw [List.size_toArray] <;> omega) (by omega) (by rw [hj]; simpa using ew) ⟨rfl, fin⟩) hs
theorem ix_tup : IxR X (rIxT X.K) := by
  intro value slice pins s σ H x y v u Q I rx ry h hs
  obtain ⟨p, xs, i, z, rfl, rfl, hq, he, q⟩ := h
  cases rx
  obtain ⟨t, rfl⟩ := ry
  obtain ⟨its, r, pl, hz⟩ := I.tuple hq
  obtain ⟨j, h1, h2, h3, h4, h5⟩ := atI_get he
  obtain ⟨w, ew, rw'⟩ := r.get h2
  have hl := r.length
  have hn := line63
  have fin : EP X pins σ Q w s := ⟨z, H, I, rw', q⟩
  exact subscriptTail_builtinR (x := w) pl.typeIs slot_tuple_getitem.lookup
    (getItem_tuple (j := j) (Q := fun r s' => r = w ∧ EP X pins σ Q r s') pl (by omega) (by omega) (by rw [List.size_toArray, ← hl]; exact h1) (by simpa using ew) ⟨rfl, fin⟩) hs
theorem ix_str : IxR X rIxS := by
  intro value slice pins s σ H x y v u Q I rx ry h hs
  obtain ⟨z, i, c, rfl, rfl, hz, he, q⟩ := h
  obtain ⟨t, rfl⟩ := rx
  obtain ⟨t', rfl⟩ := ry
  obtain ⟨j, h1, h2, h3, h4, h5⟩ := atI_get he
  have hl : z.cps.toList.length = z.length := by simp [Str.length]
  rw [hl] at h1 h4 h5
  have hn := line63
  exact tail_any (typeIs_str s z t) slot_str_getitem.lookup (getItem_str (c := c) (by
    have e1 : decide (i < -(2 ^ 63 : Int)) = false := decide_eq_false (by omega)
    have e2 : decide (i ≥ 2 ^ 63) = false := decide_eq_false (by omega)
    rw [e1, e2, Bool.or_false]) (by rw [h1]; simpa using h2) ⟨.str ⟨#[c]⟩, H, I.tok _, ⟨_, rfl⟩, q⟩) hs
/-- list, tuple or str -/
def rIx (K : PySem.W.Frag) : R2 := fun x y H Q => rIxL K x y H Q ∨ rIxT K x y H Q ∨ rIxS x y H Q
theorem ix_seq : IxR X (rIx X.K) := ix_list.or (ix_tup.or ix_str)

/-! ### xs[i] = v, any sign -/
/-- the list's object behind a store -/
theorem mapSeq_set (its : List Value) (n j : Nat) (u : Value) : Obj.mapSeq (·.setIfInBounds j u) { cls := .type "list", data := .seq its.toArray n } = { cls := .type "list", data := .seq (its.set j u).toArray n } := by
  simp [Obj.mapSeq]
theorem Inv.lst {pins : List (Addr × Obj)} {σ : St} {H : Hp} {s : Shared} {p : Addr} {xs : List V} (I : Inv X pins σ H s) (h : H p = some (.lst xs)) :
    ∃ (its : List Value) (n : Nat), Vals xs its ∧ s.heap.get? p = some { cls := .type "list", data := .seq its.toArray n } ∧ xs.length ≤ sizeLine := by
  obtain ⟨z, its, n, r, e⟩ := I.hok p _ h
  exact ⟨its, n, r, e, z⟩
/-- the list at p is written by an update of its object -/
theorem Inv.lstUpd {pins : List (Addr × Obj)} {σ : St} {H : Hp} {s : Shared} {p : Addr} {xs ys : List V} {its its' : List Value} {n n' : Nat} {f : Obj → Obj} (I : Inv X pins σ H s) (h : H p = some (.lst xs))
    (ho : s.heap.get? p = some { cls := .type "list", data := .seq its.toArray n }) (hf : f { cls := .type "list", data := .seq its.toArray n } = { cls := .type "list", data := .seq its'.toArray n' }) (r : Vals ys its') (hz : ys.length ≤ sizeLine) (t : Nat) :
    Inv X pins σ (upd H p (.lst ys)) { s with heap := s.heap.update p f, toks := t } := by
  have e : (s.heap.update p f).get? p = some { cls := .type "list", data := .seq its'.toArray n' } := by
    rw [Heap.get?_update_self f ho (by rw [hf] <;> rfl), hf]
  refine I.write (x := p) (e := p) (by rw [h]; trivial) (.inl rfl) (fun b u hb q => (Heap.get?_update_other _ _ (Ne.symm hb)).trans q) ⟨_, e⟩ ?_
  exact ⟨hz, its', n', r, e⟩
def rSetL : V → V → V → Hp → (Hp → Prop) → Prop := fun o i v H Q => ∃ p xs k j, o = .ref p ∧ i = .int k ∧ H p = some (.lst xs) ∧ ixN xs.length k = some j ∧ Q (upd H p (.lst (xs.set j v)))
theorem set_list : PSet X rSetL := by
  intro pins s σ H o i v ov iv u Q I ro ri rv h
  obtain ⟨p, xs, k, j, rfl, rfl, hp, hj, q⟩ := h
  cases ro
  obtain ⟨t, rfl⟩ := ri
  obtain ⟨its, n, r, ho, hz⟩ := I.lst hp
  obtain ⟨h1, h2, h3, h4⟩ := ixN_seq hj
  have hl := r.length
  have hn := line63
  have I' : Inv X pins σ (upd H p (.lst (xs.set j v))) { s with heap := s.heap.update p (Obj.mapSeq (·.setIfInBounds j u)) } :=
    I.lstUpd hp ho (mapSeq_set its n j u) (r.set rv j) (by rw [List.length_set]; exact hz) s.toks
  by_cases h0 : 0 ≤ k
  · have hk : k.toNat = j := by
      rw [seqIndex_of h0 h4] at h1
      exact Option.some.inj h1
    exact PySem.W.ki_setAt ho h0 (by omega) (by rw [List.size_toArray, ← hl]; exact h4) (by rw [hk]; exact ⟨_, I', q⟩)
  · have hk : (k + (its.toArray.size : Int)).toNat = j := by
      rw [seqIndex_neg (by omega) h3] at h1
      rw [List.size_toArray, ← hl]
      exact Option.some.inj h1
    exact PySem.W.ki_setBack ho (by omega) (by rw [List.size_toArray, ← hl]; exact h3) (by omega) (by rw [hk]; exact ⟨_, I', q⟩)

/-! ### slices -/
theorem slice_bounds (lo hi : Option Int) (n : Nat) : (sliceBounds lo hi none n).1 = ((HT.sIx n 0 lo : Nat) : Int) ∧ (sliceBounds lo hi none n).2.1 = ((HT.sIx n n hi : Nat) : Int) ∧ (sliceBounds lo hi none n).2.2 = 1 := by
  refine ⟨?_, ?_, rfl⟩
  · cases lo with
    | none => simp [sliceBounds, HT.sIx]
    | some i =>
      simp only [sliceBounds, HT.sIx, Option.getD_none, show (1 : Int) > 0 by decide, if_true]
      by_cases h : i < 0
      · simp only [h, if_true] <;> omega
      · simp only [h, if_false] <;> omega
  · cases hi with
    | none => simp [sliceBounds, HT.sIx]
    | some i =>
      simp only [sliceBounds, HT.sIx, Option.getD_none, show (1 : Int) > 0 by decide, if_true]
      by_cases h : i < 0
      · simp only [h, if_true] <;> omega
      · simp only [h, if_false] <;> omega
theorem slicePick_cut (its : List Value) (lo hi : Option Int) : slicePick its.toArray lo hi none = ((its.drop (HT.sIx its.length 0 lo)).take (HT.sIx its.length its.length hi - HT.sIx its.length 0 lo)).toArray := by
  obtain ⟨h1, h2, h3⟩ := slice_bounds lo hi its.toArray.size
  unfold slicePick
  rw [h1, h2, h3]
  simp only [sliceRange_one, pick_run, List.size_toArray] <;> rfl
/-- xs[lo:hi] of a list: a new list -/
def rSlL (K : PySem.W.Frag) : V → Option Int → Option Int → Hp → VK → Prop := fun x lo hi H Q => ∃ a xs, x = .ref a ∧ SqL K H a xs ∧ ∀ p, H p = none → Q (.ref p) (upd H p (.lst (cutV xs lo hi)))
theorem sl_list : SlR X (rSlL X.K) := by
  intro pins s σ H x v vl vu lo hi sl Q I rx hs pl pu h
  obtain ⟨a, xs, rfl, hx, q⟩ := h
  cases rx
  obtain ⟨its, r, ht, hz⟩ := I.list hx
  have hlen := r.length
  refine ⟨"list", _, slot_list_getitem.lookup, ht.isList.typeIs, ?_⟩
  refine wpAny_getItem_list_slice ht.isList hs pl pu .none (by simp) ?_ (by rw [List.size_toArray] <;> omega)
  rw [slicePick_cut, ← hlen]
  refine ⟨.ref s.heap.objs.size, _, I.laid (t' := s.toks) (o := .lst (cutV xs lo hi)) (fun b ob q => Heap.get?_push_of_some _ q) (Nat.le_refl _) ?_, rfl, q _ (I.hok.fresh (Nat.le_refl _))⟩
  exact ⟨Nat.le_trans (cutV_length xs lo hi) hz, _, 0, (r.drop (HT.sIx xs.length 0 lo)).take (HT.sIx xs.length xs.length hi - HT.sIx xs.length 0 lo), Heap.get?_push_size _ rfl⟩

/-! ### in, not in: flat items -/
def flatV : V → Bool
  | .non => true
  | .bl _ => true
  | .int _ => true
  | .str _ => true
  | _ => false
/-- == of flat values -/
def eqV : V → V → Bool
  | .non, .non => true
  | .bl a, .bl b => a == b
  | .bl a, .int b => (if a then 1 else 0) == b
  | .int a, .bl b => a == (if b then 1 else 0)
  | .int a, .int b => a == b
  | .str a, .str b => a == b
  | _, _ => false
theorem eqAt_V {A : Around} {s : Shared} {y x : V} {u v : Value} (ry : RelV y u) (rx : RelV x v) (fy : flatV y = true) (fx : flatV x = true) : SeqAt.EqAt A s u v (eqV y x) := by
  cases y with
  | non =>
    cases ry
    cases x with
    | non => cases rx; exact SeqAt.EqAt.same _
    | bl b => cases rx; exact SeqAt.EqAt.none_bool b
    | int b => obtain ⟨t, rfl⟩ := rx; exact SeqAt.EqAt.none_int b t
    | str b => obtain ⟨t, rfl⟩ := rx; exact SeqAt.EqAt.none_str b t
    | _ => exact absurd (show false = true from fx) Bool.false_ne_true
  | bl a =>
    cases ry
    cases x with
    | non => cases rx; exact SeqAt.EqAt.bool_none a
    | bl b => cases rx; exact SeqAt.EqAt.bool_bool a b
    | int b => obtain ⟨t, rfl⟩ := rx; exact SeqAt.EqAt.bool_int a b t
    | str b => obtain ⟨t, rfl⟩ := rx; exact SeqAt.EqAt.bool_str a b t
    | _ => exact absurd (show false = true from fx) Bool.false_ne_true
  | int a =>
    obtain ⟨t', rfl⟩ := ry
    cases x with
    | non => cases rx; exact SeqAt.EqAt.int_none a t'
    | bl b => cases rx; exact SeqAt.EqAt.int_bool a t' b
    | int b => obtain ⟨t, rfl⟩ := rx; exact SeqAt.EqAt.int_int a t' b t
    | str b => obtain ⟨t, rfl⟩ := rx; exact SeqAt.EqAt.int_str a t' b t
    | _ => exact absurd (show false = true from fx) Bool.false_ne_true
  | str a =>
    obtain ⟨t', rfl⟩ := ry
    cases x with
    | non => cases rx; exact SeqAt.EqAt.str_none a t'
    | bl b => cases rx; exact SeqAt.EqAt.str_bool a t' b
    | int b => obtain ⟨t, rfl⟩ := rx; exact SeqAt.EqAt.str_int a t' b t
    | str b => obtain ⟨t, rfl⟩ := rx; exact SeqAt.EqAt.str_str a t' b t
    | _ => exact absurd (show false = true from fx) Bool.false_ne_true
  | _ => exact absurd (show false = true from fy) Bool.false_ne_true
/-! ### len, list(x), tuple(x) of any list or tuple that is read -/
theorem call_list_of : CallR X (.type "list") (fun xs H Q => ∃ p ys, xs = [.ref p] ∧ (SqL X.K H p ys ∨ SqT X.K H p ys) ∧ ∀ l, H l = none → Q (.ref l) (upd H l (.lst ys))) := by
  intro pins s σ H xs us Q I r h
  obtain ⟨p, ys, rfl, hq, q⟩ := h
  obtain ⟨u, rfl, rx⟩ := vals1 r
  cases rx
  have fin : ∀ (its : List Value), Vals ys its → ys.length ≤ sizeLine → ∀ (h' : Heap) (c' : Nat), (∀ b o', s.heap.get? b = some o' → h'.get? b = some o') →
      h'.get? s.heap.objs.size = some { cls := .type "list", dict := none, data := .seq its.toArray c', slots := #[] } → EP X pins σ Q (.ref s.heap.objs.size) { s with heap := h' } := fun its r' hz h' c' kp e =>
    ⟨.ref s.heap.objs.size, _, I.laid (t' := s.toks) kp (Nat.le_refl _) (show ObjOk X.prog X.w _ h' _ (.lst ys) from ⟨hz, its, c', r', e⟩), rfl, q _ (I.hok.fresh (Nat.le_refl _))⟩
  rcases hq with hq | hq
  · obtain ⟨its, r', pl, hz⟩ := I.list hq
    have hlen := r'.length
    obtain ⟨o, ho, hc, n, hd⟩ := pl.isList
    exact call_list_seq p (.inl rfl) ho hc hd (fun h' c' kp e => fin its r' hz h' c' kp e) (by simp only [List.size_toArray] <;> omega)
  · obtain ⟨its, r', pl, hz⟩ := I.tuple hq
    have hlen := r'.length
    obtain ⟨o, ho, hc, n, hd⟩ := pl
    exact call_list_seq p (.inr rfl) ho hc hd (fun h' c' kp e => fin its r' hz h' c' kp e) (by simp only [List.size_toArray] <;> omega)
theorem call_tuple_of : CallR X (.type "tuple") (fun xs H Q => ∃ p ys, xs = [.ref p] ∧ ((SqL X.K H p ys ∧ ∀ l, H l = none → Q (.ref l) (upd H l (.tup ys))) ∨ (SqT X.K H p ys ∧ Q (.ref p) H))) := by
  intro pins s σ H xs us Q I r h
  obtain ⟨p, ys, rfl, h⟩ := h
  obtain ⟨u, rfl, rx⟩ := vals1 r
  cases rx
  rcases h with ⟨hq, q⟩ | ⟨hq, q⟩
  · obtain ⟨its, r', pl, hz⟩ := I.list hq
    have hlen := r'.length
    refine call_tuple_list pl.isList (fun h' kp => ?_) (by simp only [List.size_toArray] <;> omega)
    have I1 : Inv X pins σ H { s with heap := h' } := I.kept (t' := s.toks) kp
    have I2 : Inv X pins σ (upd H h'.objs.size (.tup ys)) { s with heap := h'.push { cls := .type "tuple", data := .seq its.toArray } } :=
      I1.laid (t' := s.toks) (fun b o e => Heap.get?_push_of_some _ e) (Nat.le_refl _) (show ObjOk X.prog X.w _ _ _ (.tup ys) from ⟨hz, its, r', IsTup.new _ _⟩)
    exact ⟨.ref h'.objs.size, _, I2, rfl, q _ (I1.hok.fresh (Nat.le_refl _))⟩
  · obtain ⟨its, r', pl, hz⟩ := I.tuple hq
    exact call_tuple_same pl ⟨.ref p, H, I, rfl, q⟩

/-! ### the call of a builtin's method: o.m(..) -/
/-- the value is of that builtin type -/
def tyV (K : PySem.W.Frag) (T : String) (x : V) (H : Hp) : Prop := match x with
  | .str _ => T = "str"
  | .int _ => T = "int"
  | .ref p => (T = "list" ∧ ∃ xs, SqL K H p xs) ∨ (T = "tuple" ∧ ∃ o, K.lookup p = some o ∧ o.cls = .type "tuple" ∧ o.dict = none) ∨
      (T = "dict" ∧ ((∃ kvs, H p = some (.dK kvs)) ∨ ∃ kvs, H p = some (.dT kvs))) ∨ (T = "set" ∧ ∃ S n, H p = some (.set S n))
  | _ => False
theorem tyV_is {pins : List (Addr × Obj)} {σ : St} {H : Hp} {s : Shared} {T : String} {x : V} {v : Value} (I : Inv X pins σ H s) (r : RelV x v) (ty : tyV X.K T x H) :
    s.TypeIs v T ∧ ∀ a, v = .ref a → ∃ ob, s.heap.get? a = some ob ∧ ob.dict = none := by
  cases x with
  | str z =>
    obtain ⟨t, rfl⟩ := r
    cases (show T = "str" from ty)
    exact ⟨typeIs_str s z t, fun _ e => nomatch e⟩
  | int i =>
    obtain ⟨t, rfl⟩ := r
    cases (show T = "int" from ty)
    exact ⟨typeIs_int s i t, fun _ e => nomatch e⟩
  | ref p =>
    cases r
    rcases ty with ⟨rfl, xs, hq⟩ | ⟨rfl, o, hk, hc, hd⟩ | ⟨rfl, hk⟩ | ⟨rfl, S, n, hk⟩
    · obtain ⟨its, _, pl, _⟩ := I.list hq
      refine ⟨pl.isList.typeIs, fun a e => ?_⟩
      cases e
      obtain ⟨o, n, e, c, hd, _⟩ := pl
      exact ⟨o, e, hd⟩
    · refine ⟨⟨o, I.kIn p o hk, hc⟩, fun a e => ?_⟩
      cases e
      exact ⟨o, I.kIn _ o hk, hd⟩
    · have z : ∃ o, s.heap.get? p = some o ∧ o.ExactDict := by
        rcases hk with ⟨kvs, hk⟩ | ⟨kvs, hk⟩
        · obtain ⟨_, _, _, _, o, _, _, e, ex, _⟩ := I.hok p _ hk
          exact ⟨o, e, ex⟩
        · obtain ⟨_, _, _, _, o, _, _, e, ex, _⟩ := I.hok p _ hk
          exact ⟨o, e, ex⟩
      obtain ⟨o, e, ex⟩ := z
      refine ⟨⟨o, e, ex.1⟩, fun a e2 => ?_⟩
      cases e2
      exact ⟨o, e, ex.2.1⟩
    · obtain ⟨o, _, _, _, e, ex, _⟩ := I.hok p _ hk
      refine ⟨⟨o, e, ex.1⟩, fun a e2 => ?_⟩
      cases e2
      exact ⟨o, e, ex.2.1⟩
  | _ => exact False.elim ty
def tBM0 (K : PySem.W.Frag) (T : String) (r : V → List V → Hp → VK → Prop) (to : TE) : TE := fun σ H Q => to σ H fun x H1 => tyV K T x H1 ∧ r x [] H1 Q
def tBM (K : PySem.W.Frag) (T : String) (r : V → List V → Hp → VK → Prop) (to : TE) (t : TA) : TE := fun σ H Q => to σ H fun x H1 => tyV K T x H1 ∧ t σ H1 fun xs H2 => r x xs H2 Q
variable {o e : Expr} {es : List Expr} {to : TE} {t : TA} {name : Str} {apos cpos : Pos} {T id : String} {r : V → List V → Hp → VK → Prop}
theorem pe_bm0 (pa : PlainAttrs T) (slot : Slot T name id) (hty : typeOf (.builtin id) = pure (.type "method_descriptor")) (hm : MtR X id r) (ho : PE X o to)
    (hbase : attributeBase o name X.env (eval o X.env) = eval o X.env := by rfl) (hline : (apos.endLine == cpos.line) = true := by rfl) : PE X (.Call (.Attribute o name apos) [] [] cpos) (tBM0 X.K T r to) := by
  intro pins s σ H Q I h
  refine wpAny_Call_method0_late hbase hline (thn (ho pins s σ H _ I h) fun v s1 ⟨x, H1, I1, r1, ty, q1⟩ => ?_)
  obtain ⟨h1, h2⟩ := tyV_is I1 r1 ty
  exact ⟨T, id, pa, slot, hty, h1, h2, Calls.callWith_builtin rfl (PySem.evalArgs_none (hm pins s1 σ H1 x [] v [] Q I1 r1 .nil q1))⟩
theorem pe_bm (pa : PlainAttrs T) (slot : Slot T name id) (hty : typeOf (.builtin id) = pure (.type "method_descriptor")) (hm : MtR X id r) (ho : PE X o to) (ha : PA X (e :: es) t)
    (hbase : attributeBase o name X.env (eval o X.env) = eval o X.env := by rfl)
    (hfew : ((backTo cpos (starEach (e :: es) X.env)).all (fun x => !x.1) && (backToKw cpos (keywordEach [] X.env)).all (fun x => x.1.isSome)
      && decide ((e :: es).length + ([] : List Keyword).length + (if ([] : List Keyword).isEmpty then 0 else 1) < 30)) = true := by rfl)
    (hline : (apos.endLine == cpos.line) = true := by rfl) (hs : starEach (e :: es) X.env = (false, eval e X.env) :: starEach es X.env := by rfl) (hplain : (backTo cpos (starEach es X.env)).any (·.1) = false := by rfl) :
    PE X (.Call (.Attribute o name apos) (e :: es) [] cpos) (tBM X.K T r to t) := by
  intro pins s σ H Q I h
  refine wpAny_Call_method_late hbase hfew hline rfl (thn (ho pins s σ H _ I h) fun v s1 ⟨x, H1, I1, r1, ty, q1⟩ => ?_)
  obtain ⟨h1, h2⟩ := tyV_is I1 r1 ty
  refine ⟨T, id, pa, slot, hty, h1, h2, ?_⟩
  have hA := ha cpos pins s1 σ H1 _ I1 q1
  rw [hs] at hA ⊢
  refine Calls.callWith_builtin (by show (false || (backTo cpos (starEach es X.env)).any (·.1)) = false; rw [hplain] <;> rfl) (Calls.evalArgs_plain ?_)
  exact thn hA fun us s2 ⟨vs, H2, I2, r2, q2⟩ => hm pins s2 σ H2 x vs v us Q I2 r1 r2 q2
/- xs.append(e), list.index on a module's tuple .. are MtR facts of 06m -/
end
end L2

namespace L2
open PySem PySem.Spec PyProof.Rows

def MtM (X : Cx) (id : String) (r : V → List V → Hp → VK → Prop) : Prop :=
  ∀ (pins : List (Addr × Obj)) (s : Shared) (σ : St) (H : Hp) (x : V) (xs : List V) (v : Value) (us : List Value) (Q : VK), Inv X pins σ H s → RelV x v → Vals xs us → r x xs H Q →
    wpAny (model X.prog X.w) X.A (call (.builtin id) (v :: us)) (EP X pins σ Q) X.xe s

/-! ### lists of values -/
theorem Vals.one : ∀ {x : V} {us : List Value}, Vals [x] us → ∃ u, us = [u] ∧ RelV x u
  | _, _, .cons r .nil => ⟨_, rfl, r⟩
theorem Vals.two : ∀ {x y : V} {us : List Value}, Vals [x, y] us → ∃ u v, us = [u, v] ∧ RelV x u ∧ RelV y v
  | _, _, _, .cons r (.cons q .nil) => ⟨_, _, rfl, r, q⟩
theorem Vals.zero : ∀ {us : List Value}, Vals [] us → us = []
  | _, .nil => rfl
theorem Vals.rep {xs : List V} {us : List Value} (h : Vals xs us) : ∀ k : Nat, Vals (List.replicate k xs).flatten (List.replicate k us).flatten
  | 0 => .nil
  | k + 1 => by
    rw [List.replicate_succ, List.replicate_succ, List.flatten_cons, List.flatten_cons]
    exact Vals.append h (Vals.rep h k)
theorem foldl_rep (its : List Value) : ∀ (k : Nat) (acc : List Value),
    List.foldl (fun x1 x2 => x1 ++ x2) acc.toArray (List.replicate k its.toArray) = (acc ++ (List.replicate k its).flatten).toArray
  | 0, acc => by simp
  | k + 1, acc => by
    have e : acc.toArray ++ its.toArray = (acc ++ its).toArray := by simp
    have e2 : (acc ++ its) ++ (List.replicate k its).flatten = acc ++ (List.replicate (k + 1) its).flatten := by
      rw [List.replicate_succ, List.flatten_cons, List.append_assoc]
    rw [← e2, ← foldl_rep its k (acc ++ its), ← e, List.replicate_succ, List.foldl_cons]

section
variable {X : Cx} {pins : List (Addr × Obj)} {σ : St} {H : Hp} {s : Shared} {l b : Addr} {xs ys zs : List V}

/-! ### the two steps: a tracked list is rewritten, a new list is laid -/
theorem Inv.lset {its its' : List Value} {n : Nat} {f : Array Value → Array Value} {t' : Nat} (I : Inv X pins σ H s) (hH : H l = some (.lst xs))
    (e : s.heap.get? l = some { cls := .type "list", data := .seq its.toArray n }) (hf : f its.toArray = its'.toArray) (hv : Vals ys its') (hz : ys.length ≤ sizeLine) :
    Inv X pins σ (upd H l (.lst ys)) { s with heap := s.heap.update l (Obj.mapSeq f), toks := t' } := by
  have q := PySem.IsL.update e f
  rw [hf] at q
  refine I.write (x := l) (e := l) (by rw [hH]; exact trivial) (.inl rfl) (fun b' u hb hu => (Heap.get?_update_other s.heap (Obj.mapSeq f) (Ne.symm hb)).trans hu) ⟨_, q⟩ ?_
  exact ⟨hz, its', _, hv, q⟩
theorem Inv.lnew {its : List Value} {t' : Nat} (I : Inv X pins σ H s) (hv : Vals ys its) (hz : ys.length ≤ sizeLine) :
    Inv X pins σ (upd H s.heap.objs.size (.lst ys)) { s with heap := s.heap.push { cls := .type "list", data := .seq its.toArray }, toks := t' } :=
  I.laid (fun _ _ q => Heap.get?_push_of_some _ q) (Nat.le_refl _) ⟨hz, its, 0, hv, Heap.get?_push_size _ rfl⟩
theorem Inv.fresh (I : Inv X pins σ H s) : H s.heap.objs.size = none := I.hok.fresh (Nat.le_refl _)
theorem Inv.lstM (I : Inv X pins σ H s) (hH : H l = some (.lst xs)) : xs.length ≤ sizeLine ∧ ∃ (its : List Value) (n : Nat), Vals xs its ∧ xs.length = its.length ∧ s.heap.get? l = some { cls := .type "list", data := .seq its.toArray n } := by
  obtain ⟨z, its, n, r, e⟩ := I.hok l _ hH
  exact ⟨z, its, n, r, r.length, e⟩

theorem notLongL {n : Nat} (h : n ≤ sizeLine) : Builtin.List.listTooLong n = false := by
  unfold Builtin.List.listTooLong
  exact decide_eq_false (by omega)
end

section
variable {X : Cx}

/-! ### methods -/
def rAppend : V → List V → Hp → VK → Prop := fun x vs H Q => ∃ l xs y, x = .ref l ∧ vs = [y] ∧ H l = some (.lst xs) ∧ xs.length < sizeLine ∧ Q .non (upd H l (.lst (xs ++ [y])))
theorem mt_append : MtM X "list.append" rAppend := by
  intro pins s σ H x vs v us Q I rx rv h
  obtain ⟨l, xs, y, rfl, rfl, hH, hz, q⟩ := h
  cases rx
  obtain ⟨u, rfl, ru⟩ := rv.one
  obtain ⟨z, its, n, r, hl, e⟩ := I.lstM hH
  refine call_meets F.slot_list_append ⟨_, e, rfl⟩ F.entry_list_append (F.args_list_append_2 _ _) (PySem.list_append l its.toArray n u (by rw [List.size_toArray]; omega)) ⟨e, ?_⟩
  refine ⟨.non, _, I.lset (its' := its ++ [u]) hH e (by simp) (r.append (.cons ru .nil)) ?_, rfl, q⟩
  rw [List.length_append, List.length_singleton]
  omega

def rClear : V → List V → Hp → VK → Prop := fun x vs H Q => ∃ l xs, x = .ref l ∧ vs = [] ∧ H l = some (.lst xs) ∧ Q .non (upd H l (.lst []))
theorem mt_clear : MtM X "list.clear" rClear := by
  intro pins s σ H x vs v us Q I rx rv h
  obtain ⟨l, xs, rfl, rfl, hH, q⟩ := h
  cases rx
  have hus := rv.zero
  subst hus
  obtain ⟨z, its, n, r, hl, e⟩ := I.lstM hH
  refine call_meets F.slot_list_clear ⟨_, e, rfl⟩ F.entry_list_clear (F.args_list_clear_1 _) (AutoSeq1.list_clear_list_0 l its.toArray n (by rw [List.size_toArray]; omega)) ⟨e, ?_⟩
  exact ⟨.non, _, I.lset (its' := []) (ys := []) hH e rfl .nil (Nat.zero_le _), rfl, q⟩

/-! ### list + list, list += list, list * int -/
def rCat : R2 := fun x y H Q => ∃ l b xs zs, x = .ref l ∧ y = .ref b ∧ H l = some (.lst xs) ∧ H b = some (.lst zs) ∧ xs.length + zs.length ≤ sizeLine ∧ ∀ p, H p = none → Q (.ref p) (upd H p (.lst (xs ++ zs)))
theorem op_cat : OpR X (binaryOp .Add) rCat := by
  intro pins s σ H x y v u Q I rx ry h
  obtain ⟨l, b, xs, zs, rfl, rfl, hH, hB, hz, q⟩ := h
  cases rx
  cases ry
  obtain ⟨z, its, n, r, hl, e⟩ := I.lstM hH
  obtain ⟨z2, its2, n2, r2, hl2, e2⟩ := I.lstM hB
  refine PySem.P.add_list e e2 ?_ (by rw [List.size_toArray, List.size_toArray]; omega)
  have ea : its.toArray ++ its2.toArray = (its ++ its2).toArray := by simp
  rw [ea]
  exact ⟨.ref _, _, I.lnew (t' := s.toks) (r.append r2) (by rw [List.length_append]; omega), rfl, q _ I.fresh⟩
/-- a list times an int (a negative one is nothing) -/
def rRep : R2 := fun x y H Q => ∃ l k xs, x = .ref l ∧ y = .int k ∧ H l = some (.lst xs) ∧ -(2 ^ 63) ≤ k ∧ k < 2 ^ 63 ∧ xs.length * k.toNat ≤ sizeLine ∧
  ∀ p, H p = none → Q (.ref p) (upd H p (.lst (List.replicate k.toNat xs).flatten))
theorem len_rep {α : Type} (xs : List α) (k : Nat) : (List.replicate k xs).flatten.length = k * xs.length := by
  induction k with
  | zero => simp
  | succ k ih => rw [List.replicate_succ, List.flatten_cons, List.length_append, ih, Nat.succ_mul, Nat.add_comm]
theorem op_rep : OpR X (binaryOp .Mult) rRep := by
  intro pins s σ H x y v u Q I rx ry h
  obtain ⟨l, k, xs, rfl, rfl, hH, h1, h2, hz, q⟩ := h
  cases rx
  obtain ⟨t, rfl⟩ := ry
  obtain ⟨z, its, n, r, hl, e⟩ := I.lstM hH
  have hlen : its.toArray.size * k.toNat ≤ sizeLine := by rw [List.size_toArray, ← hl]; exact hz
  have hcap : ¬ its.toArray.size * k.toNat > (2 ^ 63 - 1) / 8 := by
    have : (sizeLine : Nat) ≤ (2 ^ 63 - 1) / 8 := by decide
    omega
  have hfit : ¬ (!Builtin.List.listFitsIndex k) = true := by
    rw [fitsIndex_both h1 h2]
    exact Bool.false_ne_true
  have hlong : ¬ Builtin.List.listTooLong (its.toArray.size * k.toNat) = true := by
    rw [notLongL hlen]
    exact Bool.false_ne_true
  have hnew : List.foldl (fun x1 x2 => x1 ++ x2) #[] (List.replicate (if its.toArray.isEmpty = true then 0 else k.toNat) its.toArray) = (List.replicate k.toNat its).flatten.toArray := by
    have f0 : ∀ m : Nat, List.foldl (fun x1 x2 => x1 ++ x2) #[] (List.replicate m its.toArray) = (List.replicate m its).flatten.toArray := fun m => by
      have := foldl_rep its m []
      rw [List.nil_append] at this
      exact this
    rw [f0]
    cases its with
    | nil => simp
    | cons a r' => rw [if_neg (by simp)]
  refine wpAny_binaryOp_repeat_ref (T := "list") (U := "int") (by decide) ⟨_, e, rfl⟩ (fun s' => typeIs_int s' k t) noFill_list_mul F.fills_int_mul F.slot_int_rmul repeat_list F.slot_int_index.lookup
    (call_meets F.slot_int_rmul (typeIs_int s k t) F.entry_int_rmul (F.args_int_rmul_2 _ _) (int___rmul___int_list k t l its.toArray n)
      ⟨e, rfl, ⟨_, e, rfl⟩, call_meets F.slot_list_mul ⟨_, e, rfl⟩ F.entry_list_mul (F.args_list_mul_2 _ _) (AutoListH.list___mul___list_int_3 l its.toArray n k t hfit hcap hlong) ⟨e, ?_⟩⟩)
  rw [hnew]
  exact ⟨.ref _, _, I.lnew (t' := s.toks) (r.rep k.toNat) (by rw [len_rep, Nat.mul_comm]; exact hz), rfl, q _ I.fresh⟩

/-! ### del xs[i] -/
end

/-! ### xs[a:b] = ys -/
section
variable {prog : Program} {w : World} {A : Around} {E : Value → Shared → Prop} {s : Shared}
end

section
variable {X : Cx}
end
end L2

namespace L2
open PySem PySem.Spec PyProof.Rows

/-! ### lists of pairs as tables -/
section
variable {κ : Type} [DecidableEq κ]
def valV (kvs : List (κ × V)) (k : κ) : Option V := (kvs.find? fun kv => decide (kv.1 = k)).map (·.2)
/-- in its place, or at the end -/
def putK (kvs : List (κ × V)) (k : κ) (v : V) : List (κ × V) :=
  if (kvs.any fun kv => decide (kv.1 = k)) = true then kvs.map (fun kv => if kv.1 = k then (kv.1, v) else kv) else kvs ++ [(k, v)]
theorem valV_pos {p : κ × V} {r : List (κ × V)} {k : κ} (e : p.1 = k) : valV (p :: r) k = some p.2 := by simp [valV, List.find?_cons, e]
theorem valV_neg {p : κ × V} {r : List (κ × V)} {k : κ} (e : ¬ p.1 = k) : valV (p :: r) k = valV r k := by simp [valV, List.find?_cons, e]
theorem valV_any (k : κ) : ∀ kvs : List (κ × V), (kvs.any fun kv => decide (kv.1 = k)) = (valV kvs k).isSome
  | [] => rfl
  | p :: r => by
    rw [List.any_cons]
    by_cases e : p.1 = k
    · simp only [valV_pos e, decide_eq_true e, Bool.true_or, Option.isSome_some]
    · rw [valV_neg e, decide_eq_false e, Bool.false_or]; exact valV_any k r
theorem valV_map (k j : κ) (y : V) : ∀ kvs : List (κ × V), valV (kvs.map fun kv => if kv.1 = k then (kv.1, y) else kv) j = (valV kvs j).map fun x => if j = k then y else x
  | [] => rfl
  | p :: r => by
    have ih := valV_map k j y r
    rw [List.map_cons]
    by_cases h : p.1 = k
    · rw [if_pos h]
      by_cases e : p.1 = j
      · rw [valV_pos (p := (p.1, y)) e, valV_pos e, Option.map_some, if_pos (e.symm.trans h)]
      · rw [valV_neg (p := (p.1, y)) e, valV_neg e, ih]
    · rw [if_neg h]
      by_cases e : p.1 = j
      · rw [valV_pos (p := p) e, valV_pos e, Option.map_some, if_neg (fun z => h (e.trans z))]
      · rw [valV_neg (p := p) e, valV_neg e, ih]
theorem valV_snoc (k j : κ) (y : V) : ∀ kvs : List (κ × V), valV kvs k = none → valV (kvs ++ [(k, y)]) j = if j = k then some y else valV kvs j
  | [], _ => by
    by_cases e : k = j
    · rw [if_pos e.symm]; exact valV_pos (p := (k, y)) e
    · rw [if_neg (fun z => e z.symm)]; exact valV_neg (p := (k, y)) e
  | p :: r, hn => by
    rw [List.cons_append]
    have hk : ¬ p.1 = k := fun z => by rw [valV_pos z] at hn; cases hn
    rw [valV_neg hk] at hn
    have ih := valV_snoc k j y r hn
    by_cases e : p.1 = j
    · rw [valV_pos e, valV_pos e, if_neg (fun z => hk (e.trans z))]
    · rw [valV_neg e, valV_neg e, ih]
theorem valV_put (kvs : List (κ × V)) (k j : κ) (y : V) : valV (putK kvs k y) j = if j = k then some y else valV kvs j := by
  unfold putK
  by_cases a : (kvs.any fun kv => decide (kv.1 = k)) = true
  · rw [if_pos a, valV_map]
    rw [valV_any] at a
    by_cases e : j = k
    · obtain ⟨x, hx⟩ := Option.isSome_iff_exists.mp a
      rw [if_pos e, e, hx, Option.map_some, if_pos rfl]
    · rw [if_neg e]
      cases valV kvs j with
      | none => rfl
      | some x => rw [Option.map_some, if_neg e]
  · rw [if_neg a]
    refine valV_snoc k j y kvs ?_
    rw [valV_any] at a
    cases q : valV kvs k with
    | none => rfl
    | some x => rw [q] at a; exact (a rfl).elim
theorem length_putK (kvs : List (κ × V)) (k : κ) (v : V) : (putK kvs k v).length ≤ kvs.length + 1 := by
  unfold putK
  split
  · rw [List.length_map]; omega
  · rw [List.length_append, List.length_cons, List.length_nil]; omega
theorem putK_new {kvs : List (κ × V)} {k : κ} (v : V) (h : valV kvs k = none) : putK kvs k v = kvs ++ [(k, v)] := by
  unfold putK
  rw [valV_any, h]
  exact if_neg (by decide)

theorem RelO.isSome_eq {o : Option V} {u : Option Value} (r : RelO o u) : o.isSome = u.isSome := by
  cases o with
  | none => cases u with
    | none => rfl
    | some _ => exact (show False from r).elim
  | some _ => cases u with
    | none => exact (show False from r).elim
    | some _ => rfl
/-- raw tables of the same keys -/
theorem KV.val {kvs : List (κ × V)} {vs : List (κ × Value)} (r : KV kvs vs) (k : κ) : RelO (valV kvs k) (valueAt vs k) := by
  unfold KV at r
  induction r with
  | nil => exact True.intro
  | @cons p q ps qs h t ih =>
    obtain ⟨h1, h2⟩ := h
    by_cases e : p.1 = k
    · have e' : q.1 = k := h1.symm.trans e
      have b : valueAt (q :: qs) k = some q.2 := by simp [valueAt, List.find?_cons, e']
      rw [valV_pos e, b]; exact h2
    · have e' : ¬ q.1 = k := fun z => e (h1.trans z)
      have b : valueAt (q :: qs) k = valueAt qs k := by simp [valueAt, List.find?_cons, e']
      rw [valV_neg e, b]; exact ih
theorem KV.any {kvs : List (κ × V)} {vs : List (κ × Value)} (r : KV kvs vs) (k : κ) : (kvs.any fun kv => decide (kv.1 = k)) = vs.any fun kv => decide (kv.1 = k) := by
  unfold KV at r
  induction r with
  | nil => rfl
  | cons h t ih => rw [List.any_cons, List.any_cons, ih, h.1]
theorem KV.repl {kvs : List (κ × V)} {vs : List (κ × Value)} (r : KV kvs vs) (k : κ) {y : V} {u : Value} (ry : RelV y u) :
    KV (kvs.map fun kv => if kv.1 = k then (kv.1, y) else kv) (vs.map fun kv => if kv.1 = k then (kv.1, u) else kv) := by
  unfold KV at r ⊢
  induction r with
  | nil => exact .nil
  | @cons p q ps qs h t ih =>
    rw [List.map_cons, List.map_cons]
    refine .cons ?_ ih
    obtain ⟨h1, h2⟩ := h
    by_cases e : p.1 = k
    · rw [if_pos e, if_pos (h1.symm.trans e)]; exact ⟨h1, ry⟩
    · rw [if_neg e, if_neg (fun z => e (h1.trans z))]; exact ⟨h1, h2⟩
theorem KV.put {kvs : List (κ × V)} {vs : List (κ × Value)} (r : KV kvs vs) (k : κ) {y : V} {u : Value} (ry : RelV y u) : KV (putK kvs k y) (stored vs k u) := by
  unfold putK stored
  rw [r.any k]
  by_cases e : (vs.any fun kv => decide (kv.1 = k)) = true
  · rw [if_pos e, if_pos e]; exact r.repl k ry
  · rw [if_neg e, if_neg e]; exact Paired.snoc r ⟨rfl, ry⟩
theorem KV.length {kvs : List (κ × V)} {vs : List (κ × Value)} (r : KV kvs vs) : kvs.length = vs.length := Paired.length r
end


/-! ### a tracked dict, its keys ints and texts or tuples of these -/
theorem kV_is {P : Program} {w : World} {k : Key} {u : Value} (r : RelV (kV k) u) : (mixKind P w).is k u = true := by
  cases k with
  | inl i => obtain ⟨t, e⟩ := (show ∃ t, u = Value.int i t from r); subst e; exact mixKind_int P w i t
  | inr x => obtain ⟨t, e⟩ := (show ∃ t, u = Value.str x t from r); subst e; exact mixKind_str P w x t
theorem items_are {P : Program} {w : World} : ∀ {ks : List Key} {us : List Value}, Vals (ks.map kV) us → ItemsAre (mixKind P w) ks us
  | [], _, r => by rw [List.map_nil] at r; cases r; exact .nil
  | k :: ks, _, r => by
    rw [List.map_cons] at r
    cases r with
    | cons h t => exact .cons (kV_is h) (items_are t)

/-- raw entries of a dict with tuple keys -/
abbrev KT (H : Hp) : List (List Key × V) → List (List Key × Addr × Value) → Prop := Paired fun p q => p.1 = q.1 ∧ H q.2.1 = some (.tup (p.1.map kV)) ∧ RelV p.2 q.2.2
theorem KT.val {H : Hp} {kvs : List (List Key × V)} {xs : List (List Key × Addr × Value)} (r : KT H kvs xs) (k : List Key) : RelO (valV kvs k) ((atKey xs k).map (·.2)) := by
  induction r with
  | nil => exact True.intro
  | @cons p q ps qs h t ih =>
    obtain ⟨h1, _, h2⟩ := h
    by_cases e : p.1 = k
    · have e' : q.1 = k := h1.symm.trans e
      have b : atKey (q :: qs) k = some q.2 := by simp [atKey, List.find?_cons, e']
      rw [valV_pos e, b]; exact h2
    · have e' : ¬ q.1 = k := fun z => e (h1.trans z)
      have b : atKey (q :: qs) k = atKey qs k := by simp [atKey, List.find?_cons, e']
      rw [valV_neg e, b]; exact ih
theorem KT.repl {H : Hp} {kvs : List (List Key × V)} {xs : List (List Key × Addr × Value)} (r : KT H kvs xs) (k : List Key) {y : V} {u : Value} (ry : RelV y u) :
    KT H (kvs.map fun kv => if kv.1 = k then (kv.1, y) else kv) (xs.map (putAt k u)) := by
  induction r with
  | nil => exact .nil
  | @cons p q ps qs h t ih =>
    rw [List.map_cons, List.map_cons]
    refine .cons ?_ ih
    obtain ⟨h1, h2, h3⟩ := h
    unfold putAt
    by_cases e : p.1 = k
    · rw [if_pos e, if_pos (h1.symm.trans e)]; exact ⟨h1, h2, ry⟩
    · rw [if_neg e, if_neg (fun z => e (h1.trans z))]; exact ⟨h1, h2, h3⟩
theorem KT.put {H : Hp} {kvs : List (List Key × V)} {xs : List (List Key × Addr × Value)} (r : KT H kvs xs) (k : List Key) {b : Addr} {y : V} {u : Value} (hb : H b = some (.tup (k.map kV))) (ry : RelV y u) :
    KT H (putK kvs k y) (storedH xs k b u) := by
  have e : (kvs.any fun kv => decide (kv.1 = k)) = (atKey xs k).isSome := by
    rw [valV_any, (r.val k).isSome_eq, Option.isSome_map]
  unfold putK storedH
  rw [e]
  by_cases q : (atKey xs k).isSome = true
  · rw [if_pos q, if_pos q]; exact r.repl k ry
  · rw [if_neg q, if_neg q]; exact Paired.snoc r ⟨rfl, hb, ry⟩
theorem KT.keeps {H H' : Hp} {kvs : List (List Key × V)} {xs : List (List Key × Addr × Value)} (r : KT H kvs xs) (ht : ∀ b ys, H b = some (.tup ys) → H' b = some (.tup ys)) : KT H' kvs xs :=
  Paired.mapP r fun _ _ z => ⟨z.1, ht _ _ z.2.1, z.2.2⟩

section
variable {P : Program} {w : World} {H : Hp} {h : Heap} {a : Addr}
theorem rd_of {u : HO} (ok : HOk P w H h) (e : Rd H a u) : ObjOk P w H h a u := e.ok ok
theorem dk_rd {kvs : List (Key × V)} (ok : HOk P w H h) (e : Rd H a (.dK kvs)) : kvs.length ≤ sizeLine ∧ (a == sysModules) = false ∧ ∃ vs, KV kvs vs ∧ h.DictOf (mixKind P w) a vs :=
  show ObjOk P w H h a (.dK kvs) from rd_of ok e
theorem dk_of {kvs : List (Key × V)} (ok : HOk P w H h) (e : H a = some (.dK kvs)) : kvs.length ≤ sizeLine ∧ (a == sysModules) = false ∧ ∃ vs, KV kvs vs ∧ h.DictOf (mixKind P w) a vs := dk_rd ok (.inl e)
/-- a tracked tuple of ints and texts is a key -/
theorem key_of {ks : List Key} (ok : HOk P w H h) (e : H a = some (.tup (ks.map kV))) : (tupleKind (mixKind P w)).is h ks a := by
  obtain ⟨_, its, r, o, h1, h2, n, h3⟩ := (show ObjOk P w H h a (.tup (ks.map kV)) from ok a _ e)
  exact ⟨o, its.toArray, n, h1, h2, h3, by simpa using items_are r⟩
theorem dt_rd {kvs : List (List Key × V)} (ok : HOk P w H h) (e : Rd H a (.dT kvs)) : kvs.length ≤ sizeLine ∧ (a == sysModules) = false ∧
    ∃ xs, KT H kvs xs ∧ h.DictOfH (tupleKind (mixKind P w)) a xs := by
  obtain ⟨z, y, xs, r, o, es, ep, h1, h2, h3, h4, h5⟩ := (show ObjOk P w H h a (.dT kvs) from rd_of ok e)
  refine ⟨z, y, xs, r, o, es, ep, h1, h2, h3, h4, fun x hx => ?_, h5⟩
  have all : ∀ {l : List (List Key × V)} {m : List (List Key × Addr × Value)}, KT H l m → ∀ x ∈ m, (tupleKind (mixKind P w)).is h x.1 x.2.1 := by
    intro l m q
    induction q with
    | nil => intro x hx; exact nomatch hx
    | @cons p q ps qs hq t ih =>
      intro x hx
      rcases List.mem_cons.mp hx with e | hx
      · subst e
        exact key_of ok (by rw [← hq.1]; exact hq.2.1)
      · exact ih x hx
  exact all r x hx
theorem dt_of {kvs : List (List Key × V)} (ok : HOk P w H h) (e : H a = some (.dT kvs)) : kvs.length ≤ sizeLine ∧ (a == sysModules) = false ∧
    ∃ xs, KT H kvs xs ∧ h.DictOfH (tupleKind (mixKind P w)) a xs := dt_rd ok (.inl e)
end

/-- what the dict at a holds at the key y -/
def DGet (H : Hp) (a : Addr) (y : V) (r : Option V) : Prop :=
  (∃ kvs k, Rd H a (.dK kvs) ∧ y = kV k ∧ r = valV kvs k) ∨ ∃ kvs k b, Rd H a (.dT kvs) ∧ y = .ref b ∧ H b = some (.tup (k.map kV)) ∧ r = valV kvs k
/-- the heap behind a[y] = v -/
def DPut (H : Hp) (a : Addr) (y v : V) (H' : Hp) : Prop :=
  (∃ kvs k, H a = some (.dK kvs) ∧ y = kV k ∧ kvs.length < sizeLine ∧ H' = upd H a (.dK (putK kvs k v))) ∨
  ∃ kvs k b, H a = some (.dT kvs) ∧ y = .ref b ∧ H b = some (.tup (k.map kV)) ∧ kvs.length < sizeLine ∧ H' = upd H a (.dT (putK kvs k v))
theorem DGet.k {H : Hp} {a : Addr} {kvs : List (Key × V)} {k : Key} (e : H a = some (.dK kvs)) : DGet H a (kV k) (valV kvs k) := .inl ⟨kvs, k, .inl e, rfl, rfl⟩
theorem DGet.t {H : Hp} {a b : Addr} {kvs : List (List Key × V)} {k : List Key} (e : H a = some (.dT kvs)) (eb : H b = some (.tup (k.map kV))) : DGet H a (.ref b) (valV kvs k) := .inr ⟨kvs, k, b, .inl e, rfl, eb, rfl⟩
theorem DPut.t {H : Hp} {a b : Addr} {kvs : List (List Key × V)} {k : List Key} {v : V} (e : H a = some (.dT kvs)) (eb : H b = some (.tup (k.map kV))) (hl : kvs.length < sizeLine) :
    DPut H a (.ref b) v (upd H a (.dT (putK kvs k v))) := .inr ⟨kvs, k, b, e, rfl, eb, hl, rfl⟩


section
variable {X : Cx} {pins : List (Addr × Obj)} {σ : St} {H : Hp} {s : Shared} {a : Addr} {y v : V} {u r : Value} {o : Option V} {A : Around} {E : Value → Shared → Prop}

theorem Inv.big (I : Inv X pins σ H s) : sysModules < s.heap.objs.size := by
  have h : mainGlobals < s.heap.objs.size := (I.mod.glob.keeps I.bk).lt
  exact Nat.lt_trans (by decide) h

/-- d[y], there -/
theorem d_getItem {Q : Value → Shared → Prop} (hu : A.units + 1 < cLine) (I : Inv X pins σ H s) (g : DGet H a y (some v)) (ry : RelV y u) (h : ∀ w' s', Inv X pins σ H s' → RelV v w' → Q w' s') :
    wpAny (model X.prog X.w) A (getItem (.ref a) u) Q E s := by
  rcases g with ⟨kvs, k, e, ey, l⟩ | ⟨kvs, k, b, e, ey, eb, l⟩
  · subst ey
    obtain ⟨z, hd, vs, rel, dd⟩ := dk_rd I.hok e
    obtain ⟨w', hw, rw'⟩ := RelO.some_of (v := v) (o := valueAt vs k) (by rw [l]; exact rel.val k)
    exact wpAny_getItem_of (kV_is ry) dd.mapOf hw (h w' _ (I.tok _) rw')
  · subst ey
    cases (show u = Value.ref b from ry)
    obtain ⟨z, hd, xs, rel, dd⟩ := dt_rd I.hok e
    obtain ⟨w', hw, rw'⟩ := RelO.some_of (v := v) (o := (atKey xs k).map (·.2)) (by rw [l]; exact rel.val k)
    obtain ⟨p, hp, hp2⟩ := Option.map_eq_some_iff.mp hw
    refine wpAny_getItem_heap (tupleKind_room_in1 hu) (key_of I.hok eb) dd hp ?_
    rw [hp2]
    exact h w' _ (I.tok _) rw'
theorem d_notIn {Q : Value → Shared → Prop} (hu : A.units + 1 < cLine) (I : Inv X pins σ H s) (g : DGet H a y o) (ry : RelV y u) (h : ∀ s', Inv X pins σ H s' → Q (.bool (!o.isSome)) s') :
    wpAny (model X.prog X.w) A (compareOp .NotIn u (.ref a)) Q E s := by
  rcases g with ⟨kvs, k, e, ey, l⟩ | ⟨kvs, k, b, e, ey, eb, l⟩
  · subst ey
    obtain ⟨z, hd, vs, rel, dd⟩ := dk_rd I.hok e
    refine wpAny_notIn_of (kV_is ry) hd dd.mapOf ?_
    rw [← (rel.val k).isSome_eq, ← l]
    exact h _ (I.tok _)
  · subst ey
    cases (show u = Value.ref b from ry)
    obtain ⟨z, hd, xs, rel, dd⟩ := dt_rd I.hok e
    refine wpAny_notIn_heap (tupleKind_room_in1 hu) (key_of I.hok eb) hd dd ?_
    have q := (rel.val k).isSome_eq
    rw [Option.isSome_map] at q
    rw [← q, ← l]
    exact h _ (I.tok _)
/-- a dict's object is replaced -/
theorem d_write {h' : Heap} {t' : Nat} {ob : HO} (I : Inv X pins σ H s) (mu : Mut (H a)) (hs : Heap.SameBut a s.heap h') (he : ∃ q, h'.get? a = some q) (new : ObjOk X.prog X.w (upd H a ob) h' a ob) :
    Inv X pins σ (upd H a ob) { s with heap := h', toks := t' } :=
  I.write (x := a) (e := a) mu (.inl rfl) (fun b q hb z => (hs.2 b hb).trans z) he new
theorem dk_new {P : Program} {w : World} {H' : Hp} {h' : Heap} {kvs : List (Key × V)} {vs : List (Key × Value)} (z : kvs.length ≤ sizeLine) (hd : (a == sysModules) = false) (rel : KV kvs vs) (dd : h'.DictOf (mixKind P w) a vs) :
    ObjOk P w H' h' a (.dK kvs) := ⟨z, hd, vs, rel, dd⟩
/-- d[y] = v -/
theorem d_setItem {H' : Hp} {Q : Unit → Shared → Prop} (hu : A.units + 1 < cLine) (I : Inv X pins σ H s) (g : DPut H a y v H') (ry : RelV y u) (rv : RelV v r) (h : ∀ s', Inv X pins σ H' s' → Q () s') :
    wpAny (model X.prog X.w) A (setItem (.ref a) u r) Q E s := by
  rcases g with ⟨kvs, k, e, ey, l, eH⟩ | ⟨kvs, k, b, e, ey, eb, l, eH⟩
  · subst ey eH
    obtain ⟨z, hd, vs, rel, dd⟩ := dk_of I.hok e
    have hz : vs.length ≤ sizeLine := by rw [← rel.length]; exact z
    have hl : (putK kvs k v).length ≤ sizeLine := by have := length_putK kvs k v; omega
    refine wpAny_setItem_pairs (hsz := hz) (kV_is ry) dd fun h' dd' hs => h _ ?_
    have he : ∃ q, h'.get? a = some q := let ⟨q, _, _, hq, _⟩ := dd'; ⟨q, hq⟩
    exact d_write I (by rw [e]; exact True.intro) hs he (dk_new hl hd (rel.put k rv) dd')
  · subst ey eH
    cases (show u = Value.ref b from ry)
    obtain ⟨z, hd, xs, rel, dd⟩ := dt_of I.hok e
    have hz : xs.length ≤ sizeLine := by rw [← Paired.length rel]; exact z
    have hl : (putK kvs k v).length ≤ sizeLine := by have := length_putK kvs k v; omega
    refine wpAny_setItem_heap (hsz := hz) (tupleKind_room_in1 hu) (key_of I.hok eb) dd fun h' dd' hs => h _ ?_
    obtain ⟨q, es, ep, hq, h2, h3, h4, _, h5⟩ := dd'
    refine d_write I (by rw [e]; exact True.intro) hs ⟨q, hq⟩ ⟨hl, hd, _, (rel.put k eb rv).keeps fun c ys ec => ?_, q, es, ep, hq, h2, h3, h4, h5⟩
    rw [upd_ne (ne_of ec e (fun z => nomatch z))]
    exact ec
end

section
variable {X : Cx} {pins : List (Addr × Obj)} {σ : St} {H : Hp} {s : Shared} {a : Addr} {kvs : List (Key × V)} {k : Key} {u : Value} {A : Around} {E : Value → Shared → Prop}
end


/-! ### readings and rules -/
/-- the element of a subscription, not a slice -/
def NoSl (i : Expr) : Prop := ∀ ov iv, subscripted i false ov iv = operate [ov, iv] (getItem ov iv)
theorem subD_of {prog : Program} {w : World} {A : Around} {E : Value → Shared → Prop} {s : Shared} {env : Env} {value slice : Expr} {pos : Pos} {T id : String} {Q : Value → Shared → Prop}
    (hl : typeLookup (.type T) "__getitem__" = pure (some (.builtin id))) (hs : NoSl slice)
    (h : wpAny (model prog w) A (eval value env) (fun o s₁ => wpAny (model prog w) A (eval slice env) (fun i s₂ => s₂.TypeIs o T ∧ wpAny (model prog w) A (getItem o i) Q E s₂) E s₁) E s) :
    wpAny (model prog w) A (eval (.Subscript value slice pos) env) Q E s := by
  refine Subscript_ (wpAny_mono h (fun o s₁ h₁ => wpAny_mono h₁ (fun i s₂ h₂ => ?_) fun _ _ x => x) fun _ _ x => x)
  obtain ⟨hT, h₂⟩ := h₂
  unfold subscriptTail
  refine wpAny_bind ?_
  rw [getitemInPython_of_ne hT.not_modules]
  refine wpAny_bind (wpAny_specialOf hT hl ?_)
  have fin : wpAny (model prog w) A (subscripted slice false o i) (fun r s₃ => wpAny (model prog w) A (letTemporaryGo value o r >>= fun _ => pure r) Q E s₃) E s₂ := by
    rw [hs o i]
    exact wpAny_operating (wpAny_mono h₂ (fun r s₃ h₃ => wpAny_bind (wpAny_letTemporaryGo (wpAny_pure h₃))) fun _ _ x => x)
  first
    | exact wpAny_pure (wpAny_bind fin)
    | exact wpAny_bind (wpAny_pure (wpAny_bind fin))
    | exact wpAny_bind fin

theorem dict_typeIs {X : Cx} {pins : List (Addr × Obj)} {σ : St} {H : Hp} {s : Shared} {a : Addr} {y : V} {o : Option V} (I : Inv X pins σ H s) (g : DGet H a y o) : s.TypeIs (.ref a) "dict" := by
  rcases g with ⟨kvs, k, e, _, _⟩ | ⟨kvs, k, b, e, _, _, _⟩
  · obtain ⟨_, _, vs, _, dd⟩ := dk_rd I.hok e
    exact dd.typeIs
  · obtain ⟨_, _, xs, _, dd⟩ := dt_rd I.hok e
    exact dd.typeIs
/-- d[y] -/
def tDGet (td ty : TE) : TE := fun σ H Q => td σ H fun x H1 => ty σ H1 fun y H2 => ∃ a v, x = .ref a ∧ DGet H2 a y (some v) ∧ Q v H2
def tDNotIn (ty td : TE) : TE := fun σ H Q => ty σ H fun y H1 => td σ H1 fun x H2 => ∃ a o, x = .ref a ∧ DGet H2 a y o ∧ Q (.bl (!o.isSome)) H2
/-- d[y] = v -/
def sDPut (td ty tv : TE) : TS := fun D σ H => tv σ H fun v H1 => td σ H1 fun x H2 => ty σ H2 fun y H3 => ∃ a H4, x = .ref a ∧ DPut H3 a y v H4 ∧ D.nx σ H4
section
variable {X : Cx} {o i e value : Expr} {pos pos' tpos : Pos} {td ty tv : TE}
theorem pe_dget (hu : X.A.units + 1 < cLine) (ho : PE X o td) (hi : PE X i ty) (hs : NoSl i) : PE X (.Subscript o i pos) (tDGet td ty) := by
  intro pins s σ H Q I h
  refine subD_of PySem.F.slot_dict_getitem.lookup hs (thn (ho pins s σ H _ I h) fun u s1 ⟨x, H1, I1, rx, q1⟩ => thn (hi pins s1 σ H1 _ I1 q1) fun iv s2 ⟨y, H2, I2, ry, a, v, ex, g, q2⟩ => ?_)
  subst ex
  obtain rfl : u = Value.ref a := rx
  exact ⟨dict_typeIs I2 g, d_getItem hu I2 g ry fun w' s3 I3 rw' => ⟨v, H2, I3, rw', q2⟩⟩
theorem pc_dnotin (hu : X.A.units + 1 < cLine) (hi : PE X i ty) (ho : PE X o td) : PC X .NotIn i o (tDNotIn ty td) := by
  intro pins s σ H Q I h
  refine thn (hi pins s σ H _ I h) fun iv s1 ⟨y, H1, I1, ry, q1⟩ => thn (ho pins s1 σ H1 _ I1 q1) fun u s2 ⟨x, H2, I2, rx, a, ov, ex, g, q2⟩ => ?_
  subst ex
  obtain rfl : u = Value.ref a := rx
  exact d_notIn hu I2 g ry fun s3 I3 => ⟨.bl (!ov.isSome), H2, I3, rfl, q2⟩
theorem ps_dput (hu : X.A.units + 1 < cLine) (ho : PE X o td) (hi : PE X i ty) (hv : PE X value tv) (hs : swapsWith value (some (.Subscript o i pos')) pos.line X.env = pure false) :
    PS X (.Assign [.Subscript o i pos'] value pos) (sDPut td ty tv) := by
  intro pins s σ H D I h
  refine wpAny_Assign_Subscript (thn (hv pins s σ H _ I h) fun r s1 ⟨v, H1, I1, rv, q1⟩ => thn (ho pins s1 σ H1 _ I1 q1) fun u s2 ⟨x, H2, I2, rx, q2⟩ => thn (hi pins s2 σ H2 _ I2 q2) fun iv s3 ⟨y, H3, I3, ry, a, H4, ex, g, q3⟩ => ?_) hs
  subst ex
  obtain rfl : u = Value.ref a := rx
  exact d_setItem hu I3 g ry rv fun s4 I4 => ⟨σ, H4, I4, q3⟩
end


/-! ### displays -/
theorem dk_empty {P : Program} {w : World} {H : Hp} (h : Heap) (hb : sysModules < h.objs.size) : ObjOk P w H (h.push { cls := .type "dict", data := .dict #[] }) h.objs.size (.dK []) :=
  ⟨Nat.zero_le _, beq_eq_false_iff_ne.mpr (Ne.symm (Nat.ne_of_lt hb)), [], .nil, Heap.DictOf.new h⟩
theorem dt_empty {P : Program} {w : World} {H : Hp} (h : Heap) (hb : sysModules < h.objs.size) : ObjOk P w H (h.push { cls := .type "dict", data := .dict #[] }) h.objs.size (.dT []) :=
  ⟨Nat.zero_le _, beq_eq_false_iff_ne.mpr (Ne.symm (Nat.ne_of_lt hb)), [], .nil, _, #[], 0, Heap.get?_push_size _ rfl, ⟨rfl, rfl, rfl⟩, rfl, rfl, List.nodup_nil⟩
def tDNewT : TE := fun _ H Q => ∀ p, H p = none → Q (.ref p) (upd H p (.dT []))
section
variable {X : Cx} {pos : Pos}
theorem pe_dnewT : PE X (.Dict [] [] pos) tDNewT := fun pins s σ H Q I h =>
  wpAny_Dict_empty ⟨.ref s.heap.objs.size, _, I.laid (a := s.heap.objs.size) (o := .dT []) (t' := s.toks) (fun _ _ q => Heap.get?_push_of_some _ q) (Nat.le_refl _) (dt_empty s.heap I.big), rfl, h _ (I.hok.fresh (Nat.le_refl _))⟩
end

/-- the pairs of a display, from the left -/
def tPairs : List (TE × TE) → St → Hp → (List (V × V) → Hp → Prop) → Prop
  | [], _, H, Q => Q [] H
  | (tk, tv) :: r, σ, H, Q => tk σ H fun x H1 => tv σ H1 fun y H2 => tPairs r σ H2 fun ps H3 => Q ((x, y) :: ps) H3
abbrev VV : List (V × V) → List (Value × Value) → Prop := Paired fun p q => RelV p.1 q.1 ∧ RelV p.2 q.2
def PPs (X : Cx) (pos : Pos) (keys : List (Option Expr)) (values : List Expr) (trs : List (TE × TE)) : Prop :=
  ∀ (pins : List (Addr × Obj)) (s : Shared) (σ : St) (H : Hp) (Q : List (V × V) → Hp → Prop), Inv X pins σ H s → tPairs trs σ H Q →
    wpAny (model X.prog X.w) X.A (evalPairs (pairTrees keys values X.env pos)) (fun vs s' => ∃ ps H', Inv X pins σ H' s' ∧ VV ps vs ∧ Q ps H') X.xe s
theorem pps_nil {X : Cx} {pos : Pos} : PPs X pos [] [] [] := fun pins s σ H Q I h => pairTrees_nil_walk ⟨[], H, I, .nil, h⟩
theorem pps_cons {X : Cx} {pos : Pos} {k v : Expr} {ks : List (Option Expr)} {vs : List Expr} {tk tv : TE} {trs : List (TE × TE)} (hk : PE X k tk) (hv : PE X v tv) (hr : PPs X pos ks vs trs) :
    PPs X pos (some k :: ks) (v :: vs) ((tk, tv) :: trs) := fun pins s σ H Q I h =>
  pairTrees_cons_walk (thn (hk pins s σ H _ I h) fun u s1 ⟨x, H1, I1, rx, q1⟩ => thn (hv pins s1 σ H1 _ I1 q1) fun w2 s2 ⟨y, H2, I2, ry, q2⟩ =>
    thn (hr pins s2 σ H2 _ I2 q2) fun ws s3 ⟨ps, H3, I3, rel, q3⟩ => ⟨(x, y) :: ps, H3, I3, .cons ⟨rx, ry⟩ rel, q3⟩)

def mergeK (kvs more : List (Key × V)) : List (Key × V) := more.foldl (fun acc kv => putK acc kv.1 kv.2) kvs
theorem KV.merge : ∀ {more : List (Key × V)} {rs : List (Key × Value)} {kvs : List (Key × V)} {vs : List (Key × Value)}, KV more rs → KV kvs vs → KV (mergeK kvs more) (merged vs rs) := by
  intro more rs kvs vs r
  unfold KV at r
  induction r generalizing kvs vs with
  | nil => intro q; exact q
  | @cons p q ps qs h t ih =>
    intro r0
    have e : KV (putK kvs p.1 p.2) (stored vs q.1 q.2) := by
      have := r0.put p.1 h.2
      rw [← h.1]; exact this
    exact ih e
theorem length_mergeK : ∀ (more kvs : List (Key × V)), (mergeK kvs more).length ≤ kvs.length + more.length
  | [], kvs => by show kvs.length ≤ kvs.length + 0; omega
  | p :: r, kvs => by
    have h1 := length_mergeK r (putK kvs p.1 p.2)
    have h2 := length_putK kvs p.1 p.2
    show (mergeK (putK kvs p.1 p.2) r).length ≤ _
    rw [List.length_cons]; omega
theorem carries_of {P : Program} {w : World} : ∀ {kvs : List (Key × V)} {ws : List (Value × Value)}, VV (kvs.map fun kv => (kV kv.1, kv.2)) ws → ∃ rs, Carries (mixKind P w) ws rs ∧ KV kvs rs
  | [], _, r => by rw [List.map_nil] at r; cases r; exact ⟨[], True.intro, .nil⟩
  | p :: kvs, _, r => by
    rw [List.map_cons] at r
    cases r with
    | @cons a b as bs h t =>
      obtain ⟨rs, c, q⟩ := carries_of (P := P) (w := w) t
      obtain ⟨b1, b2⟩ := b
      exact ⟨(p.1, b2) :: rs, ⟨kV_is h.1, rfl, c⟩, .cons ⟨rfl, h.2⟩ q⟩
/-- {k: v, ..} with keys ints and texts; the new dict stands empty while the pairs are made -/
def tDisp (trs : List (TE × TE)) : TE := fun σ H Q => ∀ p, H p = none → tPairs trs σ (upd H p (.dK [])) fun ps H2 => H2 p = some (.dK []) ∧ ∃ kvs : List (Key × V), ps = kvs.map (fun kv => (kV kv.1, kv.2)) ∧ kvs.length ≤ 15 ∧ Q (.ref p) (upd H2 p (.dK (mergeK [] kvs)))
theorem pe_disp {X : Cx} {pos : Pos} {keys : List (Option Expr)} {values : List Expr} {trs : List (TE × TE)} (h : PPs X pos keys values trs) (hall : keys.all (·.isSome) = true) (hl : keys.length = values.length) (h0 : keys ≠ [])
    (h15 : keys.length ≤ 15) : PE X (.Dict keys values pos) (tDisp trs) := by
  intro pins s σ H Q I q
  have hn := I.hok.fresh (Nat.le_refl s.heap.objs.size)
  have I1 := I.laid (a := s.heap.objs.size) (o := .dK []) (h' := s.heap.push { cls := .type "dict", data := .dict #[] }) (t' := s.toks) (fun _ _ q => Heap.get?_push_of_some _ q) (Nat.le_refl _) (dk_empty s.heap I.big)
  refine wpAny_Dict_walk (knd := mixKind X.prog X.w) hall hl h0 h15 (thn (h pins _ σ _ _ I1 (q _ hn)) fun ws s2 ⟨ps, H2, I2, rel, e, kvs, ep, lk, q2⟩ => ?_)
  subst ep
  obtain ⟨rs, c, rk⟩ := carries_of (P := X.prog) (w := X.w) rel
  obtain ⟨z, hd, vs0, r0, dd⟩ := dk_of I2.hok e
  cases r0
  refine ⟨rs, c, dd, fun h' dd' hs => ⟨.ref s.heap.objs.size, _, ?_, rfl, q2⟩⟩
  have hz : (mergeK [] kvs).length ≤ sizeLine := by
    have h1 := length_mergeK kvs []
    rw [List.length_nil] at h1
    rw [sizeLine_eq]; omega
  have he : ∃ q, h'.get? s.heap.objs.size = some q := let ⟨q, _, _, hq, _⟩ := dd'; ⟨q, hq⟩
  exact d_write I2 (by rw [e]; exact True.intro) hs he (dk_new hz hd (rk.merge .nil) dd')


/-! ### methods -/
section
variable {X : Cx} {pins : List (Addr × Obj)} {σ : St} {H : Hp} {s : Shared} {a : Addr} {y d : V} {u r : Value} {o : Option V} {A : Around} {E : Value → Shared → Prop}
end

section
variable {X : Cx} {o e f : Expr} {apos cpos : Pos} {td ty tx : TE}
end

/-! ### dict(d): a copy -/
section
variable {X : Cx} {pins : List (Addr × Obj)} {σ : St} {H : Hp} {s : Shared} {a : Addr} {kvs : List (Key × V)} {A : Around} {E : Value → Shared → Prop}
end


section
variable {X : Cx} {pins : List (Addr × Obj)} {σ : St} {H : Hp} {s : Shared} {a : Addr} {y : V} {u : Value} {A : Around} {E : Value → Shared → Prop}
end
end L2

namespace Att
open PySem PySem.W PySem.Calls PyProof.Rows

/-! ### the script -/
theorem ints_of_wellAll {P : Params} {h : Heap} : ∀ (ns : List Int) (vs : List Value), WellAll P h vs (ns.map WData.int) → IntsAre vs ns := by
  intro ns
  induction ns with
  | nil =>
    intro vs w
    rw [List.map_nil] at w
    cases w
    exact .nil
  | cons n ns ih =>
    intro vs w
    rw [List.map_cons] at w
    cases w with
    | cons a b =>
      cases a
      exact .cons _ _ (ih _ b)

theorem script_of {l : OpenLaw} {n : Nat} (hn : l.most = some n) {P : Params} {h : Heap} {args : List WData} {vals : List Value}
    (hpre : l.row.toRowW.claim.pre args = true) (hwl : WellAll P h vals args) :
    ∃ a vs ns, vals = [Value.ref a] ∧ args = [WData.list (ns.map WData.int)] ∧ h.get? a = some { cls := .type "list", data := .seq vs.toArray } ∧ IntsAre vs ns ∧ ns.length ≤ n := by
  have hsh : WShape.hasAll [] args [.list .int] = true := (pre_splitW hpre).1
  have hc : l.pre.holds [] { args := args } = true := (pre_splitW hpre).2
  obtain ⟨d, r, rfl, h1, h2⟩ := hasAllW_cons hsh
  obtain rfl := hasAllW_nil h2
  obtain ⟨xs, rfl, h3⟩ := hasW_list h1
  obtain ⟨ns, rfl⟩ := items_int h3
  have hlen : ns.length ≤ n := by
    unfold OpenLaw.pre at hc
    have h4 : (WTm.not (.lt (.lit (.int (n : Int))) (.len (.arg 0)))).holds [] { args := [.list (ns.map .int)] } = true := by
      have h4 := (holds_andW hc).1
      rw [hn] at h4
      exact h4
    have h5 := condW_of h4 (w_not (w_lt w_lit (w_len_list (w_arg rfl))))
    rw [List.length_map] at h5
    refine Nat.le_of_not_lt fun q => ?_
    have q' : (n : Int) < ((ns.length : Nat) : Int) := by omega
    first
      | (rw [decide_eq_true q'] at h5; exact absurd h5 (by decide))
      | (simp at h5; omega)
  cases hwl with
  | cons w1 w2 =>
    cases w2
    cases w1 with
    | list ho hall => exact ⟨_, _, ns, rfl, rfl, ho, ints_of_wellAll ns _ hall, hlen⟩

theorem post_true (l : OpenLaw) (args : List WData) : l.row.toRowW.claim.post args (.bool true) args = true :=
  postW_of (r := l.row.toRowW) (X := (true == true))
    (show WShape.has [] (.bool true) .bool = true by first | rfl | decide | simp [WShape.has, WShape.arms, WShape.armsAll])
    (show (WTm.eq .res (.lit (.bool true))).value [] { args := args, res := some (.bool true), after := args } = some (.bool (true == true)) from w_eq_bool (w_res rfl) w_lit) rfl

/-! ### the attachment: holds_open's last premise (the goal 'hc' behind k_head) from a wpAny of the law's body -/
/-- the same from a codeAny of the CALL (for a layer whose function contracts speak of calls) -/
theorem attach_call {l : OpenLaw} {n : Nat} {q : Program} {loose : List Str} {XP : (Str → Option Value) → Heap → Prop} {YP : World → Heap → Prop} {d : DefRec}
    (hn : l.most = some n) (hdf : d.params.defaults = [])
    (call : ∀ (w : World) (s₀ s₁ : Shared) (mg mb : Str → Option Value) (fa : Addr) (o : Obj) (pm cd doc : Value) (a : Addr) (vs : List Value) (ns : List Int),
      Ground q loose [] XP w s₀ mg mb s₁.heap → YP w s₁.heap →
      s₁.heap.get? fa = some o → o.data = .func (docDef d.name d.params d.body d.scope pm cd doc) → s₁.heap.CodeRec cd d.name → mg d.name = some (.ref fa) →
      s₁.heap.get? a = some { cls := .type "list", data := .seq vs.toArray } → IntsAre vs ns → ns.length ≤ n → s₁.gens = #[] →
      codeAny (model l.prog w) callerA (.call (.ref fa) ⟨[.ref a], []⟩) (fun r s' => r = .ok (.ret (.bool true)) ∧ OldK s₁.heap s'.heap ∧ s'.os = s₁.os ∧ AllBare s'.gens) s₁) :
    WalkO q loose XP YP l.row.toRowW d [] (fun f vs => PySem.call f vs) := by
  intro w s₀ s₁ mg mb G Y fa o pm cd doc dV kV ho hd hcd hD hmg hg args vals as hpre hlay hrd hwl hlo
  obtain rfl : dV = .none := Dflts.none hD hdf
  obtain rfl : kV = .none := Dflts.noKw hD
  obtain ⟨a, vs, ns, rfl, rfl, hobj, hints, hlen⟩ := script_of hn hpre hwl
  refine enter_call (codeAny_mono (call w s₀ s₁ mg mb fa o pm cd doc a vs ns G Y ho (fd_plain hd) hcd hmg hobj hints hlen hg) fun r s' hq => ?_)
  obtain ⟨rfl, h2, h3, h4⟩ := hq
  exact ⟨.inl ⟨.bool true, .bool true, [], rfl, fun _ => rfl, .bool true, post_true l _, fun _ => ⟨List.Pairwise.nil, fun _ hm => (nomatch hm)⟩⟩, h2, h3, h4⟩

/-! ### rules over ANY heap (no ledger) from facts about the written part K: the library's own take a ledger (News) for what they write -/
section
variable {prog : Program} {w : World} {A : Around} {E : Value → Shared → Prop} {s : Shared} {K : Frag}

/-! the whole heap as the ledger: makes every rule that writes through a ledger a rule over any heap -/
end
end Att

namespace L2
open PySem PySem.Spec PyProof.Rows

theorem vals_ints : ∀ {vs : List Value} {ns : List Int}, IntsAre vs ns → Vals (ns.map V.int) vs
  | _, _, .nil => .nil
  | _, _, .cons n t h => .cons ⟨t, rfl⟩ (vals_ints h)

/-- nothing is tracked but the script, known to the object (or it is an object of the module) -/
def Only (H : Hp) : Prop := ∀ b, H b = none ∨ ∃ o xs, H b = some (.frz o (.lst xs))

/-- THE HEAD: the law's promise, at the heap behind the top. F, the promise of the law's def, may use that base is part of the heap (so K.In base, base.Ns mainGlobals mg stand in Mod) -/
theorem law_call {P : Program} {w : World} {K : PySem.W.Frag} {mg mb : Str → Option Value} {CX : CXT} {k : Nat} {fa a : Addr} {fd : FuncData} {x : Str} {sp : Sp} {s₁ : Shared} {vs : List Value} {ns : List Int}
    (KX : K.In s₁.heap) (hns : s₁.heap.Ns mainGlobals mg) (hb : s₁.heap.Ns builtinsNs mb) (hbb : ∀ x : Str, x ≠ "__name__" → mb x = bootBuiltins x) (hlim : s₁.heap.NoLimit) (hg : s₁.gens = #[])
    (ha : s₁.heap.get? a = some { cls := .type "list", data := .seq vs.toArray }) (hi : IntsAre vs ns) (hl : ns.length ≤ sizeLine) (hr : Room k callerA)
    (F : ∀ base : Heap, K.In base → base.Ns mainGlobals mg → FnOk P w K mg base CX k fa fd [x] sp) (hbind : ∀ (s : Shared) (u : Value), BindsTo s fd ⟨[u], []⟩ [(x, u)])
    (hsp : ∀ H : Hp, Only H → SqL K H a (ns.map V.int) → sp [.ref a] H (fun v _ => v = .bl true) fun _ _ _ => False)
    (hCX : ∀ H e s', CX [] H s₁ (fun _ _ _ => False) e s' → False) :
    codeAny (model P w) callerA (.call (.ref fa) ⟨[.ref a], []⟩) (fun r s' => r = .ok (.ret (.bool true)) ∧ OldK s₁.heap s'.heap ∧ s'.os = s₁.os ∧ AllBare s'.gens) s₁ := by
  have rv := vals_ints hi
  have lenV := hi.length
  -- from an abstract heap in which nothing but the script may be tracked
  have core : ∀ H : Hp, Only H → SqL K H a (ns.map V.int) → HOk P w H s₁.heap → (∀ b, H b ≠ none → b = a) → (H a ≠ none → K.lookup a = none) →
      codeAny (model P w) callerA (.call (.ref fa) ⟨[.ref a], []⟩) (fun r s' => r = .ok (.ret (.bool true)) ∧ OldK s₁.heap s'.heap ∧ s'.os = s₁.os ∧ AllBare s'.gens) s₁ := by
    intro H hO hS hok hA hK
    have base_of : ∀ {b : Addr} {o : Obj}, s₁.heap.get? b = some o → H b = none → (hidT s₁.heap H).get? b = some o := fun e n => hidT_get e n
    have noA : ∀ {b : Addr} {o : Obj} {es : Array DictEntry} {ep : Nat}, s₁.heap.get? b = some o → o.data = .dict es ep → H b = none := fun {b o es ep} e d => by
      cases q : H b with
      | none => rfl
      | some u =>
        have e' : b = a := hA b (by rw [q]; simp)
        subst e'
        rw [ha] at e; cases e
        have d' : Data.seq vs.toArray _ = Data.dict es ep := d
        cases d'
    have nsK : ∀ {b : Addr} {m : Str → Option Value}, s₁.heap.Ns b m → (hidT s₁.heap H).Ns b m := fun {b m} ⟨o, es, ep, e, d, r⟩ => ⟨o, es, ep, base_of e (noA e d), d, r⟩
    have hKb : K.In (hidT s₁.heap H) := fun b o e => base_of (KX b o e) (by
      cases q : H b with
      | none => rfl
      | some u =>
        have e' : b = a := hA b (by rw [q]; simp)
        subst e'
        rw [hK (by rw [q]; simp)] at e; cases e)
    have hM : Mod K mg (hidT s₁.heap H) := ⟨hKb, nsK hns, ⟨mb, nsK hb, hbb⟩, let ⟨mc, h1, h2⟩ := hlim; ⟨mc, nsK h1, h2⟩⟩
    have e0 : Env0 P w K mg (hidT s₁.heap H) callerA [] s₁ H := ⟨rfl, hM, fun b o e => of_hidT e, Nat.le_of_eq (hidT_size _ _), trivial, fun b hb => absurd (show b ∈ ([] : List Addr) from hb) (by simp), hok, .of_eq hg⟩
    refine codeAny_mono ((F _ hKb (nsK hns)).run callerA [] s₁ H ⟨[.ref a], []⟩ [.ref a] [.ref a] _ _ hr e0 (hbind s₁ (.ref a)) (.cons rfl .nil) (hsp H hO hS)) fun r s' h => ?_
    cases r with
    | error e => exact (hCX H e s' h).elim
    | ok fl =>
      cases fl with
      | next => exact False.elim h
      | brk => exact False.elim h
      | cont => exact False.elim h
      | ret u =>
        obtain ⟨v, H', os, bare, un, hok', r', q⟩ := h
        have q' : v = .bl true := q
        subst q'
        obtain rfl : u = Value.bool true := r'
        refine ⟨rfl, OldK.of_keep fun b o e => ?_, os, bare⟩
        cases q : H b with
        | none => exact un.keep b o e q (by intro z; exact absurd (show b ∈ ([] : List Addr) from z) (by simp)) (by simp)
        | some u =>
          rcases hO b with z | ⟨ob, xs, z⟩
          · rw [q] at z; cases z
          · have z2 := un.frzs b ob _ z
            obtain ⟨e1, _⟩ := hok b _ z
            obtain ⟨e2, _⟩ := hok' b _ z2
            rw [e] at e1; cases e1
            exact e2
  cases hk : K.lookup a with
  | some o =>
    -- the script is one of the module's own objects
    have e := KX a o hk
    rw [ha] at e
    cases e
    refine core (fun _ => none) (fun _ => .inl rfl) (.inr ⟨_, vs.toArray, _, hk, rfl, rfl, rfl, by rw [List.size_toArray, lenV]; exact hl, by simpa using rv⟩) (fun b u z => by have z' : (none : Option HO) = some u := z; cases z') (fun b z => absurd rfl z) fun z => absurd rfl z
  | none =>
    refine core (fun b => if b = a then some (.frz { cls := .type "list", data := .seq vs.toArray } (.lst (ns.map V.int))) else none) (fun b => ?_) (.inl (.inr ⟨{ cls := .type "list", data := .seq vs.toArray }, if_pos rfl⟩)) (fun b u z => ?_) (fun b z => ?_) fun _ => hk
    · by_cases hb : b = a
      · exact .inr ⟨_, _, if_pos hb⟩
      · exact .inl (if_neg hb)
    · by_cases hb : b = a
      · have z' := (if_pos hb).symm.trans z
        cases z'
        subst hb
        exact ⟨ha, by rw [List.length_map]; exact hl, vs, _, rv, ha⟩
      · have z' := (if_neg hb).symm.trans z
        cases z'
    · by_cases hb : b = a
      · exact hb
      · exact absurd (if_neg hb) z
end L2

namespace L2
open PySem PySem.Spec PyProof.Rows

/-- the goal that k_head leaves (case hc), from the law's promise. F gives the function object fd (K's own) once, then the promise over every base -/
theorem walk_of {l : PySem.W.OpenLaw} {n k : Nat} {q : Program} {loose : List Str} {XP : (Str → Option Value) → Heap → Prop} {YP : World → Heap → Prop} {d : DefRec} {K : Params → PySem.W.Frag} {CX : World → CXT} {sp : World → Sp} {x : Str}
    (hn : l.most = some n) (hn2 : n ≤ sizeLine) (hdf : d.params.defaults = []) (hr : Room k callerA)
    (hY : ∀ (w : World) (h : Heap), YP w h → (K w.params).In h)
    (F : ∀ (w : World) (mg : Str → Option Value) (fa : Addr) (h : Heap), (K w.params).In h → h.Ns mainGlobals mg → mg d.name = some (.ref fa) →
      ∃ fd : FuncData, (∀ (s : Shared) (u : Value), BindsTo s fd ⟨[u], []⟩ [(x, u)]) ∧
        ∀ base : Heap, (K w.params).In base → base.Ns mainGlobals mg → FnOk l.prog w (K w.params) mg base (CX w) k fa fd [x] (sp w))
    (hsp : ∀ (w : World) (H : Hp) (a : Addr) (ns : List Int), ns.length ≤ n → Only H → SqL (K w.params) H a (ns.map V.int) → sp w [.ref a] H (fun v _ => v = .bl true) fun _ _ _ => False)
    (hCX : ∀ (w : World) (H : Hp) (s : Shared) (e : Value) (s' : Shared), CX w [] H s (fun _ _ _ => False) e s' → False) :
    PySem.W.WalkO q loose XP YP l.row.toRowW d [] (fun f vs => PySem.call f vs) := by
  refine Att.attach_call hn hdf fun w s₀ s₁ mg mb fa o pm cd doc a vs ns G Y ho hd hcd hmg hobj hints hlen hg => ?_
  have KX := hY w _ Y
  obtain ⟨fd, hb, hF⟩ := F w mg fa _ KX G.T.g hmg
  exact law_call KX G.T.g G.T.b G.T.builtins G.T.nolimit hg hobj hints (Nat.le_trans hlen hn2) hr hF hb (fun H hO hS => hsp w H a ns hlen hO hS) fun H e s' => hCX w H s₁ e s'
end L2

/- THE LAST THEOREM (shape; LID, My.* are yours):
   My.Adr: a structure of the addresses that your layer names (classes, functions); My.Txt K t: a structure (Prop) of the equations over K;
   My.txt_mk : {K} {implicit addresses ..} (e1 : nsIn K mainGlobals "law" = some (some (.ref f))) (e2 : K.lookup f = some ⟨oc, od, .func (fnOf "law" "law" params body scope dV kV doc pm an cdv ct), sl⟩) (e3 : codeIn K cdv "law" = true) .. : ∃ t, My.Txt K t

set_option maxRecDepth 100000 in
set_option maxHeartbeats 0 in
theorem PySem.Challenge.cw_LID_holds : PySem.Challenge.rw_LID.Holds := by
  w_on; o_law; k_head; (case hw => w_witness2)
  k_fill
  refine L2.walk_of (l := PySem.Challenge.rw_LID) (n := 63) (k := 40) (x := "script") (CX := fun w => ..) (sp := fun _ => My.sp_law) rfl (by decide) rfl ⟨rfl, by decide, by decide⟩ (fun w h Y => PySem.W.kIn_of Y) ?F ?S ?C
  case F =>
    intro w mg fa h KX G hmg
    have T : ∃ t, My.Txt (L2.KOf KX) t := by
      dsimp only [L2.KOf]                          -- K must stand as «<heap const> w.params» for k_is
      refine' My.txt_mk ?e1 ?e2 ?e3 ..
      (case e1 => PySem.W.k_is)                    -- in the order: a name -> its address -> its object -> its parts
      (case e2 => PySem.W.k_is)
      ..
    obtain ⟨t, T⟩ := T
    have e0 := hmg.symm.trans (PySem.W.mg_of KX G T.law)
    cases e0                                       -- fa is the law's own address
    exact ⟨_, fun s u => .of_eq rfl, fun base kb nb => My.law_fn T kb nb⟩     -- if «.of_eq rfl» comes too early: refine' ⟨_, ?b, fun base kb nb => My.law_fn T kb nb⟩; exact fun s u => .of_eq rfl
  case S => exact fun w H a ns hl hO hS => ..
  case C => exact ..
(the tactic k_is has no namespace: write k_is) -/

/-! SHORT WORDS over the layer: a def of the text, its body, what a loop and a test want. -/
namespace L2
open PySem PySem.Spec PyProof.Rows

/-! ### the text by places -/
def defArgs (s : Stmt) : Arguments := match s with
  | .FunctionDef _ a _ _ _ _ _ _ _ _ => a
  | _ => { posonlyargs := [], args := [], vararg := none, kwonlyargs := [], kw_defaults := [], kwarg := none, defaults := [] }
def defBody (s : Stmt) : List Stmt := match s with
  | .FunctionDef _ _ b _ _ _ _ _ _ _ => b
  | _ => []
def defScope (s : Stmt) : Scope := match s with
  | .FunctionDef _ _ _ _ _ _ sc _ _ _ => sc
  | _ => { kind := .function, names := [], isGenerator := false, isCoroutine := false }

/-! ### no exception leaves a def -/
abbrev E0 : XK := fun _ _ _ => False
/-! ### a def (or method) of the text as it stands behind the top -/
structure Fun (K : PySem.W.Frag) (x qual : Str) (st : Stmt) (f : Addr) (fd : FuncData) : Prop where
  ex : ∃ (oc : Value) (od : Option Addr) (kV doc pm : Value) (an : Option Addr) (cdv ct : Value) (osl : Array (Option Value)),
    fd = PySem.W.fnOf x qual (defArgs st) (defBody st) (defScope st) .none kV doc pm an cdv ct ∧ K.lookup f = some ⟨oc, od, .func fd, osl⟩ ∧ PySem.W.codeIn K cdv qual = true
  kp : PySem.W.keepIn K (.ref f) = true
section
variable {P : Program} {w : World} {K : PySem.W.Frag} {mg : Str → Option Value} {base : Heap}
/-- how its arguments bind (no defaults): h is «fun _ _ _ _ _ _ us hl => match us, hl with | [_, _], _ => rfl», one _ a parameter -/
theorem Fun.binds {x qual : Str} {st : Stmt} {f : Addr} {fd : FuncData} {ps : List Str} (F : Fun K x qual st f fd)
    (h : ∀ (kV doc pm : Value) (an : Option Addr) (cdv ct : Value) (us : List Value), us.length = ps.length → bindArgs (PySem.W.fnOf x qual (defArgs st) (defBody st) (defScope st) .none kV doc pm an cdv ct) ⟨us, []⟩ = pure (ps.zip us)) : Binds K fd ps [] := by
  obtain ⟨oc, od, kV, doc, pm, an, cdv, ct, osl, rfl, lk, hcd⟩ := F.ex
  exact .all (h kV doc pm an cdv ct)
theorem fun_mk {x qual : Str} {st : Stmt} {f : Addr} {oc : Value} {od an : Option Addr} {osl : Array (Option Value)} {kV doc pm cdv ct : Value} (l : K.lookup f = some ⟨oc, od, .func (PySem.W.fnOf x qual (defArgs st) (defBody st) (defScope st) .none kV doc pm an cdv ct), osl⟩)
    (c : PySem.W.codeIn K cdv qual = true) (k : PySem.W.keepIn K (.ref f) = true) : Fun K x qual st f (PySem.W.fnOf x qual (defArgs st) (defBody st) (defScope st) .none kV doc pm an cdv ct) := ⟨⟨oc, od, kV, doc, pm, an, cdv, ct, osl, rfl, l, c⟩, k⟩
end
theorem small1000 {n : Nat} (h : n ≤ 1000) : n < sizeLine := Nat.lt_of_le_of_lt h (by decide)

/-! ### expressions in short: the name that stands in the i-th slot -/
section
variable {X : Cx}
theorem pv (i : Nat) {x : Str} {pos : Pos} (hN : X.N[i]? = some x := by rfl) (hv : Vis X.env.scope x := by first | exact Or.inl rfl | exact Or.inr (Or.inl rfl) | exact Or.inr (Or.inr rfl)) (hd : (x == ("__debug__" : Str)) = false := by decide)
    (hcd : (x == ("__classdict__" : Str)) = false := by decide) : PE X (.Name x pos) (tVar i) := pe_var hN hv hd hcd
end

/-! ### tests -/
theorem iteF {A B : Prop} (h : B) : if false = true then A else B := by
  rw [if_neg Bool.false_ne_true]
  exact h
theorem iteT {A B : Prop} (h : A) : if true = true then A else B := by
  rw [if_pos rfl]
  exact h
theorem ite2 {c A B : Prop} [Decidable c] (h1 : c → A) (h2 : ¬ c → B) : if c then A else B := by
  by_cases h : c
  · rw [if_pos h]
    exact h1 h
  · rw [if_neg h]
    exact h2 h
theorem iteNS {c A B : Prop} [Decidable c] (hc : c) (h : B) : if (!decide c) = true then A else B := by
  rw [decide_eq_true hc]
  exact iteF h

/-! ### heaps -/
/-- all that was tracked is as it was -/
def Same (H H' : Hp) : Prop := ∀ b o, H b = some o → H' b = some o
theorem Same.refl (H : Hp) : Same H H := fun _ _ h => h
theorem Same.trans {H H1 H2 : Hp} (a : Same H H1) (b : Same H1 H2) : Same H H2 := fun c o h => b c o (a c o h)
theorem Same.free {H H' : Hp} (e : Same H H') {l : Addr} (h : H' l = Option.none) : H l = Option.none := by
  cases q : H l with
  | none => rfl
  | some o =>
    rw [e l o q] at h
    cases h
theorem Same.seq {K : PySem.W.Frag} {H H' : Hp} {a : Addr} {xs : List V} (e : Same H H') (h : SqL K H a xs) : SqL K H' a xs := by
  rcases h with (h | ⟨o, h⟩) | h
  · exact .inl (.inl (e _ _ h))
  · exact .inl (.inr ⟨o, e _ _ h⟩)
  · exact .inr h

/-! ### a dict's pairs: keys that differ -/
section
variable {κ : Type} [DecidableEq κ]
end
end L2

namespace L2
open PySem PySem.Spec PyProof.Rows
/-! ### an exception has left a call: its own objects are new, all else but the callers' frames stands in B -/
structure Flown (P : Program) (w : World) (outer : List Env) (H : Hp) (s : Shared) (E : XK) (e : Value) (s' : Shared) : Prop where
  ex : ∃ (ea C : Addr) (a0 : Value) (B : Heap) (H' : Hp), e = .ref ea ∧ s'.os = s.os ∧ AllBare s'.gens ∧ Heap.FlyingW B outer ea (.ref C) a0 s'.heap ∧ HOk P w H' B ∧ Un (frs outer) [] H H' s.heap s'.heap ∧
    (∀ b o, s.heap.get? b = some o → b ∈ frs outer ∨ ∃ o', B.get? b = some o') ∧ E (.ref C) none H'
theorem flown_none {P : Program} {w : World} {outer : List Env} {H : Hp} {s s' : Shared} {e : Value} (h : Flown P w outer H s E0 e s') : False := by
  obtain ⟨_, _, _, _, _, _, _, _, _, _, _, _, q⟩ := h.ex
  exact q
theorem passF0 {X : Cx} : Passes (Flown X.prog X.w) X E0 := fun _ _ _ _ _ _ _ h => (flown_none h).elim
section
variable {X : Cx} {pins : List (Addr × Obj)} {σ : St} {H : Hp} {s : Shared}
theorem Inv.notStk (I : Inv X pins σ H s) {b : Addr} {o : Obj} (e : X.s₀.heap.get? b = some o) (hb : b ∉ X.fs) : b ∉ frs X.stack := fun z => by
  rcases List.mem_cons.mp (I.stkSub b z) with q | q
  · exact absurd (Nat.lt_of_lt_of_le (Heap.lt_size e) I.ok.above) (by rw [← q]; exact Nat.lt_irrefl _)
  · exact hb q
theorem hideStk (I : Inv X pins σ H s) {b : Addr} {o : Obj} (e : s.heap.get? b = some o) (hb : b ∉ frs X.stack) : (PySem.W.hideAll s.heap (frs X.stack)).get? b = some o := PySem.W.hideAll_get _ e hb
theorem Inv.hokHid (I : Inv X pins σ H s) : HOk X.prog X.w H (PySem.W.hideAll s.heap (frs X.stack)) := fun b o e =>
  (I.hok b o e).stay (fun c u hc q => hideStk I q fun z => by
    have n := I.stkFree c z
    rcases hc with rfl | hc
    · rw [n] at e; cases e
    · rw [n] at hc; cases hc) (fun _ q => q) fun _ _ q => q
/-- up to the entry -/
theorem Inv.unTo (I : Inv X pins σ H s) (hex : X.ex = []) {H' : Hp} {h' : Heap} (keep : ∀ b o, s.heap.get? b = some o → H b = none → b ∉ frs X.stack → h'.get? b = some o)
    (slot : ∀ b o, s.heap.get? b = some o → H b = none → b ∈ X.fs → ∃ sl, h'.get? b = some { o with slots := sl }) (free : ∀ b o, s.heap.get? b = some o → H b = none → H' b = none) (there : ∀ b o, s.heap.get? b = some o → ∃ o', h'.get? b = some o')
    (tups : ∀ b xs, H b = some (.tup xs) → H' b = some (.tup xs)) (frzs : ∀ b o u, H b = some (.frz o u) → H' b = some (.frz o u)) (tbls : ∀ b ps, H b = some (.tbl ps) → ∃ more, H' b = some (.tbl (ps ++ more))) :
    Un (frs X.outer) [] X.H₀ H' X.s₀.heap h' := by
  have nx : ∀ b : Addr, b ∉ X.ex := fun b => by rw [hex]; simp
  refine ⟨fun b o e n hb _ => ?_, fun b o e n hb _ => ?_, fun b o e n _ => ?_, fun b o e _ => ?_, fun b xs e => tups b xs (I.base.tups b xs e), fun b o u e => frzs b o u (I.base.frzs b o u e), fun b ps e => ?_⟩
  · exact keep b o (I.base.keep b o e n hb (nx b)) (I.base.free b o e n (nx b)) (I.notStk e hb)
  · obtain ⟨sl, e1⟩ := I.base.slot b o e n hb (nx b)
    obtain ⟨sl', e2⟩ := slot b _ e1 (I.base.free b o e n (nx b)) hb
    exact ⟨sl', e2⟩
  · obtain ⟨o', e1⟩ := I.base.there b o e (nx b)
    exact free b o' e1 (I.base.free b o e n (nx b))
  · obtain ⟨o', e1⟩ := I.base.there b o e (nx b)
    exact there b o' e1
  · obtain ⟨m1, e1⟩ := I.base.tbls b ps e
    obtain ⟨m2, e2⟩ := tbls b _ e1
    exact ⟨m1 ++ m2, by rw [e2, Array.append_assoc]⟩
end
abbrev cxF (P : Program) (w : World) (K : PySem.W.Frag) (mg : Str → Option Value) (base : Heap) (N : List Str) (qual : Str) (scope : Scope) (f : Addr) (cdv : Value) (A : Around) (outer : List Env) (s : Shared) (H : Hp) (E : XK) : Cx :=
  cxOf (Flown P w) P w K mg base N qual scope f cdv A outer s H E
section
variable {P : Program} {w : World} {K : PySem.W.Frag} {mg : Str → Option Value} {base : Heap} {N : List Str} {qual : Str} {scope : Scope} {f : Addr} {cdv : Value} {A : Around} {outer : List Env} {s₀ : Shared} {H₀ : Hp} {E : XK}
/-- raised in the body of a def -/
theorem made_leaves {pins : List (Addr × Obj)} {σ : St} {H : Hp} {s : Shared} {h1 : Heap} {e C : Addr} {vs : List Value} (I : Inv (cxF P w K mg base N qual scope f cdv A outer s₀ H₀ E) pins σ H s) (hx : Heap.MadeExcOf s.heap h1 e (.ref C) vs) (q : E (.ref C) none H) :
    (cxF P w K mg base N qual scope f cdv A outer s₀ H₀ E).xe (.ref e) { s with heap := h1 } := by
  have hin : ∀ env ∈ envOfC qual scope s₀.heap.objs.size f cdv :: outer, ∀ a, env.frame = some a → a ∈ frs (envOfC qual scope s₀.heap.objs.size f cdv :: outer) := fun env he a ha => List.mem_filterMap.mpr ⟨env, he, ha⟩
  refine wpAny_leaves_madeW (base := PySem.W.hideAll s.heap (frs (envOfC qual scope s₀.heap.objs.size f cdv :: outer))) (h := s.heap) (L := s₀.heap.objs.size) I.ok.frames rfl (fun b o q => PySem.W.of_hideAll _ q) (PySem.W.funFrames_hide I.stack hin) hx fun h' t x1 x2 x3 x4 => ?_
  have up : ∀ b o, s.heap.get? b = some o → b ∈ frs (envOfC qual scope s₀.heap.objs.size f cdv :: outer) → ∃ sl, h'.get? b = some { o with slots := sl } := fun b o e hb => by
    obtain ⟨_, o', ho', hd⟩ := I.stack.mem hb
    rw [e] at ho'; cases ho'
    exact x4 b o (hx.keeps b o e) hd
  refine ⟨e, C, .ref t, _, H, rfl, I.os, I.bare, x1, I.hokHid, I.unTo rfl (fun b o e _ hb => x1.1 b o (hideStk I e hb)) (fun b o e _ hb => up b o e (List.mem_cons_of_mem _ hb)) (fun _ _ _ n => n) (fun b o e => ?_) (fun _ _ z => z) (fun _ _ _ z => z) (fun b ps z => ⟨#[], by rw [z]; simp⟩), fun b o e => ?_, q⟩
  · by_cases hb : b ∈ frs (envOfC qual scope s₀.heap.objs.size f cdv :: outer)
    · obtain ⟨sl, z⟩ := up b o e hb
      exact ⟨_, z⟩
    · exact ⟨o, x1.1 b o (hideStk I e hb)⟩
  · by_cases hb : b ∈ frs outer
    · exact .inl hb
    · obtain ⟨o', e1⟩ := I.base.there b o e (by intro z; cases z)
      exact .inr ⟨o', hideStk I e1 (I.notStk e hb)⟩
/-- .. or in a callee -/
theorem pass_on : Passes (Flown P w) (cxF P w K mg base N qual scope f cdv A outer s₀ H₀ E) E := by
  intro pins σ H s e s' I h
  obtain ⟨ea, C, a0, B, H', rfl, os, bare, fl, hok, un, old, q⟩ := h.ex
  refine wpAny_leaves_onW (L := s₀.heap.objs.size) I.ok.frames rfl fl fun h' x1 x2 => ?_
  have inB : ∀ b o, s.heap.get? b = some o → b ∉ frs (envOfC qual scope s₀.heap.objs.size f cdv :: outer) → ∃ o', B.get? b = some o' ∧ s'.heap.get? b = some o' := fun b o e hb => by
    rcases old b o e with z | ⟨o', z⟩
    · exact absurd z hb
    · exact ⟨o', z, fl.1 b o' z⟩
  have up : ∀ b o, s'.heap.get? b = some o → b ∈ frs (envOfC qual scope s₀.heap.objs.size f cdv :: outer) → ∃ sl, h'.get? b = some { o with slots := sl } := fun b o e hb => by
    obtain ⟨_, o', ho', hd⟩ := fl.2.2.1.mem hb
    rw [e] at ho'; cases ho'
    exact x2 b o e hd
  refine ⟨ea, C, a0, B, H', rfl, os.trans I.os, bare, x1, hok, I.unTo rfl (fun b o e n hb => ?_) (fun b o e n hb => ?_) (fun b o e n => un.free b o e n (by simp)) (fun b o e => ?_) un.tups un.frzs un.tbls, fun b o e => ?_, q⟩
  · obtain ⟨o', e1, e2⟩ := inB b o e hb
    have e3 := un.keep b o e n hb (by simp)
    rw [e2] at e3; cases e3
    exact x1.1 b _ e1
  · obtain ⟨sl, e1⟩ := un.slot b o e n (List.mem_cons_of_mem _ hb) (by simp)
    obtain ⟨sl', e2⟩ := up b _ e1 (List.mem_cons_of_mem _ hb)
    exact ⟨sl', e2⟩
  · by_cases hb : b ∈ frs (envOfC qual scope s₀.heap.objs.size f cdv :: outer)
    · obtain ⟨o', e1⟩ := un.there b o e (by simp)
      obtain ⟨sl, e2⟩ := up b o' e1 hb
      exact ⟨_, e2⟩
    · obtain ⟨o', e1, _⟩ := inB b o e hb
      exact ⟨o', x1.1 b o' e1⟩
  · by_cases hb : b ∈ frs outer
    · exact .inl hb
    · obtain ⟨o', e1⟩ := I.base.there b o e (by intro z; cases z)
      obtain ⟨o2, e2, _⟩ := inB b o' e1 (I.notStk e hb)
      exact .inr ⟨o2, e2⟩
end
/-! ### raise C(..) -/
def tRaise (C : Addr) (E : XK) (t : TA) : TS := fun _ σ H => t σ H fun vs H1 => vs.length ≤ sizeLine ∧ E (.ref C) none H1
structure ExC (mg : Str → Option Value) (base : Heap) (x : Str) (C : Addr) : Prop where
  ex : ∃ bm newId, OwnCls x C bm newId mg base ∧ ∃ (Bn inN : String) (bmN : List Value) (B nid initId : String), ExcBaseFacts Bn newId inN bmN ∧ bm.contains (.type Bn) = true ∧ ExcBaseFacts B nid initId bm
theorem ps_raise {P : Program} {w : World} {K : PySem.W.Frag} {mg : Str → Option Value} {base : Heap} {N : List Str} {qual : Str} {scope : Scope} {f : Addr} {cdv : Value} {A : Around} {outer : List Env} {s₀ : Shared} {H₀ : Hp} {E : XK}
    {x : Str} {C : Addr} {np cpos pos : Pos} {e : Expr} {es : List Expr} {t : TA} (O : ExC mg base x C) (hg : Gl (cxF P w K mg base N qual scope f cdv A outer s₀ H₀ E) x) (ha : PA (cxF P w K mg base N qual scope f cdv A outer s₀ H₀ E) (e :: es) t)
    (hdb : (x == ("__debug__" : Str)) = false := by decide)
    (he : starEach (e :: es) (cxF P w K mg base N qual scope f cdv A outer s₀ H₀ E).env = (false, eval e (cxF P w K mg base N qual scope f cdv A outer s₀ H₀ E).env) :: starEach es (cxF P w K mg base N qual scope f cdv A outer s₀ H₀ E).env := by rfl)
    (hpl : (backTo cpos (starEach es (cxF P w K mg base N qual scope f cdv A outer s₀ H₀ E).env)).any (·.1) = false := by rfl) :
    PS (cxF P w K mg base N qual scope f cdv A outer s₀ H₀ E) (.Raise (some (.Call (.Name x np) (e :: es) [] cpos)) none pos) (tRaise C E t) := by
  intro pins s σ H D I h
  obtain ⟨bm, newId, O, Bn, inN, bmN, B, nid, initId, Fn, hBn, FB⟩ := O.ex
  obtain ⟨tl, Nn, nm, q, bs, hdct, sn, sub, ab, col, dd, k0, k1, k2, k3, k5, mN, hC, hN, hni, T⟩ := O.obj
  refine wpAny_Raise_call_subU (C := C) (nm := nm) (q := q) (N := Nn) (bs := bs) (bm := tl) (hdct := hdct) (sn := sn) (sub := sub) (ab := ab) (col := col) (dd := dd) (k0 := k0) (k1 := k1) (k2 := k2) (k3 := k3) (k5 := k5)
    Fn hBn FB (mN := mN) (T.hasType FB.hasBase) (I.ok.hd rfl) (by rw [he]; show (false || (backTo cpos (starEach es (cxF P w K mg base N qual scope f cdv A outer s₀ H₀ E).env)).any (·.1)) = false; rw [hpl]; rfl) hni (ld_glob I hg O.bound ⟨rfl, ?_⟩ hdb)
  have h2 := ha cpos pins s σ H _ I h
  rw [he] at h2 ⊢
  refine Calls.evalArgs_plain (wpAny_mono h2 (fun us s2 ⟨vs, H2, I2, r, z, q⟩ => ⟨rfl, by rw [← r.length]; exact z, I2.bk _ _ hC, hN.keeps I2.bk, T.keeps I2.bk, fun h' e hm => made_leaves I2 hm q⟩) fun _ _ y => y)
/-! ### a def whose body may raise -/
theorem Fun.okF {P : Program} {w : World} {K : PySem.W.Frag} {mg : Str → Option Value} {base : Heap} {x qual : Str} {st : Stmt} {f : Addr} {fd : FuncData} {N ps : List Str} {k : Nat} {sp : Sp} (F : Fun K x qual st f fd) (S : FnScope N ps (defScope st)) (len : ∀ vs H Q E, sp vs H Q E → vs.length = ps.length)
    (hbody : ∀ (cdv : Value) (A : Around) (outer : List Env) (s : Shared) (H : Hp) (vs : List V) (Q : VK) (E : XK), Room k (A.deeper (envOfC qual (defScope st) s.heap.objs.size f cdv)) → sp vs H Q E →
      ∃ t, PSs (cxF P w K mg base N qual (defScope st) f cdv A outer s H E) (defBody st) t ∧ t { nx := fun _ H' => Q .non H', rt := Q } (start N vs) H) : FnOk P w K mg base (Flown P w) (k + 1) f fd ps sp := by
  obtain ⟨oc, od, kV, doc, pm, an, cdv, ct, osl, rfl, lk, hcd⟩ := F.ex
  exact fn_of lk hcd S len fun A outer s H vs Q E hr hsp => hbody cdv A outer s H vs Q E hr hsp
theorem Fun.okN {P : Program} {w : World} {K : PySem.W.Frag} {mg : Str → Option Value} {base : Heap} {x qual : Str} {st : Stmt} {f : Addr} {fd : FuncData} {N ps : List Str} {k : Nat} {sp : Sp} (F : Fun K x qual st f fd) (S : FnScope N ps (defScope st)) (len : ∀ vs H Q E, sp vs H Q E → vs.length = ps.length)
    (hbody : ∀ (cdv : Value) (A : Around) (outer : List Env) (s : Shared) (H : Hp) (vs : List V) (Q : VK) (E : XK), Room k (A.deeper (envOfC qual (defScope st) s.heap.objs.size f cdv)) → sp vs H Q E →
      ∃ t, PSs (cxF P w K mg base N qual (defScope st) f cdv A outer s H E).nox (defBody st) t ∧ t { nx := fun _ H' => Q .non H', rt := Q } (start N vs) H) : FnOk P w K mg base (Flown P w) (k + 1) f fd ps sp :=
  F.okF S len fun cdv A outer s H vs Q E hr h => let ⟨t, a, b⟩ := hbody cdv A outer s H vs Q E hr h; ⟨t, a.nox, b⟩
end L2
namespace L2
open PySem PySem.Spec PyProof.Rows
section
variable {X : Cx}

/-! ### weaker readings -/
theorem OpR.imp {f : Value → Value → Sem Value} {r r' : R2} (h : OpR X f r) (i : ∀ x y H Q, r' x y H Q → r x y H Q) : OpR X f r' := fun pins s σ H x y v u Q I rx ry q => h pins s σ H x y v u Q I rx ry (i _ _ _ _ q)
theorem IxR.imp {r r' : R2} (h : IxR X r) (i : ∀ x y H Q, r' x y H Q → r x y H Q) : IxR X r' := fun value slice pins s σ H x y v u Q I rx ry q hs => h value slice pins s σ H x y v u Q I rx ry (i _ _ _ _ q) hs

/-! ### names of the module -/
theorem pe_globI {x : Str} {i : Int} {pos : Pos} (hg : Gl X x) (hm : ∃ t, X.mg x = some (.int i t)) (hd : (x == ("__debug__" : Str)) = false := by decide) : PE X (.Name x pos) (tC (.int i)) := by
  obtain ⟨t, e⟩ := hm
  exact pe_glob hg e ⟨t, rfl⟩ hd

theorem pe_tyB {x : Str} {n : String} {pos : Pos} (hg : Gl X x) (hm : X.mg x = none) (hv : bootBuiltins x = some (.type n)) (hn : x ≠ "__name__" := by decide) (hd : (x == ("__debug__" : Str)) = false := by decide) : PE X (.Name x pos) (tC (.ty n)) :=
  pe_bltn hg hm hv (v := .ty n) rfl hn hd
/-! ### a call of a def of the text, the def's facts in one piece -/
structure Cal (P : Program) (w : World) (K : PySem.W.Frag) (mg : Str → Option Value) (base : Heap) (x : Str) (k : Nat) (ps : List Str) (sp : Sp) : Prop where
  ex : ∃ (g : Addr) (gd : FuncData), mg x = some (.ref g) ∧ PySem.W.keepIn K (.ref g) = true ∧ Binds K gd ps [] ∧ FnOk P w K mg base (Flown P w) k g gd ps sp
theorem pe_callC {x : Str} {k k' : Nat} {ps : List Str} {sp : Sp} {p pos : Pos} {e : Expr} {es : List Expr} {t : TA} (C : Cal X.prog X.w X.K X.mg X.base x k ps sp) (hr : Room k' X.A) (hg : Gl X x) (ha : PA X (e :: es) t)
    (hk : k ≤ k' := by decide) (hd : (x == ("__debug__" : Str)) = false := by decide)
    (he : starEach (e :: es) X.env = (false, eval e X.env) :: starEach es X.env := by rfl) (hpl : (backTo pos (starEach es X.env)).any (·.1) = false := by rfl) : PE X (.Call (.Name x p) (e :: es) [] pos) (tCall sp [] E0 t) := by
  obtain ⟨g, gd, hm, hkp, hb, F⟩ := C.ex
  exact pe_call F (hr.mono hk) hg hm hkp hb .nil passF0 ha hd he hpl
/-- .. of a def that may raise, in the body of one that may -/
theorem pe_callCF {P : Program} {w : World} {K : PySem.W.Frag} {mg : Str → Option Value} {base : Heap} {N : List Str} {qual : Str} {scope : Scope} {f : Addr} {cdv : Value} {A : Around} {outer : List Env} {s₀ : Shared} {H₀ : Hp} {E : XK}
    {x : Str} {k k' : Nat} {ps : List Str} {sp : Sp} {p pos : Pos} {e : Expr} {es : List Expr} {t : TA} (C : Cal P w K mg base x k ps sp) (hr : Room k' (cxF P w K mg base N qual scope f cdv A outer s₀ H₀ E).A) (hg : Gl (cxF P w K mg base N qual scope f cdv A outer s₀ H₀ E) x)
    (ha : PA (cxF P w K mg base N qual scope f cdv A outer s₀ H₀ E) (e :: es) t) (hk : k ≤ k' := by decide) (hd : (x == ("__debug__" : Str)) = false := by decide)
    (he : starEach (e :: es) (cxF P w K mg base N qual scope f cdv A outer s₀ H₀ E).env = (false, eval e (cxF P w K mg base N qual scope f cdv A outer s₀ H₀ E).env) :: starEach es (cxF P w K mg base N qual scope f cdv A outer s₀ H₀ E).env := by rfl)
    (hpl : (backTo pos (starEach es (cxF P w K mg base N qual scope f cdv A outer s₀ H₀ E).env)).any (·.1) = false := by rfl) :
    PE (cxF P w K mg base N qual scope f cdv A outer s₀ H₀ E) (.Call (.Name x p) (e :: es) [] pos) (tCall sp [] E t) := by
  obtain ⟨g, gd, hm, hkp, hb, F⟩ := C.ex
  exact pe_call (X := cxF P w K mg base N qual scope f cdv A outer s₀ H₀ E) F (hr.mono hk) hg hm hkp hb .nil pass_on ha hd he hpl

/-! ### + and * -/
theorem cat_tup0 {prog : Program} {w : World} {A : Around} {E : Value → Shared → Prop} {s : Shared} {t b : Addr} {vs ws : List Value} {Q : Value → Shared → Prop} (ht : IsTup s.heap t vs.toArray) (hb : IsTup s.heap b ws.toArray) (hv : vs = [])
    (h1 : Q (.ref b) s) : wpAny (model prog w) A (binaryOp .Add (.ref t) (.ref b)) Q E s := by
  obtain ⟨⟨cls, dd, data, sl⟩, ho, hc, n, hd⟩ := id ht
  obtain ⟨⟨cls2, dd2, data2, sl2⟩, ho2, hc2, n2, hd2⟩ := id hb
  simp only at hc hd hc2 hd2
  subst hc hd hc2 hd2
  exact concat_meets ⟨_, ho, rfl⟩ ⟨_, ho2, rfl⟩ noFill_tuple_add seq_tuple_add PySem.F.slot_tuple_add PySem.F.entry_tuple_add (PySem.F.args_tuple_add_2 _ _)
      (tuple_addW0 t b vs.toArray ws.toArray n n2 dd dd2 sl sl2 (by simp [hv])) ⟨ho, ho2, h1⟩
def rCat0 (K : PySem.W.Frag) : R2 := fun x y H Q => ∃ a b ys, x = .ref a ∧ y = .ref b ∧ SqT K H a [] ∧ SqT K H b ys ∧ Q (.ref b) H
theorem op_cat0 : OpR X (binaryOp .Add) (rCat0 X.K) := by
  intro pins s σ H x y v u Q I rx ry h
  obtain ⟨a, b, ys, rfl, rfl, ha, hb, q⟩ := h
  cases rx
  cases ry
  obtain ⟨its, r1, p1, _⟩ := I.tuple ha
  obtain ⟨its2, r2, p2, _⟩ := I.tuple hb
  exact cat_tup0 p1 p2 (r1.nil_iff.mpr rfl) ⟨.ref b, H, I, rfl, q⟩
def rAddV (K : PySem.W.Frag) : R2 := fun x y H Q => match x, y with
  | .int i, .int j => Q (.int (i + j)) H
  | .str i, .str j => i.length + j.length ≤ sizeLine ∧ Q (.str (i ++ j)) H
  | .ref a, .ref b => (∃ xs ys, H a = some (.lst xs) ∧ H b = some (.lst ys) ∧ xs.length + ys.length ≤ sizeLine ∧ ∀ p, H p = none → Q (.ref p) (upd H p (.lst (xs ++ ys)))) ∨
      (∃ xs ys, SqT K H a xs ∧ SqT K H b ys ∧ xs.length + ys.length ≤ sizeLine ∧ (xs = [] → Q (.ref b) H) ∧ (xs ≠ [] → ys = [] → Q (.ref a) H) ∧ (xs ≠ [] → ys ≠ [] → ∀ p, H p = none → Q (.ref p) (upd H p (.tup (xs ++ ys)))))
  | _, _ => False
theorem v_add : OpR X (binaryOp .Add) (rAddV X.K) := by
  refine ((op_add.or op_add_str).or (op_cat.or (op_catT.or op_cat0))).imp fun x y H Q h => ?_
  unfold rAddV at h
  split at h
  · exact .inl (.inl ⟨_, _, rfl, rfl, h⟩)
  · exact .inl (.inr ⟨_, _, rfl, rfl, h⟩)
  · rcases h with ⟨xs, ys, h1, h2, h3, h4⟩ | ⟨xs, ys, h1, h2, h3, h4, h5, h6⟩
    · exact .inr (.inl ⟨_, _, xs, ys, rfl, rfl, h1, h2, h3, h4⟩)
    · by_cases hx : xs = []
      · subst hx
        exact .inr (.inr (.inr ⟨_, _, ys, rfl, rfl, h1, h2, h4 rfl⟩))
      · exact .inr (.inr (.inl ⟨_, _, xs, ys, rfl, rfl, h1, h2, hx, h3, h5 hx, h6 hx⟩))
  · exact h.elim
def rMulV : R2 := fun x y H Q => match x, y with
  | .int i, .int j => IntMulOk i j ∧ Q (.int (i * j)) H
  | .ref l, .int k => ∃ xs, H l = some (.lst xs) ∧ -(2 ^ 63) ≤ k ∧ k < 2 ^ 63 ∧ xs.length * k.toNat ≤ sizeLine ∧ ∀ p, H p = none → Q (.ref p) (upd H p (.lst (List.replicate k.toNat xs).flatten))
  | _, _ => False
theorem op_mulG : OpR X (binaryOp .Mult) (rI IntMulOk fun i j => .int (i * j)) := opI fun _ _ _ _ _ _ _ hc q => mul_int q hc
theorem v_mul : OpR X (binaryOp .Mult) rMulV := by
  refine (op_mulG.or op_rep).imp fun x y H Q h => ?_
  unfold rMulV at h
  split at h
  · exact .inl ⟨_, _, rfl, rfl, h.1, h.2⟩
  · obtain ⟨xs, h1, h2, h3, h4, h5⟩ := h
    exact .inr ⟨_, _, xs, rfl, rfl, h1, h2, h3, h4, h5⟩
  · exact h.elim

/-! ### an item, a slice -/
def rIxV (K : PySem.W.Frag) : R2 := fun x y H Q => match x, y with
  | .ref p, .int i => ∃ xs v, (SqL K H p xs ∨ SqT K H p xs) ∧ atI xs i = some v ∧ Q v H
  | .str z, .int i => ∃ c, z.length ≤ sizeLine ∧ atI z.cps.toList i = some c ∧ Q (.str ⟨#[c]⟩) H
  | _, _ => False
theorem v_ix : IxR X (rIxV X.K) := by
  refine ix_seq.imp fun x y H Q h => ?_
  unfold rIxV at h
  split at h
  · obtain ⟨xs, v, h1 | h1, h2, h3⟩ := h
    · exact .inl ⟨_, xs, _, v, rfl, rfl, h1, h2, h3⟩
    · exact .inr (.inl ⟨_, xs, _, v, rfl, rfl, h1, h2, h3⟩)
  · obtain ⟨c, h1, h2, h3⟩ := h
    exact .inr (.inr ⟨_, _, c, rfl, rfl, h1, h2, h3⟩)
  · exact h.elim

/-! ### isinstance of built-in types -/
def tyNm (H : Hp) : V → Option String
  | .non => some "NoneType"
  | .bl _ => some "bool"
  | .int _ => some "int"
  | .str _ => some "str"
  | .ref a => match H a with
    | some (.lst _) => some "list"
    | some (.frz _ (.lst _)) => some "list"
    | some (.tup _) => some "tuple"
    | some (.dK _) => some "dict"
    | _ => none
  | _ => none
def subB (t c : String) : Bool := t == c || (t == "bool" && c == "int")
theorem kit_b {K : PySem.W.Frag} {t c : String} (ht : t ∈ ["NoneType", "bool", "int", "str", "list", "tuple", "dict"]) (hc : c ∈ ["int", "bool", "tuple", "list", "str", "dict"]) : PySem.W.kitOne K (.type t) (.type c) = some (subB t c) := by
  simp only [List.mem_cons, List.not_mem_nil, or_false] at ht hc
  rcases ht with rfl | rfl | rfl | rfl | rfl | rfl | rfl <;> rcases hc with rfl | rfl | rfl | rfl | rfl | rfl <;> kernel_rfl
theorem tyNm_of {K : PySem.W.Frag} {H : Hp} {x : V} {t : String} (h : tyNm H x = some t) : TyOf K H x (.type t) ∧ t ∈ ["NoneType", "bool", "int", "str", "list", "tuple", "dict"] := by
  unfold tyNm at h
  split at h
  · cases h; exact ⟨.non, by simp⟩
  · cases h; exact ⟨.bl _, by simp⟩
  · cases h; exact ⟨.int _, by simp⟩
  · cases h; exact ⟨.str _, by simp⟩
  · split at h
    · rename_i e; cases h; exact ⟨.lst e, by simp⟩
    · rename_i e; cases h; exact ⟨.frz e, by simp⟩
    · rename_i e; cases h; exact ⟨.tup e, by simp⟩
    · rename_i e; cases h; exact ⟨.dK e, by simp⟩
    · cases h
  · cases h
theorem v_isinstance : CallR X (.builtin "isinstance") (fun xs H Q => ∃ x c t, xs = [x, .ty c] ∧ tyNm H x = some t ∧ c ∈ ["int", "bool", "tuple", "list", "str", "dict"] ∧ Q (.bl (subB t c)) H) := by
  intro pins s σ H xs us Q I r h
  obtain ⟨x, c, t, rfl, ht, hc, q⟩ := h
  obtain ⟨u, v, rfl, ru, rv⟩ := r.two
  cases rv
  obtain ⟨ty, hm⟩ := tyNm_of (K := X.K) ht
  exact isinst_ok I ru ty (kit_b hm hc) fun tk => ⟨.bl _, H, I.tok tk, rfl, q⟩

/-! ### all of a list of bools, the sum of a list of ints -/
theorem bools_of : ∀ {bs : List Bool} {us : List Value}, Vals (bs.map V.bl) us → us = bs.map Value.bool
  | [], _, .nil => rfl
  | b :: bs, _, .cons r t => by
    have e := bools_of (bs := bs) t
    cases (show _ = Value.bool b from r)
    rw [e]; rfl
theorem kept_iter' {s : Shared} {h' : Heap} {o : Obj} (hk : ∀ b x, b ∉ [s.heap.objs.size] → (s.heap.push o).get? b = some x → h'.get? b = some x) : ∀ b x, s.heap.get? b = some x → h'.get? b = some x :=
  fun b x e => hk b x (fun hm => by rw [List.mem_singleton.mp hm] at e; exact Nat.lt_irrefl _ (Heap.lt_size e)) (Heap.get?_push_of_some _ e)
theorem v_all (hc : X.calm = true) : CallR X (.builtin "all") (fun xs H Q => ∃ (l : Addr) (bs : List Bool), xs = [.ref l] ∧ SqL X.K H l (bs.map V.bl) ∧ Q (.bl (bs.all id)) H) := by
  intro pins s σ H xs us Q I r h
  obtain ⟨l, bs, rfl, hl, q⟩ := h
  obtain ⟨u, rfl, ru⟩ := r.one
  cases ru
  obtain ⟨its, rv, pl, hz⟩ := I.list hl
  have eb := bools_of rv
  subst eb
  have hl' := pl.isList
  have hlt : l < s.heap.objs.size := by obtain ⟨_, e, _⟩ := hl'; exact Heap.lt_size e
  refine call_all_walk (wpAny_pyIter_list hl' ?_)
  refine ⟨s.heap.objs.size, [s.heap.objs.size, l], [s.heap.objs.size], (bs.map Value.bool).toArray.size, _, _, fun i => (bs[i]?).getD true, rfl, Walks.list (A := X.A.in1) (I.ok.hd hc) _ l (Nat.ne_of_lt hlt) (bs.map Value.bool).toArray,
    ⟨⟨_, Heap.get?_push_size _ rfl, rfl, rfl⟩, hl'.push _⟩, fun i v s' Q' E' hP hQ => ?_, fun h' tk hk => ?_⟩
  · have hP' : (bs.map Value.bool)[i]? = some v := by simpa using hP
    rw [List.getElem?_map] at hP'
    cases e : bs[i]? with
    | none => rw [e] at hP'; cases hP'
    | some b =>
      rw [e] at hP'
      cases hP'
      dsimp only at hQ
      rw [e] at hQ
      exact wpAny_truthy_bool hQ
  · have e2 : ((List.range (bs.map Value.bool).toArray.size).all fun i => (bs[i]?).getD true) = bs.all id := by
      rw [List.size_toArray, List.length_map]
      rw [Bool.eq_iff_iff, List.all_eq_true, List.all_eq_true]
      constructor
      · intro hh x hx
        obtain ⟨i, hi, e⟩ := List.mem_iff_getElem.mp hx
        have := hh i (List.mem_range.mpr hi)
        rw [List.getElem?_eq_getElem hi, e] at this
        exact this
      · intro hh i hi
        have hi' := List.mem_range.mp hi
        rw [List.getElem?_eq_getElem hi']
        exact hh _ (List.getElem_mem hi')
    have fin : EP X pins σ Q (.bool (bs.all id)) { s with heap := h', toks := tk } := ⟨.bl _, H, I.kept (kept_iter' hk), rfl, q⟩
    first | (rw [e2]; exact fin) | (simpa [e2] using fin)
theorem v_sum (hc : X.calm = true) : CallR X (.builtin "sum") (fun xs H Q => ∃ (l : Addr) (ns : List Int), xs = [.ref l] ∧ SqL X.K H l (ns.map V.int) ∧ Q (.int ns.sum) H) := by
  intro pins s σ H xs us Q I r h
  obtain ⟨l, ns, rfl, hl, q⟩ := h
  obtain ⟨u, rfl, ru⟩ := r.one
  cases ru
  obtain ⟨its, rv, pl, hz⟩ := I.list hl
  have hi := intsAre_of rv
  obtain ⟨xs, hx⟩ := hi.allInts.items
  have hl' : s.heap.IsList l (intItems xs) := hx ▸ pl.isList
  refine sum_intListG (I.ok.hd hc) hl' fun h' tk t' hk => ?_
  have e1 : ns = xs.toList.map (·.1) := by
    rw [← nums_intItems, ← hx]
    exact (show numsOf its.toArray.toList = ns from hi.numsOf).symm
  have e2 : preSum (numAt xs) xs.size = ns.sum := by
    rw [preSum_eq, List.take_of_length_le (by simp), e1]
  rw [e2]
  exact ⟨.int _, H, I.kept hk, ⟨_, rfl⟩, q⟩

/-! ### what is walked: a list or a tuple -/
def iSeq (K : PySem.W.Frag) (tl : TE) : TI := fun σ H R => tl σ H fun x H1 => ∃ a, x = .ref a ∧ (((∃ xs, SqL K H1 a xs) ∧ R (Itl K a) H1) ∨ ((∃ xs, SqT K H1 a xs) ∧ R (Itt K a) H1))
theorem pi_seq {tg l : Expr} {tl : TE} (hl : PE X l tl) : PI X tg l (iSeq X.K tl) := by
  intro pins s σ H R I h
  refine thn (hl pins s σ H _ I h) fun v s1 ⟨x, H1, I1, r1, a, e, q⟩ => ?_
  subst e
  cases r1
  rcases q with ⟨⟨xs, hq⟩, q⟩ | ⟨⟨xs, hq⟩, q⟩
  · have hh : PI X tg l (iList X.K fun σ' H' Q => Q (.ref a) H') → True := fun _ => trivial
    obtain ⟨its, rv, p, hz⟩ := I1.list hq
    refine wpAny_pyIter_list p.isList ?_
    refine ⟨s1.heap.objs.size, [s1.heap.objs.size], _, _, H1, rfl, I1.kept (t' := s1.toks) fun b o e => Heap.get?_push_of_some _ e, turn_list a _, ⟨_, Heap.get?_push_size _ rfl, rfl, rfl⟩, fun b hb => ?_, q⟩
    have e : b = s1.heap.objs.size := by simpa using hb
    subst e
    exact I1.fpOk (Nat.le_refl _) (I1.hok.fresh (Nat.le_refl _))
  · obtain ⟨its, rv, p, hz⟩ := I1.tuple hq
    refine wpAny_pyIter_tuple (show s1.heap.IsTuple a its.toArray from p) ?_
    refine ⟨s1.heap.objs.size, [s1.heap.objs.size], _, _, H1, rfl, I1.kept (t' := s1.toks) fun b o e => Heap.get?_push_of_some _ e, turn_tuple a _, ⟨_, Heap.get?_push_size _ rfl, rfl, rfl⟩, fun b hb => ?_, q⟩
    have e : b = s1.heap.objs.size := by simpa using hb
    subst e
    exact I1.fpOk (Nat.le_refl _) (I1.hok.fresh (Nat.le_refl _))
end
end L2
namespace L2
open PySem PySem.Spec PyProof.Rows

/-! ### a list comprehension of one clause: its block, its rule -/
theorem closure_go {env : Env} : ∀ (names : List (Str × NameKind)) (acc : List (Str × Addr)), (∀ y ∈ names, y.2 = .free → ∃ c, env.cells.lookup y.1 = some c) → (∀ p ∈ acc, env.cells.lookup p.1 = some p.2) →
   ∃ cl, (forIn names acc fun (y : Str × NameKind) (cs : List (Str × Addr)) => match y with | (name, kind) => if (kind == .free) = true then do let a ← cellOf env name; pure (ForInStep.yield ((name, a) :: cs)) else pure (ForInStep.yield cs)) = (pure cl : Sem _) ∧ (∀ p ∈ cl, env.cells.lookup p.1 = some p.2) ∧ (∀ p ∈ acc, p ∈ cl) ∧ ∀ y ∈ names, y.2 = .free → ∃ c, (y.1, c) ∈ cl
  | [], acc, _, ha => ⟨acc, rfl, ha, fun _ h => h, fun _ h => nomatch h⟩
  | (n, k) :: r, acc, hf, ha => by
    have hr : ∀ y ∈ r, y.2 = .free → ∃ c, env.cells.lookup y.1 = some c := fun y hy => hf y (List.mem_cons_of_mem _ hy)
    by_cases hk : k = .free
    · subst hk
      obtain ⟨c, hc⟩ := hf (n, .free) List.mem_cons_self rfl
      obtain ⟨cl, e, h1, h2, h3⟩ := closure_go r ((n, c) :: acc) hr (fun p hp => by
        rcases List.mem_cons.mp hp with rfl | hp
        · exact hc
        · exact ha p hp)
      refine ⟨cl, ?_, h1, fun p hp => h2 p (List.mem_cons_of_mem _ hp), fun y hy hyf => ?_⟩
      · rw [List.forIn_cons]
        simp only [beq_self_eq_true, if_true, cellOf, hc, pure_bind]
        exact e
      · rcases List.mem_cons.mp hy with rfl | hy
        · exact ⟨c, h2 _ List.mem_cons_self⟩
        · exact h3 y hy hyf
    · have hb : (k == NameKind.free) = false := by simpa using hk
      obtain ⟨cl, e, h1, h2, h3⟩ := closure_go r acc hr ha
      refine ⟨cl, ?_, h1, h2, fun y hy hyf => ?_⟩
      · rw [List.forIn_cons]
        simp only [hb, Bool.false_eq_true, if_false, pure_bind]
        exact e
      · rcases List.mem_cons.mp hy with rfl | hy
        · exact absurd hyf hk
        · exact h3 y hy hyf
theorem closure_ok {env : Env} {scope : Scope} (hf : ∀ y ∈ scope.names, y.2 = .free → ∃ c, env.cells.lookup y.1 = some c) :
    ∃ cl, closureFor scope env = pure cl ∧ (∀ x c, cl.lookup x = some c → env.cells.lookup x = some c) ∧ ∀ y ∈ scope.names, y.2 = .free → ∃ c, cl.lookup y.1 = some c := by
  obtain ⟨cl, e, h1, _, h3⟩ := closure_go (env := env) scope.names [] hf (fun _ h => nomatch h)
  refine ⟨cl, ?_, fun x c h => h1 (x, c) (PySem.mem_of_lookup h), fun y hy hyf => ?_⟩
  · unfold closureFor
    simp only [bind_pure_comp] at e ⊢
    rw [e]
    rfl
  · obtain ⟨c, hc⟩ := h3 y hy hyf
    cases q : cl.lookup y.1 with
    | some d => exact ⟨d, rfl⟩
    | none =>
      have z := List.lookup_eq_none_iff.mp q (y.1, c) hc
      simp at z

def cEnv (sc : Scope) (cl : List (Str × Addr)) (C : Addr) (env : Env) : Env :=
  { scope := sc, locals := C, globals := env.globals, cells := cl, qual := env.qual, func := none, code := env.code, frame := env.frame, builtins := env.builtins }
/-- the context of the block -/
def cCx (X : Cx) (sc : Scope) (N : List Str) (cl : List (Str × Addr)) (C : Addr) (s₀ : Shared) (H₀ : Hp) (ex : List Addr) : Cx :=
  { X with env := cEnv sc cl C X.env, N := N, s₀ := s₀, H₀ := H₀, outer := X.stack, ex := ex, fn := fun _ => false, pn := [], xe := fun _ _ => False }
/-- the block's names: new ones (none), and those of the def around it, by their slots there -/
def cst (ix : List (Option Nat)) (σ : St) : St := ix.map fun o => match o with
  | none => none
  | some i => match σ[i]? with
    | some v => v
    | none => none

def PIf (X : Cx) (ifs : List Expr) (t : TT) : Prop :=
  ∀ (pins : List (Addr × Obj)) (s : Shared) (σ : St) (H : Hp) (Q : Bool → Hp → Prop), Inv X pins σ H s → t σ H Q →
    wpAny (model X.prog X.w) X.A (forIn ifs true fun c r => if r = true then do let ok ← isTrue c X.env (eval c X.env); pure (ForInStep.yield ok) else pure (ForInStep.yield r)) (TP X pins σ Q) X.xe s
def tYes : TT := fun _ H Q => Q true H
theorem pif_nil {X : Cx} : PIf X [] tYes := fun _ _ _ H _ I h => wpAny_tests_nil ⟨H, I, h⟩
theorem pif_one {X : Cx} {c : Expr} {t : TT} (h : PT X c t) : PIf X [c] t := fun pins s σ H Q I q => wpAny_tests_one (h pins s σ H Q I q)

theorem codeAny_compLoop_any {prog : Program} {w : World} {A : Around} {R : Result → Shared → Prop} {s : Shared} {elt target iter : Expr} {ifs : List Expr} {scope : Scope} {pos : Pos} {it acc : Value} {env : Env} (I : Nat → Shared → Prop)
    (turn : ∀ n s, I n s → wpAny (model prog w) A (pyNext it) (fun r s₁ => match r with
      | none => R (.ok .next) s₁
      | some v => wpAny (model prog w) A (letOwnedTupleGo target it v) (fun _ s₀ => wpAny (model prog w) A (assign target env v) (fun _ s₂ =>
          wpAny (model prog w) A (forIn ifs true fun c r => if r = true then do let ok ← isTrue c env (eval c env); pure (ForInStep.yield ok) else pure (ForInStep.yield r)) (fun ok s₃ =>
            if ok = true then wpAny (model prog w) A (eval elt env) (fun x s₄ =>
              wpAny (model prog w) A (call (.builtin "list.append") [acc, x]) (fun _ s₅ => ∃ m, m < n ∧ I m s₅) (fun _ _ => False) s₄) (fun _ _ => False) s₃
            else ∃ m, m < n ∧ I m s₃) (fun _ _ => False) s₂) (fun _ _ => False) s₀) (fun _ _ => False) s₁) (fun _ _ => False) s)
    (n : Nat) (h : I n s) :
    codeAny (model prog w) A (.compLoop (.ListComp elt [⟨target, iter, ifs, 0⟩] scope pos) 0 it acc env) R s := by
  refine codeAny_loop rfl I (fun n s hI => ?_) n h
  show wpAny _ A ((compTurn (.ListComp elt [⟨target, iter, ifs, 0⟩] scope pos) 0 it acc env).onRaise (fun x => do noteFrame x env; theTreesLotGoes x)) _ _ s
  refine wpAny_noted ?_
  rw [compTurn_list]
  refine wpAny_bind (wpAny_standAt (wpAny_bind (wpAny_mono (turn n s hI) (fun r s₁ h₁ => ?_) fun _ _ h' => h'.elim)))
  cases r with
  | none => exact wpAny_pure h₁
  | some v =>
    refine wpAny_bind (wpAny_mono h₁ (fun _ s₀ h₀ => ?_) fun _ _ h' => h'.elim)
    refine wpAny_bind (wpAny_mono h₀ (fun _ s₂ h₂ => wpAny_bind (wpAny_mono h₂ (fun ok s₃ h₃ => ?_) fun _ _ h' => h'.elim)) fun _ _ h' => h'.elim)
    cases ok with
    | false => exact wpAny_pure ⟨rfl, h₃⟩
    | true =>
      exact wpAny_bind (wpAny_bind (wpAny_mono h₃ (fun x s₄ h₄ => wpAny_bind (wpAny_mono h₄ (fun _ s₅ h₅ => wpAny_pure (wpAny_pure ⟨rfl, h₅⟩)) fun _ _ h' => h'.elim)) fun _ _ h' => h'.elim))

/-- the block's loop (D: the new list; W: the invariant by the turn and a measure, over the block's names); a structure, so that nothing opens it by itself -/
structure CompK (ix : List (Option Nat)) (g : TG) (tc : TT) (te : TE) (σ : St) (Q : VK) (J : It) (H1 : Hp) : Prop where
  go : ∀ D, H1 D = none → ∃ W : Nat → Nat → St → Hp → Prop, (∃ m, W 0 m (cst ix σ) (upd H1 D (.lst []))) ∧
    ∀ i m σ' H', W i m σ' H' → (J.stop i H' ∧ Q (.ref D) H') ∨ (J.go i H' ∧ ∀ x H2, J.yld i H' x H2 → g x σ' H2 fun σ3 H3 => tc σ3 H3 fun b H4 =>
      if b = true then te σ3 H4 fun y H5 => ∃ ys, H5 D = some (.lst ys) ∧ ys.length < sizeLine ∧ ∃ m', m' < m ∧ W (i + 1) m' σ3 (upd H5 D (.lst (ys ++ [y])))
      else ∃ m', m' < m ∧ W (i + 1) m' σ3 H4)
def tComp (ix : List (Option Nat)) (wi : TI) (g : TG) (tc : TT) (te : TE) : TE := fun σ H Q => wi σ H fun J H1 => CompK ix g tc te σ Q J H1

structure CompOk (X : Cx) (scope sc : Scope) (N : List Str) (ix : List (Option Nat)) : Prop where
  rel : relabel scope X.env = sc
  kind : scope.kind = .function
  cell : ∀ y ∈ scope.names, y.2 ≠ .cell
  names : ∀ x ∈ scope.names, x.2 = .local → scope.names.lookup x.1 = some .local
  free : ∀ y ∈ scope.names, y.2 = .free → X.env.kindOf y.1 = some .cell ∨ X.env.kindOf y.1 = some .free
  len : N.length = ix.length
  ix : ∀ (j : Nat) (x : Str) (i : Nat), N[j]? = some x → ix[j]? = some (some i) → X.N[i]? = some x ∧ (x, NameKind.free) ∈ scope.names ∧ (sc.names.lookup x = some .cell ∨ sc.names.lookup x = some .free)
  has : ∀ x, (sc.names.lookup x = some .cell ∨ sc.names.lookup x = some .free) → (x, NameKind.free) ∈ scope.names

theorem comp_core {X : Cx} {tg iter elt : Expr} {ifs : List Expr} {scope sc : Scope} {pos ip : Pos} {wi : TI} {g : TG} {tc : TT} {te : TE} {N : List Str} {ix : List (Option Nat)} (O : CompOk X scope sc N ix) (hc : X.calm = true) (hi : PI X tg iter wi)
    (hb : ∀ cl C s₀ H₀ ex, PG (cCx X sc N cl C s₀ H₀ ex) tg g ∧ PIf (cCx X sc N cl C s₀ H₀ ex) ifs tc ∧ PE (cCx X sc N cl C s₀ H₀ ex) elt te) (hs : ∀ x, foldedSetIterable iter X.env x = pure x)
    {use : Option (Value → Sem Unit)} {QQ : Value → Shared → Prop} {pins : List (Addr × Obj)} {s : Shared} {σ : St} {H : Hp} {Q : VK} (I : Inv X pins σ H s) (h : tComp ix wi g tc te σ H Q)
    (fin : ∀ (D C : Addr) (s6 : Shared) (H5 : Hp) (m : Str → Option Value), Inv X pins σ H5 s6 → s6.heap.Ns C m → FpOk X pins H5 C → Q (.ref D) H5 → compPost (model X.prog X.w) X.A X.xe use QQ (.ref D) C (.ok .next) s6) :
    wpAny (model X.prog X.w) X.A (comprehension (.ListComp elt [⟨tg, iter, ifs, 0⟩] scope pos) scope X.env ip (newList []) false (eval iter X.env) use) QQ X.xe s := by
  have hcl : ∃ cl, closureFor scope X.env = pure cl ∧ (∀ x c, cl.lookup x = some c → X.env.cells.lookup x = some c) ∧ ∀ y ∈ scope.names, y.2 = .free → ∃ c, cl.lookup y.1 = some c :=
    closure_ok fun y hy hf => I.ok.has y.1 (O.free y hy hf)
  obtain ⟨cl, ecl, hcl1, hcl2⟩ := hcl
  refine wpAny_comprehension_free (use := use) rfl hs ecl O.kind O.names (thn (hi pins s σ H _ I h) fun v s1 h1 => thn h1 fun itv s2 h2 => ?_)
  obtain ⟨it, fp, tn, J, H2, e, I2, T, st2, f2, q2⟩ := h2
  subst e
  obtain ⟨W, ⟨m0, w0⟩, turn⟩ := q2.go s2.heap.objs.size I2.fresh
  -- the new list
  refine wpAny_newObj_type ?_
  have I3 := I2.lnew (its := []) (t' := s2.toks) (ys := []) .nil (Nat.zero_le _)
  generalize eH3 : upd H2 s2.heap.objs.size (.lst []) = H3 at I3 w0
  have eD : H3 s2.heap.objs.size = some (.lst []) := by rw [← eH3]; exact upd_same
  have hfp2 : ∀ b ∈ fp, b ≠ s2.heap.objs.size := fun b hb z => by
    obtain ⟨o, ho, _⟩ := T.obj _ _ st2 b hb
    exact absurd (Heap.lt_size ho) (by rw [z]; exact Nat.lt_irrefl _)
  have st3 : tn 0 (s2.heap.push { cls := .type "list", dict := none, data := .seq ([] : List Value).toArray }) := T.keep _ _ _ st2 fun b _ o e => Heap.get?_push_of_some _ e
  have f3 : ∀ b ∈ fp, FpOk X pins H3 b := fun b hb => ⟨by rw [← eH3, upd_ne (hfp2 b hb)]; exact (f2 b hb).1, (f2 b hb).2⟩
  generalize es3 : ({ s2 with heap := s2.heap.push { cls := .type "list", dict := none, data := .seq ([] : List Value).toArray }, toks := s2.toks } : Shared) = s3 at I3
  have st3' : tn 0 s3.heap := by rw [← es3]; exact st3
  -- the block's frame
  refine wpAny_newFunctionEnv O.cell (fun y hy => nomatch hy) (fun h4 hns4 hsb4 => ?_) O.kind
  have keep4 : ∀ b o, s3.heap.get? b = some o → h4.get? b = some o := fun b o e => (hsb4.2 b (Nat.ne_of_lt (Heap.lt_size e))).trans (Heap.get?_push_of_some _ e)
  have I4 : Inv X pins σ H3 { s3 with heap := h4, toks := s3.toks + ([] : List (Str × Value)).length } := I3.kept keep4
  have eenv : ({ newEnv scope s3.heap.objs.size X.env.globals cl X.env.qual none .none (some X.env) builtinsNs with scope := relabel scope X.env } : Env) = cEnv sc cl s3.heap.objs.size X.env := by rw [O.rel]; rfl
  rw [eenv]
  show codeAny _ _ _ (compPost (model X.prog X.w) X.A X.xe use QQ (.ref s2.heap.objs.size) s3.heap.objs.size) _
  generalize eC : s3.heap.objs.size = C
  generalize es4 : ({ s3 with heap := h4, toks := s3.toks + ([] : List (Str × Value)).length } : Shared) = s4 at I4
  have h4s : s4.heap = h4 := by rw [← es4]
  have o4s : s4.os = s3.os := by rw [← es4]
  have fC : ∀ b ∈ fp, b ≠ C := fun b hb z => by
    obtain ⟨o, ho, _⟩ := T.obj _ _ st3' b hb
    exact absurd (Heap.lt_size ho) (by rw [z, eC]; exact Nat.lt_irrefl _)
  have okC : (cCx X sc N cl C s3 H3 fp).Ok := by
    refine ⟨I3.ok.mod, ?_, I3.ok.glob, I3.ok.blt, Nat.le_of_eq eC, fun x y c h1 h2 => I3.ok.inj x y c (hcl1 x c h1) (hcl1 y c h2), fun x hx => ?_, fun x c z _ => (nomatch z), I3.ok.hd, I3.ok.frames, .inl rfl, fun b hb => ⟨fC b hb, fun x c e => (f3 b hb).2.2.2.2.1 x c (hcl1 x c e)⟩,
      I3.bs, Nat.le_trans I3.ok.bsz I3.sz, fun b o e hb => ?_, fun b hb z => ?_, I3.stack, I3.stkFree⟩
    · show sc.kind = .function
      rw [← O.rel]; exact O.kind
    · exact hcl2 (x, .free) (O.has x hx) rfl
    · rcases (f3 b hb).2.2.2.1 with z | z
      · exact I3.ok.noex b o e z
      · exact absurd (Nat.lt_of_lt_of_le (Heap.lt_size e) (Nat.le_trans I3.ok.bsz z)) (Nat.lt_irrefl _)
    · rcases List.mem_cons.mp (I3.stkSub b z) with z | z
      · exact (f3 b hb).2.1 z
      · exact (f3 b hb).2.2.1 z
  have IC : Inv (cCx X sc N cl C s3 H3 fp) [] (cst ix σ) H3 s4 := by
    refine ⟨okC, o4s, I4.bare, ?_, ?_, fun x c e => I4.cell x c (hcl1 x c e), ?_, fun x c e => I4.freeC x c (hcl1 x c e), fun p hp => (nomatch hp), I4.hok, ?_⟩
    · rw [h4s]
      exact Un.kept keep4
    · refine ⟨_, by rw [h4s, ← eC]; exact hns4, fun j x v e1 e2 e3 => ?_⟩
      have e2' : (cst ix σ)[j]? = some (some v) := e2
      unfold cst at e2'
      rw [List.getElem?_map] at e2'
      cases q : ix[j]? with
      | none => rw [q] at e2'; cases e2'
      | some o =>
        rw [q] at e2'
        cases o with
        | none => cases e2'
        | some i =>
          obtain ⟨hx, hm, hsc⟩ := O.ix j x i e1 q
          cases q2 : σ[i]? with
          | none => simp [q2] at e2'
          | some w' =>
            simp [q2] at e2'
            subst e2'
            obtain ⟨m, hn, hl⟩ := I4.loc
            have kf := O.free (x, .free) hm rfl
            have vis : Vis X.env.scope x := by
              rcases kf with k | k
              · exact .inr (.inl k)
              · exact .inr (.inr k)
            obtain ⟨u, r, l⟩ := hl i x v hx q2 vis
            refine ⟨u, r, ?_⟩
            rcases l with ⟨k, _⟩ | ⟨_, c, e, z⟩
            · rcases kf with k' | k'
              · rw [k] at k'; cases k'
              · rw [k] at k'; cases k'
            · obtain ⟨c', e'⟩ := hcl2 (x, .free) hm rfl
              have := hcl1 x c' e'
              rw [e] at this; cases this
              exact .inr ⟨hsc, c, e', z⟩
    · rw [← eC]
      exact I3.fresh
    · show (cst ix σ).length = N.length
      rw [O.len]; simp [cst]
  have st4 : tn 0 s4.heap := T.keep _ _ _ st3' fun b _ o e => by rw [h4s]; exact keep4 b o e
  have stat : ∀ {H' : Hp}, (∀ b ∈ fp, H' b = none) → ∀ b ∈ fp, FpOk (cCx X sc N cl C s3 H3 fp) [] H' b := fun hn b hb =>
    ⟨hn b hb, fC b hb, okC.exfs b hb, .inl hb, fun x c e => (f3 b hb).2.2.2.2.1 x c (hcl1 x c e), fun p hp => (nomatch hp)⟩
  obtain ⟨hg, ht, he⟩ := hb cl C s3 H3 fp
  -- the loop
  have loop : codeAny (model X.prog X.w) X.A (.compLoop (.ListComp elt [⟨tg, iter, ifs, 0⟩] scope pos) 0 (.ref it) (.ref s2.heap.objs.size) (cEnv sc cl C X.env))
      (compPost (model X.prog X.w) X.A X.xe use QQ (.ref s2.heap.objs.size) C) s4 := by
    refine codeAny_compLoop_any (fun n s' => ∃ i σ' H', Inv (cCx X sc N cl C s3 H3 fp) [] σ' H' s' ∧ tn i s'.heap ∧ (∀ b ∈ fp, H' b = none) ∧ W i n σ' H') ?_ m0 ⟨0, cst ix σ, H3, IC, st4, fun b hb => (f3 b hb).1, w0⟩
    rintro n s5 ⟨i, σ5, H5, I5, st5, fr5, w5⟩
    rcases turn i n σ5 H5 w5 with ⟨stop, qn⟩ | ⟨go, step⟩
    · refine thn (T.done (cCx X sc N cl C s3 H3 fp) rfl rfl rfl hc i [] s5 σ5 H5 (fun _ _ => False) I5 (stat fr5) st5 stop) fun r s6 ⟨hr, I6⟩ => ?_
      subst hr
      obtain ⟨m, hn, _⟩ := id I6.loc
      have I7 : Inv X pins σ H5 s6 := I3.call' (ch := fp) I6.os I6.base I6.hok I6.bare fun b hb => ⟨(f3 b hb).2.2.2.1, (f3 b hb).2.1, (f3 b hb).2.2.2.2.1, (f3 b hb).2.2.2.2.2⟩
      exact fin _ C s6 H5 m I7 hn (I3.fpOk (Nat.le_of_eq eC) I6.free) qn
    · refine thn (T.item (cCx X sc N cl C s3 H3 fp) rfl rfl rfl hc i [] s5 σ5 H5 (fun _ _ => False) I5 (stat fr5) st5 go) fun r s6 ⟨u, hr, h6⟩ => ?_
      subst hr
      refine thn h6 fun _ s7 ⟨x, H7, I7, r7, y7, st7, fr7⟩ => ?_
      have I7' := I7.pinned (stat fr7) (T.obj _ _ st7)
      have again : ∀ {σ9 : St} {H9 : Hp} {s9 : Shared} {m' : Nat}, Inv (cCx X sc N cl C s3 H3 fp) ([] ++ pinsAt fp s7.heap) σ9 H9 s9 → m' < n → W (i + 1) m' σ9 H9 →
          ∃ m, m < n ∧ ∃ i σ' H', Inv (cCx X sc N cl C s3 H3 fp) [] σ' H' s9 ∧ tn i s9.heap ∧ (∀ b ∈ fp, H' b = none) ∧ W i m σ' H' := fun {σ9 H9 s9 m'} I9 hm w9 => by
        refine ⟨m', hm, i + 1, σ9, H9, I9.unpinned, T.keep _ _ _ st7 fun b hb o e => (I9.pin (b, o) (List.mem_append_right _ (List.mem_append_right _ (mem_pinsAt hb e)))).1, fun b hb => ?_, w9⟩
        obtain ⟨o, e, d⟩ := T.obj _ _ st7 b hb
        exact (I9.pin (b, o) (List.mem_append_right _ (List.mem_append_right _ (mem_pinsAt hb e)))).2.1
      refine thn (hg _ s7 σ5 H7 x u _ I7' r7 (step x H7 y7)) fun _ s8 ⟨σ8, H8, I8, q8⟩ => ?_
      refine thn (ht _ s8 σ8 H8 _ I8 q8) fun b s9 ⟨H9, I9, q9⟩ => ?_
      cases b with
      | false =>
        rw [if_neg Bool.false_ne_true] at q9
        obtain ⟨m', hm, w9⟩ := q9
        rw [if_neg Bool.false_ne_true]
        exact again I9 hm w9
      | true =>
        rw [if_pos rfl] at q9
        rw [if_pos rfl]
        refine thn (he _ s9 σ8 H9 _ I9 q9) fun y s10 ⟨yv, H10, I10, r10, ys, e10, z10, m', hm, w10⟩ => ?_
        refine thn (mt_append _ s10 σ8 H10 (.ref s2.heap.objs.size) [yv] (.ref s2.heap.objs.size) [y] (fun _ H' => W (i + 1) m' σ8 H') I10 rfl (.cons r10 .nil) ⟨_, ys, yv, rfl, rfl, e10, z10, w10⟩) fun _ s11 ⟨_, H11, I11, _, w11⟩ => ?_
        exact again I11 hm w11
  exact codeAny_compStart_list loop (T.self _ _ _ _ _ st4 loop)
theorem pe_comp {X : Cx} {tg iter elt : Expr} {ifs : List Expr} {scope sc : Scope} {pos : Pos} {wi : TI} {g : TG} {tc : TT} {te : TE} {N : List Str} {ix : List (Option Nat)} (O : CompOk X scope sc N ix) (hc : X.calm = true) (hi : PI X tg iter wi)
    (hb : ∀ cl C s₀ H₀ ex, PG (cCx X sc N cl C s₀ H₀ ex) tg g ∧ PIf (cCx X sc N cl C s₀ H₀ ex) ifs tc ∧ PE (cCx X sc N cl C s₀ H₀ ex) elt te)
    (hs : ∀ x, foldedSetIterable iter X.env x = pure x := by intro _; rfl) : PE X (.ListComp elt [⟨tg, iter, ifs, 0⟩] scope pos) (tComp ix wi g tc te) := by
  intro pins s σ H Q I h
  rw [eval_ListComp]
  exact comp_core (use := none) (QQ := EP X pins σ Q) O hc hi hb hs I h fun D C s6 H5 m I7 hn f q => ⟨m, hn, fun h' hs' => ⟨.ref D, H5, I7.turned (it := C) (t' := s6.toks) (fun b o hb e => (hs'.2 b hb).trans e) f.1 f.2.1 f.2.2.2.1 f.2.2.2.2.1 f.2.2.2.2.2, rfl, q⟩⟩
/-- name = [..] in one row: stored before the block's names go -/
theorem ps_setC {X : Cx} {i : Nat} {y : Str} {py spos : Pos} {tg iter elt : Expr} {ifs : List Expr} {scope sc : Scope} {pos : Pos} {wi : TI} {g : TG} {tc : TT} {te : TE} {N : List Str} {ix : List (Option Nat)} (hN : X.N.Nodup) (hi' : X.N[i]? = some y) (hx : Loc X.env.scope y)
    (O : CompOk X scope sc N ix) (hc : X.calm = true) (hi : PI X tg iter wi)
    (hb : ∀ cl C s₀ H₀ ex, PG (cCx X sc N cl C s₀ H₀ ex) tg g ∧ PIf (cCx X sc N cl C s₀ H₀ ex) ifs tc ∧ PE (cCx X sc N cl C s₀ H₀ ex) elt te)
    (hs : ∀ x, foldedSetIterable iter X.env x = pure x := by intro _; rfl) (hsw : swapsWith (.ListComp elt [⟨tg, iter, ifs, 0⟩] scope pos) (some (.Name y py)) spos.line X.env = pure true := by rfl)
    (hf : X.fn y = true ∨ X.env.scope.names.lookup y = some .local := by first | exact .inl rfl | exact .inr rfl | assumption) :
    PS X (.Assign [.Name y py] (.ListComp elt [⟨tg, iter, ifs, 0⟩] scope pos) spos) (tAsg (tComp ix wi g tc te) (gName i)) := by
  intro pins s σ H D I h
  rw [exec_Assign_Name_used _ _ _ _ hsw]
  refine wpAny_bind (wpAny_standAt (wpAny_bind ?_))
  show wpAny _ X.A (do let _ ← comprehension (.ListComp elt [⟨tg, iter, ifs, 0⟩] scope pos) scope X.env _ (newList []) false (eval iter X.env) (some (assign (.Name y py) X.env))) _ _ s
  refine wpAny_bind (wpAny_mono (comp_core (use := some (assign (.Name y py) X.env)) (QQ := fun _ s' => ∃ σ' H', Inv X pins σ' H' s' ∧ D.nx σ' H') O hc hi hb hs I h fun D1 C s6 H5 m I7 hn f q => ?_) (fun _ s' ⟨σ', H', I', q'⟩ => wpAny_pure (wpAny_pure ⟨σ', H', I', q'⟩)) fun _ _ e => e)
  obtain ⟨o, es, ep, ho, hc1, hc2⟩ := id hn
  have I8 := I7.pinned (fp := [C]) (fun b hb => by
    have e : b = C := by simpa using hb
    subst e; exact f) (fun b hb => by
    have e : b = C := by simpa using hb
    subst e; exact ⟨o, ho, fun v z => by first | (rw [hc1.2] at z; cases z) | (rw [hc2.1] at z; cases z) | (rw [hc1] at z; cases z) | (simp_all)⟩)
  show wpAny _ X.A (assign (.Name y py) X.env (.ref D1)) _ _ _
  refine wpAny_assign_Name (store_ok I8 hN hi' hx (v := .ref D1) rfl (fun s7 I9 => ?_) hf)
  have hC := (I9.pin (C, o) (List.mem_append_right _ (List.mem_append_right _ (mem_pinsAt (by simp) ho)))).1
  refine ⟨m, ⟨o, es, ep, hC, hc1, hc2⟩, fun h' hs' => ⟨_, H5, I9.unpinned.turned (it := C) (t' := s7.toks) (fun b o hb e => (hs'.2 b hb).trans e) f.1 f.2.1 f.2.2.2.1 f.2.2.2.2.1 f.2.2.2.2.2, q⟩⟩
end L2
namespace L2
open PySem PySem.Spec PyProof.Rows

/-! ### values read as data -/
mutual
inductive RdD (K : PySem.W.Frag) (H : Hp) : V → PyData → Prop
  | non : RdD K H .non .none
  | bl (b : Bool) : RdD K H (.bl b) (.bool b)
  | int (i : Int) : RdD K H (.int i) (.int i)
  | str (x : Str) : RdD K H (.str x) (.str x)
  | lst {a : Addr} {xs : List V} {ds : List PyData} : SqL K H a xs → RdDs K H xs ds → RdD K H (.ref a) (.list ds)
  | tup {a : Addr} {xs : List V} {ds : List PyData} : SqT K H a xs → RdDs K H xs ds → RdD K H (.ref a) (.tuple ds)
inductive RdDs (K : PySem.W.Frag) (H : Hp) : List V → List PyData → Prop
  | nil : RdDs K H [] []
  | cons {x : V} {d : PyData} {xs : List V} {ds : List PyData} : RdD K H x d → RdDs K H xs ds → RdDs K H (x :: xs) (d :: ds)
end
section
variable {X : Cx} {pins : List (Addr × Obj)} {σ : St} {H : Hp} {s : Shared}
mutual
theorem Inv.reads (I : Inv X pins σ H s) : ∀ {x : V} {d : PyData} {u : Value}, RdD X.K H x d → RelV x u → ∃ as, Reads s.heap u d as
  | _, _, _, .non, r => by cases r; exact ⟨_, .none⟩
  | _, _, _, .bl b, r => by cases r; exact ⟨_, .bool b⟩
  | _, _, _, .int i, r => by obtain ⟨t, rfl⟩ := r; exact ⟨_, .int i t⟩
  | _, _, _, .str x, r => by obtain ⟨t, rfl⟩ := r; exact ⟨_, .str x t⟩
  | _, _, _, .lst hq hs, r => by
    cases r
    obtain ⟨its, rv, pl, _⟩ := I.list hq
    obtain ⟨as, ra⟩ := Inv.readsAll I hs rv
    obtain ⟨o, ho, hc, n, hd⟩ := pl.isList
    exact ⟨_, .list ho hc hd (by simpa using ra)⟩
  | _, _, _, .tup hq hs, r => by
    cases r
    obtain ⟨its, rv, pl, _⟩ := I.tuple hq
    obtain ⟨as, ra⟩ := Inv.readsAll I hs rv
    obtain ⟨o, ho, hc, n, hd⟩ := pl
    exact ⟨_, .tuple ho hc hd (by simpa using ra)⟩
theorem Inv.readsAll (I : Inv X pins σ H s) : ∀ {xs : List V} {ds : List PyData} {us : List Value}, RdDs X.K H xs ds → Vals xs us → ∃ as, ReadsAll s.heap us ds as
  | _, _, _, .nil, .nil => ⟨_, .nil⟩
  | _, _, _, .cons h1 h2, .cons r1 r2 => by
    obtain ⟨as, a⟩ := Inv.reads I h1 r1
    obtain ⟨bs, b⟩ := Inv.readsAll I h2 r2
    exact ⟨_, .cons a b⟩
end
/-! ### dicts of flat values -/
def dictHits (kb : List (Key × V)) : List (Key × V) → Bool
  | [] => true
  | (k, v) :: r => match valV kb k with
    | none => false
    | some y => eqV v y && dictHits kb r
theorem hits_of {A : Around} {kb : List (Key × V)} {vb : List (Key × Value)} (hb : KV kb vb) (fb : kb.all (fun p => flatV p.2) = true) : ∀ {ka : List (Key × V)} {va : List (Key × Value)}, KV ka va → ka.all (fun p => flatV p.2) = true →
    PySem.W.KeqHits A s vb va (dictHits kb ka)
  | [], _, .nil, _ => .nil
  | (k, v) :: r, (k', v') :: r', .cons ⟨e, rv⟩ t, f => by
    cases (show k = k' from e)
    rw [List.all_cons, Bool.and_eq_true] at f
    have hv := KV.val hb k
    cases q : valV kb k with
    | none =>
      have hn : valueAt vb k = none := RelO.none_of (by rw [q] at hv; exact hv)
      have e2 : dictHits kb ((k, v) :: r) = false := by simp [dictHits, q]
      rw [e2]
      exact .miss hn
    | some y =>
      rw [q] at hv
      obtain ⟨u, hu, ru⟩ := RelO.some_of hv
      have fy : flatV y = true := by
        unfold valV at q
        cases q2 : kb.find? (fun kv => decide (kv.1 = k)) with
        | none => rw [q2] at q; cases q
        | some p =>
          rw [q2] at q; cases q
          exact List.all_eq_true.mp fb p (List.mem_of_find?_eq_some q2)
      have e2 : dictHits kb ((k, v) :: r) = (eqV v y && dictHits kb r) := by simp [dictHits, q]
      rw [e2]
      exact .hit hu (eqAt_V rv ru f.1 fy) (hits_of hb fb t f.2)
end

section
variable {X : Cx}
def rEqV (K : PySem.W.Frag) (g : Bool → Bool) : R2 := fun x y H Q => match x, y with
  | .int i, .int j => Q (.bl (g (decide (i = j)))) H
  | .bl i, .bl j => Q (.bl (g (decide (i = j)))) H
  | .str i, .str j => Q (.bl (g (decide (i = j)))) H
  | .non, .non => Q (.bl (g true)) H
  | .ref a, .ref b => (∃ d e, RdD K H (.ref a) d ∧ RdD K H (.ref b) e ∧ SeqAt.shaped d = true ∧ SeqAt.shaped e = true ∧ Q (.bl (g (PyData.eqv d e))) H) ∨
      (∃ ka kb, H a = some (.dK ka) ∧ H b = some (.dK kb) ∧ ka.all (fun p => flatV p.2) = true ∧ kb.all (fun p => flatV p.2) = true ∧ Q (.bl (g (ka.length == kb.length && dictHits kb ka))) H)
  | .non, .ref _ => False
  | .ref _, .non => False
  | x, y => scal x y = true ∧ Q (.bl (g (decide (x = y)))) H
theorem op_eqD {k : Nat} (hr : Room k X.A) : OpR X (compareOp .Eq) (fun x y H Q => ∃ d e, RdD X.K H x d ∧ RdD X.K H y e ∧ SeqAt.shaped d = true ∧ SeqAt.shaped e = true ∧ Q (.bl (PyData.eqv d e)) H) := by
  intro pins s σ H x y v u Q I rx ry h
  obtain ⟨d, e, h1, h2, h3, h4, q⟩ := h
  obtain ⟨as, ra⟩ := I.reads h1 rx
  obtain ⟨bs, rb⟩ := I.reads h2 ry
  exact eq_dataH ra rb h3 h4 hr.units ⟨.bl _, H, I, rfl, q⟩
theorem op_neD {k : Nat} (hr : Room k X.A) : OpR X (compareOp .NotEq) (fun x y H Q => ∃ d e, RdD X.K H x d ∧ RdD X.K H y e ∧ SeqAt.shaped d = true ∧ SeqAt.shaped e = true ∧ Q (.bl (!PyData.eqv d e)) H) := by
  intro pins s σ H x y v u Q I rx ry h
  obtain ⟨d, e, h1, h2, h3, h4, q⟩ := h
  obtain ⟨as, ra⟩ := I.reads h1 rx
  obtain ⟨bs, rb⟩ := I.reads h2 ry
  exact ne_dataH ra rb h3 h4 hr.units ⟨.bl _, H, I, rfl, q⟩
theorem op_eqK {k : Nat} (hr : Room k X.A) : OpR X (compareOp .Eq) (fun x y H Q => ∃ a b ka kb, x = .ref a ∧ y = .ref b ∧ H a = some (.dK ka) ∧ H b = some (.dK kb) ∧ ka.all (fun p => flatV p.2) = true ∧ kb.all (fun p => flatV p.2) = true ∧ Q (.bl (ka.length == kb.length && dictHits kb ka)) H) := by
  intro pins s σ H x y v u Q I rx ry h
  obtain ⟨a, b, ka, kb, rfl, rfl, h1, h2, h3, h4, q⟩ := h
  cases rx; cases ry
  obtain ⟨_, ea, va, ra, da⟩ : ka.length ≤ sizeLine ∧ (a == sysModules) = false ∧ ∃ vs, KV ka vs ∧ s.heap.DictOf (mixKind X.prog X.w) a vs := I.hok a _ h1
  obtain ⟨_, eb, vb, rb, db⟩ : kb.length ≤ sizeLine ∧ (b == sysModules) = false ∧ ∃ vs, KV kb vs ∧ s.heap.DictOf (mixKind X.prog X.w) b vs := I.hok b _ h2
  refine PySem.W.keq_eq ea eb da db hr.units0 (fun _ => hits_of rb h4 ra h3) ⟨.bl _, H, I, ?_, q⟩
  show _ = Value.bool _
  rw [Paired.length ra, Paired.length rb]
theorem op_neK {k : Nat} (hr : Room k X.A) : OpR X (compareOp .NotEq) (fun x y H Q => ∃ a b ka kb, x = .ref a ∧ y = .ref b ∧ H a = some (.dK ka) ∧ H b = some (.dK kb) ∧ ka.all (fun p => flatV p.2) = true ∧ kb.all (fun p => flatV p.2) = true ∧ Q (.bl (!(ka.length == kb.length && dictHits kb ka))) H) := by
  intro pins s σ H x y v u Q I rx ry h
  obtain ⟨a, b, ka, kb, rfl, rfl, h1, h2, h3, h4, q⟩ := h
  cases rx; cases ry
  obtain ⟨_, ea, va, ra, da⟩ : ka.length ≤ sizeLine ∧ (a == sysModules) = false ∧ ∃ vs, KV ka vs ∧ s.heap.DictOf (mixKind X.prog X.w) a vs := I.hok a _ h1
  obtain ⟨_, eb, vb, rb, db⟩ : kb.length ≤ sizeLine ∧ (b == sysModules) = false ∧ ∃ vs, KV kb vs ∧ s.heap.DictOf (mixKind X.prog X.w) b vs := I.hok b _ h2
  refine PySem.W.keq_ne ea eb da db hr.units0 (fun _ => hits_of rb h4 ra h3) ⟨.bl _, H, I, ?_, q⟩
  show _ = Value.bool _
  rw [Paired.length ra, Paired.length rb]
theorem dec_i {i j : Int} : decide (V.int i = V.int j) = decide (i = j) := by simp
theorem dec_b {i j : Bool} : decide (V.bl i = V.bl j) = decide (i = j) := by simp
theorem dec_s {i j : Str} : decide (V.str i = V.str j) = decide (i = j) := by simp
theorem v_eq {k : Nat} (hr : Room k X.A) : OpR X (compareOp .Eq) (rEqV X.K id) := by
  refine (op_eq.or ((op_eqD hr).or (op_eqK hr))).imp fun x y H Q h => ?_
  unfold rEqV at h
  split at h
  · exact .inl ⟨rfl, by rw [dec_i]; exact h⟩
  · exact .inl ⟨rfl, by rw [dec_b]; exact h⟩
  · exact .inl ⟨rfl, by rw [dec_s]; exact h⟩
  · exact .inl ⟨rfl, by rw [decide_eq_true rfl]; exact h⟩
  · rcases h with ⟨d, e, h⟩ | ⟨ka, kb, h⟩
    · exact .inr (.inl ⟨d, e, h⟩)
    · exact .inr (.inr ⟨_, _, ka, kb, rfl, rfl, h⟩)
  · exact h.elim
  · exact h.elim
  · exact .inl h
theorem v_ne {k : Nat} (hr : Room k X.A) : OpR X (compareOp .NotEq) (rEqV X.K not) := by
  refine (op_ne.or ((op_neD hr).or (op_neK hr))).imp fun x y H Q h => ?_
  unfold rEqV at h
  split at h
  · exact .inl ⟨rfl, by rw [dec_i]; exact h⟩
  · exact .inl ⟨rfl, by rw [dec_b]; exact h⟩
  · exact .inl ⟨rfl, by rw [dec_s]; exact h⟩
  · exact .inl ⟨rfl, by rw [decide_eq_true rfl]; exact h⟩
  · rcases h with ⟨d, e, h⟩ | ⟨ka, kb, h⟩
    · exact .inr (.inl ⟨d, e, h⟩)
    · exact .inr (.inr ⟨_, _, ka, kb, rfl, rfl, h⟩)
  · exact h.elim
  · exact h.elim
  · exact .inl h
end
end L2

/-! ### an int against a dict; «in» a list of ints, of any thing -/
namespace PySem.SeqAt
open AutoSeq1 (wpAny_loadPart')
open MeetsSeq MeetsSeq2 MeetsSeq3 SeqRoads2
section
variable {A : Around} {s : Shared}
end
end PySem.SeqAt
namespace L2
open PySem PySem.Spec PyProof.Rows
section
variable {X : Cx}
end

/-! ### names of built-ins -/
theorem boot_isinstance : bootBuiltins "isinstance" = some (.builtin "isinstance") := by decide +kernel
theorem boot_sum : bootBuiltins "sum" = some (.builtin "sum") := by decide +kernel
theorem boot_max : bootBuiltins "max" = some (.builtin "max") := by decide +kernel
theorem boot_int : bootBuiltins "int" = some (.type "int") := by decide +kernel
theorem boot_bool : bootBuiltins "bool" = some (.type "bool") := by decide +kernel
theorem boot_tuple : bootBuiltins "tuple" = some (.type "tuple") := by decide +kernel
theorem boot_list : bootBuiltins "list" = some (.type "list") := by decide +kernel

/-! ### a def's facts at the top -/
structure Fn (K : PySem.W.Frag) (mg : Str → Option Value) (x : Str) (st : Stmt) (ps : List Str) : Prop where
  ex : ∃ (f : Addr) (fd : FuncData), Fun K x x st f fd ∧ mg x = some (.ref f) ∧ Binds K fd ps []
/-- the rule for a def, in one piece -/
theorem Fn.cal {P : Program} {w : World} {K : PySem.W.Frag} {mg : Str → Option Value} {base : Heap} {x : Str} {st : Stmt} {N ps : List Str} {k : Nat} {sp : Sp} (F : Fn K mg x st ps) (S : FnScope N ps (defScope st)) (len : ∀ vs H Q E, sp vs H Q E → vs.length = ps.length)
    (hbody : ∀ (f : Addr) (cdv : Value) (A : Around) (outer : List Env) (s : Shared) (H : Hp) (vs : List V) (Q : VK) (E : XK), Room k (A.deeper (envOfC x (defScope st) s.heap.objs.size f cdv)) → sp vs H Q E →
      ∃ t, PSs (cxF P w K mg base N x (defScope st) f cdv A outer s H E).nox (defBody st) t ∧ t { nx := fun _ H' => Q .non H', rt := Q } (start N vs) H) : Cal P w K mg base x (k + 1) ps sp := by
  obtain ⟨f, fd, F, m, b⟩ := F.ex
  exact ⟨f, fd, m, F.kp, b, F.okN S len fun cdv A outer s H vs Q E hr h => hbody f cdv A outer s H vs Q E hr h⟩
theorem Fn.calF {P : Program} {w : World} {K : PySem.W.Frag} {mg : Str → Option Value} {base : Heap} {x : Str} {st : Stmt} {N ps : List Str} {k : Nat} {sp : Sp} (F : Fn K mg x st ps) (S : FnScope N ps (defScope st)) (len : ∀ vs H Q E, sp vs H Q E → vs.length = ps.length)
    (hbody : ∀ (f : Addr) (cdv : Value) (A : Around) (outer : List Env) (s : Shared) (H : Hp) (vs : List V) (Q : VK) (E : XK), Room k (A.deeper (envOfC x (defScope st) s.heap.objs.size f cdv)) → sp vs H Q E →
      ∃ t, PSs (cxF P w K mg base N x (defScope st) f cdv A outer s H E) (defBody st) t ∧ t { nx := fun _ H' => Q .non H', rt := Q } (start N vs) H) : Cal P w K mg base x (k + 1) ps sp := by
  obtain ⟨f, fd, F, m, b⟩ := F.ex
  exact ⟨f, fd, m, F.kp, b, F.okF S len fun cdv A outer s H vs Q E hr h => hbody f cdv A outer s H vs Q E hr h⟩
theorem Same.new {H : Hp} {p : Addr} (h : H p = none) (o : HO) : Same H (upd H p o) := fun b u q => by rw [upd_ne (ne_of_none q h)]; exact q
theorem Same.upd {H H' : Hp} {p : Addr} (g : Same H H') (h : H p = none) (o : HO) : Same H (L2.upd H' p o) := fun b u q => by rw [upd_ne (ne_of_none q h)]; exact g b u q
theorem Same.seqT {K : PySem.W.Frag} {H H' : Hp} {a : Addr} {xs : List V} (e : Same H H') (h : SqT K H a xs) : SqT K H' a xs := by
  rcases h with (h | ⟨o, h⟩) | h
  · exact .inl (.inl (e _ _ h))
  · exact .inl (.inr ⟨o, e _ _ h⟩)
  · exact .inr h
theorem mulL {i j : Int} (h1 : -(2 ^ 64) < i) (h2 : i < 2 ^ 64) : IntMulOk i j := .of_left (intBits_le_64 h1 h2)
theorem mulR {i j : Int} (h1 : -(2 ^ 64) < j) (h2 : j < 2 ^ 64) : IntMulOk i j := .of_right (intBits_le_64 h1 h2)
/-- a comprehension's facts: each part by computing -/
theorem comp_mk {X : Cx} {scope sc : Scope} {N : List Str} {ix : List (Option Nat)} (sc' : relabel scope X.env = sc) (kind : scope.kind = .function) (cell : scope.names.all (fun y => y.2 != .cell) = true)
    (names : scope.names.all (fun x => x.2 != .local || scope.names.lookup x.1 == some .local) = true)
    (free : scope.names.all (fun y => y.2 != .free || (X.env.scope.names.lookup y.1 == some .cell || X.env.scope.names.lookup y.1 == some .free)) = true)
    (len : N.length = ix.length)
    (hix : (N.zip ix).all (fun p => match p.2 with
      | none => true
      | some i => X.N[i]? == some p.1 && scope.names.any (fun y => y.1 == p.1 && y.2 == .free) && (sc.names.lookup p.1 == some .cell || sc.names.lookup p.1 == some .free)) = true)
    (has : sc.names.all (fun y => (y.2 != .cell && y.2 != .free) || scope.names.any (fun z => z.1 == y.1 && z.2 == .free)) = true) : CompOk X scope sc N ix := by
  have mem : ∀ x : Str, scope.names.any (fun y => y.1 == x && y.2 == .free) = true → (x, NameKind.free) ∈ scope.names := fun x h => by
    obtain ⟨y, hy, e⟩ := List.any_eq_true.mp h
    rw [Bool.and_eq_true] at e
    obtain ⟨a, b⟩ := y
    have e1 : a = x := eq_of_beq e.1
    have e2 : b = .free := eq_of_beq e.2
    subst e1; subst e2
    exact hy
  refine ⟨sc', kind, fun y hy e => ?_, fun x hx e => ?_, fun y hy e => ?_, len, fun j x i h1 h2 => ?_, fun x hx => ?_⟩
  · have := List.all_eq_true.mp cell y hy
    rw [e] at this; cases this
  · have := List.all_eq_true.mp names x hx
    rw [e] at this
    simpa using this
  · have := List.all_eq_true.mp free y hy
    rw [e] at this
    simpa [Env.kindOf] using this
  · have hm : (x, some i) ∈ N.zip ix := by
      have : (N.zip ix)[j]? = some (x, some i) := by
        rw [List.getElem?_zip_eq_some]
        exact ⟨h1, h2⟩
      exact List.mem_of_getElem? this
    have := List.all_eq_true.mp hix _ hm
    simp only [Bool.and_eq_true] at this
    obtain ⟨⟨a1, a2⟩, a3⟩ := this
    refine ⟨eq_of_beq a1, mem x a2, ?_⟩
    rw [Bool.or_eq_true] at a3
    rcases a3 with z | z
    · exact .inl (eq_of_beq z)
    · exact .inr (eq_of_beq z)
  · have hm : ∃ k, (x, k) ∈ sc.names ∧ (k = .cell ∨ k = .free) := by
      rcases hx with z | z
      · exact ⟨_, PySem.mem_of_lookup z, .inl rfl⟩
      · exact ⟨_, PySem.mem_of_lookup z, .inr rfl⟩
    obtain ⟨k, hk, e⟩ := hm
    have := List.all_eq_true.mp has _ hk
    rw [Bool.or_eq_true] at this
    rcases this with z | z
    · rcases e with e | e <;> (subst e; simp at z)
    · exact mem x z
end L2
namespace L2
open PySem PySem.Spec PyProof.Rows
/-- a def as the top has written it -/
structure FnIn (K : PySem.W.Frag) (x : Str) (st : Stmt) : Prop where
  ex : ∃ (f : Addr) (oc : Value) (od : Option Addr) (kV doc pm : Value) (an : Option Addr) (cdv ct : Value) (sl : Array (Option Value)), PySem.W.nsIn K mainGlobals x = some (some (.ref f)) ∧
    K.lookup f = some ⟨oc, od, .func (PySem.W.fnOf x x (defArgs st) (defBody st) (defScope st) .none kV doc pm an cdv ct), sl⟩ ∧ PySem.W.codeIn K cdv x = true ∧ PySem.W.keepIn K (.ref f) = true
theorem fnIn_mk {K : PySem.W.Frag} {x : Str} {st : Stmt} {f : Addr} {oc : Value} {od : Option Addr} {kV doc pm : Value} {an : Option Addr} {cdv ct : Value} {sl : Array (Option Value)} (a : PySem.W.nsIn K mainGlobals x = some (some (.ref f)))
    (l : K.lookup f = some ⟨oc, od, .func (PySem.W.fnOf x x (defArgs st) (defBody st) (defScope st) .none kV doc pm an cdv ct), sl⟩) (c : PySem.W.codeIn K cdv x = true) (k : PySem.W.keepIn K (.ref f) = true) : FnIn K x st :=
  ⟨f, oc, od, kV, doc, pm, an, cdv, ct, sl, a, l, c, k⟩
theorem FnIn.fn {K : PySem.W.Frag} {h : Heap} {mg : Str → Option Value} {x : Str} {st : Stmt} {ps : List Str} (F : FnIn K x st) (X : K.In h) (G : h.Ns mainGlobals mg)
    (hb : ∀ (kV doc pm : Value) (an : Option Addr) (cdv ct : Value) (us : List Value), us.length = ps.length → bindArgs (PySem.W.fnOf x x (defArgs st) (defBody st) (defScope st) .none kV doc pm an cdv ct) ⟨us, []⟩ = pure (ps.zip us)) : Fn K mg x st ps := by
  obtain ⟨f, oc, od, kV, doc, pm, an, cdv, ct, sl, a, l, c, k⟩ := F.ex
  have FF := fun_mk (st := st) l c k
  exact ⟨f, _, FF, PySem.W.mg_of X G a, FF.binds hb⟩
end L2
namespace L2
open PySem PySem.Spec PyProof.Rows

/-! ### what an iterator yields through heaps that keep what is tracked -/
structure ItS (J : It) (xs : List V) (H1 : Hp) : Prop where
  go : ∀ i H', Same H1 H' → i < xs.length → J.go i H'
  yld : ∀ i H' x H2, Same H1 H' → J.yld i H' x H2 → H2 = H' ∧ (i < xs.length → xs[i]? = some x)
  stop : ∀ i H', Same H1 H' → xs.length ≤ i → J.stop i H'
theorem its_list {K : PySem.W.Frag} {a : Addr} {xs : List V} {H1 : Hp} (hq : SqL K H1 a xs) : ItS (Itl K a) xs H1 :=
  ⟨fun i H' g h => ⟨xs, xs[i], g.seq hq, by simp [h]⟩, fun i H' x H2 g y => ⟨y.1, fun _ => y.2 xs (g.seq hq)⟩, fun i H' g h => ⟨xs, g.seq hq, h⟩⟩
theorem its_tup {K : PySem.W.Frag} {a : Addr} {xs : List V} {H1 : Hp} (hq : SqT K H1 a xs) : ItS (Itt K a) xs H1 :=
  ⟨fun i H' g h => ⟨xs, xs[i], g.seqT hq, by simp [h]⟩, fun i H' x H2 g y => ⟨y.1, fun _ => y.2 xs (g.seqT hq)⟩, fun i H' g h => ⟨xs, g.seqT hq, h⟩⟩
theorem its_range {lo : Int} {n : Nat} {H1 : Hp} : ItS (Itr lo n) ((List.range n).map fun i => V.int (lo + (i : Nat))) H1 :=
  ⟨fun i H' g h => show i < n by simpa using h, fun i H' x H2 g y => ⟨y.1, fun h => by
    have h' : i < n := by simpa using h
    rw [List.getElem?_map, List.getElem?_range h', y.2]; rfl⟩, fun i H' g h => show n ≤ i by simpa using h⟩

/-- a comprehension of one new name whose tests and elements change nothing -/
theorem comp_pure {J : It} {xs : List V} {ix : List (Option Nat)} {tc : TT} {te : TE} {σ : St} {H1 : Hp} {Q : VK} (I : ItS J xs H1) (hz : xs.length ≤ sizeLine) {rest : St} (hst : cst ix σ = none :: rest) (p : V → Bool) (F : V → V)
    (ht : ∀ H' x, Same H1 H' → x ∈ xs → ∀ k : Bool → Hp → Prop, k (p x) H' → tc (some x :: rest) H' k)
    (he : ∀ H' x, Same H1 H' → x ∈ xs → p x = true → ∀ k : VK, k (F x) H' → te (some x :: rest) H' k)
    (hQ : ∀ D, H1 D = none → Q (.ref D) (upd H1 D (.lst ((xs.filter p).map F)))) :
    CompK ix (gName 0) tc te σ Q J H1 := by
  constructor
  intro D hD
  refine ⟨fun i m σ' H' => m = xs.length - i ∧ i ≤ xs.length ∧ (∃ o, σ' = o :: rest) ∧ H' = upd H1 D (.lst (((xs.take i).filter p).map F)), ⟨xs.length, by simp, Nat.zero_le _, ⟨none, hst⟩, by simp⟩, ?_⟩
  rintro i m σ' H' ⟨rfl, hi, ⟨o, rfl⟩, rfl⟩
  have g : Same H1 (upd H1 D (.lst (((xs.take i).filter p).map F))) := Same.new hD _
  by_cases hlt : i < xs.length
  · refine .inr ⟨I.go i _ g hlt, fun x H2 y => ?_⟩
    obtain ⟨rfl, hx⟩ := I.yld i _ x H2 g y
    have hx := hx hlt
    have hm : x ∈ xs := List.mem_of_getElem? hx
    have et : xs.take (i + 1) = xs.take i ++ [x] := by
      rw [List.take_add_one, hx]; rfl
    show tc (some x :: rest) _ _
    refine ht _ x g hm _ ?_
    cases hp : p x with
    | true =>
      rw [if_pos rfl]
      refine he _ x g hm hp _ ⟨_, upd_same, ?_, xs.length - (i + 1), by omega, rfl, hlt, ⟨_, rfl⟩, ?_⟩
      · have h1 : (((xs.take i).filter p).map F).length ≤ i := by
          rw [List.length_map]
          exact Nat.le_trans (List.length_filter_le _ _) (by rw [List.length_take]; omega)
        omega
      · rw [upd_upd, et, List.filter_append, List.map_append]
        simp [hp]
    | false =>
      rw [if_neg Bool.false_ne_true]
      refine ⟨xs.length - (i + 1), by omega, rfl, hlt, ⟨_, rfl⟩, ?_⟩
      rw [et, List.filter_append]
      simp [hp]
  · have e : i = xs.length := by omega
    subst e
    refine .inl ⟨I.stop _ _ g (Nat.le_refl _), ?_⟩
    rw [List.take_length]
    exact hQ D hD
/-- a for over what an iterator yields -/
theorem for_its {J : It} {xs : List V} {g : TG} {tb : TS} {D : Ends} {σ : St} {H : Hp} (I : ItS J xs H) (Pv : Nat → St → Hp → Prop) (h0 : Pv 0 σ H) (hsame : ∀ i σ' H', Pv i σ' H' → Same H H')
    (hs : ∀ i x σ' H', xs[i]? = some x → Pv i σ' H' → g x σ' H' fun σ2 H2 => tb { D with nx := Pv (i + 1), ct := Pv (i + 1), bk := D.nx } σ2 H2) (hd : ∀ σ' H', Pv xs.length σ' H' → D.nx σ' H') :
    ∃ W : Nat → Nat → St → Hp → Prop, (∃ m, W 0 m σ H) ∧ ∀ i m σ H, W i m σ H →
      (J.stop i H ∧ D.nx σ H) ∨ (J.go i H ∧ ∃ N : St → Hp → Prop, (∀ σ' H', N σ' H' → ∃ m', m' < m ∧ W (i + 1) m' σ' H') ∧ ∀ x H', J.yld i H x H' → g x σ H' fun σ2 H2 => tb { D with nx := N, ct := N, bk := D.nx } σ2 H2) := by
  refine ⟨fun i m σ' H' => m = xs.length - i ∧ i ≤ xs.length ∧ Pv i σ' H', ⟨xs.length, by simp, Nat.zero_le _, h0⟩, ?_⟩
  rintro i m σ' H' ⟨rfl, hi, p⟩
  have gs := hsame i σ' H' p
  by_cases hlt : i < xs.length
  · refine .inr ⟨I.go i _ gs hlt, Pv (i + 1), fun σ2 H2 p' => ⟨xs.length - (i + 1), by omega, rfl, hlt, p'⟩, fun x H2 y => ?_⟩
    obtain ⟨rfl, hx⟩ := I.yld i _ x H2 gs y
    exact hs i x σ' _ (hx hlt) p
  · have e : i = xs.length := by omega
    subst e
    exact .inl ⟨I.stop _ _ gs (Nat.le_refl _), hd σ' H' p⟩
end L2
namespace L2
open PySem PySem.Spec PyProof.Rows
/-- a reading that nothing opens by itself -/
structure Bar (t : TE) (σ : St) (H : Hp) (Q : VK) : Prop where
  go : t σ H Q
def tBar (t : TE) : TE := fun σ H Q => Bar t σ H Q
theorem Bar.by {t : TE} {σ : St} {H : Hp} {Q : VK} (R : V → Hp → Prop) (h : ∀ k : VK, (∀ v H1, R v H1 → k v H1) → t σ H k) (q : ∀ v H1, R v H1 → Q v H1) : Bar t σ H Q := ⟨h Q q⟩
theorem pe_bar {X : Cx} {e : Expr} {t : TE} (h : PE X e t) : PE X e (tBar t) := fun pins s σ H Q I q => h pins s σ H Q I q.go
/-- the same for a statement whose ways meet behind it -/
structure BarS (t : TS) (D : Ends) (σ : St) (H : Hp) : Prop where
  go : t D σ H
def tBarS (t : TS) : TS := fun D σ H => BarS t D σ H
theorem ps_bar {X : Cx} {st : Stmt} {t : TS} (h : PS X st t) : PS X st (tBarS t) := fun pins s σ H D I q => h pins s σ H D I q.go
theorem BarS.by {t : TS} {D : Ends} {σ : St} {H : Hp} (R : St → Hp → Prop) (h : ∀ N : St → Hp → Prop, (∀ σ' H', R σ' H' → N σ' H') → t { D with nx := N } σ H) (q : ∀ σ' H', R σ' H' → D.nx σ' H') : BarS t D σ H := by
  constructor
  exact h D.nx q
end L2
namespace HT
open PySem PyProof.Rows
section
variable {prog : Program} {w : World} {A : Around} {E : Value → Shared → Prop} {s : Shared}
/-- t[a:b], the whole of it: t itself -/
theorem getItem_tuple_all {t sl : Addr} {items : Array Value} {vl vu : Value} {lo hi : Option Int} {Q : Value → Shared → Prop} (ht : IsTup s.heap t items) (hs : s.heap.IsSliceOf sl vl vu .none) (pl : IsPart vl lo) (pu : IsPart vu hi)
    (hw : sIx items.size 0 lo = 0 ∧ sIx items.size items.size hi = items.size) (h : Q (.ref t) s) : wpAny (model prog w) A (getItem (.ref t) (.ref sl)) Q E s := by
  obtain ⟨os, hos, hcs, hds⟩ := id hs
  have hTs : s.TypeIs (.ref sl) "slice" := ⟨os, hos, hcs⟩
  unfold getItem
  try with_reducible refine wpAny_holding ?_
  first | refine wpAny_bind (wpAny_pure ?_) | skip
  refine wpAny_bind (wpAny_sequenceKey ht.typeIs (by decide) ?_)
  refine wpAny_bind (wpAny_callSpecial?_slot (name := Str.ofString "__getitem__") ht.typeIs PyProof.Rows.slot_tuple_getitem
    (wpAny_call_entry PyProof.Rows.slot_tuple_getitem ht.typeIs entry_tuple_getitem ?_ (args_tuple_getitem _ _)))
  show wpAny _ _ (Builtin.Tuple.tupleItemsOf (.ref t) >>= _) _ _ s
  refine wpAny_bind (tupleItemsOf_ ht ?_)
  refine wpAny_bind (wpAny_typeOf hTs ?_)
  rw [if_pos (by decide)]
  refine wpAny_bind (sliceApplied_gen hs pl pu ?_)
  have hyes : (((sIx items.size 0 lo : Nat) : Int) == 0 && (1 : Int) == 1 && (sIx items.size items.size hi - sIx items.size 0 lo) == items.size) = true := by
    rw [hw.1, hw.2]; simp
  show wpAny _ _ (if (((sIx items.size 0 lo : Nat) : Int) == 0 && (1 : Int) == 1 && (sIx items.size items.size hi - sIx items.size 0 lo) == items.size) = true then _ else _) _ _ s
  rw [if_pos hyes]
  unfold Builtin.Tuple.tupleIsExact
  refine wpAny_bind (wpAny_bind (wpAny_typeOf ht.typeIs (wpAny_pure ?_)))
  rw [if_pos (by decide)]
  exact wpAny_bind (wpAny_rule (wpAny_pure ⟨_, rfl, wpAny_pure h⟩))
end
end HT
namespace L2
open PySem PySem.Spec PyProof.Rows
section
variable {X : Cx}
theorem sl_tupAll : SlR X (fun x lo hi H Q => ∃ a xs, x = .ref a ∧ SqT X.K H a xs ∧ (HT.sIx xs.length 0 lo = 0 ∧ HT.sIx xs.length xs.length hi = xs.length) ∧ Q (.ref a) H) := by
  intro pins s σ H x v vl vu lo hi sl Q I rx hs pl pu h
  obtain ⟨a, xs, rfl, hx, hw, q⟩ := h
  cases rx
  obtain ⟨its, r, ht, hz⟩ := I.tuple hx
  have hlen : its.toArray.size = xs.length := by rw [List.size_toArray]; exact r.length.symm
  refine ⟨"tuple", _, PyProof.Rows.slot_tuple_getitem.lookup, ht.typeIs, ?_⟩
  exact HT.getItem_tuple_all ht hs pl pu (by rw [hlen]; exact hw) ⟨.ref a, H, I, rfl, q⟩
end
end L2
namespace L2
open PySem PySem.Spec PyProof.Rows
theorem boot_all : bootBuiltins "all" = some (.builtin "all") := by decide +kernel
theorem boot_min : bootBuiltins "min" = some (.builtin "min") := by decide +kernel
/-! ### the rules, the written part K by its own name -/
section
variable {X : Cx} (K : PySem.W.Frag)
theorem SlR.imp {r r' : V → Option Int → Option Int → Hp → VK → Prop} (h : SlR X r) (i : ∀ x lo hi H Q, r' x lo hi H Q → r x lo hi H Q) : SlR X r' := fun pins s σ H x v vl vu lo hi sl Q I rx hs pl pu q => h pins s σ H x v vl vu lo hi sl Q I rx hs pl pu (i _ _ _ _ _ q)
theorem xadd (hK : X.K = K := by rfl) : OpR X (binaryOp .Add) (rAddV K) := by subst hK; exact v_add
theorem xix (hK : X.K = K := by rfl) : IxR X (rIxV K) := by subst hK; exact v_ix
theorem xeq {k : Nat} (hr : Room k X.A) (hK : X.K = K := by rfl) : OpR X (compareOp .Eq) (rEqV K id) := by subst hK; exact v_eq hr
theorem xne {k : Nat} (hr : Room k X.A) (hK : X.K = K := by rfl) : OpR X (compareOp .NotEq) (rEqV K not) := by subst hK; exact v_ne hr
theorem xlen (hK : X.K = K := by rfl) : CallR X (.builtin "len") (fun xs H Q => ∃ x n, xs = [x] ∧ LenV K x H n ∧ Q (.int n) H) := by subst hK; exact call_len
theorem xall (hc : X.calm = true) (hK : X.K = K := by rfl) : CallR X (.builtin "all") (fun xs H Q => ∃ (l : Addr) (bs : List Bool), xs = [.ref l] ∧ SqL K H l (bs.map V.bl) ∧ Q (.bl (bs.all id)) H) := by subst hK; exact v_all hc
theorem xsum (hc : X.calm = true) (hK : X.K = K := by rfl) : CallR X (.builtin "sum") (fun xs H Q => ∃ (l : Addr) (ns : List Int), xs = [.ref l] ∧ SqL K H l (ns.map V.int) ∧ Q (.int ns.sum) H) := by subst hK; exact v_sum hc
theorem xlist (hK : X.K = K := by rfl) : CallR X (.type "list") (fun xs H Q => ∃ p ys, xs = [.ref p] ∧ (SqL K H p ys ∨ SqT K H p ys) ∧ ∀ l, H l = none → Q (.ref l) (upd H l (.lst ys))) := by subst hK; exact call_list_of
theorem xtuple (hK : X.K = K := by rfl) : CallR X (.type "tuple") (fun xs H Q => ∃ p ys, xs = [.ref p] ∧ ((SqL K H p ys ∧ ∀ l, H l = none → Q (.ref l) (upd H l (.tup ys))) ∨ (SqT K H p ys ∧ Q (.ref p) H))) := by subst hK; exact call_tuple_of
/-- xs[lo:hi]: of a list a new one; of a tuple a new one, or itself where it is the whole -/
def rSlV (K : PySem.W.Frag) : V → Option Int → Option Int → Hp → VK → Prop := fun x lo hi H Q => match x with
  | .ref a => (∃ xs, SqL K H a xs ∧ ∀ p, H p = none → Q (.ref p) (upd H p (.lst (cutV xs lo hi)))) ∨
      (∃ xs, SqT K H a xs ∧ ¬ (HT.sIx xs.length 0 lo = 0 ∧ HT.sIx xs.length xs.length hi = xs.length) ∧ ∀ p, H p = none → Q (.ref p) (upd H p (.tup (cutV xs lo hi)))) ∨
      (∃ xs, SqT K H a xs ∧ (HT.sIx xs.length 0 lo = 0 ∧ HT.sIx xs.length xs.length hi = xs.length) ∧ Q (.ref a) H)
  | _ => False
theorem xsl (hK : X.K = K := by rfl) : SlR X (rSlV K) := by
  subst hK
  refine (sl_list.or (sl_tup.or sl_tupAll)).imp fun x lo hi H Q h => ?_
  unfold rSlV at h
  split at h
  · rcases h with ⟨xs, h⟩ | ⟨xs, h⟩ | ⟨xs, h⟩
    · exact .inl ⟨_, xs, rfl, h⟩
    · exact .inr (.inl ⟨_, xs, rfl, h⟩)
    · exact .inr (.inr ⟨_, xs, rfl, h⟩)
  · exact h.elim
theorem xseq {tg l : Expr} {tl : TE} (hl : PE X l tl) (hK : X.K = K := by rfl) : PI X tg l (iSeq K tl) := by subst hK; exact pi_seq hl
theorem xgtup {es : List Expr} {k : Nat} {t : TGs} {n : Nat} {pos : Pos} (hc : X.calm = true) (h : PGs X es t) (hK : X.K = K := by rfl)
    (hn : (assignEach es X.env).length = n := by rfl) (hst : (assignEach es X.env).findIdx? (·.1) = none := by rfl) : PG X (.Tuple es k pos) (gTup K n t) := by subst hK; exact pg_tup hc h hn hst
theorem xappend {o e : Expr} {to : TE} {te : TE} {apos cpos : Pos} (ho : PE X o to) (he : PE X e te) (hK : X.K = K := by rfl)
    (hbase : attributeBase o "append" X.env (eval o X.env) = eval o X.env := by rfl)
    (hfew : ((backTo cpos (starEach [e] X.env)).all (fun x => !x.1) && (backToKw cpos (keywordEach [] X.env)).all (fun x => x.1.isSome)
      && decide ([e].length + ([] : List Keyword).length + (if ([] : List Keyword).isEmpty then 0 else 1) < 30)) = true := by rfl)
    (hline : (apos.endLine == cpos.line) = true := by rfl) (hs : starEach [e] X.env = (false, eval e X.env) :: starEach [] X.env := by rfl) :
    PE X (.Call (.Attribute o "append" apos) [e] [] cpos) (tBM K "list" rAppend to (tCons te tNil)) := by
  subst hK
  exact pe_bm PySem.F.plainAttrs_list PySem.F.slot_list_append PySem.F.type_list_append mt_append ho (pa_cons he pa_nil hs) hbase hfew hline hs rfl
end

/-! ### arguments by their kinds: that none is starred is told once -/
section
variable {X : Cx} {es : List Expr} {te : TE} {t : TA}
theorem pa_k {c : Const} {j} {p : Pos} (h : PE X (.Constant c j p) te) (hr : PA X es t) : PA X ((.Constant c j p) :: es) (tCons te t) := pa_cons h hr rfl
theorem pa_n {x : Str} {p : Pos} (h : PE X (.Name x p) te) (hr : PA X es t) : PA X ((.Name x p) :: es) (tCons te t) := pa_cons h hr rfl
theorem pa_t {as : List Expr} {j} {p : Pos} (h : PE X (.Tuple as j p) te) (hr : PA X es t) : PA X ((.Tuple as j p) :: es) (tCons te t) := pa_cons h hr rfl
theorem pa_b {a : Expr} {o : Operator} {b : Expr} {p : Pos} (h : PE X (.BinOp a o b p) te) (hr : PA X es t) : PA X ((.BinOp a o b p) :: es) (tCons te t) := pa_cons h hr rfl
theorem pa_u {o : UnaryOp} {a : Expr} {p : Pos} (h : PE X (.UnaryOp o a p) te) (hr : PA X es t) : PA X ((.UnaryOp o a p) :: es) (tCons te t) := pa_cons h hr rfl
end
end L2
namespace L2
open PySem PySem.Spec PyProof.Rows
/-! ### an exception that was taken: its object, its class -/
def excO (a C : Addr) : HO := .ext fun h => ∃ o vs, h.get? a = some o ∧ o.cls = .ref C ∧ o.data = .fields vs
theorem excO_ok {P : Program} {w : World} {H : Hp} {h : Heap} {a C : Addr} {o : Obj} {vs : Array Value} (e : h.get? a = some o) (hc : o.cls = .ref C) (hd : o.data = .fields vs) : ObjOk P w H h a (excO a C) :=
  ⟨⟨o, vs, e, hc, hd⟩, ⟨o, e⟩, fun _ _ ⟨o, vs, e, r⟩ k => ⟨o, vs, k o e, r⟩⟩
theorem ObjOk.there {P : Program} {w : World} {H : Hp} {h : Heap} {a : Addr} {o : HO} (x : ObjOk P w H h a o) : ∃ u, h.get? a = some u := by
  cases o with
  | lst xs => obtain ⟨_, _, _, _, e⟩ := x; exact ⟨_, e⟩
  | tup xs => obtain ⟨_, _, _, o, e, _⟩ := x; exact ⟨_, e⟩
  | dK kvs => obtain ⟨_, _, _, _, o, _, _, e, _⟩ := x; exact ⟨_, e⟩
  | dT kvs => obtain ⟨_, _, _, _, o, _, _, e, _⟩ := x; exact ⟨_, e⟩
  | set S n => obtain ⟨o, _, _, _, e, _⟩ := x; exact ⟨_, e⟩
  | ins C dx fs => obtain ⟨_, _, _, e, _⟩ := x; exact ⟨_, e⟩
  | own y => exact x
  | xd fs => obtain ⟨_, ⟨_, _, _, e, _⟩, _⟩ := x; exact ⟨_, e⟩
  | rng lo hi => obtain ⟨_, _, _, e⟩ := x; exact ⟨_, e⟩
  | frz ob u => obtain ⟨e, _⟩ := x; exact ⟨_, e⟩
  | tbl ps => exact ⟨_, (show h.get? a = some _ from x)⟩
  | met f y => exact ⟨_, (show h.get? a = some _ from x)⟩
  | ext φ => exact x.2.1
/-- the class at C stands under the one at R, both error classes of the text -/
structure ExS (base : Heap) (C R : Addr) : Prop where
  cls : ∃ nm q N bs bm hdct sn sub ab col dd k0 k1 k2 k3 k5 newId, base.get? C = some (excClassObj nm q C N bs bm hdct sn sub ab col dd k0 k1 k2 k3 k5 newId) ∧ (Value.ref C :: bm).contains (.ref R) = true
  top : ∃ nm q N bs bm hdct sn sub ab col dd k0 k1 k2 k3 k5 newId, base.get? R = some (excClassObj nm q R N bs bm hdct sn sub ab col dd k0 k1 k2 k3 k5 newId) ∧ bm.contains (.type "BaseException") = true
theorem excMatches_own {M : Model} {A : Around} {E : Value → Shared → Prop} {h : Heap} {g : Array GenState} {d : Drawn} {t : Nat} {os : OsState} {e C R : Addr} {oe : Obj} {Q : Bool → Shared → Prop} {base : Heap} (S : ExS base C R) (kb : ∀ b o, base.get? b = some o → h.get? b = some o)
    (he : h.get? e = some oe) (hcls : oe.cls = .ref C) (hq : Q true ⟨h, g, d, t, os⟩) : wpAny M A (excMatches (.ref e) (.ref R)) Q E ⟨h, g, d, t, os⟩ := by
  obtain ⟨nm, q, N, bs, bm, hdct, sn, sub, ab, col, dd, k0, k1, k2, k3, k5, newId, hC, hs⟩ := S.cls
  obtain ⟨nm', q', N', bs', bm', hdct', sn', sub', ab', col', dd', k0', k1', k2', k3', k5', newId', hR, hB⟩ := S.top
  have hC := kb _ _ hC
  have hR := kb _ _ hR
  have hcB : (Value.ref R :: bm').contains (.type "BaseException") = true := by rw [List.contains_cons, hB, Bool.or_true]
  have f := tc_notTuple
  unfold excMatches
  repeat (first | (with_reducible refine wpAny_loadPart_at he ?_; rw [hcls]) | with_reducible refine wpAny_loadPart_at hR ?_ | (with_reducible refine wpAny_isSubtype_exc hR ?_; rw [hcB]) | (with_reducible refine wpAny_isSubtype_exc hC ?_; rw [hs]) | wp_step)
  exact hq
section
variable {X : Cx} {pins : List (Addr × Obj)} {σ : St} {H : Hp} {s : Shared}
/-- an untracked object that is none of the elder ones is tracked -/
theorem Inv.track {a : Addr} {o : HO} (I : Inv X pins σ H s) (hn : H a = none) (h0 : ∀ u, X.s₀.heap.get? a ≠ some u) (hL : a ≠ X.env.locals) (hc : ∀ x c, X.env.cells.lookup x = some c → c ≠ a) (hp : ∀ p ∈ X.pn ++ pins, p.1 ≠ a)
    (new : ObjOk X.prog X.w (upd H a o) s.heap a o) : Inv X pins σ (upd H a o) s := by
  have ne : ∀ b u, H b = some u → b ≠ a := fun b u e => ne_of_none e hn
  refine ⟨I.ok, I.os, I.bare, ⟨I.base.keep, I.base.slot, fun b u e n hx => ?_, I.base.there, fun b xs e => ?_, fun b u xs e => ?_, fun b ps e => ?_⟩, I.loc, I.cell, ?_, fun x c e => ?_, fun p q => ?_, fun b u e => ?_, I.len⟩
  · rw [upd_ne (fun z => h0 u (by rw [← z]; exact e))]; exact I.base.free b u e n hx
  · have := I.base.tups b xs e
    rw [upd_ne (ne b _ this)]; exact this
  · have := I.base.frzs b u xs e
    rw [upd_ne (ne b _ this)]; exact this
  · obtain ⟨m, this⟩ := I.base.tbls b ps e
    exact ⟨m, by rw [upd_ne (ne b _ this)]; exact this⟩
  · rw [upd_ne (Ne.symm hL)]; exact I.free
  · rw [upd_ne (hc x c e)]; exact I.freeC x c e
  · obtain ⟨e1, e2, e3⟩ := I.pin p q
    exact ⟨e1, by rw [upd_ne (hp p q)]; exact e2, e3⟩
  · by_cases hb : b = a
    · subst hb
      rw [upd_same] at e; cases e
      exact new
    · rw [upd_ne hb] at e
      exact (I.hok b u e).stay (fun _ _ _ q => q) (fun c q => by rw [upd_ne (ne c _ q)]; exact q) fun c xs q => by rw [upd_ne (ne c _ q)]; exact q
/-- a name is gone -/
theorem Inv.unset {h' : Heap} {t' : Nat} {j : Nat} {n : Str} {v : Option Value} {m : Str → Option Value} (I : Inv X pins σ H s) (hN : X.N.Nodup) (hj : X.N[j]? = some n) (hm : s.heap.Ns X.env.locals m)
    (hn : h'.Ns X.env.locals fun y => if y = n then v else m y) (hs : Heap.SameBut X.env.locals s.heap h') : Inv X pins (σ.set j none) H { s with heap := h', toks := t' } := by
  obtain ⟨m2, hn2, hl⟩ := id I.loc
  obtain ⟨oL, _, _, hoL, _⟩ := id hm
  have em : m2 = m := by
    obtain ⟨o1, es1, ep1, ho1, hd1, hk1, hf1⟩ := hn2
    obtain ⟨o2, es2, ep2, ho2, hd2, hk2, hf2⟩ := hm
    rw [ho1] at ho2; cases ho2
    rw [hd1] at hd2; cases hd2
    funext y; rw [← hf1 y, ← hf2 y]
  subst em
  refine ⟨I.ok, I.os, I.bare, ⟨fun b o e nn hb hx => ?_, fun b o e nn hb hx => ?_, I.base.free, fun b o e hx => ?_, I.base.tups, I.base.frzs, I.base.tbls⟩, ⟨_, hn, fun i y u e1 e2 e3 => ?_⟩, fun y c e => ?_, I.free, I.freeC, fun p hp => ?_, fun b u e => ?_, by simpa using I.len⟩
  · exact (hs.2 b (Nat.ne_of_lt (Nat.lt_of_lt_of_le (Heap.lt_size e) I.ok.above))).trans (I.base.keep b o e nn hb hx)
  · obtain ⟨sl, e1⟩ := I.base.slot b o e nn hb hx
    exact ⟨sl, (hs.2 b (Nat.ne_of_lt (Nat.lt_of_lt_of_le (Heap.lt_size e) I.ok.above))).trans e1⟩
  · obtain ⟨o', e1⟩ := I.base.there b o e hx
    exact ⟨o', (hs.2 b (Nat.ne_of_lt (Nat.lt_of_lt_of_le (Heap.lt_size e) I.ok.above))).trans e1⟩
  · by_cases hji : i = j
    · subst hji
      by_cases hlt : i < σ.length
      · rw [List.getElem?_set_self hlt] at e2; cases e2
      · rw [List.getElem?_eq_none (by simp; omega)] at e2; cases e2
    · rw [List.getElem?_set_ne (Ne.symm hji)] at e2
      obtain ⟨u', r', q⟩ := hl i y u e1 e2 e3
      refine ⟨u', r', ?_⟩
      rcases q with ⟨k, e⟩ | ⟨k, c, e, z⟩
      · refine .inl ⟨k, ?_⟩
        have : y ≠ n := fun z => hji (nodup_ix hN e1 (z ▸ hj))
        simp [this, e]
      · exact .inr ⟨k, c, e, z.sameBut hs (I.cne y c e)⟩
  · obtain ⟨w', z⟩ := I.cell y c e
    exact ⟨w', z.sameBut hs (I.cne y c e)⟩
  · obtain ⟨e, nn, ne, nf, d⟩ := I.pin p hp
    exact ⟨(hs.2 p.1 ne).trans e, nn, ne, nf, d⟩
  · refine (I.hok b u e).stay (fun c w' hc q => (hs.2 c ?_).trans q) (fun _ q => q) fun _ _ q => q
    rintro rfl
    rcases hc with z | hc
    · rw [← z, I.free] at e; cases e
    · rw [I.free] at hc; cases hc
end
/-- within an except suite (nothing is raised there) -/
def cxS (X : Cx) (a : Addr) : Cx := { X with A := X.A.mark (some (.ref a)), calm := false, xe := fun _ _ => False }
theorem Inv.suite {X : Cx} {pins : List (Addr × Obj)} {σ : St} {H : Hp} {s : Shared} (I : Inv X pins σ H s) (a : Addr) : Inv (cxS X a) pins σ H s :=
  ⟨⟨I.ok.mod, I.ok.kind, I.ok.glob, I.ok.blt, I.ok.above, I.ok.inj, I.ok.has, I.ok.cab, (fun z => by cases z), I.ok.frames, I.ok.stk, I.ok.exf, I.ok.bs, I.ok.bsz, I.ok.noex, I.ok.exfs, I.ok.funs, I.ok.frf⟩,
    I.os, I.bare, I.base, I.loc, I.cell, I.free, I.freeC, I.pin, I.hok, I.len⟩
theorem Inv.unsuite {X : Cx} {pins : List (Addr × Obj)} {σ : St} {H : Hp} {s : Shared} {a : Addr} (ok : X.Ok) (I : Inv (cxS X a) pins σ H s) : Inv X pins σ H s :=
  ⟨ok, I.os, I.bare, I.base, I.loc, I.cell, I.free, I.freeC, I.pin, I.hok, I.len⟩
end L2
namespace L2
open PySem PySem.Spec PyProof.Rows
/-! ### isinstance(e, ..) of an exception of a class of the text -/
/-- what the written part says of the class at C -/
structure ExI (K : PySem.W.Frag) (C : Addr) : Prop where
  ga : PySem.W.findIn K (.ref C) "__getattribute__" = some (some (.builtin "BaseException.__getattribute__"))
  gt : PySem.W.findIn K (.ref C) "__getattr__" = some none
  cl : PySem.W.findIn K (.ref C) "__class__" = some (some (.builtin "object.__class__"))
  mb : PySem.W.mroIn K C (.type "BaseException") = some true
  mo : PySem.W.mroIn K C (.type "object") = some true
  is : (PySem.W.clsIn K C).isSome = true
section
variable {prog : Program} {w : World} {A : Around} {E : Value → Shared → Prop} {h : Heap} {g : Array GenState} {d : Drawn} {t : Nat} {os : OsState} {a C : Addr} {o : Obj} {K : PySem.W.Frag}
theorem xc_get {R : Result → Shared → Prop} (S : ExI K C) (X : K.In h) (hx : h.get? a = some o) (hc : o.cls = .ref C) (hq : R (.ok (.ret (.ref C))) ⟨h, g, d, t, os⟩) :
    codeAny (model prog w) A (.call (.builtin "getset_descriptor.__get__") ⟨[.builtin "object.__class__", .ref a, .ref C], []⟩) R ⟨h, g, d, t, os⟩ := by
  have hT5 : (⟨h, g, d, t, os⟩ : Shared).TypeIs (.builtin "object.__class__") "getset_descriptor" := F.typeOf_object_class
  have L1 := PySem.W.looks_mroIn (M := model prog w) X S.mo
  rw [← F.owner_object_class] at L1
  refine codeAny_call_builtin F.slot_gs_get.plain F.entry_gs_get (F.slot_gs_get.check _ _ _ _ _ _ _ _ hT5 (F.args_gs_get _ _ _) ?_)
  repeat (any_goals (first | assumption | (with_reducible refine wpAny_loadPart_at hx ?_; rw [hc]) | with_reducible refine L1.at ?_ | wp_step))
  refine ⟨Code.quiet_builtin _ (by decide +kernel), codeAny_builtin F.entry_object_class ?_⟩
  repeat (any_goals (first | assumption | (with_reducible refine wpAny_loadPart_at hx ?_; rw [hc]) | wp_step))
theorem xc_entry {tk : Tok} {Q : Fin → Shared → Prop} (S : ExI K C) (X : K.In h) (hx : h.get? a = some o) (hc : o.cls = .ref C) (hq : Q (.done (.ret (.ref C))) ⟨h, g, d, t, os⟩) :
    wpAny (model prog w) A (Builtin.«object.__getattribute__» ⟨[.ref a, .str "__class__" tk], []⟩) Q E ⟨h, g, d, t, os⟩ := by
  have hT5 : (⟨h, g, d, t, os⟩ : Shared).TypeIs (.builtin "object.__class__") "getset_descriptor" := F.typeOf_object_class
  have L1 := PySem.W.looks_findIn (M := model prog w) X S.cl
  have f5 := F.typeOf_object_class
  have f6 := F.slot_gs_get.lookup
  have f7 := F.slot_gs_set.lookup
  repeat (any_goals (first | assumption | (with_reducible refine wpAny_loadPart_at hx ?_; rw [hc]) | with_reducible refine L1.at ?_ | wp_step))
  refine xc_get S X hx hc ?_
  repeat (any_goals (first | assumption | wp_step))
theorem xc_check {nameV : Value} {Q : Unit → Shared → Prop} (S : ExI K C) (X : K.In h) (hx : h.get? a = some o) (hc : o.cls = .ref C) (hq : Q () ⟨h, g, d, t, os⟩) :
    wpAny (model prog w) A (checkBuiltinCall "BaseException.__getattribute__" ⟨[.ref a, nameV], []⟩) Q E ⟨h, g, d, t, os⟩ := by
  have hk : builtinKind "BaseException.__getattribute__" = some .slot := by decide +kernel
  have hs : splitId "BaseException.__getattribute__" = some ("BaseException", "__getattribute__") := by decide +kernel
  have L1 := PySem.W.looks_mroIn (M := model prog w) X S.mb
  have ha := F.args_bexc_ga (.ref a) nameV
  simp only [checkBuiltinCall, hk, hs]
  refine wpAny_bind ?_
  unfold isInstance
  repeat (first | (with_reducible refine wpAny_loadPart_at hx ?_; rw [hc]) | with_reducible refine L1.at ?_ | wp_step)
  exact hq
theorem xc_by {tk : Tok} {Q : Value → Shared → Prop} (S : ExI K C) (X : K.In h) (hx : h.get? a = some o) (hc : o.cls = .ref C) (hq : Q (.ref C) ⟨h, g, d, t, os⟩) :
    wpAny (model prog w) A (getAttrBy (.ref a) (.str "__class__" tk) false) Q E ⟨h, g, d, t, os⟩ := by
  have f3 := F.excAttr_ValueError.ga.bind (.ref a)
  have L1 := PySem.W.looks_findIn (M := model prog w) X S.ga
  have L2 := PySem.W.looks_findIn (M := model prog w) X S.gt
  have hx2 : (Value.builtin "BaseException.__getattribute__" == Value.builtin "object.__getattribute__") = false := by decide +kernel
  have hx1 : (onTheHeap (Value.ref C) && Value.builtin "BaseException.__getattribute__" == Value.builtin "object.__getattribute__") = false := by rw [hx2]; rfl
  repeat (any_goals (first | assumption | (with_reducible refine wpAny_loadPart_at hx ?_; rw [hc]) | with_reducible refine L1.at ?_ | with_reducible refine L2.at ?_ | wp_step))
  refine codeAny_call_builtin F.excAttr_ValueError.ga.plain F.entry_bexc_ga (xc_check S X hx hc (xc_entry S X hx hc ?_))
  repeat (any_goals (first | assumption | wp_step))
theorem xc_attr {Q : Option Value → Shared → Prop} (S : ExI K C) (X : K.In h) (hx : h.get? a = some o) (hc : o.cls = .ref C) (hq : Q (some (.ref C)) ⟨h, g, d, t + 1, os⟩) :
    wpAny (model prog w) A (getAttr? (.ref a) "__class__") Q E ⟨h, g, d, t, os⟩ := by
  unfold getAttr? getAttrBy?
  repeat (any_goals (first | assumption | with_reducible apply xc_by S X hx hc | wp_step))
end
end L2
namespace L2
open PySem PySem.Spec PyProof.Rows
theorem kitx_exc {K : PySem.W.Frag} {a C : Addr} (S : ExI K C) : PySem.W.KitX K (.ref a) (.ref C) (fun h => ∃ o vs, h.get? a = some o ∧ o.cls = .ref C ∧ o.data = .fields vs) where
  ty := fun M h _ p => by
    obtain ⟨o, _, h1, h2, _⟩ := p
    exact h2 ▸ (PySem.W.Looks.ld h1).andThen .now
  it := fun _ _ X _ => by
    have hi := S.is
    unfold PySem.W.clsIn at hi
    split at hi
    · rename_i c' d' cd' sl' ho
      intro A' Q' E' s' k q
      unfold isType loadHead
      exact wpAny_bind (wpAny_loadPart (k _ _ (X _ _ ho)) (wpAny_pure q))
    · cases hi
  ne := fun h tp dd its n sl X htp => by
    have hi := S.is
    refine Bool.eq_false_iff.mpr fun q => ?_
    have e : C = tp := Value.ref.inj (beq_iff_eq.mp q)
    subst e
    unfold PySem.W.clsIn at hi
    split at hi
    · rename_i c' d' cd' sl' ho
      have z := (X _ _ ho).symm.trans htp
      cases z
    · cases hi
  ca := fun {prog w A E Q s} X p k => by
    obtain ⟨o, vs, h1, h2, _⟩ := p
    obtain ⟨h0, g, d, t, os⟩ := s
    exact xc_attr S X h1 h2 k
theorem refs_of : ∀ {Ds : List Addr} {us : List Value}, Vals (Ds.map V.ref) us → us = Ds.map Value.ref
  | [], _, .nil => rfl
  | D :: Ds, _, .cons r t => by
    have e := refs_of (Ds := Ds) t
    cases (show _ = Value.ref D from r)
    rw [e]; rfl
/-- isinstance(e, D), isinstance(e, ValueError), isinstance(e, (D, ..)) -/
def rIsiE (K : PySem.W.Frag) : List V → Hp → VK → Prop := fun xs H Q => ∃ a C y b, xs = [.ref a, y] ∧ H a = some (excO a C) ∧ ExI K C ∧
  ((∃ D, y = .ref D ∧ PySem.W.kitOne K (.ref C) (.ref D) = some b) ∨ (∃ T, y = .ty T ∧ PySem.W.kitOne K (.ref C) (.type T) = some b) ∨ (∃ (p : Addr) (Ds : List Addr), y = .ref p ∧ H p = some (.tup (Ds.map V.ref)) ∧ PySem.W.kitAny K (.ref C) (Ds.map Value.ref) = some b)) ∧ Q (.bl b) H
theorem v_isiE {X : Cx} : CallR X (.builtin "isinstance") (rIsiE X.K) := by
  intro pins s σ H xs us Q I r h
  obtain ⟨a, C, y, b, rfl, ha, S, h1, q⟩ := h
  obtain ⟨u, v, rfl, ru, rv⟩ := r.two
  cases ru
  have p : ∃ o vs, s.heap.get? a = some o ∧ o.cls = .ref C ∧ o.data = .fields vs := (I.hok a _ ha).1
  have fin : ∀ tk, EP X pins σ Q (.bool b) { s with toks := tk } := fun tk => ⟨.bl b, H, I.tok tk, rfl, q⟩
  rcases h1 with ⟨D, rfl, e⟩ | ⟨T, rfl, e⟩ | ⟨tp, Ds, rfl, ht, e⟩
  · cases rv
    exact PySem.W.kia_one (kitx_exc S) I.kIn p e (fun z => nomatch z) fin
  · cases rv
    exact PySem.W.kia_one (kitx_exc S) I.kIn p e (fun z => nomatch z) fin
  · cases rv
    obtain ⟨its, r2, p2, _⟩ := I.tuple (SqT.of ht)
    have ei := refs_of r2
    subst ei
    obtain ⟨⟨cls, dd, data, sl⟩, ho, hc, n, hd⟩ := id p2
    simp only at hc hd
    subst hc hd
    exact PySem.W.kia_tup (kitx_exc S) I.kIn p ho e (fun z => nomatch z) fin
theorem xisiE {X : Cx} (K : PySem.W.Frag) (hK : X.K = K := by rfl) : CallR X (.builtin "isinstance") (rIsiE K) := by subst hK; exact v_isiE
/-- a class of the text, as a value -/
theorem pe_cls {X : Cx} {x : Str} {C : Addr} {pos : Pos} (hg : Gl X x) (hm : X.mg x = some (.ref C)) (hd : (x == ("__debug__" : Str)) = false := by decide) : PE X (.Name x pos) (tC (.ref C)) := pe_glob hg hm rfl hd
/-! ### the class facts, out of the written part -/
theorem exC_of {K : PySem.W.Frag} {h : Heap} {mg : Str → Option Value} {x : Str} {C : Addr} {newId inN Bn : String} {bmN : List Value} (X : K.In h) (G : h.Ns mainGlobals mg) (e : PySem.W.nsIn K mainGlobals x = some (some (.ref C)))
    (q : PySem.W.excIn K C [.type "ValueError", .type "Exception", .type "BaseException", .type "object"] newId = true) (Fn : ExcBaseFacts Bn newId inN bmN)
    (hBn : [Value.type "ValueError", .type "Exception", .type "BaseException", .type "object"].contains (.type Bn) = true) : ExC mg h x C := by
  refine ⟨_, newId, ⟨PySem.W.mg_of X G e, ?_⟩, Bn, inN, bmN, _, _, _, Fn, hBn, F.excBase_ValueError⟩
  unfold PySem.W.excIn at q
  split at q
  · rename_i dd cd sl ho
    split at q
    · rename_i C' bm k0 k1 k2 k3 n k5 hm hs
      simp only [Bool.and_eq_true, beq_iff_eq, Bool.not_eq_true'] at q
      obtain ⟨⟨⟨⟨⟨rfl, rfl⟩, hdel⟩, ht⟩, hok⟩, hni⟩ := q
      obtain ⟨nm, bs, mro, ns, qn, hdc, sn, sub, ab, col, del⟩ := cd
      dsimp only at hm hdel hok hni
      subst hm; subst hdel
      have hsl : sl = #[k0, k1, k2, k3, some (.builtin n), k5] := by
        obtain ⟨l⟩ := sl
        simp only at hs
        rw [hs]
      subst hsl
      exact ⟨bm, ns, nm, qn, bs, hdc, sn, sub, ab, col, dd, k0, k1, k2, k3, k5, _, X _ _ ho, .of_isNs (PySem.W.isNs_of_in X hok), PySem.W.nsMap_none_of_in X hok hni, PySem.W.tail_of_in X ht⟩
    · cases q
  · cases q
def excSub (K : PySem.W.Frag) (C R : Addr) : Bool := match K.lookup C with
  | some ⟨.type "type", _, .cls cd, sl⟩ => (match cd.mro, sl.toList with
    | .ref C' :: bm, [_, _, _, _, some (.builtin _), _] => C' == C && !cd.hasDel && (Value.ref C' :: bm).contains (.ref R)
    | _, _ => false)
  | _ => false
theorem exS_of {K : PySem.W.Frag} {h : Heap} {C R : Addr} (X : K.In h) (q : excSub K C R = true) (qr : PySem.W.ktsIn K R "BaseException" = true) : ExS h C R := by
  refine ⟨?_, ?_⟩
  · unfold excSub at q
    split at q
    · rename_i dd cd sl ho
      split at q
      · rename_i C' bm k0 k1 k2 k3 n k5 hm hs
        simp only [Bool.and_eq_true, beq_iff_eq, Bool.not_eq_true'] at q
        obtain ⟨⟨rfl, hdel⟩, ht⟩ := q
        obtain ⟨nm, bs, mro, ns, qn, hdc, sn, sub, ab, col, del⟩ := cd
        dsimp only at hm hdel
        subst hm; subst hdel
        have hsl : sl = #[k0, k1, k2, k3, some (.builtin n), k5] := by
          obtain ⟨l⟩ := sl
          simp only at hs
          rw [hs]
        subst hsl
        exact ⟨nm, qn, ns, bs, bm, hdc, sn, sub, ab, col, dd, k0, k1, k2, k3, k5, n, X _ _ ho, ht⟩
      · cases q
    · cases q
  · obtain ⟨nm, qn, N, bs, bm, hdct, sn, sub, ab, col, dd, k0, k1, k2, k3, k5, newId, hR, hb, _⟩ := PySem.W.kts_cls X qr
    exact ⟨nm, qn, N, bs, bm, hdct, sn, sub, ab, col, dd, k0, k1, k2, k3, k5, newId, hR, hb⟩
end L2
namespace L2
open PySem PySem.Spec PyProof.Rows
theorem boot_ValueError : bootBuiltins "ValueError" = some (.type "ValueError") := by decide +kernel
/-! ### is True, is False -/
section
variable {X : Cx} {a : Expr} {ta : TE}
end
end L2
namespace L2
open PySem
/-! ### lists and tuples of ints compared -/
end L2

set_option maxHeartbeats 4000000
namespace L2
open PySem PySem.Spec PyProof.Rows
/-! ### try: if c: f(..) else: g(..) except R as n: suite -/
/-- what the suite is told -/
def tTaken (base : Heap) (R : Addr) (j : Nat) (ts : Addr → TS) (D : Ends) (σ : St) : XK := fun cls _ H2 => ∃ C, cls = .ref C ∧ ExS base C R ∧ ∀ a, H2 a = none →
    ts a { nx := fun σ' H' => D.nx (σ'.set j none) H', rt := D.rt, bk := fun σ' H' => D.bk (σ'.set j none) H', ct := fun σ' H' => D.ct (σ'.set j none) H' } (σ.set j (some (.ref a))) (upd H2 a (excO a C))
theorem try_lands {X : Cx} {n x : Str} {j : Nat} {R : Addr} {xp hpos : Pos} {b₀ : Stmt} {suite : List Stmt} {ts : Addr → TS} {pins : List (Addr × Obj)} {σ : St} {H H1 : Hp} {s s1 s2 : Shared} {D : Ends} {ev : Value}
    (hstk : X.stack = X.env :: X.outer) (hfr : X.env.frame = some X.env.locals) (hex : X.ex = []) (hN : X.N.Nodup)
    (hj : X.N[j]? = some n) (hn : X.env.scope.names.lookup n = some .local) (hx : Gl X x) (hR : X.mg x = some (.ref R)) (hs : ∀ a, PSs (cxS X a) (b₀ :: suite) (ts a))
    (hdx : (x == ("__debug__" : Str)) = false) (I : Inv X pins σ H s) (I1 : Inv X pins σ H1 s1) (hq : Flown X.prog X.w X.stack H1 s1 (tTaken X.base R j ts D σ) ev s2) :
    wpAny (model X.prog X.w) X.A (noteFrame ev X.env) (fun _ s₂ => wpAny (model X.prog X.w) X.A (setFlight ev none) (fun _ s₃ => wpAny (model X.prog X.w) X.A (handleBy ev X.env [.ExceptHandler (some (.Name x xp)) (some n) (b₀ :: suite) hpos]) (SP X pins D) X.xe s₃) X.xe s₂) X.xe s2 := by
  have nx : ∀ b : Addr, b ∉ X.ex := fun b => by rw [hex]; simp
  obtain ⟨ea, Cc, a0, B, H2, rfl, os, bare, fl, hok, un, old, C', eC, S, q2⟩ := Flown.ex hq
  cases eC
  rw [hstk] at fl
  have frs_eq : frs X.stack = (X.env :: X.outer).filterMap (·.frame) := by rw [hstk]; rfl
  -- the exception's object is new
  have oe := fl.first
  have newE : ∀ u, s1.heap.get? ea ≠ some u := fun u z => by
    rcases old ea u z with hb | ⟨o', hb⟩
    · rw [frs_eq] at hb
      obtain ⟨_, o, ho, hd⟩ := fl.2.2.1.mem hb
      obtain ⟨o2, vs2, e1, _, e2, _⟩ := oe
      rw [e1] at ho; cases ho
      exact hd _ e2
    · rw [fl.2.1] at hb; cases hb
  -- from s1 to any later heap of the flight
  have to : ∀ h6, Heap.FlyingW B (X.env :: X.outer) ea (.ref Cc) a0 h6 → s2.heap.UpToSlots h6 → Inv X pins σ H2 { s2 with heap := h6 } := fun h6 fl6 up => by
    refine I1.call' (ch := []) os ⟨fun b o e1 n1 hb _ => ?_, fun b o e1 n1 hb _ => ?_, fun b o e1 n1 _ => un.free b o e1 n1 (by simp), fun b o e1 _ => ?_, un.tups, un.frzs, un.tbls⟩ (hok.kept fl6.1) bare (fun _ z => nomatch z)
    · rcases old b o e1 with z | ⟨o', z⟩
      · exact absurd z hb
      · have e2 := un.keep b o e1 n1 hb (by simp)
        have e3 := fl.1 b o' z
        rw [e2] at e3; cases e3
        exact fl6.1 b _ z
    · obtain ⟨sl, e2⟩ := un.slot b o e1 n1 hb (by simp)
      rw [frs_eq] at hb
      obtain ⟨_, o2, ho, hd⟩ := fl.2.2.1.mem hb
      rw [e2] at ho; cases ho
      obtain ⟨sl', e3⟩ := up b _ e2 hd
      exact ⟨sl', e3⟩
    · rcases old b o e1 with z | ⟨o', z⟩
      · rw [frs_eq] at z
        obtain ⟨_, o2, ho, hd⟩ := fl.2.2.1.mem z
        obtain ⟨sl', e3⟩ := up b _ ho hd
        exact ⟨_, e3⟩
      · exact ⟨o', fl6.1 b o' z⟩
  have hfrm : X.A.frames = some (X.env :: X.outer) := by rw [I.ok.frames, hstk]
  refine wpAny_looks_onW hfrm hfr fl fun h4 held4 up4 => ?_
  refine wpAny_landsW held4 fun h5 fl5 up5 => ?_
  have I5 := to h5 fl5 (up4.trans up5)
  obtain ⟨ob, hob, hobc⟩ := fl5.there
  refine wpAny_handleBy_cons (codeAny_handlers_test (ld_glob (X := cxS X ea) (I5.suite ea) hx hR ?_ hdx)) (by intro z; cases z)
  refine excMatches_own S I5.bk hob hobc (codeAny_handlers_suite_as ?_)
  refine lands_againW fl5 fun h6 fl6 up6 => ?_
  have I6 := to h6 fl6 ((up4.trans up5).trans up6)
  obtain ⟨oe6, vs6, e6, c6, d6, _⟩ := fl6.first
  have hn2 : H2 ea = none := by
    cases z : H2 ea with
    | none => rfl
    | some u =>
      exfalso
      obtain ⟨o', z'⟩ := (hok ea u z).there
      rw [fl.2.1] at z'; cases z'
  have I7 : Inv X pins σ (upd H2 ea (excO ea Cc)) { s2 with heap := h6 } := by
    refine I6.track hn2 (fun u z => ?_) (fun z => ?_) (fun y c e z => ?_) (fun p hp z => ?_) (excO_ok e6 c6 d6)
    · obtain ⟨o', e1⟩ := I1.base.there ea u z (nx ea)
      exact newE o' e1
    · obtain ⟨m, ⟨o, _, _, ho, _⟩, _⟩ := I1.loc
      exact newE o (by rw [z]; exact ho)
    · obtain ⟨v', o, ho, _⟩ := I1.cell y c e
      exact newE o (by rw [← z]; exact ho)
    · exact newE p.2 (by rw [← z]; exact (I1.pin p hp).1)
  refine store_ok (X := cxS X ea) (I7.suite ea) hN hj (.inl hn) (show RelV (.ref ea) (Value.ref ea) from rfl) (fun s8 I8 => ?_) (.inr hn)
  have q3 := q2 ea hn2
  have gone : ∀ {σ9 : St} {H9 : Hp} {s9 : Shared} {Q' : Unit → Shared → Prop}, Inv (cxS X ea) pins σ9 H9 s9 → (∀ s10, Inv X pins (σ9.set j none) H9 s10 → Q' () s10) → wpAny (model X.prog X.w) X.A (do bindName X.env n .none; unbindBehindTheSuite X.env n hpos) Q' X.xe s9 :=
    fun {σ9 H9 s9 Q'} I9 k => by
      have I9' : Inv X pins σ9 H9 s9 := I9.unsuite I.ok
      obtain ⟨m, hm9, _⟩ := id I9'.loc
      exact wpAny_nameGoes_keeps hn hm9 (by rw [I.ok.kind]; rfl) fun h' v' n' sb => k _ (I9'.unset hN hj hm9 n' sb)
  refine wpAny_mono (hs ea pins s8 _ _ _ I8 q3) (fun fl9 s9 q9 => ?_) fun _ _ z => z.elim
  cases fl9 with
  | next =>
    obtain ⟨σ9, H9, I9, q9⟩ := q9
    exact gone I9 fun s10 I10 => ⟨_, H9, I10, q9⟩
  | brk =>
    obtain ⟨σ9, H9, I9, q9⟩ := q9
    exact gone I9 fun s10 I10 => ⟨_, H9, I10, q9⟩
  | cont =>
    obtain ⟨σ9, H9, I9, q9⟩ := q9
    exact gone I9 fun s10 I10 => ⟨_, H9, I10, q9⟩
  | ret u =>
    obtain ⟨y, σ9, H9, I9, r9, q9⟩ := q9
    exact gone I9 fun s10 I10 => ⟨y, _, H9, I10, r9, q9⟩
/-! ### try: f(..) except R as n: suite -/
def tTryExpr (base : Heap) (R : Addr) (sp : Sp) (j : Nat) (t : TA) (ts : Addr → TS) : TS := fun D σ H => t σ H fun vs H1 => sp vs H1 (fun _ H2 => D.nx σ H2) (tTaken base R j ts D σ)
theorem ps_tryExpr {X : Cx} {n x f : Str} {j k k' : Nat} {ps : List Str} {sp : Sp} {R : Addr} {fp cpos epos xp hpos pos : Pos} {e : Expr} {es : List Expr} {b₀ : Stmt} {suite : List Stmt} {t : TA} {ts : Addr → TS}
    (C : Cal X.prog X.w X.K X.mg X.base f k ps sp) (hr : Room k' X.A) (hstk : X.stack = X.env :: X.outer) (hfr : X.env.frame = some X.env.locals) (hex : X.ex = []) (hg : Gl X f) (ha : PA X.nox (e :: es) t) (hN : X.N.Nodup)
    (hj : X.N[j]? = some n) (hn : X.env.scope.names.lookup n = some .local) (hx : Gl X x) (hR : X.mg x = some (.ref R)) (hs : ∀ a, PSs (cxS X a) (b₀ :: suite) (ts a)) (hk : k ≤ k' := by decide)
    (hdf : (f == ("__debug__" : Str)) = false := by decide) (hdx : (x == ("__debug__" : Str)) = false := by decide)
    (he : starEach (e :: es) X.env = (false, eval e X.env) :: starEach es X.env := by rfl) (hpl : (backTo cpos (starEach es X.env)).any (·.1) = false := by rfl)
    (hsw : swapsWith (.Call (.Name f fp) (e :: es) [] cpos) none epos.line X.env = pure false := by rfl) :
    PS X (.Try [.Expr (.Call (.Name f fp) (e :: es) [] cpos) epos] [.ExceptHandler (some (.Name x xp)) (some n) (b₀ :: suite) hpos] [] [] pos) (tTryExpr X.base R sp j t ts) := by
  intro pins s σ H D I h
  obtain ⟨gf, gd, hm, hkp, hb, F⟩ := C.ex
  refine wpAny_Try_except (wpAny_execs_cons (wpAny_Expr_any (wpAny_Call_Name_kw (ld_glob I hg hm ?_ hdf)) I.quiet hsw))
  refine PySem.W.callWith_K (h₀ := X.base) I.ok.mod.kin hkp (wpAny_mono (ha cpos pins s σ H _ (I.wish _) h) (fun us s1 ⟨vs, H1, I1', r, q⟩ => ⟨I1'.kIn, ?_⟩) fun _ _ z => z.elim) he hpl
  have I1 : Inv X pins σ H1 s1 := I1'.unwish
  have hl : (us ++ []).length = ps.length := by
    rw [List.append_nil, ← r.length]; exact F.len _ _ _ _ q
  refine wpAny_call (codeAny_mono (F.run X.A X.stack s1 H1 ⟨us, []⟩ (us ++ []) vs _ _ (hr.mono hk) I1.env0 (hb s1 us I1.kIn hl) (by rw [List.append_nil]; exact r) q) fun rs s2 hq => ?_)
  cases rs with
  | ok fl =>
    cases fl with
    | ret u =>
      obtain ⟨y, H2, I2, ry, q2⟩ := I1.after hq
      exact wpAny_execs_nil (wpAny_execs_nil ⟨_, H2, I2, q2⟩)
    | next => exact False.elim hq
    | brk => exact False.elim hq
    | cont => exact False.elim hq
  | error ev => exact try_lands hstk hfr hex hN hj hn hx hR hs hdx I I1 hq
end L2
namespace L2
open PySem PySem.Spec PyProof.Rows
theorem Room.hu {k : Nat} {A : Around} (r : Room k A) : A.units + 1 < cLine := by have := r.un; omega
/-! ### len of a dict whose keys are tuples -/
theorem meets_lenT {prog : Program} {w : World} {d : Addr} (hd : (d == sysModules) = false) :
    MeetsIn prog w (Builtin.«dict.__len__» ⟨[.ref d], []⟩) (fun _ R s => ∃ n o es ep, s.heap.get? d = some o ∧ o.data = .dict es ep ∧ es.size = n ∧ R (.ok (.ret (.int n s.toks))) { s with toks := s.toks + 1 }) :=
  .of_wp fun A R s ⟨n, o, es, ep, ho, hdat, hn, h⟩ => by
    show wpAny _ _ (dictSize d >>= _) _ _ s
    unfold dictSize
    refine wpAny_bind (wpAny_bind (wpAny_dictEntries ho hdat (wpAny_pure ?_)))
    show wpAny _ _ (Builtin.Dict.pendingCount d >>= _) _ _ s
    refine wpAny_bind (wpAny_pendingCount_other hd ?_)
    refine wpAny_ret_mkInt ?_
    rw [Nat.add_zero, hn]; exact h
theorem len_bodyT {prog : Program} {w : World} {A : Around} {E : Value → Shared → Prop} {s : Shared} {d : Addr} {n : Nat} {o : Obj} {es : Array DictEntry} {ep : Nat} {Q : Value → Shared → Prop} (hd : (d == sysModules) = false) (hty : s.TypeIs (.ref d) "dict")
    (ho : s.heap.get? d = some o) (hdat : o.data = .dict es ep) (hn : es.size = n) (hfit : (n : Int) < 2 ^ 63)
    (h : Q (.int n (s.toks + 1)) { s with toks := s.toks + 1 + 1 }) : wpAny (model prog w) A (Builtin.«len» ⟨[.ref d], []⟩) (fun fin s' => ∃ r, fin = .done (.ret r) ∧ Q r s') E s := by
  unfold Builtin.«len»
  refine wpAny_bind (m := oneArg "len" _) (wpAny_pure ?_)
  refine wpAny_bind (m := callSpecial? (.ref d) (Str.ofString "__len__")) (wpAny_callSpecial?_slot (name := Str.ofString "__len__") hty PySem.F.slot_dict_len
    (call_meetsIn PySem.F.slot_dict_len hty PySem.F.entry_dict_len (PySem.F.args_dict_len_1 _) (meets_lenT hd) ⟨n, o, es, ep, ho, hdat, hn, ?_⟩))
  show wpAny _ _ _ _ _ { s with toks := s.toks + 1 }
  refine wpAny_bind (wpAny_holding (wpAny_pure ?_))
  refine wpAny_bind (wpAny_letGo ?_)
  show wpAny _ _ (if ((n : Nat) : Int) < 0 then _ else _) _ _ _
  rw [if_neg (by omega)]
  show wpAny _ _ (if ((n : Nat) : Int) ≥ 2 ^ 63 then _ else _) _ _ _
  rw [if_neg (by omega)]
  exact wpAny_bind (wpAny_mkInt (wpAny_pure ⟨_, rfl, h⟩))
theorem call_lenT {X : Cx} : CallR X (.builtin "len") (fun xs H Q => ∃ a kvs, xs = [V.ref a] ∧ H a = some (.dT kvs) ∧ Q (.int kvs.length) H) := by
  intro pins s σ H xs us Q I r h
  obtain ⟨a, kvs, rfl, ha, q⟩ := h
  obtain ⟨u, rfl, ru⟩ := vals1 r
  cases ru
  obtain ⟨z, hd, xs, rel, dd⟩ := dt_of I.hok ha
  have ty := dd.typeIs
  obtain ⟨o, es, ep, ho, hc, hdat, he, _⟩ := id dd
  have e1 : es.size = kvs.length := by
    rw [size_of_entries he]; exact rel.length.symm
  refine PySem.Calls.call_function_entry PySem.kind_len PySem.plain_len PySem.entry_len (PySem.args_len1 _) (len_bodyT hd ty ho hdat e1 (by rw [sizeLine_eq] at z; omega) ?_)
  exact ⟨.int kvs.length, H, I.tok _, ⟨_, rfl⟩, q⟩
end L2
namespace L2
open PySem PySem.Spec PyProof.Rows
/-! ### a truth in a list of truths -/
end L2
namespace L2
open PySem PySem.Spec PyProof.Rows
/-! ### isinstance(x, (list, tuple)) -/
theorem kit_lt {K : PySem.W.Frag} {t : String} (ht : t ∈ ["NoneType", "bool", "int", "str", "list", "tuple", "dict"]) : PySem.W.kitAny K (.type t) [.type "list", .type "tuple"] = some (t == "list" || t == "tuple") := by
  simp only [List.mem_cons, List.not_mem_nil, or_false] at ht
  rcases ht with rfl | rfl | rfl | rfl | rfl | rfl | rfl <;> kernel_rfl
theorem v_isiT {X : Cx} : CallR X (.builtin "isinstance") (fun xs H Q => ∃ x p t, xs = [x, .ref p] ∧ H p = some (.tup [.ty "list", .ty "tuple"]) ∧ tyNm H x = some t ∧ Q (.bl (t == "list" || t == "tuple")) H) := by
  intro pins s σ H xs us Q I r h
  obtain ⟨x, tp, t, rfl, ht, hx, q⟩ := h
  obtain ⟨u, v, rfl, ru, rv⟩ := r.two
  cases rv
  obtain ⟨ty, hm⟩ := tyNm_of (K := X.K) hx
  have e := kit_lt (K := X.K) hm
  have fin : ∀ tk, EP X pins σ Q (.bool (t == "list" || t == "tuple")) { s with toks := tk } := fun tk => ⟨.bl _, H, I.tok tk, rfl, q⟩
  obtain ⟨its, r2, p2, _⟩ := I.tuple (SqT.of ht)
  have ei : its = [Value.type "list", Value.type "tuple"] := by
    obtain ⟨a, b, rfl, r3, r4⟩ := vals2 r2
    cases (show a = Value.type "list" from r3)
    cases (show b = Value.type "tuple" from r4)
    rfl
  subst ei
  obtain ⟨⟨cls, dd, data, sl⟩, ho, hc, n, hd⟩ := id p2
  simp only at hc hd
  subst hc hd
  cases ty with
  | non => cases (show u = Value.none from ru); exact PySem.W.kia_tup PySem.W.kitx_none I.kIn True.intro ho e (fun z => nomatch z) fin
  | bl y => cases (show u = Value.bool y from ru); exact PySem.W.kia_tup PySem.W.kitx_bool I.kIn True.intro ho e (fun z => nomatch z) fin
  | int i => obtain ⟨t, q⟩ := (show ∃ t, u = Value.int i t from ru); cases q; exact PySem.W.kia_tup PySem.W.kitx_int I.kIn True.intro ho e (fun z => nomatch z) fin
  | str y => obtain ⟨t, q⟩ := (show ∃ t, u = Value.str y t from ru); cases q; exact PySem.W.kia_tup PySem.W.kitx_str I.kIn True.intro ho e (fun z => nomatch z) fin
  | flt y => obtain ⟨t, q⟩ := (show ∃ t, u = Value.float y t from ru); cases q; exact PySem.W.kia_tup PySem.W.kitx_float I.kIn True.intro ho e (fun z => nomatch z) fin
  | @lst a xs ea =>
    cases (show u = Value.ref a from ru)
    obtain ⟨_, _, n, _, h1⟩ := (show ObjOk X.prog X.w H s.heap a (.lst xs) from I.hok a _ ea)
    exact PySem.W.kia_tup PySem.W.kitx_list I.kIn ⟨_, h1, rfl⟩ ho e (fun z => nomatch z) fin
  | @frz a ob xs ea =>
    cases (show u = Value.ref a from ru)
    obtain ⟨_, _, _, n, _, h1⟩ := (show ObjOk X.prog X.w H s.heap a (.frz ob (.lst xs)) from I.hok a _ ea)
    exact PySem.W.kia_tup PySem.W.kitx_list I.kIn ⟨_, h1, rfl⟩ ho e (fun z => nomatch z) fin
  | @tup a xs ea =>
    cases (show u = Value.ref a from ru)
    obtain ⟨_, _, _, p⟩ := (show ObjOk X.prog X.w H s.heap a (.tup xs) from I.hok a _ ea)
    obtain ⟨o, h1, h2, _⟩ := p
    exact PySem.W.kia_tup PySem.W.kitx_tuple I.kIn ⟨o, h1, h2⟩ ho e (fun z => nomatch z) fin
  | @dK a kvs ea =>
    cases (show u = Value.ref a from ru)
    obtain ⟨_, _, vs, _, p⟩ := (show ObjOk X.prog X.w H s.heap a (.dK kvs) from I.hok a _ ea)
    obtain ⟨o, es, ep, h1, h2, _⟩ := p
    exact PySem.W.kia_tup PySem.W.kitx_dict I.kIn ⟨o, h1, h2.1⟩ ho e (fun z => nomatch z) fin
  | @dT a kvs ea =>
    cases (show u = Value.ref a from ru)
    obtain ⟨_, _, xs, _, o, es, ep, h1, h2, _⟩ := (show ObjOk X.prog X.w H s.heap a (.dT kvs) from I.hok a _ ea)
    exact PySem.W.kia_tup PySem.W.kitx_dict I.kIn ⟨o, h1, h2.1⟩ ho e (fun z => nomatch z) fin
end L2
/-! ### a, b, c = a list of three -/
namespace PyProof.Rows
open PySem
section
variable {prog : Program} {w : World} {A : Around} {E : Value → Shared → Prop} {s : Shared}
theorem draw_list {it t : Addr} {items : Array Value} (hne : t ≠ it) : ∀ (n i : Nat) (s : Shared) (Q : List Value → Shared → Prop), s.heap.IsListIter it t i → s.heap.IsList t items → i + n ≤ items.size →
    (∀ h' : Heap, h'.IsListIter it t (i + n) → Heap.SameBut it s.heap h' → Q ((items.toList.drop i).take n) { s with heap := h' }) → wpAny (model prog w) A (draw (.ref it) n) Q E s
  | 0, i, s, Q, hit, _, _, hQ => by
    show wpAny _ _ (pure []) Q E s
    exact wpAny_pure (by simpa using hQ s.heap hit (Heap.SameBut.refl ..))
  | n + 1, i, s, Q, hit, ht, hle, hQ => by
    have hlt : i < items.size := by omega
    show wpAny _ _ (pyNext (.ref it) >>= _) Q E s
    refine wpAny_bind (wpAny_pyNext_list_item hit ht (x := items[i]) (by simp [hlt]) fun h₁ hit₁ hs₁ => ?_)
    refine wpAny_bind (wpAny_holding (draw_list hne n (i + 1) _ _ hit₁ (ht.extBut hs₁.extBut hne) (by omega) fun h₂ hit₂ hs₂ => wpAny_pure ?_))
    have hd : items.toList.drop i = items[i] :: items.toList.drop (i + 1) := by simp [List.drop_eq_getElem_cons, hlt]
    have := hQ h₂ (by rw [show i + (n + 1) = i + 1 + n by omega]; exact hit₂) (hs₁.trans hs₂)
    rw [hd, List.take_succ_cons] at this
    exact this
theorem unpackItems_list {t : Addr} {items : Array Value} {Q : List Value → Shared → Prop} (hh : A.handled = none) (ht : s.heap.IsList t items)
    (hQ : ∀ h', Heap.ExtBut s.heap.objs.size s.heap h' → Q items.toList { s with heap := h' }) : wpAny (model prog w) A (unpackItems (.ref t) items.size none) Q E s := by
  have hlt : t ≠ s.heap.objs.size := by obtain ⟨o, ho, _⟩ := ht; exact Nat.ne_of_lt (Heap.lt_size ho)
  unfold unpackItems
  refine wpAny_bind ?_
  · unfold notIterableAtAll
    refine wpAny_bind (wpAny_specialOf ht.typeIs slot_list_iter.lookup ?_)
    refine wpAny_pure ?_
    simp only [Bool.false_eq_true, if_false]
    refine wpAny_bind (wpAny_holding (wpAny_pyIter_list ht ?_))
    refine wpAny_bind (wpAny_holding (draw_list hlt items.size 0 _ _ ⟨_, Heap.get?_push_size _ rfl, rfl, rfl⟩ (ht.push _) (by omega) fun h₁ hit₁ hs₁ => ?_))
    have hall : List.take items.size (List.drop 0 items.toList) = items.toList := by
      rw [List.drop_zero]; exact List.take_of_length_le (by simp)
    rw [hall]
    rw [if_neg (by simp)]
    have ht₁ : h₁.IsList t items := (ht.push _).extBut hs₁.extBut hlt
    refine wpAny_bind (wpAny_holding (wpAny_pyNext_list_end hh hit₁ ht₁ (by simp) fun h₂ he₂ => ?_))
    simp only [Option.isSome_none, Bool.false_eq_true, if_false]
    refine wpAny_pure (hQ h₂ fun b o hb e => he₂ b o hb (hs₁.extBut b o hb (Heap.get?_push_of_some _ e)))
theorem unpack_list {t : Addr} {items : Array Value} {targets : List (Bool × (Value → Sem Unit))} {Q : Unit → Shared → Prop} (hh : A.handled = none) (ht : s.heap.IsList t items)
    (hn : targets.length = items.size) (hstar : targets.findIdx? (·.1) = none)
    (h : ∀ h', Heap.ExtBut s.heap.objs.size s.heap h' → wpAny (model prog w) A (assignInOrder (targets.map (·.2)) items.toList) Q E { s with heap := h' }) :
    wpAny (model prog w) A (unpack (.ref t) targets) Q E s := by
  unfold unpack
  rw [hn, hstar]
  exact wpAny_bind (wpAny_holding (unpackItems_list hh ht h))
theorem assign_Tuple_list {env : Env} {elts : List Expr} {x1} {pos : Pos} {t : Addr} {items : Array Value} {Q : Unit → Shared → Prop} (hh : A.handled = none) (ht : s.heap.IsList t items)
    (hn : (assignEach elts env).length = items.size) (hstar : (assignEach elts env).findIdx? (·.1) = none)
    (h : ∀ h', Heap.ExtBut s.heap.objs.size s.heap h' → wpAny (model prog w) A (assignInOrder ((assignEach elts env).map (·.2)) items.toList) Q E { s with heap := h' }) :
    wpAny (model prog w) A (assign (.Tuple elts x1 pos) env (.ref t)) Q E s := by
  rw [assign_Tuple]
  exact wpAny_bind (wpAny_standAt (unpack_list hh ht hn hstar h))
end
end PyProof.Rows
namespace L2
open PySem PySem.Spec PyProof.Rows
section
variable {X : Cx} {pos : Pos}
def gLst (K : PySem.W.Frag) (n : Nat) (t : TGs) : TG := fun v σ H Q => ∃ a xs, v = .ref a ∧ SqL K H a xs ∧ xs.length = n ∧ t xs σ H Q
theorem xglst (K : PySem.W.Frag) {es : List Expr} {k : Nat} {t : TGs} {n : Nat} (hc : X.calm = true) (h : PGs X es t) (hK : X.K = K := by rfl)
    (hn : (assignEach es X.env).length = n := by rfl) (hst : (assignEach es X.env).findIdx? (·.1) = none := by rfl) : PG X (.Tuple es k pos) (gLst K n t) := by
  subst hK
  intro pins s σ H v u Q I r hw
  obtain ⟨a, xs, e1, hq, hl, hw⟩ := hw
  subst e1
  cases r
  obtain ⟨its, rv, ⟨o, n, eo, ec, _, ed⟩, hz⟩ := I.list hq
  refine assign_Tuple_list (I.ok.hd hc) ⟨o, eo, ec, n, ed⟩ (by simp [hn, ← hl, rv.length]) hst fun h' hx => ?_
  have I1 : Inv X pins σ H { s with heap := h' } := I.kept (t' := s.toks) fun b o e => hx b o (Nat.ne_of_lt (Heap.lt_size e)) e
  exact h pins _ σ H xs _ Q I1 (by simpa using rv) hw
end
end L2
namespace L2
open PySem PySem.Spec PyProof.Rows
theorem xclear (K : PySem.W.Frag) {X : Cx} {o : Expr} {to : TE} {apos cpos : Pos} (ho : PE X o to) (hK : X.K = K := by rfl) (hbase : attributeBase o "clear" X.env (eval o X.env) = eval o X.env := by rfl) (hline : (apos.endLine == cpos.line) = true := by rfl) :
    PE X (.Call (.Attribute o "clear" apos) [] [] cpos) (tBM0 K "list" rClear to) := by
  subst hK
  exact pe_bm0 PySem.F.plainAttrs_list PySem.F.slot_list_clear PySem.F.type_list_clear mt_clear ho hbase hline
end L2
namespace L2
open PySem PySem.Spec PyProof.Rows
/-! ### range(a, b, -1) -/
/-- lo, lo - 1, .. (n of them) -/
def Itd (lo : Int) (n : Nat) : It := ⟨fun i _ => i < n, fun i H x H' => H' = H ∧ x = .int (lo - i), fun i _ => n ≤ i⟩
theorem turn_down {P : Program} {w : World} {K : PySem.W.Frag} {tg : Expr} (it : Addr) (lo : Int) (n : Nat) : Turn P w K tg (Itd lo n) [it] it (fun i h => IsRangeIter h it (lo + (i : Nat) * (-1)) ((n : Int) - (i : Nat)) (-1)) where
  mem := by simp
  obj := fun i h st b hb => by
    have e : b = it := by simpa using hb
    subst e
    exact ⟨_, st, fun v z => by
      have z' : Data.fields _ = Data.cell v := z
      cases z'⟩
  keep := fun i h h' st k => k it (by simp) _ st
  item := by
    intro X hP hw hK hc i pins s σ H E I hf st hg
    subst hP hw hK
    obtain ⟨f0, f1, f2, f3, f4, f5⟩ := hf it (by simp)
    have W := Walks.range (prog := X.prog) (w := X.w) (I.ok.hd hc) it lo (-1) n
    refine W.item i s _ _ hg st fun v h' tk hv st' kk => ?_
    obtain ⟨t, rfl⟩ := hv
    have I1 : Inv X pins σ H { s with heap := h', toks := tk } := I.turned (fun b o hb e => kk b o (by simpa using hb) e) f0 f1 f3 f4 f5
    refine ⟨_, rfl, go_of (s := { s with heap := h', toks := tk }) (n := "range_iterator") st' rfl rfl (by decide) ⟨.int (lo - i), H, I1, ⟨t, ?_⟩, ⟨rfl, rfl⟩, st', fun b hb => (hf b hb).1⟩⟩
    rw [Int.mul_neg_one]; rfl
  done := by
    intro X hP hw hK hc i pins s σ H E I hf st hg
    subst hP hw hK
    obtain ⟨f0, f1, f2, f3, f4, f5⟩ := hf it (by simp)
    exact wpAny_pyNext_range_end (I.ok.hd hc) st (by have : n ≤ i := hg; omega) fun h' eb => ⟨rfl, I.turned (t' := s.toks) (fun b o hb e => eb b o hb e) f0 f1 f3 f4 f5⟩
  self := fun _ _ _ _ _ st h => wpAny_pyIter_rangeiter st h
theorem rangeSize_down (a b : Int) : Builtin.Range.rangeSize a b (-1) = if b < a then a - b else 0 := by
  unfold Builtin.Range.rangeSize
  simp only [show ¬ (-1 : Int) > 0 by decide, if_false, Int.neg_neg, Int.ediv_one]
  split <;> omega
theorem small_down {a b : Int} (ha : -(2 ^ 62) ≤ a) (ha' : a < 2 ^ 62) (hb : -(2 ^ 62) ≤ b) (hb' : b < 2 ^ 62) : Builtin.Range.small a b (-1) = true := by
  unfold Builtin.Range.small
  rw [rangeSize_down]
  simp only [Builtin.Range.rangeFitsLong, Bool.and_eq_true, Bool.or_eq_true, decide_eq_true_eq, beq_iff_eq, show ¬ (-1 : Int) > 0 by decide, if_false]
  split <;> omega
section
variable {X : Cx} {tg : Expr}
theorem down_it {pins : List (Addr × Obj)} {σ : St} {H : Hp} {s : Shared} {R : It → Hp → Prop} {E : Value → Shared → Prop} {lo hi : Int} {t u v : Tok} {tk : Nat} (I : Inv X pins σ H s) (h1 : -(2 ^ 62) ≤ lo) (h2 : lo < 2 ^ 62) (h3 : -(2 ^ 62) ≤ hi) (h4 : hi < 2 ^ 62)
    (q : R (Itd lo (lo - hi).toNat) H) : wpAny (model X.prog X.w) X.A (pyIter (.ref s.heap.objs.size)) (PIE X pins σ tg R) E { s with heap := s.heap.push { cls := .type "range", data := .fields #[.int lo t, .int hi u, .int (-1) v] }, toks := tk } := by
  refine wpAny_pyIter_range (IsRange.new ..) (small_down h1 h2 h3 h4) ?_
  have I1 : Inv X pins σ H { s with heap := s.heap.push { cls := .type "range", data := .fields #[.int lo t, .int hi u, .int (-1) v] }, toks := tk } := I.kept fun b o e => Heap.get?_push_of_some _ e
  refine ⟨(s.heap.push { cls := .type "range", data := .fields #[.int lo t, .int hi u, .int (-1) v] }).objs.size, [(s.heap.push { cls := .type "range", data := .fields #[.int lo t, .int hi u, .int (-1) v] }).objs.size], _, _, H, rfl,
    I1.kept (t' := tk) fun b o e => Heap.get?_push_of_some _ e, turn_down _ lo (lo - hi).toNat, ?_, fun b hb => ?_, q⟩
  · have e1 : lo + ((0 : Nat) : Int) * (-1) = lo := by simp
    have e2 : (((lo - hi).toNat : Nat) : Int) - ((0 : Nat) : Int) = Builtin.Range.rangeSize lo hi (-1) := by rw [rangeSize_down]; split <;> omega
    show IsRangeIter _ _ (lo + ((0 : Nat) : Int) * (-1)) ((((lo - hi).toNat : Nat) : Int) - ((0 : Nat) : Int)) (-1)
    rw [e1, e2]
    exact Heap.get?_push_size _ rfl
  · have e : b = (s.heap.push { cls := .type "range", data := .fields #[.int lo t, .int hi u, .int (-1) v] }).objs.size := by simpa using hb
    subst e
    exact I1.fpOk (Nat.le_refl _) (I1.hok.fresh (Nat.le_refl _))
def iRngD (ta : TA) : TI := fun σ H R => ta σ H fun vs H1 => ∃ i j : Int, vs = [.int i, .int j, .int (-1)] ∧ (-(2 ^ 62) ≤ i ∧ i < 2 ^ 62 ∧ -(2 ^ 62) ≤ j ∧ j < 2 ^ 62) ∧ R (Itd i (i - j).toNat) H1
theorem pi_rangeD {a b c : Expr} {ta : TA} {p pos : Pos} (hg : Gl X "range") (hm : X.mg "range" = none) (ha : PA X [a, b, c] ta) (hs : starEach [a, b, c] X.env = (false, eval a X.env) :: starEach [b, c] X.env := by rfl) (hs2 : (backTo pos (starEach [b, c] X.env)).any (·.1) = false := by rfl) :
    PI X tg (.Call (.Name "range" p) [a, b, c] [] pos) (iRngD ta) := by
  intro pins s σ H R I h
  refine Call_ (ld_blt I hg hm boot_range (PyProof.Rows.callWith_type1 (thn (ha pos pins s σ H _ I h) fun us s1 ⟨vs, H1, I1, r1, q1⟩ => ?_) hs hs2))
  obtain ⟨i, j, e, ⟨q1, q2, q3, q4⟩, q⟩ := q1
  subst e
  cases r1 with
  | cons r rr =>
    cases rr with
    | cons r' rr =>
      cases rr with
      | cons r'' rr =>
        cases rr
        obtain ⟨t, rfl⟩ := r
        obtain ⟨t', rfl⟩ := r'
        obtain ⟨t'', rfl⟩ := r''
        exact call_range_3 (by decide) (down_it (tk := s1.toks) I1 q1 q2 q3 q4 q) (.inl (PyProof.noPylong_small (by omega)))
end
theorem for_down {lo : Int} {n : Nat} {g : TG} {tb : TS} {D : Ends} {σ : St} {H : Hp} (Pv : Nat → St → Hp → Prop) (h0 : Pv 0 σ H)
    (hs : ∀ i σ H, i < n → Pv i σ H → g (.int (lo - i)) σ H fun σ2 H2 => tb { D with nx := Pv (i + 1), ct := Pv (i + 1), bk := D.nx } σ2 H2) (hd : ∀ σ H, Pv n σ H → D.nx σ H) :
    ∃ W : Nat → Nat → St → Hp → Prop, (∃ m, W 0 m σ H) ∧ ∀ i m σ H, W i m σ H →
      ((Itd lo n).stop i H ∧ D.nx σ H) ∨ ((Itd lo n).go i H ∧ ∃ N : St → Hp → Prop, (∀ σ' H', N σ' H' → ∃ m', m' < m ∧ W (i + 1) m' σ' H') ∧ ∀ x H', (Itd lo n).yld i H x H' → g x σ H' fun σ2 H2 => tb { D with nx := N, ct := N, bk := D.nx } σ2 H2) := by
  refine ⟨fun i m σ H => m = n - i ∧ i ≤ n ∧ Pv i σ H, ⟨n, by simp, Nat.zero_le _, h0⟩, ?_⟩
  rintro i m σ H ⟨rfl, hi, p⟩
  by_cases hlt : i < n
  · refine .inr ⟨hlt, Pv (i + 1), fun σ' H' p' => ⟨n - (i + 1), by omega, rfl, hlt, p'⟩, fun x H' y => ?_⟩
    obtain ⟨e, y⟩ := y
    subst e y
    exact hs i σ _ hlt p
  · have e : i = n := by omega
    subst e
    exact .inl ⟨Nat.le_refl _, hd σ H p⟩
end L2
namespace L2
open PySem PySem.Spec PyProof.Rows
/-! ### a tuple times a number from 2 on -/
section
variable {X : Cx}
def rMulW (K : PySem.W.Frag) : R2 := fun x y H Q => match x, y with
  | .int i, .int j => IntMulOk i j ∧ Q (.int (i * j)) H
  | .ref l, .int k => ∃ xs, SqT K H l xs ∧ 0 ≤ k ∧ k < 1000 ∧ xs.length * k.toNat ≤ 10000 ∧ (xs = [] ∨ k = 1 → Q (.ref l) H) ∧ (xs ≠ [] → k ≠ 1 → ∀ p, H p = none → Q (.ref p) (upd H p (.tup (List.replicate k.toNat xs).flatten)))
  | _, _ => False
end
end L2
namespace L2
open PySem PySem.Spec PyProof.Rows
/-! ### list(range(n)) -/
theorem vals_from : ∀ (ys : List Value) (k : Nat), (∀ (i : Nat) (v : Value), ys[i]? = some v → ∃ t, v = Value.int ((k + i : Nat) : Int) t) → Vals ((List.range ys.length).map fun i => V.int ((k + i : Nat) : Int)) ys
  | [], _, _ => .nil
  | y :: r, k, h => by
    rw [List.length_cons, List.range_succ_eq_map, List.map_cons, List.map_map]
    obtain ⟨t, e⟩ := h 0 y rfl
    have q := vals_from r (k + 1) fun i v hv => by
      obtain ⟨t, e⟩ := h (i + 1) v (by simpa using hv)
      exact ⟨t, by rw [e, show k + 1 + i = k + (i + 1) by omega]⟩
    refine .cons ⟨t, by rw [e]⟩ ?_
    have e2 : ((fun i => V.int ((k + i : Nat) : Int)) ∘ Nat.succ) = fun i => V.int ((k + 1 + i : Nat) : Int) := by
      funext i
      show V.int ((k + (i + 1) : Nat) : Int) = _
      rw [show k + (i + 1) = k + 1 + i by omega]
    rw [e2]; exact q
section
variable {X : Cx}
def tListR (ta : TA) : TE := fun σ H Q => ta σ H fun vs H1 => ∃ n : Nat, vs = [.int n] ∧ n ≤ 1000 ∧ ∀ l, H1 l = none → Q (.ref l) (upd H1 l (.lst ((List.range n).map fun i => V.int (i : Nat))))
theorem pe_listRange {a : Expr} {ta : TA} {p p2 pos pos2 : Pos} (hc : X.calm = true) (hg : Gl X "list") (hm : X.mg "list" = none) (hg2 : Gl X "range") (hm2 : X.mg "range" = none) (ha : PA X [a] ta)
    (hs2 : starEach [a] X.env = [(false, eval a X.env)] := by rfl)
    (hs : starEach [.Call (.Name "range" p2) [a] [] pos2] X.env = [(false, eval (.Call (.Name "range" p2) [a] [] pos2) X.env)] := by rfl) :
    PE X (.Call (.Name "list" p) [.Call (.Name "range" p2) [a] [] pos2] [] pos) (tListR ta) := by
  intro pins s σ H Q I h
  refine wpAny_Call_Name_kw (ld_blt I hg hm boot_list ?_ (by decide) (by decide))
  refine PyProof.Rows.callWith_type1 ?_ hs rfl
  rw [hs]
  show wpAny _ _ (spliced ((false, eval (.Call (.Name "range" p2) [a] [] pos2) X.env) :: backTo pos [])) _ _ s
  refine Calls.spliced_cons ?_
  refine Call_ (ld_blt I hg2 hm2 boot_range (PyProof.Rows.callWith_type1 (thn (ha pos2 pins s σ H _ I h) fun us s1 ⟨vs, H1, I1, r1, q1⟩ => ?_) hs2 rfl))
  obtain ⟨n, e, hn, q⟩ := q1
  subst e
  cases r1 with
  | cons r rr =>
    cases rr
    obtain ⟨t, rfl⟩ := r
    refine call_range_1 ?_
    refine Calls.spliced_nil ?_
    have I2 : Inv X pins σ H1 { s1 with heap := s1.heap.push { cls := .type "range", data := .fields #[.int 0 s1.toks, .int (n : Int) t, .int 1 (s1.toks + 1)] }, toks := s1.toks + 1 + 1 } := I1.kept fun b o e => Heap.get?_push_of_some _ e
    have z24 : n ≤ 2 ^ 24 := Nat.le_trans hn (by decide)
    have sz : Builtin.Range.rangeSize 0 (n : Int) 1 = (n : Int) := by rw [rangeSize_one]; split <;> omega
    have sm1 : Builtin.Range.small 0 (n : Int) 1 = true := small_one (by decide) (by decide) (by omega) (by omega)
    refine call_list_range (n := n) (I1.ok.hd hc) (IsRange.new ..) sm1 sz z24 fun h' tk acc' c' hk hS hacc => ?_
    have hv := vals_from acc'.toList 0 fun i v hv => by
      obtain ⟨t, e⟩ := hacc.2 i v (by simpa using hv)
      exact ⟨t, by rw [e]; simp⟩
    have hl : acc'.toList.length = n := by simpa using hacc.1
    rw [hl] at hv
    have ev : ((List.range n).map fun i => V.int ((0 + i : Nat) : Int)) = (List.range n).map fun i => V.int (i : Nat) := List.map_congr_left fun i _ => by rw [Nat.zero_add]
    rw [ev] at hv
    refine ⟨.ref _, _, I2.laid (t' := tk) (o := .lst ((List.range n).map fun i => V.int (i : Nat))) hk (Nat.le_refl _) ?_, rfl, q _ (I2.hok.fresh (Nat.le_refl _))⟩
    exact ⟨by rw [List.length_map, List.length_range]; exact Nat.le_of_lt (small1000 hn), acc'.toList, c', hv, by simpa using hS⟩
end
end L2
namespace Rm
/-! ### rows, as plain functions -/
def tk (b n : Int) : Int := if b = 0 then n else n % b
theorem tk_zero (n : Int) : tk 0 n = n := if_pos rfl
theorem tk_pos {b : Int} (h : b ≠ 0) (n : Int) : tk b n = n % b := if_neg h
theorem tk_tk (b n : Int) : tk b (tk b n) = tk b n := by
  unfold tk; split
  · rfl
  · exact Int.emod_emod_of_dvd _ (Int.dvd_refl b)
theorem tk_add_l (b x y : Int) : tk b (tk b x + y) = tk b (x + y) := by
  unfold tk; split
  · rfl
  · exact Int.emod_add_emod ..
theorem tk_add_r (b x y : Int) : tk b (x + tk b y) = tk b (x + y) := by
  rw [Int.add_comm, tk_add_l, Int.add_comm]
theorem tk_mul_r (b x y : Int) : tk b (x * tk b y) = tk b (x * y) := by
  unfold tk; split
  · rfl
  · rw [Int.mul_emod, Int.emod_emod_of_dvd _ (Int.dvd_refl b), ← Int.mul_emod]
theorem tk_mul_l (b x y : Int) : tk b (tk b x * y) = tk b (x * y) := by
  rw [Int.mul_comm, tk_mul_r, Int.mul_comm]
theorem tk_congr_add {b x x' y y' : Int} (h : tk b x = tk b x') (h' : tk b y = tk b y') : tk b (x + y) = tk b (x' + y') := by
  rw [← tk_add_l, ← tk_add_r, h, h', tk_add_r, tk_add_l]
/-- the sum over k below m of rule[k] times f (n - 1 - k) -/
def S (rule : List Int) (f : Nat → Int) (n : Nat) : Nat → Int
  | 0 => 0
  | m + 1 => S rule f n m + rule.getD m 0 * f (n - 1 - m)
theorem S_congr {rule : List Int} {f g : Nat → Int} {n : Nat} : ∀ {m : Nat}, (∀ k, k < m → f (n - 1 - k) = g (n - 1 - k)) → S rule f n m = S rule g n m
  | 0, _ => rfl
  | m + 1, h => by
    unfold S
    rw [S_congr fun k hk => h k (by omega), h m (by omega)]
theorem S_shift {rule : List Int} {f : Nat → Int} {n d : Nat} : ∀ {m : Nat}, m ≤ n → S rule (fun i => f (d + i)) n m = S rule f (d + n) m
  | 0, _ => rfl
  | m + 1, h => by
    unfold S
    rw [S_shift (by omega), show d + n - 1 - m = d + (n - 1 - m) by omega]
theorem getD_map {f : Int → Int} (h0 : f 0 = 0) : ∀ (l : List Int) (k : Nat), (l.map f).getD k 0 = f (l.getD k 0)
  | [], k => by simp [h0]
  | x :: r, 0 => by simp
  | x :: r, k + 1 => by
    have := getD_map h0 r k
    simpa using this
/-- the first n places -/
def row (b : Int) (rule starts : List Int) : Nat → List Int
  | 0 => []
  | n + 1 => row b rule starts n ++ [if n < starts.length then starts.getD n 0 else tk b (S rule (fun i => (row b rule starts n).getD i 0) n rule.length)]
theorem row_len (b : Int) (rule starts : List Int) : ∀ n, (row b rule starts n).length = n
  | 0 => rfl
  | n + 1 => by simp [row, row_len b rule starts n]
def at_ (b : Int) (rule starts : List Int) (n : Nat) : Int := (row b rule starts (n + 1)).getD n 0
theorem row_get (b : Int) (rule starts : List Int) : ∀ {n i : Nat}, i < n → (row b rule starts n).getD i 0 = at_ b rule starts i
  | n + 1, i, h => by
    by_cases e : i = n
    · subst e; rfl
    · have hi : i < n := by omega
      have hl := row_len b rule starts n
      have := row_get b rule starts (n := n) (i := i) hi
      rw [← this]
      show (row b rule starts n ++ _).getD i 0 = _
      rw [List.getD_eq_getElem?_getD, List.getElem?_append_left (by omega), ← List.getD_eq_getElem?_getD]
theorem at_val (b : Int) (rule starts : List Int) (n : Nat) : at_ b rule starts n = if n < starts.length then starts.getD n 0 else tk b (S rule (fun i => (row b rule starts n).getD i 0) n rule.length) := by
  unfold at_
  have hl := row_len b rule starts n
  show (row b rule starts n ++ _).getD n 0 = _
  rw [List.getD_eq_getElem?_getD, List.getElem?_append_right (by omega), hl]
  simp
theorem at_lt {b : Int} {rule starts : List Int} {n : Nat} (h : n < starts.length) : at_ b rule starts n = starts.getD n 0 := by
  rw [at_val, if_pos h]
theorem at_ge {b : Int} {rule starts : List Int} {n : Nat} (hl : rule.length = starts.length) (h : starts.length ≤ n) : at_ b rule starts n = tk b (S rule (at_ b rule starts) n rule.length) := by
  rw [at_val, if_neg (by omega)]
  congr 1
  refine S_congr fun k hk => row_get b rule starts (by omega)
theorem row_eq (b : Int) (rule starts : List Int) : ∀ n, row b rule starts n = (List.range n).map (at_ b rule starts)
  | 0 => rfl
  | n + 1 => by
    rw [List.range_succ, List.map_append, ← row_eq b rule starts n]
    show _ ++ [_] = _ ++ [at_ b rule starts n]
    rw [at_val]
theorem row_succ (b : Int) (rule starts : List Int) (n : Nat) : row b rule starts (n + 1) = row b rule starts n ++ [at_ b rule starts n] := by
  rw [at_val]; rfl
/-- what goes by the rule is the row -/
theorem at_uniq {b : Int} {rule starts : List Int} (hl : rule.length = starts.length) {g : Nat → Int} (h1 : ∀ i, i < starts.length → g i = starts.getD i 0)
    (h2 : ∀ i, starts.length ≤ i → g i = tk b (S rule g i rule.length)) : ∀ n, at_ b rule starts n = g n := by
  intro n
  induction n using Nat.strongRecOn with
  | ind n ih =>
    by_cases h : n < starts.length
    · rw [at_lt h, h1 n h]
    · rw [at_ge hl (by omega), h2 n (by omega)]
      congr 1
      exact S_congr fun k hk => ih _ (by omega)
theorem row_starts {b : Int} {rule starts : List Int} : ∀ {n : Nat}, n ≤ starts.length → row b rule starts n = starts.take n
  | 0, _ => by simp [row]
  | n + 1, h => by
    rw [row_succ, row_starts (by omega), at_lt (by omega), List.take_add_one, List.getD_eq_getElem?_getD, List.getElem?_eq_getElem (by omega)]
    rfl
/-! ### sizes -/
def Bd (n : Nat) (x : Int) : Prop := x.natAbs < 2 ^ n
theorem Bd.mono {m n : Nat} {x : Int} (h : Bd m x) (hmn : m ≤ n) : Bd n x := Nat.lt_of_lt_of_le h (Nat.pow_le_pow_right (by decide) hmn)
theorem Bd.zero (n : Nat) : Bd n 0 := Nat.pow_pos (by decide)
theorem Bd.of {n : Nat} {x : Int} (h1 : -(2 ^ n) < x) (h2 : x < 2 ^ n) : Bd n x := by
  unfold Bd
  have e : ((2 ^ n : Nat) : Int) = (2 : Int) ^ n := by simp
  omega
theorem Bd.emod {n : Nat} {x b : Int} (hb : 0 < b) (h : Bd n b) : Bd n (x % b) := by
  unfold Bd at *
  have := Int.emod_nonneg x (show b ≠ 0 by omega)
  have := Int.emod_lt_of_pos x hb
  omega
theorem getD_mem_or (l : List Int) (k : Nat) : l.getD k 0 = 0 ∨ l.getD k 0 ∈ l := by
  by_cases h : k < l.length
  · right
    rw [List.getD_eq_getElem?_getD, List.getElem?_eq_getElem h]
    exact List.getElem_mem h
  · left
    rw [List.getD_eq_getElem?_getD, List.getElem?_eq_none (by omega)]
    rfl
theorem Bd.getD {l : List Int} {n : Nat} (h : ∀ x ∈ l, Bd n x) (k : Nat) : Bd n (l.getD k 0) := by
  rcases getD_mem_or l k with e | e
  · rw [e]; exact .zero n
  · exact h _ e
theorem tk_bd {b x : Int} {n : Nat} (hb : 0 ≤ b) (hb' : Bd n b) (h : Bd n x) : Bd n (tk b x) := by
  unfold tk
  split
  · exact h
  · exact Bd.emod (by omega) hb'
theorem at_range {b : Int} {rule starts : List Int} (hl : rule.length = starts.length) (hb : 0 < b) (hs : ∀ x ∈ starts, 0 ≤ x ∧ x < b) (n : Nat) : 0 ≤ at_ b rule starts n ∧ at_ b rule starts n < b := by
  by_cases h : n < starts.length
  · rw [at_lt h, List.getD_eq_getElem?_getD, List.getElem?_eq_getElem h]
    exact hs _ (List.getElem_mem h)
  · rw [at_ge hl (by omega), tk_pos (by omega)]
    exact ⟨Int.emod_nonneg _ (by omega), Int.emod_lt_of_pos _ hb⟩
end Rm
namespace Om
def primesN : List Nat := [2, 3, 5, 7, 11, 13, 17, 19, 23, 29, 31, 37, 41, 43, 47, 53, 59, 61, 67, 71, 73, 79, 83, 89, 97, 101, 103, 107, 109, 113, 127, 131, 137, 139, 149, 151, 157, 163, 167, 173, 179, 181, 191, 193, 197, 199, 211, 223, 227, 229, 233, 239, 241, 251, 257, 263, 269, 271, 277, 281, 283, 293, 307, 311, 313, 317, 331, 337, 347, 349, 353, 359, 367, 373, 379, 383, 389, 397, 401, 409, 419, 421, 431, 433, 439, 443, 449, 457, 461, 463, 467, 479, 487, 491, 499, 503, 509, 521, 523, 541, 547, 557, 563, 569, 571, 577, 587, 593, 599, 601, 607, 613, 617, 619, 631, 641, 643, 647, 653, 659, 661, 673, 677, 683, 691, 701, 709, 719, 727, 733, 739, 743, 751, 757, 761, 769, 773, 787, 797, 809, 811, 821, 823, 827, 829, 839, 853, 857, 859, 863, 877, 881, 883, 887, 907, 911, 919, 929, 937, 941, 947, 953, 967, 971, 977, 983, 991, 997]
theorem mod_mul {x y x' y' p : Int} (h : x % p = x' % p) (h' : y % p = y' % p) : (x * y) % p = (x' * y') % p := by
  rw [Int.mul_emod, h, h', ← Int.mul_emod]
theorem mod_pow {x x' p : Int} (h : x % p = x' % p) : ∀ n : Nat, (x ^ n) % p = (x' ^ n) % p
  | 0 => by simp
  | n + 1 => by rw [Int.pow_succ, Int.pow_succ]; exact mod_mul (mod_pow h n) h
/-- what the squaring loop keeps -/
def Keeps (p a : Int) (e : Nat) (power square : Int) (left : Nat) : Prop := (power * square ^ left) % p = (a ^ e) % p
theorem keeps_start (p a : Int) (e : Nat) : Keeps p a e 1 a e := by unfold Keeps; rw [Int.one_mul]
theorem pow_two_mul (x : Int) : ∀ n : Nat, (x * x) ^ n = x ^ (2 * n)
  | 0 => by simp
  | n + 1 => by
    rw [Int.pow_succ, pow_two_mul x n, show 2 * (n + 1) = 2 * n + 1 + 1 by omega, Int.pow_succ, Int.pow_succ, Int.mul_assoc]
theorem keeps_odd {p a : Int} {e : Nat} {power square : Int} {left : Nat} (h : Keeps p a e power square left) (ho : left % 2 = 1) : Keeps p a e (power * square % p) (square * square % p) (left / 2) := by
  unfold Keeps at *
  have h1 : (power * square % p) % p = (power * square) % p := Int.emod_emod_of_dvd _ (Int.dvd_refl p)
  have h2 := mod_pow (p := p) (x := square * square % p) (x' := square * square) (Int.emod_emod_of_dvd _ (Int.dvd_refl p)) (left / 2)
  rw [mod_mul h1 h2, ← h, pow_two_mul, Int.mul_assoc]
  have e2 : left = 2 * (left / 2) + 1 := by omega
  conv => rhs; rw [e2, Int.pow_succ]
  rw [Int.mul_comm square]
theorem keeps_even {p a : Int} {e : Nat} {power square : Int} {left : Nat} (h : Keeps p a e power square left) (ho : ¬ left % 2 = 1) : Keeps p a e power (square * square % p) (left / 2) := by
  unfold Keeps at *
  have h2 := mod_pow (p := p) (x := square * square % p) (x' := square * square) (Int.emod_emod_of_dvd _ (Int.dvd_refl p)) (left / 2)
  rw [mod_mul rfl h2, ← h, pow_two_mul]
  have e2 : left = 2 * (left / 2) := by omega
  conv => rhs; rw [e2]
theorem keeps_end {p a : Int} {e : Nat} {power square : Int} (h : Keeps p a e power square 0) : power % p = a ^ e % p := by
  unfold Keeps at h
  rwa [Int.pow_zero, Int.mul_one] at h
end Om
namespace Pm
open Rm
/-! ### sums -/
def sm : Nat → (Nat → Int) → Int
  | 0, _ => 0
  | n + 1, f => sm n f + f n
theorem sm_congr {f g : Nat → Int} : ∀ {n : Nat}, (∀ k, k < n → f k = g k) → sm n f = sm n g
  | 0, _ => rfl
  | n + 1, h => by rw [sm, sm, sm_congr fun k hk => h k (by omega), h n (by omega)]
theorem sm_zero : ∀ n : Nat, sm n (fun _ => 0) = 0
  | 0 => rfl
  | n + 1 => by rw [sm, sm_zero n]; rfl
theorem sm_none {f : Nat → Int} {n : Nat} (h : ∀ k, k < n → f k = 0) : sm n f = 0 := by rw [sm_congr h, sm_zero]
theorem sm_head (f : Nat → Int) : ∀ n : Nat, sm (n + 1) f = f 0 + sm n (fun i => f (i + 1))
  | 0 => by simp [sm]
  | n + 1 => by
    rw [sm, sm_head f n, sm, Int.add_assoc]
theorem sm_add (f g : Nat → Int) : ∀ n : Nat, sm n (fun k => f k + g k) = sm n f + sm n g
  | 0 => rfl
  | n + 1 => by rw [sm, sm, sm, sm_add f g n]; omega
theorem sm_mul (c : Int) (f : Nat → Int) : ∀ n : Nat, sm n (fun k => c * f k) = c * sm n f
  | 0 => by simp [sm]
  | n + 1 => by rw [sm, sm, sm_mul c f n, Int.mul_add]
/-- what is nought behind a place may be left out -/
theorem sm_more {f : Nat → Int} {m : Nat} : ∀ {n : Nat}, m ≤ n → (∀ k, m ≤ k → k < n → f k = 0) → sm n f = sm m f
  | 0, h, _ => by rw [show m = 0 by omega]
  | n + 1, h, h0 => by
    by_cases e : m = n + 1
    · rw [e]
    · rw [sm, sm_more (n := n) (by omega) (fun k h1 h2 => h0 k h1 (by omega)), h0 n (by omega) (by omega), Int.add_zero]
theorem tk0 (b : Int) : tk b 0 = 0 := by unfold tk; split <;> simp
theorem tk_sm {b : Int} {f g : Nat → Int} : ∀ {n : Nat}, (∀ k, k < n → tk b (f k) = tk b (g k)) → tk b (sm n f) = tk b (sm n g)
  | 0, _ => rfl
  | n + 1, h => by
    rw [sm, sm]
    exact tk_congr_add (tk_sm fun k hk => h k (by omega)) (h n (by omega))
theorem list_sum (f : Nat → Int) : ∀ n : Nat, ((List.range n).map f).sum = sm n f
  | 0 => rfl
  | n + 1 => by rw [List.range_succ, List.map_append, List.sum_append, list_sum f n]; simp [sm]
/-! ### products -/
def cv : (Nat → Int) → (Nat → Int) → Nat → Int
  | f, g, 0 => f 0 * g 0
  | f, g, k + 1 => f 0 * g (k + 1) + cv (fun i => f (i + 1)) g k
theorem cv_sm : ∀ (f g : Nat → Int) (k : Nat), cv f g k = sm (k + 1) (fun j => f j * g (k - j))
  | f, g, 0 => by simp [cv, sm]
  | f, g, k + 1 => by
    rw [cv, cv_sm _ g k, sm_head (fun j => f j * g (k + 1 - j))]
    refine congrArg (_ + ·) (sm_congr fun j hj => ?_)
    rw [show k + 1 - (j + 1) = k - j by omega]
theorem cv_last : ∀ (f g : Nat → Int) (k : Nat), cv f g (k + 1) = cv f (fun i => g (i + 1)) k + f (k + 1) * g 0
  | f, g, 0 => rfl
  | f, g, k + 1 => by
    rw [cv, cv_last (fun i => f (i + 1)) g k, cv, Int.add_assoc]
theorem cv_comm : ∀ (f g : Nat → Int) (k : Nat), cv f g k = cv g f k
  | f, g, 0 => Int.mul_comm _ _
  | f, g, k + 1 => by
    rw [cv, cv_last, cv_comm (fun i => f (i + 1)) g k, Int.add_comm, Int.mul_comm]
theorem cv_congr {f f' g g' : Nat → Int} {k : Nat} (h : ∀ i, i ≤ k → f i = f' i) (h' : ∀ i, i ≤ k → g i = g' i) : cv f g k = cv f' g' k := by
  rw [cv_sm, cv_sm]
  exact sm_congr fun j hj => by rw [h j (by omega), h' _ (by omega)]
theorem cv_tk {b : Int} {f f' g g' : Nat → Int} {k : Nat} (h : ∀ i, i ≤ k → tk b (f i) = tk b (f' i)) (h' : ∀ i, i ≤ k → tk b (g i) = tk b (g' i)) : tk b (cv f g k) = tk b (cv f' g' k) := by
  rw [cv_sm, cv_sm]
  exact tk_sm fun j hj => by rw [← tk_mul_l, ← tk_mul_r, h j (by omega), h' _ (by omega), tk_mul_r, tk_mul_l]
theorem cv_addl (f f' g : Nat → Int) (k : Nat) : cv (fun i => f i + f' i) g k = cv f g k + cv f' g k := by
  rw [cv_sm, cv_sm, cv_sm, ← sm_add]
  exact sm_congr fun j _ => Int.add_mul ..
theorem cv_addr (f g g' : Nat → Int) (k : Nat) : cv f (fun i => g i + g' i) k = cv f g k + cv f g' k := by
  rw [cv_comm, cv_addl, cv_comm, cv_comm g']
theorem cv_mull (c : Int) (f g : Nat → Int) (k : Nat) : cv (fun i => c * f i) g k = c * cv f g k := by
  rw [cv_sm, cv_sm, ← sm_mul]
  exact sm_congr fun j _ => Int.mul_assoc ..
theorem cv_assoc : ∀ (f g h : Nat → Int) (k : Nat), cv (cv f g) h k = cv f (cv g h) k
  | f, g, h, 0 => by simp [cv, Int.mul_assoc]
  | f, g, h, k + 1 => by
    have e : (fun i => cv f g (i + 1)) = fun i => f 0 * (fun i => g (i + 1)) i + cv (fun i => f (i + 1)) g i := rfl
    rw [cv, e, cv_addl (fun i => f 0 * (fun i => g (i + 1)) i), cv_mull, cv_assoc (fun i => f (i + 1)) g h k, cv, cv, cv]
    rw [Int.mul_add, Int.mul_assoc]
    omega
theorem cv_zero {f g : Nat → Int} {k : Nat} (h : ∀ i, i ≤ k → f i = 0 ∨ g (k - i) = 0) : cv f g k = 0 := by
  rw [cv_sm]
  exact sm_none fun j hj => by rcases h j (by omega) with e | e <;> rw [e] <;> simp
/-! ### lists of numbers -/
def co (p : List Int) (k : Nat) : Int := p.getD k 0
theorem co_nil (k : Nat) : co [] k = 0 := by simp [co]
theorem co_zero (x : Int) (r : List Int) : co (x :: r) 0 = x := by simp [co]
theorem co_succ (x : Int) (r : List Int) (k : Nat) : co (x :: r) (k + 1) = co r k := by simp [co]
theorem co_ge {p : List Int} {k : Nat} (h : p.length ≤ k) : co p k = 0 := by
  rw [co, List.getD_eq_getElem?_getD, List.getElem?_eq_none h]; rfl
theorem co_lt {p : List Int} {k : Nat} (h : k < p.length) : co p k = p[k] := by
  rw [co, List.getD_eq_getElem?_getD, List.getElem?_eq_getElem h]; rfl
theorem co_mem {p : List Int} {k : Nat} (h : k < p.length) : co p k ∈ p := by rw [co_lt h]; exact List.getElem_mem h
def ofF (n : Nat) (f : Nat → Int) : List Int := (List.range n).map f
theorem ofF_len (n : Nat) (f : Nat → Int) : (ofF n f).length = n := by simp [ofF]
theorem co_ofF (n : Nat) (f : Nat → Int) (k : Nat) : co (ofF n f) k = if k < n then f k else 0 := by
  by_cases h : k < n
  · rw [if_pos h, co, ofF, List.getD_eq_getElem?_getD, List.getElem?_map, List.getElem?_range h]; rfl
  · rw [if_neg h, co_ge (by rw [ofF_len]; omega)]
theorem ofF_succ (n : Nat) (f : Nat → Int) : ofF (n + 1) f = ofF n f ++ [f n] := by
  rw [ofF, List.range_succ, List.map_append]; rfl
theorem ofF_co (p : List Int) : ofF p.length (co p) = p := by
  apply List.ext_getElem (by rw [ofF_len])
  intro i h1 h2
  simp only [ofF, List.getElem_map, List.getElem_range]
  exact co_lt h2
theorem co_ext {p q : List Int} (hl : p.length = q.length) (h : ∀ k, co p k = co q k) : p = q := by
  rw [← ofF_co p, ← ofF_co q, hl]
  exact List.map_congr_left fun k _ => h k
theorem co_set (p : List Int) (i : Nat) (x : Int) (k : Nat) (hi : i < p.length) : co (p.set i x) k = if k = i then x else co p k := by
  unfold co
  rw [List.getD_eq_getElem?_getD, List.getElem?_set, List.getD_eq_getElem?_getD]
  by_cases e : i = k
  · subst e; simp [hi]
  · rw [if_neg e, if_neg (fun z => e z.symm)]
theorem co_map {f : Int → Int} (h : f 0 = 0) (p : List Int) (k : Nat) : co (p.map f) k = f (co p k) := getD_map h p k
theorem co_append (p q : List Int) (k : Nat) : co (p ++ q) k = if k < p.length then co p k else co q (k - p.length) := by
  unfold co
  by_cases h : k < p.length
  · rw [if_pos h, List.getD_eq_getElem?_getD, List.getElem?_append_left h, ← List.getD_eq_getElem?_getD]
  · rw [if_neg h, List.getD_eq_getElem?_getD, List.getElem?_append_right (by omega), ← List.getD_eq_getElem?_getD]
/-! ### without noughts behind -/
def trim : List Int → List Int
  | [] => []
  | x :: r => if x = 0 ∧ trim r = [] then [] else x :: trim r
theorem co_trim : ∀ (p : List Int) (k : Nat), co (trim p) k = co p k
  | [], k => rfl
  | x :: r, k => by
    rw [trim]
    have ih := co_trim r
    by_cases h : x = 0 ∧ trim r = []
    · rw [if_pos h]
      rw [h.2] at ih
      cases k with
      | zero => rw [co_nil, co_zero, h.1]
      | succ k => rw [co_succ, ← ih k, co_nil, co_nil]
    · rw [if_neg h]
      cases k with
      | zero => rw [co_zero, co_zero]
      | succ k => rw [co_succ, co_succ, ih k]
theorem trim_nil {p : List Int} : trim p = [] ↔ ∀ k, co p k = 0 := by
  constructor
  · intro h k; rw [← co_trim, h, co_nil]
  · intro h
    induction p with
    | nil => rfl
    | cons x r ih =>
      rw [trim, if_pos ⟨by have := h 0; rwa [co_zero] at this, ih fun k => by have := h (k + 1); rwa [co_succ] at this⟩]
theorem trim_ext : ∀ {p q : List Int}, (∀ k, co p k = co q k) → trim p = trim q
  | [], q, h => by rw [show trim q = [] from trim_nil.mpr fun k => by rw [← h k, co_nil]]; rfl
  | x :: r, [], h => by rw [show trim (x :: r) = [] from trim_nil.mpr fun k => by rw [h k, co_nil]]; rfl
  | x :: r, y :: s, h => by
    have e1 := h 0
    rw [co_zero, co_zero] at e1
    have e2 : trim r = trim s := trim_ext fun k => by have := h (k + 1); rwa [co_succ, co_succ] at this
    rw [trim, trim, e1, e2]
theorem trim_trim (p : List Int) : trim (trim p) = trim p := trim_ext (co_trim p)
theorem trim_len_le : ∀ p : List Int, (trim p).length ≤ p.length
  | [] => Nat.le_refl _
  | x :: r => by
    have := trim_len_le r
    rw [trim]; split
    · simp
    · simp; omega
theorem trim_len_of : ∀ {p : List Int} {n : Nat}, (∀ k, n ≤ k → co p k = 0) → (trim p).length ≤ n
  | [], n, _ => Nat.zero_le _
  | x :: r, 0, h => by rw [trim_nil.mpr fun k => h k (Nat.zero_le _)]; exact Nat.le_refl 0
  | x :: r, n + 1, h => by
    have := trim_len_of (p := r) (n := n) fun k hk => by have := h (k + 1) (by omega); rwa [co_succ] at this
    rw [trim]; split
    · simp
    · simp; omega
theorem trim_zero (p : List Int) : trim (p ++ [0]) = trim p := trim_ext fun k => by
  rw [co_append]
  by_cases h : k < p.length
  · rw [if_pos h]
  · rw [if_neg h, co_ge (p := p) (by omega)]
    cases k - p.length with
    | zero => rfl
    | succ j => rw [co_succ, co_nil]
theorem trim_last : ∀ (p : List Int) {x : Int}, x ≠ 0 → trim (p ++ [x]) = p ++ [x]
  | [], x, h => by simp [trim, h]
  | y :: r, x, h => by
    show trim (y :: (r ++ [x])) = _
    rw [trim, trim_last r h, if_neg (by simp)]; rfl
theorem trim_mem {p : List Int} {x : Int} (h : x ∈ trim p) : x ∈ p := by
  induction p with
  | nil => exact h
  | cons y r ih =>
    rw [trim] at h
    split at h
    · cases h
    · rcases List.mem_cons.mp h with rfl | h
      · exact List.mem_cons_self
      · exact List.mem_cons_of_mem _ (ih h)
/-- a polynomial by b -/
structure Py (b : Int) (p : List Int) : Prop where
  tr : trim p = p
  nu : ∀ x ∈ p, tk b x = x
theorem Py.co {b : Int} {p : List Int} (h : Py b p) (k : Nat) : tk b (co p k) = co p k := by
  by_cases hk : k < p.length
  · exact h.nu _ (co_mem hk)
  · rw [co_ge (by omega), tk0]
theorem Py.ext {b : Int} {p q : List Int} (h : Py b p) (h' : Py b q) (e : ∀ k, tk b (Pm.co p k) = tk b (Pm.co q k)) : p = q := by
  rw [← h.tr, ← h'.tr]
  exact trim_ext fun k => by rw [← h.co k, ← h'.co k]; exact e k
theorem Py.of {b : Int} {p : List Int} (h : ∀ x ∈ p, tk b x = x) : Py b (trim p) := ⟨trim_trim p, fun x hx => h x (trim_mem hx)⟩
theorem Py.nil (b : Int) : Py b [] := ⟨rfl, fun _ h => nomatch h⟩
theorem mem_ofF {n : Nat} {f : Nat → Int} {x : Int} (h : x ∈ ofF n f) : ∃ k, k < n ∧ x = f k := by
  obtain ⟨k, hk, e⟩ := List.mem_map.mp h
  exact ⟨k, List.mem_range.mp hk, e.symm⟩
theorem Py.ofF (b : Int) (n : Nat) (f : Nat → Int) : Py b (trim (Pm.ofF n fun k => tk b (f k))) := Py.of fun x hx => by
  obtain ⟨k, _, rfl⟩ := mem_ofF hx
  exact tk_tk ..
/-! ### sums, products -/
def add (b : Int) (p q : List Int) : List Int := trim (ofF (max p.length q.length) fun k => tk b (co p k + co q k))
def mul (b : Int) (p q : List Int) : List Int := trim (ofF (p.length + q.length) fun k => tk b (cv (co p) (co q) k))
theorem add_co (b : Int) (p q : List Int) (k : Nat) : co (add b p q) k = tk b (co p k + co q k) := by
  rw [add, co_trim, co_ofF]
  split
  · rfl
  · rw [co_ge (p := p) (by omega), co_ge (p := q) (by omega), Int.add_zero, tk0]
theorem mul_co (b : Int) (p q : List Int) (k : Nat) : co (mul b p q) k = tk b (cv (co p) (co q) k) := by
  rw [mul, co_trim, co_ofF]
  split
  · rfl
  · rw [cv_zero, tk0]
    intro i hi
    by_cases h : i < p.length
    · exact .inr (co_ge (by omega))
    · exact .inl (co_ge (by omega))
/-! ### the product, step by step -/
end Pm
namespace Pm
open Rm
/-! ### what keeps a row -/
theorem sm_swap (F : Nat → Nat → Int) (m : Nat) : ∀ n : Nat, sm m (fun k => sm n (fun j => F k j)) = sm n (fun j => sm m (fun k => F k j))
  | 0 => by simp only [sm]; exact sm_zero m
  | n + 1 => by
    simp only [sm]
    rw [sm_add, sm_swap F m n]
theorem S_sm (rule : List Int) (f : Nat → Int) (n : Nat) : ∀ m : Nat, S rule f n m = sm m (fun k => co rule k * f (n - 1 - k))
  | 0 => rfl
  | m + 1 => by rw [S, sm, S_sm rule f n m]; rfl
/-- the sum of a polynomial's numbers times what stands from n on -/
def ks (p : List Int) (a : Nat → Int) (n : Nat) : Int := sm p.length (fun k => co p k * a (n + k))
theorem ks_rec {b : Int} {rule p : List Int} {a : Nat → Int} (ha : ∀ n, rule.length ≤ n → tk b (a n) = tk b (S rule a n rule.length)) {n : Nat} (hn : rule.length ≤ n) :
    tk b (ks p a n) = tk b (S rule (ks p a) n rule.length) := by
  have e1 : tk b (ks p a n) = tk b (sm p.length (fun k => co p k * sm rule.length (fun j => co rule j * a (n + k - 1 - j)))) := by
    refine tk_sm fun k _ => ?_
    rw [← tk_mul_r, ha (n + k) (by omega), tk_mul_r, S_sm]
  rw [e1, S_sm]
  congr 1
  have e2 : (fun k => co p k * sm rule.length (fun j => co rule j * a (n + k - 1 - j))) = fun k => sm rule.length (fun j => co rule j * (co p k * a (n + k - 1 - j))) := by
    funext k
    rw [← sm_mul]
    exact sm_congr fun j _ => Int.mul_left_comm ..
  rw [e2, sm_swap]
  refine sm_congr fun j hj => ?_
  rw [sm_mul]
  congr 1
  refine sm_congr fun k _ => ?_
  rw [show n - 1 - j + k = n + k - 1 - j by omega]
theorem ks_all {b : Int} {rule p : List Int} {a : Nat → Int} (ha : ∀ n, rule.length ≤ n → tk b (a n) = tk b (S rule a n rule.length)) (h0 : ∀ n, n < rule.length → tk b (ks p a n) = 0) :
    ∀ n, tk b (ks p a n) = 0 := by
  intro n
  induction n using Nat.strongRecOn with
  | ind n ih =>
    by_cases h : n < rule.length
    · exact h0 n h
    · rw [ks_rec ha (by omega), S_sm]
      have : tk b (sm rule.length fun k => co rule k * ks p a (n - 1 - k)) = tk b (sm rule.length fun _ => 0) := tk_sm fun k hk => by
        rw [← tk_mul_r, ih (n - 1 - k) (by omega), Int.mul_zero]
      rw [this, sm_zero, tk0]
/-- the polynomial of a rule, the rule of a polynomial -/
def ofRule (b : Int) (c : List Int) : List Int := ofF c.length (fun k => tk b (0 - co c (c.length - 1 - k))) ++ [1]
def ruleOf (b : Int) (p : List Int) : List Int := ofF (p.length - 1) (fun k => tk b (0 - co p (p.length - 1 - 1 - k)))
theorem ofRule_len (b : Int) (c : List Int) : (ofRule b c).length = c.length + 1 := by simp [ofRule, ofF_len]
theorem neg_neg_tk (b x : Int) : tk b (0 - tk b (0 - x)) = tk b x := by
  have h : tk b (tk b (0 - x) + (0 - tk b (0 - x))) = tk b ((0 - x) + (0 - tk b (0 - x))) := tk_add_l ..
  have e1 : tk b (0 - x) + (0 - tk b (0 - x)) = 0 := by omega
  rw [e1] at h
  have h2 : tk b (tk b (0 - tk b (0 - x)) + (0 - x)) = tk b 0 := by rw [tk_add_l, Int.add_comm]; exact h.symm
  have h3 : tk b (tk b (0 - tk b (0 - x))) = tk b x := by
    have := tk_congr_add h2 (rfl : tk b x = tk b x)
    rw [show tk b (0 - tk b (0 - x)) + (0 - x) + x = tk b (0 - tk b (0 - x)) by omega, Int.zero_add] at this
    exact this
  rwa [tk_tk] at h3
theorem at_rec {b : Int} {rule starts : List Int} (hl : rule.length = starts.length) : ∀ n, rule.length ≤ n → tk b (at_ b rule starts n) = tk b (S rule (at_ b rule starts) n rule.length) := fun n hn => by
  rw [at_ge hl (by omega), tk_tk]
/-! ### sizes -/
theorem Bd_co {p : List Int} {u : Nat} (h : ∀ x ∈ p, Bd u x) (k : Nat) : Bd u (co p k) := Bd.getD h k
end Pm
namespace Pm
open Rm
/-! ### divided by a monic one -/
theorem sm_single (x : Int) (j : Nat) : ∀ n : Nat, sm n (fun i => if i = j then x else 0) = if j < n then x else 0
  | 0 => by simp [sm]
  | n + 1 => by
    rw [sm, sm_single x j n]
    by_cases h : n = j
    · rw [if_pos h, if_neg (by omega), if_pos (by omega)]; omega
    · rw [if_neg h]
      by_cases h2 : j < n
      · rw [if_pos h2, if_pos (by omega)]; omega
      · rw [if_neg h2, if_neg (by omega)]; omega
theorem tk_sub_zero {b x y : Int} : tk b (x - y) = 0 ↔ tk b x = tk b y := by
  constructor
  · intro h
    have := tk_congr_add (b := b) (x := x - y) (x' := 0) (y := y) (y' := y) (by rw [h, tk0]) rfl
    rwa [show x - y + y = x by omega, Int.zero_add] at this
  · intro h
    have := tk_congr_add (b := b) (x := x) (x' := y) (y := -y) (y' := -y) h rfl
    rw [show x + -y = x - y by omega, show y + -y = 0 by omega, tk0] at this
    exact this
/-- f at s put into a product -/
theorem cv_point (f : Int) (s : Nat) (g : Nat → Int) (k : Nat) : cv (fun i => if i = s then f else 0) g k = if s ≤ k then f * g (k - s) else 0 := by
  rw [cv_sm]
  have e : sm (k + 1) (fun j => (if j = s then f else 0) * g (k - j)) = sm (k + 1) (fun j => if j = s then f * g (k - s) else 0) := sm_congr fun j _ => by
    by_cases h : j = s
    · rw [if_pos h, if_pos h, h]
    · rw [if_neg h, if_neg h, Int.zero_mul]
  rw [e, sm_single]
  by_cases h : s ≤ k
  · rw [if_pos h, if_pos (by omega)]
  · rw [if_neg h, if_neg (by omega)]
/-- monic -/
structure Mon (m : List Int) : Prop where
  pos : 0 < m.length
  one : co m (m.length - 1) = 1
/-- how often q, what is left r -/
structure Div (b : Int) (p m q r : List Int) : Prop where
  qy : Py b q
  ry : Py b r
  short : r.length < m.length
  eq : ∀ k, tk b (cv (co q) (co m) k + co r k) = tk b (co p k)
theorem Div.uniq {b : Int} {p m q r q' r' : List Int} (hm : Mon m) (h : Div b p m q r) (h' : Div b p m q' r') : q = q' ∧ r = r' := by
  have hp := hm.pos
  have e1 : ∀ k, tk b (cv (fun i => co q i - co q' i) (co m) k + (co r k - co r' k)) = 0 := by
    intro k
    have e2 : cv (fun i => co q i - co q' i) (co m) k = cv (co q) (co m) k - cv (co q') (co m) k := by
      have := cv_addl (co q) (fun i => -1 * co q' i) (co m) k
      rw [cv_mull] at this
      have e3 : (fun i => co q i + -1 * co q' i) = fun i => co q i - co q' i := by funext i; omega
      rw [e3] at this
      omega
    rw [e2, show cv (co q) (co m) k - cv (co q') (co m) k + (co r k - co r' k) = (cv (co q) (co m) k + co r k) - (cv (co q') (co m) k + co r' k) by omega, tk_sub_zero, h.eq, h'.eq]
  have e4 : ∀ d j, q.length + q'.length ≤ j + d → tk b (co q j - co q' j) = 0 := by
    intro d
    induction d with
    | zero => intro j hj; rw [co_ge (by omega), co_ge (by omega)]; exact tk0 b
    | succ d ih =>
      intro j hj
      have e5 := e1 (j + (m.length - 1))
      have hs := h.short
      have hs' := h'.short
      rw [co_ge (p := r) (by omega), co_ge (p := r') (by omega), Int.sub_zero, Int.add_zero, cv_sm] at e5
      rw [← e5]
      have e6 : tk b (sm (j + (m.length - 1) + 1) fun i => (co q i - co q' i) * co m (j + (m.length - 1) - i)) = tk b (sm (j + (m.length - 1) + 1) fun i => if i = j then co q j - co q' j else 0) := tk_sm fun i hi => by
        by_cases c : i = j
        · rw [if_pos c, c, show j + (m.length - 1) - j = m.length - 1 by omega, hm.one, Int.mul_one]
        · rw [if_neg c]
          by_cases c2 : i < j
          · rw [co_ge (p := m) (by omega), Int.mul_zero]
          · rw [← tk_mul_l, ih i (by omega), Int.zero_mul]
      rw [e6, sm_single, if_pos (by omega)]
  have eq : q = q' := h.qy.ext h'.qy fun k => tk_sub_zero.mp (e4 (q.length + q'.length) k (by omega))
  refine ⟨eq, h.ry.ext h'.ry fun k => ?_⟩
  have e7 := e1 k
  rw [eq] at e7
  have e8 : (fun i => co q' i - co q' i) = fun _ => 0 := by funext i; omega
  rw [e8, cv_zero (fun _ _ => .inl rfl), Int.zero_add] at e7
  exact tk_sub_zero.mp e7
/-- the way of dividing: the shifts from s on are done -/
structure DivI (b : Int) (p m : List Int) (s : Nat) (o l : List Int) : Prop where
  eq : ∀ k, tk b (cv (co o) (co m) k + co l k) = tk b (co p k)
  zero : ∀ k, s + (m.length - 1) ≤ k → co l k = 0
  low : ∀ k, k < s → co o k = 0
  ol : o.length = p.length - (m.length - 1)
  ll : l.length = p.length
  on : ∀ k, tk b (co o k) = co o k
  ln : ∀ k, tk b (co l k) = co l k
theorem DivI.start {b : Int} {p m : List Int} (hp : ∀ k, tk b (co p k) = co p k) : DivI b p m (p.length - (m.length - 1)) (ofF (p.length - (m.length - 1)) fun _ => 0) p := by
  have z : ∀ k, co (ofF (p.length - (m.length - 1)) fun _ => 0) k = 0 := fun k => by rw [co_ofF]; split <;> rfl
  exact ⟨fun k => by rw [cv_zero fun i _ => .inl (z i), Int.zero_add], fun k hk => co_ge (by omega), fun k _ => z k, ofF_len _ _, rfl, fun k => by rw [z, tk0], hp⟩
/-- what is left behind k steps of a shift -/
def lf (b f : Int) (s t : Nat) (l m : List Int) (k : Nat) : Int := if s ≤ k ∧ k < s + t then tk b (co l k - f * co m (k - s)) else co l k
theorem lf_zero (b f : Int) (s : Nat) (l m : List Int) (k : Nat) : lf b f s 0 l m k = co l k := if_neg (by omega)
theorem lf_step (b f : Int) (s t : Nat) (l m : List Int) (k : Nat) : lf b f s (t + 1) l m k = if k = s + t then tk b (lf b f s t l m k - f * co m t) else lf b f s t l m k := by
  unfold lf
  by_cases h : k = s + t
  · rw [if_pos h, if_pos (by omega), if_neg (by omega), show k - s = t by omega]
  · rw [if_neg h]
    by_cases h2 : s ≤ k ∧ k < s + t
    · rw [if_pos h2, if_pos (by omega)]
    · rw [if_neg h2, if_neg (by omega)]
theorem lf_all {b f : Int} {s : Nat} {l m : List Int} (hl : ∀ k, tk b (co l k) = co l k) (k : Nat) : lf b f s m.length l m k = tk b (co l k - (if s ≤ k then f * co m (k - s) else 0)) := by
  unfold lf
  by_cases h : s ≤ k
  · rw [if_pos h]
    by_cases h2 : k < s + m.length
    · rw [if_pos ⟨h, h2⟩]
    · rw [if_neg (by omega), co_ge (p := m) (by omega), Int.mul_zero, Int.sub_zero, hl]
  · rw [if_neg (by omega), if_neg h, Int.sub_zero, hl]
theorem DivI.step {b : Int} {p m o l l' : List Int} {s : Nat} (hm : Mon m) (h : DivI b p m (s + 1) o l) (hs : s < p.length - (m.length - 1)) (hl : l'.length = l.length) (e : ∀ k, co l' k = lf b (co l (s + (m.length - 1))) s m.length l m k) :
    DivI b p m s (o.set s (co l (s + (m.length - 1)))) l' := by
  have hp := hm.pos
  have ho := h.ol
  have eo : co (o.set s (co l (s + (m.length - 1)))) = fun k => co o k + (if k = s then co l (s + (m.length - 1)) else 0) := by
    funext k
    rw [co_set _ _ _ _ (by omega)]
    by_cases c : k = s
    · rw [if_pos c, if_pos c, c, h.low s (by omega), Int.zero_add]
    · rw [if_neg c, if_neg c, Int.add_zero]
  have el : ∀ k, co l' k = tk b (co l k - (if s ≤ k then co l (s + (m.length - 1)) * co m (k - s) else 0)) := fun k => by rw [e, lf_all h.ln]
  refine ⟨fun k => ?_, fun k hk => ?_, fun k hk => ?_, by rw [List.length_set, ho], by rw [hl, h.ll], fun k => ?_, fun k => by rw [el, tk_tk]⟩
  · rw [eo, cv_addl (co o), cv_point, el, tk_add_r, ← h.eq k]
    congr 1; omega
  · rw [el, if_pos (by omega)]
    by_cases c : k = s + (m.length - 1)
    · rw [c, show s + (m.length - 1) - s = m.length - 1 by omega, hm.one, Int.mul_one, Int.sub_self, tk0]
    · rw [h.zero k (by omega), co_ge (p := m) (by omega), Int.mul_zero, Int.sub_zero, tk0]
  · rw [eo]; simp only; rw [h.low k (by omega), if_neg (by omega), Int.add_zero]
  · rw [co_set _ _ _ _ (by omega)]
    split
    · exact h.ln _
    · exact h.on _
theorem DivI.stop {b : Int} {p m o l : List Int} (hm : Mon m) (h : DivI b p m 0 o l) : Div b p m (trim o) (trim l) := by
  have hp := hm.pos
  have y : ∀ {x : List Int}, (∀ k, tk b (co x k) = co x k) → Py b (trim x) := fun hx => Py.of fun z hz => by
    obtain ⟨k, hk, e⟩ := List.mem_iff_getElem.mp hz
    rw [← e, ← co_lt hk]; exact hx k
  refine ⟨y h.on, y h.ln, ?_, fun k => ?_⟩
  · have := trim_len_of (p := l) (n := m.length - 1) fun k hk => h.zero k (by omega)
    omega
  · rw [co_trim, ← h.eq k]
    congr 2
    exact cv_congr (fun i _ => co_trim _ _) (fun _ _ => rfl)
/-! ### sizes -/
end Pm
namespace Pm
open Rm
/-! ### products as deeds upon a row -/
/-- keeps, at all places -/
def Kp (b : Int) (p : List Int) (a : Nat → Int) : Prop := ∀ n, tk b (ks p a n) = 0
/-- the polynomial of the rule keeps what goes by the rule -/
theorem Kp.ofRule {b : Int} {rule : List Int} {a : Nat → Int} (ha : ∀ n, rule.length ≤ n → tk b (a n) = tk b (S rule a n rule.length)) : Kp b (ofRule b rule) a := fun n => by
  unfold ks
  rw [ofRule_len, sm]
  have e1 : co (Pm.ofRule b rule) rule.length = 1 := by
    rw [Pm.ofRule, co_append, ofF_len, if_neg (by omega), Nat.sub_self]; rfl
  have e2 : tk b (sm rule.length fun k => co (Pm.ofRule b rule) k * a (n + k)) = tk b (sm rule.length fun k => -1 * (co rule (rule.length - 1 - k) * a (n + k))) := tk_sm fun k hk => by
    rw [Pm.ofRule, co_append, ofF_len, if_pos hk, co_ofF, if_pos hk, tk_mul_l, Int.zero_sub, Int.neg_mul, Int.neg_one_mul]
  have e3 : S rule a (n + rule.length) rule.length = sm rule.length fun k => co rule (rule.length - 1 - k) * a (n + k) := by
    rw [S_sm]
    have rev : ∀ (m : Nat) (f : Nat → Int), sm m f = sm m fun k => f (m - 1 - k) := by
      intro m
      induction m with
      | zero => intro f; rfl
      | succ m ih =>
        intro f
        rw [sm_head, sm, ih fun i => f (i + 1), Int.add_comm]
        have : m + 1 - 1 - m = 0 := by omega
        rw [this]
        congr 1
        exact sm_congr fun k hk => by rw [show m - 1 - k + 1 = m + 1 - 1 - k by omega]
    rw [rev]
    exact sm_congr fun k hk => by rw [show n + rule.length - 1 - (rule.length - 1 - k) = n + k by omega]
  rw [e1, Int.one_mul, ← tk_add_l, e2, tk_add_l, sm_mul, ← e3, ← tk_add_r, ha (n + rule.length) (by omega), tk_add_r, Int.neg_one_mul, Int.add_left_neg, tk0]
/-! ### sums of multiples of two -/
def In2 (b : Int) (p q x : List Int) : Prop := ∃ u v, ∀ k, tk b (co x k) = tk b (cv (co u) (co p) k + cv (co v) (co q) k)
theorem co_add0 (p q : List Int) (k : Nat) : co (add 0 p q) k = co p k + co q k := by rw [add_co, tk_zero]
theorem co_mul0 (p q : List Int) (k : Nat) : co (mul 0 p q) k = cv (co p) (co q) k := by rw [mul_co, tk_zero]
theorem In2.left (b : Int) (p q : List Int) : In2 b p q p := ⟨[1], [], fun k => by
  rw [cv_zero (f := co []) fun i _ => .inl (co_nil _), Int.add_zero, cv_sm, sm_more (m := 1) (by omega) fun j h1 _ => by rw [show co [1] j = 0 from co_ge (by simpa using h1), Int.zero_mul]]
  simp [sm, co_zero]⟩
theorem In2.swap {b : Int} {p q x : List Int} (h : In2 b p q x) : In2 b q p x := by
  obtain ⟨u, v, e⟩ := h
  exact ⟨v, u, fun k => by rw [e, Int.add_comm]⟩
theorem In2.trans {b : Int} {p q g s x : List Int} (hg : In2 b p q g) (hs : In2 b p q s) (h : In2 b g s x) : In2 b p q x := by
  obtain ⟨a, c, eg⟩ := hg
  obtain ⟨a', c', es⟩ := hs
  obtain ⟨u, v, e⟩ := h
  refine ⟨add 0 (mul 0 u a) (mul 0 v a'), add 0 (mul 0 u c) (mul 0 v c'), fun k => ?_⟩
  have e1 : tk b (cv (co u) (co g) k) = tk b (cv (co u) (fun i => cv (co a) (co p) i + cv (co c) (co q) i) k) := cv_tk (fun _ _ => rfl) fun i _ => eg i
  have e2 : tk b (cv (co v) (co s) k) = tk b (cv (co v) (fun i => cv (co a') (co p) i + cv (co c') (co q) i) k) := cv_tk (fun _ _ => rfl) fun i _ => es i
  rw [e, tk_congr_add e1 e2]
  congr 1
  have f1 : ∀ y z : List Int, co (add 0 (mul 0 u y) (mul 0 v z)) = fun i => cv (co u) (co y) i + cv (co v) (co z) i := fun y z => by
    funext i; rw [co_add0, co_mul0, co_mul0]
  rw [f1, f1, cv_addl (cv (co u) (co a)), cv_addl (cv (co u) (co c)), cv_addr, cv_addr, cv_assoc, cv_assoc, cv_assoc, cv_assoc]
  omega
/-- .. divided: the one and the other, the other and what is left -/
theorem Div.in1 {b : Int} {p m q r : List Int} (h : Div b p m q r) : In2 b m r p := by
  refine ⟨q, [1], fun k => ?_⟩
  obtain ⟨u, v, e⟩ := In2.left b r []
  rw [← h.eq k]
  have : cv (co [1]) (co r) k = co r k := by
    rw [cv_sm, sm_more (m := 1) (by omega) fun j h1 _ => by rw [show co [1] j = 0 from co_ge (by simpa using h1), Int.zero_mul]]
    simp [sm, co_zero]
  rw [this]
theorem Div.in2 {b : Int} {p m q r : List Int} (h : Div b p m q r) : In2 b p m r := by
  refine ⟨[1], q.map (-1 * ·), fun k => ?_⟩
  have e1 : cv (co [1]) (co p) k = co p k := by
    rw [cv_sm, sm_more (m := 1) (by omega) fun j h1 _ => by rw [show co [1] j = 0 from co_ge (by simpa using h1), Int.zero_mul]]
    simp [sm, co_zero]
  have e2 : co (q.map (-1 * ·)) = fun i => -1 * co q i := by funext i; rw [co_map (by simp)]
  rw [e1, e2, cv_mull]
  have := tk_congr_add (h.eq k) (rfl : tk b (-1 * cv (co q) (co m) k) = tk b (-1 * cv (co q) (co m) k))
  rw [← this]
  congr 1; omega
/-! ### the greatest -/
structure Gcd (b : Int) (p q g : List Int) : Prop where
  py : Py b g
  mon : Mon g
  sum : In2 b p q g
  one : In2 b g [] p
  two : In2 b g [] q
theorem In2.dv {b : Int} {g p : List Int} (h : In2 b g [] p) : ∃ u, ∀ k, tk b (co p k) = tk b (cv (co u) (co g) k) := by
  obtain ⟨u, v, e⟩ := h
  exact ⟨u, fun k => by rw [e, cv_zero (g := co []) fun i _ => .inr (co_nil _), Int.add_zero]⟩
end Pm
namespace Pm
open Rm
/-! ### made monic by a prime -/
theorem last_split {p : List Int} (h : p ≠ []) : p = p.dropLast ++ [co p (p.length - 1)] := by
  have hp : 0 < p.length := List.length_pos_iff.mpr h
  conv => lhs; rw [← List.dropLast_concat_getLast h]
  congr 2
  rw [co_lt (by omega), List.getLast_eq_getElem]
theorem trim_of_last {p : List Int} (h : p ≠ []) (h0 : co p (p.length - 1) ≠ 0) : trim p = p := by
  have e := last_split h
  rw [e, trim_last _ h0]
theorem last_ne {p : List Int} (h : p ≠ []) (ht : trim p = p) : co p (p.length - 1) ≠ 0 := by
  intro z
  have e := last_split h
  rw [z] at e
  have e2 : trim p = trim p.dropLast := by
    conv => lhs; rw [e]
    exact trim_zero _
  have := trim_len_le p.dropLast
  rw [← e2, ht, List.length_dropLast] at this
  have hp : 0 < p.length := List.length_pos_iff.mpr h
  omega
/-- c times p -/
structure MonOf (b : Int) (p m : List Int) : Prop where
  py : Py b m
  len : m.length = p.length
  mon : p ≠ [] → Mon m
  to : ∃ c, ∀ k, tk b (co m k) = tk b (c * co p k)
  of : ∃ c, ∀ k, tk b (co p k) = tk b (c * co m k)
theorem In2.scale {b : Int} {p m : List Int} (h : ∃ c, ∀ k, tk b (co m k) = tk b (c * co p k)) (q : List Int) : In2 b p q m := by
  obtain ⟨c, e⟩ := h
  refine ⟨[c], [], fun k => ?_⟩
  rw [cv_zero (f := co []) fun i _ => .inl (co_nil _), Int.add_zero, e, cv_sm, sm_more (m := 1) (by omega) fun j h1 _ => by rw [show co [c] j = 0 from co_ge (by simpa using h1), Int.zero_mul]]
  simp [sm, co_zero]
theorem MonOf.nil (b : Int) : MonOf b [] [] := ⟨Py.nil b, rfl, fun h => absurd rfl h, ⟨0, fun k => by rw [co_nil, Int.zero_mul]⟩, ⟨0, fun k => by rw [co_nil, Int.zero_mul]⟩⟩
def monicN (P : Nat) (p : List Int) : List Int := p.map fun x => x * (co p (p.length - 1)) ^ (P - 2) % (P : Int)
/-! ### the way to the greatest -/
structure GcdI (b : Int) (p q g s : List Int) : Prop where
  gy : Py b g
  sy : Py b s
  gm : g ≠ [] → Mon g
  sm_ : s ≠ [] → Mon s
  some : s = [] → g ≠ []
  gi : In2 b p q g
  si : In2 b p q s
  pi : In2 b g s p
  qi : In2 b g s q
theorem GcdI.start {b : Int} {p q g s : List Int} (hg : MonOf b p g) (hs : MonOf b q s) (h : q = [] → p ≠ []) : GcdI b p q g s := by
  have lg := hg.len
  have ls := hs.len
  have pn : g ≠ [] → p ≠ [] := fun z e => z (List.eq_nil_of_length_eq_zero (by rw [lg, e]; rfl))
  have qn : s ≠ [] → q ≠ [] := fun z e => z (List.eq_nil_of_length_eq_zero (by rw [ls, e]; rfl))
  refine ⟨hg.py, hs.py, fun z => hg.mon (pn z), fun z => hs.mon (qn z), fun z e => ?_, In2.scale hg.to q, (In2.scale hs.to p).swap, In2.scale hg.of s, (In2.scale hs.of g).swap⟩
  have q0 : q = [] := List.eq_nil_of_length_eq_zero (by rw [← ls, z]; rfl)
  exact h q0 (List.eq_nil_of_length_eq_zero (by rw [← lg, e]; rfl))
theorem GcdI.step {b : Int} {p q g s o l m : List Int} (h : GcdI b p q g s) (hs : s ≠ []) (d : Div b g s o l) (hm : MonOf b l m) : GcdI b p q s m := by
  have lm := hm.len
  have ln : m ≠ [] → l ≠ [] := fun z e => z (List.eq_nil_of_length_eq_zero (by rw [lm, e]; rfl))
  have li : In2 b p q l := h.gi.trans h.si d.in2
  have gs : In2 b s m g := (In2.left b s m).trans (In2.scale hm.of s).swap d.in1
  refine ⟨h.sy, hm.py, h.sm_, fun z => hm.mon (ln z), fun _ => hs, h.si, li.trans li (In2.scale hm.to l), ?_, ?_⟩
  · exact gs.trans (In2.left b s m) h.pi
  · exact gs.trans (In2.left b s m) h.qi
theorem GcdI.stop {b : Int} {p q g s : List Int} (h : GcdI b p q g s) (hs : s = []) : Gcd b p q g := by
  subst hs
  exact ⟨h.gy, h.gm (h.some rfl), h.gi, h.pi, h.qi⟩
end Pm
namespace Pm
open Rm
/-! ### longer rules -/
theorem ofRule_mon (b : Int) (c : List Int) : Mon (ofRule b c) := ⟨by rw [ofRule_len]; omega, by
  rw [ofRule_len, ofRule, co_append, ofF_len, if_neg (by omega), show c.length + 1 - 1 - c.length = 0 by omega]; rfl⟩
theorem ruleOf_len (b : Int) (p : List Int) : (ruleOf b p).length = p.length - 1 := by rw [ruleOf, ofF_len]
theorem ofRule_ruleOf {b : Int} {w : List Int} (hw : ∀ k, tk b (co w k) = co w k) (hm : Mon w) : ofRule b (ruleOf b w) = w := by
  have hp := hm.pos
  refine co_ext (by rw [ofRule_len, ruleOf_len]; omega) fun k => ?_
  rw [ofRule, co_append, ofF_len, ruleOf_len]
  by_cases h : k < w.length - 1
  · rw [if_pos h, co_ofF, if_pos h, ruleOf, co_ofF, if_pos (by omega), neg_neg_tk, show w.length - 1 - 1 - (w.length - 1 - 1 - k) = k by omega, hw]
  · rw [if_neg h]
    by_cases c : k = w.length - 1
    · rw [c, Nat.sub_self, hm.one]; rfl
    · rw [co_ge (p := w) (by omega), co_ge]
      simp; omega
theorem ks_ofRule {b : Int} {rule : List Int} {a : Nat → Int} (n : Nat) : tk b (ks (ofRule b rule) a n) = tk b (a (n + rule.length) - S rule a (n + rule.length) rule.length) := by
  unfold ks
  rw [ofRule_len, sm]
  have e1 : co (ofRule b rule) rule.length = 1 := by
    rw [ofRule, co_append, ofF_len, if_neg (by omega), Nat.sub_self]; rfl
  have e2 : tk b (sm rule.length fun k => co (ofRule b rule) k * a (n + k)) = tk b (sm rule.length fun k => -1 * (co rule (rule.length - 1 - k) * a (n + k))) := tk_sm fun k hk => by
    rw [ofRule, co_append, ofF_len, if_pos hk, co_ofF, if_pos hk, tk_mul_l, Int.zero_sub, Int.neg_mul, Int.neg_one_mul]
  have e3 : S rule a (n + rule.length) rule.length = sm rule.length fun k => co rule (rule.length - 1 - k) * a (n + k) := by
    rw [S_sm]
    have rev : ∀ (m : Nat) (f : Nat → Int), sm m f = sm m fun k => f (m - 1 - k) := by
      intro m
      induction m with
      | zero => intro f; rfl
      | succ m ih =>
        intro f
        rw [sm_head, sm, ih fun i => f (i + 1), Int.add_comm]
        have : m + 1 - 1 - m = 0 := by omega
        rw [this]
        congr 1
        exact sm_congr fun k hk => by rw [show m - 1 - k + 1 = m + 1 - 1 - k by omega]
    rw [rev]
    exact sm_congr fun k hk => by rw [show n + rule.length - 1 - (rule.length - 1 - k) = n + k by omega]
  rw [e1, Int.one_mul, ← tk_add_l, e2, tk_add_l, sm_mul, ← e3]
  congr 1; omega
theorem Kp.rec {b : Int} {rule : List Int} {a : Nat → Int} (h : Kp b (Pm.ofRule b rule) a) : ∀ n, rule.length ≤ n → tk b (a n) = tk b (S rule a n rule.length) := fun n hn => by
  have := h (n - rule.length)
  rw [ks_ofRule, show n - rule.length + rule.length = n by omega] at this
  exact tk_sub_zero.mp this
/-- a row by a longer rule has the same places -/
theorem at_longer {b : Int} {w : List Int} {a : Nat → Int} (hw : ∀ k, tk b (co w k) = co w k) (hm : Mon w) (hk : Kp b w a) (ha : ∀ n, tk b (a n) = a n) {starts : List Int} (hl : starts.length = w.length - 1) (hs : ∀ i, i < starts.length → starts.getD i 0 = a i) (n : Nat) :
    at_ b (ruleOf b w) starts n = a n := by
  have lr := ruleOf_len b w
  rw [← ofRule_ruleOf hw hm] at hk
  refine at_uniq (by omega) (g := a) (fun i hi => (hs i hi).symm) (fun i hi => ?_) n
  rw [← ha i]
  exact hk.rec i (by omega)
end Pm
namespace Dm
open Pm
/-! ### determinants, by what stands in the last line -/
/-! ### two beside each other exchanged -/
/-! ### lines -/
end Dm
namespace Dm
open Pm
/-! ### columns that are sums, or nought -/
/-! ### the numbers that stand in the lines, as determinants -/
/-! ### what stands in line i behind r heads -/
/-! ### a column without a head -/
end Dm
namespace Dm
open Pm Rm
/-! ### a table's lines, cleared column by column -/
/-- nothing but nought times another is nought, by b -/
def Dom (b : Int) : Prop := ∀ x y, tk b x ≠ 0 → tk b (x * y) = 0 → tk b y = 0
theorem tk_zero_iff {b x : Int} : tk b x = 0 ↔ ∃ e, x = b * e := by
  unfold tk
  split
  · rename_i h
    constructor
    · intro z; exact ⟨0, by rw [z, Int.mul_zero]⟩
    · rintro ⟨e, he⟩; rw [he, h, Int.zero_mul]
  · constructor
    · intro z; exact ⟨x / b, (Int.mul_ediv_cancel' (Int.dvd_of_emod_eq_zero z)).symm⟩
    · rintro ⟨e, he⟩; rw [he]; exact Int.mul_emod_right b e
/-- the line i of a table -/
def ln (L : List (List Int)) (i : Nat) : List Int := L.getD i []
/-! ### sizes -/
end Dm
namespace Dm
open Rm Pm
/-! ### lines solved -/
/-! ### tables of two that have ones at the middle -/
/-! ### lines with what is wished behind -/
end Dm
namespace Pm
open Rm
/-! ### the least polynomial that keeps a row -/
/-- nothing from n on -/
def Fs (f : Nat → Int) (n : Nat) : Prop := ∀ k, n ≤ k → f k = 0
theorem Fs.co (p : List Int) : Fs (co p) p.length := fun _ h => co_ge h
theorem Fs.mono {f : Nat → Int} {m n : Nat} (h : Fs f m) (hmn : m ≤ n) : Fs f n := fun k hk => h k (by omega)
theorem Fs.add {f g : Nat → Int} {n : Nat} (h : Fs f n) (h' : Fs g n) : Fs (fun k => f k + g k) n := fun k hk => by show f k + g k = 0; rw [h k hk, h' k hk]; rfl
theorem Fs.mul {f : Nat → Int} {n : Nat} (c : Int) (h : Fs f n) : Fs (fun k => c * f k) n := fun k hk => by show c * f k = 0; rw [h k hk, Int.mul_zero]
theorem Fs.cv {f g : Nat → Int} {m n : Nat} (h : Fs f m) (h' : Fs g n) : Fs (Pm.cv f g) (m + n) := fun k hk => cv_zero fun i _ => by
  by_cases c : m ≤ i
  · exact .inl (h i c)
  · exact .inr (h' _ (by omega))
theorem tkz_mul {b x : Int} (y : Int) (h : tk b x = 0) : tk b (y * x) = 0 := by rw [← tk_mul_r, h, Int.mul_zero, tk0]
/-- times what is monic: nothing comes of nothing only -/
theorem mon_cancel {b : Int} {m : List Int} (hm : Mon m) {f : Nat → Int} {n : Nat} (hf : Fs f n) (h : ∀ k, m.length - 1 ≤ k → tk b (cv f (co m) k) = 0) : ∀ k, tk b (f k) = 0 := by
  have q : ∀ d j, n ≤ j + d → tk b (f j) = 0 := fun d => by
    induction d with
    | zero => intro j hj; rw [hf j hj, tk0]
    | succ d ih =>
      intro j hj
      have e := h (j + (m.length - 1)) (by omega)
      rw [cv_sm] at e
      have e2 : tk b (sm (j + (m.length - 1) + 1) fun i => f i * co m (j + (m.length - 1) - i)) = tk b (sm (j + (m.length - 1) + 1) fun i => if i = j then f j else 0) := tk_sm fun i hi => by
        by_cases c : i = j
        · rw [if_pos c, c, Nat.add_sub_cancel_left, hm.one, Int.mul_one]
        · rw [if_neg c, tk0]
          by_cases d2 : i < j
          · rw [co_ge (by have := hm.pos; omega), Int.mul_zero, tk0]
          · rw [Int.mul_comm]; exact tkz_mul _ (ih i (by omega))
      rw [e2, sm_single, if_pos (by omega)] at e
      exact e
  exact fun k => q n k (by omega)
/-- m divides f -/
def Dv (b : Int) (m : List Int) (f : Nat → Int) : Prop := ∃ s n, Fs s n ∧ ∀ k, tk b (f k) = tk b (cv s (co m) k)
theorem Dv.congr {b : Int} {m : List Int} {f g : Nat → Int} (e : ∀ k, tk b (f k) = tk b (g k)) (h : Dv b m f) : Dv b m g := by
  obtain ⟨s, n, hs, h⟩ := h
  exact ⟨s, n, hs, fun k => by rw [← e, h]⟩
theorem Dv.zero (b : Int) (m : List Int) : Dv b m fun _ => 0 := ⟨fun _ => 0, 0, fun _ _ => rfl, fun k => by rw [cv_zero fun i _ => .inl rfl]⟩
theorem Dv.add {b : Int} {m : List Int} {f g : Nat → Int} (h : Dv b m f) (h' : Dv b m g) : Dv b m fun k => f k + g k := by
  obtain ⟨s, n, hs, h⟩ := h
  obtain ⟨s', n', hs', h'⟩ := h'
  exact ⟨fun k => s k + s' k, n + n', (hs.mono (by omega)).add (hs'.mono (by omega)), fun k => by rw [cv_addl]; exact tk_congr_add (h k) (h' k)⟩
theorem Dv.smul {b : Int} {m : List Int} {f : Nat → Int} (c : Int) (h : Dv b m f) : Dv b m fun k => c * f k := by
  obtain ⟨s, n, hs, h⟩ := h
  exact ⟨fun k => c * s k, n, hs.mul c, fun k => by rw [cv_mull, ← tk_mul_r, h, tk_mul_r]⟩
theorem Dv.sub {b : Int} {m : List Int} {f g : Nat → Int} (h : Dv b m f) (h' : Dv b m g) : Dv b m fun k => f k - g k :=
  (h.add (h'.smul (-1))).congr fun k => by rw [show f k + -1 * g k = f k - g k by omega]
theorem Dv.self {b : Int} {m : List Int} {g : Nat → Int} {n : Nat} (hg : Fs g n) : Dv b m (cv g (co m)) := ⟨g, n, hg, fun _ => rfl⟩
/-- shorter than what divides it: nothing -/
theorem Dv.short {b : Int} {m : List Int} (hm : Mon m) {f : Nat → Int} (hf : Fs f (m.length - 1)) (h : Dv b m f) : ∀ k, tk b (f k) = 0 := by
  obtain ⟨s, n, hs, h⟩ := h
  have z := mon_cancel (b := b) hm hs fun k hk => by rw [← h, hf k hk, tk0]
  intro k
  rw [h, ← tk0 b, ← cv_zero (f := fun _ => (0 : Int)) (g := co m) (k := k) fun i _ => .inl rfl]
  exact cv_tk (fun i _ => by rw [z, tk0]) fun i _ => rfl
/-- the top of a row over the polynomial of its rule -/
def tp (P : List Int) (a : Nat → Int) (k : Nat) : Int := sm (P.length - 1 - k) fun i => co P (k + 1 + i) * a i
theorem tp_fs (P : List Int) (a : Nat → Int) : Fs (tp P a) (P.length - 1) := fun k hk => by unfold tp; rw [show P.length - 1 - k = 0 by omega]; rfl
theorem tp_tk {b : Int} {P : List Int} {a a' : Nat → Int} (h : ∀ n, tk b (a n) = tk b (a' n)) (k : Nat) : tk b (tp P a k) = tk b (tp P a' k) := tk_sm fun i _ => by rw [← tk_mul_r, h, tk_mul_r]
theorem tp_lin (P : List Int) (c : Int) (a a' : Nat → Int) (k : Nat) : tp P (fun n => c * a n + a' n) k = c * tp P a k + tp P a' k := by
  unfold tp
  rw [← sm_mul, ← sm_add]
  refine sm_congr fun i _ => ?_
  rw [Int.mul_add, Int.mul_left_comm]
theorem tp_shift {b : Int} {P : List Int} (hP : 0 < P.length) {a : Nat → Int} (h0 : tk b (ks P a 0) = 0) (k : Nat) : tk b (if k = 0 then 0 else tp P a (k - 1)) = tk b (tp P (fun n => a (n + 1)) k + a 0 * co P k) := by
  by_cases c : k = 0
  · rw [if_pos c, c, tk0, ← h0]
    refine congrArg (tk b) ?_
    unfold ks tp
    obtain ⟨N, hN⟩ : ∃ N, P.length = N + 1 := ⟨P.length - 1, by omega⟩
    rw [hN, sm_head, Nat.add_sub_cancel, Nat.sub_zero, Int.add_comm, Int.mul_comm (co P 0)]
    congr 1
    exact sm_congr fun i _ => by rw [Nat.zero_add, Nat.zero_add, Nat.add_comm 1 i]
  · rw [if_neg c]
    by_cases d : k < P.length
    · refine congrArg (tk b) ?_
      unfold tp
      rw [show P.length - 1 - (k - 1) = (P.length - 1 - k) + 1 by omega, sm_head, Int.add_comm]
      congr 1
      · exact sm_congr fun i _ => by rw [show k - 1 + 1 + (i + 1) = k + 1 + i by omega]
      · rw [show k - 1 + 1 + 0 = k by omega, Int.mul_comm]
    · rw [tp_fs P a (k - 1) (by omega), tp_fs P _ k (by omega), co_ge (by omega), Int.mul_zero]; rfl
theorem cv_cons (x : Int) (q : List Int) (f : Nat → Int) (k : Nat) : cv (co (x :: q)) f k = x * f k + (if k = 0 then 0 else cv (co q) f (k - 1)) := by
  cases k with
  | zero => rw [cv, co_zero, if_pos rfl, Int.add_zero]
  | succ k =>
    rw [cv, co_zero, if_neg (by omega), Nat.add_sub_cancel]
    congr 1
theorem cv_x (q f : Nat → Int) (k : Nat) : (if k = 0 then 0 else cv q f (k - 1)) = cv q (fun i => if i = 0 then 0 else f (i - 1)) k := by
  cases k with
  | zero => rw [if_pos rfl, cv, if_pos rfl, Int.mul_zero]
  | succ k => rw [if_neg (by omega), Nat.add_sub_cancel, cv_last, if_pos rfl, Int.mul_zero, Int.add_zero]; rfl
theorem ks_cons (x : Int) (q : List Int) (a : Nat → Int) (n : Nat) : ks (x :: q) a n = x * a n + ks q (fun n => a (n + 1)) n := by
  unfold ks
  rw [List.length_cons, sm_head, co_zero, Nat.add_zero]
  congr 1
/-- what a polynomial does to a row it does to the top, but for multiples of the rule's polynomial -/
theorem top_acts {b : Int} {P : List Int} (hP : 0 < P.length) : ∀ (q : List Int) {a : Nat → Int}, Kp b P a → Dv b P fun k => cv (co q) (tp P a) k - tp P (ks q a) k
  | [], a, _ => (Dv.zero b P).congr fun k => by
    rw [cv_zero fun i _ => .inl (co_nil i)]
    have : tp P (ks [] a) k = 0 := sm_none fun i _ => by show co P (k + 1 + i) * 0 = 0; exact Int.mul_zero _
    rw [this]; rfl
  | x :: q, a, h => by
    have h1 : Kp b P fun n => a (n + 1) := fun n => by
      have e : ks P (fun n => a (n + 1)) n = ks P a (n + 1) := sm_congr fun k _ => by show _ * a (n + k + 1) = _ * a (n + 1 + k); rw [show n + k + 1 = n + 1 + k by omega]
      rw [e]; exact h (n + 1)
    have ih := top_acts hP q h1
    have d := Dv.self (b := b) (m := P) ((Fs.co q).mul (a 0))
    refine (ih.add d).congr fun k => ?_
    have e1 : tk b (if k = 0 then 0 else cv (co q) (tp P a) (k - 1)) = tk b (cv (co q) (tp P fun n => a (n + 1)) k + a 0 * cv (co q) (co P) k) := by
      rw [cv_x, ← cv_mull, cv_tk (fun i _ => rfl) fun i _ => tp_shift hP (h 0) i, cv_addr]
      congr 2
      rw [cv_comm, cv_mull, cv_mull, cv_comm]
    have e2 : tp P (ks (x :: q) a) k = x * tp P a k + tp P (ks q fun n => a (n + 1)) k := by
      rw [← tp_lin]
      unfold tp
      exact sm_congr fun i _ => by rw [ks_cons]
    rw [cv_cons, e2, cv_mull]
    have e3 := tk_congr_add e1 (rfl : tk b (-(tp P (ks q fun n => a (n + 1)) k)) = _)
    rw [show x * tp P a k + (if k = 0 then 0 else cv (co q) (tp P a) (k - 1)) - (x * tp P a k + tp P (ks q fun n => a (n + 1)) k) = (if k = 0 then 0 else cv (co q) (tp P a) (k - 1)) + -(tp P (ks q fun n => a (n + 1)) k) by omega, e3]
    refine congrArg (tk b) ?_
    omega
/-- a row without a top is nothing -/
theorem top_none {b : Int} {P : List Int} (hm : Mon P) {e : Nat → Int} (h : ∀ k, tk b (tp P e k) = 0) : ∀ n, n < P.length - 1 → tk b (e n) = 0 := fun n => by
  induction n using Nat.strongRecOn with
  | ind n ih =>
    intro hn
    have q := h (P.length - 1 - 1 - n)
    unfold tp at q
    rw [show P.length - 1 - (P.length - 1 - 1 - n) = n + 1 by omega, sm] at q
    have z : tk b (sm n fun i => co P (P.length - 1 - 1 - n + 1 + i) * e i) = 0 := by
      have := tk_sm (b := b) (n := n) (f := fun i => co P (P.length - 1 - 1 - n + 1 + i) * e i) (g := fun _ => 0) fun i hi => by rw [tk0]; exact tkz_mul _ (ih i hi (by omega))
      rw [this, sm_zero, tk0]
    rw [← tk_add_l, z, Int.zero_add, show P.length - 1 - 1 - n + 1 + n = P.length - 1 by omega, hm.one, Int.one_mul] at q
    exact q
/-- q keeps the row just where the rule's polynomial divides q times the top -/
theorem keeps_iff {b : Int} {rule : List Int} {a : Nat → Int} (ha : ∀ n, rule.length ≤ n → tk b (a n) = tk b (S rule a n rule.length)) (q : List Int) :
    Kp b q a ↔ Dv b (ofRule b rule) (cv (co q) (tp (ofRule b rule) a)) := by
  have hm := ofRule_mon b rule
  have hK : Kp b (ofRule b rule) a := Kp.ofRule ha
  have A := top_acts hm.pos q hK
  constructor
  · intro h
    have z : Dv b (ofRule b rule) (tp (ofRule b rule) (ks q a)) := (Dv.zero b _).congr fun k => by
      have := tp_tk (b := b) (P := ofRule b rule) (a := ks q a) (a' := fun _ => 0) (fun n => by rw [h n, tk0]) k
      rw [this]
      exact (congrArg (tk b) (show tp (ofRule b rule) (fun _ => 0) k = 0 from sm_none fun i _ => Int.mul_zero _)).symm
    exact (A.add z).congr fun k => by rw [Int.sub_add_cancel]
  · intro h
    have z : Dv b (ofRule b rule) (tp (ofRule b rule) (ks q a)) := (h.sub A).congr fun k => by
      rw [show cv (co q) (tp (ofRule b rule) a) k - (cv (co q) (tp (ofRule b rule) a) k - tp (ofRule b rule) (ks q a) k) = tp (ofRule b rule) (ks q a) k by omega]
    have n0 := top_none hm (z.short hm (tp_fs _ _))
    rw [ofRule_len, Nat.add_sub_cancel] at n0
    exact ks_all ha n0
/-- the greatest that divides two, told with a number that is not nought -/
structure GcdW (b : Int) (p : List Int) (t : Nat → Int) (g : List Int) : Prop where
  mon : Mon g
  one : Dv b g (co p)
  two : Dv b g t
  sum : ∃ (N : Int) (u v : Nat → Int) (n : Nat), tk b N ≠ 0 ∧ Fs u n ∧ Fs v n ∧ ∀ k, tk b (N * co g k) = tk b (cv u (co p) k + cv v t k)
theorem div_ex {b : Int} {m : List Int} (hm : Mon m) {p : List Int} (hp : ∀ k, tk b (co p k) = co p k) : ∃ q r, Div b p m q r := by
  have go : ∀ d, d ≤ p.length - (m.length - 1) → ∃ o l, DivI b p m (p.length - (m.length - 1) - d) o l := fun d => by
    induction d with
    | zero => intro _; exact ⟨_, _, DivI.start hp⟩
    | succ d ih =>
      intro hd
      obtain ⟨o, l, I⟩ := ih (by omega)
      obtain ⟨s, hs⟩ : ∃ s, p.length - (m.length - 1) - d = s + 1 := ⟨p.length - (m.length - 1) - d - 1, by omega⟩
      rw [hs] at I
      refine ⟨o.set s (co l (s + (m.length - 1))), ofF l.length fun k => lf b (co l (s + (m.length - 1))) s m.length l m k, ?_⟩
      rw [show p.length - (m.length - 1) - (d + 1) = s by omega]
      refine I.step hm (by omega) (ofF_len ..) fun k => ?_
      rw [co_ofF]
      by_cases c : k < l.length
      · rw [if_pos c]
      · rw [if_neg c]
        have hl := I.ll
        have hmp := hm.pos
        unfold lf
        rw [if_neg (by omega), co_ge (by omega)]
  obtain ⟨o, l, I⟩ := go _ (Nat.le_refl _)
  rw [Nat.sub_self] at I
  exact ⟨_, _, I.stop hm⟩
/-- a number that is not nought, times q, divided: then q is -/
theorem dv_of_times {b : Int} (hD : ∀ x y, tk b x ≠ 0 → tk b (x * y) = 0 → tk b y = 0) {L : List Int} (hL : Mon L) {N : Int} (hN : tk b N ≠ 0) {f : Nat → Int} {n : Nat} (hf : Fs f n) (h : Dv b L fun k => N * f k) : Dv b L f := by
  obtain ⟨o, r, D⟩ := div_ex (b := b) hL (p := ofF n fun k => tk b (f k)) fun k => by
    rw [co_ofF]; split
    · exact tk_tk ..
    · exact tk0 b
  have ef : ∀ k, tk b (co (ofF n fun k => tk b (f k)) k) = tk b (f k) := fun k => by
    rw [co_ofF]
    by_cases c : k < n
    · rw [if_pos c, tk_tk]
    · rw [if_neg c, hf k (by omega)]
  have e : ∀ k, tk b (f k) = tk b (cv (co o) (co L) k + co r k) := fun k => by rw [D.eq, ef]
  have z : Dv b L fun k => N * co r k := (h.sub ((Dv.self (b := b) (m := L) (Fs.co o)).smul N)).congr fun k => by
    rw [show N * f k - N * cv (co o) (co L) k = N * (f k - cv (co o) (co L) k) by rw [Int.mul_sub], ← tk_mul_r, ← tk_mul_r b N (co r k)]
    congr 2
    have := e k
    have q := tk_congr_add this (rfl : tk b (-cv (co o) (co L) k) = _)
    rw [show f k - cv (co o) (co L) k = f k + -cv (co o) (co L) k by omega, q]
    exact congrArg (tk b) (by omega)
  have hr : Fs (fun k => N * co r k) (L.length - 1) := ((Fs.co r).mono (by have := D.short; omega)).mul N
  have z0 := z.short hL hr
  refine ⟨co o, o.length, Fs.co o, fun k => ?_⟩
  rw [e, ← tk_add_r, hD N _ hN (z0 k), Int.add_zero]
/-- the least: what keeps the row is what it divides -/
theorem GcdW.keeps {b : Int} (hD : ∀ x y, tk b x ≠ 0 → tk b (x * y) = 0 → tk b y = 0) {rule : List Int} {a : Nat → Int} (ha : ∀ n, rule.length ≤ n → tk b (a n) = tk b (S rule a n rule.length)) {g L : List Int} (h : GcdW b (ofRule b rule) (tp (ofRule b rule) a) g) (hL : Mon L)
    (hP : ∀ k, tk b (co (ofRule b rule) k) = tk b (cv (co L) (co g) k)) (q : List Int) : Kp b q a ↔ Dv b L (co q) := by
  rw [keeps_iff ha q]
  generalize ofRule b rule = P at h hP
  obtain ⟨t, nt, ht, hT⟩ := h.two
  obtain ⟨N, u, v, n, hN, hu, hv, hs⟩ := h.sum
  generalize tp P a = T at h hT hs
  -- N = u L + v t
  have bez : ∀ k, tk b ((if k = 0 then N else 0) - (cv u (co L) k + cv v t k)) = 0 := by
    refine mon_cancel (b := b) h.mon (n := 1 + (n + L.length) + (n + nt)) (fun k hk => ?_) fun k _ => ?_
    · show (if k = 0 then N else 0) - (cv u (co L) k + cv v t k) = 0
      rw [if_neg (by omega), hu.cv (Fs.co L) k (by omega), hv.cv ht k (by omega)]; rfl
    · have e : cv (fun k => (if k = 0 then N else 0) - (cv u (co L) k + cv v t k)) (co g) k = N * co g k + -1 * (cv u (cv (co L) (co g)) k + cv v (cv t (co g)) k) := by
        rw [← cv_assoc, ← cv_assoc, ← cv_addl, ← cv_mull]
        have e2 : N * co g k = cv (fun k => if k = 0 then N else 0) (co g) k := by rw [cv_point, if_pos (Nat.zero_le _), Nat.sub_zero]
        rw [e2, ← cv_addl]
        refine cv_congr (fun i _ => ?_) fun i _ => rfl
        omega
      rw [e, ← tk_add_l, hs, tk_add_l]
      have e3 : tk b (cv u (co P) k + cv v T k) = tk b (cv u (cv (co L) (co g)) k + cv v (cv t (co g)) k) := tk_congr_add (cv_tk (fun i _ => rfl) fun i _ => hP i) (cv_tk (fun i _ => rfl) fun i _ => hT i)
      have e4 := tk_congr_add e3 (rfl : tk b (-1 * (cv u (cv (co L) (co g)) k + cv v (cv t (co g)) k)) = _)
      rw [e4, show ∀ x : Int, x + -1 * x = 0 from fun x => by omega, tk0]
  constructor
  · rintro ⟨s, ns, hs', e⟩
    -- q t = s L
    have qt : ∀ k, tk b (cv (co q) t k - cv s (co L) k) = 0 := by
      refine mon_cancel (b := b) h.mon (n := (q.length + nt) + (ns + L.length)) (fun k hk => ?_) fun k _ => ?_
      · show cv (co q) t k - cv s (co L) k = 0
        rw [(Fs.co q).cv ht k (by omega), hs'.cv (Fs.co L) k (by omega)]; rfl
      · have e1 : cv (fun k => cv (co q) t k - cv s (co L) k) (co g) k = cv (co q) (cv t (co g)) k + -1 * cv s (cv (co L) (co g)) k := by
          rw [← cv_assoc, ← cv_assoc, ← cv_mull, ← cv_addl]
          exact cv_congr (fun i _ => by omega) fun i _ => rfl
        have e2 : tk b (cv (co q) (cv t (co g)) k) = tk b (cv s (cv (co L) (co g)) k) := by
          rw [← cv_tk (fun i _ => rfl) (fun i _ => hT i), e, cv_tk (fun i _ => rfl) fun i _ => hP i]
        have e3 := tk_congr_add e2 (rfl : tk b (-1 * cv s (cv (co L) (co g)) k) = _)
        rw [e1, e3, show ∀ x : Int, x + -1 * x = 0 from fun x => by omega, tk0]
    refine dv_of_times hD hL hN (Fs.co q) ?_
    -- N q = q u L + v q t = (q u + v s) L
    refine ⟨fun k => cv (co q) u k + cv v s k, (q.length + n) + (n + ns), ((((Fs.co q).cv hu)).mono (by omega)).add ((hv.cv hs').mono (by omega)), fun k => ?_⟩
    have e1 : tk b (N * co q k) = tk b (cv (fun k => cv u (co L) k + cv v t k) (co q) k) := by
      have e2 : N * co q k = cv (fun k => if k = 0 then N else 0) (co q) k := by rw [cv_point, if_pos (Nat.zero_le _), Nat.sub_zero]
      rw [e2]
      exact cv_tk (fun i _ => tk_sub_zero.mp (bez i)) fun i _ => rfl
    rw [e1, cv_addl, cv_addl]
    refine tk_congr_add ?_ ?_
    · exact congrArg (tk b) ((cv_comm ..).trans (cv_assoc ..).symm)
    · rw [cv_assoc, cv_assoc]
      refine cv_tk (fun i _ => rfl) fun i _ => ?_
      rw [cv_comm]
      exact tk_sub_zero.mp (qt i)
  · rintro ⟨s, ns, hs', e⟩
    refine ⟨cv s t, ns + nt, hs'.cv ht, fun k => ?_⟩
    rw [cv_tk (fun i _ => e i) (fun i _ => hT i), cv_tk (f := cv s t) (fun i _ => rfl) (fun i _ => hP i)]
    refine congrArg (tk b) ?_
    rw [cv_assoc, cv_assoc]
    refine cv_congr (fun i _ => rfl) fun i _ => ?_
    rw [← cv_assoc, ← cv_assoc]
    exact cv_congr (fun j _ => cv_comm ..) fun j _ => rfl
end Pm
namespace Om
/-! ### a prime, and what a number to the power of it less one leaves -/
def Prime (p : Nat) : Prop := 2 ≤ p ∧ ∀ d, d ∣ p → d = 1 ∨ d = p
theorem Prime.cop {p x : Nat} (h : Prime p) (hx : ¬ p ∣ x) : Nat.Coprime p x := by
  rcases h.2 _ (Nat.gcd_dvd_left p x) with e | e
  · exact e
  · exact absurd (e ▸ Nat.gcd_dvd_right p x) hx
theorem Prime.dvd {p x y : Nat} (h : Prime p) (hd : p ∣ x * y) : p ∣ x ∨ p ∣ y := by
  by_cases c : p ∣ x
  · exact .inl c
  · exact .inr ((h.cop c).dvd_of_dvd_mul_left hd)
def ch : Nat → Nat → Nat
  | _, 0 => 1
  | 0, _ + 1 => 0
  | n + 1, k + 1 => ch n k + ch n (k + 1)
theorem ch_zero (n : Nat) : ch n 0 = 1 := by cases n <;> rfl
theorem ch_out : ∀ (n k : Nat), n < k → ch n k = 0
  | 0, k + 1, _ => rfl
  | n + 1, k + 1, h => by rw [ch, ch_out n k (by omega), ch_out n (k + 1) (by omega)]
theorem ch_self : ∀ n, ch n n = 1
  | 0 => rfl
  | n + 1 => by rw [ch, ch_self n, ch_out n (n + 1) (by omega)]
theorem ch_absorb : ∀ n k : Nat, (k + 1) * ch (n + 1) (k + 1) = (n + 1) * ch n k
  | 0, 0 => rfl
  | 0, k + 1 => by
    have e : ch (0 + 1) (k + 1 + 1) = ch 0 (k + 1) + ch 0 (k + 1 + 1) := rfl
    rw [e, ch_out 0 (k + 1) (by omega), ch_out 0 (k + 1 + 1) (by omega)]; simp
  | n + 1, 0 => by
    have := ch_absorb n 0
    have e : ch (n + 1 + 1) (0 + 1) = ch (n + 1) 0 + ch (n + 1) (0 + 1) := rfl
    simp only [ch_zero] at e ⊢
    rw [e]
    rw [ch_zero] at this
    omega
  | n + 1, k + 1 => by
    have h1 := ch_absorb n k
    have h2 := ch_absorb n (k + 1)
    rw [ch, Nat.mul_add]
    have e1 : (k + 1 + 1) * ch (n + 1) (k + 1) = (n + 1) * ch n k + ch (n + 1) (k + 1) := by rw [Nat.succ_mul, h1]
    rw [e1, h2]
    have e2 : ch (n + 1) (k + 1) = ch n k + ch n (k + 1) := rfl
    rw [e2, Nat.succ_mul (n + 1), Nat.mul_add]
    omega
theorem Prime.dch {p k : Nat} (h : Prime p) (h0 : 0 < k) (hk : k < p) : p ∣ ch p k := by
  obtain ⟨n, rfl⟩ : ∃ n, p = n + 1 := ⟨p - 1, by have := h.1; omega⟩
  obtain ⟨j, rfl⟩ : ∃ j, k = j + 1 := ⟨k - 1, by omega⟩
  have e := ch_absorb n j
  rcases h.dvd (x := j + 1) (y := Om.ch (n + 1) (j + 1)) (by rw [e]; exact Nat.dvd_mul_right ..) with d | d
  · exact absurd (Nat.le_of_dvd (by omega) d) (by omega)
  · exact d
def sN (f : Nat → Nat) : Nat → Nat
  | 0 => 0
  | n + 1 => sN f n + f n
theorem sN_congr {f g : Nat → Nat} : ∀ {n : Nat}, (∀ k, k < n → f k = g k) → sN f n = sN g n
  | 0, _ => rfl
  | n + 1, h => by rw [sN, sN, sN_congr fun k hk => h k (by omega), h n (by omega)]
theorem sN_add (f g : Nat → Nat) : ∀ n, sN (fun k => f k + g k) n = sN f n + sN g n
  | 0 => rfl
  | n + 1 => by rw [sN, sN, sN, sN_add f g n]; omega
theorem sN_mul (c : Nat) (f : Nat → Nat) : ∀ n, sN (fun k => c * f k) n = c * sN f n
  | 0 => rfl
  | n + 1 => by rw [sN, sN, sN_mul c f n, Nat.mul_add]
theorem sN_head (f : Nat → Nat) : ∀ n, sN f (n + 1) = f 0 + sN (fun k => f (k + 1)) n
  | 0 => by rw [sN, sN, sN]; omega
  | n + 1 => by rw [sN, sN_head f n, sN]; omega
theorem sN_dvd {p : Nat} {f : Nat → Nat} : ∀ {n : Nat}, (∀ k, k < n → p ∣ f k) → p ∣ sN f n
  | 0, _ => Nat.dvd_zero _
  | n + 1, h => Nat.dvd_add (sN_dvd fun k hk => h k (by omega)) (h n (by omega))
theorem binom (a : Nat) : ∀ n, (a + 1) ^ n = sN (fun k => ch n k * a ^ k) (n + 1)
  | 0 => by simp [sN, ch]
  | n + 1 => by
    rw [Nat.pow_succ, binom a n, sN_head (fun k => ch (n + 1) k * a ^ k) (n + 1)]
    have e1 : sN (fun k => ch (n + 1) (k + 1) * a ^ (k + 1)) (n + 1) = sN (fun k => a * (ch n k * a ^ k)) (n + 1) + sN (fun k => ch n (k + 1) * a ^ (k + 1)) (n + 1) := by
      rw [← sN_add]
      refine sN_congr fun k _ => ?_
      rw [ch, Nat.add_mul, Nat.pow_succ]
      congr 1
      rw [Nat.mul_comm a, Nat.mul_assoc]
    have e2 : sN (fun k => ch n k * a ^ k) (n + 1) = 1 + sN (fun k => ch n (k + 1) * a ^ (k + 1)) (n + 1) := by
      have e3 : sN (fun k => ch n k * a ^ k) (n + 1 + 1) = sN (fun k => ch n k * a ^ k) (n + 1) := by rw [sN, ch_out n (n + 1) (by omega), Nat.zero_mul, Nat.add_zero]
      rw [← e3, sN_head]
      rw [ch_zero, Nat.pow_zero]
    rw [e1, sN_mul, ch_zero, Nat.pow_zero, Nat.mul_add, Nat.mul_one, Nat.mul_comm]
    omega
theorem Prime.pow {p : Nat} (h : Prime p) : ∀ a : Nat, a ^ p % p = a % p
  | 0 => by rw [Nat.zero_pow (by have := h.1; omega)]
  | a + 1 => by
    obtain ⟨n, rfl⟩ : ∃ n, p = n + 1 := ⟨p - 1, by have := h.1; omega⟩
    have e : (a + 1) ^ (n + 1) = 1 + sN (fun k => ch (n + 1) (k + 1) * a ^ (k + 1)) n + a ^ (n + 1) := by
      rw [binom, sN, sN_head, ch_zero, Nat.pow_zero, ch_self, Nat.one_mul, Nat.one_mul]
    obtain ⟨c, hc⟩ : (n + 1) ∣ sN (fun k => ch (n + 1) (k + 1) * a ^ (k + 1)) n := sN_dvd fun k hk => Nat.dvd_trans (h.dch (by omega) (by omega)) (Nat.dvd_mul_right ..)
    rw [e, hc, show 1 + (n + 1) * c + a ^ (n + 1) = (a ^ (n + 1) + 1) + (n + 1) * c by omega, Nat.add_mul_mod_self_left, Nat.add_mod, Prime.pow h a, ← Nat.add_mod]
theorem Prime.fermat {p a : Nat} (h : Prime p) (h0 : a ≠ 0) (ha : a < p) : a ^ (p - 1) % p = 1 := by
  have hp := h.1
  have e := h.pow a
  obtain ⟨n, rfl⟩ : ∃ n, p = n + 1 := ⟨p - 1, by omega⟩
  rw [Nat.add_sub_cancel]
  have one : 1 ≤ a ^ n := Nat.pow_pos (by omega)
  have d : (n + 1) ∣ a * (a ^ n - 1) := by
    have e2 : a * (a ^ n - 1) = a ^ (n + 1) - a := by rw [Nat.mul_sub, Nat.mul_one, Nat.pow_succ, Nat.mul_comm]
    rw [e2]
    exact Nat.dvd_of_mod_eq_zero (Nat.sub_mod_eq_zero_of_mod_eq e)
  rcases h.dvd d with d | ⟨c, hc⟩
  · exact absurd (Nat.le_of_dvd (by omega) d) (by omega)
  · rw [show a ^ n = 1 + (n + 1) * c by omega, Nat.add_mul_mod_self_left]
    exact Nat.mod_eq_of_lt (by omega)
end Om
namespace Pm
open Rm
/-! ### by 0: the least polynomial that keeps a row of whole numbers is monic -/
/-! ### primes and products -/
theorem nat_dvd {p : Nat} {x : Int} : (p : Int) ∣ x ↔ p ∣ x.natAbs := Int.ofNat_dvd_left
theorem prime_mul {p : Nat} (hp : Om.Prime p) {x y : Int} (h : (p : Int) ∣ x * y) : (p : Int) ∣ x ∨ (p : Int) ∣ y := by
  rw [nat_dvd, Int.natAbs_mul] at h
  rcases hp.dvd h with h | h
  · exact .inl (nat_dvd.mpr h)
  · exact .inr (nat_dvd.mpr h)
end Pm
namespace Dm
open Pm Rm
/-! ### a determinant is nought just where its columns are not free of each other -/
/-! ### the other way about -/
end Dm
namespace Dm
open Pm Rm
/-! ### the table of a row's places -/
theorem Dom.pr {p : Nat} (hp : Om.Prime p) : Dom (p : Int) := fun x y hx h => by
  have h2 := hp.1
  obtain ⟨e, he⟩ := tk_zero_iff.mp h
  rcases prime_mul hp (x := x) (y := y) ⟨e, he⟩ with ⟨z, hz⟩ | ⟨z, hz⟩
  · exact absurd (tk_zero_iff.mpr ⟨z, hz⟩) hx
  · exact tk_zero_iff.mpr ⟨z, hz⟩
end Dm
namespace Pm
open Rm Dm
/-! ### by 0: the greatest that divides the polynomial of the rule and the top -/
theorem Dv.len {b : Int} (h1 : tk b 1 = 1) {m p : List Int} (hm : Mon m) (hp : Mon p) (h : Dv b m (co p)) : m.length ≤ p.length := by
  by_cases c : m.length ≤ p.length
  · exact c
  · exfalso
    have := h.short hm ((Fs.co p).mono (by omega)) (p.length - 1)
    rw [hp.one, h1] at this
    exact absurd this (by decide)
/-- what is left when a monic one is divided by a monic one is monic -/
theorem mon_left {b : Int} (h1 : tk b 1 = 1) {P g : List Int} (hP : Mon P) (hg : Mon g) (h : Dv b g (co P)) : ∃ L : List Int, Mon L ∧ (∀ k, tk b (co L k) = co L k) ∧ L.length + g.length = P.length + 1 ∧ ∀ k, tk b (co P k) = tk b (cv (co L) (co g) k) := by
  have hl := h.len h1 hg hP
  have hp := hP.pos
  have hgp := hg.pos
  obtain ⟨s, n, hs, h⟩ := h
  have key : ∀ d j, n ≤ j + d → P.length - g.length < j → tk b (s j) = 0 := fun d => by
    induction d with
    | zero => intro j hj _; rw [hs j hj, tk0]
    | succ d ih =>
      intro j hj hj2
      have e := h (j + (g.length - 1))
      rw [co_ge (by omega), tk0, cv_sm] at e
      have e2 : tk b (sm (j + (g.length - 1) + 1) fun i => s i * co g (j + (g.length - 1) - i)) = tk b (sm (j + (g.length - 1) + 1) fun i => if i = j then s j else 0) := tk_sm fun i hi => by
        by_cases c : i = j
        · rw [if_pos c, c, Nat.add_sub_cancel_left, hg.one, Int.mul_one]
        · rw [if_neg c, tk0]
          by_cases d2 : i < j
          · rw [co_ge (by omega), Int.mul_zero, tk0]
          · rw [Int.mul_comm]; exact tkz_mul _ (ih i (by omega) (by omega))
      rw [e2, sm_single, if_pos (by omega)] at e
      exact e.symm
  have z : ∀ k, P.length - g.length < k → tk b (s k) = 0 := fun k hk => key n k (by omega) hk
  have t1 : tk b (s (P.length - g.length)) = 1 := by
    have e := h (P.length - 1)
    rw [hP.one, h1, cv_sm] at e
    have e2 : tk b (sm (P.length - 1 + 1) fun i => s i * co g (P.length - 1 - i)) = tk b (sm (P.length - 1 + 1) fun i => if i = P.length - g.length then s (P.length - g.length) else 0) := tk_sm fun i hi => by
      by_cases c : i = P.length - g.length
      · rw [if_pos c, c, show P.length - 1 - (P.length - g.length) = g.length - 1 by omega, hg.one, Int.mul_one]
      · rw [if_neg c, tk0]
        by_cases d2 : i < P.length - g.length
        · rw [co_ge (by omega), Int.mul_zero, tk0]
        · rw [Int.mul_comm]; exact tkz_mul _ (z i (by omega))
    rw [e2, sm_single, if_pos (by omega)] at e
    exact e.symm
  have hc : ∀ k, co (ofF (P.length - g.length + 1) fun k => tk b (s k)) k = tk b (s k) := fun k => by
    rw [co_ofF]
    by_cases c : k < P.length - g.length + 1
    · rw [if_pos c]
    · rw [if_neg c, z k (by omega)]
  refine ⟨ofF (P.length - g.length + 1) fun k => tk b (s k), ⟨by rw [ofF_len]; omega, ?_⟩, fun k => ?_, by rw [ofF_len]; omega, fun k => ?_⟩
  · rw [ofF_len, Nat.add_sub_cancel, hc, t1]
  · rw [hc, tk_tk]
  · rw [h k]
    exact cv_tk (fun i _ => by rw [hc, tk_tk]) fun i _ => rfl
end Pm
namespace Pm
open Rm Dm
/-! ### by 0: the greatest, found by primes one after another -/
theorem one_tk {p : Nat} (hp : Om.Prime p) : tk (p : Int) 1 = 1 := by
  have := hp.1
  rw [tk_pos (by omega)]; exact Int.emod_eq_of_lt (by decide) (by omega)
/-- nothing but a monic one of its length -/
theorem Dv.same {b : Int} (h1 : tk b 1 = 1) {m p : List Int} (hm : Mon m) (hp : Mon p) (h : Dv b m (co p)) (hl : m.length = p.length) (k : Nat) : tk b (co p k) = tk b (co m k) := by
  obtain ⟨L, hL, _, hlen, e⟩ := mon_left h1 hp hm h
  have hm0 := hm.pos
  have h2 : L.length = 1 := by omega
  have e0 : co L 0 = 1 := by have := hL.one; rwa [h2] at this
  rw [e k]
  refine congrArg (tk b) ?_
  rw [cv_sm, sm_more (m := 1) (by omega) fun j h3 _ => by rw [co_ge (p := L) (by omega), Int.zero_mul]]
  simp [sm, e0]
theorem In2.to {b : Int} {g p q : List Int} (h : In2 b g [] p) (e : ∀ k, tk b (co p k) = tk b (co q k)) : Dv b g (co q) := by
  obtain ⟨u, h⟩ := h.dv
  exact ⟨co u, u.length, Fs.co u, fun k => by rw [← e, h]⟩
/-! ### nearest -/
/-! ### the turns -/
end Pm
namespace Om
/-! ### primes by trying; a table of primes above a million -/
theorem prime_try {n : Nat} (h2 : 2 ≤ n) (h : ∀ d, 2 ≤ d → d * d ≤ n → ¬ d ∣ n) : Prime n := ⟨h2, fun d hd => by
  by_cases c1 : d = 1
  · exact .inl c1
  by_cases c2 : d = n
  · exact .inr c2
  exfalso
  obtain ⟨e, he⟩ := hd
  have d0 : d ≠ 0 := fun z => by rw [z, Nat.zero_mul] at he; omega
  have e0 : e ≠ 0 := fun z => by rw [z, Nat.mul_zero] at he; omega
  have e1 : e ≠ 1 := fun z => by rw [z, Nat.mul_one] at he; omega
  by_cases c : d ≤ e
  · exact h d (by omega) (by rw [he]; exact Nat.mul_le_mul_left d c) ⟨e, he⟩
  · exact h e (by omega) (by rw [he]; exact Nat.mul_le_mul_right e (by omega)) ⟨d, by rw [he, Nat.mul_comm]⟩⟩
theorem Prime.fermatI {p : Nat} {a : Int} (h : Prime p) (h0 : 0 < a) (ha : a < (p : Int)) : a ^ (p - 1) % (p : Int) = 1 := by
  obtain ⟨n, rfl⟩ : ∃ n : Nat, a = (n : Int) := ⟨a.toNat, by omega⟩
  have := h.fermat (a := n) (by omega) (by omega)
  have e : ((n ^ (p - 1) % p : Nat) : Int) = ((1 : Nat) : Int) := by rw [this]
  rw [Int.natCast_emod, Int.natCast_pow] at e
  exact e
end Om
namespace Pm
open Rm
theorem monicN_pr {P : Nat} (hP : Om.Prime P) {p : List Int} (hp : Py P p) (hn : p ≠ []) : MonOf P p (monicN P p) := by
  have h2 := hP.1
  have hpos : 0 < p.length := List.length_pos_iff.mpr hn
  have hP0 : (P : Int) ≠ 0 := by omega
  have tkP : ∀ n, tk (P : Int) n = n % (P : Int) := fun n => tk_pos hP0 n
  have l0 := last_ne hn hp.tr
  have l1 := hp.co (p.length - 1)
  rw [tkP] at l1
  have r0 : 0 ≤ co p (p.length - 1) := by rw [← l1]; exact Int.emod_nonneg _ hP0
  have r1 : co p (p.length - 1) < (P : Int) := by rw [← l1]; exact Int.emod_lt_of_pos _ (by omega)
  generalize hl : co p (p.length - 1) = a at l0 r0 r1
  have hinv : (a ^ (P - 2) * a) % (P : Int) = 1 := by
    rw [← Int.pow_succ, show (P - 2).succ = P - 1 by omega]
    exact hP.fermatI (by omega) r1
  have e : ∀ k, co (monicN P p) k = co p k * a ^ (P - 2) % (P : Int) := fun k => by
    rw [monicN, co_map (by simp), hl]
  have len : (monicN P p).length = p.length := by rw [monicN, List.length_map]
  have top : co (monicN P p) ((monicN P p).length - 1) = 1 := by
    rw [len, e, hl, Int.mul_comm]; exact hinv
  have hm : monicN P p ≠ [] := fun z => by rw [z] at len; simp at len; omega
  refine ⟨⟨trim_of_last hm (by rw [top]; decide), fun x hx => ?_⟩, len, fun _ => ⟨by omega, top⟩, ⟨a ^ (P - 2), fun k => ?_⟩, ⟨a, fun k => ?_⟩⟩
  · obtain ⟨y, _, rfl⟩ := List.mem_map.mp hx
    rw [tkP]; exact Int.emod_emod_of_dvd _ (Int.dvd_refl _)
  · rw [e, tkP, tkP, Int.emod_emod_of_dvd _ (Int.dvd_refl _), Int.mul_comm]
  · rw [e, tkP, tkP, Int.mul_emod a, Int.emod_emod_of_dvd _ (Int.dvd_refl _), ← Int.mul_emod, Int.mul_left_comm a, Int.mul_comm a, Int.mul_emod, hinv]
    rw [Int.mul_one, Int.emod_emod_of_dvd _ (Int.dvd_refl _)]
/-! ### joined -/
end Pm
namespace Pm
/-! ### rounds: not more windows than there can be -/
theorem pigeon : ∀ (N n : Nat) (c : Nat → Nat), (∀ i, i < n → c i < N) → (∀ i j, i < j → j < n → c i ≠ c j) → n ≤ N
  | 0, n, c, h, _ => by
    rcases Nat.eq_zero_or_pos n with z | z
    · omega
    · have := h 0 z; omega
  | N + 1, n, c, h, d => by
    by_cases e : ∃ i, i < n ∧ c i = N
    · obtain ⟨i0, hi0, e0⟩ := e
      have := pigeon N (n - 1) (fun i => c (if i < i0 then i else i + 1)) (fun i hi => by
        have h1 : (if i < i0 then i else i + 1) < n := by split <;> omega
        have h2 := h _ h1
        have h3 : c (if i < i0 then i else i + 1) ≠ N := fun z => by
          by_cases c1 : i < i0
          · rw [if_pos c1] at z; exact d i i0 c1 hi0 (by rw [z, e0])
          · rw [if_neg c1] at z; exact d i0 (i + 1) (by omega) (by omega) (by rw [z, e0])
        omega) fun i j hij hj => by
          have h1 : (if i < i0 then i else i + 1) < (if j < i0 then j else j + 1) := by split <;> split <;> omega
          have h2 : (if j < i0 then j else j + 1) < n := by split <;> omega
          exact d _ _ h1 h2
      omega
    · have := pigeon N n c (fun i hi => by
        have := h i hi
        have : c i ≠ N := fun z => e ⟨i, hi, z⟩
        omega) d
      omega
def code (p : Nat) : List Int → Nat
  | [] => 0
  | x :: r => x.toNat + p * code p r
theorem code_lt {p : Nat} : ∀ (xs : List Int), (∀ x ∈ xs, 0 ≤ x ∧ x < (p : Int)) → code p xs < p ^ xs.length
  | [], _ => Nat.one_pos
  | x :: r, h => by
    have hx := h x (List.mem_cons_self ..)
    have ih := code_lt r fun y hy => h y (List.mem_cons_of_mem _ hy)
    rw [List.length_cons, Nat.pow_succ, code]
    have : p * (code p r + 1) ≤ p * p ^ r.length := Nat.mul_le_mul_left p ih
    rw [Nat.mul_add, Nat.mul_one] at this
    rw [Nat.mul_comm (p ^ r.length)]
    omega
theorem code_inj {p : Nat} : ∀ (xs ys : List Int), xs.length = ys.length → (∀ x ∈ xs, 0 ≤ x ∧ x < (p : Int)) → (∀ x ∈ ys, 0 ≤ x ∧ x < (p : Int)) → code p xs = code p ys → xs = ys
  | [], [], _, _, _, _ => rfl
  | [], _ :: _, h, _, _, _ => by cases h
  | _ :: _, [], h, _, _, _ => by cases h
  | x :: r, y :: t, hl, hx, hy, e => by
    have h1 := hx x (List.mem_cons_self ..)
    have h2 := hy y (List.mem_cons_self ..)
    rw [code, code] at e
    have m := congrArg (· % p) e
    simp only [Nat.add_mul_mod_self_left] at m
    rw [Nat.mod_eq_of_lt (by omega), Nat.mod_eq_of_lt (by omega)] at m
    have e2 : code p r = code p t := by
      rw [m] at e
      exact Nat.eq_of_mul_eq_mul_left (by omega) (Nat.add_left_cancel e)
    rw [code_inj r t (by simpa using hl) (fun z hz => hx z (List.mem_cons_of_mem _ hz)) (fun z hz => hy z (List.mem_cons_of_mem _ hz)) e2]
    rw [show x = y by omega]
/-- the windows of a row -/
def win (f : Nat → Int) (l i : Nat) : List Int := (List.range l).map fun j => f (i + j)
theorem win_len (f : Nat → Int) (l i : Nat) : (win f l i).length = l := by rw [win, List.length_map, List.length_range]
theorem win_get (f : Nat → Int) {l i j : Nat} (h : j < l) : (win f l i).getD j 0 = f (i + j) := by
  rw [win, List.getD_eq_getElem?_getD, List.getElem?_map, List.getElem?_range h]; rfl
theorem win_next (f : Nat → Int) (l i : Nat) : (win f l i ++ [f (i + l)]).drop 1 = win f l (i + 1) := by
  have e : win f l i ++ [f (i + l)] = win f (l + 1) i := by
    rw [win, win, List.range_succ, List.map_append]; rfl
  rw [e, win, win, List.range_succ_eq_map, List.map_cons, List.drop_one, List.tail_cons, List.map_map]
  exact List.map_congr_left fun j _ => by show f (i + (j + 1)) = f (i + 1 + j); rw [show i + (j + 1) = i + 1 + j by omega]
theorem win_most {p l n : Nat} {f : Nat → Int} (hf : ∀ i, 0 ≤ f i ∧ f i < (p : Int)) (d : ∀ i j, i < j → j < n → win f l i ≠ win f l j) : n ≤ p ^ l := by
  have hw : ∀ i, ∀ x ∈ win f l i, 0 ≤ x ∧ x < (p : Int) := fun i x hx => by
    obtain ⟨j, _, rfl⟩ := List.mem_map.mp hx
    exact hf _
  refine pigeon (p ^ l) n (fun i => code p (win f l i)) (fun i _ => ?_) fun i j hij hj z => d i j hij hj ?_
  · have := code_lt (win f l i) (hw i)
    rwa [win_len] at this
  · exact code_inj _ _ (by rw [win_len, win_len]) (hw i) (hw j) z
/-- where the windows come round -/
structure Rnd (f : Nat → Int) (l bg ln : Nat) : Prop where
  pos : 0 < ln
  again : win f l (bg + ln) = win f l bg
  first : ∀ i j, i < j → j < bg + ln → win f l i ≠ win f l j
theorem Rnd.uniq {f : Nat → Int} {l bg ln bg' ln' : Nat} (h : Rnd f l bg ln) (h' : Rnd f l bg' ln') : bg = bg' ∧ ln = ln' := by
  have p := h.pos
  have p' := h'.pos
  rcases Nat.lt_trichotomy (bg + ln) (bg' + ln') with c | c | c
  · exact absurd h.again.symm (h'.first bg (bg + ln) (by omega) c)
  · have : bg = bg' := by
      rcases Nat.lt_trichotomy bg bg' with d | d | d
      · have e : win f l bg = win f l bg' := by rw [← h.again, c, h'.again]
        exact absurd e (h.first bg bg' d (by omega))
      · exact d
      · have e : win f l bg' = win f l bg := by rw [← h'.again, ← c, h.again]
        exact absurd e (h'.first bg' bg d (by omega))
    exact ⟨this, by omega⟩
  · exact absurd h'.again.symm (h.first bg' (bg' + ln') (by omega) c)
end Pm
namespace K42
open PySem L2
seal PA PE PS PSs PT PW PI PG PGs PO PIf
def top (i : Nat) : Stmt := PySem.Challenge.pw_nextbyrule_k42_places_of_a_number.main.body.getD i (.Pass ⟨0, 0, 0, 0⟩)
abbrev s_is_prime : Stmt := top 6
abbrev s_taken : Stmt := top 7
abbrev s_inverse : Stmt := top 8
abbrev s_over : Stmt := top 9
abbrev s_next_place : Stmt := top 11
abbrev s_first_places : Stmt := top 12
abbrev s_trimmed : Stmt := top 14
abbrev s_divided : Stmt := top 15
abbrev s_monic : Stmt := top 16
abbrev s_greatest : Stmt := top 17
abbrev s_of_rule : Stmt := top 18
abbrev s_rule_of : Stmt := top 19
abbrev s_prime_above : Stmt := top 22
abbrev s_divides : Stmt := top 23
abbrev s_taken_poly : Stmt := top 24
abbrev s_nearest : Stmt := top 25
abbrev s_joined : Stmt := top 26
abbrev s_whole_greatest : Stmt := top 27
abbrev s_shared_divisor : Stmt := top 28
abbrev s_top_of : Stmt := top 30
abbrev s_least_of : Stmt := top 31
abbrev s_shortest : Stmt := top 32
abbrev s_refuse_wide : Stmt := top 35
abbrev s_round_row : Stmt := top 36
abbrev s_came_round : Stmt := top 37
abbrev s_where : Stmt := top 38
abbrev s_Lat : Stmt := top 40
abbrev s_Lrow : Stmt := top 41
abbrev s_Lround : Stmt := top 42
abbrev s_Lwhole : Stmt := top 43
abbrev s_Lalike : Stmt := top 44
abbrev s_Ltoo_long : Stmt := top 45
abbrev s_Lrefused : Stmt := top 46
abbrev s_law : Stmt := top 47
theorem sc_is_prime : FnScope ["number", "divisor"] ["number"] (defScope s_is_prime) := ⟨rfl, rfl, rfl, by decide +kernel, rfl, by decide +kernel, by decide +kernel⟩
theorem sc_taken : FnScope ["by", "number"] ["by", "number"] (defScope s_taken) := ⟨rfl, rfl, rfl, by decide +kernel, rfl, by decide +kernel, by decide +kernel⟩
theorem sc_inverse : FnScope ["prime", "number", "power", "square", "left"] ["prime", "number"] (defScope s_inverse) := ⟨rfl, rfl, rfl, by decide +kernel, rfl, by decide +kernel, by decide +kernel⟩
theorem sc_over : FnScope ["by", "one", "other"] ["by", "one", "other"] (defScope s_over) := ⟨rfl, rfl, rfl, by decide +kernel, rfl, by decide +kernel, by decide +kernel⟩
theorem sc_next_place : FnScope ["by", "rule", "before", "total", "k"] ["by", "rule", "before"] (defScope s_next_place) := ⟨rfl, rfl, rfl, by decide +kernel, rfl, by decide +kernel, by decide +kernel⟩
theorem sc_first_places : FnScope ["row", "count", "by", "rule", "starts", "found"] ["row", "count"] (defScope s_first_places) := ⟨rfl, rfl, rfl, by decide +kernel, rfl, by decide +kernel, by decide +kernel⟩
theorem sc_trimmed : FnScope ["numbers", "end"] ["numbers"] (defScope s_trimmed) := ⟨rfl, rfl, rfl, by decide +kernel, rfl, by decide +kernel, by decide +kernel⟩
theorem sc_divided : FnScope ["by", "one", "other", "top", "often", "left", "shift", "factor", "k"] ["by", "one", "other"] (defScope s_divided) := ⟨rfl, rfl, rfl, by decide +kernel, rfl, by decide +kernel, by decide +kernel⟩
theorem sc_monic : FnScope ["prime", "poly", "last"] ["prime", "poly"] (defScope s_monic) := ⟨rfl, rfl, rfl, by decide +kernel, rfl, by decide +kernel, by decide +kernel⟩
theorem sc_greatest : FnScope ["by", "one", "other", "great", "small", "left"] ["by", "one", "other"] (defScope s_greatest) := ⟨rfl, rfl, rfl, by decide +kernel, rfl, by decide +kernel, by decide +kernel⟩
theorem sc_of_rule : FnScope ["by", "rule", "length", "numbers"] ["by", "rule"] (defScope s_of_rule) := ⟨rfl, rfl, rfl, by decide +kernel, rfl, by decide +kernel, by decide +kernel⟩
theorem sc_rule_of : FnScope ["by", "poly", "length"] ["by", "poly"] (defScope s_rule_of) := ⟨rfl, rfl, rfl, by decide +kernel, rfl, by decide +kernel, by decide +kernel⟩
theorem sc_prime_above : FnScope ["number", "found"] ["number"] (defScope s_prime_above) := ⟨rfl, rfl, rfl, by decide +kernel, rfl, by decide +kernel, by decide +kernel⟩
theorem sc_divides : FnScope ["monic_one", "poly"] ["monic_one", "poly"] (defScope s_divides) := ⟨rfl, rfl, rfl, by decide +kernel, rfl, by decide +kernel, by decide +kernel⟩
theorem sc_taken_poly : FnScope ["prime", "poly"] ["prime", "poly"] (defScope s_taken_poly) := ⟨rfl, rfl, rfl, by decide +kernel, rfl, by decide +kernel, by decide +kernel⟩
theorem sc_nearest : FnScope ["modulus", "number", "rest"] ["modulus", "number"] (defScope s_nearest) := ⟨rfl, rfl, rfl, by decide +kernel, rfl, by decide +kernel, by decide +kernel⟩
theorem sc_joined : FnScope ["modulus", "number", "prime", "rest", "more"] ["modulus", "number", "prime", "rest"] (defScope s_joined) := ⟨rfl, rfl, rfl, by decide +kernel, rfl, by decide +kernel, by decide +kernel⟩
theorem sc_whole_greatest : FnScope ["one", "other", "told", "modulus", "prime", "ripe", "seen", "before"] ["one", "other"] (defScope s_whole_greatest) := ⟨rfl, rfl, rfl, by decide +kernel, rfl, by decide +kernel, by decide +kernel⟩
theorem sc_shared_divisor : FnScope ["by", "one", "other"] ["by", "one", "other"] (defScope s_shared_divisor) := ⟨rfl, rfl, rfl, by decide +kernel, rfl, by decide +kernel, by decide +kernel⟩
theorem sc_top_of : FnScope ["row", "poly", "by", "starts", "top", "k", "parts"] ["row", "poly"] (defScope s_top_of) := ⟨rfl, rfl, rfl, by decide +kernel, rfl, by decide +kernel, by decide +kernel⟩
theorem sc_least_of : FnScope ["row", "by", "poly", "top"] ["row"] (defScope s_least_of) := ⟨rfl, rfl, rfl, by decide +kernel, rfl, by decide +kernel, by decide +kernel⟩
theorem sc_shortest : FnScope ["row", "least", "rule"] ["row"] (defScope s_shortest) := ⟨rfl, rfl, rfl, by decide +kernel, rfl, by decide +kernel, by decide +kernel⟩
theorem sc_refuse_wide : FnScope ["prime", "length", "windows", "turn"] ["prime", "length"] (defScope s_refuse_wide) := ⟨rfl, rfl, rfl, by decide +kernel, rfl, by decide +kernel, by decide +kernel⟩
theorem sc_round_row : FnScope ["row", "least"] ["row"] (defScope s_round_row) := ⟨rfl, rfl, rfl, by decide +kernel, rfl, by decide +kernel, by decide +kernel⟩
theorem sc_came_round : FnScope ["row", "by", "rule", "window", "seen", "begin"] ["row"] (defScope s_came_round) := ⟨rfl, rfl, rfl, by decide +kernel, rfl, by decide +kernel, by decide +kernel⟩
theorem sc_where : FnScope ["row", "number", "least", "found", "begin", "length", "numbers", "early", "starts"] ["row", "number"] (defScope s_where) := ⟨rfl, rfl, rfl, by decide +kernel, rfl, by decide +kernel, by decide +kernel⟩
theorem sc_Lat : FnScope ["_law_script", "_law_k", "_law_mixed"] ["_law_script", "_law_k"] (defScope s_Lat) := ⟨rfl, rfl, rfl, by decide +kernel, rfl, by decide +kernel, by decide +kernel⟩
theorem sc_Lrow : FnScope ["_law_script", "_law_at_here", "_law_by", "_law_most", "_law_size", "_law_cells", "_law_rule"] ["_law_script", "_law_at_here"] (defScope s_Lrow) := ⟨rfl, rfl, rfl, by decide +kernel, rfl, by decide +kernel, by decide +kernel⟩
theorem sc_Lround : FnScope ["_law_row_here", "_law_by", "_law_rule", "_law_starts", "_law_known", "_law_here", "_law_numbers", "_law_total", "_law_k"] ["_law_row_here"] (defScope s_Lround) := ⟨rfl, rfl, rfl, by decide +kernel, rfl, by decide +kernel, by decide +kernel⟩
theorem sc_Lwhole : FnScope ["_law_found"] ["_law_found"] (defScope s_Lwhole) := ⟨rfl, rfl, rfl, by decide +kernel, rfl, by decide +kernel, by decide +kernel⟩
theorem sc_Lalike : FnScope ["_law_found", "_law_due"] ["_law_found", "_law_due"] (defScope s_Lalike) := ⟨rfl, rfl, rfl, by decide +kernel, rfl, by decide +kernel, by decide +kernel⟩
theorem sc_Ltoo_long : FnScope ["_law_by", "_law_size", "_law_many", "_law_k"] ["_law_by", "_law_size"] (defScope s_Ltoo_long) := ⟨rfl, rfl, rfl, by decide +kernel, rfl, by decide +kernel, by decide +kernel⟩
theorem sc_Lrefused : FnScope ["_law_row_here", "_law_number", "_law_caught", "e"] ["_law_row_here", "_law_number"] (defScope s_Lrefused) := ⟨rfl, rfl, rfl, by decide +kernel, rfl, by decide +kernel, by decide +kernel⟩
theorem sc_law : FnScope ["_law_script", "_law_row_here", "_law_numbers", "_law_k", "_law_begin", "_law_length", "_law_going", "_law_number", "_law_early", "_law_due", "_law_found"] ["_law_script"] (defScope s_law) := ⟨rfl, rfl, rfl, by decide +kernel, rfl, by decide +kernel, by decide +kernel⟩
abbrev cs_monic1 : Scope := { kind := .function, names := [(".0", .local), ("number", .local), ("over", .globalImplicit), ("last", .cell), ("prime", .cell)], isGenerator := false, isCoroutine := false }
abbrev cs_of_rule1 : Scope := { kind := .function, names := [(".0", .local), ("k", .local), ("taken", .globalImplicit), ("by", .cell), ("length", .cell), ("rule", .cell)], isGenerator := false, isCoroutine := false }
abbrev cs_rule_of1 : Scope := { kind := .function, names := [(".0", .local), ("k", .local), ("taken", .globalImplicit), ("by", .cell), ("length", .cell), ("poly", .cell)], isGenerator := false, isCoroutine := false }
abbrev cs_top_of1 : Scope := { kind := .function, names := [(".0", .local), ("j", .local), ("k", .cell), ("poly", .cell), ("starts", .cell)], isGenerator := false, isCoroutine := false }
abbrev cs_where1 : Scope := { kind := .function, names := [(".0", .local), ("n", .local), ("number", .cell), ("numbers", .cell)], isGenerator := false, isCoroutine := false }
abbrev cs_where2 : Scope := { kind := .function, names := [(".0", .local), ("n", .local), ("number", .cell), ("numbers", .cell)], isGenerator := false, isCoroutine := false }
abbrev cs_Lrow1 : Scope := { kind := .function, names := [(".0", .local), ("_law_k", .local), ("_law_at", .globalImplicit), ("_law_at_here", .cell), ("_law_script", .cell)], isGenerator := false, isCoroutine := false }
abbrev cs_Lrow2 : Scope := { kind := .function, names := [(".0", .local), ("_law_cell", .local), ("int", .globalImplicit), ("_law_by", .cell)], isGenerator := false, isCoroutine := false }
abbrev cs_Lrow3 : Scope := { kind := .function, names := [(".0", .local), ("_law_cell", .local), ("_law_by", .cell)], isGenerator := false, isCoroutine := false }
abbrev cs_Lalike1 : Scope := { kind := .function, names := [(".0", .local), ("_law_k", .local), ("_law_alike", .globalImplicit), ("_law_due", .cell), ("_law_found", .cell)], isGenerator := false, isCoroutine := false }
abbrev cs_law1 : Scope := { kind := .function, names := [(".0", .local), ("_law_n", .local), ("_law_going", .cell), ("_law_number", .cell)], isGenerator := false, isCoroutine := false }
abbrev cs_law2 : Scope := { kind := .function, names := [(".0", .local), ("_law_n", .local), ("_law_going", .cell), ("_law_number", .cell)], isGenerator := false, isCoroutine := false }
structure Bt (mg : Str → Option Value) : Prop where
  b_ValueError : mg "ValueError" = none
  b_all : mg "all" = none
  b_bool : mg "bool" = none
  b_int : mg "int" = none
  b_isinstance : mg "isinstance" = none
  b_len : mg "len" = none
  b_list : mg "list" = none
  b_max : mg "max" = none
  b_min : mg "min" = none
  b_range : mg "range" = none
  b_sum : mg "sum" = none
  b_tuple : mg "tuple" = none
  g_BELOW_THE_PRIMES : ∃ t, mg "BELOW_THE_PRIMES" = some (.int 1000000 t)
  g_MOST_WINDOWS : ∃ t, mg "MOST_WINDOWS" = some (.int 4096 t)
structure Ms (K : PySem.W.Frag) (mg : Str → Option Value) (base : Heap) (A_NoBy A_RuleError A_TooLong : Addr) : Prop where
  m_NoBy : mg "NoBy" = some (.ref A_NoBy)
  m_RuleError : mg "RuleError" = some (.ref A_RuleError)
  m_TooLong : mg "TooLong" = some (.ref A_TooLong)
  x_NoBy : ExC mg base "NoBy" A_NoBy
  s_NoBy_RuleError : ExS base A_NoBy A_RuleError
  i_NoBy : ExI K A_NoBy
  k_NoBy_NoBy : PySem.W.kitOne K (.ref A_NoBy) (.ref A_NoBy) = some true
  k_NoBy_RuleError : PySem.W.kitOne K (.ref A_NoBy) (.ref A_RuleError) = some true
  k_NoBy_TooLong : PySem.W.kitOne K (.ref A_NoBy) (.ref A_TooLong) = some false
  k_NoBy_ValueError : PySem.W.kitOne K (.ref A_NoBy) (.type "ValueError") = some true
  x_TooLong : ExC mg base "TooLong" A_TooLong
  s_TooLong_RuleError : ExS base A_TooLong A_RuleError
  i_TooLong : ExI K A_TooLong
  k_TooLong_NoBy : PySem.W.kitOne K (.ref A_TooLong) (.ref A_NoBy) = some false
  k_TooLong_RuleError : PySem.W.kitOne K (.ref A_TooLong) (.ref A_RuleError) = some true
  k_TooLong_TooLong : PySem.W.kitOne K (.ref A_TooLong) (.ref A_TooLong) = some true
  k_TooLong_ValueError : PySem.W.kitOne K (.ref A_TooLong) (.type "ValueError") = some true
abbrev KLAW : Nat := 14
/-! ### the drawn numbers -/
theorem emod_lo (a : Int) {b : Int} (h : 0 < b) : 0 ≤ a % b := Int.emod_nonneg _ (by omega)
theorem emod_hi (a : Int) {b : Int} (h : 0 < b) : a % b < b := Int.emod_lt_of_pos _ h
theorem atI_ints {ns : List Int} {k : Int} (h0 : 0 ≤ k) (h1 : k < (ns.length : Int)) : atI (ns.map V.int) k = some (.int (ns.getD k.toNat 0)) := by
  have e : k = ((k.toNat : Nat) : Int) := by omega
  have hk : k.toNat < ns.length := by omega
  conv => lhs; rw [e]
  exact atI_nat (by rw [List.getElem?_map, List.getElem?_eq_getElem hk, List.getD_eq_getElem?_getD, List.getElem?_eq_getElem hk] <;> rfl)
theorem atI_len {α : Type} {xs : List α} {k : Int} {v : α} (j : Nat) (e : k = (j : Int)) (h : xs[j]? = some v) : atI xs k = some v := by rw [e]; exact atI_nat h
theorem dec_true {p : Prop} [Decidable p] (c : decide p = true) : p := of_decide_eq_true c
theorem dec_false {p : Prop} [Decidable p] (c : ¬ decide p = true) : ¬ p := of_decide_eq_false (Bool.eq_false_iff.mpr c)
/-! ### rows whose by may be great -/
/-- a number by a by -/
def IsNum (b x : Int) : Prop := b = 0 ∨ (0 ≤ x ∧ x < b)
/-- a row, as plain data -/
structure Rw where
  b : Int
  rule : List Int
  starts : List Int
/-- what is true of each row here -/
structure RwOk (r : Rw) : Prop where
  len : r.rule.length = r.starts.length
  short : r.rule.length ≤ 12
  by0 : 0 ≤ r.b
  by1 : Rm.Bd 2000 r.b
  ruleNum : ∀ x ∈ r.rule, IsNum r.b x
  startsNum : ∀ x ∈ r.starts, IsNum r.b x
  ruleBd : ∀ x ∈ r.rule, Rm.Bd 2000 x
  startsBd : ∀ x ∈ r.starts, Rm.Bd 2000 x
def Rw.row (r : Rw) (n : Nat) : List Int := Rm.row r.b r.rule r.starts n
def Rw.at (r : Rw) (n : Nat) : Int := Rm.at_ r.b r.rule r.starts n
theorem Rw.row_len (r : Rw) (n : Nat) : (r.row n).length = n := Rm.row_len ..
theorem mulBd {x y : Int} {m n : Nat} (h : Rm.Bd m x) (h' : Rm.Bd n y) (hn : m + n ≤ 134217728) : IntMulOk x y :=
  IntMulOk.of_le (intBits_le_iff.mpr h) (intBits_le_iff.mpr h') hn
/-- a row at a value -/
def RowIs (H : Hp) (v : V) (r : Rw) : Prop :=
  ∃ a p q, v = .ref a ∧ H a = some (.tup [.int r.b, .ref p, .ref q]) ∧ H p = some (.tup (r.rule.map V.int)) ∧ H q = some (.tup (r.starts.map V.int))
theorem RowIs.same {H H' : Hp} {v : V} {r : Rw} (h : RowIs H v r) (g : Same H H') : RowIs H' v r := by
  obtain ⟨a, p, q, e, h1, h2, h3⟩ := h
  exact ⟨a, p, q, e, g _ _ h1, g _ _ h2, g _ _ h3⟩
theorem map_snoc (xs : List Int) (x : Int) : (xs ++ [x]).map V.int = xs.map V.int ++ [.int x] := by rw [List.map_append]; rfl
/-- a list told: new, at r -/
def Told (H : Hp) (Q : VK) (xs : List V) : Prop := ∀ r H', Same H H' → H r = none → H' r = some (.lst xs) → Q (.ref r) H'
def spLaw (K : PySem.W.Frag) : Sp := fun vs H Q _ => ∃ (a : Addr) (ns : List Int), vs = [.ref a] ∧ SqL K H a (ns.map V.int) ∧ ns.length ≤ 63 ∧ ∀ H', Q (.bl true) H'
theorem cut_to (xs : List V) (k : Nat) : cutV xs none (some (k : Int)) = xs.take k := by
  unfold cutV
  rw [HT.sIx_nat, HT.sIx_none, List.drop_zero, Nat.sub_zero, List.take_eq_take_iff]
  omega
theorem cut_from (xs : List V) {k : Nat} (h : k ≤ xs.length) : cutV xs (some (k : Int)) none = xs.drop k := by
  unfold cutV
  rw [HT.sIx_nat, HT.sIx_none, Nat.min_eq_left h, List.take_of_length_le (by rw [List.length_drop]; omega)]
/-! ### polynomials on the heap -/
/-- a tuple of ints told -/
def ToldT (H : Hp) (Q : VK) (ns : List Int) : Prop := ∀ p H', Same H H' → H' p = some (.tup (ns.map V.int)) → Q (.ref p) H'
theorem take_step {xs : List Int} {n : Nat} (h : 0 < n) (hn : n ≤ xs.length) : xs.take n = xs.take (n - 1) ++ [xs.getD (n - 1) 0] := by
  obtain ⟨m, rfl⟩ : ∃ m, n = m + 1 := ⟨n - 1, by omega⟩
  rw [Nat.add_sub_cancel, List.take_add_one, List.getElem?_eq_getElem (by omega), List.getD_eq_getElem?_getD, List.getElem?_eq_getElem (by omega)]
  rfl
theorem trim_down {xs : List Int} {n : Nat} (h : 0 < n) (hn : n ≤ xs.length) (ht : Pm.trim (xs.take n) = Pm.trim xs) (h0 : xs.getD (n - 1) 0 = 0) : Pm.trim (xs.take (n - 1)) = Pm.trim xs := by
  rw [take_step h hn, h0, Pm.trim_zero] at ht
  exact ht
theorem trim_stop {xs : List Int} {n : Nat} (hn : n ≤ xs.length) (ht : Pm.trim (xs.take n) = Pm.trim xs) (h0 : n = 0 ∨ xs.getD (n - 1) 0 ≠ 0) : xs.take n = Pm.trim xs := by
  rcases h0 with h0 | h0
  · subst h0; rw [← ht]; rfl
  · by_cases hz : n = 0
    · subst hz; rw [← ht]; rfl
    · rw [← ht, take_step (by omega) hn, Pm.trim_last _ h0]
theorem ixN_of {n j : Nat} {i : Int} (e : i = (j : Int)) (h : j < n) : ixN n i = some j := by
  subst e
  unfold ixN
  rw [if_pos (by omega), if_pos (by omega), Int.toNat_natCast]
theorem map_set_int (L : List Int) (j : Nat) (x : Int) : (L.map V.int).set j (.int x) = (L.set j x).map V.int := by rw [List.map_set]
theorem replicate_ofF (n : Nat) : (List.replicate n [V.int 0]).flatten = (Pm.ofF n fun _ => 0).map V.int := by
  induction n with
  | zero => rfl
  | succ n ih =>
    rw [Pm.ofF_succ, List.map_append, ← ih, List.replicate_succ', List.flatten_append]
    rfl
/-- a comprehension over a range, of ints -/
theorem comp_rng {n : Nat} {ix : List (Option Nat)} {te : TE} {σ : St} {H1 : Hp} {Q : VK} (hz : n ≤ 1000) {rest : St} (hst : cst ix σ = none :: rest) (f : Nat → Int)
    (he : ∀ H' k, Same H1 H' → k < n → ∀ kk : VK, kk (.int (f k)) H' → te (some (.int (0 + (k : Int))) :: rest) H' kk)
    (hQ : ∀ D, H1 D = none → Q (.ref D) (upd H1 D (.lst ((Pm.ofF n f).map V.int)))) : CompK ix (gName 0) tYes te σ Q (Itr 0 n) H1 := by
  refine comp_pure its_range (by rw [List.length_map, List.length_range]; exact Nat.le_of_lt (small1000 hz)) hst (fun _ => true) (fun x => match x with | .int k => .int (f k.toNat) | _ => .non) ?_ ?_ ?_
  · intro H2 x g2 hx k hk; exact hk
  · intro H2 x g2 hx _ k hk
    obtain ⟨j, hj, rfl⟩ := List.mem_map.mp hx
    have e1 : (0 + (j : Int)).toNat = j := by omega
    refine he H2 j g2 (List.mem_range.mp hj) k ?_
    have hk' : k (V.int (f (0 + (j : Int)).toNat)) H2 := hk
    rwa [e1] at hk'
  · intro D hD
    have el : ((((List.range n).map fun i => V.int (0 + (i : Nat))).filter fun _ => true).map fun x => match x with | .int k => V.int (f k.toNat) | _ => V.non) = (Pm.ofF n f).map V.int := by
      rw [List.filter_eq_self.mpr (by simp), List.map_map, Pm.ofF, List.map_map]
      refine List.map_congr_left fun k _ => ?_
      show V.int (f (0 + (k : Int)).toNat) = V.int (f k)
      rw [show (0 + (k : Int)).toNat = k by omega]
    rw [el]
    exact hQ D hD
/-- a comprehension over a tuple of ints, of ints -/
theorem comp_tup {K : PySem.W.Frag} {a : Addr} {xs : List Int} {ix : List (Option Nat)} {te : TE} {σ : St} {H1 : Hp} {Q : VK} (hA : H1 a = some (.tup (xs.map V.int))) (hz : xs.length ≤ 1000) {rest : St} (hst : cst ix σ = none :: rest) (f : Int → Int)
    (he : ∀ H' x, Same H1 H' → x ∈ xs → ∀ kk : VK, kk (.int (f x)) H' → te (some (.int x) :: rest) H' kk)
    (hQ : ∀ D, H1 D = none → Q (.ref D) (upd H1 D (.lst ((xs.map f).map V.int)))) : CompK ix (gName 0) tYes te σ Q (Itt K a) H1 := by
  refine comp_pure (its_tup (SqT.of hA)) (by rw [List.length_map]; exact Nat.le_of_lt (small1000 hz)) hst (fun _ => true) (fun x => match x with | .int k => .int (f k) | _ => .non) ?_ ?_ ?_
  · intro H2 x g2 hx k hk; exact hk
  · intro H2 x g2 hx _ k hk
    obtain ⟨y, hy, rfl⟩ := List.mem_map.mp hx
    exact he H2 y g2 hy k hk
  · intro D hD
    have el : (((xs.map V.int).filter fun _ => true).map fun x => match x with | .int k => V.int (f k) | _ => V.non) = (xs.map f).map V.int := by
      rw [List.filter_eq_self.mpr (by simp), List.map_map, List.map_map]; rfl
    rw [el]
    exact hQ D hD
theorem comp_lst {K : PySem.W.Frag} {a : Addr} {xs : List Int} {ix : List (Option Nat)} {te : TE} {σ : St} {H1 : Hp} {Q : VK} (hA : H1 a = some (.lst (xs.map V.int))) (hz : xs.length ≤ 1000) {rest : St} (hst : cst ix σ = none :: rest) (f : Int → Int)
    (he : ∀ H' x, Same H1 H' → x ∈ xs → ∀ kk : VK, kk (.int (f x)) H' → te (some (.int x) :: rest) H' kk)
    (hQ : ∀ D, H1 D = none → Q (.ref D) (upd H1 D (.lst ((xs.map f).map V.int)))) : CompK ix (gName 0) tYes te σ Q (Itl K a) H1 := by
  refine comp_pure (its_list (SqL.of hA)) (by rw [List.length_map]; exact Nat.le_of_lt (small1000 hz)) hst (fun _ => true) (fun x => match x with | .int k => .int (f k) | _ => .non) ?_ ?_ ?_
  · intro H2 x g2 hx k hk; exact hk
  · intro H2 x g2 hx _ k hk
    obtain ⟨y, hy, rfl⟩ := List.mem_map.mp hx
    exact he H2 y g2 hy k hk
  · intro D hD
    have el : (((xs.map V.int).filter fun _ => true).map fun x => match x with | .int k => V.int (f k) | _ => V.non) = (xs.map f).map V.int := by
      rw [List.filter_eq_self.mpr (by simp), List.map_map, List.map_map]; rfl
    rw [el]
    exact hQ D hD
theorem map_int_get {p : List Int} {i : Nat} {x : V} (h : (p.map V.int)[i]? = some x) : x = .int (Pm.co p i) ∧ i < p.length := by
  by_cases hi : i < p.length
  · rw [List.getElem?_map, List.getElem?_eq_getElem hi] at h
    cases h
    refine ⟨?_, hi⟩
    show V.int _ = V.int (p.getD i 0)
    rw [List.getD_eq_getElem?_getD, List.getElem?_eq_getElem hi]; rfl
  · rw [List.getElem?_eq_none (by rw [List.length_map]; omega)] at h; cases h
/-- a comprehension over a range whose elements may lay new objects: ints of which something is known -/
theorem comp_rngP {n : Nat} {ix : List (Option Nat)} {te : TE} {σ : St} {H1 : Hp} {Q : VK} (hz : n ≤ 1000) {rest : St} (hst : cst ix σ = none :: rest) (P : Int → Prop)
    (he : ∀ H' k, Same H1 H' → k < n → ∀ kk : VK, (∀ x H2, Same H' H2 → P x → kk (.int x) H2) → te (some (.int (0 + (k : Int))) :: rest) H' kk)
    (hQ : ∀ D H' xs, H1 D = none → Same H1 H' → H' D = some (.lst (List.map V.int xs)) → xs.length = n → (∀ x ∈ xs, P x) → Q (.ref D) H') : CompK ix (gName 0) tYes te σ Q (Itr 0 n) H1 := by
  have I : ItS (Itr 0 n) ((List.range n).map fun i => V.int (0 + (i : Nat))) H1 := its_range
  have lI : ((List.range n).map fun i => V.int (0 + (i : Nat))).length = n := by rw [List.length_map, List.length_range]
  constructor
  intro D hD
  refine ⟨fun i m σ' H' => m = n - i ∧ i ≤ n ∧ (∃ o, σ' = o :: rest) ∧ Same H1 H' ∧ ∃ xs : List Int, H' D = some (.lst (xs.map V.int)) ∧ xs.length = i ∧ ∀ x ∈ xs, P x, ⟨n, rfl, Nat.zero_le _, ⟨none, hst⟩, Same.new hD _, [], upd_same, rfl, fun _ h => nomatch h⟩, ?_⟩
  rintro i m σ' H' ⟨rfl, hi, ⟨o, rfl⟩, g, xs, hl, lx, hP⟩
  by_cases hlt : i < n
  · refine .inr ⟨I.go i _ g (by rw [lI]; exact hlt), fun x H2 y => ?_⟩
    obtain ⟨rfl, hx⟩ := I.yld i _ x H2 g y
    have hx := hx (by rw [lI]; exact hlt)
    rw [List.getElem?_map, List.getElem?_range hlt] at hx
    cases hx
    change te (some (.int (0 + (i : Int))) :: rest) H2 _
    refine he H2 i g hlt _ fun x H3 g3 hx => ⟨_, g3 _ _ hl, by rw [List.length_map, lx]; exact small1000 (by omega), n - (i + 1), by omega, rfl, hlt, ⟨_, rfl⟩, Same.upd (g.trans g3) hD _, xs ++ [x], ?_, by rw [List.length_append, lx]; rfl, fun z hz => ?_⟩
    · rw [upd_same, map_snoc]
    · rcases List.mem_append.mp hz with hz | hz
      · exact hP z hz
      · rw [List.mem_singleton.mp hz]; exact hx
  · have e : i = n := by omega
    subst e
    exact .inl ⟨I.stop _ _ g (by rw [lI]; exact Nat.le_refl _), hQ D H' xs hD g hl lx hP⟩
theorem primesN_range : ∀ P ∈ Om.primesN, 2 ≤ P ∧ P < 1000 := by decide +kernel
def spTaken : Sp := fun vs H Q _ => ∃ b n : Int, vs = [.int b, .int n] ∧ 0 ≤ b ∧ Q (.int (Rm.tk b n)) H
def spNext (K : PySem.W.Frag) : Sp := fun vs H Q _ => ∃ (b : Int) (r s : Addr) (rule before : List Int), vs = [.int b, .ref r, .ref s] ∧ 0 ≤ b ∧ SqT K H r (rule.map V.int) ∧ (SqL K H s (before.map V.int) ∨ SqT K H s (before.map V.int)) ∧ rule.length ≤ before.length ∧ rule.length ≤ 12 ∧ before.length ≤ 5000 ∧
  (∀ x ∈ rule, Rm.Bd 2000 x) ∧ (∀ x ∈ before, Rm.Bd 2100000 x) ∧ Q (.int (Rm.tk b (Rm.S rule (fun i => before.getD i 0) before.length rule.length))) H
theorem RwOk.rowBdW {r : Rw} (h : RwOk r) (hb : 0 < r.b) (n : Nat) : ∀ x ∈ r.row n, Rm.Bd 2100000 x := by
  intro x hx
  have e : r.row n = (List.range n).map r.at := Rm.row_eq ..
  rw [e] at hx
  obtain ⟨i, _, rfl⟩ := List.mem_map.mp hx
  have := Rm.at_range h.len hb (fun y hy => by
    rcases h.startsNum y hy with z | z
    · omega
    · exact z) i
  have e2 : r.at i = Rm.at_ r.b r.rule r.starts i := rfl
  rw [e2]
  have b1 := h.by1
  have b2 : Rm.Bd 2000 (Rm.at_ r.b r.rule r.starts i) := Nat.lt_of_le_of_lt (by omega) b1
  exact b2.mono (by decide)
def spFirst (K : PySem.W.Frag) : Sp := fun vs H Q _ => ∃ (v : V) (r : Rw) (c : Int), vs = [v, .int c] ∧ RowIs H v r ∧ RwOk r ∧ 0 < r.b ∧ 0 ≤ c ∧ c ≤ 4096 ∧ Told H Q ((r.row c.toNat).map V.int)
def spInverseQ : Sp := fun vs H Q _ => ∃ (P : Nat) (a : Int), vs = [.int P, .int a] ∧ Om.Prime P ∧ P < 2097152 ∧ 0 < a ∧ a < (P : Int) ∧ ∀ x : Int, 0 ≤ x → x < 2097152 → x % (P : Int) = a ^ (P - 2) % (P : Int) → Q (.int x) H
/-- one over another, by a prime, the other not 0 -/
def spOverQ : Sp := fun vs H Q _ => ∃ (P : Nat) (one other : Int), vs = [.int P, .int one, .int other] ∧ Om.Prime P ∧ P < 2097152 ∧ 0 < other ∧ other < (P : Int) ∧ Q (.int (one * other ^ (P - 2) % (P : Int))) H
def spTrim (K : PySem.W.Frag) : Sp := fun vs H Q _ => ∃ (l : Addr) (xs : List Int), vs = [.ref l] ∧ SqL K H l (xs.map V.int) ∧ ToldT H Q (Pm.trim xs)
def ToldD (H : Hp) (Q : VK) (b : Int) (P M : List Int) : Prop := ∀ t x y q r H', Same H H' → H' t = some (.tup [.ref x, .ref y]) → H' x = some (.tup (List.map V.int q)) → H' y = some (.tup (List.map V.int r)) → Pm.Div b P M q r →
  (∀ z ∈ q, True) → (∀ z ∈ r, True) → q.length ≤ P.length → Q (.ref t) H'
def spDividedP : Sp := fun vs H Q _ => ∃ (b : Int) (a c : Addr) (P M : List Int), vs = [.int b, .ref a, .ref c] ∧ 0 < b ∧ b < 2097152 ∧ H a = some (.tup (P.map V.int)) ∧ H c = some (.tup (M.map V.int)) ∧ P.length ≤ 40 ∧ M.length ≤ 40 ∧ Pm.Mon M ∧
  (∀ k, Rm.tk b (Pm.co P k) = Pm.co P k) ∧ ToldD H Q b P M
theorem tk_small {b x : Int} (h0 : 0 < b) (h1 : b < 2097152) (h : Rm.tk b x = x) : -(2 ^ 64) < x ∧ x < 2 ^ 64 := by
  rw [← h, Rm.tk_pos (by omega)]
  have := emod_lo x h0
  have := emod_hi x h0
  omega
theorem rng62 {n : Nat} (h : n ≤ 1000) : -(2 ^ 62) ≤ (n : Int) ∧ (n : Int) < 2 ^ 62 := by omega
theorem ixs {s t n : Nat} (h : s + t < n) : 0 ≤ (s : Int) + (0 + (t : Int)) ∧ (s : Int) + (0 + (t : Int)) < (n : Int) := by omega
theorem ixt {s m n : Nat} (hm : 0 < m) (h : s + m ≤ n) : 0 ≤ (s : Int) + ((m : Int) - 1) ∧ (s : Int) + ((m : Int) - 1) < (n : Int) := by omega
theorem ixk {t n : Nat} (h : t < n) : 0 ≤ 0 + (t : Int) ∧ 0 + (t : Int) < (n : Int) := by omega
theorem max_zero (m n : Nat) : (if (m : Int) - ((n : Int) - 1) > 0 then (m : Int) - ((n : Int) - 1) else 0).toNat = m - (n - 1) ∨ n = 0 := by
  by_cases h : n = 0
  · exact .inr h
  · left; split <;> omega
def ToldM (H : Hp) (Q : VK) (b : Int) (p : List Int) : Prop := ∀ t m H', Same H H' → H' t = some (.tup (List.map V.int m)) → Pm.MonOf b p m → Q (.ref t) H'
def spMonicQ : Sp := fun vs H Q _ => ∃ (P : Nat) (a : Addr) (p : List Int), vs = [.int P, .ref a] ∧ Om.Prime P ∧ P < 2097152 ∧ H a = some (.tup (p.map V.int)) ∧ p.length ≤ 300 ∧ Pm.Py P p ∧ ToldM H Q P p
def ToldG (H : Hp) (Q : VK) (b : Int) (p r : List Int) : Prop := ∀ t g H', Same H H' → H' t = some (.tup (List.map V.int g)) → Pm.Gcd b p r g → g.length ≤ max p.length r.length → Q (.ref t) H'
def spGreatestQ : Sp := fun vs H Q _ => ∃ (P : Nat) (a c : Addr) (p r : List Int), vs = [.int P, .ref a, .ref c] ∧ Om.Prime P ∧ P < 2097152 ∧ H a = some (.tup (p.map V.int)) ∧ H c = some (.tup (r.map V.int)) ∧ p.length ≤ 40 ∧ r.length ≤ 40 ∧ Pm.Py P p ∧ Pm.Py P r ∧ (r = [] → p ≠ []) ∧ ToldG H Q P p r
/-! ### by primes alone: what by 0 would do is never asked -/
def spNever : Sp := fun _ _ _ _ => False
def spOfRule : Sp := fun vs H Q _ => ∃ (b : Int) (a : Addr) (c : List Int), vs = [.int b, .ref a] ∧ 0 ≤ b ∧ H a = some (.tup (c.map V.int)) ∧ c.length ≤ 100 ∧ ToldT H Q (Pm.ofRule b c)
def spRuleOf : Sp := fun vs H Q _ => ∃ (b : Int) (a : Addr) (p : List Int), vs = [.int b, .ref a] ∧ 0 ≤ b ∧ H a = some (.tup (p.map V.int)) ∧ 0 < p.length ∧ p.length ≤ 100 ∧ ToldT H Q (Pm.ruleOf b p)
/-! ### the shortest row -/
/-- a range that starts anywhere -/
theorem comp_rngL {lo : Int} {n : Nat} {ix : List (Option Nat)} {te : TE} {σ : St} {H1 : Hp} {Q : VK} (hz : n ≤ 1000) {rest : St} (hst : cst ix σ = none :: rest) (f : Nat → Int)
    (he : ∀ H' k, Same H1 H' → k < n → ∀ kk : VK, kk (.int (f k)) H' → te (some (.int (lo + (k : Int))) :: rest) H' kk)
    (hQ : ∀ D, H1 D = none → Q (.ref D) (upd H1 D (.lst ((Pm.ofF n f).map V.int)))) : CompK ix (gName 0) tYes te σ Q (Itr lo n) H1 := by
  refine comp_pure its_range (by rw [List.length_map, List.length_range]; exact Nat.le_of_lt (small1000 hz)) hst (fun _ => true) (fun x => match x with | .int k => .int (f (k - lo).toNat) | _ => .non) ?_ ?_ ?_
  · intro H2 x g2 hx k hk; exact hk
  · intro H2 x g2 hx _ k hk
    obtain ⟨j, hj, rfl⟩ := List.mem_map.mp hx
    have e1 : (lo + (j : Int) - lo).toNat = j := by omega
    refine he H2 j g2 (List.mem_range.mp hj) k ?_
    have hk' : k (V.int (f (lo + (j : Int) - lo).toNat)) H2 := hk
    rwa [e1] at hk'
  · intro D hD
    have el : ((((List.range n).map fun i => V.int (lo + (i : Nat))).filter fun _ => true).map fun x => match x with | .int k => V.int (f (k - lo).toNat) | _ => V.non) = (Pm.ofF n f).map V.int := by
      rw [List.filter_eq_self.mpr (by simp), List.map_map, Pm.ofF, List.map_map]
      refine List.map_congr_left fun k _ => ?_
      show V.int (f (lo + (k : Int) - lo).toNat) = V.int (f k)
      rw [show (lo + (k : Int) - lo).toNat = k by omega]
    rw [el]
    exact hQ D hD
theorem primesN_try : (Om.primesN.all fun p => (List.range 32).all fun d => decide (d < 2) || decide (p < d * d) || decide (p % d ≠ 0)) = true := by decide +kernel
theorem primesN_pr {P : Nat} (h : P ∈ Om.primesN) : Om.Prime P := by
  have hr := primesN_range P h
  refine Om.prime_try hr.1 fun d hd hdd hdv => ?_
  have h32 : d < 32 := by
    by_cases c : d < 32
    · exact c
    · have : 32 * 32 ≤ d * d := Nat.mul_le_mul (by omega) (by omega)
      omega
  have := List.all_eq_true.mp (List.all_eq_true.mp primesN_try P h) d (List.mem_range.mpr h32)
  simp only [Bool.or_eq_true, decide_eq_true_eq] at this
  have := Nat.mod_eq_zero_of_dvd hdv
  omega
def topL (r : Rw) : List Int := Pm.trim (Pm.ofF r.rule.length fun k => Rm.tk r.b (Pm.tp (Pm.ofRule r.b r.rule) r.at k))
theorem topL_co (r : Rw) (k : Nat) : Pm.co (topL r) k = Rm.tk r.b (Pm.tp (Pm.ofRule r.b r.rule) r.at k) := by
  rw [topL, Pm.co_trim, Pm.co_ofF]
  by_cases c : k < r.rule.length
  · rw [if_pos c]
  · rw [if_neg c, Pm.tp_fs _ _ k (by rw [Pm.ofRule_len]; omega), Pm.tk0]
theorem topL_len (r : Rw) : (topL r).length ≤ r.rule.length := by
  have := Pm.trim_len_le (Pm.ofF r.rule.length fun k => Rm.tk r.b (Pm.tp (Pm.ofRule r.b r.rule) r.at k))
  rwa [Pm.ofF_len] at this
theorem RwOk.poly_bd {r : Rw} (ok : RwOk r) : ∀ x ∈ Pm.ofRule r.b r.rule, Rm.Bd 2000 x := by
  intro x hx
  rcases List.mem_append.mp hx with hx | hx
  · obtain ⟨k, _, rfl⟩ := Pm.mem_ofF hx
    refine Rm.tk_bd ok.by0 ok.by1 ?_
    have := Pm.Bd_co ok.ruleBd (r.rule.length - 1 - k)
    unfold Rm.Bd at this ⊢
    rw [Int.zero_sub, Int.natAbs_neg]; exact this
  · rw [List.mem_singleton.mp hx]
    exact (Rm.Bd.of (n := 10) (by decide) (by decide)).mono (by decide)
theorem ixr (i k : Nat) : (0 + (i : Int) + 1 + (k : Int)).toNat = i + 1 + k := by omega
theorem ixv (i k : Nat) : (0 + (i : Int) + 1 + (k : Int) - 1 - (0 + (i : Int))).toNat = k := by omega
theorem ixp {i k m n : Nat} (h : k < m - i) (hn : n = m + 1) : 0 ≤ 0 + (i : Int) + 1 + (k : Int) ∧ 0 + (i : Int) + 1 + (k : Int) < (n : Int) := by omega
theorem ixq {i k m n : Nat} (h : k < m - i) (hn : m = n) : 0 ≤ 0 + (i : Int) + 1 + (k : Int) - 1 - (0 + (i : Int)) ∧ 0 + (i : Int) + 1 + (k : Int) - 1 - (0 + (i : Int)) < (n : Int) := by omega
def spTop : Sp := fun vs H Q _ => ∃ (v : V) (r : Rw) (a : Addr), vs = [v, .ref a] ∧ RowIs H v r ∧ RwOk r ∧ H a = some (.tup ((Pm.ofRule r.b r.rule).map V.int)) ∧ ToldT H Q (topL r)
def spShared : Sp := fun vs H Q _ => ∃ (b : Int) (a c : Addr) (P t : List Int), vs = [.int b, .ref a, .ref c] ∧ H a = some (.tup (P.map V.int)) ∧ H c = some (.tup (t.map V.int)) ∧ P.length ≤ 40 ∧ t.length ≤ 40 ∧ Pm.Mon P ∧
  (∃ p : Nat, b = (p : Int) ∧ Om.Prime p ∧ p < 2097152 ∧ Pm.Py p P ∧ Pm.Py p t ∧ ToldG H Q p P t)
/-- the least polynomial of a row -/
structure LeastOf (b : Int) (f : Nat → Int) (L : List Int) : Prop where
  mon : Pm.Mon L
  nu : ∀ k, Rm.tk b (Pm.co L k) = Pm.co L k
  kp : Pm.Kp b L f
  all : ∀ q, Pm.Kp b q f → Pm.Dv b L (Pm.co q)
/-- by a prime -/
def ByQ (b : Int) : Prop := ∃ P : Nat, P ∈ Om.primesN ∧ b = (P : Int)
theorem ByQ.one {b : Int} (h : ByQ b) : Rm.tk b 1 = 1 := by
  obtain ⟨P, hP, rfl⟩ := h
  exact Pm.one_tk (primesN_pr hP)
theorem mon_py {b : Int} {L : List Int} (h : Pm.Mon L) (hn : ∀ k, Rm.tk b (Pm.co L k) = Pm.co L k) : Pm.Py b L := ⟨Pm.trim_of_last (fun z => by have := h.pos; rw [z] at this; exact absurd this (by decide)) (by rw [h.one]; decide), fun x hx => by
  obtain ⟨k, hk, e⟩ := List.mem_iff_getElem.mp hx
  have := hn k
  rwa [Pm.co_lt hk, e] at this⟩
theorem ofRule_nu (b : Int) (c : List Int) (h1 : Rm.tk b 1 = 1) (k : Nat) : Rm.tk b (Pm.co (Pm.ofRule b c) k) = Pm.co (Pm.ofRule b c) k := by
  have h : ∀ x ∈ Pm.ofRule b c, Rm.tk b x = x := fun x hx => by
    rcases List.mem_append.mp hx with hx | hx
    · obtain ⟨j, _, e⟩ := Pm.mem_ofF hx
      rw [e, Rm.tk_tk]
    · rw [List.mem_singleton.mp hx, h1]
  by_cases hk : k < (Pm.ofRule b c).length
  · exact h _ (Pm.co_mem hk)
  · rw [Pm.co_ge (by omega), Pm.tk0]
/-- what is left of the rule's polynomial, by a prime -/
theorem least_pr {p : Nat} (hp : Om.Prime p) {r : Rw} (ok : RwOk r) (hb : r.b = (p : Int)) {g L o : List Int} (hG : Pm.Gcd p (Pm.ofRule r.b r.rule) (topL r) g) (D : Pm.Div p (Pm.ofRule r.b r.rule) g o L) : LeastOf r.b r.at o ∧ o.length ≤ r.rule.length + 1 := by
  have h1 := Pm.one_tk hp
  have hm := Pm.ofRule_mon r.b r.rule
  have hd : Pm.Dv p g (Pm.co (Pm.ofRule r.b r.rule)) := hG.one.to fun _ => rfl
  obtain ⟨L', hL', hn', hl', e'⟩ := Pm.mon_left h1 hm hG.mon hd
  have D' : Pm.Div p (Pm.ofRule r.b r.rule) g L' [] := ⟨mon_py hL' hn', Pm.Py.nil _, hG.mon.pos, fun k => by rw [Pm.co_nil, Int.add_zero]; exact (e' k).symm⟩
  obtain ⟨eo, _⟩ := D.uniq hG.mon D'
  subst eo
  have W : Pm.GcdW p (Pm.ofRule p r.rule) (Pm.tp (Pm.ofRule p r.rule) r.at) g := by
    rw [← hb]
    refine ⟨hG.mon, by rw [hb]; rw [hb] at hd; exact hd, ?_, ?_⟩
    · rw [hb]
      refine (hG.two.to (q := topL r) fun _ => rfl).congr fun k => ?_
      rw [topL_co, hb, Rm.tk_tk]
    · obtain ⟨u, v, e⟩ := hG.sum
      refine ⟨1, Pm.co u, Pm.co v, u.length + v.length, by rw [hb, h1]; decide, (Pm.Fs.co u).mono (by omega), (Pm.Fs.co v).mono (by omega), fun k => ?_⟩
      rw [Int.one_mul, hb]
      rw [hb] at e
      rw [e k]
      refine Rm.tk_congr_add rfl (Pm.cv_tk (fun _ _ => rfl) fun i _ => ?_)
      rw [topL_co, hb, Rm.tk_tk]
  have ha : ∀ n, r.rule.length ≤ n → Rm.tk (p : Int) (r.at n) = Rm.tk p (Rm.S r.rule r.at n r.rule.length) := by
    rw [← hb]; exact Pm.at_rec ok.len
  have K := W.keeps (Dm.Dom.pr hp) ha hL' (by rw [← hb]; rw [← hb] at e'; exact e')
  refine ⟨⟨hL', by rw [hb]; exact hn', ?_, fun q hq => ?_⟩, ?_⟩
  · rw [hb]
    refine (K o).mpr ⟨fun k => if k = 0 then 1 else 0, 1, fun k hk => if_neg (by omega), fun k => ?_⟩
    rw [Pm.cv_point, if_pos (Nat.zero_le _), Int.one_mul, Nat.sub_zero]
  · rw [hb] at hq ⊢; exact (K q).mp hq
  · have := hG.mon.pos
    rw [Pm.ofRule_len] at hl'
    omega
def spLeast : Sp := fun vs H Q _ => ∃ (v : V) (r : Rw), vs = [v] ∧ RowIs H v r ∧ RwOk r ∧ ByQ r.b ∧ ∀ t L H', Same H H' → H' t = some (.tup (List.map V.int L)) → LeastOf r.b r.at L → L.length ≤ r.rule.length + 1 → Q (.ref t) H'
def shortR (r : Rw) (L : List Int) : Rw := ⟨r.b, Pm.ruleOf r.b L, r.starts.take (L.length - 1)⟩
def spShort : Sp := fun vs H Q _ => ∃ (v : V) (r : Rw), vs = [v] ∧ RowIs H v r ∧ RwOk r ∧ ByQ r.b ∧ ∀ v' L H', Same H H' → RowIs H' v' (shortR r L) → LeastOf r.b r.at L → L.length ≤ r.rule.length + 1 → Q v' H'
/-! ### the shortest row by a prime -/
theorem num_tk {b x : Int} (h : IsNum b x) : Rm.tk b x = x := by
  rcases h with rfl | ⟨h1, h2⟩
  · exact Rm.tk_zero x
  · rw [Rm.tk_pos (by omega)]; exact Int.emod_eq_of_lt h1 h2
theorem RwOk.at_num {r : Rw} (ok : RwOk r) (n : Nat) : IsNum r.b (r.at n) := by
  by_cases h : r.b = 0
  · exact .inl h
  · have h0 := ok.by0
    refine .inr (Rm.at_range ok.len (by omega) (fun x hx => ?_) n)
    rcases ok.startsNum x hx with z | z
    · exact absurd z h
    · exact z
theorem RwOk.at_tk {r : Rw} (ok : RwOk r) (n : Nat) : Rm.tk r.b (r.at n) = r.at n := num_tk (ok.at_num n)
theorem shortR_at {r : Rw} (hn : ∀ n, Rm.tk r.b (r.at n) = r.at n) {L : List Int} (h : LeastOf r.b r.at L) (hl : L.length ≤ r.starts.length + 1) (n : Nat) : (shortR r L).at n = r.at n := by
  have hp := h.mon.pos
  refine Pm.at_longer h.nu h.mon h.kp hn (starts := r.starts.take (L.length - 1)) ?_ ?_ n
  · rw [List.length_take]; omega
  · intro i hi
    rw [List.length_take] at hi
    have e : r.at i = r.starts.getD i 0 := Rm.at_lt (by omega)
    rw [e, List.getD_eq_getElem?_getD, List.getElem?_take, if_pos (by omega), ← List.getD_eq_getElem?_getD]
theorem shortR_ok {r : Rw} (ok : RwOk r) (hB : ByQ r.b) {L : List Int} (h : LeastOf r.b r.at L) (hl : L.length ≤ r.rule.length + 1) : RwOk (shortR r L) := by
  obtain ⟨P, hP, e⟩ := hB
  have hr := primesN_range P hP
  have hs := ok.short
  have hle := ok.len
  have hp := h.mon.pos
  have hru : ∀ x ∈ Pm.ruleOf r.b L, 0 ≤ x ∧ x < r.b := fun x hx => by
    obtain ⟨k, _, rfl⟩ := Pm.mem_ofF hx
    rw [Rm.tk_pos (by omega)]
    exact ⟨emod_lo _ (by omega), emod_hi _ (by omega)⟩
  refine ⟨?_, ?_, ok.by0, ok.by1, fun x hx => .inr (hru x hx), fun x hx => ok.startsNum x (List.mem_of_mem_take hx), fun x hx => ?_, fun x hx => ok.startsBd x (List.mem_of_mem_take hx)⟩
  · show (Pm.ruleOf r.b L).length = (r.starts.take (L.length - 1)).length
    rw [Pm.ruleOf_len, List.length_take]; omega
  · show (Pm.ruleOf r.b L).length ≤ 12
    rw [Pm.ruleOf_len]; omega
  · have := hru x hx
    exact (Rm.Bd.of (n := 10) (by omega) (by omega)).mono (by decide)
theorem LeastOf.uniq {b : Int} (h1 : Rm.tk b 1 = 1) {f : Nat → Int} {L L' : List Int} (h : LeastOf b f L) (h' : LeastOf b f L') : L = L' := by
  have d := h.all L' h'.kp
  have d' := h'.all L h.kp
  have l1 := d.len h1 h.mon h'.mon
  have l2 := d'.len h1 h'.mon h.mon
  refine Pm.co_ext (by omega) fun k => ?_
  rw [← h.nu k, ← h'.nu k]
  exact (d.same h1 h.mon h'.mon (by omega) k).symm
/-- the row's windows are alike just where those of its shortest row are -/
theorem win_iff {b : Int} {f : Nat → Int} {L : List Int} (h : LeastOf b f L) (hf : ∀ i, Rm.tk b (f i) = f i) {n : Nat} (hn : L.length - 1 ≤ n) (i j : Nat) : Pm.win f n i = Pm.win f n j ↔ Pm.win f (L.length - 1) i = Pm.win f (L.length - 1) j := by
  have hp := h.mon.pos
  obtain ⟨d, hd⟩ : ∃ d, L.length = d + 1 := ⟨L.length - 1, by omega⟩
  have hone := h.mon.one
  rw [hd, Nat.add_sub_cancel] at hone
  have e1 : L.length - 1 = d := by omega
  rw [e1] at hn ⊢
  constructor
  · intro z
    refine Pm.co_ext (by rw [Pm.win_len, Pm.win_len]) fun k => ?_
    by_cases c : k < d
    · have := congrArg (fun l : List Int => l.getD k 0) z
      rw [Pm.win_get _ (by omega), Pm.win_get _ (by omega)] at this
      exact (Pm.win_get f c).trans (this.trans (Pm.win_get f c).symm)
    · rw [Pm.co_ge (by rw [Pm.win_len]; omega), Pm.co_ge (by rw [Pm.win_len]; omega)]
  · intro z
    have al : ∀ k, f (i + k) = f (j + k) := fun k => by
      induction k using Nat.strongRecOn with
      | ind k ih =>
        by_cases c : k < d
        · have := congrArg (fun l => l.getD k 0) z
          rwa [Pm.win_get _ c, Pm.win_get _ c] at this
        · have k1 := h.kp (i + (k - d))
          have k2 := h.kp (j + (k - d))
          unfold Pm.ks at k1 k2
          rw [hd, Pm.sm, hone, Int.one_mul, show i + (k - d) + d = i + k by omega] at k1
          rw [hd, Pm.sm, hone, Int.one_mul, show j + (k - d) + d = j + k by omega] at k2
          have eA : Pm.sm d (fun t => Pm.co L t * f (i + (k - d) + t)) = Pm.sm d (fun t => Pm.co L t * f (j + (k - d) + t)) := Pm.sm_congr fun t ht => by
            rw [show i + (k - d) + t = i + (k - d + t) by omega, show j + (k - d) + t = j + (k - d + t) by omega, ih (k - d + t) (by omega)]
          rw [eA] at k1
          generalize Pm.sm d (fun t => Pm.co L t * f (j + (k - d) + t)) = A at k1 k2
          have t1 : Rm.tk b (f (i + k)) = Rm.tk b (-A) := by
            have := Rm.tk_add_l b (A + f (i + k)) (-A)
            rw [k1, Int.zero_add, show A + f (i + k) + -A = f (i + k) by omega] at this
            exact this.symm
          have t2 : Rm.tk b (f (j + k)) = Rm.tk b (-A) := by
            have := Rm.tk_add_l b (A + f (j + k)) (-A)
            rw [k2, Int.zero_add, show A + f (j + k) + -A = f (j + k) by omega] at this
            exact this.symm
          rw [← hf (i + k), ← hf (j + k), t1, t2]
    exact List.map_congr_left fun k _ => al k
theorem rnd_iff {b : Int} {f : Nat → Int} {L : List Int} (h : LeastOf b f L) (hf : ∀ i, Rm.tk b (f i) = f i) {n : Nat} (hn : L.length - 1 ≤ n) {bg ln : Nat} (hr : Pm.Rnd f n bg ln) : Pm.Rnd f (L.length - 1) bg ln :=
  ⟨hr.pos, (win_iff h hf hn _ _).mp hr.again, fun i j hij hj z => hr.first i j hij hj ((win_iff h hf hn _ _).mpr z)⟩
/-! ### rounds -/
def spWide (C : Addr) : Sp := fun vs H Q E => ∃ (P l : Nat), vs = [.int P, .int l] ∧ P < 1000 ∧ l ≤ 12 ∧ (P ^ l ≤ 4096 → Q .non H) ∧ (4096 < P ^ l → E (.ref C) none H)
/-- what comes of a row whose rounds are asked: refused by 0, refused where it is too long, else by its shortest row -/
def RoundTo (C1 C2 : Addr) (H : Hp) (E : XK) (r : Rw) (G : List Int → Prop) : Prop :=
  (r.b = 0 → E (.ref C1) none H) ∧ (r.b ≠ 0 → ByQ r.b ∧ ∀ L, LeastOf r.b r.at L → L.length ≤ r.rule.length + 1 → (4096 < r.b.toNat ^ (L.length - 1) → ∀ H', Same H H' → E (.ref C2) none H') ∧ (r.b.toNat ^ (L.length - 1) ≤ 4096 → G L))
def spRoundRow (C1 C2 : Addr) : Sp := fun vs H Q E => ∃ (v : V) (r : Rw), vs = [v] ∧ RowIs H v r ∧ RwOk r ∧ RoundTo C1 C2 H E r fun L => ∀ v' H', Same H H' → RowIs H' v' (shortR r L) → Q v' H'
def KK (xs : List Int) : List Key := xs.map .inl
theorem KK_map (xs : List Int) : (KK xs).map kV = xs.map V.int := by rw [KK, List.map_map]; rfl
theorem KK_inj {xs ys : List Int} (h : KK xs = KK ys) : xs = ys := by
  have := congrArg (List.map kV) h
  rw [KK_map, KK_map] at this
  exact (List.map_inj_right (fun a b e => by cases e; rfl)).mp this
/-- the windows seen so far -/
structure Seen (f : Nat → Int) (l n : Nat) (kvs : List (List Key × V)) : Prop where
  len : kvs.length = n
  at_ : ∀ i, i < n → valV kvs (KK (Pm.win f l i)) = some (.int (i : Int))
  out : ∀ k, (∀ i, i < n → k ≠ KK (Pm.win f l i)) → valV kvs k = none
  diff : ∀ i j, i < j → j < n → Pm.win f l i ≠ Pm.win f l j
theorem Seen.more {f : Nat → Int} {l n : Nat} {kvs : List (List Key × V)} (h : Seen f l n kvs) (hn : valV kvs (KK (Pm.win f l n)) = none) : Seen f l (n + 1) (putK kvs (KK (Pm.win f l n)) (.int (n : Int))) := by
  have d : ∀ i, i < n → Pm.win f l i ≠ Pm.win f l n := fun i hi z => by
    have := h.at_ i hi
    rw [z, hn] at this; cases this
  refine ⟨?_, fun i hi => ?_, fun k hk => ?_, fun i j hij hj => ?_⟩
  · rw [putK_new _ hn, List.length_append, h.len]; rfl
  · rw [valV_put]
    by_cases c : i = n
    · rw [c, if_pos rfl]
    · rw [if_neg fun z => d i (by omega) (KK_inj z)]; exact h.at_ i (by omega)
  · rw [valV_put, if_neg (hk n (by omega))]
    exact h.out k fun i hi => hk i (by omega)
  · by_cases c : j = n
    · rw [c]; exact d i (by omega)
    · exact h.diff i j hij (by omega)
theorem tk_bdD' {b x : Int} (hb : Rm.Bd 2000 b) (h0 : 0 ≤ x) (h1 : x < b) : Rm.Bd 2000 x := by
  unfold Rm.Bd at hb ⊢
  omega
def spCame : Sp := fun vs H Q _ => ∃ (v : V) (r : Rw), vs = [v] ∧ RowIs H v r ∧ RwOk r ∧ 0 < r.b ∧ r.b.toNat ^ r.rule.length ≤ 4096 ∧ ∀ (bg ln : Nat) p H', Same H H' → H' p = some (.tup [.int (bg : Int), .int (ln : Int)]) → Pm.Rnd r.at r.rule.length bg ln → Q (.ref p) H'
theorem atI_back {ns : List Int} {k : Int} (j : Nat) (h0 : k < 0) (e : k + (ns.length : Int) = (j : Int)) : atI (ns.map V.int) k = some (.int (ns.getD j 0)) := by
  have hj : j < ns.length := by omega
  unfold atI ixN
  rw [List.length_map, if_neg (by omega), if_pos (by omega), show (k + (ns.length : Int)).toNat = j by omega]
  show (ns.map V.int)[j]? = _
  rw [List.getElem?_map, List.getElem?_eq_getElem hj, List.getD_eq_getElem?_getD, List.getElem?_eq_getElem hj]
  rfl
/-! ### places of a number -/
def whr (p : Nat → Bool) (lo n : Nat) : List Int := (((List.range n).map (lo + ·)).filter p).map fun (i : Nat) => (i : Int)
theorem whr_len (p : Nat → Bool) (lo n : Nat) : (whr p lo n).length ≤ n := by
  rw [whr, List.length_map]
  refine Nat.le_trans (List.length_filter_le ..) ?_
  rw [List.length_map, List.length_range]; exact Nat.le_refl _
theorem comp_rngW {lo n : Nat} {ix : List (Option Nat)} {tc : TT} {te : TE} {σ : St} {H1 : Hp} {Q : VK} (hz : n ≤ sizeLine) {rest : St} (hst : cst ix σ = none :: rest) (p : Nat → Bool)
    (ht : ∀ H' k, Same H1 H' → k < n → ∀ kk : Bool → Hp → Prop, kk (p (lo + k)) H' → tc (some (.int ((lo : Int) + (k : Int))) :: rest) H' kk)
    (he : ∀ H' k, Same H1 H' → k < n → ∀ kk : VK, kk (.int ((lo : Int) + (k : Int))) H' → te (some (.int ((lo : Int) + (k : Int))) :: rest) H' kk)
    (hQ : ∀ D, H1 D = none → Q (.ref D) (upd H1 D (.lst ((whr p lo n).map V.int)))) : CompK ix (gName 0) tc te σ Q (Itr (lo : Int) n) H1 := by
  refine comp_pure its_range (by rw [List.length_map, List.length_range]; exact hz) hst (fun x => match x with | .int k => p k.toNat | _ => false) (fun x => x) ?_ ?_ ?_
  · intro H2 x g2 hx k hk
    obtain ⟨j, hj, rfl⟩ := List.mem_map.mp hx
    have e1 : ((lo : Int) + (j : Int)).toNat = lo + j := by omega
    refine ht H2 j g2 (List.mem_range.mp hj) k ?_
    have hk' : k (p ((lo : Int) + (j : Int)).toNat) H2 := hk
    rwa [e1] at hk'
  · intro H2 x g2 hx hp k hk
    obtain ⟨j, hj, rfl⟩ := List.mem_map.mp hx
    exact he H2 j g2 (List.mem_range.mp hj) k hk
  · intro D hD
    have el : ((((List.range n).map fun i => V.int ((lo : Int) + (i : Nat))).filter fun x => match x with | .int k => p k.toNat | _ => false).map fun x => x) = (whr p lo n).map V.int := by
      rw [List.map_id', whr, List.filter_map, List.filter_map, List.map_map, List.map_map]
      have e2 : ((fun x => match x with | V.int k => p k.toNat | _ => false) ∘ fun (i : Nat) => V.int ((lo : Int) + (i : Nat))) = p ∘ (lo + ·) := by
        funext i
        show p ((lo : Int) + (i : Int)).toNat = p (lo + i)
        rw [show ((lo : Int) + (i : Int)).toNat = lo + i by omega]
      rw [e2]
      refine List.map_congr_left fun i _ => ?_
      show V.int ((lo : Int) + (i : Int)) = V.int (((lo + i : Nat)) : Int)
      rw [Int.natCast_add]
    have := hQ D hD
    rw [← el] at this
    exact this
def atIs (f : Nat → Int) (x : Int) : Nat → Bool := fun i => decide (f i = x)
def spWhere (C1 C2 : Addr) : Sp := fun vs H Q E => ∃ (v : V) (r : Rw) (x : Int), vs = [v, .int x] ∧ RowIs H v r ∧ RwOk r ∧ RoundTo C1 C2 H E r fun L =>
  ∀ (bg ln : Nat) p le ls H', Same H H' → Pm.Rnd r.at (L.length - 1) bg ln → bg + ln ≤ 4096 → H' p = some (.tup [.ref le, .ref ls, .int (ln : Int)]) → H' le = some (.lst ((whr (atIs r.at x) 0 bg).map V.int)) → H' ls = some (.lst ((whr (atIs r.at x) bg ln).map V.int)) → H le = none → H ls = none → le ≠ ls → Q (.ref p) H'
def spCellG (K : PySem.W.Frag) : Sp := fun vs H Q _ => ∃ (a : Addr) (ns : List Int) (k : Int), vs = [.ref a, .int k] ∧ SqL K H a (ns.map V.int) ∧ 0 ≤ k ∧ k ≤ 1000 ∧ ∀ c, Q (.int c) H
/-- a comprehension of one new name whose elements may lay new objects, their values known -/
theorem comp_val {J : It} {xs : List V} {ix : List (Option Nat)} {te : TE} {σ : St} {H1 : Hp} {Q : VK} (I : ItS J xs H1) (hz : xs.length ≤ sizeLine) {rest : St} (hst : cst ix σ = none :: rest) (F : V → V)
    (he : ∀ (H' : Hp) (x : V), Same H1 H' → x ∈ xs → ∀ k : VK, (∀ H2, Same H' H2 → k (F x) H2) → te (some x :: rest) H' k)
    (hQ : ∀ D H', H1 D = none → Same H1 H' → H' D = some (.lst (xs.map F)) → Q (.ref D) H') :
    CompK ix (gName 0) tYes te σ Q J H1 := by
  constructor
  intro D hD
  refine ⟨fun i m σ' H' => m = xs.length - i ∧ i ≤ xs.length ∧ (∃ o, σ' = o :: rest) ∧ Same H1 H' ∧ H' D = some (.lst ((xs.take i).map F)), ⟨xs.length, by simp, Nat.zero_le _, ⟨none, hst⟩, Same.new hD _, by rw [upd_same]; rfl⟩, ?_⟩
  rintro i m σ' H' ⟨rfl, hi, ⟨o, rfl⟩, g, hl⟩
  by_cases hlt : i < xs.length
  · refine .inr ⟨I.go i _ g hlt, fun x H2 y => ?_⟩
    obtain ⟨rfl, hx⟩ := I.yld i _ x H2 g y
    have hx := hx hlt
    have hm : x ∈ xs := List.mem_of_getElem? hx
    have et : xs.take (i + 1) = xs.take i ++ [x] := by rw [List.take_add_one, hx]; rfl
    change te (some x :: rest) H2 _
    refine he H2 x g hm _ fun H3 g3 => ⟨_, g3 _ _ hl, by rw [List.length_map, List.length_take]; omega, xs.length - (i + 1), by omega, rfl, hlt, ⟨_, rfl⟩, Same.upd (g.trans g3) hD _, ?_⟩
    rw [upd_same, et, List.map_append]; rfl
  · have e : i = xs.length := by omega
    subst e
    rw [List.take_length] at hl
    exact .inl ⟨I.stop _ _ g (Nat.le_refl _), hQ D H' hD g hl⟩
def spLWhole : Sp := fun vs H Q _ => ∃ i : Int, vs = [.int i] ∧ Q (.bl true) H
/-! ### the laws' comparing -/
def spRec (sp : Nat → Sp) : Nat → Sp
  | 0 => fun _ _ _ _ => False
  | n + 1 => sp n
theorem nat_up {p : Nat → Prop} (h0 : p 0) (hs : ∀ n, p n → p (n + 1)) : ∀ n, p n
  | 0 => h0
  | n + 1 => hs n (nat_up h0 hs n)
inductive AlikeV (H : Hp) : Nat → V → V → Prop
  | int (n : Nat) (i : Int) : AlikeV H n (.int i) (.int i)
  | tup {n : Nat} {a b : Addr} {xs ys : List V} : H a = some (.tup xs) → H b = some (.tup ys) → xs.length = ys.length → ys.length ≤ 100 → (∀ (k : Nat) (x y : V), xs[k]? = some x → ys[k]? = some y → AlikeV H n x y) → AlikeV H (n + 1) (.ref a) (.ref b)
  | lst {n : Nat} {a b : Addr} {xs ys : List V} : H a = some (.lst xs) → H b = some (.lst ys) → xs.length = ys.length → ys.length ≤ 4096 → (∀ (k : Nat) (x y : V), xs[k]? = some x → ys[k]? = some y → AlikeV H n x y) → AlikeV H (n + 1) (.ref a) (.ref b)
theorem AlikeV.same {H H' : Hp} (g : Same H H') {n : Nat} {x y : V} (h : AlikeV H n x y) : AlikeV H' n x y := by
  induction h with
  | int n i => exact .int n i
  | tup h1 h2 h3 h4 _ ih => exact .tup (g _ _ h1) (g _ _ h2) h3 h4 ih
  | lst h1 h2 h3 h4 _ ih => exact .lst (g _ _ h1) (g _ _ h2) h3 h4 ih
theorem AlikeV.intsL {H : Hp} {a b : Addr} {ns : List Int} (ha : H a = some (.lst (ns.map V.int))) (hb : H b = some (.lst (ns.map V.int))) (hl : ns.length ≤ 4096) (n : Nat) : AlikeV H (n + 1) (.ref a) (.ref b) := by
  refine .lst ha hb rfl (by rw [List.length_map]; exact hl) fun k x y hx hy => ?_
  rw [hx] at hy
  cases hy
  rw [List.getElem?_map] at hx
  obtain ⟨i, _, rfl⟩ := Option.map_eq_some_iff.mp hx
  exact .int _ _
def spAlike (n : Nat) : Sp := fun vs H Q _ => ∃ x y : V, vs = [x, y] ∧ AlikeV H n x y ∧ ∀ H', Same H H' → Q (.bl true) H'
/-! ### the rounds' laws: their rows, their own rounds -/
def brL : List Int := [2, 3, 5, 7, 13, 61, 2, 3, 997, 11, 17, 67]
def mkL : List (Key × V) := [(.inl 2, .int 12), (.inl 3, .int 7), (.inl 5, .int 5), (.inl 7, .int 4), (.inl 11, .int 3), (.inl 13, .int 3), (.inl 17, .int 3), (.inl 61, .int 2), (.inl 67, .int 2), (.inl 997, .int 1)]
theorem brL_ok : ∀ k < 12, ∃ (P m : Nat), P ∈ Om.primesN ∧ m ≤ 12 ∧ brL.getD k 0 = (P : Int) ∧ valV (mergeK [] mkL) (.inl (brL.getD k 0)) = some (.int (m : Int)) := fun k hk => by
  match k, hk with
  | 0, _ => exact ⟨2, 12, by decide +kernel, by decide, rfl, rfl⟩
  | 1, _ => exact ⟨3, 7, by decide +kernel, by decide, rfl, rfl⟩
  | 2, _ => exact ⟨5, 5, by decide +kernel, by decide, rfl, rfl⟩
  | 3, _ => exact ⟨7, 4, by decide +kernel, by decide, rfl, rfl⟩
  | 4, _ => exact ⟨13, 3, by decide +kernel, by decide, rfl, rfl⟩
  | 5, _ => exact ⟨61, 2, by decide +kernel, by decide, rfl, rfl⟩
  | 6, _ => exact ⟨2, 12, by decide +kernel, by decide, rfl, rfl⟩
  | 7, _ => exact ⟨3, 7, by decide +kernel, by decide, rfl, rfl⟩
  | 8, _ => exact ⟨997, 1, by decide +kernel, by decide, rfl, rfl⟩
  | 9, _ => exact ⟨11, 3, by decide +kernel, by decide, rfl, rfl⟩
  | 10, _ => exact ⟨17, 3, by decide +kernel, by decide, rfl, rfl⟩
  | 11, _ => exact ⟨67, 2, by decide +kernel, by decide, rfl, rfl⟩
def spRowR (K : PySem.W.Frag) : Sp := fun vs H Q _ => ∃ (a : Addr) (ns : List Int) (st : Int), vs = [.ref a, .int st] ∧ SqL K H a (ns.map V.int) ∧ 0 ≤ st ∧ st ≤ 100 ∧ ∀ v r H', Same H H' → RowIs H' v r → RwOk r → ByQ r.b → Q v H'
def spLRound : Sp := fun vs H Q _ => ∃ (v : V) (r : Rw) (L : List Int), vs = [v] ∧ RowIs H v r ∧ RwOk r ∧ ByQ r.b ∧ LeastOf r.b r.at L ∧ L.length ≤ r.rule.length + 1 ∧ r.b.toNat ^ (L.length - 1) ≤ 4096 ∧
  ∀ (bg ln : Nat) p nl H', Same H H' → H' p = some (.lst [.int (bg : Int), .int (ln : Int), .ref nl]) → H' nl = some (.lst (((List.range (bg + ln)).map r.at).map V.int)) → Pm.Rnd r.at (L.length - 1) bg ln → Q (.ref p) H'
def spTooLong : Sp := fun vs H Q _ => ∃ (P l : Nat), vs = [.int P, .int l] ∧ P < 1000 ∧ l ≤ 12 ∧ Q (.bl (decide ((4096 : Int) < ((P ^ l : Nat) : Int)))) H
def spRef42 : Sp := fun vs H Q _ => ∃ (v : V) (r : Rw) (x : Int) (L : List Int), vs = [v, .int x] ∧ RowIs H v r ∧ RwOk r ∧ ByQ r.b ∧ LeastOf r.b r.at L ∧ 4096 < r.b.toNat ^ (L.length - 1) ∧ ∀ H', Same H H' → Q (.bl true) H'
section
variable {P : Program} {w : World} {K : PySem.W.Frag} {mg : Str → Option Value} {base : Heap}
variable {A_NoBy A_RuleError A_TooLong : Addr}
theorem ok_taken (B : Bt mg) (F : Fn K mg "taken" s_taken ["by", "number"]) (M : Ms K mg base A_NoBy A_RuleError A_TooLong) : Cal P w K mg base "taken" 1 ["by", "number"] spTaken := by
  refine F.cal sc_taken (fun vs H Q E h => ?_) (fun f cdv A outer s H vs Q E hr h => ?_)
  · obtain ⟨b, n, rfl, _⟩ := h; rfl
  · obtain ⟨b, n, rfl, h0, q⟩ := h
    refine ⟨_, (pss_cons (ps_if (pt_cmpR (xeq K hr) (pv 0) pe_int (nomark _))
      (pss_one (ps_ret (pv 1)))
      pss_nil)
      (pss_one (ps_ret (pe_op op_mod (pv 1) (pv 0))))), ?_⟩
    refine ⟨_, rfl, _, rfl, ?_⟩
    refine ite2 (fun c => ?_) (fun c => ?_)
    · refine ⟨_, rfl, ?_⟩
      have c' : b = 0 := dec_true c
      have e : Rm.tk b n = n := by rw [c', Rm.tk_zero]
      rw [e] at q; exact q
    · have c' : ¬ b = 0 := dec_false c
      refine ⟨_, rfl, _, rfl, _, _, rfl, rfl, (by omega : (0 : Int) < b), ?_⟩
      rw [Rm.tk_pos c'] at q; exact q
theorem ok_next_place (B : Bt mg) (F : Fn K mg "next_place" s_next_place ["by", "rule", "before"]) (M : Ms K mg base A_NoBy A_RuleError A_TooLong) (C_taken : Cal P w K mg base "taken" 1 ["by", "number"] spTaken) : Cal P w K mg base "next_place" 2 ["by", "rule", "before"] (spNext K) := by
  refine F.cal sc_next_place (fun vs H Q E h => ?_) (fun f cdv A outer s H vs Q E hr h => ?_)
  · obtain ⟨b, r, s, rule, before, rfl, _⟩ := h; rfl
  · obtain ⟨b, r, s', rule, before, rfl, hb, hR, hS, hl, hl2, hl3, bR, bS, q⟩ := h
    refine ⟨_, (pss_cons (ps_set (i := 3) sc_next_place.nd rfl (Or.inl rfl) pe_int)
      (pss_cons (ps_for PassesOwn.never rfl (pi_range1 rfl B.b_range (pa_cons (pe_callB (xlen K) rfl B.b_len boot_len (pa_n (pv 1) pa_nil)) pa_nil)) (pg_name (i := 4) sc_next_place.nd rfl (Or.inl rfl))
      (pss_one (ps_set (i := 3) sc_next_place.nd rfl (Or.inl rfl) (pe_op (xadd K) (pv 3) (pe_op v_mul (pe_ix (xix K) (pv 1) (pv 4) (fun _ _ => rfl)) (pe_ix (xix K) (pv 2) (pe_op op_sub (pe_op op_sub (pe_callB (xlen K) rfl B.b_len boot_len (pa_n (pv 2) pa_nil)) pe_int) (pv 4)) (fun _ _ => rfl)))))))
      (pss_one (ps_ret (pe_callC C_taken hr rfl (pa_n (pv 0) (pa_n (pv 3) pa_nil))))))), ?_⟩
    have lR : (rule.map V.int).length = rule.length := List.length_map _
    have lS : (before.map V.int).length = before.length := List.length_map _
    have hLen : LenV K (.ref s') H before.length := hS.elim (fun h => .inl ⟨_, h, lS.symm⟩) (fun h => .inr ⟨_, h, lS.symm⟩)
    refine ⟨_, rfl, .ref r, rule.length, rfl, .inr ⟨_, hR, lR.symm⟩, ?_⟩
    refine ⟨(rule.length : Int), rfl, (by omega : -(2 ^ 62) ≤ (rule.length : Int)), (by omega : (rule.length : Int) < 2 ^ 62), ?_⟩
    refine for_range (lo := 0) (n := (rule.length : Int).toNat) (fun i σ' H' => ∃ o, σ' = [some (.int b), some (.ref r), some (.ref s'), some (.int (Rm.S rule (fun i => before.getD i 0) before.length i)), o] ∧ H' = H) ⟨none, rfl, rfl⟩ ?_ ?_
    · rintro i σ' H' hi ⟨o, rfl, rfl⟩
      have hi' : i < rule.length := by omega
      have e0 : (0 : Int) + (i : Int) = (i : Int) := by omega
      have e1 : (before.length : Int) - 1 - (0 + (i : Int)) = ((before.length - 1 - i : Nat) : Int) := by omega
      refine ⟨_, rfl, ?_⟩
      refine ⟨_, rfl, _, rfl, _, _, .inr hR, atI_ints (ns := rule) (by omega : (0 : Int) ≤ 0 + (i : Int)) (by omega), ?_⟩
      refine ⟨_, rfl, _, rfl, .ref s', before.length, rfl, hLen, _, _, rfl, rfl, _, rfl, _, _, rfl, rfl, ?_⟩
      refine ⟨_, _, hS, atI_ints (ns := before) (by omega : (0 : Int) ≤ (before.length : Int) - 1 - (0 + (i : Int))) (by omega), ?_⟩
      refine ⟨mulBd (Rm.Bd.getD bR _) (Rm.Bd.getD bS _) (by decide), ?_⟩
      refine ⟨some (.int (0 + (i : Int))), ?_, rfl⟩
      rw [e1, e0, Int.toNat_natCast, Int.toNat_natCast]
      rfl
    · rintro σ' H' ⟨o, rfl, rfl⟩
      refine ⟨_, rfl, _, rfl, b, _, rfl, hb, ?_⟩
      rw [show (rule.length : Int).toNat = rule.length from Int.toNat_natCast _]
      exact q
theorem ok_first_places (B : Bt mg) (F : Fn K mg "first_places" s_first_places ["row", "count"]) (M : Ms K mg base A_NoBy A_RuleError A_TooLong) (C_next_place : Cal P w K mg base "next_place" 2 ["by", "rule", "before"] (spNext K)) : Cal P w K mg base "first_places" 3 ["row", "count"] (spFirst K) := by
  refine F.cal sc_first_places (fun vs H Q E h => ?_) (fun f cdv A outer s H vs Q E hr h => ?_)
  · obtain ⟨v, r, c, rfl, _⟩ := h; rfl
  · obtain ⟨v, r, c, rfl, ⟨a, p, p2, rfl, hA, hR, hS⟩, ok, hbp, hc0, hc1, q⟩ := h
    refine ⟨_, (pss_cons (ps_set (i := 2) sc_first_places.nd rfl (Or.inl rfl) (pe_ix (xix K) (pv 0) pe_int (fun _ _ => rfl)))
      (pss_cons (ps_set (i := 3) sc_first_places.nd rfl (Or.inl rfl) (pe_ix (xix K) (pv 0) pe_int (fun _ _ => rfl)))
      (pss_cons (ps_set (i := 4) sc_first_places.nd rfl (Or.inl rfl) (pe_ix (xix K) (pv 0) pe_int (fun _ _ => rfl)))
      (pss_cons (ps_set (i := 5) sc_first_places.nd rfl (Or.inl rfl) (pe_bar (pe_callTy (xlist K) rfl B.b_list boot_list (pa_cons (pe_slice (xsl K) (pv 4) po_none (po_some (pv 1))) pa_nil))))
      (pss_cons (ps_while PassesOwn.never (pt_cmpR op_lt (pe_callB (xlen K) rfl B.b_len boot_len (pa_n (pv 5) pa_nil)) (pv 1) (nomark _))
      (pss_one (ps_expr (xappend K (pv 5) (pe_callC C_next_place hr rfl (pa_n (pv 2) (pa_n (pv 3) (pa_n (pv 5) pa_nil))))))))
      (pss_one (ps_ret (pv 5)))))))), ?_⟩
    have hl := ok.len
    have hl2 := ok.short
    have lS : (r.starts.map V.int).length = r.starts.length := List.length_map _
    refine ⟨_, rfl, _, _, .inr (SqT.of hA), rfl, ?_⟩
    refine ⟨_, rfl, _, _, .inr (SqT.of hA), rfl, ?_⟩
    refine ⟨_, rfl, _, _, .inr (SqT.of hA), rfl, ?_⟩
    -- the starts, as many as asked
    have hcut : cutV (r.starts.map V.int) none (some c) = (r.row (min c.toNat r.starts.length)).map V.int := by
      have e : r.row (min c.toNat r.starts.length) = r.starts.take (min c.toNat r.starts.length) := Rm.row_starts (Nat.min_le_right _ _)
      rw [e]
      have e2 : c = ((c.toNat : Nat) : Int) := by omega
      unfold cutV
      rw [e2, HT.sIx_nat, HT.sIx_none, List.drop_zero, Nat.sub_zero, lS, List.map_take, Int.toNat_natCast]
    refine Bar.by (fun v H1 => ∃ l, v = .ref l ∧ Same H H1 ∧ H l = none ∧ H1 l = some (.lst ((r.row (min c.toNat r.starts.length)).map V.int))) (fun kk hkk => ?_) ?_
    · refine ⟨_, rfl, _, rfl, _, rfl, ?_⟩
      by_cases hw : r.starts.length ≤ c.toNat
      · -- the whole of it
        refine .inr (.inr ⟨_, SqT.of hS, ?_, ?_⟩)
        · have e2 : c = ((c.toNat : Nat) : Int) := by omega
          rw [e2, HT.sIx_nat, HT.sIx_none, lS]; omega
        · refine ⟨p2, _, rfl, .inr (SqT.of hS), fun l hl1 => hkk _ _ ⟨l, rfl, Same.new hl1 _, hl1, ?_⟩⟩
          rw [upd_same, Nat.min_eq_right hw]
          have e : r.row r.starts.length = r.starts := (Rm.row_starts (Nat.le_refl _)).trans (List.take_length ..)
          rw [e]
      · refine .inr (.inl ⟨_, SqT.of hS, ?_, fun p3 hp3 => ?_⟩)
        · have e2 : c = ((c.toNat : Nat) : Int) := by omega
          rw [e2, HT.sIx_nat, HT.sIx_none, lS]; omega
        · refine ⟨p3, _, rfl, .inr (SqT.of upd_same), fun l hl1 => ?_⟩
          have g3 := Same.new hp3 (.tup (cutV (r.starts.map V.int) none (some c)))
          refine hkk _ _ ⟨l, rfl, g3.trans (Same.new hl1 _), g3.free hl1, ?_⟩
          rw [upd_same, hcut]
    rintro v H1 ⟨l, rfl, g1, hl1, hr1⟩
    refine ⟨fun m σ' H' => ∃ n : Nat, m = c.toNat - n ∧ min c.toNat r.starts.length ≤ n ∧ n ≤ c.toNat ∧ σ' = [some (.ref a), some (.int c), some (.int r.b), some (.ref p), some (.ref p2), some (.ref l)] ∧ Same H H' ∧ H' l = some (.lst ((r.row n).map V.int)),
      ⟨_, min c.toNat r.starts.length, rfl, Nat.le_refl _, Nat.min_le_left _ _, rfl, g1, hr1⟩, ?_⟩
    rintro m σ' H' ⟨n, rfl, h1, h2, rfl, g, hL⟩
    have lL : ((r.row n).map V.int).length = n := by rw [List.length_map, Rw.row_len]
    refine ⟨_, rfl, .ref l, n, rfl, .inl ⟨_, SqL.of hL, lL.symm⟩, _, rfl, _, _, rfl, rfl, _, rfl, ?_⟩
    refine ite2 (fun cc => ?_) (fun cc => ?_)
    · have hn : n < c.toNat := by have := dec_true cc; omega
      refine ⟨_, fun _ _ z => z, ?_⟩
      refine ⟨_, rfl, .inl ⟨rfl, _, SqL.of hL⟩, _, rfl, _, rfl, _, rfl, r.b, p, l, r.rule, r.row n, rfl, ok.by0, SqT.of (g _ _ hR), (.inl (SqL.of hL)), ?_, hl2, ?_, ok.ruleBd, ok.rowBdW hbp n, ?_⟩
      · rw [Rw.row_len]; omega
      · rw [Rw.row_len]; omega
      · refine ⟨l, _, _, rfl, rfl, hL, ?_, ?_⟩
        · rw [lL]; exact Nat.lt_of_lt_of_le (show n < 4097 by omega) (by decide)
        · refine ⟨c.toNat - (n + 1), by omega, n + 1, rfl, by omega, by omega, rfl, g.upd hl1 _, ?_⟩
          rw [upd_same, Rw.row_len]
          have e : r.row (n + 1) = r.row n ++ [Rm.tk r.b (Rm.S r.rule (fun i => (r.row n).getD i 0) n r.rule.length)] := by
            show _ ++ [if n < r.starts.length then r.starts.getD n 0 else _] = _
            rw [if_neg (by omega)]; rfl
          rw [e, List.map_append]; rfl
    · have hn : n = c.toNat := by have := dec_false cc; omega
      subst hn
      refine ⟨_, rfl, ?_⟩
      exact q l H' g hl1 hL
theorem ok_inverse (B : Bt mg) (F : Fn K mg "inverse" s_inverse ["prime", "number"]) (M : Ms K mg base A_NoBy A_RuleError A_TooLong) (C_taken : Cal P w K mg base "taken" 1 ["by", "number"] spTaken) : Cal P w K mg base "inverse" 2 ["prime", "number"] spInverseQ := by
  refine F.cal sc_inverse (fun vs H Q E h => ?_) (fun f cdv A outer s H vs Q E hr h => ?_)
  · obtain ⟨P, a, rfl, _⟩ := h; rfl
  · obtain ⟨P', a, rfl, hP, hPb, h0, h1, q⟩ := h
    have hr2 : 2 ≤ P' ∧ P' < 2097152 := ⟨hP.1, hPb⟩
    refine ⟨_, (pss_cons (ps_set (i := 2) sc_inverse.nd rfl (Or.inl rfl) pe_int)
      (pss_cons (ps_set (i := 3) sc_inverse.nd rfl (Or.inl rfl) (pv 1))
      (pss_cons (ps_set (i := 4) sc_inverse.nd rfl (Or.inl rfl) (pe_op op_sub (pv 0) pe_int))
      (pss_cons (ps_while PassesOwn.never (pt_cmpR op_gt (pv 4) pe_int (nomark _))
      (pss_cons (ps_bar (ps_if (pt_cmpR (xeq K hr) (pe_op op_mod (pv 4) pe_int) pe_int (nomark _))
      (pss_one (ps_set (i := 2) sc_inverse.nd rfl (Or.inl rfl) (pe_callC C_taken hr rfl (pa_n (pv 0) (pa_b (pe_op v_mul (pv 2) (pv 3)) pa_nil)))))
      pss_nil))
      (pss_cons (ps_set (i := 3) sc_inverse.nd rfl (Or.inl rfl) (pe_callC C_taken hr rfl (pa_n (pv 0) (pa_b (pe_op v_mul (pv 3) (pv 3)) pa_nil))))
      (pss_one (ps_set (i := 4) sc_inverse.nd rfl (Or.inl rfl) (pe_op op_fdiv (pv 4) pe_int))))))
      (pss_one (ps_ret (pv 2))))))), ?_⟩
    refine ⟨_, rfl, ?_⟩
    refine ⟨_, rfl, _, _, rfl, rfl, ?_⟩
    have e0 : ((P' : Int) - 2).toNat = P' - 2 := by omega
    refine ⟨fun m σ' H' => ∃ power square left : Int, σ' = [some (.int P'), some (.int a), some (.int power), some (.int square), some (.int left)] ∧ H' = H ∧ m = left.toNat ∧ 0 ≤ power ∧ power < 2097152 ∧ 0 ≤ square ∧ square < 2097152 ∧ 0 ≤ left ∧ Om.Keeps P' a (P' - 2) power square left.toNat,
      ⟨_, 1, a, (P' : Int) - 2, rfl, rfl, rfl, by decide, by decide, by omega, by omega, by omega, by rw [e0]; exact Om.keeps_start _ _ _⟩, ?_⟩
    rintro m σ' H' ⟨power, square, left, rfl, rfl, rfl, p0, p1, s0, s1, l0, hk⟩
    refine ⟨_, rfl, _, _, rfl, rfl, _, rfl, ?_⟩
    refine ite2 (fun c => ?_) (fun c => ?_)
    · have c' : 0 < left := dec_true c
      refine ⟨_, fun _ _ z => z, ?_⟩
      have hpos : (0 : Int) < (P' : Int) := by omega
      have tkP : ∀ n, Rm.tk (P' : Int) n = n % (P' : Int) := fun n => Rm.tk_pos (by omega) n
      refine BarS.by (fun σ' H2 => ∃ power' : Int, σ' = [some (.int P'), some (.int a), some (.int power'), some (.int square), some (.int left)] ∧ H2 = H' ∧ ((left % 2 = 1 ∧ power' = power * square % (P' : Int)) ∨ (¬ left % 2 = 1 ∧ power' = power))) (fun N hN => ?_) ?_
      · refine ⟨_, rfl, _, _, rfl, rfl, (by decide : (0 : Int) < 2), _, rfl, ?_⟩
        refine ite2 (fun c2 => ?_) (fun c2 => ?_)
        · refine ⟨_, rfl, _, rfl, _, rfl, mulL (by omega) (by omega), P', _, rfl, by omega, ?_⟩
          exact hN _ _ ⟨_, rfl, rfl, .inl ⟨dec_true c2, tkP _⟩⟩
        · exact hN _ _ ⟨_, rfl, rfl, .inr ⟨dec_false c2, rfl⟩⟩
      rintro σ' H2 ⟨power', rfl, rfl, hp⟩
      refine ⟨_, rfl, _, rfl, _, rfl, mulL (by omega) (by omega), P', _, rfl, by omega, ?_⟩
      refine ⟨_, rfl, _, _, rfl, rfl, ⟨by decide, by decide⟩, ?_⟩
      have b1 := emod_lo (square * square) hpos
      have b2 := emod_hi (square * square) hpos
      have b3 := emod_lo (power * square) hpos
      have b4 := emod_hi (power * square) hpos
      have el : (left / 2).toNat = left.toNat / 2 := by omega
      refine ⟨_, ?_, power', square * square % (P' : Int), left / 2, by rw [tkP]; rfl, rfl, rfl, ?_, ?_, b1, by omega, by omega, ?_⟩
      · omega
      · rcases hp with ⟨_, rfl⟩ | ⟨_, rfl⟩
        · exact b3
        · exact p0
      · rcases hp with ⟨_, rfl⟩ | ⟨_, rfl⟩
        · omega
        · exact p1
      · rw [el]
        rcases hp with ⟨hodd, rfl⟩ | ⟨hodd, rfl⟩
        · exact Om.keeps_odd hk (by omega)
        · exact Om.keeps_even hk (by omega)
    · have c' : left = 0 := by have := dec_false c; omega
      subst c'
      refine ⟨_, rfl, ?_⟩
      exact q power p0 p1 (Om.keeps_end hk)
theorem ok_over (B : Bt mg) (F : Fn K mg "over" s_over ["by", "one", "other"]) (M : Ms K mg base A_NoBy A_RuleError A_TooLong) (C_taken : Cal P w K mg base "taken" 1 ["by", "number"] spTaken) (C_inverse : Cal P w K mg base "inverse" 2 ["prime", "number"] spInverseQ) : Cal P w K mg base "over" 3 ["by", "one", "other"] spOverQ := by
  refine F.cal sc_over (fun vs H Q E h => ?_) (fun f cdv A outer s H vs Q E hr h => ?_)
  · obtain ⟨P, one, other, rfl, _⟩ := h; rfl
  · obtain ⟨P', one, other, rfl, hP, hPb, o0, o1, q⟩ := h
    refine ⟨_, (pss_cons (ps_if (pt_cmpR (xeq K hr) (pv 0) pe_int (nomark _))
      (pss_one ps_never)
      pss_nil)
      (pss_cons (ps_if (pt_cmpR (xeq K hr) (pe_callC C_taken hr rfl (pa_n (pv 0) (pa_n (pv 2) pa_nil))) pe_int (nomark _))
      (pss_one ps_never)
      pss_nil)
      (pss_one (ps_ret (pe_callC C_taken hr rfl (pa_n (pv 0) (pa_b (pe_op v_mul (pv 1) (pe_callC C_inverse hr rfl (pa_n (pv 0) (pa_n (pv 2) pa_nil)))) pa_nil))))))), ?_⟩
    have hr2 : 2 ≤ P' ∧ P' < 2097152 := ⟨hP.1, hPb⟩
    refine ⟨_, rfl, _, rfl, ?_⟩
    refine ite2 (fun c => absurd (dec_true c) (by omega)) (fun _ => ?_)
    have tkP : ∀ n, Rm.tk (P' : Int) n = n % (P' : Int) := fun n => Rm.tk_pos (by omega) n
    refine ⟨_, rfl, _, rfl, P', other, rfl, by omega, _, rfl, ?_⟩
    have et : Rm.tk (P' : Int) other = other := by rw [tkP]; exact Int.emod_eq_of_lt (by omega) o1
    rw [et]
    refine ite2 (fun c2 => absurd (dec_true c2) (by omega)) (fun _ => ?_)
    refine ⟨_, rfl, _, rfl, _, rfl, _, rfl, P', other, rfl, hP, hPb, o0, o1, fun x x0 x1 hx => ?_⟩
    refine ⟨mulR (by omega) (by omega), P', _, rfl, by omega, ?_⟩
    rw [tkP, Om.mod_mul (rfl : one % (P' : Int) = one % (P' : Int)) hx]
    exact q
theorem ok_trimmed (B : Bt mg) (F : Fn K mg "trimmed" s_trimmed ["numbers"]) (M : Ms K mg base A_NoBy A_RuleError A_TooLong) : Cal P w K mg base "trimmed" 1 ["numbers"] (spTrim K) := by
  refine F.cal sc_trimmed (fun vs H Q E h => ?_) (fun f cdv A outer s H vs Q E hr h => ?_)
  · obtain ⟨l, xs, rfl, _⟩ := h; rfl
  · obtain ⟨l, xs, rfl, hL, q⟩ := h
    refine ⟨_, (pss_cons (ps_set (i := 1) sc_trimmed.nd rfl (Or.inl rfl) (pe_callB (xlen K) rfl B.b_len boot_len (pa_n (pv 0) pa_nil)))
      (pss_cons (ps_while PassesOwn.never (PW.pt (pw_and (pt_cmpR op_gt (pv 1) pe_int (nomark _)) (pw_and1 (pt_cmpR (xeq K hr) (pe_ix (xix K) (pv 0) (pe_op op_sub (pv 1) pe_int) (fun _ _ => rfl)) pe_int (nomark _)))))
      (pss_one (ps_set (i := 1) sc_trimmed.nd rfl (Or.inl rfl) (pe_op op_sub (pv 1) pe_int))))
      (pss_one (ps_ret (pe_callTy (xtuple K) rfl B.b_tuple boot_tuple (pa_cons (pe_slice (xsl K) (pv 0) po_none (po_some (pv 1))) pa_nil)))))), ?_⟩
    have lL : (xs.map V.int).length = xs.length := List.length_map _
    refine ⟨_, rfl, .ref l, xs.length, rfl, .inl ⟨_, hL, lL.symm⟩, ?_⟩
    refine ⟨fun m σ' H' => ∃ n : Nat, m = n ∧ n ≤ xs.length ∧ σ' = [some (.ref l), some (.int (n : Int))] ∧ H' = H ∧ Pm.trim (xs.take n) = Pm.trim xs, ⟨_, xs.length, rfl, Nat.le_refl _, rfl, rfl, by rw [List.take_length]⟩, ?_⟩
    rintro m σ' H' ⟨n, e0, hn, rfl, rfl, ht⟩
    refine ⟨_, rfl, _, _, rfl, rfl, _, rfl, ?_⟩
    refine ite2 (fun c => ?_) (fun c => iteF ?_)
    · have h0 : 0 < n := by have := dec_true c; omega
      have e1 : ((n : Int) - 1).toNat = n - 1 := by omega
      refine ⟨_, rfl, _, rfl, _, _, rfl, rfl, _, _, .inl hL, atI_ints (ns := xs) (by omega : (0 : Int) ≤ (n : Int) - 1) (by omega), _, rfl, ?_⟩
      refine ite2 (fun c2 => ?_) (fun c2 => ?_)
      · have hz := dec_true c2
        rw [e1] at hz
        refine ⟨_, fun _ _ z => z, ?_⟩
        refine ⟨_, rfl, _, _, rfl, rfl, ?_⟩
        refine ⟨n - 1, by omega, n - 1, rfl, by omega, ?_, rfl, trim_down h0 hn ht hz⟩
        rw [show ((n - 1 : Nat) : Int) = (n : Int) - 1 by omega]
        rfl
      · have hz := dec_false c2
        rw [e1] at hz
        refine ⟨_, rfl, _, rfl, _, rfl, .inl ⟨_, hL, fun p hp => ?_⟩⟩
        refine ⟨p, _, rfl, .inl ⟨SqL.of upd_same, fun p2 hp2 => ?_⟩⟩
        refine q p2 _ ((Same.new hp _).trans (Same.new hp2 _)) ?_
        rw [upd_same, cut_to, ← List.map_take, trim_stop hn ht (.inr hz)]
    · have h0 : n = 0 := by have := dec_false c; omega
      refine ⟨_, rfl, _, rfl, _, rfl, .inl ⟨_, hL, fun p hp => ?_⟩⟩
      refine ⟨p, _, rfl, .inl ⟨SqL.of upd_same, fun p2 hp2 => ?_⟩⟩
      refine q p2 _ ((Same.new hp _).trans (Same.new hp2 _)) ?_
      rw [upd_same, cut_to, ← List.map_take, trim_stop hn ht (.inl h0)]
theorem ok_divided (B : Bt mg) (F : Fn K mg "divided" s_divided ["by", "one", "other"]) (M : Ms K mg base A_NoBy A_RuleError A_TooLong) (C_taken : Cal P w K mg base "taken" 1 ["by", "number"] spTaken) (C_trimmed : Cal P w K mg base "trimmed" 1 ["numbers"] (spTrim K)) : Cal P w K mg base "divided" 2 ["by", "one", "other"] spDividedP := by
  refine F.cal sc_divided (fun vs H Q E h => ?_) (fun f cdv A outer s H vs Q E hr h => ?_)
  · obtain ⟨b, a, c, P, M, rfl, _⟩ := h; rfl
  · obtain ⟨b, a, c, P, M, rfl, hb, hb1, hA, hC, zA, zC, hM, nP, q⟩ := h
    refine ⟨_, (pss_cons (ps_set (i := 3) sc_divided.nd rfl (Or.inl rfl) (pe_op op_sub (pe_callB (xlen K) rfl B.b_len boot_len (pa_n (pv 2) pa_nil)) pe_int))
      (pss_cons (ps_set (i := 4) sc_divided.nd rfl (Or.inl rfl) (pe_op v_mul (pe_lst (pa_k pe_int pa_nil)) (pe_callB (call_max2 rfl) rfl B.b_max boot_max (pa_k pe_int (pa_b (pe_op op_sub (pe_callB (xlen K) rfl B.b_len boot_len (pa_n (pv 1) pa_nil)) (pv 3)) pa_nil)))))
      (pss_cons (ps_set (i := 5) sc_divided.nd rfl (Or.inl rfl) (pe_callTy (xlist K) rfl B.b_list boot_list (pa_n (pv 1) pa_nil)))
      (pss_cons (ps_for PassesOwn.never rfl (pi_rangeD rfl B.b_range (pa_b (pe_op op_sub (pe_callB (xlen K) rfl B.b_len boot_len (pa_n (pv 4) pa_nil)) pe_int) (pa_u (pe_un un_neg pe_int) (pa_u (pe_un un_neg pe_int) pa_nil)))) (pg_name (i := 6) sc_divided.nd rfl (Or.inl rfl))
      (pss_cons (ps_set (i := 7) sc_divided.nd rfl (Or.inl rfl) (pe_ix (xix K) (pv 5) (pe_op (xadd K) (pv 6) (pv 3)) (fun _ _ => rfl)))
      (pss_cons (ps_asg (pv 7) (pg_sub (pv 4) (pv 6) set_list))
      (pss_one (ps_for PassesOwn.never rfl (pi_range1 rfl B.b_range (pa_cons (pe_callB (xlen K) rfl B.b_len boot_len (pa_n (pv 2) pa_nil)) pa_nil)) (pg_name (i := 8) sc_divided.nd rfl (Or.inl rfl))
      (pss_one (ps_asg (pe_callC C_taken hr rfl (pa_n (pv 0) (pa_b (pe_op op_sub (pe_ix (xix K) (pv 5) (pe_op (xadd K) (pv 6) (pv 8)) (fun _ _ => rfl)) (pe_op v_mul (pv 7) (pe_ix (xix K) (pv 2) (pv 8) (fun _ _ => rfl)))) pa_nil))) (pg_sub (pv 5) (pe_op (xadd K) (pv 6) (pv 8)) set_list))))))))
      (pss_one (ps_ret (pe_tup (pa_cons (pe_callC C_trimmed hr rfl (pa_n (pv 4) pa_nil)) (pa_cons (pe_callC C_trimmed hr rfl (pa_n (pv 5) pa_nil)) pa_nil))))))))), ?_⟩
    have lP : (P.map V.int).length = P.length := List.length_map _
    have lM : (M.map V.int).length = M.length := List.length_map _
    have hMp := hM.pos
    refine ⟨_, rfl, .ref c, M.length, rfl, .inr ⟨_, SqT.of hC, lM.symm⟩, _, _, rfl, rfl, ?_⟩
    refine ⟨(by show 1 ≤ sizeLine; decide), fun l0 h0 => ?_⟩
    have g0 := Same.new h0 (.lst [.int 0])
    refine ⟨_, rfl, .ref a, P.length, rfl, .inr ⟨_, SqT.of (g0 _ _ hA), lP.symm⟩, _, rfl, _, _, rfl, rfl, _, _, rfl, ?_⟩
    have en : (if (P.length : Int) - ((M.length : Int) - 1) > 0 then (P.length : Int) - ((M.length : Int) - 1) else 0).toNat = P.length - (M.length - 1) := (max_zero P.length M.length).resolve_right (by omega)
    refine ⟨_, upd_same, ?_, ?_, ?_, fun lo hlo => ?_⟩
    · split <;> omega
    · split <;> omega
    · rw [en]; show 1 * (P.length - (M.length - 1)) ≤ sizeLine; rw [Nat.one_mul]; exact Nat.le_of_lt (small1000 (by omega))
    rw [en, replicate_ofF]
    have hlo0 : H lo = none := g0.free hlo
    have g1 := g0.trans (Same.new hlo (.lst ((Pm.ofF (P.length - (M.length - 1)) fun _ => 0).map V.int)))
    have hO0 : (upd (upd H l0 (.lst [.int 0])) lo (.lst ((Pm.ofF (P.length - (M.length - 1)) fun _ => 0).map V.int))) lo = some (.lst ((Pm.ofF (P.length - (M.length - 1)) fun _ => 0).map V.int)) := upd_same
    generalize upd (upd H l0 (.lst [.int 0])) lo (.lst ((Pm.ofF (P.length - (M.length - 1)) fun _ => 0).map V.int)) = H1 at g1 hO0
    refine ⟨_, rfl, a, _, rfl, .inr (SqT.of (g1 _ _ hA)), fun ll hll => ?_⟩
    have hll0 : H ll = none := g1.free hll
    have hne : lo ≠ ll := ne_of_none hO0 hll
    have gll := Same.new hll (.lst (P.map V.int))
    have g2 := g1.trans gll
    have hO2 := gll _ _ hO0
    have hL2 : (upd H1 ll (.lst (P.map V.int))) ll = some (.lst (P.map V.int)) := upd_same
    generalize upd H1 ll (.lst (P.map V.int)) = H2 at gll g2 hO2 hL2
    generalize hn : P.length - (M.length - 1) = n at hO2
    refine ⟨_, rfl, .ref lo, n, rfl, .inl ⟨_, SqL.of hO2, by rw [List.length_map, Pm.ofF_len]⟩, _, _, rfl, rfl, _, rfl, _, rfl, (n : Int) - 1, -1, rfl, ⟨by omega, by omega, by omega, by omega⟩, ?_⟩
    refine for_down (lo := (n : Int) - 1) (n := ((n : Int) - 1 - (-1)).toNat) (fun i σ' H' => ∃ o6 o7 o8 O L, σ' = [some (.int b), some (.ref a), some (.ref c), some (.int ((M.length : Int) - 1)), some (.ref lo), some (.ref ll), o6, o7, o8] ∧ Same H H' ∧ H' lo = some (.lst (List.map V.int O)) ∧ H' ll = some (.lst (List.map V.int L)) ∧ Pm.DivI b P M (n - i) O L)
      ⟨_, _, _, _, P, rfl, g2, hO2, hL2, (by rw [Nat.sub_zero, ← hn]; exact Pm.DivI.start nP)⟩ ?_ ?_
    · rintro i σ' H' hi ⟨o6, o7, o8, O, L, rfl, g, hO, hL, I⟩
      have hi' : i < n := by omega
      have hs : n - i = n - (i + 1) + 1 := by omega
      rw [hs] at I
      generalize es : n - (i + 1) = s at I
      have esI : (n : Int) - 1 - (i : Int) = (s : Int) := by omega
      rw [esI]
      have hlL := I.ll
      have hlO := I.ol
      have hsM : s + M.length ≤ L.length := by omega
      have hsO : s < O.length := by omega
      have lO : (O.map V.int).length = O.length := List.length_map _
      have e1 : ((s : Int) + ((M.length : Int) - 1)).toNat = s + (M.length - 1) := by omega
      refine ⟨_, rfl, _, rfl, _, rfl, _, _, .inl (SqL.of hL), atI_ints (ns := L) (ixt hMp hsM).1 (ixt hMp hsM).2, ?_⟩
      rw [e1]
      have eF : L.getD (s + (M.length - 1)) 0 = Pm.co L (s + (M.length - 1)) := rfl
      rw [eF]
      have hF := tk_small hb hb1 (I.ln (s + (M.length - 1)))
      generalize hf : Pm.co L (s + (M.length - 1)) = f at hF
      refine ⟨_, rfl, _, rfl, _, rfl, lo, _, _, s, rfl, rfl, hO, ixN_of rfl (by rw [lO]; exact hsO), ?_⟩
      have hO3 : (upd H' lo (.lst ((O.map V.int).set s (.int f)))) lo = some (.lst ((O.set s f).map V.int)) := by rw [upd_same, map_set_int]
      have hL3 : (upd H' lo (.lst ((O.map V.int).set s (.int f)))) ll = some (.lst (L.map V.int)) := by rw [upd_ne hne.symm]; exact hL
      have g3 := g.upd hlo0 (.lst ((O.map V.int).set s (.int f)))
      generalize upd H' lo (.lst ((O.map V.int).set s (.int f))) = H3 at hO3 hL3 g3
      refine ⟨_, rfl, .ref c, M.length, rfl, .inr ⟨_, SqT.of (g3 _ _ hC), lM.symm⟩, ?_⟩
      refine ⟨(M.length : Int), rfl, (rng62 (Nat.le_trans zC (by decide))).1, (rng62 (Nat.le_trans zC (by decide))).2, ?_⟩
      refine for_range (lo := 0) (n := (M.length : Int).toNat) (fun t σ' H' => ∃ o8 L', σ' = [some (.int b), some (.ref a), some (.ref c), some (.int ((M.length : Int) - 1)), some (.ref lo), some (.ref ll), some (.int (s : Int)), some (.int f), o8] ∧ Same H H' ∧ H' lo = some (.lst ((O.set s f).map V.int)) ∧ H' ll = some (.lst (List.map V.int L')) ∧ L'.length = L.length ∧ ∀ k, Pm.co L' k = Pm.lf b f s t L M k)
        ⟨_, L, rfl, g3, hO3, hL3, rfl, fun k => (Pm.lf_zero ..).symm⟩ ?_ ?_
      · rintro t σ' H4 ht ⟨o8, L', rfl, g4, hO4, hL4, zL', eL'⟩
        have ht' : t < M.length := by rw [Int.toNat_natCast] at ht; exact ht
        have hst : s + t < L'.length := by rw [zL']; exact Nat.lt_of_lt_of_le (Nat.add_lt_add_left ht' s) hsM
        have lL' : (L'.map V.int).length = L'.length := List.length_map _
        have e2 : ((s : Int) + (0 + (t : Int))).toNat = s + t := by omega
        have e3 : (0 + (t : Int)).toNat = t := by omega
        refine ⟨_, rfl, _, rfl, _, rfl, _, rfl, _, _, .inl (SqL.of hL4), atI_ints (ns := L') (ixs hst).1 (ixs hst).2, ?_⟩
        refine ⟨_, rfl, _, rfl, _, rfl, _, _, .inr (SqT.of (g4 _ _ hC)), atI_ints (ns := M) (ixk ht').1 (ixk ht').2, ?_⟩
        refine ⟨mulL hF.1 hF.2, _, _, rfl, rfl, ?_⟩
        refine ⟨b, _, rfl, Int.le_of_lt hb, ?_⟩
        refine ⟨_, rfl, _, rfl, _, rfl, ll, _, _, s + t, rfl, rfl, hL4, ixN_of (by rw [Int.zero_add]; exact (Int.natCast_add s t).symm) (by rw [lL']; exact hst), ?_⟩
        refine ⟨_, L'.set (s + t) _, rfl, g4.upd hll0 _, (by rw [upd_ne hne]; exact hO4), (by rw [upd_same, map_set_int]), (by rw [List.length_set]; exact zL'), fun k => ?_⟩
        rw [Pm.co_set _ _ _ _ hst, Pm.lf_step, e2, e3, ← eL' k]
        by_cases ek : k = s + t
        · rw [if_pos ek, if_pos ek, ek]; rfl
        · rw [if_neg ek, if_neg ek]
      · rintro σ' H4 ⟨o8, L', rfl, g4, hO4, hL4, zL', eL'⟩
        rw [Int.toNat_natCast] at eL'
        refine ⟨_, _, _, O.set s f, L', rfl, g4, hO4, hL4, ?_⟩
        rw [← hf]
        rw [← hf] at eL'
        exact I.step hM (by omega) zL' eL'
    · rintro σ' H' ⟨o6, o7, o8, O, L, rfl, g, hO, hL, I⟩
      have e9 : ((n : Int) - 1 - (-1)).toNat = n := by omega
      rw [e9] at I
      rw [Nat.sub_self] at I
      refine ⟨_, rfl, lo, O, rfl, SqL.of hO, fun t1 H3 g3 h3 => ?_⟩
      refine ⟨_, rfl, ll, L, rfl, SqL.of (g3 _ _ hL), fun t2 H4 g4 h4 => ?_⟩
      refine ⟨(by show 2 ≤ sizeLine; decide), fun t ht => ?_⟩
      have gt := Same.new ht (.tup [.ref t1, .ref t2])
      refine q t t1 t2 (Pm.trim O) (Pm.trim L) _ (g.trans (g3.trans (g4.trans gt))) upd_same (gt _ _ (g4 _ _ h3)) (gt _ _ h4) (I.stop hM) (fun _ _ => trivial) (fun _ _ => trivial) ?_
      have := Pm.trim_len_le O
      have := I.ol
      omega
theorem ok_monic (B : Bt mg) (F : Fn K mg "monic" s_monic ["prime", "poly"]) (M : Ms K mg base A_NoBy A_RuleError A_TooLong) (C_over : Cal P w K mg base "over" 3 ["by", "one", "other"] spOverQ) : Cal P w K mg base "monic" 4 ["prime", "poly"] spMonicQ := by
  refine F.cal sc_monic (fun vs H Q E h => ?_) (fun f cdv A outer s H vs Q E hr h => ?_)
  · obtain ⟨P, a, p, rfl, _⟩ := h; rfl
  · obtain ⟨P', a, p, rfl, hP, hPb, hA, zA, pP, q⟩ := h
    refine ⟨_, (pss_cons (ps_if (pt_cmpR (xeq K hr) (pe_callB (xlen K) rfl B.b_len boot_len (pa_n (pv 1) pa_nil)) pe_int (nomark _))
      (pss_one (ps_ret (pe_tup pa_nil)))
      pss_nil)
      (pss_cons (ps_set (i := 2) sc_monic.nd rfl (Or.inr rfl) (pe_ix (xix K) (pv 1) (pe_op op_sub (pe_callB (xlen K) rfl B.b_len boot_len (pa_n (pv 1) pa_nil)) pe_int) (fun _ _ => rfl)))
      (pss_one (ps_ret (pe_callTy (xtuple K) rfl B.b_tuple boot_tuple (pa_cons (pe_comp (sc := cs_monic1) (N := ["number", "last", "prime"]) (ix := [none, some 2, some 0]) (comp_mk (by kernel_rfl) (by kernel_rfl) (by kernel_rfl) (by kernel_rfl) (by kernel_rfl) (by kernel_rfl) (by kernel_rfl) (by kernel_rfl)) rfl (xseq K (pv 1)) (fun cl C s₀ H₀ ex => ⟨(pg_name (i := 0) (show (["number", "last", "prime"] : List Str).Nodup by decide +kernel) rfl (Or.inl rfl)), pif_nil, (pe_callC C_over hr rfl (pa_n (pv 2) (pa_n (pv 0) (pa_n (pv 1) pa_nil))))⟩)) pa_nil)))))), ?_⟩
    have hr2 : 2 ≤ P' ∧ P' < 2097152 := ⟨hP.1, hPb⟩
    have lP : (p.map V.int).length = p.length := List.length_map _
    refine ⟨_, rfl, .ref a, p.length, rfl, .inr ⟨_, SqT.of hA, lP.symm⟩, _, rfl, ?_⟩
    refine ite2 (fun c => ?_) (fun c => ?_)
    · have c' : (p.length : Int) = 0 := dec_true c
      have e : p = [] := List.eq_nil_of_length_eq_zero (by omega)
      subst e
      exact ⟨Nat.zero_le _, fun t ht => q t [] _ (Same.new ht _) upd_same (Pm.MonOf.nil _)⟩
    · have c' : ¬ (p.length : Int) = 0 := dec_false c
      have hn : p ≠ [] := fun e => c' (by rw [e]; rfl)
      have hpos : 0 < p.length := by omega
      have e1 : ((p.length : Int) - 1).toNat = p.length - 1 := by omega
      refine ⟨_, rfl, _, rfl, .ref a, p.length, rfl, .inr ⟨_, SqT.of hA, lP.symm⟩, _, _, rfl, rfl, _, _, .inr (SqT.of hA), atI_ints (ns := p) (by omega : (0 : Int) ≤ (p.length : Int) - 1) (by omega), ?_⟩
      rw [e1]
      have l0 := Pm.last_ne hn pP.tr
      have l1 := pP.co (p.length - 1)
      rw [Rm.tk_pos (by omega)] at l1
      have r0 : 0 ≤ Pm.co p (p.length - 1) := by rw [← l1]; exact Int.emod_nonneg _ (by omega)
      have r1 : Pm.co p (p.length - 1) < (P' : Int) := by rw [← l1]; exact Int.emod_lt_of_pos _ (by omega)
      refine ⟨_, rfl, a, rfl, .inr ⟨⟨_, SqT.of hA⟩, comp_tup hA (by omega) rfl (fun x => x * (Pm.co p (p.length - 1)) ^ (P' - 2) % (P' : Int)) ?_ ?_⟩⟩
      · intro H2 x g2 hx k hk
        exact ⟨_, rfl, _, rfl, _, rfl, P', x, _, rfl, hP, hPb, by show 0 < Pm.co p (p.length - 1); omega, r1, hk⟩
      · intro D hD
        refine ⟨D, _, rfl, .inl ⟨SqL.of upd_same, fun t ht => ?_⟩⟩
        exact q t (Pm.monicN P' p) _ ((Same.new hD _).trans (Same.new ht _)) upd_same (Pm.monicN_pr hP pP hn)
theorem ok_greatest (B : Bt mg) (F : Fn K mg "greatest" s_greatest ["by", "one", "other"]) (M : Ms K mg base A_NoBy A_RuleError A_TooLong) (C_monic : Cal P w K mg base "monic" 4 ["prime", "poly"] spMonicQ) (C_divided : Cal P w K mg base "divided" 2 ["by", "one", "other"] spDividedP) : Cal P w K mg base "greatest" 5 ["by", "one", "other"] spGreatestQ := by
  refine F.cal sc_greatest (fun vs H Q E h => ?_) (fun f cdv A outer s H vs Q E hr h => ?_)
  · obtain ⟨P, a, c, p, r, rfl, _⟩ := h; rfl
  · obtain ⟨P', a, c, p, r, rfl, hP, hPb, hA, hC, zA, zC, pP, pR, hne, q⟩ := h
    refine ⟨_, (pss_cons (ps_set (i := 3) sc_greatest.nd rfl (Or.inl rfl) (pe_callC C_monic hr rfl (pa_n (pv 0) (pa_n (pv 1) pa_nil))))
      (pss_cons (ps_set (i := 4) sc_greatest.nd rfl (Or.inl rfl) (pe_callC C_monic hr rfl (pa_n (pv 0) (pa_n (pv 2) pa_nil))))
      (pss_cons (ps_while PassesOwn.never (pt_cmpR op_gt (pe_callB (xlen K) rfl B.b_len boot_len (pa_n (pv 4) pa_nil)) pe_int (nomark _))
      (pss_cons (ps_set (i := 5) sc_greatest.nd rfl (Or.inl rfl) (pe_ix (xix K) (pe_callC C_divided hr rfl (pa_n (pv 0) (pa_n (pv 3) (pa_n (pv 4) pa_nil)))) pe_int (fun _ _ => rfl)))
      (pss_cons (ps_set (i := 3) sc_greatest.nd rfl (Or.inl rfl) (pv 4))
      (pss_one (ps_set (i := 4) sc_greatest.nd rfl (Or.inl rfl) (pe_callC C_monic hr rfl (pa_n (pv 0) (pa_n (pv 5) pa_nil))))))))
      (pss_one (ps_ret (pv 3)))))), ?_⟩
    have hr2 : 2 ≤ P' ∧ P' < 2097152 := ⟨hP.1, hPb⟩
    refine ⟨_, rfl, _, rfl, P', a, p, rfl, hP, hPb, hA, by omega, pP, fun tg g0 H1 g1 hG mG => ?_⟩
    refine ⟨_, rfl, _, rfl, P', c, r, rfl, hP, hPb, g1 _ _ hC, by omega, pR, fun ts s0 H2 g2 hS' mS => ?_⟩
    have lg0 := mG.len
    have ls0 := mS.len
    refine ⟨fun m σ' H' => ∃ (o5 : Option V) (tg ts : Addr) (g s : List Int), m = s.length ∧ σ' = [some (.int P'), some (.ref a), some (.ref c), some (.ref tg), some (.ref ts), o5] ∧ Same H H' ∧ H' tg = some (.tup (g.map V.int)) ∧ H' ts = some (.tup (s.map V.int)) ∧ Pm.GcdI P' p r g s ∧ g.length ≤ max p.length r.length ∧ s.length ≤ max p.length r.length,
      ⟨_, _, tg, ts, g0, s0, rfl, rfl, g1.trans g2, g2 _ _ hG, hS', Pm.GcdI.start mG mS hne, by omega, by omega⟩, ?_⟩
    rintro m σ' H' ⟨o5, tg, ts, gg, ss, rfl, rfl, g, hG, hS', I, zg, zs⟩
    have lS : (ss.map V.int).length = ss.length := List.length_map _
    refine ⟨_, rfl, .ref ts, ss.length, rfl, .inr ⟨_, SqT.of hS', lS.symm⟩, _, _, rfl, rfl, _, rfl, ?_⟩
    refine ite2 (fun cc => ?_) (fun cc => ?_)
    · have hs : ss ≠ [] := fun e => by have := dec_true cc; rw [e] at this; simp at this
      have hMs := I.sm_ hs
      refine ⟨_, fun _ _ z => z, ?_⟩
      refine ⟨_, rfl, _, rfl, _, rfl, P', tg, ts, gg, ss, rfl, by omega, by omega, hG, hS', by omega, by omega, hMs, I.gy.co, fun t x y o l H3 g3 hT hX hY D _ _ _ => ?_⟩
      refine ⟨_, _, .inr (SqT.of hT), rfl, ?_⟩
      refine ⟨_, rfl, ?_⟩
      have hsh := D.short
      refine ⟨_, rfl, _, rfl, P', y, l, rfl, hP, hPb, hY, by omega, D.ry, fun tm m H4 g4 hM mM => ?_⟩
      have lm := mM.len
      exact ⟨m.length, by omega, _, ts, tm, ss, m, rfl, rfl, g.trans (g3.trans g4), (g3.trans g4) _ _ hS', hM, I.step hs D mM, zs, by omega⟩
    · have hs : ss = [] := List.eq_nil_of_length_eq_zero (by have := dec_false cc; omega)
      refine ⟨_, rfl, ?_⟩
      exact q tg gg H' g hG (I.stop hs) zg
theorem ok_is_prime (B : Bt mg) (F : Fn K mg "is_prime" s_is_prime ["number"]) (M : Ms K mg base A_NoBy A_RuleError A_TooLong) : Cal P w K mg base "is_prime" 1 ["number"] spNever := by
  refine F.cal sc_is_prime (fun vs H Q E h => ?_) (fun f cdv A outer s H vs Q E hr h => ?_)
  · exact h.elim
  · exact h.elim
theorem ok_prime_above (B : Bt mg) (F : Fn K mg "prime_above" s_prime_above ["number"]) (M : Ms K mg base A_NoBy A_RuleError A_TooLong) (C_is_prime : Cal P w K mg base "is_prime" 1 ["number"] spNever) : Cal P w K mg base "prime_above" 2 ["number"] spNever := by
  refine F.cal sc_prime_above (fun vs H Q E h => ?_) (fun f cdv A outer s H vs Q E hr h => ?_)
  · exact h.elim
  · exact h.elim
theorem ok_nearest (B : Bt mg) (F : Fn K mg "nearest" s_nearest ["modulus", "number"]) (M : Ms K mg base A_NoBy A_RuleError A_TooLong) : Cal P w K mg base "nearest" 1 ["modulus", "number"] spNever := by
  refine F.cal sc_nearest (fun vs H Q E h => ?_) (fun f cdv A outer s H vs Q E hr h => ?_)
  · exact h.elim
  · exact h.elim
theorem ok_joined (B : Bt mg) (F : Fn K mg "joined" s_joined ["modulus", "number", "prime", "rest"]) (M : Ms K mg base A_NoBy A_RuleError A_TooLong) (C_over : Cal P w K mg base "over" 3 ["by", "one", "other"] spOverQ) (C_taken : Cal P w K mg base "taken" 1 ["by", "number"] spTaken) (C_nearest : Cal P w K mg base "nearest" 1 ["modulus", "number"] spNever) : Cal P w K mg base "joined" 5 ["modulus", "number", "prime", "rest"] spNever := by
  refine F.cal sc_joined (fun vs H Q E h => ?_) (fun f cdv A outer s H vs Q E hr h => ?_)
  · exact h.elim
  · exact h.elim
theorem ok_taken_poly (B : Bt mg) (F : Fn K mg "taken_poly" s_taken_poly ["prime", "poly"]) (M : Ms K mg base A_NoBy A_RuleError A_TooLong) (C_trimmed : Cal P w K mg base "trimmed" 1 ["numbers"] (spTrim K)) (C_taken : Cal P w K mg base "taken" 1 ["by", "number"] spTaken) : Cal P w K mg base "taken_poly" 4 ["prime", "poly"] spNever := by
  refine F.cal sc_taken_poly (fun vs H Q E h => ?_) (fun f cdv A outer s H vs Q E hr h => ?_)
  · exact h.elim
  · exact h.elim
theorem ok_divides (B : Bt mg) (F : Fn K mg "divides" s_divides ["monic_one", "poly"]) (M : Ms K mg base A_NoBy A_RuleError A_TooLong) (C_divided : Cal P w K mg base "divided" 2 ["by", "one", "other"] spDividedP) : Cal P w K mg base "divides" 5 ["monic_one", "poly"] spNever := by
  refine F.cal sc_divides (fun vs H Q E h => ?_) (fun f cdv A outer s H vs Q E hr h => ?_)
  · exact h.elim
  · exact h.elim
theorem ok_whole_greatest (B : Bt mg) (F : Fn K mg "whole_greatest" s_whole_greatest ["one", "other"]) (M : Ms K mg base A_NoBy A_RuleError A_TooLong) (C_divides : Cal P w K mg base "divides" 5 ["monic_one", "poly"] spNever) (C_prime_above : Cal P w K mg base "prime_above" 2 ["number"] spNever) (C_greatest : Cal P w K mg base "greatest" 5 ["by", "one", "other"] spGreatestQ) (C_taken_poly : Cal P w K mg base "taken_poly" 4 ["prime", "poly"] spNever) (C_nearest : Cal P w K mg base "nearest" 1 ["modulus", "number"] spNever) (C_joined : Cal P w K mg base "joined" 5 ["modulus", "number", "prime", "rest"] spNever) : Cal P w K mg base "whole_greatest" 6 ["one", "other"] spNever := by
  refine F.cal sc_whole_greatest (fun vs H Q E h => ?_) (fun f cdv A outer s H vs Q E hr h => ?_)
  · exact h.elim
  · exact h.elim
theorem ok_of_rule (B : Bt mg) (F : Fn K mg "of_rule" s_of_rule ["by", "rule"]) (M : Ms K mg base A_NoBy A_RuleError A_TooLong) (C_taken : Cal P w K mg base "taken" 1 ["by", "number"] spTaken) : Cal P w K mg base "of_rule" 2 ["by", "rule"] spOfRule := by
  refine F.cal sc_of_rule (fun vs H Q E h => ?_) (fun f cdv A outer s H vs Q E hr h => ?_)
  · obtain ⟨b, a, c, rfl, _⟩ := h; rfl
  · obtain ⟨b, a, c, rfl, hb, hA, zA, q⟩ := h
    refine ⟨_, (pss_cons (ps_set (i := 2) sc_of_rule.nd rfl (Or.inr rfl) (pe_callB (xlen K) rfl B.b_len boot_len (pa_n (pv 1) pa_nil)))
      (pss_cons (ps_setC (i := 3) (hN := sc_of_rule.nd) (hi' := rfl) (hx := (Or.inl rfl)) (sc := cs_of_rule1) (N := ["k", "by", "length", "rule"]) (ix := [none, some 0, some 2, some 1]) (comp_mk (by kernel_rfl) (by kernel_rfl) (by kernel_rfl) (by kernel_rfl) (by kernel_rfl) (by kernel_rfl) (by kernel_rfl) (by kernel_rfl)) rfl (pi_range1 rfl B.b_range (pa_n (pv 2) pa_nil)) (fun cl C s₀ H₀ ex => ⟨(pg_name (i := 0) (show (["k", "by", "length", "rule"] : List Str).Nodup by decide +kernel) rfl (Or.inl rfl)), pif_nil, (pe_callC C_taken hr rfl (pa_n (pv 1) (pa_b (pe_op op_sub pe_int (pe_ix (xix K) (pv 3) (pe_op op_sub (pe_op op_sub (pv 2) pe_int) (pv 0)) (fun _ _ => rfl))) pa_nil)))⟩))
      (pss_one (ps_ret (pe_callTy (xtuple K) rfl B.b_tuple boot_tuple (pa_b (pe_op (xadd K) (pv 3) (pe_lst (pa_k pe_int pa_nil))) pa_nil)))))), ?_⟩
    have lC : (c.map V.int).length = c.length := List.length_map _
    refine ⟨_, rfl, .ref a, c.length, rfl, .inr ⟨_, SqT.of hA, lC.symm⟩, ?_⟩
    refine ⟨_, rfl, (c.length : Int), rfl, (by omega : -(2 ^ 62) ≤ (c.length : Int)), (by omega : (c.length : Int) < 2 ^ 62), ?_⟩
    rw [Int.toNat_natCast]
    refine comp_rng (n := c.length) (by omega) rfl (fun k => Rm.tk b (0 - Pm.co c (c.length - 1 - k))) ?_ ?_
    · intro H2 k g2 hk kk hkk
      have e1 : ((c.length : Int) - 1 - (0 + (k : Int))).toNat = c.length - 1 - k := by omega
      refine ⟨_, rfl, _, rfl, _, rfl, _, _, rfl, rfl, _, rfl, _, _, rfl, rfl, _, _, .inr (SqT.of (g2 _ _ hA)), atI_ints (ns := c) (by omega : (0 : Int) ≤ (c.length : Int) - 1 - (0 + (k : Int))) (by omega), _, _, rfl, rfl, ?_⟩
      refine ⟨b, _, rfl, hb, ?_⟩
      rw [e1]
      exact hkk
    · intro D hD
      have g1 := Same.new hD (.lst ((Pm.ofF c.length fun k => Rm.tk b (0 - Pm.co c (c.length - 1 - k))).map V.int))
      refine ⟨_, rfl, (by show 1 ≤ sizeLine; decide), fun l2 hl2 => ?_⟩
      have g2 := Same.new hl2 (.lst [.int 1])
      refine .inl ⟨_, _, g2 _ _ upd_same, upd_same, ?_, fun l3 hl3 => ?_⟩
      · rw [List.length_map, Pm.ofF_len]; exact Nat.le_of_lt (small1000 (by show _ + 1 ≤ 1000; omega))
      refine ⟨l3, _, rfl, .inl ⟨SqL.of upd_same, fun t ht => ?_⟩⟩
      refine q t _ (g1.trans (g2.trans ((Same.new hl3 _).trans (Same.new ht _)))) ?_
      rw [upd_same, Pm.ofRule, map_snoc]
theorem ok_rule_of (B : Bt mg) (F : Fn K mg "rule_of" s_rule_of ["by", "poly"]) (M : Ms K mg base A_NoBy A_RuleError A_TooLong) (C_taken : Cal P w K mg base "taken" 1 ["by", "number"] spTaken) : Cal P w K mg base "rule_of" 2 ["by", "poly"] spRuleOf := by
  refine F.cal sc_rule_of (fun vs H Q E h => ?_) (fun f cdv A outer s H vs Q E hr h => ?_)
  · obtain ⟨b, a, p, rfl, _⟩ := h; rfl
  · obtain ⟨b, a, p, rfl, hb, hA, z0, zA, q⟩ := h
    refine ⟨_, (pss_cons (ps_set (i := 2) sc_rule_of.nd rfl (Or.inr rfl) (pe_op op_sub (pe_callB (xlen K) rfl B.b_len boot_len (pa_n (pv 1) pa_nil)) pe_int))
      (pss_one (ps_ret (pe_callTy (xtuple K) rfl B.b_tuple boot_tuple (pa_cons (pe_comp (sc := cs_rule_of1) (N := ["k", "by", "length", "poly"]) (ix := [none, some 0, some 2, some 1]) (comp_mk (by kernel_rfl) (by kernel_rfl) (by kernel_rfl) (by kernel_rfl) (by kernel_rfl) (by kernel_rfl) (by kernel_rfl) (by kernel_rfl)) rfl (pi_range1 rfl B.b_range (pa_n (pv 2) pa_nil)) (fun cl C s₀ H₀ ex => ⟨(pg_name (i := 0) (show (["k", "by", "length", "poly"] : List Str).Nodup by decide +kernel) rfl (Or.inl rfl)), pif_nil, (pe_callC C_taken hr rfl (pa_n (pv 1) (pa_b (pe_op op_sub pe_int (pe_ix (xix K) (pv 3) (pe_op op_sub (pe_op op_sub (pv 2) pe_int) (pv 0)) (fun _ _ => rfl))) pa_nil)))⟩)) pa_nil))))), ?_⟩
    have lC : (p.map V.int).length = p.length := List.length_map _
    refine ⟨_, rfl, .ref a, p.length, rfl, .inr ⟨_, SqT.of hA, lC.symm⟩, _, _, rfl, rfl, ?_⟩
    refine ⟨_, rfl, (p.length : Int) - 1, rfl, (by omega : -(2 ^ 62) ≤ (p.length : Int) - 1), (by omega : (p.length : Int) - 1 < 2 ^ 62), ?_⟩
    rw [show ((p.length : Int) - 1).toNat = p.length - 1 by omega]
    refine comp_rng (n := p.length - 1) (by omega) rfl (fun k => Rm.tk b (0 - Pm.co p (p.length - 1 - 1 - k))) ?_ ?_
    · intro H2 k g2 hk kk hkk
      have e1 : ((p.length : Int) - 1 - 1 - (0 + (k : Int))).toNat = p.length - 1 - 1 - k := by omega
      refine ⟨_, rfl, _, rfl, _, rfl, _, _, rfl, rfl, _, rfl, _, _, rfl, rfl, _, _, .inr (SqT.of (g2 _ _ hA)), atI_ints (ns := p) (by omega : (0 : Int) ≤ (p.length : Int) - 1 - 1 - (0 + (k : Int))) (by omega), _, _, rfl, rfl, ?_⟩
      refine ⟨b, _, rfl, hb, ?_⟩
      rw [e1]
      exact hkk
    · intro D hD
      refine ⟨D, _, rfl, .inl ⟨SqL.of upd_same, fun t ht => ?_⟩⟩
      exact q t _ ((Same.new hD _).trans (Same.new ht _)) upd_same
theorem ok_top_of (B : Bt mg) (F : Fn K mg "top_of" s_top_of ["row", "poly"]) (M : Ms K mg base A_NoBy A_RuleError A_TooLong) (C_taken : Cal P w K mg base "taken" 1 ["by", "number"] spTaken) (C_trimmed : Cal P w K mg base "trimmed" 1 ["numbers"] (spTrim K)) : Cal P w K mg base "top_of" 2 ["row", "poly"] spTop := by
  refine F.cal sc_top_of (fun vs H Q E h => ?_) (fun f cdv A outer s H vs Q E hr h => ?_)
  · obtain ⟨v, r, a, rfl, _⟩ := h; rfl
  · obtain ⟨v, r, a, rfl, ⟨a0, p, p2, rfl, hA, hR, hS⟩, ok, hP, q⟩ := h
    refine ⟨_, (pss_cons (ps_set (i := 2) sc_top_of.nd rfl (Or.inl rfl) (pe_ix (xix K) (pv 0) pe_int (fun _ _ => rfl)))
      (pss_cons (ps_set (i := 3) sc_top_of.nd rfl (Or.inr rfl) (pe_ix (xix K) (pv 0) pe_int (fun _ _ => rfl)))
      (pss_cons (ps_set (i := 4) sc_top_of.nd rfl (Or.inl rfl) (pe_lst pa_nil))
      (pss_cons (ps_for PassesOwn.never rfl (pi_range1 rfl B.b_range (pa_cons (pe_callB (xlen K) rfl B.b_len boot_len (pa_n (pv 3) pa_nil)) pa_nil)) (pg_name (i := 5) sc_top_of.nd rfl (Or.inr rfl))
      (pss_cons (ps_setC (i := 6) (hN := sc_top_of.nd) (hi' := rfl) (hx := (Or.inl rfl)) (sc := cs_top_of1) (N := ["j", "k", "poly", "starts"]) (ix := [none, some 5, some 1, some 3]) (comp_mk (by kernel_rfl) (by kernel_rfl) (by kernel_rfl) (by kernel_rfl) (by kernel_rfl) (by kernel_rfl) (by kernel_rfl) (by kernel_rfl)) rfl (pi_range2 rfl B.b_range (pa_b (pe_op (xadd K) (pv 5) pe_int) (pa_cons (pe_callB (xlen K) rfl B.b_len boot_len (pa_n (pv 1) pa_nil)) pa_nil))) (fun cl C s₀ H₀ ex => ⟨(pg_name (i := 0) (show (["j", "k", "poly", "starts"] : List Str).Nodup by decide +kernel) rfl (Or.inl rfl)), pif_nil, (pe_op v_mul (pe_ix (xix K) (pv 2) (pv 0) (fun _ _ => rfl)) (pe_ix (xix K) (pv 3) (pe_op op_sub (pe_op op_sub (pv 0) pe_int) (pv 1)) (fun _ _ => rfl)))⟩))
      (pss_one (ps_expr (xappend K (pv 4) (pe_callC C_taken hr rfl (pa_n (pv 2) (pa_cons (pe_callB (xsum K rfl) rfl B.b_sum boot_sum (pa_n (pv 6) pa_nil)) pa_nil))))))))
      (pss_one (ps_ret (pe_callC C_trimmed hr rfl (pa_n (pv 4) pa_nil)))))))), ?_⟩
    have hl := ok.len
    have hs := ok.short
    have lS : (r.starts.map V.int).length = r.starts.length := List.length_map _
    have lP : ((Pm.ofRule r.b r.rule).map V.int).length = r.rule.length + 1 := by rw [List.length_map, Pm.ofRule_len]
    refine ⟨_, rfl, _, _, .inr (SqT.of hA), rfl, ?_⟩
    refine ⟨_, rfl, _, _, .inr (SqT.of hA), rfl, ?_⟩
    refine ⟨Nat.zero_le _, fun l0 h0 => ?_⟩
    have g0 := Same.new h0 (.lst [])
    refine ⟨_, rfl, .ref p2, r.starts.length, rfl, .inr ⟨_, SqT.of (g0 _ _ hS), lS.symm⟩, ?_⟩
    refine ⟨(r.starts.length : Int), rfl, (rng62 (by omega)).1, (rng62 (by omega)).2, ?_⟩
    refine for_range (lo := 0) (n := (r.starts.length : Int).toNat) (fun i σ' H' => ∃ o5 o6, σ' = [some (.ref a0), some (.ref a), some (.int r.b), some (.ref p2), some (.ref l0), o5, o6] ∧ Same H H' ∧ H' l0 = some (.lst ((Pm.ofF i fun k => Rm.tk r.b (Pm.tp (Pm.ofRule r.b r.rule) r.at k)).map V.int)))
      ⟨_, _, rfl, g0, upd_same⟩ ?_ ?_
    · rintro i σ' H' hi ⟨o5, o6, rfl, g, hL⟩
      have hi' : i < r.starts.length := by omega
      refine ⟨_, rfl, _, rfl, .ref a, r.rule.length + 1, rfl, .inr ⟨_, SqT.of (g _ _ hP), lP.symm⟩, ?_⟩
      refine ⟨_, _, rfl, ⟨by omega, by omega, by omega, by omega⟩, ?_⟩
      rw [show (((r.rule.length + 1 : Nat) : Int) - (0 + (i : Int) + 1)).toNat = r.rule.length - i by omega]
      refine comp_rngL (lo := 0 + (i : Int) + 1) (n := r.rule.length - i) (by omega) rfl (fun k => Pm.co (Pm.ofRule r.b r.rule) (i + 1 + k) * r.at k) ?_ ?_
      · intro H2 k g2 hk kk hkk
        have e1 := ixr i k
        have e2 := ixv i k
        have lq : (Pm.ofRule r.b r.rule).length = r.rule.length + 1 := Pm.ofRule_len ..
        refine ⟨_, rfl, _, rfl, _, _, .inr (SqT.of (g2 _ _ (g _ _ hP))), atI_ints (ns := Pm.ofRule r.b r.rule) (ixp hk lq).1 (ixp hk lq).2, ?_⟩
        refine ⟨_, rfl, _, rfl, _, _, rfl, rfl, _, rfl, _, _, rfl, rfl, _, _, .inr (SqT.of (g2 _ _ (g _ _ hS))), atI_ints (ns := r.starts) (ixq hk hl).1 (ixq hk hl).2, ?_⟩
        refine ⟨mulBd (Rm.Bd.getD ok.poly_bd _) (Rm.Bd.getD ok.startsBd _) (by decide), ?_⟩
        rw [e1, e2]
        have e3 : r.at k = r.starts.getD k 0 := Rm.at_lt (by omega)
        rw [e3] at hkk
        exact hkk
      · intro D hD
        have g3 := Same.new hD (.lst ((Pm.ofF (r.rule.length - i) fun k => Pm.co (Pm.ofRule r.b r.rule) (i + 1 + k) * r.at k).map V.int))
        have hL3 := g3 _ _ hL
        have lL : ((Pm.ofF i fun k => Rm.tk r.b (Pm.tp (Pm.ofRule r.b r.rule) r.at k)).map V.int).length = i := by rw [List.length_map, Pm.ofF_len]
        refine ⟨_, rfl, .inl ⟨rfl, _, SqL.of hL3⟩, _, rfl, _, rfl, D, _, rfl, SqL.of upd_same, r.b, _, rfl, ok.by0, ?_⟩
        refine ⟨l0, _, _, rfl, rfl, hL3, ?_, ?_⟩
        · rw [lL]; exact small1000 (by omega)
        · refine ⟨_, _, rfl, (g.trans g3).upd h0 _, ?_⟩
          rw [upd_same, Pm.ofF_succ, map_snoc]
          have e4 : Pm.tp (Pm.ofRule r.b r.rule) r.at i = (Pm.ofF (r.rule.length - i) fun k => Pm.co (Pm.ofRule r.b r.rule) (i + 1 + k) * r.at k).sum := by
            unfold Pm.tp
            rw [Pm.ofF, Pm.list_sum, Pm.ofRule_len, Nat.add_sub_cancel]
          rw [e4]
    · rintro σ' H' ⟨o5, o6, rfl, g, hL⟩
      refine ⟨_, rfl, l0, _, rfl, SqL.of hL, fun t1 H3 g3 h3 => ?_⟩
      refine q t1 H3 (g.trans g3) ?_
      rw [h3, topL, hl, Int.toNat_natCast]
theorem ok_shared_divisor (B : Bt mg) (F : Fn K mg "shared_divisor" s_shared_divisor ["by", "one", "other"]) (M : Ms K mg base A_NoBy A_RuleError A_TooLong) (C_whole_greatest : Cal P w K mg base "whole_greatest" 6 ["one", "other"] spNever) (C_greatest : Cal P w K mg base "greatest" 5 ["by", "one", "other"] spGreatestQ) : Cal P w K mg base "shared_divisor" 7 ["by", "one", "other"] spShared := by
  refine F.cal sc_shared_divisor (fun vs H Q E h => ?_) (fun f cdv A outer s H vs Q E hr h => ?_)
  · obtain ⟨b, a, c, P, t, rfl, _⟩ := h; rfl
  · obtain ⟨b, a, c, P', t, rfl, hA, hC, zP, zt, hP, h⟩ := h
    refine ⟨_, (pss_one (ps_ret (pe_ifExp (pt_cmpR (xeq K hr) (pv 0) pe_int (nomark _)) (pe_callC C_whole_greatest hr rfl (pa_n (pv 1) (pa_n (pv 2) pa_nil))) (pe_callC C_greatest hr rfl (pa_n (pv 0) (pa_n (pv 1) (pa_n (pv 2) pa_nil))))))), ?_⟩
    refine ⟨_, rfl, _, rfl, ?_⟩
    refine ite2 (fun c0 => ?_) (fun c0 => ?_)
    · have c0' : b = 0 := dec_true c0
      obtain ⟨p, rfl, hp, _⟩ := h
      have := hp.1; omega
    · obtain ⟨p, rfl, hp, hpb, yP, yt, q⟩ := h
      exact ⟨_, rfl, _, rfl, _, rfl, p, a, c, P', t, rfl, hp, hpb, hA, hC, zP, zt, yP, yt, fun _ z => by have := hP.pos; rw [z] at this; exact absurd this (by decide), q⟩
theorem ok_least_of (B : Bt mg) (F : Fn K mg "least_of" s_least_of ["row"]) (M : Ms K mg base A_NoBy A_RuleError A_TooLong) (C_of_rule : Cal P w K mg base "of_rule" 2 ["by", "rule"] spOfRule) (C_top_of : Cal P w K mg base "top_of" 2 ["row", "poly"] spTop) (C_divided : Cal P w K mg base "divided" 2 ["by", "one", "other"] spDividedP) (C_shared_divisor : Cal P w K mg base "shared_divisor" 7 ["by", "one", "other"] spShared) : Cal P w K mg base "least_of" 8 ["row"] spLeast := by
  refine F.cal sc_least_of (fun vs H Q E h => ?_) (fun f cdv A outer s H vs Q E hr h => ?_)
  · obtain ⟨v, r, rfl, _⟩ := h; rfl
  · obtain ⟨v, r, rfl, ⟨a0, p, p2, rfl, hA, hR, hS⟩, ok, hB, q⟩ := h
    refine ⟨_, (pss_cons (ps_set (i := 1) sc_least_of.nd rfl (Or.inl rfl) (pe_ix (xix K) (pv 0) pe_int (fun _ _ => rfl)))
      (pss_cons (ps_set (i := 2) sc_least_of.nd rfl (Or.inl rfl) (pe_callC C_of_rule hr rfl (pa_n (pv 1) (pa_cons (pe_ix (xix K) (pv 0) pe_int (fun _ _ => rfl)) pa_nil))))
      (pss_cons (ps_set (i := 3) sc_least_of.nd rfl (Or.inl rfl) (pe_callC C_top_of hr rfl (pa_n (pv 0) (pa_n (pv 2) pa_nil))))
      (pss_one (ps_ret (pe_ix (xix K) (pe_callC C_divided hr rfl (pa_n (pv 1) (pa_n (pv 2) (pa_cons (pe_callC C_shared_divisor hr rfl (pa_n (pv 1) (pa_n (pv 2) (pa_n (pv 3) pa_nil)))) pa_nil)))) pe_int (fun _ _ => rfl))))))), ?_⟩
    have hs := ok.short
    have hb1 := (fun (h : ByQ r.b) => (by obtain ⟨P, hP, e⟩ := h; have := primesN_range P hP; omega : r.b < 1000)) hB
    have hm := Pm.ofRule_mon r.b r.rule
    have lq : (Pm.ofRule r.b r.rule).length = r.rule.length + 1 := Pm.ofRule_len ..
    refine ⟨_, rfl, _, _, .inr (SqT.of hA), rfl, ?_⟩
    refine ⟨_, rfl, _, rfl, _, _, .inr (SqT.of hA), rfl, r.b, p, r.rule, rfl, ok.by0, hR, by omega, fun tP H1 g1 hP => ?_⟩
    refine ⟨_, rfl, _, rfl, .ref a0, r, tP, rfl, ⟨a0, p, p2, rfl, g1 _ _ hA, g1 _ _ hR, g1 _ _ hS⟩, ok, hP, fun tT H2 g2 hTp => ?_⟩
    have hP2 := g2 _ _ hP
    have lt := topL_len r
    refine ⟨_, rfl, _, rfl, _, rfl, _, rfl, _, rfl, r.b, tP, tT, Pm.ofRule r.b r.rule, topL r, rfl, hP2, hTp, by omega, by omega, hm, ?_⟩
    have nP := ofRule_nu r.b r.rule hB.one
    obtain ⟨P0, hP0, hb⟩ := hB
    have hp := primesN_pr hP0
    have hr := primesN_range P0 hP0
    have yP : Pm.Py (P0 : Int) (Pm.ofRule r.b r.rule) := by rw [← hb]; exact mon_py hm nP
    have yt : Pm.Py (P0 : Int) (topL r) := by rw [← hb]; exact Pm.Py.ofF ..
    refine ⟨P0, hb, hp, by omega, yP, yt, fun tg g H3 g3 hg hG hgl => ?_⟩
    refine ⟨r.b, tP, tg, Pm.ofRule r.b r.rule, g, rfl, by omega, by omega, g3 _ _ hP2, hg, by omega, by omega, hG.mon, nP, fun t x y o l H4 g4 ht hx hy D _ _ _ => ?_⟩
    refine ⟨_, _, .inr (SqT.of ht), rfl, ?_⟩
    rw [hb] at D
    rw [← hb] at D
    obtain ⟨hl1, hl2⟩ := least_pr hp ok hb hG (by rw [hb] at D ⊢; exact D)
    exact q x o H4 (g1.trans (g2.trans (g3.trans g4))) hx hl1 hl2
theorem ok_shortest (B : Bt mg) (F : Fn K mg "shortest" s_shortest ["row"]) (M : Ms K mg base A_NoBy A_RuleError A_TooLong) (C_least_of : Cal P w K mg base "least_of" 8 ["row"] spLeast) (C_rule_of : Cal P w K mg base "rule_of" 2 ["by", "poly"] spRuleOf) : Cal P w K mg base "shortest" 9 ["row"] spShort := by
  refine F.cal sc_shortest (fun vs H Q E h => ?_) (fun f cdv A outer s H vs Q E hr h => ?_)
  · obtain ⟨v, r, rfl, _⟩ := h; rfl
  · obtain ⟨v, r, rfl, ⟨a0, p, p2, rfl, hA, hR, hS⟩, ok, hB, q⟩ := h
    refine ⟨_, (pss_cons (ps_set (i := 1) sc_shortest.nd rfl (Or.inl rfl) (pe_callC C_least_of hr rfl (pa_n (pv 0) pa_nil)))
      (pss_cons (ps_set (i := 2) sc_shortest.nd rfl (Or.inl rfl) (pe_callC C_rule_of hr rfl (pa_cons (pe_ix (xix K) (pv 0) pe_int (fun _ _ => rfl)) (pa_n (pv 1) pa_nil))))
      (pss_one (ps_ret (pe_tup (pa_cons (pe_ix (xix K) (pv 0) pe_int (fun _ _ => rfl)) (pa_n (pv 2) (pa_cons (pe_callTy (xtuple K) rfl B.b_tuple boot_tuple (pa_cons (pe_slice (xsl K) (pe_ix (xix K) (pv 0) pe_int (fun _ _ => rfl)) po_none (po_some (pe_callB (xlen K) rfl B.b_len boot_len (pa_n (pv 2) pa_nil)))) pa_nil)) pa_nil)))))))), ?_⟩
    have hs := ok.short
    have hl := ok.len
    have lS : (r.starts.map V.int).length = r.starts.length := List.length_map _
    refine ⟨_, rfl, .ref a0, r, rfl, ⟨a0, p, p2, rfl, hA, hR, hS⟩, ok, hB, fun tL L H1 g1 hL lst ll => ?_⟩
    have hLp := lst.mon.pos
    refine ⟨_, rfl, _, _, .inr (SqT.of (g1 _ _ hA)), rfl, _, rfl, r.b, tL, L, rfl, ok.by0, hL, hLp, by omega, fun tR H2 g2 hR2 => ?_⟩
    have lR : ((Pm.ruleOf r.b L).map V.int).length = L.length - 1 := by rw [List.length_map, Pm.ruleOf_len]
    have hA2 := (g1.trans g2) _ _ hA
    have hS2 := (g1.trans g2) _ _ hS
    refine ⟨_, rfl, _, _, .inr (SqT.of hA2), rfl, _, rfl, _, rfl, _, _, .inr (SqT.of hA2), rfl, ?_⟩
    refine ⟨_, rfl, .ref tR, L.length - 1, rfl, .inr ⟨_, SqT.of hR2, lR.symm⟩, ?_⟩
    refine ⟨_, rfl, ?_⟩
    by_cases hw : r.starts.length ≤ L.length - 1
    · refine .inr (.inr ⟨_, SqT.of hS2, ?_, ?_⟩)
      · rw [HT.sIx_nat, HT.sIx_none, lS]; omega
      · refine ⟨p2, _, rfl, .inr ⟨SqT.of hS2, ?_⟩⟩
        refine ⟨(by show 3 ≤ sizeLine; decide), fun t ht => ?_⟩
        have g3 := Same.new ht (.tup [.int r.b, .ref tR, .ref p2])
        refine q (.ref t) L _ (g1.trans (g2.trans g3)) ⟨t, tR, p2, rfl, upd_same, g3 _ _ hR2, ?_⟩ lst ll
        show _ = some (HO.tup ((r.starts.take (L.length - 1)).map V.int))
        rw [List.take_of_length_le hw]
        exact g3 _ _ hS2
    · refine .inr (.inl ⟨_, SqT.of hS2, ?_, fun p3 hp3 => ?_⟩)
      · rw [HT.sIx_nat, HT.sIx_none, lS]; omega
      · refine ⟨p3, _, rfl, .inr ⟨SqT.of upd_same, ?_⟩⟩
        have g3 := Same.new hp3 (.tup (cutV (r.starts.map V.int) none (some ((L.length - 1 : Nat) : Int))))
        refine ⟨(by show 3 ≤ sizeLine; decide), fun t ht => ?_⟩
        have g4 := Same.new ht (.tup [.int r.b, .ref tR, .ref p3])
        refine q (.ref t) L _ (g1.trans (g2.trans (g3.trans g4))) ⟨t, tR, p3, rfl, upd_same, (g3.trans g4) _ _ hR2, ?_⟩ lst ll
        show _ = some (HO.tup ((r.starts.take (L.length - 1)).map V.int))
        rw [List.map_take, ← cut_to]
        exact g4 _ _ upd_same
theorem ok_refuse_wide (B : Bt mg) (F : Fn K mg "refuse_wide" s_refuse_wide ["prime", "length"]) (M : Ms K mg base A_NoBy A_RuleError A_TooLong) : Cal P w K mg base "refuse_wide" 1 ["prime", "length"] (spWide A_TooLong) := by
  refine F.calF sc_refuse_wide (fun vs H Q E h => ?_) (fun f cdv A outer s H vs Q E hr h => ?_)
  · obtain ⟨P', l, rfl, _⟩ := h; rfl
  · obtain ⟨P', l, rfl, hP, hl, q1, q2⟩ := h
    refine ⟨_, (pss_cons (ps_set (i := 2) sc_refuse_wide.nd rfl (Or.inl rfl) pe_int)
      (pss_cons (ps_for PassesOwn.leaving rfl (pi_range1 rfl B.b_range (pa_n (pv 1) pa_nil)) (pg_name (i := 3) sc_refuse_wide.nd rfl (Or.inl rfl))
      (pss_one (ps_set (i := 2) sc_refuse_wide.nd rfl (Or.inl rfl) (pe_op v_mul (pv 2) (pv 0)))))
      (pss_one (ps_if (pt_cmpR op_gt (pv 2) (pe_globI rfl B.g_MOST_WINDOWS) (nomark _))
      (pss_one (ps_raise M.x_TooLong rfl (pa_k pe_str pa_nil)))
      pss_nil)))), ?_⟩
    refine ⟨_, rfl, (l : Int), rfl, (by omega : -(2 ^ 62) ≤ (l : Int)), (by omega : (l : Int) < 2 ^ 62), ?_⟩
    rw [Int.toNat_natCast]
    refine for_range (lo := 0) (n := l) (fun i σ' H' => ∃ o3 : Option V, σ' = [some (.int P'), some (.int l), some (.int ((P' ^ i : Nat) : Int)), o3] ∧ H = H') ⟨_, rfl, rfl⟩ ?_ ?_
    · rintro i σ' H' hi ⟨o3, rfl, rfl⟩
      refine ⟨_, rfl, _, rfl, mulR (by omega) (by omega), some (.int (0 + (i : Int))), ?_, rfl⟩
      rw [Nat.pow_succ, Int.natCast_mul]; rfl
    · rintro σ' H' ⟨o3, rfl, rfl⟩
      refine ⟨_, rfl, _, _, rfl, rfl, _, rfl, ?_⟩
      refine ite2 (fun c => ⟨(by show 1 ≤ sizeLine; decide), q2 ?_⟩) (fun c => q1 ?_)
      · have c' : (4096 : Int) < ((P' ^ l : Nat) : Int) := dec_true c
        omega
      · have c' : ¬ (4096 : Int) < ((P' ^ l : Nat) : Int) := dec_false c
        omega
theorem ok_round_row (B : Bt mg) (F : Fn K mg "round_row" s_round_row ["row"]) (M : Ms K mg base A_NoBy A_RuleError A_TooLong) (C_shortest : Cal P w K mg base "shortest" 9 ["row"] spShort) (C_refuse_wide : Cal P w K mg base "refuse_wide" 1 ["prime", "length"] (spWide A_TooLong)) : Cal P w K mg base "round_row" 10 ["row"] (spRoundRow A_NoBy A_TooLong) := by
  refine F.calF sc_round_row (fun vs H Q E h => ?_) (fun f cdv A outer s H vs Q E hr h => ?_)
  · obtain ⟨v, r, rfl, _⟩ := h; rfl
  · obtain ⟨v, r, rfl, hR, ok, q1, q2⟩ := h
    refine ⟨_, (pss_cons (ps_if (pt_cmpR (xeq K hr) (pe_ix (xix K) (pv 0) pe_int (fun _ _ => rfl)) pe_int (nomark _))
      (pss_one (ps_raise M.x_NoBy rfl (pa_k pe_str pa_nil)))
      pss_nil)
      (pss_cons (ps_set (i := 1) sc_round_row.nd rfl (Or.inl rfl) (pe_callC C_shortest hr rfl (pa_n (pv 0) pa_nil)))
      (pss_cons (ps_expr (pe_callCF C_refuse_wide hr rfl (pa_cons (pe_ix (xix K) (pv 0) pe_int (fun _ _ => rfl)) (pa_cons (pe_callB (xlen K) rfl B.b_len boot_len (pa_cons (pe_ix (xix K) (pv 1) pe_int (fun _ _ => rfl)) pa_nil)) pa_nil))))
      (pss_one (ps_ret (pv 1)))))), ?_⟩
    have hR' := hR
    obtain ⟨a, p, p2, rfl, hA, hRu, hS⟩ := hR
    refine ⟨_, rfl, _, _, .inr (SqT.of hA), rfl, _, rfl, ?_⟩
    refine ite2 (fun c => ⟨(by show 1 ≤ sizeLine; decide), q1 (dec_true c)⟩) (fun c => ?_)
    have c' : r.b ≠ 0 := dec_false c
    obtain ⟨hB, q3⟩ := q2 c'
    refine ⟨_, rfl, .ref a, r, rfl, hR', ok, hB, fun v' L H1 g1 hR1 hL hl => ?_⟩
    obtain ⟨q4, q5⟩ := q3 L hL hl
    obtain ⟨P0, hP0, eb⟩ := hB
    have hr := primesN_range P0 hP0
    have hs := ok.short
    rw [eb, Int.toNat_natCast] at q4 q5
    obtain ⟨a1, r1, s1, rfl, hA1, hRu1, hS1⟩ := id hR1
    have lR : ((shortR r L).rule.map V.int).length = L.length - 1 := by
      rw [List.length_map]; exact Pm.ruleOf_len ..
    refine ⟨_, rfl, _, _, .inr (SqT.of (g1 _ _ hA)), rfl, _, rfl, _, _, .inr (SqT.of hA1), rfl, .ref r1, L.length - 1, rfl, .inr ⟨_, SqT.of hRu1, lR.symm⟩, ?_⟩
    refine ⟨P0, L.length - 1, by rw [eb]; rfl, by omega, by omega, fun hw => ?_, fun hw => q4 hw _ g1⟩
    exact ⟨_, rfl, q5 hw _ _ g1 hR1⟩
theorem ok_came_round (B : Bt mg) (F : Fn K mg "came_round" s_came_round ["row"]) (M : Ms K mg base A_NoBy A_RuleError A_TooLong) (C_next_place : Cal P w K mg base "next_place" 2 ["by", "rule", "before"] (spNext K)) : Cal P w K mg base "came_round" 3 ["row"] spCame := by
  refine F.cal sc_came_round (fun vs H Q E h => ?_) (fun f cdv A outer s H vs Q E hr h => ?_)
  · obtain ⟨v, r, rfl, _⟩ := h; rfl
  · obtain ⟨v, r, rfl, ⟨a, p, p2, rfl, hA, hR, hS⟩, ok, hb, hw, q⟩ := h
    refine ⟨_, (pss_cons (ps_set (i := 1) sc_came_round.nd rfl (Or.inl rfl) (pe_ix (xix K) (pv 0) pe_int (fun _ _ => rfl)))
      (pss_cons (ps_set (i := 2) sc_came_round.nd rfl (Or.inl rfl) (pe_ix (xix K) (pv 0) pe_int (fun _ _ => rfl)))
      (pss_cons (ps_set (i := 3) sc_came_round.nd rfl (Or.inl rfl) (pe_bar (pe_ix (xix K) (pv 0) pe_int (fun _ _ => rfl))))
      (pss_cons (ps_set (i := 4) sc_came_round.nd rfl (Or.inl rfl) pe_dnewT)
      (pss_cons (ps_while PassesOwn.never (pt_cmp (pc_dnotin hr.hu (pv 3) (pv 4)))
      (pss_cons (ps_dput hr.hu (pv 4) (pv 3) (pe_callB call_lenT rfl B.b_len boot_len (pa_n (pv 4) pa_nil)) rfl)
      (pss_one (ps_set (i := 3) sc_came_round.nd rfl (Or.inl rfl) (pe_bar (pe_slice (xsl K) (pe_op (xadd K) (pv 3) (pe_tup (pa_cons (pe_callC C_next_place hr rfl (pa_n (pv 1) (pa_n (pv 2) (pa_n (pv 3) pa_nil)))) pa_nil))) (po_some pe_int) po_none))))))
      (pss_cons (ps_set (i := 5) sc_came_round.nd rfl (Or.inl rfl) (pe_dget hr.hu (pv 4) (pv 3) (fun _ _ => rfl)))
      (pss_one (ps_ret (pe_tup (pa_n (pv 5) (pa_b (pe_op op_sub (pe_callB call_lenT rfl B.b_len boot_len (pa_n (pv 4) pa_nil)) (pv 5)) pa_nil))))))))))), ?_⟩
    have hl := ok.len
    have hs := ok.short
    refine ⟨_, rfl, _, _, .inr (SqT.of hA), rfl, ?_⟩
    refine ⟨_, rfl, _, _, .inr (SqT.of hA), rfl, ?_⟩
    refine Bar.by (fun v H1 => v = .ref p2 ∧ H = H1) (fun kk hkk => ⟨_, rfl, _, _, .inr (SqT.of hA), rfl, hkk _ _ ⟨rfl, rfl⟩⟩) ?_
    rintro _ _ ⟨rfl, rfl⟩
    refine fun sd hsd => ?_
    have g0 := Same.new hsd (.dT [])
    have w0 : Pm.win r.at r.rule.length 0 = r.starts := by
      refine Pm.co_ext (by rw [Pm.win_len]; exact hl) fun k => ?_
      by_cases c : k < r.rule.length
      · exact (Pm.win_get _ c).trans (by rw [Nat.zero_add]; exact Rm.at_lt (by omega))
      · rw [Pm.co_ge (by rw [Pm.win_len]; omega), Pm.co_ge (by omega)]
    have hrng : ∀ i, 0 ≤ r.at i ∧ r.at i < ((r.b.toNat : Nat) : Int) := fun i => by
      rw [Int.toNat_of_nonneg (by omega)]
      refine Rm.at_range hl hb (fun x hx => ?_) i
      rcases ok.startsNum x hx with z | z
      · omega
      · exact z
    refine ⟨fun m σ' H' => ∃ (n : Nat) (wa : Addr) (kvs : List (List Key × V)), m = 4096 - n ∧ n ≤ 4096 ∧ σ' = [some (.ref a), some (.int r.b), some (.ref p), some (.ref wa), some (.ref sd), none] ∧ Same H H' ∧ H' wa = some (.tup ((Pm.win r.at r.rule.length n).map V.int)) ∧ H' sd = some (.dT kvs) ∧ Seen r.at r.rule.length n kvs,
      ⟨_, 0, p2, [], rfl, by decide, rfl, g0, by rw [w0]; exact g0 _ _ hS, upd_same, ⟨rfl, fun i hi => absurd hi (Nat.not_lt_zero _), fun _ _ => rfl, fun i j _ hj => absurd hj (Nat.not_lt_zero _)⟩⟩, ?_⟩
    rintro m σ' H' ⟨n, wa, kvs, rfl, hn, rfl, g, hwa, hkv, sn⟩
    have hwk : H' wa = some (.tup ((KK (Pm.win r.at r.rule.length n)).map kV)) := by rw [KK_map]; exact hwa
    refine ⟨_, rfl, _, rfl, sd, _, rfl, DGet.t hkv hwk, _, rfl, ?_⟩
    refine ite2 (fun c => ?_) (fun c => ?_)
    · have hnone : valV kvs (KK (Pm.win r.at r.rule.length n)) = none := by
        cases e : valV kvs (KK (Pm.win r.at r.rule.length n)) with
        | none => rfl
        | some u => rw [e] at c; exact absurd c (by simp)
      have sn' := sn.more hnone
      have hn1 : n + 1 ≤ 4096 := Nat.le_trans (Pm.win_most hrng sn'.diff) hw
      refine ⟨_, fun _ _ z => z, ?_⟩
      refine ⟨_, rfl, sd, kvs, rfl, hkv, _, rfl, _, rfl, sd, _, rfl, DPut.t hkv hwk (by rw [sn.len]; exact Nat.lt_of_le_of_lt hn (by decide)), ?_⟩
      rw [sn.len]
      have hne : wa ≠ sd := fun z => by rw [z, hkv] at hwa; cases hwa
      have fsd : H sd = none := hsd
      have g2 : Same H (upd H' sd (.dT (putK kvs (KK (Pm.win r.at r.rule.length n)) (.int (n : Int))))) := g.upd fsd _
      have hwa2 : (upd H' sd (.dT (putK kvs (KK (Pm.win r.at r.rule.length n)) (.int (n : Int))))) wa = some (.tup ((Pm.win r.at r.rule.length n).map V.int)) := by rw [upd_ne hne]; exact hwa
      have hkv2 : (upd H' sd (.dT (putK kvs (KK (Pm.win r.at r.rule.length n)) (.int (n : Int))))) sd = some (.dT (putK kvs (KK (Pm.win r.at r.rule.length n)) (.int (n : Int)))) := upd_same
      generalize upd H' sd (.dT (putK kvs (KK (Pm.win r.at r.rule.length n)) (.int (n : Int)))) = H2 at g2 hwa2 hkv2
      have wl := Pm.win_len r.at r.rule.length n
      have bw : ∀ x ∈ Pm.win r.at r.rule.length n, Rm.Bd 2100000 x := fun x hx => by
        obtain ⟨j, _, rfl⟩ := List.mem_map.mp hx
        have := hrng (n + j)
        exact (tk_bdD' ok.by1 this.1 (by have := this.2; rw [Int.toNat_of_nonneg (by omega)] at this; exact this)).mono (by decide)
      have ev : Rm.tk r.b (Rm.S r.rule (fun i => (Pm.win r.at r.rule.length n).getD i 0) (Pm.win r.at r.rule.length n).length r.rule.length) = r.at (n + r.rule.length) := by
        rw [wl]
        have e1 : r.at (n + r.rule.length) = Rm.tk r.b (Rm.S r.rule r.at (n + r.rule.length) r.rule.length) := Rm.at_ge hl (by omega)
        rw [e1, ← Rm.S_shift (f := r.at) (d := n) (Nat.le_refl _)]
        refine congrArg _ (Rm.S_congr fun k hk => ?_)
        exact Pm.win_get _ (by omega)
      refine Bar.by (fun v H1 => ∃ w1, v = .ref w1 ∧ Same H2 H1 ∧ H1 w1 = some (.tup ((Pm.win r.at r.rule.length (n + 1)).map V.int))) (fun kk hkk => ?_) ?_
      · refine ⟨_, rfl, _, rfl, _, rfl, _, rfl, r.b, p, wa, r.rule, Pm.win r.at r.rule.length n, rfl, ok.by0, SqT.of (g2 _ _ hR), .inr (SqT.of hwa2), by rw [wl]; exact Nat.le_refl _, hs, by rw [wl]; omega, ok.ruleBd, bw, ?_⟩
        rw [ev]
        refine ⟨(by show 1 ≤ sizeLine; decide), fun t1 ht1 => ?_⟩
        have g3 := Same.new ht1 (.tup [.int (r.at (n + r.rule.length))])
        have h3 : (upd H2 t1 (.tup [.int (r.at (n + r.rule.length))])) t1 = some (.tup [.int (r.at (n + r.rule.length))]) := upd_same
        have hwa3 := g3 _ _ hwa2
        generalize upd H2 t1 (.tup [.int (r.at (n + r.rule.length))]) = H3 at g3 h3 hwa3
        have ecut : cutV ((Pm.win r.at r.rule.length n).map V.int ++ [.int (r.at (n + r.rule.length))]) (some 1) none = (Pm.win r.at r.rule.length (n + 1)).map V.int := by
          have := cut_from ((Pm.win r.at r.rule.length n).map V.int ++ [.int (r.at (n + r.rule.length))]) (k := 1) (by rw [List.length_append]; simp)
          rw [← Pm.win_next, List.map_drop, List.map_append]
          exact this
        have lc : ((Pm.win r.at r.rule.length n).map V.int ++ [V.int (r.at (n + r.rule.length))]).length = r.rule.length + 1 := by rw [List.length_append, List.length_map, wl]; rfl
        refine .inr ⟨_, _, SqT.of hwa3, SqT.of h3, ?_, fun e => ?_, fun _ z => (by cases z), fun e _ p4 hp4 => ?_⟩
        · rw [List.length_map, wl]
          exact Nat.le_of_lt (small1000 (by show r.rule.length + 1 ≤ 1000; omega))
        · rw [e, List.nil_append] at ecut lc
          refine ⟨_, rfl, .inr (.inl ⟨_, SqT.of h3, ?_, fun p5 hp5 => ?_⟩)⟩
          · rw [lc]
            show ¬ (HT.sIx (r.rule.length + 1) 0 (some ((1 : Nat) : Int)) = 0 ∧ _)
            rw [HT.sIx_nat]; omega
          · exact hkk _ _ ⟨p5, rfl, g3.trans (Same.new hp5 _), by rw [upd_same, ecut]⟩
        · have g4 := Same.new hp4 (.tup ((Pm.win r.at r.rule.length n).map V.int ++ [.int (r.at (n + r.rule.length))]))
          refine ⟨_, rfl, .inr (.inl ⟨_, SqT.of upd_same, ?_, fun p5 hp5 => ?_⟩)⟩
          · rw [lc]
            show ¬ (HT.sIx (r.rule.length + 1) 0 (some ((1 : Nat) : Int)) = 0 ∧ _)
            rw [HT.sIx_nat]; omega
          · exact hkk _ _ ⟨p5, rfl, g3.trans (g4.trans (Same.new hp5 _)), by rw [upd_same, ecut]⟩
      · rintro _ H4 ⟨w1, rfl, g4, hw1⟩
        exact ⟨4096 - (n + 1), by omega, n + 1, w1, _, rfl, hn1, rfl, g2.trans g4, hw1, g4 _ _ hkv2, sn'⟩
    · obtain ⟨i, hi, ei⟩ : ∃ i, i < n ∧ Pm.win r.at r.rule.length n = Pm.win r.at r.rule.length i := by
        refine Classical.byContradiction fun hno => c ?_
        rw [sn.out _ fun i hi z => hno ⟨i, hi, KK_inj z⟩]; rfl
      have hv : valV kvs (KK (Pm.win r.at r.rule.length n)) = some (.int (i : Int)) := by rw [ei]; exact sn.at_ i hi
      have hg := DGet.t hkv hwk
      rw [hv] at hg
      refine ⟨_, rfl, _, rfl, sd, _, rfl, hg, ?_⟩
      refine ⟨_, rfl, _, rfl, sd, kvs, rfl, hkv, _, rfl, _, _, rfl, rfl, ?_⟩
      rw [sn.len]
      refine ⟨(by show 2 ≤ sizeLine; decide), fun p6 hp6 => ?_⟩
      refine q i (n - i) p6 _ (g.trans (Same.new hp6 _)) ?_ ⟨by omega, ?_, fun x y hxy hy => sn.diff x y hxy (by omega)⟩
      · rw [upd_same]
        show some (HO.tup [.int (i : Int), .int ((n : Int) - (i : Int))]) = _
        rw [show (n : Int) - (i : Int) = ((n - i : Nat) : Int) by omega]
      · rw [show i + (n - i) = n by omega]; exact ei
theorem ok_where (B : Bt mg) (F : Fn K mg "where" s_where ["row", "number"]) (M : Ms K mg base A_NoBy A_RuleError A_TooLong) (C_round_row : Cal P w K mg base "round_row" 10 ["row"] (spRoundRow A_NoBy A_TooLong)) (C_came_round : Cal P w K mg base "came_round" 3 ["row"] spCame) (C_first_places : Cal P w K mg base "first_places" 3 ["row", "count"] (spFirst K)) : Cal P w K mg base "where" 12 ["row", "number"] (spWhere A_NoBy A_TooLong) := by
  refine F.calF sc_where (fun vs H Q E h => ?_) (fun f cdv A outer s H vs Q E hr h => ?_)
  · obtain ⟨v, r, x, rfl, _⟩ := h; rfl
  · obtain ⟨v, r, x, rfl, hR, ok, q1, q2⟩ := h
    refine ⟨_, (pss_cons (ps_set (i := 2) sc_where.nd rfl (Or.inl rfl) (pe_callCF C_round_row hr rfl (pa_n (pv 0) pa_nil)))
      (pss_cons (ps_set (i := 3) sc_where.nd rfl (Or.inl rfl) (pe_callC C_came_round hr rfl (pa_n (pv 2) pa_nil)))
      (pss_cons (ps_set (i := 4) sc_where.nd rfl (Or.inl rfl) (pe_ix (xix K) (pv 3) pe_int (fun _ _ => rfl)))
      (pss_cons (ps_set (i := 5) sc_where.nd rfl (Or.inl rfl) (pe_ix (xix K) (pv 3) pe_int (fun _ _ => rfl)))
      (pss_cons (ps_set (i := 6) sc_where.nd rfl (Or.inr rfl) (pe_callC C_first_places hr rfl (pa_n (pv 2) (pa_b (pe_op (xadd K) (pv 4) (pv 5)) pa_nil))))
      (pss_cons (ps_setC (i := 7) (hN := sc_where.nd) (hi' := rfl) (hx := (Or.inl rfl)) (sc := cs_where1) (N := ["n", "number", "numbers"]) (ix := [none, some 1, some 6]) (comp_mk (by kernel_rfl) (by kernel_rfl) (by kernel_rfl) (by kernel_rfl) (by kernel_rfl) (by kernel_rfl) (by kernel_rfl) (by kernel_rfl)) rfl (pi_range1 rfl B.b_range (pa_n (pv 4) pa_nil)) (fun cl C s₀ H₀ ex => ⟨(pg_name (i := 0) (show (["n", "number", "numbers"] : List Str).Nodup by decide +kernel) rfl (Or.inl rfl)), (pif_one (pt_cmpR (xeq K hr) (pe_ix (xix K) (pv 2) (pv 0) (fun _ _ => rfl)) (pv 1) (nomark _))), (pv 0)⟩))
      (pss_cons (ps_setC (i := 8) (hN := sc_where.nd) (hi' := rfl) (hx := (Or.inl rfl)) (sc := cs_where2) (N := ["n", "number", "numbers"]) (ix := [none, some 1, some 6]) (comp_mk (by kernel_rfl) (by kernel_rfl) (by kernel_rfl) (by kernel_rfl) (by kernel_rfl) (by kernel_rfl) (by kernel_rfl) (by kernel_rfl)) rfl (pi_range2 rfl B.b_range (pa_n (pv 4) (pa_b (pe_op (xadd K) (pv 4) (pv 5)) pa_nil))) (fun cl C s₀ H₀ ex => ⟨(pg_name (i := 0) (show (["n", "number", "numbers"] : List Str).Nodup by decide +kernel) rfl (Or.inl rfl)), (pif_one (pt_cmpR (xeq K hr) (pe_ix (xix K) (pv 2) (pv 0) (fun _ _ => rfl)) (pv 1) (nomark _))), (pv 0)⟩))
      (pss_one (ps_ret (pe_tup (pa_n (pv 7) (pa_n (pv 8) (pa_n (pv 5) pa_nil))))))))))))), ?_⟩
    refine ⟨_, rfl, v, r, rfl, hR, ok, q1, fun hb => ⟨(q2 hb).1, fun L hL hl => ⟨((q2 hb).2 L hL hl).1, fun hw v' H1 g1 hR1 => ?_⟩⟩⟩
    have q3 := ((q2 hb).2 L hL hl).2 hw
    have hB := (q2 hb).1
    have h0 := ok.by0
    have le : (shortR r L).rule.length = L.length - 1 := Pm.ruleOf_len ..
    have e : (shortR r L).at = r.at := funext fun n => shortR_at ok.at_tk hL (by have := ok.len; omega) n
    have okS := shortR_ok ok hB hL hl
    refine ⟨_, rfl, v', shortR r L, rfl, hR1, okS, (by show 0 < r.b; omega), by rw [le]; exact hw, fun bg ln p H2 g2 hp hRd => ?_⟩
    rw [e, le] at hRd
    have hrng : ∀ i, 0 ≤ r.at i ∧ r.at i < ((r.b.toNat : Nat) : Int) := fun i => by
      rw [Int.toNat_of_nonneg (by omega)]
      refine Rm.at_range ok.len (by omega) (fun x hx => ?_) i
      rcases ok.startsNum x hx with z | z
      · omega
      · exact z
    have hbl : bg + ln ≤ 4096 := Nat.le_trans (Pm.win_most (l := L.length - 1) hrng hRd.first) hw
    refine ⟨_, rfl, _, _, .inr (SqT.of hp), rfl, ?_⟩
    refine ⟨_, rfl, _, _, .inr (SqT.of hp), rfl, ?_⟩
    refine ⟨_, rfl, _, rfl, _, rfl, v', shortR r L, _, rfl, hR1.same g2, okS, (by show 0 < r.b; omega), (by omega : (0 : Int) ≤ (bg : Int) + (ln : Int)), (by omega : (bg : Int) + (ln : Int) ≤ 4096), fun l H3 g3 hl3 hr3 => ?_⟩
    have er : (shortR r L).row (((bg : Int) + (ln : Int)).toNat) = (List.range (bg + ln)).map r.at := by
      have e1 : (shortR r L).row (((bg : Int) + (ln : Int)).toNat) = (List.range (((bg : Int) + (ln : Int)).toNat)).map (shortR r L).at := Rm.row_eq ..
      rw [e1, e, show ((bg : Int) + (ln : Int)).toNat = bg + ln by omega]
    rw [er] at hr3
    obtain ⟨nu, hnu⟩ : ∃ nu : List Int, nu = (List.range (bg + ln)).map r.at := ⟨_, rfl⟩
    rw [← hnu] at hr3
    have lnu : nu.length = bg + ln := by rw [hnu, List.length_map, List.length_range]
    have gnu : ∀ i, i < bg + ln → nu.getD i 0 = r.at i := fun i hi => by
      rw [hnu, List.getD_eq_getElem?_getD, List.getElem?_map, List.getElem?_range hi]; rfl
    have gA := g1.trans (g2.trans g3)
    refine ⟨_, rfl, (bg : Int), rfl, (by omega : -(2 ^ 62) ≤ (bg : Int)), (by omega : (bg : Int) < 2 ^ 62), ?_⟩
    rw [Int.toNat_natCast]
    refine comp_rngW (lo := 0) (Nat.le_trans (show bg ≤ 4096 by omega) (by decide)) rfl (atIs r.at x) ?_ ?_ ?_
    · intro H5 k g5 hk kk hkk
      refine ⟨_, rfl, _, rfl, _, _, .inl (SqL.of (g5 _ _ hr3)), atI_ints (ns := nu) (by omega : (0 : Int) ≤ ((0 : Nat) : Int) + (k : Int)) (by omega), _, rfl, _, rfl, ?_⟩
      rw [show (((0 : Nat) : Int) + (k : Int)).toNat = 0 + k by omega, gnu _ (by omega)]
      exact hkk
    · intro H5 k g5 hk kk hkk
      exact ⟨_, rfl, hkk⟩
    intro D1 hD1
    have g4 := Same.new hD1 (.lst ((whr (atIs r.at x) 0 bg).map V.int))
    have h4 : (upd H3 D1 (.lst ((whr (atIs r.at x) 0 bg).map V.int))) D1 = some (.lst ((whr (atIs r.at x) 0 bg).map V.int)) := upd_same
    have hr4 := g4 _ _ hr3
    have fD1 := gA.free hD1
    generalize upd H3 D1 (.lst ((whr (atIs r.at x) 0 bg).map V.int)) = H4 at g4 h4 hr4
    refine ⟨_, rfl, _, rfl, _, rfl, _, _, rfl, ⟨(by omega : -(2 ^ 62) ≤ (bg : Int)), (by omega : (bg : Int) < 2 ^ 62), (by omega : -(2 ^ 62) ≤ (bg : Int) + (ln : Int)), (by omega : (bg : Int) + (ln : Int) < 2 ^ 62)⟩, ?_⟩
    rw [show ((bg : Int) + (ln : Int) - (bg : Int)).toNat = ln by omega]
    refine comp_rngW (Nat.le_trans (show ln ≤ 4096 by omega) (by decide)) rfl (atIs r.at x) ?_ ?_ ?_
    · intro H5 k g5 hk kk hkk
      refine ⟨_, rfl, _, rfl, _, _, .inl (SqL.of (g5 _ _ hr4)), atI_ints (ns := nu) (by omega : (0 : Int) ≤ (bg : Int) + (k : Int)) (by omega), _, rfl, _, rfl, ?_⟩
      rw [show ((bg : Int) + (k : Int)).toNat = bg + k by omega, gnu _ (by omega)]
      exact hkk
    · intro H5 k g5 hk kk hkk
      exact ⟨_, rfl, hkk⟩
    intro D2 hD2
    have g5 := Same.new hD2 (.lst ((whr (atIs r.at x) bg ln).map V.int))
    have h5 : (upd H4 D2 (.lst ((whr (atIs r.at x) bg ln).map V.int))) D2 = some (.lst ((whr (atIs r.at x) bg ln).map V.int)) := upd_same
    have fD2 := (gA.trans g4).free hD2
    have ne : D1 ≠ D2 := fun z => by rw [← z, h4] at hD2; cases hD2
    have h4' := g5 _ _ h4
    generalize upd H4 D2 (.lst ((whr (atIs r.at x) bg ln).map V.int)) = H5 at g5 h5 h4'
    refine ⟨_, rfl, _, rfl, _, rfl, (by show 3 ≤ sizeLine; decide), fun p9 hp9 => ?_⟩
    have g6 := Same.new hp9 (.tup [.ref D1, .ref D2, .int (ln : Int)])
    exact q3 bg ln p9 D1 D2 _ (gA.trans (g4.trans (g5.trans g6))) hRd hbl upd_same (g6 _ _ h4') (g6 _ _ h5) fD1 fD2 ne
theorem ok_Lat (B : Bt mg) (F : Fn K mg "_law_at" s_Lat ["_law_script", "_law_k"]) (M : Ms K mg base A_NoBy A_RuleError A_TooLong) : Cal P w K mg base "_law_at" 1 ["_law_script", "_law_k"] (spCellG K) := by
  refine F.cal sc_Lat (fun vs H Q E h => ?_) (fun f cdv A outer s H vs Q E hr h => ?_)
  · obtain ⟨a, ns, k, rfl, _⟩ := h; rfl
  · obtain ⟨a, ns, k, rfl, hS, h0, h1, q⟩ := h
    refine ⟨_, (pss_cons (ps_if (pt_cmpR op_lt (pv 1) (pe_callB (xlen K) rfl B.b_len boot_len (pa_n (pv 0) pa_nil)) (nomark _))
      (pss_one (ps_ret (pe_ix (xix K) (pv 0) (pv 1) (fun _ _ => rfl))))
      pss_nil)
      (pss_cons (ps_set (i := 2) sc_Lat.nd rfl (Or.inl rfl) (pe_op (xadd K) pe_int (pe_op v_mul (pe_op v_mul pe_int (pv 1)) (pv 1))))
      (pss_cons (ps_bar (ps_if (pt_cmpR op_gt (pe_callB (xlen K) rfl B.b_len boot_len (pa_n (pv 0) pa_nil)) pe_int (nomark _))
      (pss_one (ps_set (i := 2) sc_Lat.nd rfl (Or.inl rfl) (pe_op (xadd K) (pv 2) (pe_op v_mul (pe_op op_mod (pe_ix (xix K) (pv 0) (pe_op op_mod (pv 1) (pe_callB (xlen K) rfl B.b_len boot_len (pa_n (pv 0) pa_nil))) (fun _ _ => rfl)) pe_int) (pe_op (xadd K) (pe_op op_fdiv (pv 1) (pe_callB (xlen K) rfl B.b_len boot_len (pa_n (pv 0) pa_nil))) pe_int)))))
      pss_nil))
      (pss_one (ps_ret (pe_op op_mod (pe_op v_mul (pv 2) pe_int) pe_int)))))), ?_⟩
    have hl : (ns.map V.int).length = ns.length := List.length_map _
    refine ⟨_, rfl, _, rfl, .ref a, ns.length, rfl, .inl ⟨_, hS, hl.symm⟩, _, _, rfl, rfl, _, rfl, ?_⟩
    refine ite2 (fun c => ?_) (fun c => ?_)
    · have c' : k < (ns.length : Int) := dec_true c
      exact ⟨_, rfl, _, rfl, ns.map V.int, .int (ns.getD k.toNat 0), .inl hS, atI_ints h0 c', q _⟩
    · have c' : ¬ k < (ns.length : Int) := dec_false c
      have k2 : k * k ≤ 1000 * 1000 := Int.mul_le_mul h1 h1 h0 (by decide)
      have k0 : 0 ≤ k * k := Int.mul_nonneg h0 h0
      refine ⟨_, rfl, mulL (by decide) (by decide), _, rfl, mulR (by omega) (by omega), ?_⟩
      refine BarS.by (fun σ' H' => ∃ m : Int, σ' = [some (.ref a), some (.int k), some (.int m)] ∧ H = H') (fun N hN => ?_) ?_
      · refine ⟨_, rfl, .ref a, ns.length, rfl, .inl ⟨_, hS, hl.symm⟩, _, _, rfl, rfl, _, rfl, ?_⟩
        refine ite2 (fun d => ?_) (fun d => hN _ _ ⟨_, rfl, rfl⟩)
        have d' : (0 : Int) < (ns.length : Int) := dec_true d
        have m0 := emod_lo k d'
        have m1 := emod_hi k d'
        refine ⟨_, rfl, _, rfl, _, rfl, _, rfl, .ref a, ns.length, rfl, .inl ⟨_, hS, hl.symm⟩, _, _, rfl, rfl, d', _, _, .inl hS, atI_ints m0 m1, ?_⟩
        refine ⟨_, _, rfl, rfl, (by decide : (0 : Int) < 1000133), ?_⟩
        refine ⟨_, rfl, _, rfl, .ref a, ns.length, rfl, .inl ⟨_, hS, hl.symm⟩, _, _, rfl, rfl, ⟨d', by show (ns.length : Int) < 1073741824; omega⟩, ?_⟩
        have n0 := emod_lo (ns.getD (k % (ns.length : Int)).toNat 0) (show (0 : Int) < 1000133 by decide)
        have n1 := emod_hi (ns.getD (k % (ns.length : Int)).toNat 0) (show (0 : Int) < 1000133 by decide)
        exact ⟨mulL (by omega) (by omega), hN _ _ ⟨_, rfl, rfl⟩⟩
      · rintro _ _ ⟨m, rfl, rfl⟩
        refine ⟨_, rfl, mulR (by decide) (by decide), _, _, rfl, rfl, (by decide : (0 : Int) < 2147483647), q _⟩
theorem ok_Lwhole (B : Bt mg) (F : Fn K mg "_law_whole" s_Lwhole ["_law_found"]) (M : Ms K mg base A_NoBy A_RuleError A_TooLong) : Cal P w K mg base "_law_whole" 1 ["_law_found"] spLWhole := by
  refine F.cal sc_Lwhole (fun vs H Q E h => ?_) (fun f cdv A outer s H vs Q E hr h => ?_)
  · obtain ⟨i, rfl, _⟩ := h; rfl
  · obtain ⟨i, rfl, q⟩ := h
    refine ⟨_, (pss_one (ps_ret (pe_and (pe_callB v_isinstance rfl B.b_isinstance boot_isinstance (pa_n (pv 0) (pa_n (pe_tyB rfl B.b_int boot_int) pa_nil))) (pe_one (pe_not (pe_callB v_isinstance rfl B.b_isinstance boot_isinstance (pa_n (pv 0) (pa_n (pe_tyB rfl B.b_bool boot_bool) pa_nil)))))))), ?_⟩
    refine ⟨_, rfl, .int i, "int", "int", rfl, rfl, by simp, _, rfl, ?_⟩
    refine iteT ?_
    exact ⟨_, rfl, .int i, "bool", "int", rfl, rfl, by simp, _, rfl, q⟩
theorem ok_Lalike (B : Bt mg) (F : Fn K mg "_law_alike" s_Lalike ["_law_found", "_law_due"]) (M : Ms K mg base A_NoBy A_RuleError A_TooLong) (C_Lwhole : Cal P w K mg base "_law_whole" 1 ["_law_found"] spLWhole) : Cal P w K mg base "_law_alike" 5 ["_law_found", "_law_due"] (spRec (spAlike) 3) := by
  revert B
  refine fun B => nat_up (p := fun n => Cal P w K mg base "_law_alike" (n + 2) ["_law_found", "_law_due"] (spRec (spAlike) n)) (F.cal sc_Lalike (fun vs H Q E h => False.elim h) (fun f cdv A outer s H vs Q E hr h => False.elim h)) (fun n C_Lalike => ?_) 3
  refine F.cal sc_Lalike (fun vs H Q E h => ?_) (fun f cdv A outer s H vs Q E hr h => ?_)
  · obtain ⟨x, y, rfl, _⟩ := h; rfl
  · obtain ⟨x, y, rfl, hA, q⟩ := h
    refine ⟨_, (pss_cons (ps_if (pt_val (pe_callB v_isiT rfl B.b_isinstance boot_isinstance (pa_n (pv 1) (pa_t (pe_tup (pa_n (pe_tyB rfl B.b_list boot_list) (pa_n (pe_tyB rfl B.b_tuple boot_tuple) pa_nil))) pa_nil))))
      (pss_cons (ps_if (PW.pt (pw_or (pt_cmpR (xne K hr) (pe_callB v_isinstance rfl B.b_isinstance boot_isinstance (pa_n (pv 0) (pa_n (pe_tyB rfl B.b_list boot_list) pa_nil))) (pe_callB v_isinstance rfl B.b_isinstance boot_isinstance (pa_n (pv 1) (pa_n (pe_tyB rfl B.b_list boot_list) pa_nil))) (nomark _)) (pw_or1 (pt_cmpR (xne K hr) (pe_callB v_isinstance rfl B.b_isinstance boot_isinstance (pa_n (pv 0) (pa_n (pe_tyB rfl B.b_tuple boot_tuple) pa_nil))) (pe_callB v_isinstance rfl B.b_isinstance boot_isinstance (pa_n (pv 1) (pa_n (pe_tyB rfl B.b_tuple boot_tuple) pa_nil))) (nomark _)))))
      (pss_one (ps_ret pe_bl))
      pss_nil)
      (pss_one (ps_ret (pe_and (pe_cmpR (xeq K hr) (pe_callB (xlen K) rfl B.b_len boot_len (pa_n (pv 0) pa_nil)) (pe_callB (xlen K) rfl B.b_len boot_len (pa_n (pv 1) pa_nil)) (nomark _)) (pe_one (pe_callB (xall K rfl) rfl B.b_all boot_all (pa_cons (pe_comp (sc := cs_Lalike1) (N := ["_law_k", "_law_due", "_law_found"]) (ix := [none, some 1, some 0]) (comp_mk (by kernel_rfl) (by kernel_rfl) (by kernel_rfl) (by kernel_rfl) (by kernel_rfl) (by kernel_rfl) (by kernel_rfl) (by kernel_rfl)) rfl (pi_range1 rfl B.b_range (pa_cons (pe_callB (xlen K) rfl B.b_len boot_len (pa_n (pv 1) pa_nil)) pa_nil)) (fun cl C s₀ H₀ ex => ⟨(pg_name (i := 0) (show (["_law_k", "_law_due", "_law_found"] : List Str).Nodup by decide +kernel) rfl (Or.inl rfl)), pif_nil, (pe_callC (hk := by omega) C_Lalike hr rfl (pa_cons (pe_ix (xix K) (pv 2) (pv 0) (fun _ _ => rfl)) (pa_cons (pe_ix (xix K) (pv 1) (pv 0) (fun _ _ => rfl)) pa_nil)))⟩)) pa_nil)))))))
      pss_nil)
      (pss_one (ps_ret (pe_and (pe_callC (hk := by omega) C_Lwhole hr rfl (pa_n (pv 0) pa_nil)) (pe_one (pe_cmpR (xeq K hr) (pv 0) (pv 1) (nomark _))))))), ?_⟩
    have s2 : 2 ≤ sizeLine := by decide
    refine ⟨_, rfl, s2, fun p hp => ?_⟩
    have g0 := Same.new hp (.tup [.ty "list", .ty "tuple"])
    cases hA with
    | int _ i =>
      refine ⟨.int i, p, "int", rfl, upd_same, rfl, ?_⟩
      refine ⟨_, rfl, iteF ?_⟩
      refine ⟨_, rfl, i, rfl, ?_⟩
      refine ⟨_, rfl, iteT ?_⟩
      refine ⟨_, rfl, _, rfl, ?_⟩
      have := q _ g0
      rw [show (true : Bool) = id (decide (i = i)) by simp] at this
      exact this
    | @tup n' a b xs ys h1 h2 h3 h4 hch =>
      have tyA : ∀ {H' : Hp}, Same H H' → tyNm H' (.ref a) = some "tuple" := fun g => by simp only [tyNm, g _ _ h1]
      have tyB : ∀ {H' : Hp}, Same H H' → tyNm H' (.ref b) = some "tuple" := fun g => by simp only [tyNm, g _ _ h2]
      refine ⟨.ref b, p, "tuple", rfl, upd_same, tyB g0, ?_⟩
      refine ⟨_, rfl, iteT ?_⟩
      refine ⟨_, rfl, .ref a, "list", "tuple", rfl, tyA g0, by simp, _, rfl, .ref b, "list", "tuple", rfl, tyB g0, by simp, _, rfl, iteNS rfl ?_⟩
      refine ⟨_, rfl, .ref a, "tuple", "tuple", rfl, tyA g0, by simp, _, rfl, .ref b, "tuple", "tuple", rfl, tyB g0, by simp, _, rfl, iteNS rfl ?_⟩
      generalize upd H p (.tup [.ty "list", .ty "tuple"]) = H0 at g0
      refine ⟨_, rfl, .ref a, xs.length, rfl, .inr ⟨_, SqT.of (g0 _ _ h1), rfl⟩, _, rfl, .ref b, ys.length, rfl, .inr ⟨_, SqT.of (g0 _ _ h2), rfl⟩, ?_⟩
      refine ⟨_, rfl, ?_⟩
      rw [show id (decide ((xs.length : Int) = (ys.length : Int))) = true by simp [h3]]
      refine iteT ?_
      refine ⟨_, rfl, .ref b, ys.length, rfl, .inr ⟨_, SqT.of (g0 _ _ h2), rfl⟩, ?_⟩
      refine ⟨(ys.length : Int), rfl, (by omega : -(2 ^ 62) ≤ (ys.length : Int)), (by omega : (ys.length : Int) < 2 ^ 62), ?_⟩
      rw [Int.toNat_natCast]
      refine comp_val its_range (by rw [List.length_map, List.length_range]; exact Nat.le_of_lt (small1000 (by omega))) rfl (fun _ => .bl true) ?_ ?_
      · intro H1 x g1 hx k hk
        obtain ⟨j, hj, rfl⟩ := List.mem_map.mp hx
        have hj' := List.mem_range.mp hj
        have gg := g0.trans g1
        obtain ⟨x1, e1⟩ : ∃ x1, xs[j]? = some x1 := ⟨_, List.getElem?_eq_getElem (by omega)⟩
        obtain ⟨y1, e2⟩ : ∃ y1, ys[j]? = some y1 := ⟨_, List.getElem?_eq_getElem hj'⟩
        refine ⟨_, rfl, _, rfl, xs, x1, .inr (SqT.of (gg _ _ h1)), atI_len j (by omega) e1, ?_⟩
        refine ⟨_, rfl, _, rfl, ys, y1, .inr (SqT.of (gg _ _ h2)), atI_len j (by omega) e2, ?_⟩
        exact ⟨x1, y1, rfl, (hch j x1 y1 e1 e2).same gg, hk⟩
      · intro D H1 hD g1 hl
        have el : (((List.range ys.length).map fun i => V.int (0 + (i : Nat))).map fun _ => V.bl true) = (List.replicate ys.length true).map V.bl := by
          rw [List.map_map, List.map_replicate]
          show List.map (fun _ => V.bl true) (List.range ys.length) = _
          rw [List.map_const', List.length_range]
        rw [el] at hl
        refine ⟨D, List.replicate ys.length true, rfl, SqL.of hl, ?_⟩
        rw [show (List.replicate ys.length true).all id = true by simp]
        exact q _ (g0.trans g1)
    | @lst n' a b xs ys h1 h2 h3 h4 hch =>
      have tyA : ∀ {H' : Hp}, Same H H' → tyNm H' (.ref a) = some "list" := fun g => by simp only [tyNm, g _ _ h1]
      have tyB : ∀ {H' : Hp}, Same H H' → tyNm H' (.ref b) = some "list" := fun g => by simp only [tyNm, g _ _ h2]
      refine ⟨.ref b, p, "list", rfl, upd_same, tyB g0, ?_⟩
      refine ⟨_, rfl, iteT ?_⟩
      refine ⟨_, rfl, .ref a, "list", "list", rfl, tyA g0, by simp, _, rfl, .ref b, "list", "list", rfl, tyB g0, by simp, _, rfl, iteNS rfl ?_⟩
      refine ⟨_, rfl, .ref a, "tuple", "list", rfl, tyA g0, by simp, _, rfl, .ref b, "tuple", "list", rfl, tyB g0, by simp, _, rfl, iteNS rfl ?_⟩
      generalize upd H p (.tup [.ty "list", .ty "tuple"]) = H0 at g0
      refine ⟨_, rfl, .ref a, xs.length, rfl, .inl ⟨_, SqL.of (g0 _ _ h1), rfl⟩, _, rfl, .ref b, ys.length, rfl, .inl ⟨_, SqL.of (g0 _ _ h2), rfl⟩, ?_⟩
      refine ⟨_, rfl, ?_⟩
      rw [show id (decide ((xs.length : Int) = (ys.length : Int))) = true by simp [h3]]
      refine iteT ?_
      refine ⟨_, rfl, .ref b, ys.length, rfl, .inl ⟨_, SqL.of (g0 _ _ h2), rfl⟩, ?_⟩
      refine ⟨(ys.length : Int), rfl, (by omega : -(2 ^ 62) ≤ (ys.length : Int)), (by omega : (ys.length : Int) < 2 ^ 62), ?_⟩
      rw [Int.toNat_natCast]
      refine comp_val its_range (by rw [List.length_map, List.length_range]; exact Nat.le_trans h4 (by decide)) rfl (fun _ => .bl true) ?_ ?_
      · intro H1 x g1 hx k hk
        obtain ⟨j, hj, rfl⟩ := List.mem_map.mp hx
        have hj' := List.mem_range.mp hj
        have gg := g0.trans g1
        obtain ⟨x1, e1⟩ : ∃ x1, xs[j]? = some x1 := ⟨_, List.getElem?_eq_getElem (by omega)⟩
        obtain ⟨y1, e2⟩ : ∃ y1, ys[j]? = some y1 := ⟨_, List.getElem?_eq_getElem hj'⟩
        refine ⟨_, rfl, _, rfl, xs, x1, .inl (SqL.of (gg _ _ h1)), atI_len j (by omega) e1, ?_⟩
        refine ⟨_, rfl, _, rfl, ys, y1, .inl (SqL.of (gg _ _ h2)), atI_len j (by omega) e2, ?_⟩
        exact ⟨x1, y1, rfl, (hch j x1 y1 e1 e2).same gg, hk⟩
      · intro D H1 hD g1 hl
        have el : (((List.range ys.length).map fun i => V.int (0 + (i : Nat))).map fun _ => V.bl true) = (List.replicate ys.length true).map V.bl := by
          rw [List.map_map, List.map_replicate]
          show List.map (fun _ => V.bl true) (List.range ys.length) = _
          rw [List.map_const', List.length_range]
        rw [el] at hl
        refine ⟨D, List.replicate ys.length true, rfl, SqL.of hl, ?_⟩
        rw [show (List.replicate ys.length true).all id = true by simp]
        exact q _ (g0.trans g1)
theorem ok_Lrow (B : Bt mg) (F : Fn K mg "_law_row" s_Lrow ["_law_script", "_law_at_here"]) (M : Ms K mg base A_NoBy A_RuleError A_TooLong) (C_Lat : Cal P w K mg base "_law_at" 1 ["_law_script", "_law_k"] (spCellG K)) : Cal P w K mg base "_law_row" 2 ["_law_script", "_law_at_here"] (spRowR K) := by
  refine F.cal sc_Lrow (fun vs H Q E h => ?_) (fun f cdv A outer s H vs Q E hr h => ?_)
  · obtain ⟨a, ns, st, rfl, _⟩ := h; rfl
  · obtain ⟨a, ns, st, rfl, hS, s0, s1, q⟩ := h
    refine ⟨_, (pss_cons (ps_set (i := 2) sc_Lrow.nd rfl (Or.inr rfl) (pe_ix (xix K) (pe_lst (pa_k pe_int (pa_k pe_int (pa_k pe_int (pa_k pe_int (pa_k pe_int (pa_k pe_int (pa_k pe_int (pa_k pe_int (pa_k pe_int (pa_k pe_int (pa_k pe_int (pa_k pe_int pa_nil))))))))))))) (pe_op op_mod (pe_callC C_Lat hr rfl (pa_n (pv 0) (pa_n (pv 1) pa_nil))) pe_int) (fun _ _ => rfl)))
      (pss_cons (ps_set (i := 3) sc_Lrow.nd rfl (Or.inl rfl) (pe_dget hr.hu (pe_disp (pps_cons pe_int pe_int (pps_cons pe_int pe_int (pps_cons pe_int pe_int (pps_cons pe_int pe_int (pps_cons pe_int pe_int (pps_cons pe_int pe_int (pps_cons pe_int pe_int (pps_cons pe_int pe_int (pps_cons pe_int pe_int (pps_cons pe_int pe_int pps_nil)))))))))) rfl rfl (List.cons_ne_nil _ _) (by decide)) (pv 2) (fun _ _ => rfl)))
      (pss_cons (ps_set (i := 4) sc_Lrow.nd rfl (Or.inl rfl) (pe_op op_mod (pe_op op_fdiv (pe_callC C_Lat hr rfl (pa_n (pv 0) (pa_n (pv 1) pa_nil))) pe_int) (pe_op (xadd K) (pv 3) pe_int)))
      (pss_cons (ps_bar (ps_if (pt_cmpR (xeq K hr) (pe_op op_mod (pe_op op_fdiv (pe_callC C_Lat hr rfl (pa_n (pv 0) (pa_n (pv 1) pa_nil))) pe_int) pe_int) pe_int (nomark _))
      (pss_one (ps_set (i := 4) sc_Lrow.nd rfl (Or.inl rfl) (pe_op (xadd K) pe_int (pe_op op_mod (pe_op op_fdiv (pe_callC C_Lat hr rfl (pa_n (pv 0) (pa_n (pv 1) pa_nil))) pe_int) pe_int))))
      pss_nil))
      (pss_cons (ps_setC (i := 5) (hN := sc_Lrow.nd) (hi' := rfl) (hx := (Or.inl rfl)) (sc := cs_Lrow1) (N := ["_law_k", "_law_at_here", "_law_script"]) (ix := [none, some 1, some 0]) (comp_mk (by kernel_rfl) (by kernel_rfl) (by kernel_rfl) (by kernel_rfl) (by kernel_rfl) (by kernel_rfl) (by kernel_rfl) (by kernel_rfl)) rfl (pi_range1 rfl B.b_range (pa_b (pe_op v_mul pe_int (pv 4)) pa_nil)) (fun cl C s₀ H₀ ex => ⟨(pg_name (i := 0) (show (["_law_k", "_law_at_here", "_law_script"] : List Str).Nodup by decide +kernel) rfl (Or.inl rfl)), pif_nil, (pe_callC C_Lat hr rfl (pa_n (pv 2) (pa_b (pe_op (xadd K) (pe_op (xadd K) (pv 1) pe_int) (pv 0)) pa_nil)))⟩))
      (pss_cons (ps_set (i := 6) sc_Lrow.nd rfl (Or.inl rfl) (pe_callTy (xtuple K) rfl B.b_tuple boot_tuple (pa_cons (pe_comp (sc := cs_Lrow2) (N := ["_law_cell", "_law_by"]) (ix := [none, some 2]) (comp_mk (by kernel_rfl) (by kernel_rfl) (by kernel_rfl) (by kernel_rfl) (by kernel_rfl) (by kernel_rfl) (by kernel_rfl) (by kernel_rfl)) rfl (xseq K (pe_slice (xsl K) (pv 5) po_none (po_some (pv 4)))) (fun cl C s₀ H₀ ex => ⟨(pg_name (i := 0) (show (["_law_cell", "_law_by"] : List Str).Nodup by decide +kernel) rfl (Or.inl rfl)), pif_nil, (pe_op v_mul (pe_op op_mod (pe_op op_fdiv (pv 0) pe_int) (pv 1)) (pe_callTy call_int1 rfl B.b_int boot_int (pa_cons (pe_cmpR op_lt (pe_op op_mod (pv 0) pe_int) pe_int (nomark _)) pa_nil)))⟩)) pa_nil)))
      (pss_one (ps_ret (pe_tup (pa_n (pv 2) (pa_n (pv 6) (pa_cons (pe_callTy (xtuple K) rfl B.b_tuple boot_tuple (pa_cons (pe_comp (sc := cs_Lrow3) (N := ["_law_cell", "_law_by"]) (ix := [none, some 2]) (comp_mk (by kernel_rfl) (by kernel_rfl) (by kernel_rfl) (by kernel_rfl) (by kernel_rfl) (by kernel_rfl) (by kernel_rfl) (by kernel_rfl)) rfl (xseq K (pe_slice (xsl K) (pv 5) (po_some (pv 4)) po_none)) (fun cl C s₀ H₀ ex => ⟨(pg_name (i := 0) (show (["_law_cell", "_law_by"] : List Str).Nodup by decide +kernel) rfl (Or.inl rfl)), pif_nil, (pe_op op_mod (pe_op op_fdiv (pv 0) pe_int) (pv 1))⟩)) pa_nil)) pa_nil)))))))))))), ?_⟩
    refine ⟨(by show 12 ≤ sizeLine; decide), fun p12 hp12 => ?_⟩
    have g1 := Same.new hp12 (.lst (brL.map V.int))
    refine ⟨_, rfl, _, rfl, a, ns, st, rfl, g1.seq hS, s0, by omega, fun c => ?_⟩
    have e0 := emod_lo c (show (0 : Int) < 12 by decide)
    have e1 := emod_hi c (show (0 : Int) < 12 by decide)
    refine ⟨_, _, rfl, rfl, (by decide : (0 : Int) < 12), _, _, .inl (SqL.of upd_same), atI_ints (ns := brL) e0 e1, ?_⟩
    obtain ⟨P0, m, hP0, hm, eb, ev⟩ := brL_ok (c % 12).toNat (by omega)
    rw [eb] at ev ⊢
    have eH : (upd H p12 (.lst [.int 2, .int 3, .int 5, .int 7, .int 13, .int 61, .int 2, .int 3, .int 997, .int 11, .int 17, .int 67])) = upd H p12 (.lst (brL.map V.int)) := rfl
    rw [eH]
    have hS1 := g1.seq hS
    generalize upd H p12 (.lst (brL.map V.int)) = H1 at g1 hS1
    have hPr := primesN_range P0 hP0
    refine fun pd hpd => ?_
    have hg : DGet (upd (upd H1 pd (.dK [])) pd (.dK (mergeK [] mkL))) pd (.int (P0 : Int)) (some (.int (m : Int))) := by
      have := DGet.k (H := upd (upd H1 pd (.dK [])) pd (.dK (mergeK [] mkL))) (k := .inl (P0 : Int)) upd_same
      rw [ev] at this; exact this
    refine ⟨upd_same, mkL, rfl, by decide, _, rfl, pd, .int (m : Int), rfl, hg, ?_⟩
    have gd : Same H1 (upd (upd H1 pd (.dK [])) pd (.dK (mergeK [] mkL))) := (Same.new hpd (.dK [])).upd hpd _
    have hS2 := gd.seq hS1
    generalize upd (upd H1 pd (.dK [])) pd (.dK (mergeK [] mkL)) = H2 at gd hS2
    refine ⟨_, rfl, _, rfl, a, ns, st, rfl, hS2, s0, by omega, fun c2 => ?_⟩
    refine ⟨_, _, rfl, rfl, ⟨by decide, by decide⟩, _, rfl, _, _, rfl, rfl, (by show (0 : Int) < (m : Int) + 1; omega), ?_⟩
    have f0 := emod_lo (c2 / 12) (show (0 : Int) < (m : Int) + 1 by omega)
    have f1 := emod_hi (c2 / 12) (show (0 : Int) < (m : Int) + 1 by omega)
    refine BarS.by (fun σ' H' => ∃ n : Nat, n ≤ 12 ∧ σ' = [some (.ref a), some (.int st), some (.int (P0 : Int)), some (.int (m : Int)), some (.int (n : Int)), none, none] ∧ H2 = H') (fun N hN => ?_) ?_
    · refine ⟨_, rfl, _, rfl, a, ns, st, rfl, hS2, s0, by omega, fun c3 => ?_⟩
      refine ⟨_, _, rfl, rfl, ⟨by decide, by decide⟩, _, _, rfl, rfl, (by decide : (0 : Int) < 7), _, rfl, ?_⟩
      refine ite2 (fun _ => ?_) (fun _ => ?_)
      · refine ⟨_, rfl, _, rfl, a, ns, st, rfl, hS2, s0, by omega, fun c4 => ?_⟩
        refine ⟨_, _, rfl, rfl, ⟨by decide, by decide⟩, _, _, rfl, rfl, (by decide : (0 : Int) < 11), ?_⟩
        have e0 := emod_lo (c4 / 1400) (show (0 : Int) < 11 by decide)
        have e1 := emod_hi (c4 / 1400) (show (0 : Int) < 11 by decide)
        exact hN _ _ ⟨(2 + c4 / 1400 % 11).toNat, by omega, by rw [Int.toNat_of_nonneg (by omega)]; rfl, rfl⟩
      · exact hN _ _ ⟨(c2 / 12 % ((m : Int) + 1)).toNat, by omega, by rw [Int.toNat_of_nonneg (by omega)]; rfl, rfl⟩
    rintro _ _ ⟨n, hn, rfl, rfl⟩
    refine ⟨_, rfl, mulL (by decide) (by decide), 2 * (n : Int), rfl, (by omega : -(2 ^ 62) ≤ 2 * (n : Int)), (by omega : 2 * (n : Int) < 2 ^ 62), ?_⟩
    rw [show (2 * (n : Int)).toNat = 2 * n by omega]
    refine comp_rngP (n := 2 * n) (by omega) rfl (fun _ => True) ?_ ?_
    · intro H3 k g3 hk kk hkk
      exact ⟨_, rfl, _, rfl, _, rfl, a, ns, _, rfl, g3.seq hS2, (by omega : (0 : Int) ≤ st + 1 + (0 + (k : Int))), by omega, fun c => hkk c _ (Same.refl _) trivial⟩
    intro D1 H3 cells hD1 g3 hc3 lc _
    -- the rule
    refine ⟨_, rfl, _, rfl, (n : Int), rfl, .inl ⟨_, SqL.of hc3, fun l1 hl1 => ?_⟩⟩
    rw [cut_to, ← List.map_take]
    have g4 := Same.new hl1 (.lst ((cells.take n).map V.int))
    have h4 : (upd H3 l1 (.lst ((cells.take n).map V.int))) l1 = some (.lst ((cells.take n).map V.int)) := upd_same
    have hc4 := g4 _ _ hc3
    generalize upd H3 l1 (.lst ((cells.take n).map V.int)) = H4 at g4 h4 hc4
    have hp0 : (0 : Int) < (P0 : Int) := by omega
    refine ⟨l1, rfl, .inl ⟨⟨_, SqL.of h4⟩, comp_lst h4 (by rw [List.length_take]; omega) rfl (fun c => c / 3 % (P0 : Int) * (if decide (c % 3 < 2) = true then 1 else 0)) ?_ ?_⟩⟩
    · intro H5 x g5 hx kk hk
      refine ⟨_, rfl, _, _, rfl, rfl, ⟨by decide, by decide⟩, _, rfl, _, _, rfl, rfl, hp0, ?_⟩
      refine ⟨_, rfl, _, _, rfl, rfl, (by decide : (0 : Int) < 3), _, _, rfl, rfl, .inr ⟨_, rfl, mulR ?_ ?_, hk⟩⟩
      · split <;> decide
      · split <;> decide
    intro D2 hD2
    refine ⟨D2, _, rfl, .inl ⟨SqL.of upd_same, fun t1 ht1 => ?_⟩⟩
    obtain ⟨ru, hru⟩ : ∃ ru : List Int, ru = (cells.take n).map fun c => c / 3 % (P0 : Int) * (if decide (c % 3 < 2) = true then 1 else 0) := ⟨_, rfl⟩
    rw [← hru]
    have g5 := (Same.new hD2 (.lst (ru.map V.int))).trans (Same.new (hru ▸ ht1) (.tup (ru.map V.int)))
    have h5 : (upd (upd H4 D2 (.lst (ru.map V.int))) t1 (.tup (ru.map V.int))) t1 = some (.tup (ru.map V.int)) := upd_same
    have hc5 := g5 _ _ hc4
    generalize upd (upd H4 D2 (.lst (ru.map V.int))) t1 (.tup (ru.map V.int)) = H5 at g5 h5 hc5
    -- the starts
    refine ⟨_, rfl, _, rfl, _, rfl, _, rfl, (n : Int), rfl, .inl ⟨_, SqL.of hc5, fun l2 hl2 => ?_⟩⟩
    rw [cut_from _ (by rw [List.length_map]; omega), ← List.map_drop]
    have g6 := Same.new hl2 (.lst ((cells.drop n).map V.int))
    have h6 : (upd H5 l2 (.lst ((cells.drop n).map V.int))) l2 = some (.lst ((cells.drop n).map V.int)) := upd_same
    have h56 := g6 _ _ h5
    generalize upd H5 l2 (.lst ((cells.drop n).map V.int)) = H6 at g6 h6 h56
    refine ⟨l2, rfl, .inl ⟨⟨_, SqL.of h6⟩, comp_lst h6 (by rw [List.length_drop]; omega) rfl (fun c => c / 5 % (P0 : Int)) ?_ ?_⟩⟩
    · intro H7 x g7 hx kk hk
      exact ⟨_, rfl, _, _, rfl, rfl, ⟨by decide, by decide⟩, _, rfl, _, _, rfl, rfl, hp0, hk⟩
    intro D3 hD3
    refine ⟨D3, _, rfl, .inl ⟨SqL.of upd_same, fun t2 ht2 => ?_⟩⟩
    obtain ⟨sta, hsta⟩ : ∃ sta : List Int, sta = (cells.drop n).map fun c => c / 5 % (P0 : Int) := ⟨_, rfl⟩
    rw [← hsta]
    have g7 := (Same.new hD3 (.lst (sta.map V.int))).trans (Same.new (hsta ▸ ht2) (.tup (sta.map V.int)))
    have h7 : (upd (upd H6 D3 (.lst (sta.map V.int))) t2 (.tup (sta.map V.int))) t2 = some (.tup (sta.map V.int)) := upd_same
    have h57 := g7 _ _ h56
    generalize upd (upd H6 D3 (.lst (sta.map V.int))) t2 (.tup (sta.map V.int)) = H7 at g7 h7 h57
    refine ⟨(by show 3 ≤ sizeLine; decide), fun pz hpz => ?_⟩
    have gz := Same.new hpz (.tup [.int (P0 : Int), .ref t1, .ref t2])
    have nru : ∀ x ∈ ru, 0 ≤ x ∧ x < (P0 : Int) := fun x hx => by
      rw [hru] at hx
      obtain ⟨c, _, rfl⟩ := List.mem_map.mp hx
      have a0 := emod_lo (c / 3) hp0
      have a1 := emod_hi (c / 3) hp0
      split
      · rw [Int.mul_one]; exact ⟨a0, a1⟩
      · rw [Int.mul_zero]; omega
    have nst : ∀ x ∈ sta, 0 ≤ x ∧ x < (P0 : Int) := fun x hx => by
      rw [hsta] at hx
      obtain ⟨c, _, rfl⟩ := List.mem_map.mp hx
      exact ⟨emod_lo _ hp0, emod_hi _ hp0⟩
    have bv : ∀ v : Int, 0 ≤ v ∧ v < (P0 : Int) → Rm.Bd 2000 v := fun v hv => (Rm.Bd.of (n := 10) (by omega) (by omega)).mono (by decide)
    have lru : ru.length = n := by rw [hru, List.length_map, List.length_take]; omega
    have lst : sta.length = n := by rw [hsta, List.length_map, List.length_drop]; omega
    exact q _ ⟨(P0 : Int), ru, sta⟩ _ (g1.trans (gd.trans (g3.trans (g4.trans (g5.trans (g6.trans (g7.trans gz))))))) ⟨pz, t1, t2, rfl, upd_same, gz _ _ h57, gz _ _ h7⟩ ⟨(by show ru.length = sta.length; omega), (by show ru.length ≤ 12; omega), (by show (0 : Int) ≤ (P0 : Int); omega), (Rm.Bd.of (n := 10) (by show -(2 ^ 10) < (P0 : Int); omega) (by show (P0 : Int) < 2 ^ 10; omega)).mono (by decide), fun x hx => .inr (nru x hx), fun x hx => .inr (nst x hx), fun x hx => bv x (nru x hx), fun x hx => bv x (nst x hx)⟩ ⟨P0, hP0, rfl⟩
theorem ok_Lround (B : Bt mg) (F : Fn K mg "_law_round" s_Lround ["_law_row_here"]) (M : Ms K mg base A_NoBy A_RuleError A_TooLong) : Cal P w K mg base "_law_round" 1 ["_law_row_here"] spLRound := by
  refine F.cal sc_Lround (fun vs H Q E h => ?_) (fun f cdv A outer s H vs Q E hr h => ?_)
  · obtain ⟨v, r, L, rfl, _⟩ := h; rfl
  · obtain ⟨v, r, L, rfl, ⟨a, p, p2, rfl, hA, hR, hS⟩, ok, hB, hL, hLl, hw, q⟩ := h
    refine ⟨_, (pss_cons (ps_asg (pv 0) (xgtup K (n := 3) rfl (pgs_cons (pg_name (i := 1) sc_Lround.nd rfl (Or.inl rfl)) (pgs_cons (pg_name (i := 2) sc_Lround.nd rfl (Or.inl rfl)) (pgs_cons (pg_name (i := 3) sc_Lround.nd rfl (Or.inl rfl)) pgs_nil)))))
      (pss_cons (ps_set (i := 4) sc_Lround.nd rfl (Or.inl rfl) pe_dnewT)
      (pss_cons (ps_set (i := 5) sc_Lround.nd rfl (Or.inl rfl) (pe_bar (pv 3)))
      (pss_cons (ps_set (i := 6) sc_Lround.nd rfl (Or.inl rfl) (pe_lst pa_nil))
      (pss_cons (ps_while PassesOwn.never (pt_cmp (pc_dnotin hr.hu (pv 5) (pv 4)))
      (pss_cons (ps_dput hr.hu (pv 4) (pv 5) (pe_callB call_lenT rfl B.b_len boot_len (pa_n (pv 4) pa_nil)) rfl)
      (pss_cons (ps_set (i := 7) sc_Lround.nd rfl (Or.inl rfl) pe_int)
      (pss_cons (ps_for PassesOwn.never rfl (pi_range1 rfl B.b_range (pa_cons (pe_callB (xlen K) rfl B.b_len boot_len (pa_n (pv 2) pa_nil)) pa_nil)) (pg_name (i := 8) sc_Lround.nd rfl (Or.inl rfl))
      (pss_one (ps_set (i := 7) sc_Lround.nd rfl (Or.inl rfl) (pe_op (xadd K) (pv 7) (pe_op v_mul (pe_ix (xix K) (pv 2) (pv 8) (fun _ _ => rfl)) (pe_ix (xix K) (pv 5) (pe_op op_sub (pe_op op_sub (pe_callB (xlen K) rfl B.b_len boot_len (pa_n (pv 2) pa_nil)) pe_int) (pv 8)) (fun _ _ => rfl)))))))
      (pss_cons (ps_expr (xappend K (pv 6) (pe_ix (xix K) (pe_op (xadd K) (pv 5) (pe_tup (pa_k pe_int pa_nil))) pe_int (fun _ _ => rfl))))
      (pss_one (ps_set (i := 5) sc_Lround.nd rfl (Or.inl rfl) (pe_bar (pe_slice (xsl K) (pe_op (xadd K) (pv 5) (pe_tup (pa_b (pe_op op_mod (pv 7) (pv 1)) pa_nil))) (po_some pe_int) po_none)))))))))
      (pss_one (ps_ret (pe_lst (pa_cons (pe_dget hr.hu (pv 4) (pv 5) (fun _ _ => rfl)) (pa_b (pe_op op_sub (pe_callB call_lenT rfl B.b_len boot_len (pa_n (pv 4) pa_nil)) (pe_dget hr.hu (pv 4) (pv 5) (fun _ _ => rfl))) (pa_n (pv 6) pa_nil))))))))))), ?_⟩
    have hl := ok.len
    have hs := ok.short
    have hb : 0 < r.b := by obtain ⟨P0, hP0, e⟩ := hB; have := primesN_range P0 hP0; omega
    have lR : (r.rule.map V.int).length = r.rule.length := List.length_map _
    refine ⟨_, rfl, a, _, rfl, SqT.of hA, rfl, _, _, rfl, _, _, rfl, _, _, rfl, rfl, ?_⟩
    refine fun sd hsd => ?_
    have g0 := Same.new hsd (.dT [])
    refine Bar.by (fun v H1 => v = .ref p2 ∧ upd H sd (.dT []) = H1) (fun kk hkk => ⟨_, rfl, hkk _ _ ⟨rfl, rfl⟩⟩) ?_
    rintro _ _ ⟨rfl, rfl⟩
    refine ⟨Nat.zero_le _, fun nl hnl => ?_⟩
    have g1 := g0.trans (Same.new hnl (.lst []))
    have w0 : Pm.win r.at r.rule.length 0 = r.starts := by
      refine Pm.co_ext (by rw [Pm.win_len]; exact hl) fun k => ?_
      by_cases c : k < r.rule.length
      · exact (Pm.win_get _ c).trans (by rw [Nat.zero_add]; exact Rm.at_lt (by omega))
      · rw [Pm.co_ge (by rw [Pm.win_len]; omega), Pm.co_ge (by omega)]
    have hrng : ∀ i, 0 ≤ r.at i ∧ r.at i < ((r.b.toNat : Nat) : Int) := fun i => by
      rw [Int.toNat_of_nonneg (by omega)]
      refine Rm.at_range hl hb (fun x hx => ?_) i
      rcases ok.startsNum x hx with z | z
      · omega
      · exact z
    have fsd : H sd = none := hsd
    have fnl : H nl = none := g0.free hnl
    have nesn : sd ≠ nl := fun z => by rw [← z, upd_same] at hnl; cases hnl
    have hsd1 : (upd (upd H sd (.dT [])) nl (.lst [])) sd = some (.dT []) := by rw [upd_ne nesn]; exact upd_same
    refine ⟨fun m σ' H' => ∃ (n : Nat) (wa : Addr) (kvs : List (List Key × V)) (o7 o8 : Option V), m = 4096 - n ∧ n ≤ 4096 ∧ σ' = [some (.ref a), some (.int r.b), some (.ref p), some (.ref p2), some (.ref sd), some (.ref wa), some (.ref nl), o7, o8] ∧ Same H H' ∧ H' wa = some (.tup ((Pm.win r.at r.rule.length n).map V.int)) ∧ H' sd = some (.dT kvs) ∧ H' nl = some (.lst (((List.range n).map r.at).map V.int)) ∧ Seen r.at r.rule.length n kvs,
      ⟨_, 0, p2, [], _, _, rfl, by decide, rfl, g1, by rw [w0]; exact g1 _ _ hS, hsd1, upd_same, ⟨rfl, fun i hi => absurd hi (Nat.not_lt_zero _), fun _ _ => rfl, fun i j _ hj => absurd hj (Nat.not_lt_zero _)⟩⟩, ?_⟩
    rintro m σ' H' ⟨n, wa, kvs, o7, o8, rfl, hn, rfl, g, hwa, hkv, hnl', sn⟩
    have hwk : H' wa = some (.tup ((KK (Pm.win r.at r.rule.length n)).map kV)) := by rw [KK_map]; exact hwa
    refine ⟨_, rfl, _, rfl, sd, _, rfl, DGet.t hkv hwk, _, rfl, ?_⟩
    refine ite2 (fun c => ?_) (fun c => ?_)
    · have hnone : valV kvs (KK (Pm.win r.at r.rule.length n)) = none := by
        cases e : valV kvs (KK (Pm.win r.at r.rule.length n)) with
        | none => rfl
        | some u => rw [e] at c; exact absurd c (by simp)
      have sn' := sn.more hnone
      have hn1 : n + 1 ≤ 4096 := Nat.le_trans (Pm.win_most (l := L.length - 1) hrng fun i j hij hj z => sn'.diff i j hij hj ((win_iff hL ok.at_tk (by omega) i j).mpr z)) hw
      refine ⟨_, fun _ _ z => z, ?_⟩
      refine ⟨_, rfl, sd, kvs, rfl, hkv, _, rfl, _, rfl, sd, _, rfl, DPut.t hkv hwk (by rw [sn.len]; exact Nat.lt_of_le_of_lt hn (by decide)), ?_⟩
      rw [sn.len]
      have hne : wa ≠ sd := fun z => by rw [z, hkv] at hwa; cases hwa
      have g2 : Same H (upd H' sd (.dT (putK kvs (KK (Pm.win r.at r.rule.length n)) (.int (n : Int))))) := g.upd fsd _
      have hwa2 : (upd H' sd (.dT (putK kvs (KK (Pm.win r.at r.rule.length n)) (.int (n : Int))))) wa = some (.tup ((Pm.win r.at r.rule.length n).map V.int)) := by rw [upd_ne hne]; exact hwa
      have hkv2 : (upd H' sd (.dT (putK kvs (KK (Pm.win r.at r.rule.length n)) (.int (n : Int))))) sd = some (.dT (putK kvs (KK (Pm.win r.at r.rule.length n)) (.int (n : Int)))) := upd_same
      have hnl2 : (upd H' sd (.dT (putK kvs (KK (Pm.win r.at r.rule.length n)) (.int (n : Int))))) nl = some (.lst (((List.range n).map r.at).map V.int)) := by rw [upd_ne nesn.symm]; exact hnl'
      generalize upd H' sd (.dT (putK kvs (KK (Pm.win r.at r.rule.length n)) (.int (n : Int)))) = H2 at g2 hwa2 hkv2 hnl2
      have wl := Pm.win_len r.at r.rule.length n
      have ev : Rm.tk r.b (Rm.S r.rule (fun i => (Pm.win r.at r.rule.length n).getD i 0) r.rule.length r.rule.length) = r.at (n + r.rule.length) := by
        have e1 : r.at (n + r.rule.length) = Rm.tk r.b (Rm.S r.rule r.at (n + r.rule.length) r.rule.length) := Rm.at_ge hl (by omega)
        rw [e1, ← Rm.S_shift (f := r.at) (d := n) (Nat.le_refl _)]
        refine congrArg _ (Rm.S_congr fun k hk => ?_)
        exact Pm.win_get _ (by omega)
      have bw : ∀ x ∈ Pm.win r.at r.rule.length n, Rm.Bd 2000 x := fun x hx => by
        obtain ⟨j, _, rfl⟩ := List.mem_map.mp hx
        have := hrng (n + j)
        exact tk_bdD' ok.by1 this.1 (by have := this.2; rw [Int.toNat_of_nonneg (by omega)] at this; exact this)
      -- the sum
      refine ⟨_, rfl, .ref p, r.rule.length, rfl, .inr ⟨_, SqT.of (g2 _ _ hR), lR.symm⟩, ?_⟩
      refine ⟨(r.rule.length : Int), rfl, (by omega : -(2 ^ 62) ≤ (r.rule.length : Int)), (by omega : (r.rule.length : Int) < 2 ^ 62), ?_⟩
      rw [Int.toNat_natCast]
      refine for_range (lo := 0) (n := r.rule.length) (fun i σ' H3 => ∃ (o8 : Option V), σ' = [some (.ref a), some (.int r.b), some (.ref p), some (.ref p2), some (.ref sd), some (.ref wa), some (.ref nl), some (.int (Rm.S r.rule (fun i => (Pm.win r.at r.rule.length n).getD i 0) r.rule.length i)), o8] ∧ H2 = H3) ⟨_, rfl, rfl⟩ ?_ ?_
      · rintro i σ' H3 hi ⟨o8, rfl, rfl⟩
        have e1 : (0 + (i : Int)).toNat = i := by omega
        refine ⟨_, rfl, _, rfl, _, rfl, _, _, .inr (SqT.of (g2 _ _ hR)), atI_ints (ns := r.rule) (by omega : (0 : Int) ≤ 0 + (i : Int)) (by omega), ?_⟩
        refine ⟨_, rfl, _, rfl, .ref p, r.rule.length, rfl, .inr ⟨_, SqT.of (g2 _ _ hR), lR.symm⟩, _, _, rfl, rfl, _, rfl, _, _, rfl, rfl, _, _, .inr (SqT.of hwa2), atI_ints (ns := Pm.win r.at r.rule.length n) (by omega : (0 : Int) ≤ (r.rule.length : Int) - 1 - (0 + (i : Int))) (by rw [wl]; omega), ?_⟩
        refine ⟨mulBd (Rm.Bd.getD ok.ruleBd _) (Rm.Bd.getD bw _) (by decide), ?_⟩
        refine ⟨some (.int (0 + (i : Int))), ?_, rfl⟩
        rw [e1, show ((r.rule.length : Int) - 1 - (0 + (i : Int))).toNat = r.rule.length - 1 - i by omega]
        rfl
      rintro σ' H3 ⟨o8, rfl, rfl⟩
      -- the number
      refine ⟨_, rfl, .inl ⟨rfl, _, SqL.of hnl2⟩, _, rfl, ?_⟩
      have n0 : H2 nl ≠ none := by rw [hnl2]; exact fun z => nomatch z
      have ln : (((List.range n).map r.at).map V.int).length = n := by rw [List.length_map, List.length_map, List.length_range]
      have e0 : ∀ x, atI ((Pm.win r.at r.rule.length n).map V.int ++ [V.int x]) 0 = some (.int (if r.rule.length = 0 then x else r.at n)) := fun x => by
        refine atI_len 0 rfl ?_
        by_cases c0 : r.rule.length = 0
        · rw [if_pos c0]
          have : Pm.win r.at r.rule.length n = [] := List.eq_nil_of_length_eq_zero (by rw [wl, c0])
          rw [this]; rfl
        · rw [if_neg c0, List.getElem?_append_left (by rw [List.length_map, wl]; omega), List.getElem?_map]
          have := Pm.win_get r.at (i := n) (show 0 < r.rule.length by omega)
          rw [List.getD_eq_getElem?_getD, List.getElem?_eq_getElem (by rw [wl]; omega)] at this
          rw [List.getElem?_eq_getElem (by rw [wl]; omega)]
          show some (V.int _) = _
          exact congrArg (fun z => some (V.int z)) this
      have ez : (if r.rule.length = 0 then 0 else r.at n) = r.at n := by
        by_cases c0 : r.rule.length = 0
        · rw [if_pos c0]
          have e1 : r.at n = Rm.tk r.b (Rm.S r.rule r.at n r.rule.length) := Rm.at_ge hl (by omega)
          rw [e1, c0]; exact (Pm.tk0 _).symm
        · rw [if_neg c0]
      refine ⟨(by show 1 ≤ sizeLine; decide), fun t1 ht1 => ?_⟩
      have g3 := Same.new ht1 (.tup [.int 0])
      have h3 : (upd H2 t1 (.tup [.int 0])) t1 = some (.tup [.int 0]) := upd_same
      have hwa3 := g3 _ _ hwa2
      have hkv3 := g3 _ _ hkv2
      have hnl3 := g3 _ _ hnl2
      have g23 := g2.trans g3
      generalize upd H2 t1 (.tup [.int 0]) = H3 at g3 h3 hwa3 hkv3 hnl3 g23
      have hsz : ((Pm.win r.at r.rule.length n).map V.int).length + [V.int 0].length ≤ sizeLine := by
        rw [List.length_map, wl]
        exact Nat.le_of_lt (small1000 (by show r.rule.length + 1 ≤ 1000; omega))
      refine .inr ⟨_, _, SqT.of hwa3, SqT.of h3, hsz, fun e => ?w1, fun _ z => (by cases z), fun e _ p4 hp4 => ?w2⟩
      case' w1 =>
        have hix := e0 0
        rw [e, List.nil_append] at hix
        refine ⟨_, _, .inr (SqT.of h3), hix, ?_⟩
        obtain ⟨H5, eH5, gq⟩ : ∃ H5, H3 = H5 ∧ Same H3 H5 := ⟨H3, rfl, Same.refl _⟩
        rw [eH5]
      case' w2 =>
        have hix := e0 0
        have gq := Same.new hp4 (.tup ((Pm.win r.at r.rule.length n).map V.int ++ [.int 0]))
        refine ⟨_, _, .inr (SqT.of upd_same), hix, ?_⟩
        generalize upd H3 p4 (.tup ((Pm.win r.at r.rule.length n).map V.int ++ [.int 0])) = H5 at gq ⊢
      all_goals
        rw [ez]
        have hnl5 := gq _ _ hnl3
        refine ⟨nl, _, _, rfl, rfl, hnl5, ?_, ?_⟩
        · rw [ln]; exact Nat.lt_of_le_of_lt hn (by decide)
        rw [← map_snoc]
        have er : (List.range n).map r.at ++ [r.at n] = (List.range (n + 1)).map r.at := by rw [List.range_succ, List.map_append]; rfl
        rw [er]
        have newn : wa ≠ nl := fun z => by rw [z, hnl2] at hwa2; cases hwa2
        have g6 : Same H (upd H5 nl (.lst (((List.range (n + 1)).map r.at).map V.int))) := (g23.trans gq).upd fnl _
        have hwa6 : (upd H5 nl (.lst (((List.range (n + 1)).map r.at).map V.int))) wa = some (.tup ((Pm.win r.at r.rule.length n).map V.int)) := by rw [upd_ne newn]; exact gq _ _ hwa3
        have hkv6 : (upd H5 nl (.lst (((List.range (n + 1)).map r.at).map V.int))) sd = some (.dT (putK kvs (KK (Pm.win r.at r.rule.length n)) (.int (n : Int)))) := by rw [upd_ne nesn]; exact gq _ _ hkv3
        have hnl6 : (upd H5 nl (.lst (((List.range (n + 1)).map r.at).map V.int))) nl = some (.lst (((List.range (n + 1)).map r.at).map V.int)) := upd_same
        generalize upd H5 nl (.lst (((List.range (n + 1)).map r.at).map V.int)) = H6 at g6 hwa6 hkv6 hnl6
        refine Bar.by (fun v H1 => ∃ w1, v = .ref w1 ∧ Same H6 H1 ∧ H1 w1 = some (.tup ((Pm.win r.at r.rule.length (n + 1)).map V.int))) (fun kk hkk => ?_) ?_
        · refine ⟨_, rfl, _, rfl, _, rfl, _, _, rfl, rfl, hb, (by show 1 ≤ sizeLine; decide), fun t2 ht2 => ?_⟩
          have et : Rm.S r.rule (fun i => (Pm.win r.at r.rule.length n).getD i 0) r.rule.length r.rule.length % r.b = r.at (n + r.rule.length) := by rw [← ev, Rm.tk_pos (by omega)]
          dsimp only
          rw [et]
          have g7 := Same.new ht2 (.tup [.int (r.at (n + r.rule.length))])
          have h7 : (upd H6 t2 (.tup [.int (r.at (n + r.rule.length))])) t2 = some (.tup [.int (r.at (n + r.rule.length))]) := upd_same
          have hwa7 := g7 _ _ hwa6
          generalize upd H6 t2 (.tup [.int (r.at (n + r.rule.length))]) = H7 at g7 h7 hwa7
          have ecut : cutV ((Pm.win r.at r.rule.length n).map V.int ++ [.int (r.at (n + r.rule.length))]) (some 1) none = (Pm.win r.at r.rule.length (n + 1)).map V.int := by
            have := cut_from ((Pm.win r.at r.rule.length n).map V.int ++ [.int (r.at (n + r.rule.length))]) (k := 1) (by rw [List.length_append]; simp)
            rw [← Pm.win_next, List.map_drop, List.map_append]
            exact this
          have lc : ((Pm.win r.at r.rule.length n).map V.int ++ [V.int (r.at (n + r.rule.length))]).length = r.rule.length + 1 := by rw [List.length_append, List.length_map, wl]; rfl
          refine .inr ⟨_, _, SqT.of hwa7, SqT.of h7, hsz, fun e => ?_, fun _ z => (by cases z), fun e _ p8 hp8 => ?_⟩
          · rw [e, List.nil_append] at ecut lc
            refine ⟨_, rfl, .inr (.inl ⟨_, SqT.of h7, ?_, fun p9 hp9 => ?_⟩)⟩
            · rw [lc]
              show ¬ (HT.sIx (r.rule.length + 1) 0 (some ((1 : Nat) : Int)) = 0 ∧ _)
              rw [HT.sIx_nat]; omega
            · exact hkk _ _ ⟨p9, rfl, g7.trans (Same.new hp9 _), by rw [upd_same, ecut]⟩
          · have g8 := Same.new hp8 (.tup ((Pm.win r.at r.rule.length n).map V.int ++ [.int (r.at (n + r.rule.length))]))
            refine ⟨_, rfl, .inr (.inl ⟨_, SqT.of upd_same, ?_, fun p9 hp9 => ?_⟩)⟩
            · rw [lc]
              show ¬ (HT.sIx (r.rule.length + 1) 0 (some ((1 : Nat) : Int)) = 0 ∧ _)
              rw [HT.sIx_nat]; omega
            · exact hkk _ _ ⟨p9, rfl, g7.trans (g8.trans (Same.new hp9 _)), by rw [upd_same, ecut]⟩
        · rintro _ H8 ⟨w1, rfl, g8, hw1⟩
          exact ⟨4096 - (n + 1), by omega, n + 1, w1, _, _, _, rfl, hn1, rfl, g6.trans g8, hw1, g8 _ _ hkv6, g8 _ _ hnl6, sn'⟩
    · obtain ⟨i, hi, ei⟩ : ∃ i, i < n ∧ Pm.win r.at r.rule.length n = Pm.win r.at r.rule.length i := by
        refine Classical.byContradiction fun hno => c ?_
        rw [sn.out _ fun i hi z => hno ⟨i, hi, KK_inj z⟩]; rfl
      have hv : valV kvs (KK (Pm.win r.at r.rule.length n)) = some (.int (i : Int)) := by rw [ei]; exact sn.at_ i hi
      have hg := DGet.t hkv hwk
      rw [hv] at hg
      refine ⟨_, rfl, _, rfl, sd, _, rfl, hg, ?_⟩
      refine ⟨_, rfl, sd, kvs, rfl, hkv, _, rfl, _, rfl, sd, _, rfl, hg, _, _, rfl, rfl, _, rfl, ?_⟩
      rw [sn.len]
      refine ⟨(by show 3 ≤ sizeLine; decide), fun p6 hp6 => ?_⟩
      have g6 := Same.new hp6 (.lst [.int (i : Int), .int ((n : Int) - (i : Int)), .ref nl])
      have en : i + (n - i) = n := by omega
      have hrd : Pm.Rnd r.at r.rule.length i (n - i) := ⟨by omega, by rw [en]; exact ei, fun x y hxy hy => sn.diff x y hxy (by omega)⟩
      refine q i (n - i) p6 nl _ (g.trans g6) ?_ (by rw [en]; exact g6 _ _ hnl') (rnd_iff hL ok.at_tk (by omega) hrd)
      rw [upd_same]
      show some (HO.lst [.int (i : Int), .int ((n : Int) - (i : Int)), .ref nl]) = _
      rw [show (n : Int) - (i : Int) = ((n - i : Nat) : Int) by omega]
theorem ok_Ltoo_long (B : Bt mg) (F : Fn K mg "_law_too_long" s_Ltoo_long ["_law_by", "_law_size"]) (M : Ms K mg base A_NoBy A_RuleError A_TooLong) : Cal P w K mg base "_law_too_long" 1 ["_law_by", "_law_size"] spTooLong := by
  refine F.cal sc_Ltoo_long (fun vs H Q E h => ?_) (fun f cdv A outer s H vs Q E hr h => ?_)
  · obtain ⟨P', l, rfl, _⟩ := h; rfl
  · obtain ⟨P', l, rfl, hP, hl, q⟩ := h
    refine ⟨_, (pss_cons (ps_set (i := 2) sc_Ltoo_long.nd rfl (Or.inl rfl) pe_int)
      (pss_cons (ps_for PassesOwn.never rfl (pi_range1 rfl B.b_range (pa_n (pv 1) pa_nil)) (pg_name (i := 3) sc_Ltoo_long.nd rfl (Or.inl rfl))
      (pss_one (ps_set (i := 2) sc_Ltoo_long.nd rfl (Or.inl rfl) (pe_op v_mul (pv 2) (pv 0)))))
      (pss_one (ps_ret (pe_cmpR op_gt (pv 2) pe_int (nomark _)))))), ?_⟩
    refine ⟨_, rfl, (l : Int), rfl, (rng62 (Nat.le_trans hl (by decide))).1, (rng62 (Nat.le_trans hl (by decide))).2, ?_⟩
    rw [Int.toNat_natCast]
    refine for_range (lo := 0) (n := l) (fun i σ' H' => ∃ o3 : Option V, σ' = [some (.int P'), some (.int l), some (.int ((P' ^ i : Nat) : Int)), o3] ∧ H = H') ⟨_, rfl, rfl⟩ ?_ ?_
    · rintro i σ' H' hi ⟨o3, rfl, rfl⟩
      refine ⟨_, rfl, _, rfl, mulR (by omega) (by omega), some (.int (0 + (i : Int))), ?_, rfl⟩
      rw [Nat.pow_succ, Int.natCast_mul]; rfl
    · rintro σ' H' ⟨o3, rfl, rfl⟩
      exact ⟨_, rfl, _, _, rfl, rfl, q⟩
theorem ok_Lrefused (B : Bt mg) (F : Fn K mg "_law_refused" s_Lrefused ["_law_row_here", "_law_number"]) (M : Ms K mg base A_NoBy A_RuleError A_TooLong) (C_where : Cal P w K mg base "where" 12 ["row", "number"] (spWhere A_NoBy A_TooLong)) : Cal P w K mg base "_law_refused" 13 ["_law_row_here", "_law_number"] spRef42 := by
  refine F.cal sc_Lrefused (fun vs H Q E h => ?_) (fun f cdv A outer s H vs Q E hr h => ?_)
  · obtain ⟨v, r, x, L, rfl, _⟩ := h; rfl
  · obtain ⟨v, r, x, L, rfl, hR, ok, hB, hL, hw, q⟩ := h
    refine ⟨_, (pss_cons (ps_set (i := 2) sc_Lrefused.nd rfl (Or.inl rfl) pe_non)
      (pss_cons (ps_tryExpr (j := 3) C_where hr rfl rfl rfl rfl (pa_n (pv 0) (pa_n (pv 1) pa_nil)) sc_Lrefused.nd rfl rfl rfl M.m_RuleError (fun a => (pss_one (ps_set (i := 2) sc_Lrefused.nd rfl (Or.inl rfl) (pv 3)))))
      (pss_one (ps_ret (pe_and (pe_callB (xisiE K) rfl B.b_isinstance boot_isinstance (pa_n (pv 2) (pa_n (pe_cls rfl M.m_TooLong) pa_nil))) (pe_one (pe_callB (xisiE K) rfl B.b_isinstance boot_isinstance (pa_n (pv 2) (pa_n (pe_tyB rfl B.b_ValueError boot_ValueError) pa_nil))))))))), ?_⟩
    refine ⟨_, rfl, _, rfl, v, r, x, rfl, hR, ok, fun z => ?_, fun _ => ⟨hB, fun L' hL' hl' => ?_⟩⟩
    · obtain ⟨P0, hP0, e⟩ := hB
      have := primesN_range P0 hP0
      omega
    have eL := hL'.uniq hB.one hL
    subst eL
    refine ⟨fun _ Hx gx => ⟨_, rfl, M.s_TooLong_RuleError, fun a ha => ?_⟩, fun hw2 => absurd hw2 (Nat.not_le_of_gt hw)⟩
    have g0 := gx.trans (Same.new ha (excO a A_TooLong))
    have hA := upd_same (H := Hx) (a := a) (o := excO a A_TooLong)
    generalize upd Hx a (excO a A_TooLong) = H2 at g0 hA
    refine ⟨_, rfl, ?_⟩
    refine ⟨_, rfl, a, A_TooLong, _, true, rfl, hA, M.i_TooLong, .inl ⟨_, rfl, M.k_TooLong_TooLong⟩, _, rfl, iteT ?_⟩
    exact ⟨_, rfl, a, A_TooLong, _, true, rfl, hA, M.i_TooLong, .inr (.inl ⟨_, rfl, M.k_TooLong_ValueError⟩), q _ g0⟩
theorem ok_law (B : Bt mg) {f : Addr} {fd : FuncData} (F : Fun K "law" "law" s_law f fd) (M : Ms K mg base A_NoBy A_RuleError A_TooLong) (C_Lrow : Cal P w K mg base "_law_row" 2 ["_law_script", "_law_at_here"] (spRowR K)) (C_Lat : Cal P w K mg base "_law_at" 1 ["_law_script", "_law_k"] (spCellG K)) (C_Ltoo_long : Cal P w K mg base "_law_too_long" 1 ["_law_by", "_law_size"] spTooLong) (C_shortest : Cal P w K mg base "shortest" 9 ["row"] spShort) (C_Lrefused : Cal P w K mg base "_law_refused" 13 ["_law_row_here", "_law_number"] spRef42) (C_Lround : Cal P w K mg base "_law_round" 1 ["_law_row_here"] spLRound) (C_where : Cal P w K mg base "where" 12 ["row", "number"] (spWhere A_NoBy A_TooLong)) (C_Lalike : Cal P w K mg base "_law_alike" 5 ["_law_found", "_law_due"] (spRec (spAlike) 3)) : FnOk P w K mg base (Flown P w) KLAW f fd ["_law_script"] (spLaw K) := by
  refine F.okN (k := 13) sc_law (fun vs H Q E h => ?_) (fun cdv A outer s H vs Q E hr h => ?_)
  · obtain ⟨a, ns, rfl, _⟩ := h; rfl
  · obtain ⟨a, ns, rfl, hS, hlen, q⟩ := h
    refine ⟨_, (pss_cons (ps_set (i := 1) sc_law.nd rfl (Or.inl rfl) (pe_callC C_Lrow hr rfl (pa_n (pv 0) (pa_k pe_int pa_nil))))
      (pss_cons (ps_set (i := 2) sc_law.nd rfl (Or.inl rfl) (pe_listRange rfl rfl B.b_list rfl B.b_range (pa_cons (pe_callB (call_min2 rfl) rfl B.b_min boot_min (pa_cons (pe_ix (xix K) (pv 1) pe_int (fun _ _ => rfl)) (pa_k pe_int pa_nil))) pa_nil)))
      (pss_cons (ps_for PassesOwn.never rfl (pi_range1 rfl B.b_range (pa_k pe_int pa_nil)) (pg_name (i := 3) sc_law.nd rfl (Or.inl rfl))
      (pss_one (ps_expr (xappend K (pv 2) (pe_op op_mod (pe_callC C_Lat hr rfl (pa_n (pv 0) (pa_b (pe_op (xadd K) pe_int (pv 3)) pa_nil))) (pe_ix (xix K) (pv 1) pe_int (fun _ _ => rfl)))))))
      (pss_cons (ps_if (pt_val (pe_callC C_Ltoo_long hr rfl (pa_cons (pe_ix (xix K) (pv 1) pe_int (fun _ _ => rfl)) (pa_cons (pe_callB (xlen K) rfl B.b_len boot_len (pa_cons (pe_ix (xix K) (pe_callC C_shortest hr rfl (pa_n (pv 1) pa_nil)) pe_int (fun _ _ => rfl)) pa_nil)) pa_nil))))
      (pss_one (ps_ret (pe_and (pe_callC C_Lrefused hr rfl (pa_n (pv 1) (pa_cons (pe_ix (xix K) (pv 2) (pe_un un_neg pe_int) (fun _ _ => rfl)) pa_nil))) (pe_one (pe_callC C_Lrefused hr rfl (pa_n (pv 1) (pa_k pe_int pa_nil)))))))
      pss_nil)
      (pss_cons (ps_asg (pe_callC C_Lround hr rfl (pa_n (pv 1) pa_nil)) (xglst K (n := 3) rfl (pgs_cons (pg_name (i := 4) sc_law.nd rfl (Or.inl rfl)) (pgs_cons (pg_name (i := 5) sc_law.nd rfl (Or.inl rfl)) (pgs_cons (pg_name (i := 6) sc_law.nd rfl (Or.inr rfl)) pgs_nil)))))
      (pss_cons (ps_for PassesOwn.never rfl (xseq K (pv 2)) (pg_name (i := 7) sc_law.nd rfl (Or.inr rfl))
      (pss_cons (ps_setC (i := 8) (hN := sc_law.nd) (hi' := rfl) (hx := (Or.inl rfl)) (sc := cs_law1) (N := ["_law_n", "_law_going", "_law_number"]) (ix := [none, some 6, some 7]) (comp_mk (by kernel_rfl) (by kernel_rfl) (by kernel_rfl) (by kernel_rfl) (by kernel_rfl) (by kernel_rfl) (by kernel_rfl) (by kernel_rfl)) rfl (pi_range1 rfl B.b_range (pa_n (pv 4) pa_nil)) (fun cl C s₀ H₀ ex => ⟨(pg_name (i := 0) (show (["_law_n", "_law_going", "_law_number"] : List Str).Nodup by decide +kernel) rfl (Or.inl rfl)), (pif_one (pt_cmpR (xeq K hr) (pe_ix (xix K) (pv 1) (pv 0) (fun _ _ => rfl)) (pv 2) (nomark _))), (pv 0)⟩))
      (pss_cons (ps_set (i := 9) sc_law.nd rfl (Or.inl rfl) (pe_tup (pa_n (pv 8) (pa_cons (pe_comp (sc := cs_law2) (N := ["_law_n", "_law_going", "_law_number"]) (ix := [none, some 6, some 7]) (comp_mk (by kernel_rfl) (by kernel_rfl) (by kernel_rfl) (by kernel_rfl) (by kernel_rfl) (by kernel_rfl) (by kernel_rfl) (by kernel_rfl)) rfl (pi_range2 rfl B.b_range (pa_n (pv 4) (pa_b (pe_op (xadd K) (pv 4) (pv 5)) pa_nil))) (fun cl C s₀ H₀ ex => ⟨(pg_name (i := 0) (show (["_law_n", "_law_going", "_law_number"] : List Str).Nodup by decide +kernel) rfl (Or.inl rfl)), (pif_one (pt_cmpR (xeq K hr) (pe_ix (xix K) (pv 1) (pv 0) (fun _ _ => rfl)) (pv 2) (nomark _))), (pv 0)⟩)) (pa_n (pv 5) pa_nil)))))
      (pss_cons (ps_set (i := 10) sc_law.nd rfl (Or.inl rfl) (pe_callC C_where hr rfl (pa_n (pv 1) (pa_n (pv 7) pa_nil))))
      (pss_cons (ps_if (pt_not (pt_val (pe_callC C_Lalike hr rfl (pa_n (pv 10) (pa_n (pv 9) pa_nil)))))
      (pss_one (ps_ret pe_bl))
      pss_nil)
      (pss_cons (ps_expr (xappend K (pe_ix (xix K) (pv 10) pe_int (fun _ _ => rfl)) pe_int))
      (pss_cons (ps_expr (xclear K (pe_ix (xix K) (pv 10) pe_int (fun _ _ => rfl))))
      (pss_one (ps_if (pt_not (pt_val (pe_callC C_Lalike hr rfl (pa_cons (pe_callC C_where hr rfl (pa_n (pv 1) (pa_n (pv 7) pa_nil))) (pa_n (pv 9) pa_nil)))))
      (pss_one (ps_ret pe_bl))
      pss_nil)))))))))
      (pss_one (ps_ret pe_bl)))))))), ?_⟩
    refine ⟨_, rfl, a, ns, 0, rfl, hS, by decide, by decide, fun v r H1 g1 hR ok hB => ?_⟩
    have hS1 := g1.seq hS
    obtain ⟨P0, hP0, eb⟩ := id hB
    have hPr := primesN_range P0 hP0
    have hs := ok.short
    have hle := ok.len
    obtain ⟨xa, xp, xq, rfl, hxA, hxR, hxS⟩ := id hR
    refine ⟨_, rfl, _, _, .inr (SqT.of hxA), rfl, _, _, rfl, min P0 13, ?_, by omega, fun nl hnl => ?_⟩
    · rw [eb]
      have : (if (13 : Int) < (P0 : Int) then (13 : Int) else (P0 : Int)) = ((min P0 13 : Nat) : Int) := by split <;> omega
      rw [← this]
    obtain ⟨xs0, hxs0⟩ : ∃ xs0 : List Int, xs0 = (List.range (min P0 13)).map fun (i : Nat) => (i : Int) := ⟨_, rfl⟩
    have ex0 : ((List.range (min P0 13)).map fun (i : Nat) => V.int (i : Nat)) = xs0.map V.int := by rw [hxs0, List.map_map]; rfl
    rw [ex0]
    have l0 : xs0.length = min P0 13 := by rw [hxs0, List.length_map, List.length_range]
    have g2 := Same.new hnl (.lst (xs0.map V.int))
    have h2 : (upd H1 nl (.lst (xs0.map V.int))) nl = some (.lst (xs0.map V.int)) := upd_same
    generalize upd H1 nl (.lst (xs0.map V.int)) = H2 at g2 h2
    refine ⟨6, rfl, by decide, by decide, ?_⟩
    refine for_range (lo := 0) (n := (6 : Int).toNat) (fun i σ' H' => ∃ (o3 : Option V) (xs : List Int), σ' = [some (.ref a), some (.ref xa), some (.ref nl), o3, none, none, none, none, none, none, none] ∧ Same H1 H' ∧ H' nl = some (.lst (xs.map V.int)) ∧ xs.length = min P0 13 + i) ⟨_, _, rfl, g2, h2, l0⟩ ?_ ?_
    · rintro i σ' H3 hi ⟨o3, xs, rfl, g3, h3, l3⟩
      have lx' : (xs.map V.int).length = xs.length := List.length_map _
      refine ⟨_, rfl, .inl ⟨rfl, _, SqL.of h3⟩, _, rfl, _, rfl, a, ns, _, rfl, g3.seq hS1, (by omega : (0 : Int) ≤ 42 + (0 + (i : Int))), (by omega), fun c => ?_⟩
      refine ⟨_, rfl, _, _, .inr (SqT.of (g3 _ _ hxA)), rfl, _, _, rfl, rfl, (by omega : (0 : Int) < r.b), ?_⟩
      refine ⟨nl, _, _, rfl, rfl, h3, (by rw [lx']; exact Nat.lt_of_lt_of_le (show xs.length < 1000 by omega) (by decide)), ?_⟩
      dsimp only
      rw [← map_snoc]
      exact ⟨_, _, rfl, g3.upd hnl _, upd_same, by rw [List.length_append, l3]; show _ + 1 = _; omega⟩
    rintro σ' H3 ⟨o3, xs, rfl, g3, h3, l3⟩
    have lx' : (xs.map V.int).length = xs.length := List.length_map _
    refine ⟨_, rfl, _, _, .inr (SqT.of (g3 _ _ hxA)), rfl, _, rfl, .ref xa, r, rfl, hR.same g3, ok, hB, fun sv L H5 g5 hRs hL hl => ?_⟩
    have lL : (shortR r L).rule.length = L.length - 1 := Pm.ruleOf_len ..
    obtain ⟨sa, sr, sq, rfl, hsA, hsR, hsS⟩ := hRs
    have lS : ((shortR r L).rule.map V.int).length = L.length - 1 := by rw [List.length_map, lL]
    have tn : r.b.toNat = P0 := by rw [eb, Int.toNat_natCast]
    have g35 := g3.trans g5
    have h5 := g5 _ _ h3
    refine ⟨_, _, .inr (SqT.of hsA), rfl, .ref sr, L.length - 1, rfl, .inr ⟨_, SqT.of hsR, lS.symm⟩, ?_⟩
    refine ⟨P0, L.length - 1, by rw [eb]; rfl, by omega, by omega, ?_⟩
    by_cases hw : r.b.toNat ^ (L.length - 1) ≤ 4096
    · have hw' := hw
      rw [tn] at hw'
      rw [decide_eq_false (show ¬ (4096 : Int) < ((P0 ^ (L.length - 1) : Nat) : Int) by omega)]
      refine ⟨_, rfl, iteF ?_⟩
      refine ⟨_, rfl, .ref xa, r, L, rfl, hR.same g35, ok, hB, hL, hl, hw, fun bg ln pl gl H7 g7 hpl hgl hRd => ?_⟩
      refine ⟨pl, _, rfl, SqL.of hpl, rfl, _, _, rfl, _, _, rfl, _, _, rfl, rfl, ?_⟩
      have h7 := g7 _ _ h5
      obtain ⟨nu, hnu⟩ : ∃ nu : List Int, nu = (List.range (bg + ln)).map r.at := ⟨_, rfl⟩
      rw [← hnu] at hgl
      have lnu : nu.length = bg + ln := by rw [hnu, List.length_map, List.length_range]
      have gnu : ∀ i, i < bg + ln → nu.getD i 0 = r.at i := fun i hi => by
        rw [hnu, List.getD_eq_getElem?_getD, List.getElem?_map, List.getElem?_range hi]; rfl
      have hrng : ∀ i, 0 ≤ r.at i ∧ r.at i < ((r.b.toNat : Nat) : Int) := fun i => by
        rw [Int.toNat_of_nonneg (by omega)]
        refine Rm.at_range ok.len (by omega) (fun x hx => ?_) i
        rcases ok.startsNum x hx with z | z
        · omega
        · exact z
      have hbl : bg + ln ≤ 4096 := Nat.le_trans (Pm.win_most (l := L.length - 1) hrng hRd.first) hw
      have hR7 := hR.same (g35.trans g7)
      refine ⟨_, rfl, nl, rfl, .inl ⟨⟨_, SqL.of h7⟩, ?_⟩⟩
      refine for_its (its_list (SqL.of h7)) (fun i σ' H' => ∃ (o7 o8 o9 o10 : Option V), σ' = [some (.ref a), some (.ref xa), some (.ref nl), o3, some (.int (bg : Int)), some (.int (ln : Int)), some (.ref gl), o7, o8, o9, o10] ∧ Same H7 H') ⟨_, _, _, _, rfl, Same.refl _⟩ (fun i σ' H' ⟨_, _, _, _, _, z⟩ => z) ?_ ?_
      · rintro i y σ' H8 hy ⟨o7, o8, o9, o10, rfl, g8⟩
        obtain ⟨rfl, hi⟩ := map_int_get hy
        obtain ⟨x, hx⟩ : ∃ x : Int, x = Pm.co xs i := ⟨_, rfl⟩
        rw [← hx]
        have hgl8 := g8 _ _ hgl
        have hR8 := hR7.same g8
        refine ⟨_, rfl, (bg : Int), rfl, (by omega : -(2 ^ 62) ≤ (bg : Int)), (by omega : (bg : Int) < 2 ^ 62), ?_⟩
        rw [Int.toNat_natCast]
        refine comp_rngW (lo := 0) (Nat.le_trans (show bg ≤ 4096 by omega) (by decide)) rfl (atIs r.at x) ?_ ?_ ?_
        · intro H9 k g9 hk kk hkk
          refine ⟨_, rfl, _, rfl, _, _, .inl (SqL.of (g9 _ _ hgl8)), atI_ints (ns := nu) (by omega : (0 : Int) ≤ ((0 : Nat) : Int) + (k : Int)) (by omega), _, rfl, _, rfl, ?_⟩
          rw [show (((0 : Nat) : Int) + (k : Int)).toNat = 0 + k by omega, gnu _ (by omega)]
          exact hkk
        · intro H9 k g9 hk kk hkk
          exact ⟨_, rfl, hkk⟩
        intro D1 hD1
        have g9 := Same.new hD1 (.lst ((whr (atIs r.at x) 0 bg).map V.int))
        have h9 : (upd H8 D1 (.lst ((whr (atIs r.at x) 0 bg).map V.int))) D1 = some (.lst ((whr (atIs r.at x) 0 bg).map V.int)) := upd_same
        generalize upd H8 D1 (.lst ((whr (atIs r.at x) 0 bg).map V.int)) = H9 at g9 h9
        have hgl9 := g9 _ _ hgl8
        refine ⟨_, rfl, _, rfl, _, rfl, _, rfl, _, _, rfl, ⟨(by omega : -(2 ^ 62) ≤ (bg : Int)), (by omega : (bg : Int) < 2 ^ 62), (by omega : -(2 ^ 62) ≤ (bg : Int) + (ln : Int)), (by omega : (bg : Int) + (ln : Int) < 2 ^ 62)⟩, ?_⟩
        rw [show ((bg : Int) + (ln : Int) - (bg : Int)).toNat = ln by omega]
        refine comp_rngW (Nat.le_trans (show ln ≤ 4096 by omega) (by decide)) rfl (atIs r.at x) ?_ ?_ ?_
        · intro H10 k g10 hk kk hkk
          refine ⟨_, rfl, _, rfl, _, _, .inl (SqL.of (g10 _ _ hgl9)), atI_ints (ns := nu) (by omega : (0 : Int) ≤ (bg : Int) + (k : Int)) (by omega), _, rfl, _, rfl, ?_⟩
          rw [show ((bg : Int) + (k : Int)).toNat = bg + k by omega, gnu _ (by omega)]
          exact hkk
        · intro H10 k g10 hk kk hkk
          exact ⟨_, rfl, hkk⟩
        intro D2 hD2
        have g10 := Same.new hD2 (.lst ((whr (atIs r.at x) bg ln).map V.int))
        have h10 : (upd H9 D2 (.lst ((whr (atIs r.at x) bg ln).map V.int))) D2 = some (.lst ((whr (atIs r.at x) bg ln).map V.int)) := upd_same
        have h9' := g10 _ _ h9
        generalize upd H9 D2 (.lst ((whr (atIs r.at x) bg ln).map V.int)) = H10 at g10 h10 h9'
        refine ⟨_, rfl, (by show 3 ≤ sizeLine; decide), fun pd hpd => ?_⟩
        have g11 := Same.new hpd (.tup [.ref D1, .ref D2, .int (ln : Int)])
        have h11 : (upd H10 pd (.tup [.ref D1, .ref D2, .int (ln : Int)])) pd = some (.tup [.ref D1, .ref D2, .int (ln : Int)]) := upd_same
        have h9p := g11 _ _ h9'
        have h10p := g11 _ _ h10
        generalize upd H10 pd (.tup [.ref D1, .ref D2, .int (ln : Int)]) = H11 at g11 h11 h9p h10p
        have gA := g9.trans (g10.trans g11)
        have due : ∀ {HH : Hp} {p le ls : Addr}, Same H11 HH → HH p = some (.tup [.ref le, .ref ls, .int (ln : Int)]) → HH le = some (.lst ((whr (atIs r.at x) 0 bg).map V.int)) → HH ls = some (.lst ((whr (atIs r.at x) bg ln).map V.int)) → AlikeV HH 2 (.ref p) (.ref pd) := fun {HH p le ls} g hp hle hls => by
          refine .tup hp (g _ _ h11) rfl (by show 3 ≤ 100; decide) fun k x1 y1 hx1 hy1 => ?_
          match k with
          | 0 => cases hx1; cases hy1; exact AlikeV.intsL hle (g _ _ h9p) (Nat.le_trans (whr_len ..) (by omega)) 0
          | 1 => cases hx1; cases hy1; exact AlikeV.intsL hls (g _ _ h10p) (Nat.le_trans (whr_len ..) (by omega)) 0
          | 2 => cases hx1; cases hy1; exact .int _ _
          | k + 3 => cases hx1
        have asks : ∀ {HH : Hp} {Q : VK} {E : XK}, Same H11 HH → (∀ p le ls H', Same HH H' → H' p = some (.tup [.ref le, .ref ls, .int (ln : Int)]) → H' le = some (.lst ((whr (atIs r.at x) 0 bg).map V.int)) → H' ls = some (.lst ((whr (atIs r.at x) bg ln).map V.int)) → HH le = none → HH ls = none → le ≠ ls → Q (.ref p) H') → spWhere A_NoBy A_TooLong [.ref xa, .int x] HH Q E := fun {HH Q E} g hq => by
          refine ⟨.ref xa, r, x, rfl, hR8.same (gA.trans g), ok, fun z => (by omega), fun _ => ⟨hB, fun L' hL' hl' => ?_⟩⟩
          have eL := hL'.uniq hB.one hL
          subst eL
          refine ⟨fun hw2 => absurd hw (Nat.not_le_of_gt hw2), fun _ bg2 ln2 p le ls H' g' hRd2 _ hp hle hls f1 f2 ne => ?_⟩
          obtain ⟨rfl, rfl⟩ := hRd2.uniq hRd
          exact hq p le ls H' g' hp hle hls f1 f2 ne
        refine ⟨_, rfl, _, rfl, ?_⟩
        dsimp only [tNil]
        refine asks (Same.refl _) fun p le ls H12 g12 hp hle hls f1 f2 ne => ?_
        refine ⟨_, rfl, _, rfl, .ref p, .ref pd, rfl, due g12 hp hle hls, fun H13 g13 => ⟨_, rfl, iteF ?_⟩⟩
        have hp13 := g13 _ _ hp
        have hle13 := g13 _ _ hle
        have hls13 := g13 _ _ hls
        have gB := g12.trans g13
        refine ⟨_, rfl, _, _, .inr (SqT.of hp13), rfl, ?_⟩
        refine ⟨.inl ⟨rfl, _, SqL.of hle13⟩, le, _, _, rfl, rfl, hle13, (by rw [List.length_map]; exact Nat.lt_of_le_of_lt (whr_len ..) (Nat.lt_of_le_of_lt (show bg ≤ 4096 by omega) (by decide))), ?_⟩
        have gC := gB.upd f1 (.lst ((whr (atIs r.at x) 0 bg).map V.int ++ [.int 0]))
        have hp14 : (upd H13 le (.lst ((whr (atIs r.at x) 0 bg).map V.int ++ [.int 0]))) p = some (.tup [.ref le, .ref ls, .int (ln : Int)]) := by rw [upd_ne (fun z => by rw [z, hle13] at hp13; cases hp13)]; exact hp13
        have hls14 : (upd H13 le (.lst ((whr (atIs r.at x) 0 bg).map V.int ++ [.int 0]))) ls = some (.lst ((whr (atIs r.at x) bg ln).map V.int)) := by rw [upd_ne ne.symm]; exact hls13
        generalize upd H13 le (.lst ((whr (atIs r.at x) 0 bg).map V.int ++ [.int 0])) = H14 at gC hp14 hls14
        refine ⟨_, rfl, _, _, .inr (SqT.of hp14), rfl, ?_⟩
        refine ⟨.inl ⟨rfl, _, SqL.of hls14⟩, ls, _, rfl, rfl, hls14, ?_⟩
        have gD := gC.upd f2 (.lst [])
        generalize upd H14 ls (.lst []) = H15 at gD
        refine ⟨_, rfl, _, rfl, ?_⟩
        dsimp only [tNil]
        refine asks gD fun p2 le2 ls2 H16 g16 hp2 hle2 hls2 _ _ _ => ?_
        refine ⟨_, rfl, .ref p2, .ref pd, rfl, due (gD.trans g16) hp2 hle2 hls2, fun H17 g17 => ⟨_, rfl, iteF ?_⟩⟩
        exact ⟨_, _, _, _, rfl, g8.trans (gA.trans (gD.trans (g16.trans g17)))⟩
      · rintro σ' H8 ⟨o7, o8, o9, o10, rfl, g8⟩
        exact q _
    · have hw2 : 4096 < r.b.toNat ^ (L.length - 1) := Nat.lt_of_not_le hw
      have hw3 := hw2
      rw [tn] at hw3
      rw [decide_eq_true (show (4096 : Int) < ((P0 ^ (L.length - 1) : Nat) : Int) by omega)]
      refine ⟨_, rfl, iteT ?_⟩
      refine ⟨_, rfl, _, rfl, _, rfl, _, _, .inl (SqL.of h5), atI_back (ns := xs) (xs.length - 1) (by decide) (by show (-1 : Int) + _ = _; omega), .ref xa, r, _, L, rfl, hR.same g35, ok, hB, hL, hw2, fun H6 g6 => ?_⟩
      refine ⟨_, rfl, iteT ?_⟩
      exact ⟨_, rfl, .ref xa, r, 0, L, rfl, hR.same (g35.trans g6), ok, hB, hL, hw2, fun H7 g7 => q _⟩
end
theorem all_mk {l : PySem.W.OpenLaw} {w : World} {K : PySem.W.Frag} {h : Heap} {mg : Str → Option Value} {fa : Addr} (X : K.In h) (G : h.Ns mainGlobals mg) (hfa : mg "law" = some (.ref fa))
    (F0 : FnIn K "is_prime" s_is_prime) (F1 : FnIn K "taken" s_taken) (F2 : FnIn K "inverse" s_inverse) (F3 : FnIn K "over" s_over) (F4 : FnIn K "next_place" s_next_place) (F5 : FnIn K "first_places" s_first_places) (F6 : FnIn K "trimmed" s_trimmed) (F7 : FnIn K "divided" s_divided) (F8 : FnIn K "monic" s_monic) (F9 : FnIn K "greatest" s_greatest) (F10 : FnIn K "of_rule" s_of_rule) (F11 : FnIn K "rule_of" s_rule_of) (F12 : FnIn K "prime_above" s_prime_above) (F13 : FnIn K "divides" s_divides) (F14 : FnIn K "taken_poly" s_taken_poly) (F15 : FnIn K "nearest" s_nearest) (F16 : FnIn K "joined" s_joined) (F17 : FnIn K "whole_greatest" s_whole_greatest) (F18 : FnIn K "shared_divisor" s_shared_divisor) (F19 : FnIn K "top_of" s_top_of) (F20 : FnIn K "least_of" s_least_of) (F21 : FnIn K "shortest" s_shortest) (F22 : FnIn K "refuse_wide" s_refuse_wide) (F23 : FnIn K "round_row" s_round_row) (F24 : FnIn K "came_round" s_came_round) (F25 : FnIn K "where" s_where) (F26 : FnIn K "_law_at" s_Lat) (F27 : FnIn K "_law_row" s_Lrow) (F28 : FnIn K "_law_round" s_Lround) (F29 : FnIn K "_law_whole" s_Lwhole) (F30 : FnIn K "_law_alike" s_Lalike) (F31 : FnIn K "_law_too_long" s_Ltoo_long) (F32 : FnIn K "_law_refused" s_Lrefused) (FL : FnIn K "law" s_law) (z_ValueError : PySem.W.nsIn K mainGlobals "ValueError" = some none) (z_all : PySem.W.nsIn K mainGlobals "all" = some none) (z_bool : PySem.W.nsIn K mainGlobals "bool" = some none) (z_int : PySem.W.nsIn K mainGlobals "int" = some none) (z_isinstance : PySem.W.nsIn K mainGlobals "isinstance" = some none) (z_len : PySem.W.nsIn K mainGlobals "len" = some none) (z_list : PySem.W.nsIn K mainGlobals "list" = some none) (z_max : PySem.W.nsIn K mainGlobals "max" = some none) (z_min : PySem.W.nsIn K mainGlobals "min" = some none) (z_range : PySem.W.nsIn K mainGlobals "range" = some none) (z_sum : PySem.W.nsIn K mainGlobals "sum" = some none) (z_tuple : PySem.W.nsIn K mainGlobals "tuple" = some none) (g_BELOW_THE_PRIMES : ∃ t, PySem.W.nsIn K mainGlobals "BELOW_THE_PRIMES" = some (some (.int 1000000 t))) (g_MOST_WINDOWS : ∃ t, PySem.W.nsIn K mainGlobals "MOST_WINDOWS" = some (some (.int 4096 t))) {A_NoBy : Addr} (n_NoBy : PySem.W.nsIn K mainGlobals "NoBy" = some (some (.ref A_NoBy))) {A_RuleError : Addr} (n_RuleError : PySem.W.nsIn K mainGlobals "RuleError" = some (some (.ref A_RuleError))) {A_TooLong : Addr} (n_TooLong : PySem.W.nsIn K mainGlobals "TooLong" = some (some (.ref A_TooLong))) (q_NoBy : PySem.W.excIn K A_NoBy [.type "ValueError", .type "Exception", .type "BaseException", .type "object"] "ValueError.__new__" = true) (u_NoBy_RuleError : excSub K A_NoBy A_RuleError = true) (v_NoBy_RuleError : PySem.W.ktsIn K A_RuleError "BaseException" = true) (w1_NoBy : PySem.W.findIn K (.ref A_NoBy) "__getattribute__" = some (some (.builtin "BaseException.__getattribute__"))) (w2_NoBy : PySem.W.findIn K (.ref A_NoBy) "__getattr__" = some none) (w3_NoBy : PySem.W.findIn K (.ref A_NoBy) "__class__" = some (some (.builtin "object.__class__"))) (w4_NoBy : PySem.W.mroIn K A_NoBy (.type "BaseException") = some true) (w5_NoBy : PySem.W.mroIn K A_NoBy (.type "object") = some true) (w6_NoBy : (PySem.W.clsIn K A_NoBy).isSome = true) (k_NoBy_NoBy : PySem.W.kitOne K (.ref A_NoBy) (.ref A_NoBy) = some true) (k_NoBy_RuleError : PySem.W.kitOne K (.ref A_NoBy) (.ref A_RuleError) = some true) (k_NoBy_TooLong : PySem.W.kitOne K (.ref A_NoBy) (.ref A_TooLong) = some false) (k_NoBy_ValueError : PySem.W.kitOne K (.ref A_NoBy) (.type "ValueError") = some true) (q_TooLong : PySem.W.excIn K A_TooLong [.type "ValueError", .type "Exception", .type "BaseException", .type "object"] "ValueError.__new__" = true) (u_TooLong_RuleError : excSub K A_TooLong A_RuleError = true) (v_TooLong_RuleError : PySem.W.ktsIn K A_RuleError "BaseException" = true) (w1_TooLong : PySem.W.findIn K (.ref A_TooLong) "__getattribute__" = some (some (.builtin "BaseException.__getattribute__"))) (w2_TooLong : PySem.W.findIn K (.ref A_TooLong) "__getattr__" = some none) (w3_TooLong : PySem.W.findIn K (.ref A_TooLong) "__class__" = some (some (.builtin "object.__class__"))) (w4_TooLong : PySem.W.mroIn K A_TooLong (.type "BaseException") = some true) (w5_TooLong : PySem.W.mroIn K A_TooLong (.type "object") = some true) (w6_TooLong : (PySem.W.clsIn K A_TooLong).isSome = true) (k_TooLong_NoBy : PySem.W.kitOne K (.ref A_TooLong) (.ref A_NoBy) = some false) (k_TooLong_RuleError : PySem.W.kitOne K (.ref A_TooLong) (.ref A_RuleError) = some true) (k_TooLong_TooLong : PySem.W.kitOne K (.ref A_TooLong) (.ref A_TooLong) = some true) (k_TooLong_ValueError : PySem.W.kitOne K (.ref A_TooLong) (.type "ValueError") = some true) :
    ∃ fd : FuncData, (∀ (s : Shared) (v : Value), BindsTo s fd ⟨[v], []⟩ [("_law_script", v)]) ∧ ∀ base : Heap, K.In base → base.Ns mainGlobals mg → FnOk l.prog w K mg base (Flown l.prog w) KLAW fa fd ["_law_script"] (spLaw K) := by
  obtain ⟨f, oc, od, kV, doc, pm, an, cdv, ct, sl, e1, e2, e3, e4⟩ := FL.ex
  have e := hfa.symm.trans (PySem.W.mg_of X G e1)
  cases e
  have FF := fun_mk (st := s_law) e2 e3 e4
  have B : Bt mg := ⟨PySem.W.mg_none_of X G z_ValueError, PySem.W.mg_none_of X G z_all, PySem.W.mg_none_of X G z_bool, PySem.W.mg_none_of X G z_int, PySem.W.mg_none_of X G z_isinstance, PySem.W.mg_none_of X G z_len, PySem.W.mg_none_of X G z_list, PySem.W.mg_none_of X G z_max, PySem.W.mg_none_of X G z_min, PySem.W.mg_none_of X G z_range, PySem.W.mg_none_of X G z_sum, PySem.W.mg_none_of X G z_tuple, (let ⟨t, q⟩ := g_BELOW_THE_PRIMES; ⟨t, PySem.W.mg_of X G q⟩), (let ⟨t, q⟩ := g_MOST_WINDOWS; ⟨t, PySem.W.mg_of X G q⟩)⟩
  have G0 := F0.fn X G (ps := ["number"]) fun _ _ _ _ _ _ us hl => match us, (show us.length = 1 from hl) with | [_], _ => rfl
  have G1 := F1.fn X G (ps := ["by", "number"]) fun _ _ _ _ _ _ us hl => match us, (show us.length = 2 from hl) with | [_, _], _ => rfl
  have G2 := F2.fn X G (ps := ["prime", "number"]) fun _ _ _ _ _ _ us hl => match us, (show us.length = 2 from hl) with | [_, _], _ => rfl
  have G3 := F3.fn X G (ps := ["by", "one", "other"]) fun _ _ _ _ _ _ us hl => match us, (show us.length = 3 from hl) with | [_, _, _], _ => rfl
  have G4 := F4.fn X G (ps := ["by", "rule", "before"]) fun _ _ _ _ _ _ us hl => match us, (show us.length = 3 from hl) with | [_, _, _], _ => rfl
  have G5 := F5.fn X G (ps := ["row", "count"]) fun _ _ _ _ _ _ us hl => match us, (show us.length = 2 from hl) with | [_, _], _ => rfl
  have G6 := F6.fn X G (ps := ["numbers"]) fun _ _ _ _ _ _ us hl => match us, (show us.length = 1 from hl) with | [_], _ => rfl
  have G7 := F7.fn X G (ps := ["by", "one", "other"]) fun _ _ _ _ _ _ us hl => match us, (show us.length = 3 from hl) with | [_, _, _], _ => rfl
  have G8 := F8.fn X G (ps := ["prime", "poly"]) fun _ _ _ _ _ _ us hl => match us, (show us.length = 2 from hl) with | [_, _], _ => rfl
  have G9 := F9.fn X G (ps := ["by", "one", "other"]) fun _ _ _ _ _ _ us hl => match us, (show us.length = 3 from hl) with | [_, _, _], _ => rfl
  have G10 := F10.fn X G (ps := ["by", "rule"]) fun _ _ _ _ _ _ us hl => match us, (show us.length = 2 from hl) with | [_, _], _ => rfl
  have G11 := F11.fn X G (ps := ["by", "poly"]) fun _ _ _ _ _ _ us hl => match us, (show us.length = 2 from hl) with | [_, _], _ => rfl
  have G12 := F12.fn X G (ps := ["number"]) fun _ _ _ _ _ _ us hl => match us, (show us.length = 1 from hl) with | [_], _ => rfl
  have G13 := F13.fn X G (ps := ["monic_one", "poly"]) fun _ _ _ _ _ _ us hl => match us, (show us.length = 2 from hl) with | [_, _], _ => rfl
  have G14 := F14.fn X G (ps := ["prime", "poly"]) fun _ _ _ _ _ _ us hl => match us, (show us.length = 2 from hl) with | [_, _], _ => rfl
  have G15 := F15.fn X G (ps := ["modulus", "number"]) fun _ _ _ _ _ _ us hl => match us, (show us.length = 2 from hl) with | [_, _], _ => rfl
  have G16 := F16.fn X G (ps := ["modulus", "number", "prime", "rest"]) fun _ _ _ _ _ _ us hl => match us, (show us.length = 4 from hl) with | [_, _, _, _], _ => rfl
  have G17 := F17.fn X G (ps := ["one", "other"]) fun _ _ _ _ _ _ us hl => match us, (show us.length = 2 from hl) with | [_, _], _ => rfl
  have G18 := F18.fn X G (ps := ["by", "one", "other"]) fun _ _ _ _ _ _ us hl => match us, (show us.length = 3 from hl) with | [_, _, _], _ => rfl
  have G19 := F19.fn X G (ps := ["row", "poly"]) fun _ _ _ _ _ _ us hl => match us, (show us.length = 2 from hl) with | [_, _], _ => rfl
  have G20 := F20.fn X G (ps := ["row"]) fun _ _ _ _ _ _ us hl => match us, (show us.length = 1 from hl) with | [_], _ => rfl
  have G21 := F21.fn X G (ps := ["row"]) fun _ _ _ _ _ _ us hl => match us, (show us.length = 1 from hl) with | [_], _ => rfl
  have G22 := F22.fn X G (ps := ["prime", "length"]) fun _ _ _ _ _ _ us hl => match us, (show us.length = 2 from hl) with | [_, _], _ => rfl
  have G23 := F23.fn X G (ps := ["row"]) fun _ _ _ _ _ _ us hl => match us, (show us.length = 1 from hl) with | [_], _ => rfl
  have G24 := F24.fn X G (ps := ["row"]) fun _ _ _ _ _ _ us hl => match us, (show us.length = 1 from hl) with | [_], _ => rfl
  have G25 := F25.fn X G (ps := ["row", "number"]) fun _ _ _ _ _ _ us hl => match us, (show us.length = 2 from hl) with | [_, _], _ => rfl
  have G26 := F26.fn X G (ps := ["_law_script", "_law_k"]) fun _ _ _ _ _ _ us hl => match us, (show us.length = 2 from hl) with | [_, _], _ => rfl
  have G27 := F27.fn X G (ps := ["_law_script", "_law_at_here"]) fun _ _ _ _ _ _ us hl => match us, (show us.length = 2 from hl) with | [_, _], _ => rfl
  have G28 := F28.fn X G (ps := ["_law_row_here"]) fun _ _ _ _ _ _ us hl => match us, (show us.length = 1 from hl) with | [_], _ => rfl
  have G29 := F29.fn X G (ps := ["_law_found"]) fun _ _ _ _ _ _ us hl => match us, (show us.length = 1 from hl) with | [_], _ => rfl
  have G30 := F30.fn X G (ps := ["_law_found", "_law_due"]) fun _ _ _ _ _ _ us hl => match us, (show us.length = 2 from hl) with | [_, _], _ => rfl
  have G31 := F31.fn X G (ps := ["_law_by", "_law_size"]) fun _ _ _ _ _ _ us hl => match us, (show us.length = 2 from hl) with | [_, _], _ => rfl
  have G32 := F32.fn X G (ps := ["_law_row_here", "_law_number"]) fun _ _ _ _ _ _ us hl => match us, (show us.length = 2 from hl) with | [_, _], _ => rfl
  refine ⟨PySem.W.fnOf "law" "law" (defArgs s_law) (defBody s_law) (defScope s_law) .none kV doc pm an cdv ct, fun s v => .of_eq rfl, fun base kB gB => ?_⟩
  have M : Ms K mg base A_NoBy A_RuleError A_TooLong := ⟨PySem.W.mg_of X G n_NoBy, PySem.W.mg_of X G n_RuleError, PySem.W.mg_of X G n_TooLong, exC_of kB gB n_NoBy q_NoBy F.excBase_ValueError (by decide), exS_of kB u_NoBy_RuleError v_NoBy_RuleError, ⟨w1_NoBy, w2_NoBy, w3_NoBy, w4_NoBy, w5_NoBy, w6_NoBy⟩, k_NoBy_NoBy, k_NoBy_RuleError, k_NoBy_TooLong, k_NoBy_ValueError, exC_of kB gB n_TooLong q_TooLong F.excBase_ValueError (by decide), exS_of kB u_TooLong_RuleError v_TooLong_RuleError, ⟨w1_TooLong, w2_TooLong, w3_TooLong, w4_TooLong, w5_TooLong, w6_TooLong⟩, k_TooLong_NoBy, k_TooLong_RuleError, k_TooLong_TooLong, k_TooLong_ValueError⟩
  have C_is_prime := ok_is_prime (P := l.prog) (w := w) (base := base) B G0 M 
  have C_taken := ok_taken (P := l.prog) (w := w) (base := base) B G1 M 
  have C_inverse := ok_inverse (P := l.prog) (w := w) (base := base) B G2 M C_taken
  have C_over := ok_over (P := l.prog) (w := w) (base := base) B G3 M C_taken C_inverse
  have C_next_place := ok_next_place (P := l.prog) (w := w) (base := base) B G4 M C_taken
  have C_first_places := ok_first_places (P := l.prog) (w := w) (base := base) B G5 M C_next_place
  have C_trimmed := ok_trimmed (P := l.prog) (w := w) (base := base) B G6 M 
  have C_divided := ok_divided (P := l.prog) (w := w) (base := base) B G7 M C_taken C_trimmed
  have C_monic := ok_monic (P := l.prog) (w := w) (base := base) B G8 M C_over
  have C_greatest := ok_greatest (P := l.prog) (w := w) (base := base) B G9 M C_monic C_divided
  have C_of_rule := ok_of_rule (P := l.prog) (w := w) (base := base) B G10 M C_taken
  have C_rule_of := ok_rule_of (P := l.prog) (w := w) (base := base) B G11 M C_taken
  have C_prime_above := ok_prime_above (P := l.prog) (w := w) (base := base) B G12 M C_is_prime
  have C_divides := ok_divides (P := l.prog) (w := w) (base := base) B G13 M C_divided
  have C_taken_poly := ok_taken_poly (P := l.prog) (w := w) (base := base) B G14 M C_trimmed C_taken
  have C_nearest := ok_nearest (P := l.prog) (w := w) (base := base) B G15 M 
  have C_joined := ok_joined (P := l.prog) (w := w) (base := base) B G16 M C_over C_taken C_nearest
  have C_whole_greatest := ok_whole_greatest (P := l.prog) (w := w) (base := base) B G17 M C_divides C_prime_above C_greatest C_taken_poly C_nearest C_joined
  have C_shared_divisor := ok_shared_divisor (P := l.prog) (w := w) (base := base) B G18 M C_whole_greatest C_greatest
  have C_top_of := ok_top_of (P := l.prog) (w := w) (base := base) B G19 M C_taken C_trimmed
  have C_least_of := ok_least_of (P := l.prog) (w := w) (base := base) B G20 M C_of_rule C_top_of C_divided C_shared_divisor
  have C_shortest := ok_shortest (P := l.prog) (w := w) (base := base) B G21 M C_least_of C_rule_of
  have C_refuse_wide := ok_refuse_wide (P := l.prog) (w := w) (base := base) B G22 M 
  have C_round_row := ok_round_row (P := l.prog) (w := w) (base := base) B G23 M C_shortest C_refuse_wide
  have C_came_round := ok_came_round (P := l.prog) (w := w) (base := base) B G24 M C_next_place
  have C_where := ok_where (P := l.prog) (w := w) (base := base) B G25 M C_round_row C_came_round C_first_places
  have C_Lat := ok_Lat (P := l.prog) (w := w) (base := base) B G26 M 
  have C_Lrow := ok_Lrow (P := l.prog) (w := w) (base := base) B G27 M C_Lat
  have C_Lround := ok_Lround (P := l.prog) (w := w) (base := base) B G28 M 
  have C_Lwhole := ok_Lwhole (P := l.prog) (w := w) (base := base) B G29 M 
  have C_Lalike := ok_Lalike (P := l.prog) (w := w) (base := base) B G30 M C_Lwhole
  have C_Ltoo_long := ok_Ltoo_long (P := l.prog) (w := w) (base := base) B G31 M 
  have C_Lrefused := ok_Lrefused (P := l.prog) (w := w) (base := base) B G32 M C_where
  exact ok_law B FF M C_Lrow C_Lat C_Ltoo_long C_shortest C_Lrefused C_Lround C_where C_Lalike
end K42
namespace L2
open PySem PySem.W PySem.W.X
theorem walkX_of {q : Program} {loose : List Str} {XP : (Str → Option Value) → Heap → Prop} {K : Params → Frag} {as : List Addr} {n t : Nat} {r : RowW} {d : DefRec} {kwd : List (Str × PySem.Expr)} {run : Value → List Value → Sem Value} (keys : ∀ P, as = (K P).map (·.1))
    (W : WalkO q loose XP (fun w h => (K w.params).In h) r d kwd run) : WalkX q loose XP (obsZ as) (valZ K n t) r d kwd run :=
  fun w s0 s1 mg mb G y a o pm cd doc dV kV h1 h2 h3 h4 h5 h6 args vals as' L p1 p2 p3 p4 p5 => W w s0 s1 mg mb G (InK.keeps w _ _ (z_facts keys y).2.1 L.keeps) a o pm cd doc dV kV h1 h2 h3 h4 h5 h6 args vals as' p1 p2 p3 p4 p5
end L2
open PySem PySem.W PyProof.Rows
set_option maxRecDepth 100000 in
set_option maxHeartbeats 0 in
theorem PySem.Challenge.cw_nextbyrule_k42_places_of_a_number_holds : PySem.Challenge.rw_nextbyrule_k42_places_of_a_number.Holds := by
  w_on; o_law; z_head; (case hw => w_witness2)
  k_fill
  refine L2.walkX_of (fun _ => by kernel_rfl) ?_
  refine L2.walk_of (l := PySem.Challenge.rw_nextbyrule_k42_places_of_a_number) (n := 63) (k := K42.KLAW) (x := "_law_script") (CX := fun w => L2.Flown PySem.Challenge.rw_nextbyrule_k42_places_of_a_number.prog w) (sp := fun _ => K42.spLaw _) rfl (by decide) rfl ⟨rfl, by decide, by decide⟩ (fun w h Y => Y) ?F (fun w H a ns hl _ hS => ⟨a, ns, rfl, hS, hl, fun _ => rfl⟩) (fun _ _ _ _ _ z => L2.flown_none z)
  case F =>
    intro w mg fa h KX G hmg
    refine' K42.all_mk KX G hmg ?F0 ?F1 ?F2 ?F3 ?F4 ?F5 ?F6 ?F7 ?F8 ?F9 ?F10 ?F11 ?F12 ?F13 ?F14 ?F15 ?F16 ?F17 ?F18 ?F19 ?F20 ?F21 ?F22 ?F23 ?F24 ?F25 ?F26 ?F27 ?F28 ?F29 ?F30 ?F31 ?F32 ?FL ?z_ValueError ?z_all ?z_bool ?z_int ?z_isinstance ?z_len ?z_list ?z_max ?z_min ?z_range ?z_sum ?z_tuple ?g_BELOW_THE_PRIMES ?g_MOST_WINDOWS ?n_NoBy ?n_RuleError ?n_TooLong ?q_NoBy ?u_NoBy_RuleError ?v_NoBy_RuleError ?w1_NoBy ?w2_NoBy ?w3_NoBy ?w4_NoBy ?w5_NoBy ?w6_NoBy ?k_NoBy_NoBy ?k_NoBy_RuleError ?k_NoBy_TooLong ?k_NoBy_ValueError ?q_TooLong ?u_TooLong_RuleError ?v_TooLong_RuleError ?w1_TooLong ?w2_TooLong ?w3_TooLong ?w4_TooLong ?w5_TooLong ?w6_TooLong ?k_TooLong_NoBy ?k_TooLong_RuleError ?k_TooLong_TooLong ?k_TooLong_ValueError
    (case F0 => (refine' L2.fnIn_mk ?a ?l ?c ?k; (case a => k_is); (case l => k_is); (case c => k_is); (case k => k_is)))
    (case F1 => (refine' L2.fnIn_mk ?a ?l ?c ?k; (case a => k_is); (case l => k_is); (case c => k_is); (case k => k_is)))
    (case F2 => (refine' L2.fnIn_mk ?a ?l ?c ?k; (case a => k_is); (case l => k_is); (case c => k_is); (case k => k_is)))
    (case F3 => (refine' L2.fnIn_mk ?a ?l ?c ?k; (case a => k_is); (case l => k_is); (case c => k_is); (case k => k_is)))
    (case F4 => (refine' L2.fnIn_mk ?a ?l ?c ?k; (case a => k_is); (case l => k_is); (case c => k_is); (case k => k_is)))
    (case F5 => (refine' L2.fnIn_mk ?a ?l ?c ?k; (case a => k_is); (case l => k_is); (case c => k_is); (case k => k_is)))
    (case F6 => (refine' L2.fnIn_mk ?a ?l ?c ?k; (case a => k_is); (case l => k_is); (case c => k_is); (case k => k_is)))
    (case F7 => (refine' L2.fnIn_mk ?a ?l ?c ?k; (case a => k_is); (case l => k_is); (case c => k_is); (case k => k_is)))
    (case F8 => (refine' L2.fnIn_mk ?a ?l ?c ?k; (case a => k_is); (case l => k_is); (case c => k_is); (case k => k_is)))
    (case F9 => (refine' L2.fnIn_mk ?a ?l ?c ?k; (case a => k_is); (case l => k_is); (case c => k_is); (case k => k_is)))
    (case F10 => (refine' L2.fnIn_mk ?a ?l ?c ?k; (case a => k_is); (case l => k_is); (case c => k_is); (case k => k_is)))
    (case F11 => (refine' L2.fnIn_mk ?a ?l ?c ?k; (case a => k_is); (case l => k_is); (case c => k_is); (case k => k_is)))
    (case F12 => (refine' L2.fnIn_mk ?a ?l ?c ?k; (case a => k_is); (case l => k_is); (case c => k_is); (case k => k_is)))
    (case F13 => (refine' L2.fnIn_mk ?a ?l ?c ?k; (case a => k_is); (case l => k_is); (case c => k_is); (case k => k_is)))
    (case F14 => (refine' L2.fnIn_mk ?a ?l ?c ?k; (case a => k_is); (case l => k_is); (case c => k_is); (case k => k_is)))
    (case F15 => (refine' L2.fnIn_mk ?a ?l ?c ?k; (case a => k_is); (case l => k_is); (case c => k_is); (case k => k_is)))
    (case F16 => (refine' L2.fnIn_mk ?a ?l ?c ?k; (case a => k_is); (case l => k_is); (case c => k_is); (case k => k_is)))
    (case F17 => (refine' L2.fnIn_mk ?a ?l ?c ?k; (case a => k_is); (case l => k_is); (case c => k_is); (case k => k_is)))
    (case F18 => (refine' L2.fnIn_mk ?a ?l ?c ?k; (case a => k_is); (case l => k_is); (case c => k_is); (case k => k_is)))
    (case F19 => (refine' L2.fnIn_mk ?a ?l ?c ?k; (case a => k_is); (case l => k_is); (case c => k_is); (case k => k_is)))
    (case F20 => (refine' L2.fnIn_mk ?a ?l ?c ?k; (case a => k_is); (case l => k_is); (case c => k_is); (case k => k_is)))
    (case F21 => (refine' L2.fnIn_mk ?a ?l ?c ?k; (case a => k_is); (case l => k_is); (case c => k_is); (case k => k_is)))
    (case F22 => (refine' L2.fnIn_mk ?a ?l ?c ?k; (case a => k_is); (case l => k_is); (case c => k_is); (case k => k_is)))
    (case F23 => (refine' L2.fnIn_mk ?a ?l ?c ?k; (case a => k_is); (case l => k_is); (case c => k_is); (case k => k_is)))
    (case F24 => (refine' L2.fnIn_mk ?a ?l ?c ?k; (case a => k_is); (case l => k_is); (case c => k_is); (case k => k_is)))
    (case F25 => (refine' L2.fnIn_mk ?a ?l ?c ?k; (case a => k_is); (case l => k_is); (case c => k_is); (case k => k_is)))
    (case F26 => (refine' L2.fnIn_mk ?a ?l ?c ?k; (case a => k_is); (case l => k_is); (case c => k_is); (case k => k_is)))
    (case F27 => (refine' L2.fnIn_mk ?a ?l ?c ?k; (case a => k_is); (case l => k_is); (case c => k_is); (case k => k_is)))
    (case F28 => (refine' L2.fnIn_mk ?a ?l ?c ?k; (case a => k_is); (case l => k_is); (case c => k_is); (case k => k_is)))
    (case F29 => (refine' L2.fnIn_mk ?a ?l ?c ?k; (case a => k_is); (case l => k_is); (case c => k_is); (case k => k_is)))
    (case F30 => (refine' L2.fnIn_mk ?a ?l ?c ?k; (case a => k_is); (case l => k_is); (case c => k_is); (case k => k_is)))
    (case F31 => (refine' L2.fnIn_mk ?a ?l ?c ?k; (case a => k_is); (case l => k_is); (case c => k_is); (case k => k_is)))
    (case F32 => (refine' L2.fnIn_mk ?a ?l ?c ?k; (case a => k_is); (case l => k_is); (case c => k_is); (case k => k_is)))
    (case FL => (refine' L2.fnIn_mk ?a ?l ?c ?k; (case a => k_is); (case l => k_is); (case c => k_is); (case k => k_is)))
    (case z_ValueError => k_is)
    (case z_all => k_is)
    (case z_bool => k_is)
    (case z_int => k_is)
    (case z_isinstance => k_is)
    (case z_len => k_is)
    (case z_list => k_is)
    (case z_max => k_is)
    (case z_min => k_is)
    (case z_range => k_is)
    (case z_sum => k_is)
    (case z_tuple => k_is)
    (case g_BELOW_THE_PRIMES => exact ⟨_, by k_is⟩)
    (case g_MOST_WINDOWS => exact ⟨_, by k_is⟩)
    (case n_NoBy => k_is)
    (case n_RuleError => k_is)
    (case n_TooLong => k_is)
    (case q_NoBy => k_exc)
    (case u_NoBy_RuleError => kernel_rfl)
    (case v_NoBy_RuleError => kernel_rfl)
    (case w1_NoBy => k_is)
    (case w2_NoBy => k_is)
    (case w3_NoBy => k_is)
    (case w4_NoBy => k_is)
    (case w5_NoBy => k_is)
    (case w6_NoBy => kernel_rfl)
    (case k_NoBy_NoBy => kit_is)
    (case k_NoBy_RuleError => kit_is)
    (case k_NoBy_TooLong => kit_is)
    (case k_NoBy_ValueError => kit_is)
    (case q_TooLong => k_exc)
    (case u_TooLong_RuleError => kernel_rfl)
    (case v_TooLong_RuleError => kernel_rfl)
    (case w1_TooLong => k_is)
    (case w2_TooLong => k_is)
    (case w3_TooLong => k_is)
    (case w4_TooLong => k_is)
    (case w5_TooLong => k_is)
    (case w6_TooLong => kernel_rfl)
    (case k_TooLong_NoBy => kit_is)
    (case k_TooLong_RuleError => kit_is)
    (case k_TooLong_TooLong => kit_is)
    (case k_TooLong_ValueError => kit_is)
