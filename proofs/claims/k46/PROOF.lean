import PyProof.Rows.All
import Wide.All
import OpenK.AllK
import Wide.FinOn
import Lean
import PyProof.EqAt
import PyProof.EqKinds
import PyProof.TupleCall
import PySem.Challenge.RW_nextbyrule_k46_no_closed_forms
local macro_rules | `(tactic| omega) => `(tactic| lia)
set_option Elab.async false
set_option linter.all false
set_option maxRecDepth 100000
namespace L2
open PySem PySem.Spec PyProof.Rows
noncomputable abbrev Key := Sum Int Str
noncomputable def keyIs : Key → Value → Bool
  | .inl k,v => Value.isInt k v
  | .inr x,v => Value.isStrOf x v
noncomputable def keyH (w : World) : Key → Int
  | .inl k => hashInt k
  | .inr x => hashStr w x
theorem keyIs_shape : ∀ {k : Key} {v : Value},keyIs k v = true → (∃ i t,k = Sum.inl i ∧ v = Value.int i t) ∨ (∃ x t,k = Sum.inr x ∧ v = Value.str x t)
  | .inl i,v,h => by
    obtain ⟨t,e⟩ := Value.isInt_shape (k := i) (v := v) h
    exact .inl ⟨i,t,rfl,e⟩
  | .inr x,v,h => by
    obtain ⟨t,e⟩ := Value.isStrOf_shape (x := x) (v := v) h
    exact .inr ⟨x,t,rfl,e⟩
theorem key_ll (a b : Int) : decide ((Sum.inl a : Key) = Sum.inl b) = (a == b) := by
  by_cases e : a = b
  · subst e; simp
  · have h : ¬ (Sum.inl a : Key) = Sum.inl b := fun q => e (Sum.inl.inj q)
    rw [decide_eq_false h]
    exact (beq_eq_false_iff_ne.mpr e).symm
theorem key_rr (a b : Str) : decide ((Sum.inr a : Key) = Sum.inr b) = decide (a = b) := by
  by_cases e : a = b
  · subst e; simp
  · have h : ¬ (Sum.inr a : Key) = Sum.inr b := fun q => e (Sum.inr.inj q)
    rw [decide_eq_false h,decide_eq_false e]
theorem key_lr (a : Int) (b : Str) : decide ((Sum.inl a : Key) = Sum.inr b) = false := decide_eq_false (fun q => nomatch q)
theorem key_rl (a : Str) (b : Int) : decide ((Sum.inr a : Key) = Sum.inl b) = false := decide_eq_false (fun q => nomatch q)
noncomputable def mixKind (prog : Program) (w : World) : PySem.KeyKind prog w Key where
  is := keyIs
  hash := keyH w
  inj := fun v a b ha hb => by
    rcases keyIs_shape ha with ⟨i,t,rfl,rfl⟩ | ⟨x,t,rfl,rfl⟩
    · rcases keyIs_shape hb with ⟨j,u,rfl,e⟩ | ⟨y,u,rfl,e⟩
      · injection e with e1 _; rw [e1]
      · exact nomatch e
    · rcases keyIs_shape hb with ⟨j,u,rfl,e⟩ | ⟨y,u,rfl,e⟩
      · exact nomatch e
      · injection e with e1 _; rw [e1]
  byValue := fun k v h => by
    rcases keyIs_shape h with ⟨i,t,rfl,rfl⟩ | ⟨x,t,rfl,rfl⟩ <;> rfl
  pyHash := fun hv h => by
    rcases keyIs_shape hv with ⟨i,t,rfl,rfl⟩ | ⟨x,t,rfl,rfl⟩
    · exact wpAny_pyHash_int h
    · exact wpAny_pyHash_str h
  eqBool := fun hu hv h => by
    rcases keyIs_shape hu with ⟨i,t,rfl,rfl⟩ | ⟨x,t,rfl,rfl⟩
    · rcases keyIs_shape hv with ⟨j,u,rfl,rfl⟩ | ⟨y,u,rfl,rfl⟩
      · rw [key_ll] at h; exact wpAny_eqBool_int h
      · rw [key_lr] at h; exact SeqAt.EqAt.int_str i t y u _ _ _ _ h
    · rcases keyIs_shape hv with ⟨j,u,rfl,rfl⟩ | ⟨y,u,rfl,rfl⟩
      · rw [key_rl] at h; exact SeqAt.EqAt.str_int x t j u _ _ _ _ h
      · rw [key_rr] at h; exact wpAny_eqBool_str h
  «strs» := fun k x t v h => by
    rcases keyIs_shape h with ⟨i,u,rfl,e⟩ | ⟨y,u,rfl,e⟩
    · exact nomatch e
    · injection e with e1 _
      subst e1
      cases v <;> rfl
end L2
namespace L2
open PySem PySem.Spec PyProof.Rows
inductive V where
  | non | bl (b : Bool) | int (i : Int) | str (x : Str) | byt (b : Array UInt8) | flt (b : UInt64) | ref (a : Addr) | ty (n : String)
  deriving DecidableEq
noncomputable def RelV : V → Value → Prop
  | .non,u => u = Value.none
  | .bl b,u => u = Value.bool b
  | .int i,u => ∃ t,u = Value.int i t
  | .str x,u => ∃ t,u = Value.str x t
  | .byt b,u => ∃ t,u = Value.bytes b t
  | .flt b,u => ∃ t,u = Value.float b t
  | .ref a,u => u = Value.ref a
  | .ty n,u => u = Value.type n
noncomputable abbrev Vals : List V → List Value → Prop := Paired RelV
theorem Vals.length {xs : List V} {us : List Value} (r : Vals xs us) : xs.length = us.length := Paired.length r
theorem Vals.get : ∀ {xs : List V} {us : List Value} {i : Nat} {x : V},Vals xs us → xs[i]? = some x → ∃ u,us[i]? = some u ∧ RelV x u
  | _,_,_,_,.nil,e => by simp at e
  | _,_,0,_,.cons r _,e => by simp at e; subst e; exact ⟨_,rfl,r⟩
  | _,_,i + 1,x,.cons _ t,e => by
    obtain ⟨u,h1,h2⟩ := Vals.get (i := i) (x := x) t (by simpa using e)
    exact ⟨u,by simpa using h1,h2⟩
theorem Vals.set {x : V} {u : Value} (r : RelV x u) : ∀ {xs : List V} {us : List Value} (i : Nat),Vals xs us → Vals (xs.set i x) (us.set i u)
  | _,_,_,.nil => .nil
  | _,_,0,.cons _ t => .cons r t
  | _,_,i + 1,.cons q t => .cons q (Vals.set r i t)
theorem Vals.append : ∀ {xs ys : List V} {us ws : List Value},Vals xs us → Vals ys ws → Vals (xs ++ ys) (us ++ ws)
  | _,_,_,_,.nil,s => s
  | _,_,_,_,.cons r t,s => .cons r (Vals.append t s)
theorem Vals.take : ∀ {xs : List V} {us : List Value} (n : Nat),Vals xs us → Vals (xs.take n) (us.take n)
  | _,_,0,_ => .nil
  | _,_,_ + 1,.nil => .nil
  | _,_,n + 1,.cons r t => .cons r (Vals.take n t)
theorem Vals.drop : ∀ {xs : List V} {us : List Value} (n : Nat),Vals xs us → Vals (xs.drop n) (us.drop n)
  | _,_,0,r => r
  | _,_,_ + 1,.nil => .nil
  | _,_,n + 1,.cons _ t => Vals.drop n t
noncomputable def RelO : Option V → Option Value → Prop
  | some v,some u => RelV v u
  | none,none => True
  | _,_ => False
noncomputable def KV {κ : Type} : List (κ × V) → List (κ × Value) → Prop := Paired fun (p : κ × V) (q : κ × Value) => p.1 = q.1 ∧ RelV p.2 q.2
noncomputable def kV : Key → V
  | .inl i => .int i
  | .inr x => .str x
inductive HO where
  /-- a list -/
  | lst (xs : List V)
  /-- a tuple (never changes) -/
  | tup (xs : List V)
  /-- a dict whose keys are ints and texts; one whose keys are tuples of ints and texts (the empty one is both) -/
  | dK (kvs : List (Key × V)) | dT (kvs : List (List Key × V))
  /-- a set of ints: its members,its size -/
  | set (S : Int → Bool) (n : Nat)
  /-- an instance of the class at C,its dict at dx,its attributes -/
  | ins (C dx : Addr) (fs : List (Str × V))
  /-- the dict of the instance at x -/
  | own (x : Addr)
  /-- the dict of an exception -/
  | xd (fs : List (Str × V))
  /-- a bound method,f of x -/
  | met (f x : Addr)
  /-- a range object lo,lo + 1,.. below hi -/
  | rng (lo hi : Int)
  /-- a thing that is known to the object (the script; a dict while a loop walks it): read,never written while it is so -/
  | frz (o : Obj) (u : HO)
  /-- a code object's table -/
  | tbl (ps : Array Value)
  /-- any other thing,by what is true of its one object (a def of one's own: SetO a S n := HO.ext fun h => ..) -/
  | ext (φ : Heap → Prop)
noncomputable abbrev Hp := Addr → Option HO
noncomputable def upd (H : Hp) (a : Addr) (o : HO) : Hp := fun b => if b = a then some o else H b
theorem upd_same {H : Hp} {a : Addr} {o : HO} : upd H a o a = some o := by unfold upd; rw [if_pos rfl]
theorem upd_ne {H : Hp} {a b : Addr} {o : HO} (h : b ≠ a) : upd H a o b = H b := by unfold upd; rw [if_neg h]
theorem upd_upd {H : Hp} {a : Addr} {o u : HO} : upd (upd H a o) a u = upd H a u := by
  funext b; unfold upd; split <;> rfl
theorem ne_of_none {H : Hp} {a b : Addr} {o : HO} (h : H a = some o) (h' : H b = none) : a ≠ b := by
  intro e; subst e; rw [h] at h'; cases h'
section
variable (P : Program) (w : World)
noncomputable def ObjOk (H : Hp) (h : Heap) (a : Addr) : HO → Prop
  | .lst xs => xs.length ≤ sizeLine ∧ ∃ (its : List Value) (n : Nat),Vals xs its ∧ h.get? a = some { cls := .type "list",data := .seq its.toArray n }
  | .tup xs => xs.length ≤ sizeLine ∧ ∃ its : List Value,Vals xs its ∧ IsTup h a its.toArray
  | .dK kvs => kvs.length ≤ sizeLine ∧ (a == sysModules) = false ∧ ∃ vs,KV kvs vs ∧ h.DictOf (mixKind P w) a vs
  | .dT kvs => kvs.length ≤ sizeLine ∧ (a == sysModules) = false ∧ ∃ xs : List (List Key × Addr × Value),
      Paired (fun (p : List Key × V) (q : List Key × Addr × Value) => p.1 = q.1 ∧ H q.2.1 = some (.tup (p.1.map kV)) ∧ RelV p.2 q.2.2) kvs xs ∧
      ∃ o es ep,h.get? a = some o ∧ o.ExactDict ∧ o.data = .dict es ep ∧ es.toList = xs.map (entryOfKey (tupleKind (mixKind P w))) ∧ (xs.map (·.1)).Nodup
  | .set S n => h.SetOf (intKind P w) a S n
  | .ins C dx fs => H dx = some (.own a) ∧ fs.length ≤ 1000 ∧ dx ≠ a ∧ h.get? a = some (PySem.W.instObj C dx) ∧
      ∃ mA,h.Ns1 dx mA ∧ (∀ f,RelO (fs.lookup f) (mA f)) ∧ PySem.Within mA (fs.map (·.1))
  | .own _ => ∃ o,h.get? a = some o
  | .xd fs => ∃ mA,h.Ns1 a mA ∧ ∀ f,RelO (fs.lookup f) (mA f)
  | .rng lo hi => ∃ t u v,h.get? a = some { cls := .type "range",data := .fields #[.int lo t,.int hi u,.int 1 v] }
  | .frz o u => h.get? a = some o ∧ ObjOk H h a u
  | .tbl ps => h.get? a = some { cls := .none,data := .fields ps }
  | .met f x => h.get? a = some (PySem.W.methodObj (.ref f) (.ref x))
  | .ext φ => φ h ∧ (∃ o,h.get? a = some o) ∧ ∀ h1 h2 : Heap,φ h1 → (∀ o,h1.get? a = some o → h2.get? a = some o) → φ h2
noncomputable def HOk (H : Hp) (h : Heap) : Prop := ∀ a o,H a = some o → ObjOk P w H h a o
end
section
variable {P : Program} {w : World} {H H' : Hp} {h h' : Heap} {a : Addr} {o : HO}
theorem ObjOk.lt (x : ObjOk P w H h a o) : a < h.objs.size := by
  cases o with
  | lst xs => obtain ⟨_,_,_,_,e⟩ := x; exact Heap.lt_size e
  | tup xs => obtain ⟨_,_,_,p⟩ := x; exact p.lt
  | dK kvs => obtain ⟨_,_,_,_,o,_,_,e,_⟩ := x; exact Heap.lt_size e
  | dT kvs => obtain ⟨_,_,_,_,o,_,_,e,_⟩ := x; exact Heap.lt_size e
  | set S n => obtain ⟨o,_,_,_,e,_⟩ := x; exact Heap.lt_size e
  | ins C dx fs => obtain ⟨_,_,_,e,_⟩ := x; exact Heap.lt_size e
  | own y => obtain ⟨_,e⟩ := x; exact Heap.lt_size e
  | xd fs => obtain ⟨_,⟨_,_,_,e,_⟩,_⟩ := x; exact Heap.lt_size e
  | rng lo hi => obtain ⟨_,_,_,e⟩ := x; exact Heap.lt_size e
  | frz ob u => obtain ⟨e,_⟩ := x; exact Heap.lt_size e
  | tbl ps => exact Heap.lt_size (show h.get? a = some _ from x)
  | met f y => exact Heap.lt_size (show h.get? a = some _ from x)
  | ext φ => obtain ⟨_,⟨_,e⟩,_⟩ := x; exact Heap.lt_size e
theorem Paired.mapP {α β : Type} {F G : α → β → Prop} : ∀ {l₁ : List α} {l₂ : List β},Paired F l₁ l₂ → (∀ a b,F a b → G a b) → Paired G l₁ l₂
  | _,_,.nil,_ => .nil
  | _,_,.cons r t,f => .cons (f _ _ r) (Paired.mapP t f)
theorem ObjOk.stay (x : ObjOk P w H h a o) (k : ∀ b u,(b = a ∨ H b = some (.own a)) → h.get? b = some u → h'.get? b = some u)
    (ho : ∀ b,H b = some (.own a) → H' b = some (.own a)) (ht : ∀ b xs,H b = some (.tup xs) → H' b = some (.tup xs)) : ObjOk P w H' h' a o := by
  induction o with
  | lst xs => obtain ⟨z,its,n,r,e⟩ := x; exact ⟨z,its,n,r,k _ _ (.inl rfl) e⟩
  | tup xs => obtain ⟨z,its,r,ob,e,c⟩ := x; exact ⟨z,its,r,ob,k _ _ (.inl rfl) e,c⟩
  | dK kvs => obtain ⟨z,y,vs,r,ob,es,ep,e,c⟩ := x; exact ⟨z,y,vs,r,ob,es,ep,k _ _ (.inl rfl) e,c⟩
  | dT kvs =>
    obtain ⟨z,y,xs,r,ob,es,ep,e,c⟩ := x
    exact ⟨z,y,xs,Paired.mapP r fun p q z => ⟨z.1,ht _ _ z.2.1,z.2.2⟩,ob,es,ep,k _ _ (.inl rfl) e,c⟩
  | set S n => obtain ⟨ob,es,ep,t,e,c⟩ := x; exact ⟨ob,es,ep,t,k _ _ (.inl rfl) e,c⟩
  | ins C dx fs =>
    obtain ⟨d,z,ne,e,mA,⟨od,es,ep,e2,c⟩,r⟩ := x
    exact ⟨ho _ d,z,ne,k _ _ (.inl rfl) e,mA,⟨od,es,ep,k _ _ (.inr d) e2,c⟩,r⟩
  | own y => obtain ⟨ob,e⟩ := x; exact ⟨ob,k _ _ (.inl rfl) e⟩
  | xd fs => obtain ⟨mA,⟨od,es,ep,e,c⟩,r⟩ := x; exact ⟨mA,⟨od,es,ep,k _ _ (.inl rfl) e,c⟩,r⟩
  | rng lo hi => obtain ⟨t,u,v,e⟩ := x; exact ⟨t,u,v,k _ _ (.inl rfl) e⟩
  | frz ob u ih => obtain ⟨e,q⟩ := x; exact ⟨k _ _ (.inl rfl) e,ih q⟩
  | tbl ps =>
    have e : h.get? a = some { cls := .none,data := .fields ps } := x
    show h'.get? a = some { cls := .none,data := .fields ps }
    exact k a _ (.inl rfl) e
  | met f y =>
    have e : h.get? a = some (PySem.W.methodObj (.ref f) (.ref y)) := x
    show h'.get? a = some (PySem.W.methodObj (.ref f) (.ref y))
    exact k a _ (.inl rfl) e
  | ext φ => obtain ⟨p,⟨o,e⟩,st⟩ := x; exact ⟨st _ _ p fun o q => k _ _ (.inl rfl) q,⟨o,k _ _ (.inl rfl) e⟩,st⟩
theorem HOk.lt (x : HOk P w H h) (e : H a = some o) : a < h.objs.size := (x a o e).lt
theorem HOk.fresh (x : HOk P w H h) (e : h.objs.size ≤ a) : H a = none := by
  cases q : H a with
  | none => rfl
  | some u => exact absurd (Nat.lt_of_lt_of_le (x.lt q) e) (Nat.lt_irrefl _)
theorem HOk.kept (x : HOk P w H h) (k : ∀ b u,h.get? b = some u → h'.get? b = some u) : HOk P w H h' := fun a o e =>
  (x a o e).stay (fun b u _ q => k b u q) (fun _ q => q) fun _ _ q => q
theorem HOk.laid (x : HOk P w H h) (k : ∀ b u,h.get? b = some u → h'.get? b = some u) (hp : h.objs.size ≤ a) (new : ObjOk P w (upd H a o) h' a o) : HOk P w (upd H a o) h' := fun b u e => by
  have hn := x.fresh hp
  by_cases hb : b = a
  · subst hb; rw [upd_same] at e; cases e; exact new
  · rw [upd_ne hb] at e
    exact (x b u e).stay (fun c v _ q => k c v q) (fun c q => by rw [upd_ne (ne_of_none q hn)]; exact q) fun c xs q => by rw [upd_ne (ne_of_none q hn)]; exact q
end
noncomputable def Rd (H : Hp) (a : Addr) (u : HO) : Prop := H a = some u ∨ ∃ o,H a = some (.frz o u)
theorem Rd.ok {P : Program} {w : World} {H : Hp} {h : Heap} {a : Addr} {u : HO} (r : Rd H a u) (x : HOk P w H h) : ObjOk P w H h a u := by
  rcases r with r | ⟨o,r⟩
  · exact x a u r
  · obtain ⟨_,q⟩ := x a _ r
    exact q
noncomputable def Mut : Option HO → Prop
  | some (.lst _) => True
  | some (.dK _) => True
  | some (.dT _) => True
  | some (.set _ _) => True
  | some (.ins _ _ _) => True
  | some (.ext _) => True
  | _ => False
section
variable {P : Program} {w : World} {H : Hp} {h h' : Heap} {x e : Addr} {o' : HO}
theorem HOk.write (ok : HOk P w H h) (mu : Mut (H x)) (he : e = x ∨ H e = some (.own x)) (k : ∀ b u,b ≠ e → h.get? b = some u → h'.get? b = some u) (heo : ∃ u,h'.get? e = some u)
    (new : ObjOk P w (upd H x o') h' x o') : HOk P w (upd H x o') h' := fun b u q => by
  have nown : ∀ c y,H c = some (.own y) → c ≠ x := fun c y r z => by subst z; rw [r] at mu; exact mu
  have ntup : ∀ c xs,H c = some (.tup xs) → c ≠ x := fun c xs r z => by subst z; rw [r] at mu; exact mu
  by_cases hb : b = x
  · subst hb; rw [upd_same] at q; cases q; exact new
  · rw [upd_ne hb] at q
    by_cases hbe : b = e
    · have q' : H b = some (.own x) := by
        rcases he with z | z
        · exact absurd (hbe.trans z) hb
        · rw [hbe]; exact z
      rw [q] at q'; cases q'
      obtain ⟨v,hv⟩ := heo
      exact ⟨v,by rw [hbe]; exact hv⟩
    · refine (ok b u q).stay (fun c v hc r => k c v ?_ r) (fun c r => by rw [upd_ne (nown c b r)]; exact r) fun c xs r => by rw [upd_ne (ntup c xs r)]; exact r
      rcases hc with rfl | hc
      · exact hbe
      · rintro rfl
        rcases he with z | z
        · exact nown c b hc z
        · rw [hc] at z; cases z; exact hb rfl
end
structure Un (fs ex : List Addr) (H H' : Hp) (h h' : Heap) : Prop where
  keep : ∀ b o,h.get? b = some o → H b = none → b ∉ fs → b ∉ ex → h'.get? b = some o
  slot : ∀ b o,h.get? b = some o → H b = none → b ∈ fs → b ∉ ex → ∃ sl,h'.get? b = some { o with slots := sl }
  free : ∀ b o,h.get? b = some o → H b = none → b ∉ ex → H' b = none
  there : ∀ b o,h.get? b = some o → b ∉ ex → ∃ o',h'.get? b = some o'
  tups : ∀ b xs,H b = some (.tup xs) → H' b = some (.tup xs)
  frzs : ∀ b o u,H b = some (.frz o u) → H' b = some (.frz o u)
  tbls : ∀ b ps,H b = some (.tbl ps) → ∃ more,H' b = some (.tbl (ps ++ more))
section
variable {fs fs' ex ex' : List Addr} {H H1 H2 : Hp} {h h1 h2 h' : Heap} {a x e : Addr} {o : HO}
theorem Un.any (u : Un fs ex H H1 h h1) {b : Addr} {ob : Obj} (q : h.get? b = some ob) (n : H b = none) (hx : b ∉ ex) : ∃ sl,h1.get? b = some { ob with slots := sl } := by
  by_cases hb : b ∈ fs
  · exact u.slot b ob q n hb hx
  · exact ⟨ob.slots,u.keep b ob q n hb hx⟩
theorem Un.kept (k : ∀ b u,h.get? b = some u → h'.get? b = some u) : Un fs ex H H h h' :=
  ⟨fun b ob q _ _ _ => k b ob q,fun b ob q _ _ _ => ⟨ob.slots,k b ob q⟩,fun _ _ _ n _ => n,fun b ob q _ => ⟨ob,k b ob q⟩,fun _ _ q => q,fun _ _ _ q => q,fun _ ps q => ⟨#[],by rw [q]; simp⟩⟩
theorem Un.refl : Un fs ex H H h h := Un.kept fun _ _ q => q
theorem Un.laid (k : ∀ b u,h.get? b = some u → h'.get? b = some u) (hp : h.objs.size ≤ a) (hn : H a = none) : Un fs ex H (upd H a o) h h' where
  keep := fun b u q _ _ _ => k b u q
  slot := fun b u q _ _ _ => ⟨u.slots,k b u q⟩
  free := fun b u q n _ => by rw [upd_ne (Nat.ne_of_lt (Nat.lt_of_lt_of_le (Heap.lt_size q) hp))]; exact n
  there := fun b u q _ => ⟨u,k b u q⟩
  tups := fun b xs q => by rw [upd_ne (ne_of_none q hn)]; exact q
  frzs := fun b u xs q => by rw [upd_ne (ne_of_none q hn)]; exact q
  tbls := fun b ps q => ⟨#[],by rw [upd_ne (ne_of_none q hn),q]; simp⟩
theorem Un.write (mu : Mut (H x)) (he : e = x ∨ H e = some (.own x)) (k : ∀ b u,b ≠ e → h.get? b = some u → h'.get? b = some u) (heo : ∃ u,h'.get? e = some u) : Un fs ex H (upd H x o) h h' := by
  have hx : ∀ b,H b = none → b ≠ x := fun b n z => by subst z; rw [n] at mu; exact mu
  have hb : ∀ b,H b = none → b ≠ e := fun b n z => by
    subst z
    rcases he with r | r
    · exact hx b n r
    · rw [n] at r; cases r
  have hm : ∀ b u,H b = some u → ¬ Mut (some u) → b ≠ x := fun b u q nm z => by subst z; rw [q] at mu; exact nm mu
  refine ⟨fun b u q n _ _ => k b u (hb b n) q,fun b u q n _ _ => ⟨u.slots,k b u (hb b n) q⟩,fun b u q n _ => by rw [upd_ne (hx b n)]; exact n,fun b u q _ => ?_,
    fun b xs q => by rw [upd_ne (hm b _ q fun z => z)]; exact q,fun b u xs q => by rw [upd_ne (hm b _ q fun z => z)]; exact q,fun b ps q => ⟨#[],by rw [upd_ne (hm b _ q fun z => z),q]; simp⟩⟩
  by_cases hbe : b = e
  · subst hbe; exact heo
  · exact ⟨u,k b u hbe q⟩
end
noncomputable def trk (h : Heap) (H : Hp) : List Addr := (List.range h.objs.size).filter fun a => (H a).isSome
noncomputable def hidT (h : Heap) (H : Hp) : Heap := PySem.W.hideAll h (trk h H)
theorem hidT_size (h : Heap) (H : Hp) : (hidT h H).objs.size = h.objs.size := PySem.W.hideAll_size _ _
theorem hidT_get {h : Heap} {H : Hp} {b : Addr} {o : Obj} (e : h.get? b = some o) (n : H b = none) : (hidT h H).get? b = some o :=
  PySem.W.hideAll_get _ e fun hm => by
    have q : (H b).isSome = true := (List.mem_filter.mp hm).2
    rw [n] at q; simp at q
theorem of_hidT {h : Heap} {H : Hp} {b : Addr} {o : Obj} (e : (hidT h H).get? b = some o) : h.get? b = some o ∧ H b = none := by
  have e' : h.get? b = some o := PySem.W.of_hideAll (trk h H) e
  refine ⟨e',?_⟩
  cases q : H b with
  | none => rfl
  | some x =>
    have hm : b ∈ trk h H := List.mem_filter.mpr ⟨List.mem_range.mpr (Heap.lt_size e'),by simp [q]⟩
    have z : (hidT h H).get? b = none := PySem.W.hideAll_none (trk h H) hm
    rw [z] at e; cases e
end L2
namespace L2
open PySem PySem.Spec PyProof.Rows
structure Mod (K : PySem.W.Frag) (mg : Str → Option Value) (base : Heap) : Prop where
  kin : K.In base
  glob : base.Ns mainGlobals mg
  blt : ∃ mb,base.Ns builtinsNs mb ∧ ∀ x : Str,x ≠ "__name__" → mb x = bootBuiltins x
  nolimit : base.NoLimit
  digits : base.NoDigits
structure Cx where
  prog : Program
  w : World
  K : PySem.W.Frag
  mg : Str → Option Value
  base : Heap
  A : Around
  N : List Str
  s₀ : Shared
  H₀ : Hp
  env : Env
  outer : List Env
  stack : List Env
  ex : List Addr
  fn : Str → Bool
  calm : Bool
  pn : List (Addr × Obj)
  xe : Value → Shared → Prop
noncomputable def frs (l : List Env) : List Addr := l.filterMap (·.frame)
noncomputable abbrev Cx.fs (X : Cx) : List Addr := frs X.outer
noncomputable def Vis (sc : Scope) (x : Str) : Prop := sc.names.lookup x = some .local ∨ sc.names.lookup x = some .cell ∨ sc.names.lookup x = some .free
noncomputable def Loc (sc : Scope) (x : Str) : Prop := sc.names.lookup x = some .local ∨ sc.names.lookup x = some .cell
noncomputable def Look (env : Env) (h : Heap) (m : Str → Option Value) (x : Str) (u : Value) : Prop :=
  (env.kindOf x = some .local ∧ m x = some u) ∨ ((env.kindOf x = some .cell ∨ env.kindOf x = some .free) ∧ ∃ c,env.cells.lookup x = some c ∧ h.IsCell c (some u))
structure Cx.Ok (X : Cx) : Prop where
  mod : Mod X.K X.mg X.base
  kind : X.env.scope.kind = .function
  glob : X.env.globals = mainGlobals
  blt : X.env.builtins = builtinsNs
  above : X.s₀.heap.objs.size ≤ X.env.locals
  inj : ∀ x y c,X.env.cells.lookup x = some c → X.env.cells.lookup y = some c → x = y
  has : ∀ x,(X.env.kindOf x = some .cell ∨ X.env.kindOf x = some .free) → ∃ c,X.env.cells.lookup x = some c
  cab : ∀ x c,X.fn x = true → X.env.cells.lookup x = some c → X.s₀.heap.objs.size ≤ c
  hd : X.calm = true → X.A.handled = none
  frames : X.A.frames = some X.stack
  stk : X.stack = X.outer ∨ (X.stack = X.env :: X.outer ∧ X.env.frame = some X.env.locals)
  exf : ∀ b ∈ X.ex,b ≠ X.env.locals ∧ ∀ x c,X.env.cells.lookup x = some c → c ≠ b
  bs : ∀ b o,X.base.get? b = some o → X.s₀.heap.get? b = some o ∧ X.H₀ b = none
  bsz : X.base.objs.size ≤ X.s₀.heap.objs.size
  noex : ∀ b o,X.base.get? b = some o → b ∉ X.ex
  exfs : ∀ b ∈ X.ex,b ∉ X.fs
  funs : X.s₀.heap.FunFrames X.base X.outer
  frf : ∀ b ∈ X.fs,X.H₀ b = none
structure Inv (X : Cx) (pins : List (Addr × Obj)) (σ : List (Option V)) (H : Hp) (s : Shared) : Prop where
  ok : X.Ok
  os : s.os = X.s₀.os
  bare : AllBare s.gens
  base : Un X.fs X.ex X.H₀ H X.s₀.heap s.heap
  loc : ∃ m,s.heap.Ns X.env.locals m ∧ ∀ (i : Nat) (x : Str) (v : V),X.N[i]? = some x → σ[i]? = some (some v) → Vis X.env.scope x → ∃ u,RelV v u ∧ Look X.env s.heap m x u
  cell : ∀ x c,X.env.cells.lookup x = some c → ∃ v,s.heap.IsCell c v
  free : H X.env.locals = none
  freeC : ∀ x c,X.env.cells.lookup x = some c → H c = none
  pin : ∀ p ∈ X.pn ++ pins,s.heap.get? p.1 = some p.2 ∧ H p.1 = none ∧ p.1 ≠ X.env.locals ∧ p.1 ∉ X.fs ∧ ∀ v,p.2.data ≠ .cell v
  hok : HOk X.prog X.w H s.heap
  len : σ.length = X.N.length
section
variable {X : Cx} {pins : List (Addr × Obj)} {σ : List (Option V)} {H H' : Hp} {s : Shared} {h' : Heap}
theorem Cx.Ok.nofr (ok : X.Ok) {b : Addr} {o : Obj} (e : X.base.get? b = some o) : b ∉ X.fs := fun hb => by
  have := (ok.funs.mem hb).1
  rw [e] at this; cases this
theorem Inv.bs (I : Inv X pins σ H s) : ∀ b o,X.base.get? b = some o → s.heap.get? b = some o ∧ H b = none := fun b o e =>
  ⟨I.base.keep b o (I.ok.bs b o e).1 (I.ok.bs b o e).2 (I.ok.nofr e) (I.ok.noex b o e),I.base.free b o (I.ok.bs b o e).1 (I.ok.bs b o e).2 (I.ok.noex b o e)⟩
theorem Inv.bk (I : Inv X pins σ H s) : ∀ b o,X.base.get? b = some o → s.heap.get? b = some o := fun b o e => (I.bs b o e).1
theorem Inv.mod (I : Inv X pins σ H s) : Mod X.K X.mg X.base := I.ok.mod
theorem Inv.kIn (I : Inv X pins σ H s) : X.K.In s.heap := I.ok.mod.kin.keeps I.bk
theorem Inv.lt (I : Inv X pins σ H s) : X.env.locals < s.heap.objs.size := let ⟨_,hn,_⟩ := I.loc; hn.lt
theorem Inv.sz (I : Inv X pins σ H s) : X.s₀.heap.objs.size ≤ s.heap.objs.size := Nat.le_trans I.ok.above (Nat.le_of_lt I.lt)
theorem Inv.nofs (I : Inv X pins σ H s) {a : Addr} (h : s.heap.objs.size ≤ a) : a ∉ X.fs := fun hb => by
  obtain ⟨_,o,ho,_⟩ := I.ok.funs.mem hb
  exact absurd (Nat.lt_of_lt_of_le (Heap.lt_size ho) (Nat.le_trans I.sz h)) (Nat.lt_irrefl _)
theorem Inv.cne (I : Inv X pins σ H s) : ∀ x c,X.env.cells.lookup x = some c → c ≠ X.env.locals := fun x c e z => by
  obtain ⟨v,o,ho,hd⟩ := I.cell x c e
  obtain ⟨m,⟨o',es,ep,ho',hd',_⟩,_⟩ := I.loc
  rw [z,ho'] at ho; cases ho; rw [hd'] at hd; cases hd
theorem Inv.funs (I : Inv X pins σ H s) : s.heap.FunFrames X.base X.outer := by
  have all : ∀ (l : List Env),(∀ b ∈ frs l,b ∈ X.fs) → X.s₀.heap.FunFrames X.base l → s.heap.FunFrames X.base l := by
    intro l
    induction l with
    | nil => intro _ _; trivial
    | cons env r ih =>
      intro hs hl
      obtain ⟨hk,⟨L,o,hf,hn,ho,hd⟩,hr⟩ := hl
      have hL : L ∈ X.fs := hs L (by unfold frs; rw [List.filterMap_cons,hf]; exact List.mem_cons_self)
      obtain ⟨sl,e⟩ := I.base.slot L o ho (I.ok.frf L hL) hL fun z => I.ok.exfs L z hL
      exact ⟨hk,⟨L,_,hf,hn,e,hd⟩,ih (fun b hb => hs b (by unfold frs; rw [List.filterMap_cons,hf]; exact List.mem_cons_of_mem _ hb)) hr⟩
  exact all X.outer (fun _ hb => hb) I.ok.funs
theorem Inv.stack (I : Inv X pins σ H s) : s.heap.FunFrames X.base X.stack := by
  rcases I.ok.stk with e | ⟨e,hf⟩
  · rw [e]; exact I.funs
  · rw [e]
    obtain ⟨m,hn,_⟩ := I.loc
    refine .cons (by rw [I.ok.kind]; decide) hf hn ?_ I.funs
    exact Heap.get?_none_of_le (Nat.le_trans I.ok.bsz I.ok.above)
theorem Inv.stkSub (I : Inv X pins σ H s) : ∀ b ∈ frs X.stack,b ∈ X.env.locals :: X.fs := fun b hb => by
  rcases I.ok.stk with e | ⟨e,hf⟩
  · rw [e] at hb; exact List.mem_cons_of_mem _ hb
  · rw [e] at hb
    unfold frs at hb
    rw [List.filterMap_cons,hf] at hb
    exact hb
theorem Inv.stkFree (I : Inv X pins σ H s) : ∀ b ∈ frs X.stack,H b = none := fun b hb => by
  rcases List.mem_cons.mp (I.stkSub b hb) with e | hb
  · rw [e]; exact I.free
  · obtain ⟨_,o,ho,_⟩ := I.ok.funs.mem hb
    exact I.base.free b o ho (I.ok.frf b hb) fun z => I.ok.exfs b z hb
theorem Inv.step {g' : Array GenState} {t' : Nat} {d' : Drawn} {ch : List Addr} (I : Inv X pins σ H s)
    (hch : ∀ b ∈ ch,(b ∈ X.ex ∨ X.s₀.heap.objs.size ≤ b) ∧ b ≠ X.env.locals ∧ (∀ x c,X.env.cells.lookup x = some c → c ≠ b) ∧ ∀ p ∈ X.pn ++ pins,p.1 ≠ b)
    (keep : ∀ b o,b ≠ X.env.locals → b ∉ X.fs → b ∉ ch → s.heap.get? b = some o → H b = none → h'.get? b = some o)
    (slot : ∀ b o,b ≠ X.env.locals → b ∈ X.fs → b ∉ ch → s.heap.get? b = some o → H b = none → ∃ sl,h'.get? b = some { o with slots := sl }) (free : ∀ b o,b ∉ ch → s.heap.get? b = some o → H b = none → H' b = none)
    (there : ∀ b o,b ∉ ch → s.heap.get? b = some o → ∃ o',h'.get? b = some o')
    (tups : ∀ b xs,H b = some (.tup xs) → H' b = some (.tup xs)) (frzs : ∀ b o u,H b = some (.frz o u) → H' b = some (.frz o u)) (tbls : ∀ b ps,H b = some (.tbl ps) → ∃ more,H' b = some (.tbl (ps ++ more)))
    (ns : ∀ m,s.heap.Ns X.env.locals m → h'.Ns X.env.locals m) (hok : HOk X.prog X.w H' h') (hg : AllBare g') :
    Inv X pins σ H' { s with heap := h',gens := g',drawn := d',toks := t' } := by
  have neL : ∀ b o,X.s₀.heap.get? b = some o → b ≠ X.env.locals := fun b o e => Nat.ne_of_lt (Nat.lt_of_lt_of_le (Heap.lt_size e) I.ok.above)
  have neC : ∀ b o,X.s₀.heap.get? b = some o → b ∉ X.ex → b ∉ ch := fun b o e hx hb => by
    rcases (hch b hb).1 with z | z
    · exact hx z
    · exact absurd (Nat.lt_of_lt_of_le (Heap.lt_size e) z) (Nat.lt_irrefl _)
  have cellK : ∀ x c,X.env.cells.lookup x = some c → ∀ v,s.heap.IsCell c v → h'.IsCell c v := fun x c e v ⟨o,ho,hd⟩ => by
    have nch : c ∉ ch := fun z => (hch c z).2.2.1 x c e rfl
    by_cases hc : c ∈ X.fs
    · obtain ⟨sl,q⟩ := slot c o (I.cne x c e) hc nch ho (I.freeC x c e)
      exact ⟨_,q,hd⟩
    · exact ⟨o,keep c o (I.cne x c e) hc nch ho (I.freeC x c e),hd⟩
  refine ⟨I.ok,I.os,hg,⟨fun b o e n hb hx => ?_,fun b o e n hb hx => ?_,fun b o e n hx => ?_,fun b o e hx => ?_,fun b xs e => tups b xs (I.base.tups b xs e),fun b o xs e => frzs b o xs (I.base.frzs b o xs e),fun b ps e => ?_⟩,?_,fun x c e => ?_,?_,fun x c e => ?_,fun p hp => ?_,hok,I.len⟩
  · exact keep b o (neL b o e) hb (neC b o e hx) (I.base.keep b o e n hb hx) (I.base.free b o e n hx)
  · obtain ⟨sl,e1⟩ := I.base.slot b o e n hb hx
    obtain ⟨sl',e2⟩ := slot b _ (neL b o e) hb (neC b o e hx) e1 (I.base.free b o e n hx)
    exact ⟨sl',e2⟩
  · obtain ⟨o',e1⟩ := I.base.there b o e hx
    exact free b o' (neC b o e hx) e1 (I.base.free b o e n hx)
  · obtain ⟨o',e1⟩ := I.base.there b o e hx
    exact there b o' (neC b o e hx) e1
  · obtain ⟨m1,e1⟩ := I.base.tbls b ps e
    obtain ⟨m2,e2⟩ := tbls b _ e1
    exact ⟨m1 ++ m2,by rw [e2,Array.append_assoc]⟩
  · obtain ⟨m,hn,hl⟩ := I.loc
    refine ⟨m,ns m hn,fun i x v e1 e2 e3 => ?_⟩
    obtain ⟨u,r,l⟩ := hl i x v e1 e2 e3
    refine ⟨u,r,?_⟩
    rcases l with l | ⟨k,c,e,z⟩
    · exact .inl l
    · exact .inr ⟨k,c,e,cellK x c e _ z⟩
  · obtain ⟨v,z⟩ := I.cell x c e
    exact ⟨v,cellK x c e v z⟩
  · obtain ⟨m,⟨o,_,_,ho,_⟩,_⟩ := I.loc
    exact free _ o (fun z => (hch _ z).2.1 rfl) ho I.free
  · obtain ⟨v,o,ho,hd⟩ := I.cell x c e
    exact free c o (fun z => (hch c z).2.2.1 x c e rfl) ho (I.freeC x c e)
  · obtain ⟨e,n,ne,nf,d⟩ := I.pin p hp
    have nch : p.1 ∉ ch := fun z => (hch p.1 z).2.2.2 p hp rfl
    exact ⟨keep p.1 p.2 ne nf nch e n,free p.1 p.2 nch e n,ne,nf,d⟩
theorem Inv.un {t' : Nat} (I : Inv X pins σ H s) (u : Un X.fs [] H H' s.heap h') (hok : HOk X.prog X.w H' h') : Inv X pins σ H' { s with heap := h',toks := t' } := by
  obtain ⟨m,⟨o,es,ep,ho,r⟩,_⟩ := id I.loc
  obtain ⟨sl,hL⟩ := u.any ho I.free (by simp)
  exact I.step (g' := s.gens) (d' := s.drawn) (ch := []) (fun _ z => nomatch z) (fun b o _ hb _ e n => u.keep b o e n hb (by simp)) (fun b o _ hb _ e n => u.slot b o e n hb (by simp)) (fun b o _ e n => u.free b o e n (by simp)) (fun b o _ e => u.there b o e (by simp)) u.tups u.frzs u.tbls (fun m' hm => by
    obtain ⟨o',es',ep',ho',r'⟩ := hm
    rw [ho] at ho'; cases ho'
    exact ⟨_,es',ep',hL,r'⟩) hok I.bare
theorem Inv.call {g' : Array GenState} {t' : Nat} {d' : Drawn} {ch : List Addr} (I : Inv X pins σ H s) (u : Un (frs X.stack) ch H H' s.heap h') (hok : HOk X.prog X.w H' h') (hg : AllBare g')
    (hch : ∀ b ∈ ch,(b ∈ X.ex ∨ X.s₀.heap.objs.size ≤ b) ∧ b ≠ X.env.locals ∧ (∀ x c,X.env.cells.lookup x = some c → c ≠ b) ∧ ∀ p ∈ X.pn ++ pins,p.1 ≠ b) :
    Inv X pins σ H' { s with heap := h',gens := g',drawn := d',toks := t' } := by
  obtain ⟨m,⟨o,es,ep,ho,r⟩,_⟩ := id I.loc
  obtain ⟨sl,hL⟩ := u.any ho I.free fun z => (hch _ z).2.1 rfl
  exact I.step (ch := ch) hch (fun b o hL hb hc e n => u.keep b o e n (fun z => (List.mem_cons.mp (I.stkSub b z)).elim hL hb) hc) (fun b o _ _ hc e n => u.any e n hc) (fun b o hc e n => u.free b o e n hc) (fun b o hc e => u.there b o e hc) u.tups u.frzs u.tbls (fun m' hm => by
    obtain ⟨o',es',ep',ho',r'⟩ := hm
    rw [ho] at ho'; cases ho'
    exact ⟨_,es',ep',hL,r'⟩) hok hg
theorem Inv.turned {t' : Nat} {it : Addr} (I : Inv X pins σ H s) (k : ∀ b o,b ≠ it → s.heap.get? b = some o → h'.get? b = some o) (hn : H it = none) (hL : it ≠ X.env.locals)
    (h1 : it ∈ X.ex ∨ X.s₀.heap.objs.size ≤ it) (h2 : ∀ x c,X.env.cells.lookup x = some c → c ≠ it) (h3 : ∀ p ∈ X.pn ++ pins,p.1 ≠ it) : Inv X pins σ H { s with heap := h',toks := t' } := by
  have nit : ∀ b u,H b = some u → b ≠ it := fun b u e z => by rw [z,hn] at e; cases e
  refine I.step (g' := s.gens) (d' := s.drawn) (ch := [it]) (fun b hb => ?_) (fun b o _ _ hc e _ => k b o (fun z => hc (by simp [z])) e) (fun b o _ _ hc e _ => ⟨o.slots,k b o (fun z => hc (by simp [z])) e⟩) (fun _ _ _ _ n => n)
    (fun b o hc e => ⟨o,k b o (fun z => hc (by simp [z])) e⟩) (fun _ _ e => e) (fun _ _ _ e => e) (fun b ps e => ⟨#[],by rw [e]; simp⟩) (fun m hm => ?_) (fun b u e => ?_) I.bare
  · have e : b = it := by simpa using hb
    subst e
    exact ⟨h1,hL,h2,h3⟩
  · obtain ⟨o,es,ep,ho,r⟩ := hm
    exact ⟨o,es,ep,k _ o (Ne.symm hL) ho,r⟩
  · refine (I.hok b u e).stay (fun c v hc q => k c v ?_ q) (fun _ q => q) fun _ _ q => q
    rcases hc with z | z
    · rw [z]; exact nit b u e
    · exact nit c _ z
theorem Inv.tok (I : Inv X pins σ H s) (t : Nat) : Inv X pins σ H { s with toks := t } := I.un (h' := s.heap) (t' := t) Un.refl I.hok
theorem Inv.kept {t' : Nat} (I : Inv X pins σ H s) (k : ∀ b u,s.heap.get? b = some u → h'.get? b = some u) : Inv X pins σ H { s with heap := h',toks := t' } := I.un (Un.kept k) (I.hok.kept k)
theorem Inv.laid {a : Addr} {o : HO} {t' : Nat} (I : Inv X pins σ H s) (k : ∀ b u,s.heap.get? b = some u → h'.get? b = some u) (hp : s.heap.objs.size ≤ a) (new : ObjOk X.prog X.w (upd H a o) h' a o) :
    Inv X pins σ (upd H a o) { s with heap := h',toks := t' } := I.un (Un.laid k hp (I.hok.fresh hp)) (I.hok.laid k hp new)
theorem Inv.write {x e : Addr} {o : HO} {t' : Nat} (I : Inv X pins σ H s) (mu : Mut (H x)) (he : e = x ∨ H e = some (.own x)) (k : ∀ b u,b ≠ e → s.heap.get? b = some u → h'.get? b = some u) (heo : ∃ u,h'.get? e = some u)
    (new : ObjOk X.prog X.w (upd H x o) h' x o) : Inv X pins σ (upd H x o) { s with heap := h',toks := t' } := I.un (Un.write mu he k heo) (I.hok.write mu he k heo new)
theorem Inv.pins_of {pins' : List (Addr × Obj)} (I : Inv X pins σ H s) (h : ∀ p ∈ pins',s.heap.get? p.1 = some p.2 ∧ H p.1 = none ∧ p.1 ≠ X.env.locals ∧ p.1 ∉ X.fs ∧ ∀ v,p.2.data ≠ .cell v) : Inv X pins' σ H s :=
  ⟨I.ok,I.os,I.bare,I.base,I.loc,I.cell,I.free,I.freeC,fun p hp => (List.mem_append.mp hp).elim (fun z => I.pin p (List.mem_append_left _ z)) (h p),I.hok,I.len⟩
theorem nodup_ix {N : List Str} (hN : N.Nodup) {i j : Nat} {x : Str} (a : N[i]? = some x) (b : N[j]? = some x) : i = j := by
  obtain ⟨h1,e1⟩ := List.getElem?_eq_some_iff.mp a
  obtain ⟨h2,e2⟩ := List.getElem?_eq_some_iff.mp b
  exact (List.getElem_inj hN).mp (e1.trans e2.symm)
theorem store_ok2 {M : Model} {A : Around} {E : Value → Shared → Prop} {i : Nat} {x : Str} {v : V} {u : Value} {Q : Unit → Shared → Prop} (I : Inv X pins σ H s) (hN : X.N.Nodup) (hi : X.N[i]? = some x) (hx : Loc X.env.scope x) (r : RelV v u)
    (h : ∀ s',Inv X pins (σ.set i (some v)) H s' → (∃ a,Heap.SameBut a s.heap s'.heap ∧ (a = X.env.locals ∨ X.env.cells.lookup x = some a)) → Q () s') (hf : X.fn x = true ∨ X.env.scope.names.lookup x = some .local := by first | exact .inl rfl | exact .inr rfl | assumption) : wpAny M A (storeName X.env x u) Q E s := by
  obtain ⟨m,hn,hl⟩ := id I.loc
  have hcls : (X.env.scope.kind == .class || (X.env.scope.kind == .module && X.env.locals != X.env.globals)) = false := by rw [I.ok.kind]; rfl
  have hiσ : i < σ.length := by rw [I.len]; exact (List.getElem?_eq_some_iff.mp hi).1
  have cne := I.cne
  have tracked : ∀ {a : Addr} {h' : Heap},(∃ o,s.heap.get? a = some o ∧ H a = none) → Heap.SameBut a s.heap h' → HOk X.prog X.w H h' := fun {a h'} ha hs b ob e => by
    obtain ⟨_,_,hfree⟩ := ha
    refine (I.hok b ob e).stay (fun c w' hc q => (hs.2 c ?_).trans q) (fun _ q => q) fun _ _ q => q
    rintro rfl
    rcases hc with rfl | hc
    · rw [hfree] at e; cases e
    · rw [hfree] at hc; cases hc
  rcases hx with hk | hk
  · refine wpAny_storeName_local hk hn (fun h' hn' hs => ?_) hcls
    obtain ⟨oL,_,_,hoL,_⟩ := id hn
    refine h _ ⟨I.ok,I.os,I.bare,⟨fun b o e n hb hx => ?_,fun b o e n hb hx => ?_,I.base.free,fun b o e hx => ?_,I.base.tups,I.base.frzs,I.base.tbls⟩,⟨_,hn',fun j y v' e1 e2 e3 => ?_⟩,fun y c e => ?_,I.free,I.freeC,fun p hp => ?_,tracked ⟨oL,hoL,I.free⟩ hs,by simpa using I.len⟩ ⟨_,hs,.inl rfl⟩
    · exact (hs.2 b (Nat.ne_of_lt (Nat.lt_of_lt_of_le (Heap.lt_size e) I.ok.above))).trans (I.base.keep b o e n hb hx)
    · obtain ⟨sl,e1⟩ := I.base.slot b o e n hb hx
      exact ⟨sl,(hs.2 b (Nat.ne_of_lt (Nat.lt_of_lt_of_le (Heap.lt_size e) I.ok.above))).trans e1⟩
    · obtain ⟨o',e1⟩ := I.base.there b o e hx
      exact ⟨o',(hs.2 b (Nat.ne_of_lt (Nat.lt_of_lt_of_le (Heap.lt_size e) I.ok.above))).trans e1⟩
    · by_cases hj : j = i
      · subst hj
        rw [hi] at e1; cases e1
        rw [List.getElem?_set_self hiσ] at e2
        cases e2
        exact ⟨u,r,.inl ⟨hk,by simp⟩⟩
      · rw [List.getElem?_set_ne (Ne.symm hj)] at e2
        obtain ⟨u',r',q⟩ := hl j y v' e1 e2 e3
        refine ⟨u',r',?_⟩
        rcases q with ⟨k,e⟩ | ⟨k,c,e,z⟩
        · refine .inl ⟨k,?_⟩
          have : y ≠ x := fun e => hj (nodup_ix hN e1 (e ▸ hi))
          simp [this,e]
        · exact .inr ⟨k,c,e,z.sameBut hs (cne y c e)⟩
    · obtain ⟨w',z⟩ := I.cell y c e
      exact ⟨w',z.sameBut hs (cne y c e)⟩
    · obtain ⟨e,n,ne,nf,d⟩ := I.pin p hp
      exact ⟨(hs.2 p.1 ne).trans e,n,ne,nf,d⟩
  · have hfn : X.fn x = true := by
      rcases hf with z | z
      · exact z
      · rw [z] at hk; cases hk
    obtain ⟨c,hc⟩ := I.ok.has x (.inl hk)
    obtain ⟨w',z⟩ := I.cell x c hc
    refine wpAny_storeName_cell I.ok.kind hk hc z (fun h' hc' hs => ?_)
    obtain ⟨oc,hoc,hocd⟩ := id z
    refine h { s with heap := h' } ⟨I.ok,I.os,I.bare,⟨fun b o e n hb hx => ?_,fun b o e n hb hx => ?_,I.base.free,fun b o e hx => ?_,I.base.tups,I.base.frzs,I.base.tbls⟩,⟨m,hn.sameBut hs (Ne.symm (cne x c hc)),fun j y v' e1 e2 e3 => ?_⟩,fun y c' e => ?_,I.free,I.freeC,fun p hp => ?_,tracked ⟨oc,hoc,I.freeC x c hc⟩ hs,by simpa using I.len⟩ ⟨c,hs,.inr hc⟩
    · exact (hs.2 b (Nat.ne_of_lt (Nat.lt_of_lt_of_le (Heap.lt_size e) (I.ok.cab x c hfn hc)))).trans (I.base.keep b o e n hb hx)
    · obtain ⟨sl,e1⟩ := I.base.slot b o e n hb hx
      exact ⟨sl,(hs.2 b (Nat.ne_of_lt (Nat.lt_of_lt_of_le (Heap.lt_size e) (I.ok.cab x c hfn hc)))).trans e1⟩
    · obtain ⟨o',e1⟩ := I.base.there b o e hx
      exact ⟨o',(hs.2 b (Nat.ne_of_lt (Nat.lt_of_lt_of_le (Heap.lt_size e) (I.ok.cab x c hfn hc)))).trans e1⟩
    · by_cases hj : j = i
      · subst hj
        rw [hi] at e1; cases e1
        rw [List.getElem?_set_self hiσ] at e2
        cases e2
        exact ⟨u,r,.inr ⟨.inl hk,c,hc,hc'⟩⟩
      · rw [List.getElem?_set_ne (Ne.symm hj)] at e2
        obtain ⟨u',r',q⟩ := hl j y v' e1 e2 e3
        refine ⟨u',r',?_⟩
        rcases q with q | ⟨k,c',e,z'⟩
        · exact .inl q
        · refine .inr ⟨k,c',e,z'.sameBut hs ?_⟩
          rintro rfl
          exact hj (nodup_ix hN e1 (I.ok.inj _ _ _ e hc ▸ hi))
    · by_cases hcc : c' = c
      · subst hcc; exact ⟨_,hc'⟩
      · obtain ⟨w2,z2⟩ := I.cell y c' e
        exact ⟨w2,z2.sameBut hs hcc⟩
    · obtain ⟨e,n,ne,nf,d⟩ := I.pin p hp
      refine ⟨(hs.2 p.1 ?_).trans e,n,ne,nf,d⟩
      intro q
      rw [q,hoc] at e
      have q' : oc = p.2 := Option.some.inj e
      exact d w' (by rw [← q']; exact hocd)
theorem store_ok {M : Model} {A : Around} {E : Value → Shared → Prop} {i : Nat} {x : Str} {v : V} {u : Value} {Q : Unit → Shared → Prop} (I : Inv X pins σ H s) (hN : X.N.Nodup) (hi : X.N[i]? = some x) (hx : Loc X.env.scope x) (r : RelV v u)
    (h : ∀ s',Inv X pins (σ.set i (some v)) H s' → Q () s') (hf : X.fn x = true ∨ X.env.scope.names.lookup x = some .local := by first | exact .inl rfl | exact .inr rfl | assumption) : wpAny M A (storeName X.env x u) Q E s :=
  store_ok2 I hN hi hx r (fun s' I' _ => h s' I') hf
theorem Inv.call' {s' : Shared} {ch : List Addr} (I : Inv X pins σ H s) (ho : s'.os = s.os) (u : Un (frs X.stack) ch H H' s.heap s'.heap) (hok : HOk X.prog X.w H' s'.heap) (hg : AllBare s'.gens)
    (hch : ∀ b ∈ ch,(b ∈ X.ex ∨ X.s₀.heap.objs.size ≤ b) ∧ b ≠ X.env.locals ∧ (∀ x c,X.env.cells.lookup x = some c → c ≠ b) ∧ ∀ p ∈ X.pn ++ pins,p.1 ≠ b) : Inv X pins σ H' s' := by
  obtain ⟨h',g',d',t',o'⟩ := s'
  have e : o' = s.os := ho
  subst e
  exact I.call (g' := g') (t' := t') (d' := d') u hok hg hch
end
noncomputable abbrev XK := Value → Option Addr → Hp → Prop
noncomputable abbrev St := List (Option V)
noncomputable abbrev VK := V → Hp → Prop
noncomputable abbrev TE := St → Hp → VK → Prop
noncomputable abbrev TT := St → Hp → (Bool → Hp → Prop) → Prop
noncomputable abbrev TA := St → Hp → (List V → Hp → Prop) → Prop
structure Ends where
  nx : St → Hp → Prop
  rt : VK
  bk : St → Hp → Prop := fun _ _ => False
  ct : St → Hp → Prop := fun _ _ => False
noncomputable abbrev TS := Ends → St → Hp → Prop
noncomputable def EP (X : Cx) (pins : List (Addr × Obj)) (σ : St) (Q : VK) (u : Value) (s' : Shared) : Prop := ∃ v H',Inv X pins σ H' s' ∧ RelV v u ∧ Q v H'
noncomputable def TP (X : Cx) (pins : List (Addr × Obj)) (σ : St) (Q : Bool → Hp → Prop) (b : Bool) (s' : Shared) : Prop := ∃ H',Inv X pins σ H' s' ∧ Q b H'
noncomputable def AP (X : Cx) (pins : List (Addr × Obj)) (σ : St) (Q : List V → Hp → Prop) (us : List Value) (s' : Shared) : Prop := ∃ vs H',Inv X pins σ H' s' ∧ Vals vs us ∧ Q vs H'
noncomputable def SP (X : Cx) (pins : List (Addr × Obj)) (D : Ends) (f : Flow) (s' : Shared) : Prop :=
  match f with
  | .next => ∃ σ' H',Inv X pins σ' H' s' ∧ D.nx σ' H'
  | .brk => ∃ σ' H',Inv X pins σ' H' s' ∧ D.bk σ' H'
  | .cont => ∃ σ' H',Inv X pins σ' H' s' ∧ D.ct σ' H'
  | .ret u => ∃ v σ' H',Inv X pins σ' H' s' ∧ RelV v u ∧ D.rt v H'
noncomputable def PE (X : Cx) (e : Expr) (t : TE) : Prop :=
  ∀ (pins : List (Addr × Obj)) (s : Shared) (σ : St) (H : Hp) (Q : VK),Inv X pins σ H s → t σ H Q → wpAny (model X.prog X.w) X.A (eval e X.env) (EP X pins σ Q) X.xe s
noncomputable def PT (X : Cx) (e : Expr) (t : TT) : Prop :=
  ∀ (pins : List (Addr × Obj)) (s : Shared) (σ : St) (H : Hp) (Q : Bool → Hp → Prop),Inv X pins σ H s → t σ H Q → wpAny (model X.prog X.w) X.A (isTrue e X.env (eval e X.env)) (TP X pins σ Q) X.xe s
noncomputable def PW (X : Cx) (e : Expr) (t : TT) : Prop :=
  ∀ (whole : Sem Value) (pins : List (Addr × Obj)) (s : Shared) (σ : St) (H : Hp) (Q : Bool → Hp → Prop),Inv X pins σ H s → t σ H Q → wpAny (model X.prog X.w) X.A (isTrue e X.env whole) (TP X pins σ Q) X.xe s
theorem PW.pt {X : Cx} {e : Expr} {t : TT} (h : PW X e t) : PT X e t := h _
noncomputable def PA (X : Cx) (es : List Expr) (t : TA) : Prop :=
  ∀ (pos : Pos) (pins : List (Addr × Obj)) (s : Shared) (σ : St) (H : Hp) (Q : List V → Hp → Prop),Inv X pins σ H s → t σ H Q → wpAny (model X.prog X.w) X.A (spliced (backTo pos (starEach es X.env))) (AP X pins σ Q) X.xe s
noncomputable def PS (X : Cx) (st : Stmt) (t : TS) : Prop :=
  ∀ (pins : List (Addr × Obj)) (s : Shared) (σ : St) (H : Hp) (D : Ends),Inv X pins σ H s → t D σ H → wpAny (model X.prog X.w) X.A (exec st X.env) (SP X pins D) X.xe s
noncomputable def PSs (X : Cx) (st : List Stmt) (t : TS) : Prop :=
  ∀ (pins : List (Addr × Obj)) (s : Shared) (σ : St) (H : Hp) (D : Ends),Inv X pins σ H s → t D σ H → wpAny (model X.prog X.w) X.A (execs st X.env) (SP X pins D) X.xe s
theorem thn {α : Type} {t : Sem α} {Q Q' : α → Shared → Prop} {M : Model} {A : Around} {E : Value → Shared → Prop} {s : Shared} (h : wpAny M A t Q E s) (hQ : ∀ a s,Q a s → Q' a s) : wpAny M A t Q' E s := wpAny_mono h hQ fun _ _ x => x
end L2
namespace L2
open PySem PySem.Spec PyProof.Rows
section
variable {X : Cx}
inductive SVar (i : Nat) (σ : St) (H : Hp) (Q : VK) : Prop | mk (v : V) (h : σ[i]? = some (some v)) (q : Q v H)
noncomputable def tVar (i : Nat) : TE := fun σ H Q => SVar i σ H Q
noncomputable def tC (v : V) : TE := fun _ H Q => Q v H
theorem pe_var {i : Nat} {x : Str} {pos : Pos} (hN : X.N[i]? = some x) (hv : Vis X.env.scope x) (hd : (x == ("__debug__" : Str)) = false := by decide) (hcd : (x == ("__classdict__" : Str)) = false := by decide) : PE X (.Name x pos) (tVar i) := by
  intro pins s σ H Q I h
  obtain ⟨v,e,h⟩ := h
  obtain ⟨m,hn,hl⟩ := I.loc
  obtain ⟨u,r,l⟩ := hl i x v hN e hv
  have fin : EP X pins σ Q u s := ⟨v,H,I,r,h⟩
  rcases l with ⟨hk,hm⟩ | ⟨hk,c,hc,hcell⟩
  · exact wpAny_Name (wpAny_loadName_local I.ok.kind hk hn hm fin) hd
  · rcases hk with hk | hk
    · exact wpAny_Name (wpAny_loadName_cell I.ok.kind hk hc hcell fin) hd
    · exact wpAny_Name (wpAny_loadName_free I.ok.kind hk hc hcell fin hcd) hd
theorem pe_int {i j pos} : PE X (.Constant (.int i) j pos) (tC (.int i)) := fun _ _ _ H _ I h => wpAny_Constant_int ⟨.int i,H,I.tok _,⟨_,rfl⟩,h⟩
theorem pe_bl {b j pos} : PE X (.Constant (.bool b) j pos) (tC (.bl b)) := fun _ _ _ H _ I h => Constant_bool ⟨.bl b,H,I,rfl,h⟩
theorem pe_non {j pos} : PE X (.Constant .none j pos) (tC .non) := fun _ _ _ H _ I h => Constant_none ⟨.non,H,I,rfl,h⟩
theorem pe_str {x j pos} : PE X (.Constant (.str x) j pos) (tC (.str x)) := fun _ _ _ H _ I h => Calls.Constant_str ⟨.str x,H,I.tok _,⟨_,rfl⟩,h⟩
noncomputable def Gl (X : Cx) (x : Str) : Prop := X.env.kindOf x = some .globalImplicit
theorem ld_glob {E : Value → Shared → Prop} {pins : List (Addr × Obj)} {s : Shared} {σ : St} {H : Hp} {x : Str} {u : Value} {pos : Pos} {Q : Value → Shared → Prop} (I : Inv X pins σ H s) (hg : Gl X x) (hm : X.mg x = some u) (h : Q u s)
    (hd : (x == ("__debug__" : Str)) = false := by decide) : wpAny (model X.prog X.w) X.A (eval (.Name x pos) X.env) Q E s :=
  Calls.Name_function_global I.ok.kind hg (Calls.loadGlobal_global (by rw [I.ok.glob]; exact I.mod.glob.keeps I.bk) hm h) hd
theorem ld_blt {E : Value → Shared → Prop} {pins : List (Addr × Obj)} {s : Shared} {σ : St} {H : Hp} {x : Str} {u : Value} {pos : Pos} {Q : Value → Shared → Prop} (I : Inv X pins σ H s) (hg : Gl X x) (hm : X.mg x = none) (hv : bootBuiltins x = some u) (h : Q u s)
    (hn : x ≠ "__name__" := by decide) (hd : (x == ("__debug__" : Str)) = false := by decide) : wpAny (model X.prog X.w) X.A (eval (.Name x pos) X.env) Q E s := by
  obtain ⟨mb,h1,h2⟩ := I.mod.blt
  exact Calls.Name_function_global I.ok.kind hg (Calls.loadGlobal_builtin (by rw [I.ok.glob]; exact I.mod.glob.keeps I.bk) hm (by rw [I.ok.blt]; exact h1.keeps I.bk) ((h2 x hn).trans hv) h) hd
theorem pe_glob {x : Str} {v : V} {u : Value} {pos : Pos} (hg : Gl X x) (hm : X.mg x = some u) (r : RelV v u) (hd : (x == ("__debug__" : Str)) = false := by decide) : PE X (.Name x pos) (tC v) :=
  fun _ _ _ H _ I h => ld_glob I hg hm ⟨v,H,I,r,h⟩ hd
theorem pe_bltn {x : Str} {v : V} {u : Value} {pos : Pos} (hg : Gl X x) (hm : X.mg x = none) (hv : bootBuiltins x = some u) (r : RelV v u) (hn : x ≠ "__name__" := by decide) (hd : (x == ("__debug__" : Str)) = false := by decide) : PE X (.Name x pos) (tC v) :=
  fun _ _ _ H _ I h => ld_blt I hg hm hv ⟨v,H,I,r,h⟩ hn hd
variable {a b : Expr} {ta tb : TE} {pos : Pos}
noncomputable def PC (X : Cx) (op : CmpOp) (a b : Expr) (t : TE) : Prop :=
  ∀ (pins : List (Addr × Obj)) (s : Shared) (σ : St) (H : Hp) (Q : VK),Inv X pins σ H s → t σ H Q →
    wpAny (model X.prog X.w) X.A (eval a X.env) (fun v s₁ => wpAny (model X.prog X.w) X.A (eval b X.env) (fun u s₂ => wpAny (model X.prog X.w) X.A (compareOp op v u) (EP X pins σ Q) X.xe s₂) X.xe s₁) X.xe s
theorem nobehind (b : Expr) {op : CmpOp} (h : op ≠ .In) (h2 : op ≠ .NotIn) : behindInMarks op b = false := by
  have e1 : (op == CmpOp.In) = false := by cases op <;> first | rfl | exact absurd rfl h
  have e2 : (op == CmpOp.NotIn) = false := by cases op <;> first | rfl | exact absurd rfl h2
  cases b <;> simp [behindInMarks,e1,e2]
noncomputable def tIsN (ta : TE) : TE := fun σ H Q => ta σ H fun x H1 => Q (.bl (decide (x = .non))) H1
noncomputable def tNotN (ta : TE) : TE := fun σ H Q => ta σ H fun x H1 => Q (.bl (!decide (x = .non))) H1
theorem RelV.none_iff {x : V} {v : Value} (r : RelV x v) : (v == Value.none) = decide (x = .non) := by
  cases x with
  | non => cases r; rfl
  | bl _ => cases r; rfl
  | int _ => obtain ⟨t,rfl⟩ := r; rfl
  | str _ => obtain ⟨t,rfl⟩ := r; rfl
  | byt _ => obtain ⟨t,rfl⟩ := r; rfl
  | flt _ => obtain ⟨t,rfl⟩ := r; rfl
  | ref _ => cases r; rfl
  | ty _ => cases r; rfl
theorem pc_isN {j pos'} (ha : PE X a ta) : PC X .Is a (.Constant .none j pos') (tIsN ta) := by
  intro pins s σ H Q I h
  refine thn (ha pins s σ H _ I h) fun v s1 ⟨x,H1,I1,r1,q1⟩ => ?_
  exact Constant_none (is_none_gen ⟨.bl _,H1,I1,by rw [r1.none_iff]; rfl,q1⟩)
theorem pc_notN {j pos'} (ha : PE X a ta) : PC X .IsNot a (.Constant .none j pos') (tNotN ta) := by
  intro pins s σ H Q I h
  refine thn (ha pins s σ H _ I h) fun v s1 ⟨x,H1,I1,r1,q1⟩ => ?_
  exact Constant_none (isnot_none_gen ⟨.bl _,H1,I1,by rw [r1.none_iff]; rfl,q1⟩)
noncomputable def tB (t : TE) : TT := fun σ H Q => t σ H fun x H1 => ∃ c,x = .bl c ∧ Q c H1
theorem pt_cmp {op : CmpOp} {t : TE} (h : PC X op a b t) (h1 : behindInMarks op b = false := by first | exact nobehind _ (by decide) (by decide) | rfl) : PT X (.Compare a [op] [b] pos) (tB t) := by
  intro pins s σ H Q I hw
  refine wpAny_isTrue_Compare1 (thn (h pins s σ H _ I hw) fun v s1 h1 => thn h1 fun u s2 h2 => thn h2 fun c s3 ⟨x,H1,I1,r1,q1⟩ => ?_) h1
  obtain ⟨d,rfl,q⟩ := q1
  cases r1
  exact wpAny_truthy_bool ⟨H1,I1,q⟩
theorem pt_val {e : Expr} {t : TE} (h : PE X e t) (he : ∀ whole,isTrue e X.env whole = (do let v ← whole; standAt e.pos; holding [v] (truthy v)) := by intro _; rfl) : PT X e (tB t) := by
  intro pins s σ H Q I hw
  refine isTrue_plain (thn (h pins s σ H _ I hw) fun v s1 ⟨x,H1,I1,r1,q1⟩ => ?_) (he _)
  obtain ⟨d,rfl,q⟩ := q1
  cases r1
  exact wpAny_truthy_bool ⟨H1,I1,q⟩
variable {tA tB' : TT} {rest : List Expr}
noncomputable def tAnd (t u : TT) : TT := fun σ H Q => t σ H fun c H1 => if c = true then u σ H1 Q else Q false H1
noncomputable def tOr (t u : TT) : TT := fun σ H Q => t σ H fun c H1 => if c = true then Q true H1 else u σ H1 Q
noncomputable def tNot (t : TT) : TT := fun σ H Q => t σ H fun c H1 => Q (!c) H1
theorem pw_and1 (ha : PT X a tA) : PW X (.BoolOp .And [a] pos) tA := by
  intro wh pins s σ H Q I h
  refine isTrue_and (thn (ha pins s σ H Q I h) fun c s1 e => ?_)
  cases c with
  | true => exact isTrue_and_nil e
  | false => exact e
theorem pw_or1 (ha : PT X a tA) : PW X (.BoolOp .Or [a] pos) tA := by
  intro wh pins s σ H Q I h
  refine isTrue_or (thn (ha pins s σ H Q I h) fun c s1 e => ?_)
  cases c with
  | false => exact isTrue_or_nil e
  | true => exact e
theorem pw_and (ha : PT X a tA) (hb : PW X (.BoolOp .And (b :: rest) pos) tB') : PW X (.BoolOp .And (a :: b :: rest) pos) (tAnd tA tB') := by
  intro wh pins s σ H Q I h
  refine isTrue_and (thn (ha pins s σ H _ I h) fun c s1 ⟨H1,I1,q1⟩ => ?_)
  cases c with
  | true => exact hb wh pins s1 σ H1 Q I1 q1
  | false => exact ⟨H1,I1,q1⟩
theorem pw_or (ha : PT X a tA) (hb : PW X (.BoolOp .Or (b :: rest) pos) tB') : PW X (.BoolOp .Or (a :: b :: rest) pos) (tOr tA tB') := by
  intro wh pins s σ H Q I h
  refine isTrue_or (thn (ha pins s σ H _ I h) fun c s1 ⟨H1,I1,q1⟩ => ?_)
  cases c with
  | true => exact ⟨H1,I1,q1⟩
  | false => exact hb wh pins s1 σ H1 Q I1 q1
theorem pt_not (ha : PT X a tA) : PT X (.UnaryOp .Not a pos) (tNot tA) := by
  intro pins s σ H Q I h
  exact isTrue_not (ha pins s σ H (fun c H1 => Q (!c) H1) I h)
noncomputable def tIf (t : TT) (ta tb : TE) : TE := fun σ H Q => t σ H fun c H1 => if c = true then ta σ H1 Q else tb σ H1 Q
theorem pe_ifExp {c : Expr} (hc : PT X c tA) (ha : PE X a ta) (hb : PE X b tb) : PE X (.IfExp c a b pos) (tIf tA ta tb) := by
  intro pins s σ H Q I h
  refine wpAny_IfExp (thn (hc pins s σ H _ I h) fun d s1 ⟨H1,I1,q1⟩ => ?_)
  cases d with
  | true => exact ha pins s1 σ H1 Q I1 q1
  | false => exact hb pins s1 σ H1 Q I1 q1
end
end L2
namespace L2
open PySem PySem.Spec PyProof.Rows
noncomputable def SqL (K : PySem.W.Frag) (H : Hp) (a : Addr) (xs : List V) : Prop :=
  Rd H a (.lst xs) ∨
    ∃ (o : Obj) (its : Array Value) (n : Nat),K.lookup a = some o ∧ o.cls = .type "list" ∧ o.dict = none ∧ o.data = .seq its n ∧ its.size ≤ sizeLine ∧ Vals xs its.toList
noncomputable def SqT (K : PySem.W.Frag) (H : Hp) (a : Addr) (xs : List V) : Prop :=
  Rd H a (.tup xs) ∨
    ∃ (o : Obj) (its : Array Value) (n : Nat),K.lookup a = some o ∧ o.cls = .type "tuple" ∧ o.data = .seq its n ∧ its.size ≤ sizeLine ∧ Vals xs its.toList
noncomputable def absV : Value → Option V
  | .none => some .non
  | .bool b => some (.bl b)
  | .int i _ => some (.int i)
  | .str x _ => some (.str x)
  | .bytes b _ => some (.byt b)
  | .float b _ => some (.flt b)
  | .ref a => some (.ref a)
  | .type n => some (.ty n)
  | _ => none
theorem RelV.abs {x : V} {u : Value} (r : RelV x u) : absV u = some x := by
  cases x with
  | non => cases r; rfl
  | bl _ => cases r; rfl
  | int _ => obtain ⟨t,rfl⟩ := r; rfl
  | str _ => obtain ⟨t,rfl⟩ := r; rfl
  | byt _ => obtain ⟨t,rfl⟩ := r; rfl
  | flt _ => obtain ⟨t,rfl⟩ := r; rfl
  | ref _ => cases r; rfl
  | ty _ => cases r; rfl
theorem RelV.inj {x y : V} {u : Value} (r : RelV x u) (q : RelV y u) : x = y := Option.some.inj (r.abs.symm.trans q.abs)
theorem Vals.inj {xs ys : List V} {us : List Value} (h : Vals xs us) (h' : Vals ys us) : xs = ys := by
  induction h generalizing ys with
  | nil => cases h'; rfl
  | cons r t ih =>
    cases h' with
    | cons r' t' => rw [r.inj r',ih t']
section
variable {X : Cx} {pins : List (Addr × Obj)} {σ : St} {H : Hp} {s : Shared} {a : Addr} {xs ys : List V}
theorem SqL.of {K : PySem.W.Frag} (h : H a = some (.lst xs)) : SqL K H a xs := .inl (.inl h)
theorem SqT.of {K : PySem.W.Frag} (h : H a = some (.tup xs)) : SqT K H a xs := .inl (.inl h)
theorem Inv.list (I : Inv X pins σ H s) (h : SqL X.K H a xs) : ∃ its : List Value,Vals xs its ∧ PlainL s.heap a its.toArray ∧ xs.length ≤ sizeLine := by
  rcases h with h | ⟨o,its,n,hk,hc,hd,hs,hz,r⟩
  · obtain ⟨z,its,n,r,e⟩ := h.ok I.hok
    exact ⟨its,r,⟨_,n,e,rfl,rfl,rfl⟩,z⟩
  · refine ⟨its.toList,r,⟨o,n,I.kIn a o hk,hc,hd,by simpa using hs⟩,?_⟩
    have e := r.length
    simp only [Array.length_toList] at e
    omega
theorem Inv.tuple (I : Inv X pins σ H s) (h : SqT X.K H a xs) : ∃ its : List Value,Vals xs its ∧ IsTup s.heap a its.toArray ∧ xs.length ≤ sizeLine := by
  rcases h with h | ⟨o,its,n,hk,hc,hs,hz,r⟩
  · obtain ⟨z,its,r,p⟩ := h.ok I.hok
    exact ⟨its,r,p,z⟩
  · refine ⟨its.toList,r,⟨o,I.kIn a o hk,hc,n,by simpa using hs⟩,?_⟩
    have e := r.length
    simp only [Array.length_toList] at e
    omega
theorem Inv.list_inj (I : Inv X pins σ H s) (h : SqL X.K H a xs) (h' : SqL X.K H a ys) : xs = ys := by
  obtain ⟨its,r,⟨o,n,e,_,_,d⟩,_⟩ := I.list h
  obtain ⟨its',r',⟨o',n',e',_,_,d'⟩,_⟩ := I.list h'
  rw [e] at e'; cases e'
  rw [d] at d'
  injection d' with d1 _
  have : its = its' := by simpa using congrArg Array.toList d1
  subst this
  exact r.inj r'
theorem Inv.tuple_inj (I : Inv X pins σ H s) (h : SqT X.K H a xs) (h' : SqT X.K H a ys) : xs = ys := by
  obtain ⟨its,r,⟨o,e,_,n,d⟩,_⟩ := I.tuple h
  obtain ⟨its',r',⟨o',e',_,n',d'⟩,_⟩ := I.tuple h'
  rw [e] at e'; cases e'
  rw [d] at d'
  injection d' with d1 _
  have : its = its' := by simpa using congrArg Array.toList d1
  subst this
  exact r.inj r'
end
noncomputable abbrev Cx.wish (X : Cx) (E : Value → Shared → Prop) : Cx := { X with xe := E }
noncomputable abbrev Cx.nox (X : Cx) : Cx := X.wish fun _ _ => False
theorem Cx.Ok.wish {X : Cx} (ok : X.Ok) (E : Value → Shared → Prop) : (X.wish E).Ok :=
  ⟨ok.mod,ok.kind,ok.glob,ok.blt,ok.above,ok.inj,ok.has,ok.cab,ok.hd,ok.frames,ok.stk,ok.exf,ok.bs,ok.bsz,ok.noex,ok.exfs,ok.funs,ok.frf⟩
theorem Cx.Ok.unwish {X : Cx} {E : Value → Shared → Prop} (ok : (X.wish E).Ok) : X.Ok :=
  ⟨ok.mod,ok.kind,ok.glob,ok.blt,ok.above,ok.inj,ok.has,ok.cab,ok.hd,ok.frames,ok.stk,ok.exf,ok.bs,ok.bsz,ok.noex,ok.exfs,ok.funs,ok.frf⟩
section
variable {X : Cx} {pins : List (Addr × Obj)} {σ : St} {H : Hp} {s : Shared} {E : Value → Shared → Prop}
theorem Inv.wish (I : Inv X pins σ H s) (E : Value → Shared → Prop) : Inv (X.wish E) pins σ H s := ⟨I.ok.wish E,I.os,I.bare,I.base,I.loc,I.cell,I.free,I.freeC,I.pin,I.hok,I.len⟩
theorem Inv.unwish (I : Inv (X.wish E) pins σ H s) : Inv X pins σ H s := ⟨I.ok.unwish,I.os,I.bare,I.base,I.loc,I.cell,I.free,I.freeC,I.pin,I.hok,I.len⟩
theorem SP.unwish {D : Ends} {f : Flow} {s' : Shared} (h : SP (X.wish E) pins D f s') : SP X pins D f s' := by
  cases f with
  | next => obtain ⟨σ',H',I,q⟩ := h; exact ⟨σ',H',I.unwish,q⟩
  | brk => obtain ⟨σ',H',I,q⟩ := h; exact ⟨σ',H',I.unwish,q⟩
  | cont => obtain ⟨σ',H',I,q⟩ := h; exact ⟨σ',H',I.unwish,q⟩
  | ret u => obtain ⟨v,σ',H',I,r,q⟩ := h; exact ⟨v,σ',H',I.unwish,r,q⟩
theorem PSs.nox {st : List Stmt} {t : TS} (h : PSs X.nox st t) : PSs X st t := fun pins s σ H D I hw =>
  wpAny_mono (h pins s σ H D (I.wish _) hw) (fun _ _ q => q.unwish) fun _ _ z => False.elim z
end
section
variable {X : Cx} {st : Stmt} {rest : List Stmt} {t u : TS} {e : Expr} {te : TE} {pos : Pos}
noncomputable def tNext : TS := fun D σ H => D.nx σ H
noncomputable def tSeq (t u : TS) : TS := fun D σ H => t { D with nx := u D } σ H
theorem pss_nil : PSs X [] tNext := fun _ _ σ H _ I h => wpAny_execs_nil ⟨σ,H,I,h⟩
theorem pss_cons (h1 : PS X st t) (h2 : PSs X rest u) : PSs X (st :: rest) (tSeq t u) := by
  intro pins s σ H D I h
  refine wpAny_execs_cons (thn (h1 pins s σ H { D with nx := u D } I h) fun f s1 q => ?_)
  cases f with
  | next =>
    obtain ⟨σ',H',I',q⟩ := q
    exact h2 pins s1 σ' H' D I' q
  | ret v => exact q
  | brk => exact q
  | cont => exact q
theorem pss_one (h1 : PS X st t) : PSs X [st] t := by
  intro pins s σ H D I h
  refine wpAny_execs_cons (thn (h1 pins s σ H D I h) fun f s1 q => ?_)
  cases f with
  | next => exact wpAny_execs_nil q
  | ret v => exact q
  | brk => exact q
  | cont => exact q
theorem Inv.quiet {pins : List (Addr × Obj)} {σ : St} {H : Hp} {s : Shared} (I : Inv X pins σ H s) : interactive X.env = false := by simp [interactive,I.ok.kind]
noncomputable def tDrop (te : TE) : TS := fun D σ H => te σ H fun _ H1 => D.nx σ H1
theorem ps_expr (he : PE X e te) (hs : swapsWith e none pos.line X.env = pure false := by rfl) : PS X (.Expr e pos) (tDrop te) := by
  intro pins s σ H D I h
  exact wpAny_Expr_any (thn (he pins s σ H _ I h) fun v s1 ⟨x,H1,I1,r1,q1⟩ => ⟨σ,H1,I1,q1⟩) I.quiet hs
noncomputable def tRet (te : TE) : TS := fun D σ H => te σ H D.rt
theorem ps_ret (he : PE X e te) : PS X (.Return (some e) pos) (tRet te) := by
  intro pins s σ H D I h
  exact wpAny_Return_some (thn (he pins s σ H _ I h) fun v s1 ⟨x,H1,I1,r1,q1⟩ => ⟨x,σ,H1,I1,r1,q1⟩)
noncomputable def tIfS (c : TT) (t u : TS) : TS := fun D σ H => c σ H fun b H1 => if b = true then t D σ H1 else u D σ H1
theorem ps_if {c : Expr} {a b : List Stmt} {tc : TT} (hc : PT X c tc) (ha : PSs X a t) (hb : PSs X b u) : PS X (.If c a b pos) (tIfS tc t u) := by
  intro pins s σ H D I h
  refine wpAny_If (thn (hc pins s σ H _ I h) fun d s1 ⟨H1,I1,q1⟩ => ?_)
  cases d with
  | true => exact ha pins s1 σ H1 D I1 q1
  | false => exact hb pins s1 σ H1 D I1 q1
noncomputable def tNever : TS := fun _ _ _ => False
theorem ps_never : PS X st tNever := fun _ _ _ _ _ _ h => h.elim
end
noncomputable abbrev TG := V → St → Hp → (St → Hp → Prop) → Prop
noncomputable def PG (X : Cx) (target : Expr) (t : TG) : Prop :=
  ∀ (pins : List (Addr × Obj)) (s : Shared) (σ : St) (H : Hp) (v : V) (u : Value) (Q : St → Hp → Prop),Inv X pins σ H s → RelV v u → t v σ H Q →
    wpAny (model X.prog X.w) X.A (assign target X.env u) (fun _ s' => ∃ σ' H',Inv X pins σ' H' s' ∧ Q σ' H') X.xe s
noncomputable abbrev TSet := V → V → V → Hp → (Hp → Prop) → Prop
noncomputable def PSet (X : Cx) (t : TSet) : Prop :=
  ∀ (pins : List (Addr × Obj)) (s : Shared) (σ : St) (H : Hp) (o i v : V) (ov iv u : Value) (Q : Hp → Prop),Inv X pins σ H s → RelV o ov → RelV i iv → RelV v u → t o i v H Q →
    wpAny (model X.prog X.w) X.A (setItem ov iv u) (fun _ s' => ∃ H',Inv X pins σ H' s' ∧ Q H') X.xe s
section
variable {X : Cx} {pos : Pos}
noncomputable def gName (i : Nat) : TG := fun v σ H Q => Q (σ.set i (some v)) H
theorem pg_name {i : Nat} {x : Str} (hN : X.N.Nodup) (hi : X.N[i]? = some x) (hx : Loc X.env.scope x) (hf : X.fn x = true ∨ X.env.scope.names.lookup x = some .local := by first | exact .inl rfl | exact .inr rfl | assumption) : PG X (.Name x pos) (gName i) := by
  intro pins s σ H v u Q I r h
  exact wpAny_assign_Name (store_ok I hN hi hx r (fun s' I' => ⟨_,H,I',h⟩) hf)
noncomputable def gSub (to ti : TE) (t : TSet) : TG := fun v σ H Q => to σ H fun o H1 => ti σ H1 fun i H2 => t o i v H2 fun H3 => Q σ H3
theorem pg_sub {o i : Expr} {to ti : TE} {t : TSet} (ho : PE X o to) (hi : PE X i ti) (hs : PSet X t)
    (ha : ∀ v,assign (.Subscript o i pos) X.env v = (do
      let ov ← holding [v] (eval o X.env)
      let iv ← holding [v,ov] (eval i X.env)
      standAt pos
      holding [v,ov,iv] (setItem ov iv v)
      release [v,ov,iv] []) := by intro _; rfl) : PG X (.Subscript o i pos) (gSub to ti t) := by
  intro pins s σ H v u Q I r h
  rw [ha]
  refine wpAny_bind (wpAny_holding (thn (ho pins s σ H _ I h) fun ov s1 ⟨x,H1,I1,r1,q1⟩ => ?_))
  refine wpAny_bind (wpAny_holding (thn (hi pins s1 σ H1 _ I1 q1) fun iv s2 ⟨y,H2,I2,r2,q2⟩ => ?_))
  refine wpAny_bind (wpAny_standAt (wpAny_bind (wpAny_holding (thn (hs pins s2 σ H2 x y v ov iv u _ I2 r1 r2 r q2) fun _ s3 ⟨H3,I3,q3⟩ => ?_))))
  exact wpAny_release ⟨σ,H3,I3,q3⟩
noncomputable def tAsg (te : TE) (g : TG) : TS := fun D σ H => te σ H fun x H1 => g x σ H1 D.nx
theorem ps_asg {tg e : Expr} {te : TE} {g : TG} (he : PE X e te) (hg : PG X tg g) (hs : swapsWithSole [tg] e pos.line X.env = pure false := by rfl) (hw : swappedStores [tg] e X.env = pure none := by rfl)
    (h1 : (assignEach [tg] X.env).map (·.2) = [assign tg X.env] := by rfl) : PS X (.Assign [tg] e pos) (tAsg te g) := by
  intro pins s σ H D I h
  refine wpAny_Assign_stores (thn (he pins s σ H _ I h) fun v s1 ⟨x,H1,I1,r1,q1⟩ => ?_) hs hw
  rw [h1]
  exact thn (hg pins s1 σ H1 x v _ I1 r1 q1) fun _ s2 q => q
theorem ps_set {i : Nat} {x : Str} {e : Expr} {te : TE} {pos' : Pos} (hN : X.N.Nodup) (hi : X.N[i]? = some x) (hx : Loc X.env.scope x) (he : PE X e te) (hs : swapsWith e (some (.Name x pos')) pos.line X.env = pure false := by rfl) (hf : X.fn x = true ∨ X.env.scope.names.lookup x = some .local := by first | exact .inl rfl | exact .inr rfl | assumption) :
    PS X (.Assign [.Name x pos'] e pos) (tAsg te (gName i)) := by
  intro pins s σ H D I h
  refine wpAny_Assign_Name (thn (he pins s σ H _ I h) fun v s1 ⟨y,H1,I1,r1,q1⟩ => ?_) hs
  exact store_ok I1 hN hi hx r1 (fun s2 I2 => ⟨_,H1,I2,q1⟩) hf
end
section
variable {X : Cx} {pos : Pos}
noncomputable def tWhile (c : TT) (tb : TS) : TS := fun D σ H => ∃ W : Nat → St → Hp → Prop,(∃ m,W m σ H) ∧ ∀ m σ H,W m σ H →
  c σ H fun b H1 => if b = true then ∃ N : St → Hp → Prop,(∀ σ' H',N σ' H' → ∃ m',m' < m ∧ W m' σ' H') ∧ tb { D with nx := N,ct := N,bk := D.nx } σ H1 else D.nx σ H1
theorem ps_while {c : Expr} {body : List Stmt} {tc : TT} {tb : TS} (hp : PassesOwn (model X.prog X.w) X.A X.env X.xe) (hc : PT X c tc) (hb : PSs X body tb) : PS X (.While c body [] pos) (tWhile tc tb) := by
  intro pins s σ H D I h
  obtain ⟨W,⟨m0,w0⟩,turn⟩ := h
  refine wpAny_While (codeAny_whileLoop (fun n s' => ∃ σ' H',Inv X pins σ' H' s' ∧ W n σ' H') ?_ m0 ⟨σ,H,I,w0⟩)
  rintro n s1 ⟨σ1,H1,I1,w1⟩
  refine wpAny_passesOwn hp (thn (hc pins s1 σ1 H1 _ I1 (turn n σ1 H1 w1)) fun b s2 ⟨H2,I2,q2⟩ => ?_)
  cases b with
  | true =>
    obtain ⟨N,hN,q2⟩ := q2
    rw [if_pos rfl]
    refine wpAny_passesOwn hp (thn (hb pins s2 σ1 H2 _ I2 q2) fun f s3 q3 => ?_)
    cases f with
    | next =>
      obtain ⟨σ3,H3,I3,n3⟩ := q3
      obtain ⟨m',hm,w3⟩ := hN σ3 H3 n3
      exact ⟨m',hm,σ3,H3,I3,w3⟩
    | cont =>
      obtain ⟨σ3,H3,I3,n3⟩ := q3
      obtain ⟨m',hm,w3⟩ := hN σ3 H3 n3
      exact ⟨m',hm,σ3,H3,I3,w3⟩
    | brk => exact q3
    | ret v => exact q3
  | false =>
    rw [if_neg Bool.false_ne_true]
    exact wpAny_execs_nil ⟨σ1,H2,I2,q2⟩
end
structure It where
  go : Nat → Hp → Prop
  yld : Nat → Hp → V → Hp → Prop
  stop : Nat → Hp → Prop
noncomputable def FpOk (X : Cx) (pins : List (Addr × Obj)) (H : Hp) (b : Addr) : Prop :=
  H b = none ∧ b ≠ X.env.locals ∧ b ∉ X.fs ∧ (b ∈ X.ex ∨ X.s₀.heap.objs.size ≤ b) ∧ (∀ x c,X.env.cells.lookup x = some c → c ≠ b) ∧ ∀ p ∈ X.pn ++ pins,p.1 ≠ b
theorem Inv.fpOk {X : Cx} {pins : List (Addr × Obj)} {σ : St} {H H' : Hp} {s : Shared} {b : Addr} (I : Inv X pins σ H s) (hb : s.heap.objs.size ≤ b) (hn : H' b = none) : FpOk X pins H' b := by
  refine ⟨hn,Nat.ne_of_gt (Nat.lt_of_lt_of_le I.lt hb),I.nofs hb,.inr (Nat.le_trans I.sz hb),fun x c e z => ?_,fun p hp z => ?_⟩
  · obtain ⟨v,q⟩ := I.cell x c e
    exact absurd (Nat.lt_of_lt_of_le q.lt (by rw [z]; exact hb)) (Nat.lt_irrefl _)
  · exact absurd (Nat.lt_of_lt_of_le (Heap.lt_size (I.pin p hp).1) (by rw [z]; exact hb)) (Nat.lt_irrefl _)
structure Turn (P : Program) (w : World) (K : PySem.W.Frag) (tg : Expr) (J : It) (fp : List Addr) (it : Addr) (tn : Nat → Heap → Prop) : Prop where
  mem : it ∈ fp
  obj : ∀ i h,tn i h → ∀ b ∈ fp,∃ o,h.get? b = some o ∧ ∀ v,o.data ≠ .cell v
  keep : ∀ i h h',tn i h → (∀ b ∈ fp,∀ o,h.get? b = some o → h'.get? b = some o) → tn i h'
  item : ∀ (X : Cx),X.prog = P → X.w = w → X.K = K → X.calm = true → ∀ (i : Nat) (pins : List (Addr × Obj)) (s : Shared) (σ : St) (H : Hp) (E : Value → Shared → Prop),Inv X pins σ H s → (∀ b ∈ fp,FpOk X pins H b) → tn i s.heap → J.go i H →
    wpAny (model P w) X.A (pyNext (.ref it)) (fun r s1 => ∃ u,r = some u ∧
      wpAny (model P w) X.A (letOwnedTupleGo tg (.ref it) u) (fun _ s2 => ∃ x H',Inv X pins σ H' s2 ∧ RelV x u ∧ J.yld i H x H' ∧ tn (i + 1) s2.heap ∧ ∀ b ∈ fp,H' b = none) E s1) E s
  done : ∀ (X : Cx),X.prog = P → X.w = w → X.K = K → X.calm = true → ∀ (i : Nat) (pins : List (Addr × Obj)) (s : Shared) (σ : St) (H : Hp) (E : Value → Shared → Prop),Inv X pins σ H s → (∀ b ∈ fp,FpOk X pins H b) → tn i s.heap → J.stop i H →
    wpAny (model P w) X.A (pyNext (.ref it)) (fun r s1 => r = none ∧ Inv X pins σ H s1) E s
  self : ∀ (A : Around) (i : Nat) (s : Shared) (Q : Value → Shared → Prop) (E : Value → Shared → Prop),tn i s.heap → Q (.ref it) s → wpAny (model P w) A (pyIter (.ref it)) Q E s
noncomputable abbrev TI := St → Hp → (It → Hp → Prop) → Prop
noncomputable def PIE (X : Cx) (pins : List (Addr × Obj)) (σ : St) (tg : Expr) (R : It → Hp → Prop) (itv : Value) (s2 : Shared) : Prop :=
  ∃ (it : Addr) (fp : List Addr) (tn : Nat → Heap → Prop) (J : It) (H' : Hp),itv = .ref it ∧ Inv X pins σ H' s2 ∧ Turn X.prog X.w X.K tg J fp it tn ∧ tn 0 s2.heap ∧ (∀ b ∈ fp,FpOk X pins H' b) ∧ R J H'
noncomputable def PI (X : Cx) (tg iter : Expr) (wi : TI) : Prop :=
  ∀ (pins : List (Addr × Obj)) (s : Shared) (σ : St) (H : Hp) (R : It → Hp → Prop),Inv X pins σ H s → wi σ H R →
    wpAny (model X.prog X.w) X.A (eval iter X.env) (fun v s1 => wpAny (model X.prog X.w) X.A (pyIter v) (PIE X pins σ tg R) X.xe s1) X.xe s
theorem go_of {M : Model} {A : Around} {E : Value → Shared → Prop} {s : Shared} {tg : Expr} {it : Addr} {u : Value} {o : Obj} {n : String} {vs : Array Value} {Q : Unit → Shared → Prop} (ho : s.heap.get? it = some o) (hc : o.cls = .type n) (hd : o.data = .fields vs)
    (hn : ["enumerate","zip","dict_itemiterator","dict_reverseitemiterator","odict_iterator","itertools.zip_longest","itertools.pairwise"].contains n = false) (hQ : Q () s) : wpAny M A (letOwnedTupleGo tg (.ref it) u) Q E s := by
  unfold letOwnedTupleGo
  cases tg <;> first
    | exact wpAny_pure hQ
    | (cases u <;> first
        | exact wpAny_pure hQ
        | (refine wpAny_bind (wpAny_load ho ?_)
           rw [hc,hd]
           show wpAny M A (if (["enumerate","zip","dict_itemiterator","dict_reverseitemiterator","odict_iterator","itertools.zip_longest","itertools.pairwise"].contains n && vs[0]? == some (rawInt _)) = true then _ else _) Q E s
           rw [if_neg (by intro h; rw [hn,Bool.false_and] at h; cases h)]
           exact wpAny_pure hQ))
noncomputable def Itl (K : PySem.W.Frag) (a : Addr) : It :=
  ⟨fun i H => ∃ xs x,SqL K H a xs ∧ xs[i]? = some x,fun i H x H' => H' = H ∧ ∀ xs,SqL K H a xs → xs[i]? = some x,fun i H => ∃ xs,SqL K H a xs ∧ xs.length ≤ i⟩
noncomputable def Itt (K : PySem.W.Frag) (a : Addr) : It :=
  ⟨fun i H => ∃ xs x,SqT K H a xs ∧ xs[i]? = some x,fun i H x H' => H' = H ∧ ∀ xs,SqT K H a xs → xs[i]? = some x,fun i H => ∃ xs,SqT K H a xs ∧ xs.length ≤ i⟩
noncomputable def Itr (lo : Int) (n : Nat) : It := ⟨fun i _ => i < n,fun i H x H' => H' = H ∧ x = .int (lo + i),fun i _ => n ≤ i⟩
theorem turn_list {P : Program} {w : World} {K : PySem.W.Frag} {tg : Expr} (a it : Addr) : Turn P w K tg (Itl K a) [it] it (fun i h => h.IsListIter it a i) where
  mem := by simp
  obj := fun i h st b hb => by
    have e : b = it := by simpa using hb
    subst e
    obtain ⟨o,e,c,d⟩ := st
    exact ⟨o,e,fun v z => by rw [d] at z; cases z⟩
  keep := fun i h h' st k => st.at fun o e => k it (by simp) o e
  item := by
    intro X hP hw hK hc i pins s σ H E I hf st hg
    subst hP hw hK
    obtain ⟨xs,x,hq,hx⟩ := hg
    obtain ⟨its,rv,p,hz⟩ := I.list hq
    obtain ⟨u,hu,ru⟩ := rv.get hx
    obtain ⟨f0,f1,f2,f3,f4,f5⟩ := hf it (by simp)
    refine wpAny_pyNext_list_item st p.isList (x := u) (by simpa using hu) fun h' st' sb => ?_
    have I1 : Inv X pins σ H { s with heap := h' } := I.turned (t' := s.toks) (fun b o hb e => (sb.2 b hb).trans e) f0 f1 f3 f4 f5
    obtain ⟨o,e,c,d⟩ := id st'
    exact ⟨u,rfl,go_of (s := { s with heap := h' }) e c d (by decide) ⟨x,H,I1,ru,⟨rfl,fun ys hy => by rw [I.list_inj hy hq]; exact hx⟩,st',fun b hb => (hf b hb).1⟩⟩
  done := by
    intro X hP hw hK hc i pins s σ H E I hf st hg
    subst hP hw hK
    obtain ⟨xs,hq,hx⟩ := hg
    obtain ⟨its,rv,p,hz⟩ := I.list hq
    obtain ⟨f0,f1,f2,f3,f4,f5⟩ := hf it (by simp)
    have hl := rv.length
    exact wpAny_pyNext_list_end (I.ok.hd hc) st p.isList (by simp; omega) fun h' eb => ⟨rfl,I.turned (t' := s.toks) (fun b o hb e => eb b o hb e) f0 f1 f3 f4 f5⟩
  self := fun _ _ _ _ _ st h => wpAny_pyIter_listiter st h
theorem turn_tuple {P : Program} {w : World} {K : PySem.W.Frag} {tg : Expr} (a it : Addr) : Turn P w K tg (Itt K a) [it] it (fun i h => h.IsTupleIter it a i) where
  mem := by simp
  obj := fun i h st b hb => by
    have e : b = it := by simpa using hb
    subst e
    obtain ⟨o,e,c,d⟩ := st
    exact ⟨o,e,fun v z => by rw [d] at z; cases z⟩
  keep := fun i h h' st k => st.at fun o e => k it (by simp) o e
  item := by
    intro X hP hw hK hc i pins s σ H E I hf st hg
    subst hP hw hK
    obtain ⟨xs,x,hq,hx⟩ := hg
    obtain ⟨its,rv,p,hz⟩ := I.tuple hq
    obtain ⟨u,hu,ru⟩ := rv.get hx
    obtain ⟨f0,f1,f2,f3,f4,f5⟩ := hf it (by simp)
    refine wpAny_pyNext_tuple_item st (show s.heap.IsTuple a its.toArray from p) (x := u) (by simpa using hu) fun h' st' sb => ?_
    have I1 : Inv X pins σ H { s with heap := h' } := I.turned (t' := s.toks) (fun b o hb e => (sb.2 b hb).trans e) f0 f1 f3 f4 f5
    obtain ⟨o,e,c,d⟩ := id st'
    exact ⟨u,rfl,go_of (s := { s with heap := h' }) e c d (by decide) ⟨x,H,I1,ru,⟨rfl,fun ys hy => by rw [I.tuple_inj hy hq]; exact hx⟩,st',fun b hb => (hf b hb).1⟩⟩
  done := by
    intro X hP hw hK hc i pins s σ H E I hf st hg
    subst hP hw hK
    obtain ⟨xs,hq,hx⟩ := hg
    obtain ⟨its,rv,p,hz⟩ := I.tuple hq
    obtain ⟨f0,f1,f2,f3,f4,f5⟩ := hf it (by simp)
    have hl := rv.length
    exact wpAny_pyNext_tuple_end (I.ok.hd hc) st (show s.heap.IsTuple a its.toArray from p) (by simp; omega) fun h' eb => ⟨rfl,I.turned (t' := s.toks) (fun b o hb e => eb b o hb e) f0 f1 f3 f4 f5⟩
  self := fun _ _ _ _ _ st h => wpAny_pyIter_tupleiter st h
theorem turn_range {P : Program} {w : World} {K : PySem.W.Frag} {tg : Expr} (it : Addr) (lo : Int) (n : Nat) : Turn P w K tg (Itr lo n) [it] it (fun i h => IsRangeIter h it (lo + (i : Nat) * 1) ((n : Int) - (i : Nat)) 1) where
  mem := by simp
  obj := fun i h st b hb => by
    have e : b = it := by simpa using hb
    subst e
    exact ⟨_,st,fun v z => by
      have z' : Data.fields _ = Data.cell v := z
      cases z'⟩
  keep := fun i h h' st k => k it (by simp) _ st
  item := by
    intro X hP hw hK hc i pins s σ H E I hf st hg
    subst hP hw hK
    obtain ⟨f0,f1,f2,f3,f4,f5⟩ := hf it (by simp)
    have W := Walks.range (prog := X.prog) (w := X.w) (I.ok.hd hc) it lo 1 n
    refine W.item i s _ _ hg st fun v h' tk hv st' kk => ?_
    obtain ⟨t,rfl⟩ := hv
    have I1 : Inv X pins σ H { s with heap := h',toks := tk } := I.turned (fun b o hb e => kk b o (by simpa using hb) e) f0 f1 f3 f4 f5
    refine ⟨_,rfl,go_of (s := { s with heap := h',toks := tk }) (n := "range_iterator") st' rfl rfl (by decide) ⟨.int (lo + i),H,I1,⟨t,?_⟩,⟨rfl,rfl⟩,st',fun b hb => (hf b hb).1⟩⟩
    rw [Int.mul_one]
  done := by
    intro X hP hw hK hc i pins s σ H E I hf st hg
    subst hP hw hK
    obtain ⟨f0,f1,f2,f3,f4,f5⟩ := hf it (by simp)
    exact wpAny_pyNext_range_end (I.ok.hd hc) st (by have : n ≤ i := hg; omega) fun h' eb => ⟨rfl,I.turned (t' := s.toks) (fun b o hb e => eb b o hb e) f0 f1 f3 f4 f5⟩
  self := fun _ _ _ _ _ st h => wpAny_pyIter_rangeiter st h
end L2
namespace L2
open PySem PySem.Spec PyProof.Rows
section
variable {X : Cx} {tg : Expr}
noncomputable def iList (K : PySem.W.Frag) (tl : TE) : TI := fun σ H R => tl σ H fun x H1 => ∃ a,x = .ref a ∧ (∃ xs,SqL K H1 a xs) ∧ R (Itl K a) H1
theorem range_it {pins : List (Addr × Obj)} {σ : St} {H : Hp} {s : Shared} {R : It → Hp → Prop} {E : Value → Shared → Prop} {lo hi : Int} {t u v : Tok} {tk : Nat} (I : Inv X pins σ H s) (h1 : -(2 ^ 62) ≤ lo) (h2 : lo < 2 ^ 62) (h3 : -(2 ^ 62) ≤ hi) (h4 : hi < 2 ^ 62)
    (q : R (Itr lo (hi - lo).toNat) H) : wpAny (model X.prog X.w) X.A (pyIter (.ref s.heap.objs.size)) (PIE X pins σ tg R) E { s with heap := s.heap.push { cls := .type "range",data := .fields #[.int lo t,.int hi u,.int 1 v] },toks := tk } := by
  refine wpAny_pyIter_range (IsRange.new ..) (small_one h1 h2 h3 h4) ?_
  have I1 : Inv X pins σ H { s with heap := s.heap.push { cls := .type "range",data := .fields #[.int lo t,.int hi u,.int 1 v] },toks := tk } := I.kept fun b o e => Heap.get?_push_of_some _ e
  refine ⟨(s.heap.push { cls := .type "range",data := .fields #[.int lo t,.int hi u,.int 1 v] }).objs.size,[(s.heap.push { cls := .type "range",data := .fields #[.int lo t,.int hi u,.int 1 v] }).objs.size],_,_,H,rfl,
    I1.kept (t' := tk) fun b o e => Heap.get?_push_of_some _ e,turn_range _ lo (hi - lo).toNat,?_,fun b hb => ?_,q⟩
  · have e1 : lo + ((0 : Nat) : Int) * 1 = lo := by simp
    have e2 : (((hi - lo).toNat : Nat) : Int) - ((0 : Nat) : Int) = Builtin.Range.rangeSize lo hi 1 := by rw [rangeSize_one]; split <;> omega
    show IsRangeIter _ _ (lo + ((0 : Nat) : Int) * 1) ((((hi - lo).toNat : Nat) : Int) - ((0 : Nat) : Int)) 1
    rw [e1,e2]
    exact Heap.get?_push_size _ rfl
  · have e : b = (s.heap.push { cls := .type "range",data := .fields #[.int lo t,.int hi u,.int 1 v] }).objs.size := by simpa using hb
    subst e
    exact I1.fpOk (Nat.le_refl _) (I1.hok.fresh (Nat.le_refl _))
inductive SRng1 (vs : List V) (H : Hp) (R : It → Hp → Prop) : Prop | mk (j : Int) (h : vs = [.int j]) (h1 : -(2 ^ 62) ≤ j) (h2 : j < 2 ^ 62) (q : R (Itr 0 j.toNat) H)
noncomputable def iRng1 (ta : TA) : TI := fun σ H R => ta σ H fun vs H1 => SRng1 vs H1 R
noncomputable def iRng2 (ta : TA) : TI := fun σ H R => ta σ H fun vs H1 => ∃ i j : Int,vs = [.int i,.int j] ∧ (-(2 ^ 62) ≤ i ∧ i < 2 ^ 62 ∧ -(2 ^ 62) ≤ j ∧ j < 2 ^ 62) ∧ R (Itr i (j - i).toNat) H1
theorem pi_range1 {a : Expr} {ta : TA} {p pos : Pos} (hg : Gl X "range") (hm : X.mg "range" = none) (ha : PA X [a] ta) (hs : starEach [a] X.env = [(false,eval a X.env)] := by rfl) : PI X tg (.Call (.Name "range" p) [a] [] pos) (iRng1 ta) := by
  intro pins s σ H R I h
  refine Call_ (ld_blt I hg hm boot_range (PyProof.Rows.callWith_type1 (thn (ha pos pins s σ H _ I h) fun us s1 ⟨vs,H1,I1,r1,q1⟩ => ?_) hs rfl))
  obtain ⟨j,e,q1,q2,q⟩ := q1
  subst e
  cases r1 with
  | cons r rr =>
    cases rr
    obtain ⟨t,rfl⟩ := r
    exact call_range_1 (range_it I1 (by omega) (by omega) q1 q2 (by simpa using q))
theorem pi_range2 {a b : Expr} {ta : TA} {p pos : Pos} (hg : Gl X "range") (hm : X.mg "range" = none) (ha : PA X [a,b] ta) (hs : starEach [a,b] X.env = [(false,eval a X.env),(false,eval b X.env)] := by rfl) (hs2 : starEach [b] X.env = [(false,eval b X.env)] := by rfl) :
    PI X tg (.Call (.Name "range" p) [a,b] [] pos) (iRng2 ta) := by
  intro pins s σ H R I h
  refine Call_ (ld_blt I hg hm boot_range (PyProof.Rows.callWith_type1 (thn (ha pos pins s σ H _ I h) fun us s1 ⟨vs,H1,I1,r1,q1⟩ => ?_) (by rw [hs,hs2]) (by rw [hs2]; rfl)))
  obtain ⟨i,j,e,⟨q1,q2,q3,q4⟩,q⟩ := q1
  subst e
  cases r1 with
  | cons r rr =>
    cases rr with
    | cons r' rr =>
      cases rr
      obtain ⟨t,rfl⟩ := r
      obtain ⟨t',rfl⟩ := r'
      exact call_range_2 (range_it I1 q1 q2 q3 q4 q)
noncomputable def tFor (wi : TI) (g : TG) (tb : TS) : TS := fun D σ H => wi σ H fun J H1 => ∃ W : Nat → Nat → St → Hp → Prop,(∃ m,W 0 m σ H1) ∧ ∀ i m σ H,W i m σ H →
  (J.stop i H ∧ D.nx σ H) ∨ (J.go i H ∧ ∃ N : St → Hp → Prop,(∀ σ' H',N σ' H' → ∃ m',m' < m ∧ W (i + 1) m' σ' H') ∧ ∀ x H',J.yld i H x H' → g x σ H' fun σ2 H2 => tb { D with nx := N,ct := N,bk := D.nx } σ2 H2)
noncomputable def pinsAt (fp : List Addr) (h : Heap) : List (Addr × Obj) := fp.filterMap fun b => (h.get? b).map fun o => (b,o)
theorem mem_pinsAt {fp : List Addr} {h : Heap} {b : Addr} {o : Obj} (hb : b ∈ fp) (e : h.get? b = some o) : (b,o) ∈ pinsAt fp h := List.mem_filterMap.mpr ⟨b,hb,by rw [e]; rfl⟩
theorem of_pinsAt {fp : List Addr} {h : Heap} {p : Addr × Obj} (hp : p ∈ pinsAt fp h) : p.1 ∈ fp ∧ h.get? p.1 = some p.2 := by
  obtain ⟨b,hb,e⟩ := List.mem_filterMap.mp hp
  cases q : h.get? b with
  | none => rw [q] at e; cases e
  | some o =>
    rw [q] at e
    have e' : (b,o) = p := Option.some.inj e
    subst e'
    exact ⟨hb,q⟩
theorem Inv.pinned {pins : List (Addr × Obj)} {σ : St} {H : Hp} {s : Shared} {fp : List Addr} (I : Inv X pins σ H s) (hf : ∀ b ∈ fp,FpOk X pins H b) (ho : ∀ b ∈ fp,∃ o,s.heap.get? b = some o ∧ ∀ v,o.data ≠ .cell v) : Inv X (pins ++ pinsAt fp s.heap) σ H s :=
  I.pins_of fun p hp => (List.mem_append.mp hp).elim (fun z => I.pin p (List.mem_append_right _ z)) fun z => by
    obtain ⟨hb,e⟩ := of_pinsAt z
    obtain ⟨f0,f1,f2,_⟩ := hf p.1 hb
    obtain ⟨o,e',d⟩ := ho p.1 hb
    rw [e] at e'; cases e'
    exact ⟨e,f0,f1,f2,d⟩
theorem Inv.unpinned {pins pl : List (Addr × Obj)} {σ : St} {H : Hp} {s : Shared} (I : Inv X (pins ++ pl) σ H s) : Inv X pins σ H s := I.pins_of fun p hp => I.pin p (List.mem_append_right _ (List.mem_append_left _ hp))
theorem ps_for {iter : Expr} {body : List Stmt} {wi : TI} {g : TG} {tb : TS} {pos : Pos} (hp : PassesOwn (model X.prog X.w) X.A X.env X.xe) (hc : X.calm = true) (hi : PI X tg iter wi) (hg : PG X tg g) (hb : PSs X body tb)
    (hs : ∀ x,foldedSetIterable iter X.env x = pure x := by intro _; rfl) : PS X (.For tg iter body [] pos) (tFor wi g tb) := by
  intro pins s σ H D I h
  refine wpAny_For (thn (hi pins s σ H _ I h) fun v s1 h1 => thn h1 fun itv s2 h2 => ?_) hs
  obtain ⟨it,fp,tn,J,H2,e,I2,T,st2,f2,W,⟨m0,w0⟩,turn⟩ := h2
  subst e
  have stat : ∀ {H' : Hp},(∀ b ∈ fp,H' b = none) → ∀ b ∈ fp,FpOk X pins H' b := fun hn b hb => ⟨hn b hb,(f2 b hb).2⟩
  refine codeAny_forLoop_any (fun n s' => ∃ i σ' H',Inv X pins σ' H' s' ∧ tn i s'.heap ∧ (∀ b ∈ fp,H' b = none) ∧ W i n σ' H') ?_ m0 ⟨0,σ,H2,I2,st2,fun b hb => (f2 b hb).1,w0⟩
  rintro n s3 ⟨i,σ3,H3,I3,st3,fr3,w3⟩
  rcases turn i n σ3 H3 w3 with ⟨stop,qn⟩ | ⟨go,N,hN,step⟩
  · refine wpAny_passesOwn hp (thn (T.done X rfl rfl rfl hc i pins s3 σ3 H3 X.xe I3 (stat fr3) st3 stop) fun r s4 ⟨hr,I4⟩ => ?_)
    subst hr
    exact wpAny_execs_nil ⟨σ3,H3,I4,qn⟩
  · refine wpAny_passesOwn hp (thn (T.item X rfl rfl rfl hc i pins s3 σ3 H3 X.xe I3 (stat fr3) st3 go) fun r s4 ⟨u,hr,h4⟩ => ?_)
    subst hr
    refine wpAny_passesOwn hp (thn h4 fun _ s5 ⟨x,H5,I5,r5,y5,st5,fr5⟩ => ?_)
    have I5' := I5.pinned (stat fr5) (T.obj _ _ st5)
    refine wpAny_passesOwn hp (thn (hg _ s5 σ3 H5 x u _ I5' r5 (step x H5 y5)) fun _ s6 ⟨σ6,H6,I6,q6⟩ => ?_)
    refine wpAny_passesOwn hp (thn (hb _ s6 σ6 H6 _ I6 q6) fun f s7 q7 => ?_)
    have again : ∀ {σ7 : St} {H7 : Hp},Inv X (pins ++ pinsAt fp s5.heap) σ7 H7 s7 → N σ7 H7 → ∃ m,m < n ∧ ∃ i σ' H',Inv X pins σ' H' s7 ∧ tn i s7.heap ∧ (∀ b ∈ fp,H' b = none) ∧ W i m σ' H' := fun {σ7 H7} I7 n7 => by
      obtain ⟨m',hm,w7⟩ := hN σ7 H7 n7
      refine ⟨m',hm,i + 1,σ7,H7,I7.unpinned,T.keep _ _ _ st5 fun b hb o e => (I7.pin (b,o) (List.mem_append_right _ (List.mem_append_right _ (mem_pinsAt hb e)))).1,fun b hb => ?_,w7⟩
      obtain ⟨o,e,d⟩ := T.obj _ _ st5 b hb
      exact (I7.pin (b,o) (List.mem_append_right _ (List.mem_append_right _ (mem_pinsAt hb e)))).2.1
    cases f with
    | next => obtain ⟨σ7,H7,I7,n7⟩ := q7; exact again I7 n7
    | cont => obtain ⟨σ7,H7,I7,n7⟩ := q7; exact again I7 n7
    | brk => obtain ⟨σ7,H7,I7,q7⟩ := q7; exact ⟨σ7,H7,I7.unpinned,q7⟩
    | ret v => obtain ⟨x7,σ7,H7,I7,r7,q7⟩ := q7; exact ⟨x7,σ7,H7,I7.unpinned,r7,q7⟩
end
theorem for_range {lo : Int} {n : Nat} {g : TG} {tb : TS} {D : Ends} {σ : St} {H : Hp} (Pv : Nat → St → Hp → Prop) (h0 : Pv 0 σ H)
    (hs : ∀ i σ H,i < n → Pv i σ H → g (.int (lo + i)) σ H fun σ2 H2 => tb { D with nx := Pv (i + 1),ct := Pv (i + 1),bk := D.nx } σ2 H2) (hd : ∀ σ H,Pv n σ H → D.nx σ H) :
    ∃ W : Nat → Nat → St → Hp → Prop,(∃ m,W 0 m σ H) ∧ ∀ i m σ H,W i m σ H →
      ((Itr lo n).stop i H ∧ D.nx σ H) ∨ ((Itr lo n).go i H ∧ ∃ N : St → Hp → Prop,(∀ σ' H',N σ' H' → ∃ m',m' < m ∧ W (i + 1) m' σ' H') ∧ ∀ x H',(Itr lo n).yld i H x H' → g x σ H' fun σ2 H2 => tb { D with nx := N,ct := N,bk := D.nx } σ2 H2) := by
  refine ⟨fun i m σ H => m = n - i ∧ i ≤ n ∧ Pv i σ H,⟨n,by simp,Nat.zero_le _,h0⟩,?_⟩
  rintro i m σ H ⟨rfl,hi,p⟩
  by_cases hlt : i < n
  · refine .inr ⟨hlt,Pv (i + 1),fun σ' H' p' => ⟨n - (i + 1),by omega,rfl,hlt,p'⟩,fun x H' y => ?_⟩
    obtain ⟨e,y⟩ := y
    subst e y
    exact hs i σ _ hlt p
  · have e : i = n := by omega
    subst e
    exact .inl ⟨Nat.le_refl _,hd σ H p⟩
end L2
namespace L2
open PySem PySem.Spec PyProof.Rows
noncomputable abbrev R2 := V → V → Hp → VK → Prop
noncomputable def OpR (X : Cx) (f : Value → Value → Sem Value) (r : R2) : Prop :=
  ∀ (pins : List (Addr × Obj)) (s : Shared) (σ : St) (H : Hp) (x y : V) (v u : Value) (Q : VK),Inv X pins σ H s → RelV x v → RelV y u → r x y H Q →
    wpAny (model X.prog X.w) X.A (f v u) (EP X pins σ Q) X.xe s
noncomputable def UnR (X : Cx) (f : Value → Sem Value) (r : V → Hp → VK → Prop) : Prop :=
  ∀ (pins : List (Addr × Obj)) (s : Shared) (σ : St) (H : Hp) (x : V) (v : Value) (Q : VK),Inv X pins σ H s → RelV x v → r x H Q →
    wpAny (model X.prog X.w) X.A (f v) (EP X pins σ Q) X.xe s
noncomputable def CallR (X : Cx) (f : Value) (r : List V → Hp → VK → Prop) : Prop :=
  ∀ (pins : List (Addr × Obj)) (s : Shared) (σ : St) (H : Hp) (xs : List V) (us : List Value) (Q : VK),Inv X pins σ H s → Vals xs us → r xs H Q →
    wpAny (model X.prog X.w) X.A (call f us) (EP X pins σ Q) X.xe s
noncomputable def tOp (r : R2) (ta tb : TE) : TE := fun σ H Q => ta σ H fun x H1 => tb σ H1 fun y H2 => r x y H2 Q
noncomputable def tUn (r : V → Hp → VK → Prop) (ta : TE) : TE := fun σ H Q => ta σ H fun x H1 => r x H1 Q
inductive SII (C : Int → Int → Prop) (g : Int → Int → V) (x y : V) (H : Hp) (Q : VK) : Prop | mk (i j : Int) (hx : x = .int i) (hy : y = .int j) (c : C i j) (q : Q (g i j) H)
noncomputable def rI (C : Int → Int → Prop) (g : Int → Int → V) : R2 := fun x y H Q => SII C g x y H Q
inductive SI0 (g : Int → Int → V) (x y : V) (H : Hp) (Q : VK) : Prop | mk (i j : Int) (hx : x = .int i) (hy : y = .int j) (q : Q (g i j) H)
noncomputable def rI0 (g : Int → Int → V) : R2 := fun x y H Q => SI0 g x y H Q
inductive SU (g : Int → V) (x : V) (H : Hp) (Q : VK) : Prop | mk (i : Int) (hx : x = .int i) (q : Q (g i) H)
noncomputable def rU (g : Int → V) : V → Hp → VK → Prop := fun x H Q => SU g x H Q
section
variable {X : Cx} {a b c : Expr} {ta tb tc : TE} {pos : Pos}
theorem binT (ha : PE X a ta) (hb : PE X b tb) {pins : List (Addr × Obj)} {s : Shared} {σ : St} {H : Hp} {R : V → V → Hp → Prop} (I : Inv X pins σ H s)
    (h : ta σ H fun x H1 => tb σ H1 fun y H2 => R x y H2) {Q : Value → Shared → Prop} {f : Value → Value → Sem Value}
    (hf : ∀ v u s2 x y H2,Inv X pins σ H2 s2 → RelV x v → RelV y u → R x y H2 → wpAny (model X.prog X.w) X.A (f v u) Q X.xe s2) :
    wpAny (model X.prog X.w) X.A (eval a X.env) (fun v s₁ => wpAny (model X.prog X.w) X.A (eval b X.env) (fun u s₂ => wpAny (model X.prog X.w) X.A (f v u) Q X.xe s₂) X.xe s₁) X.xe s := by
  refine thn (ha pins s σ H _ I h) fun v s1 ⟨x,H1,I1,r1,q1⟩ => ?_
  refine thn (hb pins s1 σ H1 _ I1 q1) fun u s2 ⟨y,H2,I2,r2,q2⟩ => ?_
  exact hf v u s2 x y H2 I2 r1 r2 q2
theorem pe_op {op : Operator} {r : R2} (ho : OpR X (binaryOp op) r) (ha : PE X a ta) (hb : PE X b tb) : PE X (.BinOp a op b pos) (tOp r ta tb) := by
  intro pins s σ H Q I h
  exact wpAny_BinOp (binT ha hb I h fun v u s2 x y H2 I2 rx ry q => ho pins s2 σ H2 x y v u Q I2 rx ry q)
theorem pe_un {op : UnaryOp} {r : V → Hp → VK → Prop} (ho : UnR X (unaryOp op) r) (ha : PE X a ta) : PE X (.UnaryOp op a pos) (tUn r ta) := by
  intro pins s σ H Q I h
  exact UnaryOp_ (thn (ha pins s σ H _ I h) fun v s1 ⟨x,H1,I1,r1,q1⟩ => ho pins s1 σ H1 x v Q I1 r1 q1)
theorem opI {f : Value → Value → Sem Value} {C : Int → Int → Prop} {g : Int → Int → Int}
    (rule : ∀ (i j : Int) (t u : Tok) (s : Shared) (Q : Value → Shared → Prop) (E : Value → Shared → Prop),C i j → Q (.int (g i j) s.toks) { s with toks := s.toks + 1 } → wpAny (model X.prog X.w) X.A (f (.int i t) (.int j u)) Q E s) :
    OpR X f (rI C fun i j => .int (g i j)) := by
  intro pins s σ H x y v u Q I rx ry h
  obtain ⟨i,j,rfl,rfl,hc,q⟩ := h
  obtain ⟨t,rfl⟩ := rx
  obtain ⟨t',rfl⟩ := ry
  exact rule i j t t' s _ _ hc ⟨.int (g i j),H,I.tok _,⟨_,rfl⟩,q⟩
theorem opI0 {f : Value → Value → Sem Value} {g : Int → Int → Int}
    (rule : ∀ (i j : Int) (t u : Tok) (s : Shared) (Q : Value → Shared → Prop) (E : Value → Shared → Prop),Q (.int (g i j) s.toks) { s with toks := s.toks + 1 } → wpAny (model X.prog X.w) X.A (f (.int i t) (.int j u)) Q E s) :
    OpR X f (rI0 fun i j => .int (g i j)) := by
  intro pins s σ H x y v u Q I rx ry h
  obtain ⟨i,j,rfl,rfl,q⟩ := h
  obtain ⟨t,rfl⟩ := rx
  obtain ⟨t',rfl⟩ := ry
  exact rule i j t t' s _ _ ⟨.int (g i j),H,I.tok _,⟨_,rfl⟩,q⟩
theorem opB0 {f : Value → Value → Sem Value} {g : Int → Int → Bool}
    (rule : ∀ (i j : Int) (t u : Tok) (s : Shared) (Q : Value → Shared → Prop) (E : Value → Shared → Prop),Q (.bool (g i j)) s → wpAny (model X.prog X.w) X.A (f (.int i t) (.int j u)) Q E s) :
    OpR X f (rI0 fun i j => .bl (g i j)) := by
  intro pins s σ H x y v u Q I rx ry h
  obtain ⟨i,j,rfl,rfl,q⟩ := h
  obtain ⟨t,rfl⟩ := rx
  obtain ⟨t',rfl⟩ := ry
  exact rule i j t t' s _ _ ⟨.bl (g i j),H,I,rfl,q⟩
noncomputable def CDiv (i j : Int) : Prop := 0 < j ∧ j < 1073741824
noncomputable def CPow (i j : Int) : Prop := 0 ≤ j ∧ j ≤ 1000000 ∧ i.natAbs < 2 ^ 64
theorem op_add : OpR X (binaryOp .Add) (rI0 fun i j => .int (i + j)) := opI0 fun _ _ _ _ _ _ _ q => add_int q
theorem op_sub : OpR X (binaryOp .Sub) (rI0 fun i j => .int (i - j)) := opI0 fun _ _ _ _ _ _ _ q => sub_int q
theorem op_fdiv : OpR X (binaryOp .FloorDiv) (rI CDiv fun i j => .int (i / j)) := opI fun i j _ _ _ _ _ hc q => by
  have h1 : (0 : Int) < j := hc.1
  have h2 : j < 1073741824 := hc.2
  exact floordiv_int (by omega) (by rw [Int.fdiv_eq_ediv_of_nonneg i (by omega)]; exact q) (.inl (PyProof.noPylong_small (by omega)))
theorem op_mod : OpR X (binaryOp .Mod) (rI (fun _ j => 0 < j) fun i j => .int (i % j)) := opI fun i j _ _ _ _ _ hc q => by
  have h1 : (0 : Int) < j := hc
  exact mod_int' (by omega) (by rw [Int.fmod_eq_emod_of_nonneg i (by omega)]; exact q)
theorem op_pow : OpR X (binaryOp .Pow) (rI CPow fun i j => .int (i ^ j.toNat)) := opI fun _ _ _ _ _ _ _ hc q => pow_int_small hc.1 hc.2.1 hc.2.2 q
theorem unI {f : Value → Sem Value} {g : Int → Int}
    (rule : ∀ (i : Int) (t : Tok) (s : Shared) (Q : Value → Shared → Prop) (E : Value → Shared → Prop),Q (.int (g i) s.toks) { s with toks := s.toks + 1 } → wpAny (model X.prog X.w) X.A (f (.int i t)) Q E s) :
    UnR X f (rU fun i => .int (g i)) := by
  intro pins s σ H x v Q I rx h
  obtain ⟨i,rfl,q⟩ := h
  obtain ⟨t,rfl⟩ := rx
  exact rule i t s _ _ ⟨.int (g i),H,I.tok _,⟨_,rfl⟩,q⟩
theorem un_neg : UnR X (unaryOp .USub) (rU fun i => .int (-i)) := unI fun _ _ _ _ _ q => neg_int q
end
noncomputable def scal : V → V → Bool
  | .non,.non => true | .non,.int _ => true | .int _,.non => true | .non,.bl _ => true | .bl _,.non => true | .non,.str _ => true | .str _,.non => true
  | .int _,.int _ => true | .bl _,.bl _ => true | .str _,.str _ => true | .byt _,.byt _ => true
  | .int _,.str _ => true | .str _,.int _ => true | .bl _,.str _ => true | .str _,.bl _ => true
  | _,_ => false
noncomputable def rEq : R2 := fun x y H Q => scal x y = true ∧ Q (.bl (decide (x = y))) H
noncomputable def rNe : R2 := fun x y H Q => scal x y = true ∧ Q (.bl (!decide (x = y))) H
theorem dec_int {i j : Int} : decide (V.int i = V.int j) = (i == j) := by
  rw [Bool.eq_iff_iff]
  simp
theorem dec_bl {i j : Bool} : decide (V.bl i = V.bl j) = (i == j) := by
  rw [Bool.eq_iff_iff]
  simp
theorem dec_str {i j : Str} : decide (V.str i = V.str j) = (i == j) := by
  rw [Bool.eq_iff_iff]
  simp
theorem dec_byt {i j : Array UInt8} : decide (V.byt i = V.byt j) = (i.toList == j.toList) := by
  rw [Bool.eq_iff_iff]
  cases i
  cases j
  simp
section
variable {X : Cx} {a b c : Expr} {ta tb tc : TE} {pos : Pos}
theorem fin_bl {pins : List (Addr × Obj)} {σ : St} {H : Hp} {s : Shared} {Q : VK} {k k' : Bool} (I : Inv X pins σ H s) (q : Q (.bl k) H) (e : k = k') : EP X pins σ Q (.bool k') s := by
  subst e
  exact ⟨.bl k,H,I,rfl,q⟩
theorem op_eq : OpR X (compareOp .Eq) rEq := by
  intro pins s σ H x y v u Q I rx ry h
  obtain ⟨hs,q⟩ := h
  cases x with
  | non =>
    cases rx
    cases y with
    | non => cases ry; exact PySem.EqNone.eq_none_none (fin_bl I q (by simp))
    | bl j => cases ry; exact PySem.EqNone.eq_none_bool (fin_bl I q (by simp))
    | int j => obtain ⟨t',rfl⟩ := ry; exact PySem.EqNone.eq_none_int (fin_bl I q (by simp))
    | str j => obtain ⟨t',rfl⟩ := ry; exact PySem.EqNone.eq_none_str (fin_bl I q (by simp))
    | _ => exact absurd (show false = true from hs) Bool.false_ne_true
  | bl i =>
    cases rx
    cases y with
    | non => cases ry; exact PySem.EqNone.eq_bool_none (fin_bl I q (by simp))
    | bl j => cases ry; exact eq_bool (fin_bl I q dec_bl)
    | str j => obtain ⟨t',rfl⟩ := ry; exact PySem.EqMixed.eq_bool_str (fin_bl I q (by simp))
    | _ => exact absurd (show false = true from hs) Bool.false_ne_true
  | int i =>
    obtain ⟨t,rfl⟩ := rx
    cases y with
    | non => cases ry; exact PySem.EqNone.eq_int_none (fin_bl I q (by simp))
    | int j => obtain ⟨t',rfl⟩ := ry; exact eq_int (fin_bl I q dec_int)
    | str j => obtain ⟨t',rfl⟩ := ry; exact PySem.EqMixed.eq_int_str (fin_bl I q (by simp))
    | _ => exact absurd (show false = true from hs) Bool.false_ne_true
  | str i =>
    obtain ⟨t,rfl⟩ := rx
    cases y with
    | non => cases ry; exact PySem.EqNone.eq_str_none (fin_bl I q (by simp))
    | bl j => cases ry; exact PySem.EqMixed.eq_str_bool (fin_bl I q (by simp))
    | int j => obtain ⟨t',rfl⟩ := ry; exact PySem.EqMixed.eq_str_int (fin_bl I q (by simp))
    | str j => obtain ⟨t',rfl⟩ := ry; exact eq_str (fin_bl I q dec_str)
    | _ => exact absurd (show false = true from hs) Bool.false_ne_true
  | byt i =>
    obtain ⟨t,rfl⟩ := rx
    cases y with
    | byt j => obtain ⟨t',rfl⟩ := ry; exact PySem.W.eq_bytes (fin_bl I q dec_byt)
    | _ => exact absurd (show false = true from hs) Bool.false_ne_true
  | _ => cases y <;> exact absurd (show false = true from hs) Bool.false_ne_true
theorem op_ne : OpR X (compareOp .NotEq) rNe := by
  intro pins s σ H x y v u Q I rx ry h
  obtain ⟨hs,q⟩ := h
  cases x with
  | non =>
    cases rx
    cases y with
    | non => cases ry; exact PySem.EqNone.ne_none_none (fin_bl I q (by simp))
    | bl j => cases ry; exact PySem.EqNone.ne_none_bool (fin_bl I q (by simp))
    | int j => obtain ⟨t',rfl⟩ := ry; exact PySem.EqNone.ne_none_int (fin_bl I q (by simp))
    | str j => obtain ⟨t',rfl⟩ := ry; exact PySem.EqNone.ne_none_str (fin_bl I q (by simp))
    | _ => exact absurd (show false = true from hs) Bool.false_ne_true
  | bl i =>
    cases rx
    cases y with
    | non => cases ry; exact PySem.EqNone.ne_bool_none (fin_bl I q (by simp))
    | bl j => cases ry; exact ne_bool (fin_bl I q (congrArg not dec_bl))
    | str j => obtain ⟨t',rfl⟩ := ry; exact PySem.EqMixed.ne_bool_str (fin_bl I q (by simp))
    | _ => exact absurd (show false = true from hs) Bool.false_ne_true
  | int i =>
    obtain ⟨t,rfl⟩ := rx
    cases y with
    | non => cases ry; exact PySem.EqNone.ne_int_none (fin_bl I q (by simp))
    | int j => obtain ⟨t',rfl⟩ := ry; exact ne_int (fin_bl I q (congrArg not dec_int))
    | str j => obtain ⟨t',rfl⟩ := ry; exact PySem.EqMixed.ne_int_str (fin_bl I q (by simp))
    | _ => exact absurd (show false = true from hs) Bool.false_ne_true
  | str i =>
    obtain ⟨t,rfl⟩ := rx
    cases y with
    | non => cases ry; exact PySem.EqNone.ne_str_none (fin_bl I q (by simp))
    | bl j => cases ry; exact PySem.EqMixed.ne_str_bool (fin_bl I q (by simp))
    | int j => obtain ⟨t',rfl⟩ := ry; exact PySem.EqMixed.ne_str_int (fin_bl I q (by simp))
    | str j => obtain ⟨t',rfl⟩ := ry; exact ne_str (fin_bl I q (congrArg not dec_str))
    | _ => exact absurd (show false = true from hs) Bool.false_ne_true
  | byt i =>
    obtain ⟨t,rfl⟩ := rx
    cases y with
    | byt j => obtain ⟨t',rfl⟩ := ry; exact PySem.W.ne_bytes (fin_bl I q (congrArg not dec_byt))
    | _ => exact absurd (show false = true from hs) Bool.false_ne_true
  | _ => cases y <;> exact absurd (show false = true from hs) Bool.false_ne_true
theorem op_lt : OpR X (compareOp .Lt) (rI0 fun i j => .bl (decide (i < j))) := opB0 fun _ _ _ _ _ _ _ q => lt_int q
theorem op_le : OpR X (compareOp .LtE) (rI0 fun i j => .bl (decide (i ≤ j))) := opB0 fun _ _ _ _ _ _ _ q => le_int q
theorem op_gt : OpR X (compareOp .Gt) (rI0 fun i j => .bl (decide (j < i))) := opB0 fun _ _ _ _ _ _ _ q => gt_int q
theorem op_ge : OpR X (compareOp .GtE) (rI0 fun i j => .bl (decide (j ≤ i))) := opB0 fun _ _ _ _ _ _ _ q => ge_int q
theorem OpR.or {f : Value → Value → Sem Value} {r r' : R2} (h : OpR X f r) (h' : OpR X f r') : OpR X f (fun x y H Q => r x y H Q ∨ r' x y H Q) := by
  intro pins s σ H x y v u Q I rx ry q
  rcases q with q | q
  · exact h pins s σ H x y v u Q I rx ry q
  · exact h' pins s σ H x y v u Q I rx ry q
theorem nomark (b : Expr) {op : CmpOp} (h : op ≠ .In := by decide) (h2 : op ≠ .NotIn := by decide) : behindInMarks op b = false := by
  have e1 : (op == CmpOp.In) = false := by cases op <;> first | rfl | exact absurd rfl h
  have e2 : (op == CmpOp.NotIn) = false := by cases op <;> first | rfl | exact absurd rfl h2
  cases b <;> simp [behindInMarks,e1,e2]
theorem pe_cmpR {op : CmpOp} {r : R2} (ho : OpR X (compareOp op) r) (ha : PE X a ta) (hb : PE X b tb) (hm : behindInMarks op b = false) : PE X (.Compare a [op] [b] pos) (tOp r ta tb) := by
  intro pins s σ H Q I h
  exact wpAny_Compare1 (binT ha hb I h fun v u s2 x y H2 I2 rx ry q => ho pins s2 σ H2 x y v u Q I2 rx ry q) hm
inductive STst (x : V) (H : Hp) (Q : Bool → Hp → Prop) : Prop | mk (k : Bool) (hx : x = .bl k) (q : Q k H)
noncomputable def tTest (t : TE) : TT := fun σ H Q => t σ H fun x H' => STst x H' Q
theorem pt_cmpR {op : CmpOp} {r : R2} (ho : OpR X (compareOp op) r) (ha : PE X a ta) (hb : PE X b tb) (hm : behindInMarks op b = false) : PT X (.Compare a [op] [b] pos) (tTest (tOp r ta tb)) := by
  intro pins s σ H Q I h
  refine wpAny_isTrue_Compare1 (thn (ha pins s σ H _ I h) fun v s1 ⟨x,H1,I1,r1,q1⟩ => thn (hb pins s1 σ H1 _ I1 q1) fun u s2 ⟨y,H2,I2,r2,q2⟩ =>
    thn (ho pins s2 σ H2 x y v u _ I2 r1 r2 q2) fun c s3 ⟨z,H3,I3,r3,k,e,q3⟩ => ?_) hm
  subst e
  cases r3
  exact wpAny_truthy_bool ⟨H3,I3,q3⟩
theorem isEmpty_kv {κ : Type} {kvs : List (κ × V)} {vs : List (κ × Value)} (r : KV kvs vs) : (!vs.isEmpty) = !kvs.isEmpty := by
  cases r <;> rfl
theorem isEmpty_of {xs : List V} {its : List Value} (r : Vals xs its) : (!its.toArray.isEmpty) = !xs.isEmpty := by
  cases r <;> simp
theorem line63 : (sizeLine : Nat) < 2 ^ 63 := by rw [sizeLine_eq]; decide
theorem op_add_str : OpR X (binaryOp .Add) (fun x y H Q => ∃ i j,x = .str i ∧ y = .str j ∧ i.length + j.length ≤ sizeLine ∧ Q (.str (i ++ j)) H) := by
  intro pins s σ H x y v u Q I rx ry h
  obtain ⟨i,j,rfl,rfl,hz,q⟩ := h
  obtain ⟨t,rfl⟩ := rx
  obtain ⟨t',rfl⟩ := ry
  exact add_str (fun t' tk => ⟨.str (i ++ j),H,I.tok _,⟨_,rfl⟩,q⟩) hz
theorem vals1 {x : V} {us : List Value} (r : Vals [x] us) : ∃ u,us = [u] ∧ RelV x u := by
  cases r with
  | cons r1 r2 => cases r2; exact ⟨_,rfl,r1⟩
theorem vals2 {x y : V} {us : List Value} (r : Vals [x,y] us) : ∃ u w',us = [u,w'] ∧ RelV x u ∧ RelV y w' := by
  cases r with
  | cons r1 r2 =>
    cases r2 with
    | cons r3 r4 => cases r4; exact ⟨_,_,rfl,r1,r3⟩
theorem call_abs : CallR X (.builtin "abs") (fun xs H Q => ∃ i,xs = [.int i] ∧ Q (.int (if i < 0 then -i else i)) H) := by
  intro pins s σ H xs us Q I r h
  obtain ⟨i,rfl,q⟩ := h
  obtain ⟨u,rfl,t,rfl⟩ := vals1 r
  exact call_abs_int fun u tk => ⟨.int (if i < 0 then -i else i),H,I.tok _,⟨_,rfl⟩,q⟩
theorem call_max2 (hc : X.calm = true) : CallR X (.builtin "max") (fun xs H Q => ∃ i j,xs = [.int i,.int j] ∧ Q (.int (if j > i then j else i)) H) := by
  intro pins s σ H xs us Q I r h
  obtain ⟨i,j,rfl,q⟩ := h
  obtain ⟨u,w',rfl,⟨t,rfl⟩,⟨t',rfl⟩⟩ := vals2 r
  refine max_two_ints (I.ok.hd hc) fun h' tk k => ⟨_,H,I.kept k,?_,q⟩
  by_cases hj : j > i
  · rw [if_pos hj,if_pos hj]; exact ⟨_,rfl⟩
  · rw [if_neg hj,if_neg hj]; exact ⟨_,rfl⟩
theorem call_int1 : CallR X (.type "int") (fun xs H Q => (∃ i,xs = [.int i] ∧ Q (.int i) H) ∨ ∃ k,xs = [.bl k] ∧ Q (.int (if k then 1 else 0)) H) := by
  intro pins s σ H xs us Q I r h
  rcases h with ⟨i,rfl,q⟩ | ⟨k,rfl,q⟩
  · obtain ⟨u,rfl,t,rfl⟩ := vals1 r
    exact call_int_int ⟨.int i,H,I,⟨_,rfl⟩,q⟩
  · obtain ⟨u,rfl,r1⟩ := vals1 r
    cases r1
    exact call_int_bool ⟨.int (if k then 1 else 0),H,I.tok _,⟨_,rfl⟩,q⟩
noncomputable def LenV (K : PySem.W.Frag) (x : V) (H : Hp) (n : Nat) : Prop :=
  match x with
  | .str y => y.length ≤ sizeLine ∧ n = y.length
  | .byt y => y.size ≤ sizeLine ∧ n = y.size
  | .ref p => (∃ xs,SqL K H p xs ∧ n = xs.length) ∨ ∃ xs,SqT K H p xs ∧ n = xs.length
  | _ => False
theorem call_len : CallR X (.builtin "len") (fun xs H Q => ∃ x n,xs = [x] ∧ LenV X.K x H n ∧ Q (.int n) H) := by
  intro pins s σ H xs us Q I r h
  obtain ⟨x,n,rfl,e,q⟩ := h
  obtain ⟨u,rfl,rx⟩ := vals1 r
  have hl := line63
  have hs : sizeLine = 16777216 := sizeLine_eq
  cases x with
  | str y =>
    obtain ⟨t,rfl⟩ := rx
    obtain ⟨hy,e'⟩ : y.length ≤ sizeLine ∧ n = y.length := e
    subst e'
    exact len_str (by omega) ⟨.int _,H,I.tok _,⟨_,rfl⟩,q⟩
  | byt y =>
    obtain ⟨t,rfl⟩ := rx
    obtain ⟨hy,e'⟩ : y.size ≤ sizeLine ∧ n = y.size := e
    subst e'
    exact PySem.W.len_bytes (by omega) ⟨.int _,H,I.tok _,⟨_,rfl⟩,q⟩
  | ref p =>
    cases rx
    have e' : (∃ xs,SqL X.K H p xs ∧ n = xs.length) ∨ ∃ xs,SqT X.K H p xs ∧ n = xs.length := e
    rcases e' with ⟨xs,hx,e'⟩ | ⟨xs,hx,e'⟩
    · subst e'
      obtain ⟨its,r',pl,hz⟩ := I.list hx
      have hlen := r'.length
      exact Calls.call_len_list pl.isList (by simp only [List.size_toArray]; omega) ⟨.int xs.length,H,I.tok _,⟨_,by simp only [List.size_toArray]; rw [hlen]⟩,q⟩
    · subst e'
      obtain ⟨its,r',pl,hz⟩ := I.tuple hx
      have hlen := r'.length
      exact len_tuple pl (by simp only [List.size_toArray]; omega) ⟨.int xs.length,H,I.tok _,⟨_,by simp only [List.size_toArray]; rw [hlen]⟩,q⟩
  | _ => exact (show False from e).elim
end
end L2
namespace L2
open PySem PySem.Spec PyProof.Rows
section
variable {prog : Program} {w : World} {A : Around} {E : Value → Shared → Prop} {s : Shared} {K : PySem.W.Frag} {x dx C f : Addr} {mA : Str → Option Value} {name : Str} {v : Value}
end
theorem RelO.some_of {v : V} {o : Option Value} (r : RelO (some v) o) : ∃ u,o = some u ∧ RelV v u := by
  cases o with
  | none => exact (show False from r).elim
  | some u => exact ⟨u,rfl,r⟩
theorem RelO.none_of {o : Option Value} (r : RelO none o) : o = none := by
  cases o with
  | none => rfl
  | some u => exact (show False from r).elim
section
variable {P : Program} {w : World} {H H' : Hp} {h h' : Heap} {a C dx : Addr} {fs fs' : List (Str × V)}
end
section
variable {X : Cx} {pins : List (Addr × Obj)} {σ : St} {H : Hp} {s : Shared} {a C dx : Addr} {fs : List (Str × V)} {f : Str} {v : V} {A : Around} {E : Value → Shared → Prop}
end
section
variable {X : Cx} {o e value : Expr} {f : Str} {pos pos' tpos : Pos} {ta tv : TE}
end
section
variable {X : Cx} {pins : List (Addr × Obj)} {σ : St} {H : Hp} {s : Shared} {A : Around} {E : Value → Shared → Prop} {Q : Value → Shared → Prop} {c : Value} {b : Bool}
end
end L2
namespace L2
open PySem PySem.Spec PyProof.Rows
structure Room (k : Nat) (A : Around) : Prop where
  hd : A.handled = none
  dp : A.depth + 3 * k + 5 < recursionLimit
  un : A.units + 16 * k + 200 < cLine
theorem Room.mono {j k : Nat} {A : Around} (r : Room k A) (h : j ≤ k) : Room j A := ⟨r.hd,by have := r.dp; omega,by have := r.un; omega⟩
theorem Room.deeper {k : Nat} {A : Around} (r : Room (k + 1) A) (env : Env) : Room k (A.deeper env) :=
  ⟨r.hd,by have := r.dp; show A.depth + 1 + 3 * k + 5 < _; omega,by have := r.un; show A.units + 3 + 16 * k + 200 < _; omega⟩
theorem Room.depth {k : Nat} {A : Around} (r : Room k A) : A.depth < recursionLimit := by have := r.dp; omega
theorem Room.units {k : Nat} {A : Around} (r : Room k A) : A.units + 64 < cLine := by have := r.un; omega
theorem Room.units0 {k : Nat} {A : Around} (r : Room k A) : A.units < cLine := by have := r.un; omega
noncomputable def tNil : TA := fun _ H Q => Q [] H
noncomputable def tCons (ta : TE) (tr : TA) : TA := fun σ H Q => ta σ H fun x H1 => tr σ H1 fun xs H2 => Q (x :: xs) H2
section
variable {X : Cx} {e : Expr} {es : List Expr} {te : TE} {t : TA} {pos : Pos}
theorem pa_nil : PA X [] tNil := fun _ _ _ _ H Q I h => Calls.spliced_nil ⟨[],H,I,.nil,h⟩
theorem pa_cons (ha : PE X e te) (hr : PA X es t) (hs : starEach (e :: es) X.env = (false,eval e X.env) :: starEach es X.env := by rfl) : PA X (e :: es) (tCons te t) := by
  intro pos pins s σ H Q I h
  rw [hs]
  show wpAny _ _ (spliced ((false,eval e X.env) :: backTo pos (starEach es X.env))) _ _ s
  refine Calls.spliced_cons (thn (ha pins s σ H _ I h) fun u s1 ⟨x,H1,I1,r1,q1⟩ => ?_)
  exact thn (hr pos pins s1 σ H1 _ I1 q1) fun us s2 ⟨xs,H2,I2,r2,q2⟩ => ⟨x :: xs,H2,I2,.cons r1 r2,q2⟩
inductive SNew (xs : List V) (o : HO) (H : Hp) (Q : VK) : Prop | mk (hz : xs.length ≤ sizeLine) (q : ∀ p,H p = none → Q (.ref p) (upd H p o))
noncomputable def tTup (t : TA) : TE := fun σ H Q => t σ H fun xs H1 => SNew xs (.tup xs) H1 Q
noncomputable def tLst (t : TA) : TE := fun σ H Q => t σ H fun xs H1 => SNew xs (.lst xs) H1 Q
theorem pe_tup {x1} (h : PA X es t) : PE X (.Tuple es x1 pos) (tTup t) := by
  intro pins s σ H Q I hq
  refine wpAny_Tuple_spliced (thn (h pos pins s σ H _ I hq) fun us s1 ⟨xs,H1,I1,r,z,q⟩ => ⟨by rw [← r.length]; exact z,?_⟩)
  have hf : H1 s1.heap.objs.size = none := I1.hok.fresh (Nat.le_refl _)
  refine ⟨.ref s1.heap.objs.size,upd H1 s1.heap.objs.size (.tup xs),I1.laid (t' := s1.toks) (fun b u e => Heap.get?_push_of_some _ e) (Nat.le_refl _) ?_,rfl,q _ hf⟩
  exact ⟨z,us,r,⟨_,Heap.get?_push_size _ rfl,rfl,_,rfl⟩⟩
theorem pe_lst (h : PA X es t) : PE X (.List es pos) (tLst t) := by
  intro pins s σ H Q I hq
  refine wpAny_List_spliced (thn (h pos pins s σ H _ I hq) fun us s1 ⟨xs,H1,I1,r,z,q⟩ => ⟨by rw [← r.length]; exact z,?_⟩)
  have hf : H1 s1.heap.objs.size = none := I1.hok.fresh (Nat.le_refl _)
  refine ⟨.ref s1.heap.objs.size,upd H1 s1.heap.objs.size (.lst xs),I1.laid (t' := s1.toks) (fun b u e => Heap.get?_push_of_some _ e) (Nat.le_refl _) ?_,rfl,q _ hf⟩
  exact ⟨z,us,0,r,Heap.get?_push_size _ rfl⟩
end
noncomputable abbrev Sp := List V → Hp → VK → XK → Prop
noncomputable abbrev CXT := List Env → Hp → Shared → XK → Value → Shared → Prop
structure Env0 (P : Program) (w : World) (K : PySem.W.Frag) (mg : Str → Option Value) (base : Heap) (A : Around) (outer : List Env) (s : Shared) (H : Hp) : Prop where
  frames : A.frames = some outer
  mod : Mod K mg base
  bs : ∀ b o,base.get? b = some o → s.heap.get? b = some o ∧ H b = none
  bsz : base.objs.size ≤ s.heap.objs.size
  funs : s.heap.FunFrames base outer
  frf : ∀ b ∈ frs outer,H b = none
  hok : HOk P w H s.heap
  bare : AllBare s.gens
noncomputable def CE (outer : List Env) (P : Program) (w : World) (H : Hp) (s : Shared) (Q : VK) (u : Value) (s' : Shared) : Prop :=
  ∃ v H',s'.os = s.os ∧ AllBare s'.gens ∧ Un (frs outer) [] H H' s.heap s'.heap ∧ HOk P w H' s'.heap ∧ RelV v u ∧ Q v H'
noncomputable def CR (CX : CXT) (outer : List Env) (P : Program) (w : World) (H : Hp) (s : Shared) (Q : VK) (E : XK) (r : Result) (s' : Shared) : Prop :=
  match r with
  | .ok (.ret u) => CE outer P w H s Q u s'
  | .ok _ => False
  | .error e => CX outer H s E e s'
structure FnOk (P : Program) (w : World) (K : PySem.W.Frag) (mg : Str → Option Value) (base : Heap) (CX : CXT) (k : Nat) (f : Addr) (fd : FuncData) (ps : List Str) (sp : Sp) : Prop where
  len : ∀ vs H Q E,sp vs H Q E → vs.length = ps.length
  run : ∀ (A : Around) (outer : List Env) (s : Shared) (H : Hp) (args : Args) (us : List Value) (vs : List V) (Q : VK) (E : XK),Room k A → Env0 P w K mg base A outer s H → BindsTo s fd args (ps.zip us) → Vals vs us → sp vs H Q E →
    codeAny (model P w) A (.call (.ref f) args) (CR CX outer P w H s Q E) s
section
variable {X : Cx} {pins : List (Addr × Obj)} {σ : St} {H : Hp} {s s' : Shared}
theorem Inv.env0 (I : Inv X pins σ H s) : Env0 X.prog X.w X.K X.mg X.base X.A X.stack s H :=
  ⟨I.ok.frames,I.ok.mod,I.bs,Nat.le_trans I.ok.bsz I.sz,I.stack,I.stkFree,I.hok,I.bare⟩
theorem Inv.after {Q : VK} {u : Value} (I : Inv X pins σ H s) (h : CE X.stack X.prog X.w H s Q u s') : EP X pins σ Q u s' := by
  obtain ⟨v,H',os,bare,un,hok,r,q⟩ := h
  obtain ⟨hh,g,d,t,os'⟩ := s'
  obtain rfl : os' = s.os := os
  exact ⟨v,H',I.call (h' := hh) (g' := g) (d' := d) (t' := t) (ch := []) un hok bare (fun b z => absurd z (by simp)),r,q⟩
end
noncomputable def tCall (sp : Sp) (dvs : List V) (E : XK) (t : TA) : TE := fun σ H Q => t σ H fun vs H1 => sp (vs ++ dvs) H1 Q E
noncomputable def Binds (K : PySem.W.Frag) (fd : FuncData) (ps : List Str) (ds : List Value) : Prop :=
  ∀ (s : Shared) (us : List Value),K.In s.heap → (us ++ ds).length = ps.length → BindsTo s fd ⟨us,[]⟩ (ps.zip (us ++ ds))
theorem Binds.all {K : PySem.W.Frag} {fd : FuncData} {ps : List Str} (h : ∀ us : List Value,us.length = ps.length → bindArgs fd ⟨us,[]⟩ = pure (ps.zip us)) : Binds K fd ps [] := fun s us _ hl => by
  rw [List.append_nil] at hl ⊢
  exact .of_eq (h us hl)
noncomputable def Passes (CX : CXT) (X : Cx) (E : XK) : Prop := ∀ (pins : List (Addr × Obj)) (σ : St) (H : Hp) (s : Shared) (e : Value) (s' : Shared),Inv X pins σ H s → CX X.stack H s E e s' → X.xe e s'
section
variable {X : Cx} {CX : CXT} {k : Nat} {f C : Addr} {fd : FuncData} {ps : List Str} {sp : Sp} {dvs : List V} {ds : List Value} {E : XK} {x m : Str} {p pos apos : Pos} {e o : Expr} {es : List Expr} {ta : TE} {t : TA}
theorem run_fn {pins : List (Addr × Obj)} {σ : St} {H : Hp} {s : Shared} {Q : VK} {us : List Value} {vs : List V} (F : FnOk X.prog X.w X.K X.mg X.base CX k f fd ps sp) (hr : Room k X.A) (hb : Binds X.K fd ps ds) (hd : Vals dvs ds) (hx : Passes CX X E)
    (I : Inv X pins σ H s) (r : Vals vs us) (h : sp (vs ++ dvs) H Q E) : wpAny (model X.prog X.w) X.A (call (.ref f) us) (EP X pins σ Q) X.xe s := by
  have r2 : Vals (vs ++ dvs) (us ++ ds) := r.append hd
  have hl : (us ++ ds).length = ps.length := by rw [← r2.length]; exact F.len _ _ _ _ h
  refine wpAny_call (codeAny_mono (F.run X.A X.stack s H ⟨us,[]⟩ (us ++ ds) (vs ++ dvs) Q E hr I.env0 (hb s us I.kIn hl) r2 h) fun r s' hq => ?_)
  cases r with
  | error e => exact hx pins σ H s e s' I hq
  | ok fl =>
    cases fl with
    | ret u => exact I.after hq
    | next => exact False.elim hq
    | brk => exact False.elim hq
    | cont => exact False.elim hq
theorem pe_call (F : FnOk X.prog X.w X.K X.mg X.base CX k f fd ps sp) (hr : Room k X.A) (hg : Gl X x) (hm : X.mg x = some (.ref f)) (hk : PySem.W.keepIn X.K (.ref f) = true) (hb : Binds X.K fd ps ds) (hd : Vals dvs ds) (hx : Passes CX X E)
    (ha : PA X (e :: es) t) (hdb : (x == ("__debug__" : Str)) = false := by decide) (he : starEach (e :: es) X.env = (false,eval e X.env) :: starEach es X.env := by rfl) (hpl : (backTo pos (starEach es X.env)).any (·.1) = false := by rfl) :
    PE X (.Call (.Name x p) (e :: es) [] pos) (tCall sp dvs E t) := by
  intro pins s σ H Q I h
  refine wpAny_Call_Name_kw (ld_glob I hg hm ?_ hdb)
  refine PySem.W.callWith_K (h₀ := X.base) I.ok.mod.kin hk (thn (ha pos pins s σ H _ I h) fun us s1 ⟨vs,H1,I1,r,q⟩ => ⟨I1.kIn,?_⟩) he hpl
  exact run_fn F hr hb hd hx I1 r q
end
section
variable {X : Cx} {CX : CXT} {k : Nat} {f C : Addr} {fd : FuncData} {ps ks : List Str} {sp : Sp} {E : XK} {x m : Str} {p pos apos kpos : Pos} {e o : Expr} {es : List Expr} {kws : List Keyword} {te ta : TE} {t tk : TA} {nm : Option Str}
variable {g : List Value → List Value → List Value} {gV : List V → List V → List V}
end
structure FnScope (N P : List Str) (sc : Scope) : Prop where
  kind : sc.kind = .function
  co : sc.isCoroutine = false
  gen : sc.isGenerator = false
  nd : N.Nodup
  pre : N.take P.length = P
  par : ∀ x ∈ P,sc.names.lookup x = some .local ∨ sc.names.lookup x = some .cell
  nofree : ∀ y ∈ sc.names,y.2 ≠ .free
theorem bindL_out {kindOf : Str → Option NameKind} {x : Str} : ∀ {binds : List (Str × Value)} {m : Str → Option Value},(∀ v,(x,v) ∉ binds) → bindL kindOf binds m x = m x
  | [],_,_ => rfl
  | (n,v) :: r,m,h => by
    unfold bindL
    rw [bindL_out fun w hw => h w (List.mem_cons_of_mem _ hw)]
    split
    · have : x ≠ n := by rintro rfl; exact h v List.mem_cons_self
      simp [this]
    · rfl
theorem bindC_out {kindOf : Str → Option NameKind} {x : Str} : ∀ {binds : List (Str × Value)} {m : Str → Option Value},(∀ v,(x,v) ∉ binds) → bindC kindOf binds m x = m x
  | [],_,_ => rfl
  | (n,v) :: r,m,h => by
    unfold bindC
    rw [bindC_out fun w hw => h w (List.mem_cons_of_mem _ hw)]
    split
    · rfl
    · have : x ≠ n := by rintro rfl; exact h v List.mem_cons_self
      simp [this]
theorem bindL_get {kindOf : Str → Option NameKind} {x : Str} {v : Value} : ∀ {P : List Str} {vs : List Value} {i : Nat} {m : Str → Option Value},P.Nodup → P[i]? = some x → vs[i]? = some v → kindOf x = some .local →
    bindL kindOf (P.zip vs) m x = some v
  | [],_,_,_,_,h,_,_ => by simp at h
  | _ :: _,[],_,_,_,_,h,_ => by simp at h
  | p :: P,w :: vs,0,m,nd,h1,h2,hk => by
    simp at h1 h2; subst h1; subst h2
    show bindL kindOf ((p,w) :: P.zip vs) m p = _
    unfold bindL
    rw [bindL_out fun v hv => (List.nodup_cons.mp nd).1 (List.of_mem_zip hv).1,if_pos hk]
    simp
  | p :: P,w :: vs,i + 1,m,nd,h1,h2,hk => by
    show bindL kindOf ((p,w) :: P.zip vs) m x = _
    unfold bindL
    exact bindL_get (i := i) (List.nodup_cons.mp nd).2 (by simpa using h1) (by simpa using h2) hk
theorem bindC_get {kindOf : Str → Option NameKind} {x : Str} {v : Value} : ∀ {P : List Str} {vs : List Value} {i : Nat} {m : Str → Option Value},P.Nodup → P[i]? = some x → vs[i]? = some v → kindOf x ≠ some .local →
    bindC kindOf (P.zip vs) m x = some v
  | [],_,_,_,_,h,_,_ => by simp at h
  | _ :: _,[],_,_,_,_,h,_ => by simp at h
  | p :: P,w :: vs,0,m,nd,h1,h2,hk => by
    simp at h1 h2; subst h1; subst h2
    show bindC kindOf ((p,w) :: P.zip vs) m p = _
    unfold bindC
    rw [bindC_out fun v hv => (List.nodup_cons.mp nd).1 (List.of_mem_zip hv).1,if_neg hk]
    simp
  | p :: P,w :: vs,i + 1,m,nd,h1,h2,hk => by
    show bindC kindOf ((p,w) :: P.zip vs) m x = _
    unfold bindC
    exact bindC_get (i := i) (List.nodup_cons.mp nd).2 (by simpa using h1) (by simpa using h2) hk
noncomputable def start (N : List Str) (vs : List V) : St := vs.map some ++ List.replicate (N.length - vs.length) none
noncomputable def cxOf (CX : CXT) (P : Program) (w : World) (K : PySem.W.Frag) (mg : Str → Option Value) (base : Heap) (N : List Str) (qual : Str) (scope : Scope) (f : Addr) (cd : Value) (A : Around) (outer : List Env) (s : Shared) (H : Hp) (E : XK) : Cx where
  prog := P
  w := w
  K := K
  mg := mg
  base := base
  A := A.deeper (envOfC qual scope s.heap.objs.size f cd)
  N := N
  s₀ := s
  H₀ := H
  env := envOfC qual scope s.heap.objs.size f cd
  outer := outer
  stack := envOfC qual scope s.heap.objs.size f cd :: outer
  ex := []
  calm := true
  fn := fun _ => true
  pn := []
  xe := fun e s' => wpAny (model P w) (A.deeper (envOfC qual scope s.heap.objs.size f cd)) (leaving (envOfC qual scope s.heap.objs.size f cd) e) (fun _ s'' => CX outer H s E e s'') (fun e' s'' => CX outer H s E e' s'') s'
theorem cell_has {sc : Scope} {n : Nat} {x : Str} (h : sc.names.lookup x = some .cell) : ∃ c,(cellsFrom n sc.names []).lookup x = some c := by
  have q := PySem.W.cellsFrom_some sc.names n [] (.inl h)
  exact Option.isSome_iff_exists.mp q
theorem inv_start {CX : CXT} {P : Program} {w : World} {K : PySem.W.Frag} {mg : Str → Option Value} {base : Heap} {N ps : List Str} {qual : Str} {scope : Scope} {f : Addr} {cd : Value} {A : Around} {outer : List Env} {s s1 : Shared} {H : Hp} {E : XK} {us : List Value} {vs : List V}
    (S : FnScope N ps scope) (hd : A.handled = none) (e0 : Env0 P w K mg base A outer s H) (hl : vs.length = ps.length) (r : Vals vs us)
    (x : InCallC s s.heap.objs.size (bindL (envOfC qual scope s.heap.objs.size f cd).kindOf (ps.zip us) fun _ => none) (cellsFrom (s.heap.objs.size + 1) scope.names []) (bindC (envOfC qual scope s.heap.objs.size f cd).kindOf (ps.zip us) fun _ => none) s1) :
    Inv (cxOf CX P w K mg base N qual scope f cd A outer s H E) [] (start N vs) H s1 := by
  have hpl : ps.length ≤ N.length := by have := congrArg List.length S.pre; rw [List.length_take] at this; omega
  obtain ⟨h1,tk,rfl,hk⟩ := x.done
  have noA : ∀ b : Addr,b ∉ (cxOf CX P w K mg base N qual scope f cd A outer s H E).ex := fun b z => absurd (show b ∈ ([] : List Addr) from z) (by simp)
  refine ⟨⟨e0.mod,S.kind,rfl,rfl,Nat.le_refl _,fun y z c h1 h2 => ?_,fun y hy => ?_,fun y c _ h => ?_,fun _ => hd,Around.frames_deeper e0.frames,.inr ⟨rfl,rfl⟩,fun b z => absurd z (noA b),e0.bs,e0.bsz,fun b _ _ => noA b,fun b z => absurd z (noA b),e0.funs,e0.frf⟩,
    rfl,e0.bare,Un.kept hk,⟨_,x.toInCall.ns,fun i y v h1 h2 h3 => ?_⟩,fun y c h => ⟨_,x.cell y c h⟩,e0.hok.fresh (Nat.le_refl _),fun y c h => ?_,fun p hp => absurd (show p ∈ ([] : List (Addr × Obj)) from hp) (by simp),e0.hok.kept hk,?_⟩
  · exact name_of_addr x.apart (PySem.mem_of_lookup h1) (PySem.mem_of_lookup h2)
  · have hy : scope.names.lookup y = some .cell ∨ scope.names.lookup y = some .free := hy
    rcases hy with hy | hy
    · exact cell_has hy
    · exact absurd rfl (S.nofree _ (PySem.mem_of_lookup hy))
  · exact Nat.le_of_lt (x.above y c (PySem.mem_of_lookup h))
  · have hi : i < vs.length := by
      unfold start at h2
      by_cases hi : i < vs.length
      · exact hi
      · rw [List.getElem?_append_right (by simpa using hi)] at h2
        rw [List.getElem?_replicate] at h2
        split at h2 <;> cases h2
    have ha : vs[i]? = some v := by
      unfold start at h2
      rw [List.getElem?_append_left (by simpa using hi),List.getElem?_map] at h2
      cases e : vs[i]? with
      | none => rw [e] at h2; cases h2
      | some a => rw [e] at h2; cases h2; rfl
    obtain ⟨u,hu,rv⟩ := r.get ha
    have hp : ps[i]? = some y := by
      rw [← S.pre,List.getElem?_take_of_lt (by omega)]; exact h1
    have ndP : ps.Nodup := by rw [← S.pre]; exact S.nd.sublist (List.take_sublist _ _)
    refine ⟨u,rv,?_⟩
    rcases S.par y (List.mem_of_getElem? hp) with k | k
    · exact .inl ⟨k,bindL_get ndP hp hu k⟩
    · obtain ⟨c,e⟩ := cell_has (n := s.heap.objs.size + 1) k
      refine .inr ⟨.inl k,c,e,?_⟩
      have q := x.cell y c e
      rw [bindC_get ndP hp hu (by show scope.names.lookup y ≠ _; rw [k]; decide)] at q
      exact q
  · exact e0.hok.fresh (Nat.le_of_lt (x.above y c (PySem.mem_of_lookup h)))
  · unfold start
    show _ = N.length
    rw [List.length_append,List.length_map,List.length_replicate]
    omega
theorem fn_of {CX : CXT} {P : Program} {w : World} {K : PySem.W.Frag} {mg : Str → Option Value} {base : Heap} {k : Nat} {f : Addr} {name qual : Str} {params : Arguments} {body : List Stmt} {scope : Scope} {dV kV doc pm cdv ct oc : Value} {an od : Option Addr}
    {osl : Array (Option Value)} {N ps : List Str} {sp : Sp} (lk : K.lookup f = some ⟨oc,od,.func (PySem.W.fnOf name qual params body scope dV kV doc pm an cdv ct),osl⟩) (hcd : PySem.W.codeIn K cdv qual = true) (S : FnScope N ps scope)
    (len : ∀ vs H Q E,sp vs H Q E → vs.length = ps.length)
    (hbody : ∀ (A : Around) (outer : List Env) (s : Shared) (H : Hp) (vs : List V) (Q : VK) (E : XK),Room k (A.deeper (envOfC qual scope s.heap.objs.size f cdv)) → sp vs H Q E →
      ∃ t,PSs (cxOf CX P w K mg base N qual scope f cdv A outer s H E) body t ∧ t { nx := fun _ H' => Q .non H',rt := Q } (start N vs) H) :
    FnOk P w K mg base CX (k + 1) f (PySem.W.fnOf name qual params body scope dV kV doc pm an cdv ct) ps sp := by
  refine ⟨len,fun A outer s H args us vs Q E hr e0 hb r hsp => ?_⟩
  have hl := len _ _ _ _ hsp
  have KX : K.In s.heap := e0.mod.kin.keeps fun b o e => (e0.bs b o e).1
  have lim : s.heap.NoLimit := e0.mod.nolimit.keeps fun b o e => (e0.bs b o e).1
  have hkind : ∀ y ∈ ps.zip us,scope.names.lookup y.1 = some .local ∨ (scope.names.lookup y.1 = some .cell ∧ ((cellsFrom (s.heap.objs.size + 1) scope.names []).lookup y.1).isSome = true) := fun ⟨n,v⟩ hy => by
    rcases S.par n (List.of_mem_zip hy).1 with q | q
    · exact .inl q
    · exact .inr ⟨q,PySem.W.cellsFrom_some _ _ _ (.inl q)⟩
  refine codeAny_call_function hr.depth (KX _ _ lk) rfl S.co S.gen rfl (PySem.W.codeRec_of KX hcd) (hb _ _ _ _ ?_)
  refine wpAny_newFunctionEnv_cells S.kind hkind fun env he s1 x => ?_
  subst he
  refine ⟨lim.keeps x.toInCall.keep,codeAny_func ?_⟩
  obtain ⟨t,ht,hq⟩ := hbody A outer s H vs Q E (hr.deeper _) hsp
  have I : Inv (cxOf CX P w K mg base N qual scope f cdv A outer s H E) [] (start N vs) H s1 := inv_start S hr.hd e0 hl r x
  refine wpAny_mono (ht [] s1 (start N vs) H _ I hq) (fun fl s' hs => ?_) fun e s' hs => hs
  have fin : ∀ {σ' : St} {H' : Hp} {v : V} {u : Value},Inv (cxOf CX P w K mg base N qual scope f cdv A outer s H E) [] σ' H' s' → RelV v u → Q v H' → CE outer P w H s Q u s' :=
    fun {σ' H' v u} J rv q => ⟨v,H',J.os,J.bare,J.base,J.hok,rv,q⟩
  cases fl with
  | ret u =>
    obtain ⟨v,σ',H',J,rv,q⟩ := hs
    exact fin J rv q
  | next =>
    obtain ⟨σ',H',J,q⟩ := hs
    exact fin (v := V.non) (u := Value.none) J rfl q
  | brk =>
    obtain ⟨_,_,_,q⟩ := hs
    exact False.elim q
  | cont =>
    obtain ⟨_,_,_,q⟩ := hs
    exact False.elim q
end L2
namespace L2
open PySem PySem.Spec PyProof.Rows
section
variable {X : Cx} {x : Str} {p pos : Pos} {e : Expr} {es : List Expr} {t : TA} {id T : String} {r : List V → Hp → VK → Prop}
noncomputable def tCB (r : List V → Hp → VK → Prop) (t : TA) : TE := fun σ H Q => t σ H fun vs H1 => r vs H1 Q
theorem pe_callB (hc : CallR X (.builtin id) r) (hg : Gl X x) (hm : X.mg x = none) (hv : bootBuiltins x = some (.builtin id)) (ha : PA X (e :: es) t) (hn : x ≠ "__name__" := by decide) (hdb : (x == ("__debug__" : Str)) = false := by decide)
    (he : starEach (e :: es) X.env = (false,eval e X.env) :: starEach es X.env := by rfl) (hpl : (backTo pos (starEach es X.env)).any (·.1) = false := by rfl) : PE X (.Call (.Name x p) (e :: es) [] pos) (tCB r t) := by
  intro pins s σ H Q I h
  refine wpAny_Call_Name_kw (ld_blt I hg hm hv ?_ hn hdb)
  exact PyProof.Rows.callWith_builtin1 (thn (ha pos pins s σ H _ I h) fun us s1 ⟨vs,H1,I1,r1,q1⟩ => hc pins s1 σ H1 vs us Q I1 r1 q1) he hpl
theorem pe_callTy (hc : CallR X (.type T) r) (hg : Gl X x) (hm : X.mg x = none) (hv : bootBuiltins x = some (.type T)) (ha : PA X (e :: es) t) (hn : x ≠ "__name__" := by decide) (hdb : (x == ("__debug__" : Str)) = false := by decide)
    (he : starEach (e :: es) X.env = (false,eval e X.env) :: starEach es X.env := by rfl) (hpl : (backTo pos (starEach es X.env)).any (·.1) = false := by rfl) : PE X (.Call (.Name x p) (e :: es) [] pos) (tCB r t) := by
  intro pins s σ H Q I h
  refine wpAny_Call_Name_kw (ld_blt I hg hm hv ?_ hn hdb)
  exact PyProof.Rows.callWith_type1 (thn (ha pos pins s σ H _ I h) fun us s1 ⟨vs,H1,I1,r1,q1⟩ => hc pins s1 σ H1 vs us Q I1 r1 q1) he hpl
end
end L2
namespace HT
open PySem PyProof.Rows
section
open PySem.SeqAt
open PySem.AutoSeq1 (wpAny_loadPart')
open PySem.MeetsSeq PySem.MeetsSeq2 PySem.MeetsSeq3
end
section
variable {prog : Program} {w : World} {A : Around} {E : Value → Shared → Prop} {s : Shared}
theorem cat_tup {t b : Addr} {vs ws : List Value} {Q : Value → Shared → Prop} (ht : IsTup s.heap t vs.toArray) (hb : IsTup s.heap b ws.toArray) (hv : vs ≠ [])
    (h1 : ws = [] → Q (.ref t) s) (h2 : ws ≠ [] → Q (.ref s.heap.objs.size) { s with heap := s.heap.push { cls := .type "tuple",data := .seq (vs ++ ws).toArray } })
    (hsz : vs.length + ws.length ≤ sizeLine) : wpAny (model prog w) A (binaryOp .Add (.ref t) (.ref b)) Q E s := by
  obtain ⟨⟨cls,dd,data,sl⟩,ho,hc,n,hd⟩ := id ht
  obtain ⟨⟨cls2,dd2,data2,sl2⟩,ho2,hc2,n2,hd2⟩ := id hb
  simp only at hc hd hc2 hd2
  subst hc hd hc2 hd2
  have e : vs.toArray ++ ws.toArray = (vs ++ ws).toArray := by simp
  by_cases hw : ws = []
  · exact concat_meets ⟨_,ho,rfl⟩ ⟨_,ho2,rfl⟩ noFill_tuple_add seq_tuple_add PySem.F.slot_tuple_add PySem.F.entry_tuple_add (PySem.F.args_tuple_add_2 _ _)
      (tuple_addW1 t b vs.toArray ws.toArray n n2 dd dd2 sl sl2 (by simpa using hv) (by simp [hw])) ⟨ho,ho2,h1 hw⟩
  · refine concat_meets ⟨_,ho,rfl⟩ ⟨_,ho2,rfl⟩ noFill_tuple_add seq_tuple_add PySem.F.slot_tuple_add PySem.F.entry_tuple_add (PySem.F.args_tuple_add_2 _ _)
      (tuple_addW2 t b vs.toArray ws.toArray n n2 dd dd2 sl sl2 (by simpa using hv) (by simpa using hw) (by rw [List.size_toArray,List.size_toArray]; exact hsz)) ⟨ho,ho2,?_⟩
    rw [e]
    exact h2 hw
noncomputable def sIx (n d : Nat) : Option Int → Nat
  | none => d
  | some v => if v < 0 then (v + (n : Int)).toNat else min v.toNat n
theorem sIx_none (n d : Nat) : sIx n d none = d := rfl
theorem sIx_nat (n d k : Nat) : sIx n d (some (k : Int)) = min k n := by
  show (if (k : Int) < 0 then ((k : Int) + (n : Int)).toNat else min (k : Int).toNat n) = min k n
  rw [if_neg (by omega),Int.toNat_natCast]
theorem sIx_le (n d : Nat) (hd : d ≤ n) (o : Option Int) : sIx n d o ≤ n := by
  cases o with
  | none => exact hd
  | some v =>
    show (if v < 0 then (v + (n : Int)).toNat else min v.toNat n) ≤ n
    by_cases hv : v < 0
    · rw [if_pos hv]; omega
    · rw [if_neg hv]; exact Nat.min_le_right _ _
theorem clip_eq (v : Int) (n d : Nat) : (if v < 0 then max (v + (n : Int)) 0 else min v (n : Int)) = ((sIx n d (some v) : Nat) : Int) := by
  show (if v < 0 then max (v + (n : Int)) 0 else min v (n : Int)) = (((if v < 0 then (v + (n : Int)).toNat else min v.toNat n) : Nat) : Int)
  by_cases hv : v < 0
  · simp only [if_pos hv]; omega
  · simp only [if_neg hv]; omega
theorem adjust_gen (lo hi : Option Int) (n : Nat) : Builtin.Slice.sliceAdjust lo hi 1 (n : Int) = (((sIx n 0 lo : Nat) : Int),((sIx n n hi : Nat) : Int)) := by
  have h1 : ¬ ((1 : Int) < 0) := by omega
  unfold Builtin.Slice.sliceAdjust
  simp only [h1,if_false]
  refine Prod.ext ?_ ?_
  · cases lo with
    | none => rfl
    | some v => exact clip_eq v n 0
  · cases hi with
    | none => rfl
    | some v => exact clip_eq v n n
theorem places_gen (i j : Nat) : Builtin.Slice.slicePlaces (i : Int) (j : Int) 1 = j - i := by
  unfold Builtin.Slice.slicePlaces
  have h1 : (1 : Int) > 0 := by omega
  simp only [h1,if_true,Int.ediv_one]
  split <;> omega
theorem slicePart_ {v : Value} {o : Option Int} {Q : Option Int → Shared → Prop} (p : IsPart v o) (h : Q o s) : wpAny (model prog w) A (Builtin.Slice.slicePartIndex v) Q E s := by
  cases p with
  | none => exact slicePart_none h
  | int i t => exact slicePart_int h
theorem sliceApplied_gen {sl : Addr} {vl vu : Value} {lo hi : Option Int} {n : Nat} {Q : Int × Int × Nat → Shared → Prop} (hs : s.heap.IsSliceOf sl vl vu .none) (pl : IsPart vl lo) (pu : IsPart vu hi)
    (h : Q (((sIx n 0 lo : Nat) : Int),1,sIx n n hi - sIx n 0 lo) s) : wpAny (model prog w) A (Builtin.Slice.sliceApplied (.ref sl) (pure (n : Int))) Q E s := by
  obtain ⟨os,hos,hcs,hds⟩ := id hs
  unfold Builtin.Slice.sliceApplied Builtin.Slice.sliceFields
  refine wpAny_bind (wpAny_bind (wpAny_field hos hds (x := vl) rfl (wpAny_bind (wpAny_field hos hds (x := vu) rfl (wpAny_bind (wpAny_field hos hds (x := .none) rfl (wpAny_pure ?_)))))))
  refine wpAny_bind (slicePart_none ?_)
  show wpAny _ _ (if ((1 : Int) == 0) = true then _ else _) _ _ s
  rw [if_neg (by decide)]
  refine wpAny_bind (slicePart_ pl (wpAny_bind (slicePart_ pu (wpAny_bind (wpAny_pure ?_)))))
  show wpAny _ _ (match Builtin.Slice.sliceAdjust lo hi 1 (n : Int) with | (lo,hi) => pure (lo,(1 : Int),Builtin.Slice.slicePlaces lo hi 1)) _ _ s
  rw [adjust_gen lo hi n]
  show wpAny _ _ (pure (((sIx n 0 lo : Nat) : Int),(1 : Int),Builtin.Slice.slicePlaces ((sIx n 0 lo : Nat) : Int) ((sIx n n hi : Nat) : Int) 1)) _ _ s
  rw [places_gen]
  exact wpAny_pure h
theorem pick_gen (xs : Array Value) (i k : Nat) : ((List.range k).filterMap fun (m : Nat) => xs[((i : Int) + (m : Int) * 1).toNat]?).toArray = ((xs.toList.drop i).take k).toArray := by
  have e : (fun (m : Nat) => xs[((i : Int) + (m : Int) * 1).toNat]?) = fun m => xs[i + m]? := by
    funext m
    have : ((i : Int) + (m : Int) * 1).toNat = i + m := by omega
    rw [this]
  rw [e]
  have := pick_run xs i k
  rw [List.filterMap_map] at this
  have e2 : ((fun x => xs[x]?) ∘ fun x => i + x) = fun m => xs[i + m]? := rfl
  rw [e2] at this
  rw [this]
theorem getItem_tuple_cut {t sl : Addr} {items : Array Value} {vl vu : Value} {lo hi : Option Int} {Q : Value → Shared → Prop} (ht : IsTup s.heap t items) (hs : s.heap.IsSliceOf sl vl vu .none) (pl : IsPart vl lo) (pu : IsPart vu hi)
    (hw : ¬ (sIx items.size 0 lo = 0 ∧ sIx items.size items.size hi = items.size))
    (h : Q (.ref s.heap.objs.size) { s with heap := s.heap.push { cls := .type "tuple",data := .seq ((items.toList.drop (sIx items.size 0 lo)).take (sIx items.size items.size hi - sIx items.size 0 lo)).toArray } })
    (hsz : items.size ≤ sizeLine) : wpAny (model prog w) A (getItem (.ref t) (.ref sl)) Q E s := by
  have htake : sizeOk (.seq ((items.toList.drop (sIx items.size 0 lo)).take (sIx items.size items.size hi - sIx items.size 0 lo)).toArray) := by
    show ((items.toList.drop (sIx items.size 0 lo)).take (sIx items.size items.size hi - sIx items.size 0 lo)).toArray.size ≤ sizeLine
    rw [List.size_toArray,List.length_take,List.length_drop,Array.length_toList]
    omega
  have hj : sIx items.size items.size hi ≤ items.size := sIx_le _ _ (Nat.le_refl _) hi
  obtain ⟨os,hos,hcs,hds⟩ := id hs
  have hTs : s.TypeIs (.ref sl) "slice" := ⟨os,hos,hcs⟩
  unfold getItem
  try with_reducible refine wpAny_holding ?_
  first | refine wpAny_bind (wpAny_pure ?_) | skip
  refine wpAny_bind (wpAny_sequenceKey ht.typeIs (by decide) ?_)
  refine wpAny_bind (wpAny_callSpecial?_slot (name := Str.ofString "__getitem__") ht.typeIs PyProof.Rows.slot_tuple_getitem
    (wpAny_call_entry PyProof.Rows.slot_tuple_getitem ht.typeIs entry_tuple_getitem ?_ (args_tuple_getitem _ _)))
  show wpAny _ _ (Builtin.Tuple.tupleItemsOf (.ref t) >>= _) _ _ s
  refine wpAny_bind (tupleItemsOf_ ht ?_)
  refine wpAny_bind (wpAny_typeOf hTs ?_)
  rw [if_pos (by decide)]
  refine wpAny_bind (sliceApplied_gen hs pl pu ?_)
  have hno : ¬ ((((sIx items.size 0 lo : Nat) : Int) == 0 && (1 : Int) == 1 && (sIx items.size items.size hi - sIx items.size 0 lo) == items.size) = true) := by
    intro q
    rw [Bool.and_eq_true,Bool.and_eq_true] at q
    have q1 : ((sIx items.size 0 lo : Nat) : Int) = 0 := eq_of_beq q.1.1
    have q2 : sIx items.size items.size hi - sIx items.size 0 lo = items.size := eq_of_beq q.2
    exact hw ⟨by omega,by omega⟩
  show wpAny _ _ (if (((sIx items.size 0 lo : Nat) : Int) == 0 && (1 : Int) == 1 && (sIx items.size items.size hi - sIx items.size 0 lo) == items.size) = true then _ else _) _ _ s
  rw [if_neg hno,pick_gen]
  first
    | exact wpAny_bind (m := Builtin.Tuple.tupleExact _) (wpAny_newObj_type (wpAny_pure ⟨_,rfl,wpAny_pure h⟩) htake)
    | exact wpAny_bind (m := Builtin.Tuple.tupleExact _) (wpAny_newObj_type (wpAny_bind (wpAny_pure (wpAny_pure ⟨_,rfl,wpAny_pure h⟩))) htake)
    | exact wpAny_bind (wpAny_bind (m := Builtin.Tuple.tupleExact _) (wpAny_newObj_type (wpAny_pure (wpAny_pure ⟨_,rfl,wpAny_pure h⟩)) htake))
    | exact wpAny_bind (wpAny_bind (m := Builtin.Tuple.tupleExact _) (wpAny_newObj_type (wpAny_pure ⟨_,rfl,wpAny_pure h⟩) htake))
end
end HT
namespace L2
open PySem PySem.Spec PyProof.Rows
noncomputable abbrev TO := St → Hp → (Option Int → Hp → Prop) → Prop
noncomputable def PO (X : Cx) (e : Option Expr) (t : TO) : Prop :=
  ∀ (pins : List (Addr × Obj)) (s : Shared) (σ : St) (H : Hp) (Q : Option Int → Hp → Prop),Inv X pins σ H s → t σ H Q →
    wpAny (model X.prog X.w) X.A (evalPart e X.env) (fun u s' => ∃ o H',Inv X pins σ H' s' ∧ IsPart u o ∧ Q o H') X.xe s
noncomputable def tNoPart : TO := fun _ H Q => Q none H
inductive SPart (x : V) (H : Hp) (Q : Option Int → Hp → Prop) : Prop | mk (i : Int) (hx : x = .int i) (q : Q (some i) H)
noncomputable def tPart (t : TE) : TO := fun σ H Q => t σ H fun x H1 => SPart x H1 Q
theorem intsAre_of {ns : List Int} : ∀ {us : List Value},Vals (ns.map V.int) us → IntsAre us ns := by
  induction ns with
  | nil => intro us r; rw [List.map_nil] at r; cases r; exact .nil
  | cons n ns ih =>
    intro us r
    rw [List.map_cons] at r
    cases r with
    | cons r1 r2 =>
      obtain ⟨t,e⟩ := r1
      subst e
      exact .cons n t (ih r2)
section
variable {X : Cx} {e : Expr} {te : TE} {lo hi : Option Expr} {tl th : TO} {pos p2 : Pos}
theorem po_none : PO X none tNoPart := by
  intro pins s σ H Q I h
  rw [evalPart_none]
  exact wpAny_pure ⟨none,H,I,.none,h⟩
theorem po_some (h : PE X e te) : PO X (some e) (tPart te) := by
  intro pins s σ H Q I hw
  rw [evalPart_some]
  refine thn (h pins s σ H _ I hw) fun u s1 ⟨x,H1,I1,r1,q1⟩ => ?_
  obtain ⟨i,rfl,q⟩ := q1
  obtain ⟨t,rfl⟩ := r1
  exact ⟨some i,H1,I1,.int i t,q⟩
noncomputable def SlR (X : Cx) (r : V → Option Int → Option Int → Hp → VK → Prop) : Prop :=
  ∀ (pins : List (Addr × Obj)) (s : Shared) (σ : St) (H : Hp) (x : V) (v vl vu : Value) (lo hi : Option Int) (sl : Addr) (Q : VK),Inv X pins σ H s → RelV x v → s.heap.IsSliceOf sl vl vu .none → IsPart vl lo → IsPart vu hi → r x lo hi H Q →
    ∃ T id,typeLookup (.type T) "__getitem__" = pure (some (.builtin id)) ∧ s.TypeIs v T ∧ wpAny (model X.prog X.w) X.A (getItem v (.ref sl)) (EP X pins σ Q) X.xe s
theorem SlR.or {r r' : V → Option Int → Option Int → Hp → VK → Prop} (h : SlR X r) (h' : SlR X r') : SlR X (fun x lo hi H Q => r x lo hi H Q ∨ r' x lo hi H Q) := by
  intro pins s σ H x v vl vu lo hi sl Q I rx hs pl pu q
  rcases q with q | q
  · exact h pins s σ H x v vl vu lo hi sl Q I rx hs pl pu q
  · exact h' pins s σ H x v vl vu lo hi sl Q I rx hs pl pu q
noncomputable def tSl (r : V → Option Int → Option Int → Hp → VK → Prop) (te : TE) (tl th : TO) : TE := fun σ H Q => te σ H fun x H1 => tl σ H1 fun l H2 => th σ H2 fun u H3 => r x l u H3 Q
theorem pe_slice {r : V → Option Int → Option Int → Hp → VK → Prop} (hr : SlR X r) (he : PE X e te) (hl : PO X lo tl) (hu : PO X hi th) : PE X (.Subscript e (.Slice lo hi none p2) pos) (tSl r te tl th) := by
  intro pins s σ H Q I h
  refine Subscript_ (thn (he pins s σ H _ I h) fun v s1 ⟨x,H1,I1,r1,q1⟩ => ?_)
  refine wpAny_Slice (thn (hl pins s1 σ H1 _ I1 q1) fun vl s2 ⟨l,H2,I2,pl,q2⟩ => thn (hu pins s2 σ H2 _ I2 q2) fun vu s3 ⟨u,H3,I3,pu,q3⟩ => ?_)
  rw [evalPart_none]
  refine wpAny_pure ?_
  have I4 : Inv X pins σ H3 { s3 with heap := s3.heap.push { cls := .type "slice",data := .fields #[vl,vu,.none] } } := I3.kept (t' := s3.toks) fun b ob q => Heap.get?_push_of_some _ q
  obtain ⟨T,id,hT,ht,hg⟩ := hr pins { s3 with heap := s3.heap.push { cls := .type "slice",data := .fields #[vl,vu,.none] } } σ H3 x v vl vu l u s3.heap.objs.size Q I4 r1 (Heap.IsSliceOf.new ..) pl pu q3
  show wpAny (model X.prog X.w) X.A (subscriptTail e (.Slice lo hi none p2) v (.ref s3.heap.objs.size)) (EP X pins σ Q) X.xe { s3 with heap := s3.heap.push { cls := .type "slice",data := .fields #[vl,vu,.none] } }
  exact tail_any (ops := [.ref s3.heap.objs.size,v]) ht hT hg (by with_unfolding_all rfl)
noncomputable def cutV (xs : List V) (lo hi : Option Int) : List V := (xs.drop (HT.sIx xs.length 0 lo)).take (HT.sIx xs.length xs.length hi - HT.sIx xs.length 0 lo)
theorem cutV_length (xs : List V) (lo hi : Option Int) : (cutV xs lo hi).length ≤ xs.length := by
  unfold cutV
  rw [List.length_take,List.length_drop]
  omega
noncomputable def rSlT (K : PySem.W.Frag) : V → Option Int → Option Int → Hp → VK → Prop := fun x lo hi H Q => ∃ a xs,x = .ref a ∧ SqT K H a xs ∧
  ¬ (HT.sIx xs.length 0 lo = 0 ∧ HT.sIx xs.length xs.length hi = xs.length) ∧ ∀ p,H p = none → Q (.ref p) (upd H p (.tup (cutV xs lo hi)))
theorem sl_tup : SlR X (rSlT X.K) := by
  intro pins s σ H x v vl vu lo hi sl Q I rx hs pl pu h
  obtain ⟨a,xs,rfl,hx,hw,q⟩ := h
  cases rx
  obtain ⟨its,r,ht,hz⟩ := I.tuple hx
  have hlen : its.toArray.size = xs.length := by rw [List.size_toArray]; exact r.length.symm
  refine ⟨"tuple",_,PyProof.Rows.slot_tuple_getitem.lookup,ht.typeIs,?_⟩
  refine HT.getItem_tuple_cut ht hs pl pu (by rw [hlen]; exact hw) ?_ (by rw [hlen]; exact hz)
  rw [hlen]
  refine ⟨.ref s.heap.objs.size,_,I.laid (t' := s.toks) (o := .tup (cutV xs lo hi)) (fun b ob q => Heap.get?_push_of_some _ q) (Nat.le_refl _) ?_,rfl,q _ (I.hok.fresh (Nat.le_refl _))⟩
  exact ⟨Nat.le_trans (cutV_length xs lo hi) hz,_,(r.drop (HT.sIx xs.length 0 lo)).take (HT.sIx xs.length xs.length hi - HT.sIx xs.length 0 lo),IsTup.new _ _⟩
noncomputable def rCatT (K : PySem.W.Frag) : R2 := fun x y H Q => ∃ a b xs ys,x = .ref a ∧ y = .ref b ∧ SqT K H a xs ∧ SqT K H b ys ∧ xs ≠ [] ∧ xs.length + ys.length ≤ sizeLine ∧
  (ys = [] → Q (.ref a) H) ∧ (ys ≠ [] → ∀ p,H p = none → Q (.ref p) (upd H p (.tup (xs ++ ys))))
theorem Vals.nil_iff {xs : List V} {us : List Value} (r : Vals xs us) : us = [] ↔ xs = [] := by
  cases r with
  | nil => simp
  | cons _ _ => simp
theorem op_catT : OpR X (binaryOp .Add) (rCatT X.K) := by
  intro pins s σ H x y v u Q I rx ry h
  obtain ⟨a,b,xs,ys,rfl,rfl,ha,hb,hx,hz,q1,q2⟩ := h
  cases rx
  cases ry
  obtain ⟨its,r1,p1,_⟩ := I.tuple ha
  obtain ⟨its2,r2,p2,_⟩ := I.tuple hb
  refine HT.cat_tup p1 p2 (fun z => hx (r1.nil_iff.mp z)) (fun z => ⟨.ref a,H,I,rfl,q1 (r2.nil_iff.mp z)⟩) (fun z => ?_) (by rw [← r1.length,← r2.length]; exact hz)
  refine ⟨.ref s.heap.objs.size,_,I.laid (t' := s.toks) (o := .tup (xs ++ ys)) (fun b ob q => Heap.get?_push_of_some _ q) (Nat.le_refl _) ?_,rfl,q2 (fun w => z (r2.nil_iff.mpr w)) _ (I.hok.fresh (Nat.le_refl _))⟩
  exact ⟨by rw [List.length_append]; exact hz,_,r1.append r2,IsTup.new _ _⟩
end
end L2
namespace L2
open PySem PySem.Spec PyProof.Rows
noncomputable def ixN (n : Nat) (i : Int) : Option Nat := if 0 ≤ i then (if i < n then some i.toNat else none) else if -(n : Int) ≤ i then some (i + n).toNat else none
noncomputable def atI {α : Type} (xs : List α) (i : Int) : Option α := (ixN xs.length i).bind fun j => xs[j]?
theorem ixN_seq {n : Nat} {i : Int} {j : Nat} (h : ixN n i = some j) : seqIndex? i n = some j ∧ j < n ∧ -(n : Int) ≤ i ∧ i < n := by
  unfold ixN at h
  by_cases h0 : 0 ≤ i
  · rw [if_pos h0] at h
    by_cases h1 : i < n
    · rw [if_pos h1] at h
      have e : i.toNat = j := Option.some.inj h
      exact ⟨by rw [seqIndex_of h0 h1,e],by omega,by omega,h1⟩
    · rw [if_neg h1] at h; cases h
  · rw [if_neg h0] at h
    by_cases h1 : -(n : Int) ≤ i
    · rw [if_pos h1] at h
      have e : (i + n).toNat = j := Option.some.inj h
      exact ⟨by rw [seqIndex_neg (by omega) h1,e],by omega,h1,by omega⟩
    · rw [if_neg h1] at h; cases h
theorem atI_get {α : Type} {xs : List α} {i : Int} {v : α} (h : atI xs i = some v) : ∃ j,seqIndex? i xs.length = some j ∧ xs[j]? = some v ∧ j < xs.length ∧ -(xs.length : Int) ≤ i ∧ i < xs.length := by
  unfold atI at h
  cases e : ixN xs.length i with
  | none => rw [e] at h; cases h
  | some j =>
    rw [e] at h
    obtain ⟨h1,h2,h3,h4⟩ := ixN_seq e
    exact ⟨j,h1,h,h2,h3,h4⟩
theorem atI_nat {α : Type} {xs : List α} {j : Nat} {v : α} (h : xs[j]? = some v) : atI xs (j : Int) = some v := by
  have hj : j < xs.length := (List.getElem?_eq_some_iff.mp h).1
  have e : ixN xs.length (j : Int) = some j := by
    unfold ixN
    rw [if_pos (by omega),if_pos (by omega)]; simp
  unfold atI; rw [e]; exact h
noncomputable def PlainIx (b : Expr) : Prop := ∀ o i,subscripted b false o i = operate [o,i] (getItem o i)
noncomputable def IxR (X : Cx) (r : R2) : Prop :=
  ∀ (value slice : Expr) (pins : List (Addr × Obj)) (s : Shared) (σ : St) (H : Hp) (x y : V) (v u : Value) (Q : VK),Inv X pins σ H s → RelV x v → RelV y u → r x y H Q →
    subscripted slice false v u = operate [v,u] (getItem v u) → wpAny (model X.prog X.w) X.A (subscriptTail value slice v u) (EP X pins σ Q) X.xe s
noncomputable def MtR (X : Cx) (id : String) (r : V → List V → Hp → VK → Prop) : Prop :=
  ∀ (pins : List (Addr × Obj)) (s : Shared) (σ : St) (H : Hp) (x : V) (xs : List V) (v : Value) (us : List Value) (Q : VK),Inv X pins σ H s → RelV x v → Vals xs us → r x xs H Q →
    wpAny (model X.prog X.w) X.A (call (.builtin id) (v :: us)) (EP X pins σ Q) X.xe s
section
variable {X : Cx} {a b : Expr} {ta tb : TE} {pos : Pos}
theorem IxR.or {r r' : R2} (h : IxR X r) (h' : IxR X r') : IxR X (fun x y H Q => r x y H Q ∨ r' x y H Q) := by
  intro value slice pins s σ H x y v u Q I rx ry q hs
  rcases q with q | q
  · exact h value slice pins s σ H x y v u Q I rx ry q hs
  · exact h' value slice pins s σ H x y v u Q I rx ry q hs
theorem pe_ix {r : R2} (hr : IxR X r) (ha : PE X a ta) (hb : PE X b tb) (hs : PlainIx b) : PE X (.Subscript a b pos) (tOp r ta tb) := by
  intro pins s σ H Q I h
  exact Subscript_ (binT ha hb I h fun v u s2 x y H2 I2 rx ry q => hr a b pins s2 σ H2 x y v u Q I2 rx ry q (hs _ _))
noncomputable def rIxL (K : PySem.W.Frag) : R2 := fun x y H Q => ∃ p xs i v,x = .ref p ∧ y = .int i ∧ SqL K H p xs ∧ atI xs i = some v ∧ Q v H
noncomputable def rIxT (K : PySem.W.Frag) : R2 := fun x y H Q => ∃ p xs i v,x = .ref p ∧ y = .int i ∧ SqT K H p xs ∧ atI xs i = some v ∧ Q v H
noncomputable def rIxS : R2 := fun x y H Q => ∃ z i c,x = .str z ∧ y = .int i ∧ z.length ≤ sizeLine ∧ atI z.cps.toList i = some c ∧ Q (.str ⟨#[c]⟩) H
theorem ix_list : IxR X (rIxL X.K) := by
  intro value slice pins s σ H x y v u Q I rx ry h hs
  obtain ⟨p,xs,i,z,rfl,rfl,hq,he,q⟩ := h
  cases rx
  obtain ⟨t,rfl⟩ := ry
  obtain ⟨its,r,pl,hz⟩ := I.list hq
  obtain ⟨j,h1,h2,h3,h4,h5⟩ := atI_get he
  obtain ⟨w,ew,rw'⟩ := r.get h2
  have hl := r.length
  have hn := line63
  have fin : EP X pins σ Q w s := ⟨z,H,I,rw',q⟩
  by_cases h0 : 0 ≤ i
  · have hj : i.toNat = j := by
      rw [seqIndex_of h0 h5] at h1
      exact Option.some.inj h1
    exact item_listR pl.isList h0 (by omega) (by rw [hj]; simpa using ew) fin hs
  · have hj : (i + (its.toArray.size : Int)).toNat = j := by
      rw [seqIndex_neg (by omega) h4] at h1
      rw [List.size_toArray,← hl]
      exact Option.some.inj h1
    exact subscriptTail_builtinR (x := w) pl.isList.typeIs slot_list_getitem.lookup
      (wpAny_getItem_list_neg (Q := fun r s' => r = w ∧ EP X pins σ Q r s') pl.isList (by omega) (by rw [List.size_toArray] <;> omega) (by omega) (by rw [hj]; simpa using ew) ⟨rfl,fin⟩) hs
theorem ix_tup : IxR X (rIxT X.K) := by
  intro value slice pins s σ H x y v u Q I rx ry h hs
  obtain ⟨p,xs,i,z,rfl,rfl,hq,he,q⟩ := h
  cases rx
  obtain ⟨t,rfl⟩ := ry
  obtain ⟨its,r,pl,hz⟩ := I.tuple hq
  obtain ⟨j,h1,h2,h3,h4,h5⟩ := atI_get he
  obtain ⟨w,ew,rw'⟩ := r.get h2
  have hl := r.length
  have hn := line63
  have fin : EP X pins σ Q w s := ⟨z,H,I,rw',q⟩
  exact subscriptTail_builtinR (x := w) pl.typeIs slot_tuple_getitem.lookup
    (getItem_tuple (j := j) (Q := fun r s' => r = w ∧ EP X pins σ Q r s') pl (by omega) (by omega) (by rw [List.size_toArray,← hl]; exact h1) (by simpa using ew) ⟨rfl,fin⟩) hs
theorem ix_str : IxR X rIxS := by
  intro value slice pins s σ H x y v u Q I rx ry h hs
  obtain ⟨z,i,c,rfl,rfl,hz,he,q⟩ := h
  obtain ⟨t,rfl⟩ := rx
  obtain ⟨t',rfl⟩ := ry
  obtain ⟨j,h1,h2,h3,h4,h5⟩ := atI_get he
  have hl : z.cps.toList.length = z.length := by simp [Str.length]
  rw [hl] at h1 h4 h5
  have hn := line63
  exact tail_any (typeIs_str s z t) slot_str_getitem.lookup (getItem_str (c := c) (by
    have e1 : decide (i < -(2 ^ 63 : Int)) = false := decide_eq_false (by omega)
    have e2 : decide (i ≥ 2 ^ 63) = false := decide_eq_false (by omega)
    rw [e1,e2,Bool.or_false]) (by rw [h1]; simpa using h2) ⟨.str ⟨#[c]⟩,H,I.tok _,⟨_,rfl⟩,q⟩) hs
noncomputable def rIx (K : PySem.W.Frag) : R2 := fun x y H Q => rIxL K x y H Q ∨ rIxT K x y H Q ∨ rIxS x y H Q
theorem ix_seq : IxR X (rIx X.K) := ix_list.or (ix_tup.or ix_str)
theorem mapSeq_set (its : List Value) (n j : Nat) (u : Value) : Obj.mapSeq (·.setIfInBounds j u) { cls := .type "list",data := .seq its.toArray n } = { cls := .type "list",data := .seq (its.set j u).toArray n } := by
  simp [Obj.mapSeq]
theorem Inv.lst {pins : List (Addr × Obj)} {σ : St} {H : Hp} {s : Shared} {p : Addr} {xs : List V} (I : Inv X pins σ H s) (h : H p = some (.lst xs)) :
    ∃ (its : List Value) (n : Nat),Vals xs its ∧ s.heap.get? p = some { cls := .type "list",data := .seq its.toArray n } ∧ xs.length ≤ sizeLine := by
  obtain ⟨z,its,n,r,e⟩ := I.hok p _ h
  exact ⟨its,n,r,e,z⟩
theorem Inv.lstUpd {pins : List (Addr × Obj)} {σ : St} {H : Hp} {s : Shared} {p : Addr} {xs ys : List V} {its its' : List Value} {n n' : Nat} {f : Obj → Obj} (I : Inv X pins σ H s) (h : H p = some (.lst xs))
    (ho : s.heap.get? p = some { cls := .type "list",data := .seq its.toArray n }) (hf : f { cls := .type "list",data := .seq its.toArray n } = { cls := .type "list",data := .seq its'.toArray n' }) (r : Vals ys its') (hz : ys.length ≤ sizeLine) (t : Nat) :
    Inv X pins σ (upd H p (.lst ys)) { s with heap := s.heap.update p f,toks := t } := by
  have e : (s.heap.update p f).get? p = some { cls := .type "list",data := .seq its'.toArray n' } := by
    rw [Heap.get?_update_self f ho (by rw [hf] <;> rfl),hf]
  refine I.write (x := p) (e := p) (by rw [h]; trivial) (.inl rfl) (fun b u hb q => (Heap.get?_update_other _ _ (Ne.symm hb)).trans q) ⟨_,e⟩ ?_
  exact ⟨hz,its',n',r,e⟩
inductive SSet (o i v : V) (H : Hp) (Q : Hp → Prop) : Prop | mk (p : Addr) (xs : List V) (k : Int) (j : Nat) (ho : o = .ref p) (hi : i = .int k) (hp : H p = some (.lst xs)) (hj : ixN xs.length k = some j) (q : Q (upd H p (.lst (xs.set j v))))
noncomputable def rSetL : V → V → V → Hp → (Hp → Prop) → Prop := fun o i v H Q => SSet o i v H Q
theorem set_list : PSet X rSetL := by
  intro pins s σ H o i v ov iv u Q I ro ri rv h
  obtain ⟨p,xs,k,j,rfl,rfl,hp,hj,q⟩ := h
  cases ro
  obtain ⟨t,rfl⟩ := ri
  obtain ⟨its,n,r,ho,hz⟩ := I.lst hp
  obtain ⟨h1,h2,h3,h4⟩ := ixN_seq hj
  have hl := r.length
  have hn := line63
  have I' : Inv X pins σ (upd H p (.lst (xs.set j v))) { s with heap := s.heap.update p (Obj.mapSeq (·.setIfInBounds j u)) } :=
    I.lstUpd hp ho (mapSeq_set its n j u) (r.set rv j) (by rw [List.length_set]; exact hz) s.toks
  by_cases h0 : 0 ≤ k
  · have hk : k.toNat = j := by
      rw [seqIndex_of h0 h4] at h1
      exact Option.some.inj h1
    exact PySem.W.ki_setAt ho h0 (by omega) (by rw [List.size_toArray,← hl]; exact h4) (by rw [hk]; exact ⟨_,I',q⟩)
  · have hk : (k + (its.toArray.size : Int)).toNat = j := by
      rw [seqIndex_neg (by omega) h3] at h1
      rw [List.size_toArray,← hl]
      exact Option.some.inj h1
    exact PySem.W.ki_setBack ho (by omega) (by rw [List.size_toArray,← hl]; exact h3) (by omega) (by rw [hk]; exact ⟨_,I',q⟩)
theorem slice_bounds (lo hi : Option Int) (n : Nat) : (sliceBounds lo hi none n).1 = ((HT.sIx n 0 lo : Nat) : Int) ∧ (sliceBounds lo hi none n).2.1 = ((HT.sIx n n hi : Nat) : Int) ∧ (sliceBounds lo hi none n).2.2 = 1 := by
  refine ⟨?_,?_,rfl⟩
  · cases lo with
    | none => simp [sliceBounds,HT.sIx]
    | some i =>
      simp only [sliceBounds,HT.sIx,Option.getD_none,show (1 : Int) > 0 by decide,if_true]
      by_cases h : i < 0
      · simp only [h,if_true] <;> omega
      · simp only [h,if_false] <;> omega
  · cases hi with
    | none => simp [sliceBounds,HT.sIx]
    | some i =>
      simp only [sliceBounds,HT.sIx,Option.getD_none,show (1 : Int) > 0 by decide,if_true]
      by_cases h : i < 0
      · simp only [h,if_true] <;> omega
      · simp only [h,if_false] <;> omega
theorem slicePick_cut (its : List Value) (lo hi : Option Int) : slicePick its.toArray lo hi none = ((its.drop (HT.sIx its.length 0 lo)).take (HT.sIx its.length its.length hi - HT.sIx its.length 0 lo)).toArray := by
  obtain ⟨h1,h2,h3⟩ := slice_bounds lo hi its.toArray.size
  unfold slicePick
  rw [h1,h2,h3]
  simp only [sliceRange_one,pick_run,List.size_toArray] <;> rfl
noncomputable def rSlL (K : PySem.W.Frag) : V → Option Int → Option Int → Hp → VK → Prop := fun x lo hi H Q => ∃ a xs,x = .ref a ∧ SqL K H a xs ∧ ∀ p,H p = none → Q (.ref p) (upd H p (.lst (cutV xs lo hi)))
theorem sl_list : SlR X (rSlL X.K) := by
  intro pins s σ H x v vl vu lo hi sl Q I rx hs pl pu h
  obtain ⟨a,xs,rfl,hx,q⟩ := h
  cases rx
  obtain ⟨its,r,ht,hz⟩ := I.list hx
  have hlen := r.length
  refine ⟨"list",_,slot_list_getitem.lookup,ht.isList.typeIs,?_⟩
  refine wpAny_getItem_list_slice ht.isList hs pl pu .none (by simp) ?_ (by rw [List.size_toArray] <;> omega)
  rw [slicePick_cut,← hlen]
  refine ⟨.ref s.heap.objs.size,_,I.laid (t' := s.toks) (o := .lst (cutV xs lo hi)) (fun b ob q => Heap.get?_push_of_some _ q) (Nat.le_refl _) ?_,rfl,q _ (I.hok.fresh (Nat.le_refl _))⟩
  exact ⟨Nat.le_trans (cutV_length xs lo hi) hz,_,0,(r.drop (HT.sIx xs.length 0 lo)).take (HT.sIx xs.length xs.length hi - HT.sIx xs.length 0 lo),Heap.get?_push_size _ rfl⟩
noncomputable def flatV : V → Bool
  | .non => true
  | .bl _ => true
  | .int _ => true
  | .str _ => true
  | _ => false
noncomputable def eqV : V → V → Bool
  | .non,.non => true
  | .bl a,.bl b => a == b
  | .bl a,.int b => (if a then 1 else 0) == b
  | .int a,.bl b => a == (if b then 1 else 0)
  | .int a,.int b => a == b
  | .str a,.str b => a == b
  | _,_ => false
theorem eqAt_V {A : Around} {s : Shared} {y x : V} {u v : Value} (ry : RelV y u) (rx : RelV x v) (fy : flatV y = true) (fx : flatV x = true) : SeqAt.EqAt A s u v (eqV y x) := by
  cases y with
  | non =>
    cases ry
    cases x with
    | non => cases rx; exact SeqAt.EqAt.same _
    | bl b => cases rx; exact SeqAt.EqAt.none_bool b
    | int b => obtain ⟨t,rfl⟩ := rx; exact SeqAt.EqAt.none_int b t
    | str b => obtain ⟨t,rfl⟩ := rx; exact SeqAt.EqAt.none_str b t
    | _ => exact absurd (show false = true from fx) Bool.false_ne_true
  | bl a =>
    cases ry
    cases x with
    | non => cases rx; exact SeqAt.EqAt.bool_none a
    | bl b => cases rx; exact SeqAt.EqAt.bool_bool a b
    | int b => obtain ⟨t,rfl⟩ := rx; exact SeqAt.EqAt.bool_int a b t
    | str b => obtain ⟨t,rfl⟩ := rx; exact SeqAt.EqAt.bool_str a b t
    | _ => exact absurd (show false = true from fx) Bool.false_ne_true
  | int a =>
    obtain ⟨t',rfl⟩ := ry
    cases x with
    | non => cases rx; exact SeqAt.EqAt.int_none a t'
    | bl b => cases rx; exact SeqAt.EqAt.int_bool a t' b
    | int b => obtain ⟨t,rfl⟩ := rx; exact SeqAt.EqAt.int_int a t' b t
    | str b => obtain ⟨t,rfl⟩ := rx; exact SeqAt.EqAt.int_str a t' b t
    | _ => exact absurd (show false = true from fx) Bool.false_ne_true
  | str a =>
    obtain ⟨t',rfl⟩ := ry
    cases x with
    | non => cases rx; exact SeqAt.EqAt.str_none a t'
    | bl b => cases rx; exact SeqAt.EqAt.str_bool a t' b
    | int b => obtain ⟨t,rfl⟩ := rx; exact SeqAt.EqAt.str_int a t' b t
    | str b => obtain ⟨t,rfl⟩ := rx; exact SeqAt.EqAt.str_str a t' b t
    | _ => exact absurd (show false = true from fx) Bool.false_ne_true
  | _ => exact absurd (show false = true from fy) Bool.false_ne_true
theorem call_list_of : CallR X (.type "list") (fun xs H Q => ∃ p ys,xs = [.ref p] ∧ (SqL X.K H p ys ∨ SqT X.K H p ys) ∧ ∀ l,H l = none → Q (.ref l) (upd H l (.lst ys))) := by
  intro pins s σ H xs us Q I r h
  obtain ⟨p,ys,rfl,hq,q⟩ := h
  obtain ⟨u,rfl,rx⟩ := vals1 r
  cases rx
  have fin : ∀ (its : List Value),Vals ys its → ys.length ≤ sizeLine → ∀ (h' : Heap) (c' : Nat),(∀ b o',s.heap.get? b = some o' → h'.get? b = some o') →
      h'.get? s.heap.objs.size = some { cls := .type "list",dict := none,data := .seq its.toArray c',slots := #[] } → EP X pins σ Q (.ref s.heap.objs.size) { s with heap := h' } := fun its r' hz h' c' kp e =>
    ⟨.ref s.heap.objs.size,_,I.laid (t' := s.toks) kp (Nat.le_refl _) (show ObjOk X.prog X.w _ h' _ (.lst ys) from ⟨hz,its,c',r',e⟩),rfl,q _ (I.hok.fresh (Nat.le_refl _))⟩
  rcases hq with hq | hq
  · obtain ⟨its,r',pl,hz⟩ := I.list hq
    have hlen := r'.length
    obtain ⟨o,ho,hc,n,hd⟩ := pl.isList
    exact call_list_seq p (.inl rfl) ho hc hd (fun h' c' kp e => fin its r' hz h' c' kp e) (by simp only [List.size_toArray] <;> omega)
  · obtain ⟨its,r',pl,hz⟩ := I.tuple hq
    have hlen := r'.length
    obtain ⟨o,ho,hc,n,hd⟩ := pl
    exact call_list_seq p (.inr rfl) ho hc hd (fun h' c' kp e => fin its r' hz h' c' kp e) (by simp only [List.size_toArray] <;> omega)
theorem call_tuple_of : CallR X (.type "tuple") (fun xs H Q => ∃ p ys,xs = [.ref p] ∧ ((SqL X.K H p ys ∧ ∀ l,H l = none → Q (.ref l) (upd H l (.tup ys))) ∨ (SqT X.K H p ys ∧ Q (.ref p) H))) := by
  intro pins s σ H xs us Q I r h
  obtain ⟨p,ys,rfl,h⟩ := h
  obtain ⟨u,rfl,rx⟩ := vals1 r
  cases rx
  rcases h with ⟨hq,q⟩ | ⟨hq,q⟩
  · obtain ⟨its,r',pl,hz⟩ := I.list hq
    have hlen := r'.length
    refine call_tuple_list pl.isList (fun h' kp => ?_) (by simp only [List.size_toArray] <;> omega)
    have I1 : Inv X pins σ H { s with heap := h' } := I.kept (t' := s.toks) kp
    have I2 : Inv X pins σ (upd H h'.objs.size (.tup ys)) { s with heap := h'.push { cls := .type "tuple",data := .seq its.toArray } } :=
      I1.laid (t' := s.toks) (fun b o e => Heap.get?_push_of_some _ e) (Nat.le_refl _) (show ObjOk X.prog X.w _ _ _ (.tup ys) from ⟨hz,its,r',IsTup.new _ _⟩)
    exact ⟨.ref h'.objs.size,_,I2,rfl,q _ (I1.hok.fresh (Nat.le_refl _))⟩
  · obtain ⟨its,r',pl,hz⟩ := I.tuple hq
    exact call_tuple_same pl ⟨.ref p,H,I,rfl,q⟩
noncomputable def tyV (K : PySem.W.Frag) (T : String) (x : V) (H : Hp) : Prop := match x with
  | .str _ => T = "str"
  | .int _ => T = "int"
  | .ref p => (T = "list" ∧ ∃ xs,SqL K H p xs) ∨ (T = "tuple" ∧ ∃ o,K.lookup p = some o ∧ o.cls = .type "tuple" ∧ o.dict = none) ∨
      (T = "dict" ∧ ((∃ kvs,H p = some (.dK kvs)) ∨ ∃ kvs,H p = some (.dT kvs))) ∨ (T = "set" ∧ ∃ S n,H p = some (.set S n))
  | _ => False
theorem tyV_is {pins : List (Addr × Obj)} {σ : St} {H : Hp} {s : Shared} {T : String} {x : V} {v : Value} (I : Inv X pins σ H s) (r : RelV x v) (ty : tyV X.K T x H) :
    s.TypeIs v T ∧ ∀ a,v = .ref a → ∃ ob,s.heap.get? a = some ob ∧ ob.dict = none := by
  cases x with
  | str z =>
    obtain ⟨t,rfl⟩ := r
    cases (show T = "str" from ty)
    exact ⟨typeIs_str s z t,fun _ e => nomatch e⟩
  | int i =>
    obtain ⟨t,rfl⟩ := r
    cases (show T = "int" from ty)
    exact ⟨typeIs_int s i t,fun _ e => nomatch e⟩
  | ref p =>
    cases r
    rcases ty with ⟨rfl,xs,hq⟩ | ⟨rfl,o,hk,hc,hd⟩ | ⟨rfl,hk⟩ | ⟨rfl,S,n,hk⟩
    · obtain ⟨its,_,pl,_⟩ := I.list hq
      refine ⟨pl.isList.typeIs,fun a e => ?_⟩
      cases e
      obtain ⟨o,n,e,c,hd,_⟩ := pl
      exact ⟨o,e,hd⟩
    · refine ⟨⟨o,I.kIn p o hk,hc⟩,fun a e => ?_⟩
      cases e
      exact ⟨o,I.kIn _ o hk,hd⟩
    · have z : ∃ o,s.heap.get? p = some o ∧ o.ExactDict := by
        rcases hk with ⟨kvs,hk⟩ | ⟨kvs,hk⟩
        · obtain ⟨_,_,_,_,o,_,_,e,ex,_⟩ := I.hok p _ hk
          exact ⟨o,e,ex⟩
        · obtain ⟨_,_,_,_,o,_,_,e,ex,_⟩ := I.hok p _ hk
          exact ⟨o,e,ex⟩
      obtain ⟨o,e,ex⟩ := z
      refine ⟨⟨o,e,ex.1⟩,fun a e2 => ?_⟩
      cases e2
      exact ⟨o,e,ex.2.1⟩
    · obtain ⟨o,_,_,_,e,ex,_⟩ := I.hok p _ hk
      refine ⟨⟨o,e,ex.1⟩,fun a e2 => ?_⟩
      cases e2
      exact ⟨o,e,ex.2.1⟩
  | _ => exact False.elim ty
noncomputable def tBM (K : PySem.W.Frag) (T : String) (r : V → List V → Hp → VK → Prop) (to : TE) (t : TA) : TE := fun σ H Q => to σ H fun x H1 => tyV K T x H1 ∧ t σ H1 fun xs H2 => r x xs H2 Q
variable {o e : Expr} {es : List Expr} {to : TE} {t : TA} {name : Str} {apos cpos : Pos} {T id : String} {r : V → List V → Hp → VK → Prop}
theorem pe_bm (pa : PlainAttrs T) (slot : Slot T name id) (hty : typeOf (.builtin id) = pure (.type "method_descriptor")) (hm : MtR X id r) (ho : PE X o to) (ha : PA X (e :: es) t)
    (hbase : attributeBase o name X.env (eval o X.env) = eval o X.env := by rfl)
    (hfew : ((backTo cpos (starEach (e :: es) X.env)).all (fun x => !x.1) && (backToKw cpos (keywordEach [] X.env)).all (fun x => x.1.isSome)
      && decide ((e :: es).length + ([] : List Keyword).length + (if ([] : List Keyword).isEmpty then 0 else 1) < 30)) = true := by rfl)
    (hline : (apos.endLine == cpos.line) = true := by rfl) (hs : starEach (e :: es) X.env = (false,eval e X.env) :: starEach es X.env := by rfl) (hplain : (backTo cpos (starEach es X.env)).any (·.1) = false := by rfl) :
    PE X (.Call (.Attribute o name apos) (e :: es) [] cpos) (tBM X.K T r to t) := by
  intro pins s σ H Q I h
  refine wpAny_Call_method_late hbase hfew hline rfl (thn (ho pins s σ H _ I h) fun v s1 ⟨x,H1,I1,r1,ty,q1⟩ => ?_)
  obtain ⟨h1,h2⟩ := tyV_is I1 r1 ty
  refine ⟨T,id,pa,slot,hty,h1,h2,?_⟩
  have hA := ha cpos pins s1 σ H1 _ I1 q1
  rw [hs] at hA ⊢
  refine Calls.callWith_builtin (by show (false || (backTo cpos (starEach es X.env)).any (·.1)) = false; rw [hplain] <;> rfl) (Calls.evalArgs_plain ?_)
  exact thn hA fun us s2 ⟨vs,H2,I2,r2,q2⟩ => hm pins s2 σ H2 x vs v us Q I2 r1 r2 q2
/- xs.append(e),list.index on a module's tuple .. are MtR facts of 06m -/
end
end L2
namespace L2
open PySem PySem.Spec PyProof.Rows
noncomputable def MtM (X : Cx) (id : String) (r : V → List V → Hp → VK → Prop) : Prop :=
  ∀ (pins : List (Addr × Obj)) (s : Shared) (σ : St) (H : Hp) (x : V) (xs : List V) (v : Value) (us : List Value) (Q : VK),Inv X pins σ H s → RelV x v → Vals xs us → r x xs H Q →
    wpAny (model X.prog X.w) X.A (call (.builtin id) (v :: us)) (EP X pins σ Q) X.xe s
theorem Vals.one {x : V} {us : List Value} (h : Vals [x] us) : ∃ u,us = [u] ∧ RelV x u := by
  cases h with
  | cons r h => cases h; exact ⟨_,rfl,r⟩
theorem Vals.two {x y : V} {us : List Value} (h : Vals [x,y] us) : ∃ u v,us = [u,v] ∧ RelV x u ∧ RelV y v := by
  cases h with
  | cons r h =>
    obtain ⟨v,rfl,q⟩ := Vals.one h
    exact ⟨_,_,rfl,r,q⟩
theorem Vals.reverse {xs : List V} {us : List Value} (h : Vals xs us) : Vals xs.reverse us.reverse := by
  induction h with
  | nil => exact .nil
  | cons r t ih => rw [List.reverse_cons,List.reverse_cons]; exact Vals.append ih (.cons r .nil)
theorem Vals.rep {xs : List V} {us : List Value} (h : Vals xs us) : ∀ k : Nat,Vals (List.replicate k xs).flatten (List.replicate k us).flatten
  | 0 => .nil
  | k + 1 => by
    rw [List.replicate_succ,List.replicate_succ,List.flatten_cons,List.flatten_cons]
    exact Vals.append h (Vals.rep h k)
theorem foldl_rep (its : List Value) : ∀ (k : Nat) (acc : List Value),
    List.foldl (fun x1 x2 => x1 ++ x2) acc.toArray (List.replicate k its.toArray) = (acc ++ (List.replicate k its).flatten).toArray
  | 0,acc => by simp
  | k + 1,acc => by
    have e : acc.toArray ++ its.toArray = (acc ++ its).toArray := by simp
    have e2 : (acc ++ its) ++ (List.replicate k its).flatten = acc ++ (List.replicate (k + 1) its).flatten := by
      rw [List.replicate_succ,List.flatten_cons,List.append_assoc]
    rw [← e2,← foldl_rep its k (acc ++ its),← e,List.replicate_succ,List.foldl_cons]
section
variable {X : Cx} {pins : List (Addr × Obj)} {σ : St} {H : Hp} {s : Shared} {l b : Addr} {xs ys zs : List V}
theorem Inv.lset {its its' : List Value} {n : Nat} {f : Array Value → Array Value} {t' : Nat} (I : Inv X pins σ H s) (hH : H l = some (.lst xs))
    (e : s.heap.get? l = some { cls := .type "list",data := .seq its.toArray n }) (hf : f its.toArray = its'.toArray) (hv : Vals ys its') (hz : ys.length ≤ sizeLine) :
    Inv X pins σ (upd H l (.lst ys)) { s with heap := s.heap.update l (Obj.mapSeq f),toks := t' } := by
  have q := PySem.IsL.update e f
  rw [hf] at q
  refine I.write (x := l) (e := l) (by rw [hH]; exact trivial) (.inl rfl) (fun b' u hb hu => (Heap.get?_update_other s.heap (Obj.mapSeq f) (Ne.symm hb)).trans hu) ⟨_,q⟩ ?_
  exact ⟨hz,its',_,hv,q⟩
theorem Inv.lnew {its : List Value} {t' : Nat} (I : Inv X pins σ H s) (hv : Vals ys its) (hz : ys.length ≤ sizeLine) :
    Inv X pins σ (upd H s.heap.objs.size (.lst ys)) { s with heap := s.heap.push { cls := .type "list",data := .seq its.toArray },toks := t' } :=
  I.laid (fun _ _ q => Heap.get?_push_of_some _ q) (Nat.le_refl _) ⟨hz,its,0,hv,Heap.get?_push_size _ rfl⟩
theorem Inv.fresh (I : Inv X pins σ H s) : H s.heap.objs.size = none := I.hok.fresh (Nat.le_refl _)
theorem Inv.lstM (I : Inv X pins σ H s) (hH : H l = some (.lst xs)) : xs.length ≤ sizeLine ∧ ∃ (its : List Value) (n : Nat),Vals xs its ∧ xs.length = its.length ∧ s.heap.get? l = some { cls := .type "list",data := .seq its.toArray n } := by
  obtain ⟨z,its,n,r,e⟩ := I.hok l _ hH
  exact ⟨z,its,n,r,r.length,e⟩
theorem notLongL {n : Nat} (h : n ≤ sizeLine) : Builtin.List.listTooLong n = false := by
  unfold Builtin.List.listTooLong
  exact decide_eq_false (by omega)
end
section
variable {X : Cx}
inductive SApp (x : V) (vs : List V) (H : Hp) (Q : VK) : Prop | mk (l : Addr) (xs : List V) (y : V) (hx : x = .ref l) (hv : vs = [y]) (hl : H l = some (.lst xs)) (hz : xs.length < sizeLine) (q : Q .non (upd H l (.lst (xs ++ [y]))))
noncomputable def rAppend : V → List V → Hp → VK → Prop := fun x vs H Q => SApp x vs H Q
theorem mt_append : MtM X "list.append" rAppend := by
  intro pins s σ H x vs v us Q I rx rv h
  obtain ⟨l,xs,y,rfl,rfl,hH,hz,q⟩ := h
  cases rx
  obtain ⟨u,rfl,ru⟩ := rv.one
  obtain ⟨z,its,n,r,hl,e⟩ := I.lstM hH
  refine call_meets F.slot_list_append ⟨_,e,rfl⟩ F.entry_list_append (F.args_list_append_2 _ _) (PySem.list_append l its.toArray n u (by rw [List.size_toArray]; omega)) ⟨e,?_⟩
  refine ⟨.non,_,I.lset (its' := its ++ [u]) hH e (by simp) (r.append (.cons ru .nil)) ?_,rfl,q⟩
  rw [List.length_append,List.length_singleton]
  omega
noncomputable def rCat : R2 := fun x y H Q => ∃ l b xs zs,x = .ref l ∧ y = .ref b ∧ H l = some (.lst xs) ∧ H b = some (.lst zs) ∧ xs.length + zs.length ≤ sizeLine ∧ ∀ p,H p = none → Q (.ref p) (upd H p (.lst (xs ++ zs)))
theorem op_cat : OpR X (binaryOp .Add) rCat := by
  intro pins s σ H x y v u Q I rx ry h
  obtain ⟨l,b,xs,zs,rfl,rfl,hH,hB,hz,q⟩ := h
  cases rx
  cases ry
  obtain ⟨z,its,n,r,hl,e⟩ := I.lstM hH
  obtain ⟨z2,its2,n2,r2,hl2,e2⟩ := I.lstM hB
  refine PySem.P.add_list e e2 ?_ (by rw [List.size_toArray,List.size_toArray]; omega)
  have ea : its.toArray ++ its2.toArray = (its ++ its2).toArray := by simp
  rw [ea]
  exact ⟨.ref _,_,I.lnew (t' := s.toks) (r.append r2) (by rw [List.length_append]; omega),rfl,q _ I.fresh⟩
noncomputable def rRep : R2 := fun x y H Q => ∃ l k xs,x = .ref l ∧ y = .int k ∧ H l = some (.lst xs) ∧ -(2 ^ 63) ≤ k ∧ k < 2 ^ 63 ∧ xs.length * k.toNat ≤ sizeLine ∧
  ∀ p,H p = none → Q (.ref p) (upd H p (.lst (List.replicate k.toNat xs).flatten))
theorem len_rep {α : Type} (xs : List α) (k : Nat) : (List.replicate k xs).flatten.length = k * xs.length := by
  induction k with
  | zero => simp
  | succ k ih => rw [List.replicate_succ,List.flatten_cons,List.length_append,ih,Nat.succ_mul,Nat.add_comm]
theorem op_rep : OpR X (binaryOp .Mult) rRep := by
  intro pins s σ H x y v u Q I rx ry h
  obtain ⟨l,k,xs,rfl,rfl,hH,h1,h2,hz,q⟩ := h
  cases rx
  obtain ⟨t,rfl⟩ := ry
  obtain ⟨z,its,n,r,hl,e⟩ := I.lstM hH
  have hlen : its.toArray.size * k.toNat ≤ sizeLine := by rw [List.size_toArray,← hl]; exact hz
  have hcap : ¬ its.toArray.size * k.toNat > (2 ^ 63 - 1) / 8 := by
    have : (sizeLine : Nat) ≤ (2 ^ 63 - 1) / 8 := by decide
    omega
  have hfit : ¬ (!Builtin.List.listFitsIndex k) = true := by
    rw [fitsIndex_both h1 h2]
    exact Bool.false_ne_true
  have hlong : ¬ Builtin.List.listTooLong (its.toArray.size * k.toNat) = true := by
    rw [notLongL hlen]
    exact Bool.false_ne_true
  have hnew : List.foldl (fun x1 x2 => x1 ++ x2) #[] (List.replicate (if its.toArray.isEmpty = true then 0 else k.toNat) its.toArray) = (List.replicate k.toNat its).flatten.toArray := by
    have f0 : ∀ m : Nat,List.foldl (fun x1 x2 => x1 ++ x2) #[] (List.replicate m its.toArray) = (List.replicate m its).flatten.toArray := fun m => by
      have := foldl_rep its m []
      rw [List.nil_append] at this
      exact this
    rw [f0]
    cases its with
    | nil => simp
    | cons a r' => rw [if_neg (by simp)]
  refine wpAny_binaryOp_repeat_ref (T := "list") (U := "int") (by decide) ⟨_,e,rfl⟩ (fun s' => typeIs_int s' k t) noFill_list_mul F.fills_int_mul F.slot_int_rmul repeat_list F.slot_int_index.lookup
    (call_meets F.slot_int_rmul (typeIs_int s k t) F.entry_int_rmul (F.args_int_rmul_2 _ _) (int___rmul___int_list k t l its.toArray n)
      ⟨e,rfl,⟨_,e,rfl⟩,call_meets F.slot_list_mul ⟨_,e,rfl⟩ F.entry_list_mul (F.args_list_mul_2 _ _) (AutoListH.list___mul___list_int_3 l its.toArray n k t hfit hcap hlong) ⟨e,?_⟩⟩)
  rw [hnew]
  exact ⟨.ref _,_,I.lnew (t' := s.toks) (r.rep k.toNat) (by rw [len_rep,Nat.mul_comm]; exact hz),rfl,q _ I.fresh⟩
end
section
variable {prog : Program} {w : World} {A : Around} {E : Value → Shared → Prop} {s : Shared}
end
section
variable {X : Cx}
end
end L2
namespace L2
open PySem PySem.Spec PyProof.Rows
section
variable {κ : Type} [DecidableEq κ]
noncomputable def valV (kvs : List (κ × V)) (k : κ) : Option V := (kvs.find? fun kv => decide (kv.1 = k)).map (·.2)
theorem valV_pos {p : κ × V} {r : List (κ × V)} {k : κ} (e : p.1 = k) : valV (p :: r) k = some p.2 := by simp [valV,List.find?_cons,e]
theorem valV_neg {p : κ × V} {r : List (κ × V)} {k : κ} (e : ¬ p.1 = k) : valV (p :: r) k = valV r k := by simp [valV,List.find?_cons,e]
theorem KV.val {kvs : List (κ × V)} {vs : List (κ × Value)} (r : KV kvs vs) (k : κ) : RelO (valV kvs k) (valueAt vs k) := by
  unfold KV at r
  induction r with
  | nil => exact True.intro
  | @cons p q ps qs h t ih =>
    obtain ⟨h1,h2⟩ := h
    by_cases e : p.1 = k
    · have e' : q.1 = k := h1.symm.trans e
      have b : valueAt (q :: qs) k = some q.2 := by simp [valueAt,List.find?_cons,e']
      rw [valV_pos e,b]; exact h2
    · have e' : ¬ q.1 = k := fun z => e (h1.trans z)
      have b : valueAt (q :: qs) k = valueAt qs k := by simp [valueAt,List.find?_cons,e']
      rw [valV_neg e,b]; exact ih
end
section
variable {P : Program} {w : World} {H : Hp} {h : Heap} {a : Addr}
end
section
variable {X : Cx} {pins : List (Addr × Obj)} {σ : St} {H : Hp} {s : Shared} {a : Addr} {y v : V} {u r : Value} {o : Option V} {A : Around} {E : Value → Shared → Prop}
end
section
variable {X : Cx} {pins : List (Addr × Obj)} {σ : St} {H : Hp} {s : Shared} {a : Addr} {kvs : List (Key × V)} {k : Key} {u : Value} {A : Around} {E : Value → Shared → Prop}
end
section
variable {X : Cx} {o i e value : Expr} {pos pos' tpos : Pos} {td ty tv : TE}
end
section
variable {X : Cx} {pos : Pos}
end
section
variable {X : Cx} {pins : List (Addr × Obj)} {σ : St} {H : Hp} {s : Shared} {a : Addr} {y d : V} {u r : Value} {o : Option V} {A : Around} {E : Value → Shared → Prop}
end
section
variable {X : Cx} {o e f : Expr} {apos cpos : Pos} {td ty tx : TE}
end
section
variable {X : Cx} {pins : List (Addr × Obj)} {σ : St} {H : Hp} {s : Shared} {a : Addr} {kvs : List (Key × V)} {A : Around} {E : Value → Shared → Prop}
end
section
variable {X : Cx} {pins : List (Addr × Obj)} {σ : St} {H : Hp} {s : Shared} {a : Addr} {y : V} {u : Value} {A : Around} {E : Value → Shared → Prop}
end
end L2
namespace Att
open PySem PySem.W PySem.Calls PyProof.Rows
theorem ints_of_wellAll {P : Params} {h : Heap} : ∀ (ns : List Int) (vs : List Value),WellAll P h vs (ns.map WData.int) → IntsAre vs ns := by
  intro ns
  induction ns with
  | nil =>
    intro vs w
    rw [List.map_nil] at w
    cases w
    exact .nil
  | cons n ns ih =>
    intro vs w
    rw [List.map_cons] at w
    cases w with
    | cons a b =>
      cases a
      exact .cons _ _ (ih _ b)
theorem script_of {l : OpenLaw} {n : Nat} (hn : l.most = some n) {P : Params} {h : Heap} {args : List WData} {vals : List Value}
    (hpre : l.row.toRowW.claim.pre args = true) (hwl : WellAll P h vals args) :
    ∃ a vs ns,vals = [Value.ref a] ∧ args = [WData.list (ns.map WData.int)] ∧ h.get? a = some { cls := .type "list",data := .seq vs.toArray } ∧ IntsAre vs ns ∧ ns.length ≤ n := by
  have hsh : WShape.hasAll [] args [.list .int] = true := (pre_splitW hpre).1
  have hc : l.pre.holds [] { args := args } = true := (pre_splitW hpre).2
  obtain ⟨d,r,rfl,h1,h2⟩ := hasAllW_cons hsh
  obtain rfl := hasAllW_nil h2
  obtain ⟨xs,rfl,h3⟩ := hasW_list h1
  obtain ⟨ns,rfl⟩ := items_int h3
  have hlen : ns.length ≤ n := by
    unfold OpenLaw.pre at hc
    have h4 : (WTm.not (.lt (.lit (.int (n : Int))) (.len (.arg 0)))).holds [] { args := [.list (ns.map .int)] } = true := by
      have h4 := (holds_andW hc).1
      rw [hn] at h4
      exact h4
    have h5 := condW_of h4 (w_not (w_lt w_lit (w_len_list (w_arg rfl))))
    rw [List.length_map] at h5
    refine Nat.le_of_not_lt fun q => ?_
    have q' : (n : Int) < ((ns.length : Nat) : Int) := by omega
    first
      | (rw [decide_eq_true q'] at h5; exact absurd h5 (by decide))
      | (simp at h5; omega)
  cases hwl with
  | cons w1 w2 =>
    cases w2
    cases w1 with
    | list ho hall => exact ⟨_,_,ns,rfl,rfl,ho,ints_of_wellAll ns _ hall,hlen⟩
theorem post_true (l : OpenLaw) (args : List WData) : l.row.toRowW.claim.post args (.bool true) args = true :=
  postW_of (r := l.row.toRowW) (X := (true == true))
    (show WShape.has [] (.bool true) .bool = true by first | rfl | decide | simp [WShape.has,WShape.arms,WShape.armsAll])
    (show (WTm.eq .res (.lit (.bool true))).value [] { args := args,res := some (.bool true),after := args } = some (.bool (true == true)) from w_eq_bool (w_res rfl) w_lit) rfl
theorem attach_call {l : OpenLaw} {n : Nat} {q : Program} {loose : List Str} {XP : (Str → Option Value) → Heap → Prop} {YP : World → Heap → Prop} {d : DefRec}
    (hn : l.most = some n) (hdf : d.params.defaults = [])
    (call : ∀ (w : World) (s₀ s₁ : Shared) (mg mb : Str → Option Value) (fa : Addr) (o : Obj) (pm cd doc : Value) (a : Addr) (vs : List Value) (ns : List Int),
      Ground q loose [] XP w s₀ mg mb s₁.heap → YP w s₁.heap →
      s₁.heap.get? fa = some o → o.data = .func (docDef d.name d.params d.body d.scope pm cd doc) → s₁.heap.CodeRec cd d.name → mg d.name = some (.ref fa) →
      s₁.heap.get? a = some { cls := .type "list",data := .seq vs.toArray } → IntsAre vs ns → ns.length ≤ n → s₁.gens = #[] →
      codeAny (model l.prog w) callerA (.call (.ref fa) ⟨[.ref a],[]⟩) (fun r s' => r = .ok (.ret (.bool true)) ∧ OldK s₁.heap s'.heap ∧ s'.os = s₁.os ∧ AllBare s'.gens) s₁) :
    WalkO q loose XP YP l.row.toRowW d [] (fun f vs => PySem.call f vs) := by
  intro w s₀ s₁ mg mb G Y fa o pm cd doc dV kV ho hd hcd hD hmg hg args vals as hpre hlay hrd hwl hlo
  obtain rfl : dV = .none := Dflts.none hD hdf
  obtain rfl : kV = .none := Dflts.noKw hD
  obtain ⟨a,vs,ns,rfl,rfl,hobj,hints,hlen⟩ := script_of hn hpre hwl
  refine enter_call (codeAny_mono (call w s₀ s₁ mg mb fa o pm cd doc a vs ns G Y ho (fd_plain hd) hcd hmg hobj hints hlen hg) fun r s' hq => ?_)
  obtain ⟨rfl,h2,h3,h4⟩ := hq
  exact ⟨.inl ⟨.bool true,.bool true,[],rfl,fun _ => rfl,.bool true,post_true l _,fun _ => ⟨List.Pairwise.nil,fun _ hm => (nomatch hm)⟩⟩,h2,h3,h4⟩
section
variable {prog : Program} {w : World} {A : Around} {E : Value → Shared → Prop} {s : Shared} {K : Frag}
end
end Att
namespace L2
open PySem PySem.Spec PyProof.Rows
theorem vals_ints {vs : List Value} {ns : List Int} (h : IntsAre vs ns) : Vals (ns.map V.int) vs := by
  induction h with
  | nil => exact .nil
  | cons n t h ih => exact .cons ⟨t,rfl⟩ ih
noncomputable def Only (H : Hp) : Prop := ∀ b,H b = none ∨ ∃ o xs,H b = some (.frz o (.lst xs))
theorem law_call {P : Program} {w : World} {K : PySem.W.Frag} {mg mb : Str → Option Value} {CX : CXT} {k : Nat} {fa a : Addr} {fd : FuncData} {x : Str} {sp : Sp} {s₁ : Shared} {vs : List Value} {ns : List Int}
    (KX : K.In s₁.heap) (hns : s₁.heap.Ns mainGlobals mg) (hb : s₁.heap.Ns builtinsNs mb) (hbb : ∀ x : Str,x ≠ "__name__" → mb x = bootBuiltins x) (hlim : s₁.heap.NoLimit) (hdig : s₁.heap.NoDigits) (hg : s₁.gens = #[])
    (ha : s₁.heap.get? a = some { cls := .type "list",data := .seq vs.toArray }) (hi : IntsAre vs ns) (hl : ns.length ≤ sizeLine) (hr : Room k callerA)
    (F : ∀ base : Heap,K.In base → base.Ns mainGlobals mg → FnOk P w K mg base CX k fa fd [x] sp) (hbind : ∀ (s : Shared) (u : Value),BindsTo s fd ⟨[u],[]⟩ [(x,u)])
    (hsp : ∀ H : Hp,Only H → SqL K H a (ns.map V.int) → sp [.ref a] H (fun v _ => v = .bl true) fun _ _ _ => False)
    (hCX : ∀ H e s',CX [] H s₁ (fun _ _ _ => False) e s' → False) :
    codeAny (model P w) callerA (.call (.ref fa) ⟨[.ref a],[]⟩) (fun r s' => r = .ok (.ret (.bool true)) ∧ OldK s₁.heap s'.heap ∧ s'.os = s₁.os ∧ AllBare s'.gens) s₁ := by
  have rv := vals_ints hi
  have lenV := hi.length
  have core : ∀ H : Hp,Only H → SqL K H a (ns.map V.int) → HOk P w H s₁.heap → (∀ b,H b ≠ none → b = a) → (H a ≠ none → K.lookup a = none) →
      codeAny (model P w) callerA (.call (.ref fa) ⟨[.ref a],[]⟩) (fun r s' => r = .ok (.ret (.bool true)) ∧ OldK s₁.heap s'.heap ∧ s'.os = s₁.os ∧ AllBare s'.gens) s₁ := by
    intro H hO hS hok hA hK
    have base_of : ∀ {b : Addr} {o : Obj},s₁.heap.get? b = some o → H b = none → (hidT s₁.heap H).get? b = some o := fun e n => hidT_get e n
    have noA : ∀ {b : Addr} {o : Obj} {es : Array DictEntry} {ep : Nat},s₁.heap.get? b = some o → o.data = .dict es ep → H b = none := fun {b o es ep} e d => by
      cases q : H b with
      | none => rfl
      | some u =>
        have e' : b = a := hA b (by rw [q]; simp)
        subst e'
        rw [ha] at e; cases e
        have d' : Data.seq vs.toArray _ = Data.dict es ep := d
        cases d'
    have nsK : ∀ {b : Addr} {m : Str → Option Value},s₁.heap.Ns b m → (hidT s₁.heap H).Ns b m := fun {b m} ⟨o,es,ep,e,d,r⟩ => ⟨o,es,ep,base_of e (noA e d),d,r⟩
    have hKb : K.In (hidT s₁.heap H) := fun b o e => base_of (KX b o e) (by
      cases q : H b with
      | none => rfl
      | some u =>
        have e' : b = a := hA b (by rw [q]; simp)
        subst e'
        rw [hK (by rw [q]; simp)] at e; cases e)
    have hM : Mod K mg (hidT s₁.heap H) := ⟨hKb,nsK hns,⟨mb,nsK hb,hbb⟩,let ⟨mc,h1,h2⟩ := hlim; ⟨mc,nsK h1,h2⟩,let ⟨mc,h1,h2⟩ := hdig; ⟨mc,nsK h1,h2⟩⟩
    have e0 : Env0 P w K mg (hidT s₁.heap H) callerA [] s₁ H := ⟨rfl,hM,fun b o e => of_hidT e,Nat.le_of_eq (hidT_size _ _),trivial,fun b hb => absurd (show b ∈ ([] : List Addr) from hb) (by simp),hok,.of_eq hg⟩
    refine codeAny_mono ((F _ hKb (nsK hns)).run callerA [] s₁ H ⟨[.ref a],[]⟩ [.ref a] [.ref a] _ _ hr e0 (hbind s₁ (.ref a)) (.cons rfl .nil) (hsp H hO hS)) fun r s' h => ?_
    cases r with
    | error e => exact (hCX H e s' h).elim
    | ok fl =>
      cases fl with
      | next => exact False.elim h
      | brk => exact False.elim h
      | cont => exact False.elim h
      | ret u =>
        obtain ⟨v,H',os,bare,un,hok',r',q⟩ := h
        have q' : v = .bl true := q
        subst q'
        obtain rfl : u = Value.bool true := r'
        refine ⟨rfl,OldK.of_keep fun b o e => ?_,os,bare⟩
        cases q : H b with
        | none => exact un.keep b o e q (by intro z; exact absurd (show b ∈ ([] : List Addr) from z) (by simp)) (by simp)
        | some u =>
          rcases hO b with z | ⟨ob,xs,z⟩
          · rw [q] at z; cases z
          · have z2 := un.frzs b ob _ z
            obtain ⟨e1,_⟩ := hok b _ z
            obtain ⟨e2,_⟩ := hok' b _ z2
            rw [e] at e1; cases e1
            exact e2
  cases hk : K.lookup a with
  | some o =>
    have e := KX a o hk
    rw [ha] at e
    cases e
    refine core (fun _ => none) (fun _ => .inl rfl) (.inr ⟨_,vs.toArray,_,hk,rfl,rfl,rfl,by rw [List.size_toArray,lenV]; exact hl,by simpa using rv⟩) (fun b u z => by have z' : (none : Option HO) = some u := z; cases z') (fun b z => absurd rfl z) fun z => absurd rfl z
  | none =>
    refine core (fun b => if b = a then some (.frz { cls := .type "list",data := .seq vs.toArray } (.lst (ns.map V.int))) else none) (fun b => ?_) (.inl (.inr ⟨{ cls := .type "list",data := .seq vs.toArray },if_pos rfl⟩)) (fun b u z => ?_) (fun b z => ?_) fun _ => hk
    · by_cases hb : b = a
      · exact .inr ⟨_,_,if_pos hb⟩
      · exact .inl (if_neg hb)
    · by_cases hb : b = a
      · have z' := (if_pos hb).symm.trans z
        cases z'
        subst hb
        exact ⟨ha,by rw [List.length_map]; exact hl,vs,_,rv,ha⟩
      · have z' := (if_neg hb).symm.trans z
        cases z'
    · by_cases hb : b = a
      · exact hb
      · exact absurd (if_neg hb) z
end L2
namespace L2
open PySem PySem.Spec PyProof.Rows
theorem walk_of {l : PySem.W.OpenLaw} {n k : Nat} {q : Program} {loose : List Str} {XP : (Str → Option Value) → Heap → Prop} {YP : World → Heap → Prop} {d : DefRec} {K : Params → PySem.W.Frag} {CX : World → CXT} {sp : World → Sp} {x : Str}
    (hn : l.most = some n) (hn2 : n ≤ sizeLine) (hdf : d.params.defaults = []) (hr : Room k callerA)
    (hY : ∀ (w : World) (h : Heap),YP w h → (K w.params).In h)
    (F : ∀ (w : World) (mg : Str → Option Value) (fa : Addr) (h : Heap),(K w.params).In h → h.Ns mainGlobals mg → mg d.name = some (.ref fa) →
      ∃ fd : FuncData,(∀ (s : Shared) (u : Value),BindsTo s fd ⟨[u],[]⟩ [(x,u)]) ∧
        ∀ base : Heap,(K w.params).In base → base.Ns mainGlobals mg → FnOk l.prog w (K w.params) mg base (CX w) k fa fd [x] (sp w))
    (hsp : ∀ (w : World) (H : Hp) (a : Addr) (ns : List Int),ns.length ≤ n → Only H → SqL (K w.params) H a (ns.map V.int) → sp w [.ref a] H (fun v _ => v = .bl true) fun _ _ _ => False)
    (hCX : ∀ (w : World) (H : Hp) (s : Shared) (e : Value) (s' : Shared),CX w [] H s (fun _ _ _ => False) e s' → False) :
    PySem.W.WalkO q loose XP YP l.row.toRowW d [] (fun f vs => PySem.call f vs) := by
  refine Att.attach_call hn hdf fun w s₀ s₁ mg mb fa o pm cd doc a vs ns G Y ho hd hcd hmg hobj hints hlen hg => ?_
  have KX := hY w _ Y
  obtain ⟨fd,hb,hF⟩ := F w mg fa _ KX G.T.g hmg
  exact law_call KX G.T.g G.T.b G.T.builtins G.T.nolimit G.T.nodigits hg hobj hints (Nat.le_trans hlen hn2) hr hF hb (fun H hO hS => hsp w H a ns hlen hO hS) fun H e s' => hCX w H s₁ e s'
end L2
/- THE LAST THEOREM (shape; LID,My.* are yours):
   My.Adr: a structure of the addresses that your layer names (classes,functions); My.Txt K t: a structure (Prop) of the equations over K;
   My.txt_mk : {K} {implicit addresses ..} (e1 : nsIn K mainGlobals "law" = some (some (.ref f))) (e2 : K.lookup f = some ⟨oc,od,.func (fnOf "law" "law" params body scope dV kV doc pm an cdv ct),sl⟩) (e3 : codeIn K cdv "law" = true) .. : ∃ t,My.Txt K t
set_option maxRecDepth 100000 in
set_option maxHeartbeats 0 in
theorem PySem.Challenge.cw_LID_holds : PySem.Challenge.rw_LID.Holds := by
  w_on; o_law; k_head; (case hw => w_witness2)
  k_fill
  refine L2.walk_of (l := PySem.Challenge.rw_LID) (n := 63) (k := 40) (x := "script") (CX := fun w => ..) (sp := fun _ => My.sp_law) rfl (by decide) rfl ⟨rfl,by decide,by decide⟩ (fun w h Y => PySem.W.kIn_of Y) ?F ?S ?C
  case F =>
    intro w mg fa h KX G hmg
    have T : ∃ t,My.Txt (L2.KOf KX) t := by
      dsimp only [L2.KOf]                          -- K must stand as «<heap const> w.params» for k_is
      refine' My.txt_mk ?e1 ?e2 ?e3 ..
      (case e1 => PySem.W.k_is)                    -- in the order: a name -> its address -> its object -> its parts
      (case e2 => PySem.W.k_is)
      ..
    obtain ⟨t,T⟩ := T
    have e0 := hmg.symm.trans (PySem.W.mg_of KX G T.law)
    cases e0                                       -- fa is the law's own address
    exact ⟨_,fun s u => .of_eq rfl,fun base kb nb => My.law_fn T kb nb⟩     -- if «.of_eq rfl» comes too early: refine' ⟨_,?b,fun base kb nb => My.law_fn T kb nb⟩; exact fun s u => .of_eq rfl
  case S => exact fun w H a ns hl hO hS => ..
  case C => exact ..
(the tactic k_is has no namespace: write k_is) -/
namespace L2
open PySem PySem.Spec PyProof.Rows
noncomputable def defArgs (s : Stmt) : Arguments := match s with
  | .FunctionDef _ a _ _ _ _ _ _ _ _ => a
  | _ => { posonlyargs := [],args := [],vararg := none,kwonlyargs := [],kw_defaults := [],kwarg := none,defaults := [] }
noncomputable def defBody (s : Stmt) : List Stmt := match s with
  | .FunctionDef _ _ b _ _ _ _ _ _ _ => b
  | _ => []
noncomputable def defScope (s : Stmt) : Scope := match s with
  | .FunctionDef _ _ _ _ _ _ sc _ _ _ => sc
  | _ => { kind := .function,names := [],isGenerator := false,isCoroutine := false }
noncomputable abbrev E0 : XK := fun _ _ _ => False
structure Fun (K : PySem.W.Frag) (x qual : Str) (st : Stmt) (f : Addr) (fd : FuncData) : Prop where
  ex : ∃ (oc : Value) (od : Option Addr) (kV doc pm : Value) (an : Option Addr) (cdv ct : Value) (osl : Array (Option Value)),
    fd = PySem.W.fnOf x qual (defArgs st) (defBody st) (defScope st) .none kV doc pm an cdv ct ∧ K.lookup f = some ⟨oc,od,.func fd,osl⟩ ∧ PySem.W.codeIn K cdv qual = true
  kp : PySem.W.keepIn K (.ref f) = true
section
variable {P : Program} {w : World} {K : PySem.W.Frag} {mg : Str → Option Value} {base : Heap}
theorem Fun.binds {x qual : Str} {st : Stmt} {f : Addr} {fd : FuncData} {ps : List Str} (F : Fun K x qual st f fd)
    (h : ∀ (kV doc pm : Value) (an : Option Addr) (cdv ct : Value) (us : List Value),us.length = ps.length → bindArgs (PySem.W.fnOf x qual (defArgs st) (defBody st) (defScope st) .none kV doc pm an cdv ct) ⟨us,[]⟩ = pure (ps.zip us)) : Binds K fd ps [] := by
  obtain ⟨oc,od,kV,doc,pm,an,cdv,ct,osl,rfl,lk,hcd⟩ := F.ex
  exact .all (h kV doc pm an cdv ct)
theorem fun_mk {x qual : Str} {st : Stmt} {f : Addr} {oc : Value} {od an : Option Addr} {osl : Array (Option Value)} {kV doc pm cdv ct : Value} (l : K.lookup f = some ⟨oc,od,.func (PySem.W.fnOf x qual (defArgs st) (defBody st) (defScope st) .none kV doc pm an cdv ct),osl⟩)
    (c : PySem.W.codeIn K cdv qual = true) (k : PySem.W.keepIn K (.ref f) = true) : Fun K x qual st f (PySem.W.fnOf x qual (defArgs st) (defBody st) (defScope st) .none kV doc pm an cdv ct) := ⟨⟨oc,od,kV,doc,pm,an,cdv,ct,osl,rfl,l,c⟩,k⟩
end
theorem small1000 {n : Nat} (h : n ≤ 1000) : n < sizeLine := Nat.lt_of_le_of_lt h (by decide)
section
variable {X : Cx}
theorem pv (i : Nat) {x : Str} {pos : Pos} (hN : X.N[i]? = some x := by rfl) (hv : Vis X.env.scope x := by first | exact Or.inl rfl | exact Or.inr (Or.inl rfl) | exact Or.inr (Or.inr rfl)) (hd : (x == ("__debug__" : Str)) = false := by decide)
    (hcd : (x == ("__classdict__" : Str)) = false := by decide) : PE X (.Name x pos) (tVar i) := pe_var hN hv hd hcd
end
theorem iteF {A B : Prop} (h : B) : if false = true then A else B := by
  rw [if_neg Bool.false_ne_true]
  exact h
theorem iteT {A B : Prop} (h : A) : if true = true then A else B := by
  rw [if_pos rfl]
  exact h
theorem ite2 {c A B : Prop} [Decidable c] (h1 : c → A) (h2 : ¬ c → B) : if c then A else B := by
  by_cases h : c
  · rw [if_pos h]
    exact h1 h
  · rw [if_neg h]
    exact h2 h
noncomputable def Same (H H' : Hp) : Prop := ∀ b o,H b = some o → H' b = some o
theorem Same.refl (H : Hp) : Same H H := fun _ _ h => h
theorem Same.trans {H H1 H2 : Hp} (a : Same H H1) (b : Same H1 H2) : Same H H2 := fun c o h => b c o (a c o h)
theorem Same.free {H H' : Hp} (e : Same H H') {l : Addr} (h : H' l = Option.none) : H l = Option.none := by
  cases q : H l with
  | none => rfl
  | some o =>
    rw [e l o q] at h
    cases h
theorem Same.seq {K : PySem.W.Frag} {H H' : Hp} {a : Addr} {xs : List V} (e : Same H H') (h : SqL K H a xs) : SqL K H' a xs := by
  rcases h with (h | ⟨o,h⟩) | h
  · exact .inl (.inl (e _ _ h))
  · exact .inl (.inr ⟨o,e _ _ h⟩)
  · exact .inr h
section
variable {κ : Type} [DecidableEq κ]
end
end L2
namespace L2
open PySem PySem.Spec PyProof.Rows
theorem us0 {us : List Value} (h : us.length = 0) : us = [] := List.eq_nil_of_length_eq_zero h
theorem usS {us : List Value} {n : Nat} (h : us.length = n + 1) : ∃ a r,us = a :: r ∧ r.length = n := by
  cases us with
  | nil => cases h
  | cons a r => exact ⟨a,r,rfl,Nat.succ.inj h⟩
theorem us1 {us : List Value} (h : us.length = 1) : ∃ a,us = [a] := by
  obtain ⟨a,r,rfl,k⟩ := usS h
  obtain rfl := us0 k
  exact ⟨a,rfl⟩
theorem us2 {us : List Value} (h : us.length = 2) : ∃ a b,us = [a,b] := by
  obtain ⟨a,r,rfl,k⟩ := usS h
  obtain ⟨b,rfl⟩ := us1 k
  exact ⟨a,b,rfl⟩
theorem us3 {us : List Value} (h : us.length = 3) : ∃ a b c,us = [a,b,c] := by
  obtain ⟨a,r,rfl,k⟩ := usS h
  obtain ⟨b,c,rfl⟩ := us2 k
  exact ⟨a,b,c,rfl⟩
theorem us4 {us : List Value} (h : us.length = 4) : ∃ a b c d,us = [a,b,c,d] := by
  obtain ⟨a,r,rfl,k⟩ := usS h
  obtain ⟨b,c,d,rfl⟩ := us3 k
  exact ⟨a,b,c,d,rfl⟩
theorem us5 {us : List Value} (h : us.length = 5) : ∃ a b c d e,us = [a,b,c,d,e] := by
  obtain ⟨a,r,rfl,k⟩ := usS h
  obtain ⟨b,c,d,e,rfl⟩ := us4 k
  exact ⟨a,b,c,d,e,rfl⟩
structure Flown (P : Program) (w : World) (outer : List Env) (H : Hp) (s : Shared) (E : XK) (e : Value) (s' : Shared) : Prop where
  ex : ∃ (ea C : Addr) (a0 : Value) (B : Heap) (H' : Hp),e = .ref ea ∧ s'.os = s.os ∧ AllBare s'.gens ∧ Heap.FlyingW B outer ea (.ref C) a0 s'.heap ∧ HOk P w H' B ∧ Un (frs outer) [] H H' s.heap s'.heap ∧
    (∀ b o,s.heap.get? b = some o → b ∈ frs outer ∨ ∃ o',B.get? b = some o') ∧ E (.ref C) none H'
theorem flown_none {P : Program} {w : World} {outer : List Env} {H : Hp} {s s' : Shared} {e : Value} (h : Flown P w outer H s E0 e s') : False := by
  obtain ⟨_,_,_,_,_,_,_,_,_,_,_,_,q⟩ := h.ex
  exact q
theorem passF0 {X : Cx} : Passes (Flown X.prog X.w) X E0 := fun _ _ _ _ _ _ _ h => (flown_none h).elim
section
variable {X : Cx} {pins : List (Addr × Obj)} {σ : St} {H : Hp} {s : Shared}
theorem Inv.notStk (I : Inv X pins σ H s) {b : Addr} {o : Obj} (e : X.s₀.heap.get? b = some o) (hb : b ∉ X.fs) : b ∉ frs X.stack := fun z => by
  rcases List.mem_cons.mp (I.stkSub b z) with q | q
  · exact absurd (Nat.lt_of_lt_of_le (Heap.lt_size e) I.ok.above) (by rw [← q]; exact Nat.lt_irrefl _)
  · exact hb q
theorem hideStk (I : Inv X pins σ H s) {b : Addr} {o : Obj} (e : s.heap.get? b = some o) (hb : b ∉ frs X.stack) : (PySem.W.hideAll s.heap (frs X.stack)).get? b = some o := PySem.W.hideAll_get _ e hb
theorem Inv.hokHid (I : Inv X pins σ H s) : HOk X.prog X.w H (PySem.W.hideAll s.heap (frs X.stack)) := fun b o e =>
  (I.hok b o e).stay (fun c u hc q => hideStk I q fun z => by
    have n := I.stkFree c z
    rcases hc with rfl | hc
    · rw [n] at e; cases e
    · rw [n] at hc; cases hc) (fun _ q => q) fun _ _ q => q
theorem Inv.unTo (I : Inv X pins σ H s) (hex : X.ex = []) {H' : Hp} {h' : Heap} (keep : ∀ b o,s.heap.get? b = some o → H b = none → b ∉ frs X.stack → h'.get? b = some o)
    (slot : ∀ b o,s.heap.get? b = some o → H b = none → b ∈ X.fs → ∃ sl,h'.get? b = some { o with slots := sl }) (free : ∀ b o,s.heap.get? b = some o → H b = none → H' b = none) (there : ∀ b o,s.heap.get? b = some o → ∃ o',h'.get? b = some o')
    (tups : ∀ b xs,H b = some (.tup xs) → H' b = some (.tup xs)) (frzs : ∀ b o u,H b = some (.frz o u) → H' b = some (.frz o u)) (tbls : ∀ b ps,H b = some (.tbl ps) → ∃ more,H' b = some (.tbl (ps ++ more))) :
    Un (frs X.outer) [] X.H₀ H' X.s₀.heap h' := by
  have nx : ∀ b : Addr,b ∉ X.ex := fun b => by rw [hex]; simp
  refine ⟨fun b o e n hb _ => ?_,fun b o e n hb _ => ?_,fun b o e n _ => ?_,fun b o e _ => ?_,fun b xs e => tups b xs (I.base.tups b xs e),fun b o u e => frzs b o u (I.base.frzs b o u e),fun b ps e => ?_⟩
  · exact keep b o (I.base.keep b o e n hb (nx b)) (I.base.free b o e n (nx b)) (I.notStk e hb)
  · obtain ⟨sl,e1⟩ := I.base.slot b o e n hb (nx b)
    obtain ⟨sl',e2⟩ := slot b _ e1 (I.base.free b o e n (nx b)) hb
    exact ⟨sl',e2⟩
  · obtain ⟨o',e1⟩ := I.base.there b o e (nx b)
    exact free b o' e1 (I.base.free b o e n (nx b))
  · obtain ⟨o',e1⟩ := I.base.there b o e (nx b)
    exact there b o' e1
  · obtain ⟨m1,e1⟩ := I.base.tbls b ps e
    obtain ⟨m2,e2⟩ := tbls b _ e1
    exact ⟨m1 ++ m2,by rw [e2,Array.append_assoc]⟩
end
noncomputable abbrev cxF (P : Program) (w : World) (K : PySem.W.Frag) (mg : Str → Option Value) (base : Heap) (N : List Str) (qual : Str) (scope : Scope) (f : Addr) (cdv : Value) (A : Around) (outer : List Env) (s : Shared) (H : Hp) (E : XK) : Cx :=
  cxOf (Flown P w) P w K mg base N qual scope f cdv A outer s H E
section
variable {P : Program} {w : World} {K : PySem.W.Frag} {mg : Str → Option Value} {base : Heap} {N : List Str} {qual : Str} {scope : Scope} {f : Addr} {cdv : Value} {A : Around} {outer : List Env} {s₀ : Shared} {H₀ : Hp} {E : XK}
theorem made_leaves {pins : List (Addr × Obj)} {σ : St} {H : Hp} {s : Shared} {h1 : Heap} {e C : Addr} {vs : List Value} (I : Inv (cxF P w K mg base N qual scope f cdv A outer s₀ H₀ E) pins σ H s) (hx : Heap.MadeExcOf s.heap h1 e (.ref C) vs) (q : E (.ref C) none H) :
    (cxF P w K mg base N qual scope f cdv A outer s₀ H₀ E).xe (.ref e) { s with heap := h1 } := by
  have hin : ∀ env ∈ envOfC qual scope s₀.heap.objs.size f cdv :: outer,∀ a,env.frame = some a → a ∈ frs (envOfC qual scope s₀.heap.objs.size f cdv :: outer) := fun env he a ha => List.mem_filterMap.mpr ⟨env,he,ha⟩
  refine wpAny_leaves_madeW (base := PySem.W.hideAll s.heap (frs (envOfC qual scope s₀.heap.objs.size f cdv :: outer))) (h := s.heap) (L := s₀.heap.objs.size) I.ok.frames rfl (fun b o q => PySem.W.of_hideAll _ q) (PySem.W.funFrames_hide I.stack hin) hx fun h' t x1 x2 x3 x4 => ?_
  have up : ∀ b o,s.heap.get? b = some o → b ∈ frs (envOfC qual scope s₀.heap.objs.size f cdv :: outer) → ∃ sl,h'.get? b = some { o with slots := sl } := fun b o e hb => by
    obtain ⟨_,o',ho',hd⟩ := I.stack.mem hb
    rw [e] at ho'; cases ho'
    exact x4 b o (hx.keeps b o e) hd
  refine ⟨e,C,.ref t,_,H,rfl,I.os,I.bare,x1,I.hokHid,I.unTo rfl (fun b o e _ hb => x1.1 b o (hideStk I e hb)) (fun b o e _ hb => up b o e (List.mem_cons_of_mem _ hb)) (fun _ _ _ n => n) (fun b o e => ?_) (fun _ _ z => z) (fun _ _ _ z => z) (fun b ps z => ⟨#[],by rw [z]; simp⟩),fun b o e => ?_,q⟩
  · by_cases hb : b ∈ frs (envOfC qual scope s₀.heap.objs.size f cdv :: outer)
    · obtain ⟨sl,z⟩ := up b o e hb
      exact ⟨_,z⟩
    · exact ⟨o,x1.1 b o (hideStk I e hb)⟩
  · by_cases hb : b ∈ frs outer
    · exact .inl hb
    · obtain ⟨o',e1⟩ := I.base.there b o e (by intro z; cases z)
      exact .inr ⟨o',hideStk I e1 (I.notStk e hb)⟩
theorem pass_on : Passes (Flown P w) (cxF P w K mg base N qual scope f cdv A outer s₀ H₀ E) E := by
  intro pins σ H s e s' I h
  obtain ⟨ea,C,a0,B,H',rfl,os,bare,fl,hok,un,old,q⟩ := h.ex
  refine wpAny_leaves_onW (L := s₀.heap.objs.size) I.ok.frames rfl fl fun h' x1 x2 => ?_
  have inB : ∀ b o,s.heap.get? b = some o → b ∉ frs (envOfC qual scope s₀.heap.objs.size f cdv :: outer) → ∃ o',B.get? b = some o' ∧ s'.heap.get? b = some o' := fun b o e hb => by
    rcases old b o e with z | ⟨o',z⟩
    · exact absurd z hb
    · exact ⟨o',z,fl.1 b o' z⟩
  have up : ∀ b o,s'.heap.get? b = some o → b ∈ frs (envOfC qual scope s₀.heap.objs.size f cdv :: outer) → ∃ sl,h'.get? b = some { o with slots := sl } := fun b o e hb => by
    obtain ⟨_,o',ho',hd⟩ := fl.2.2.1.mem hb
    rw [e] at ho'; cases ho'
    exact x2 b o e hd
  refine ⟨ea,C,a0,B,H',rfl,os.trans I.os,bare,x1,hok,I.unTo rfl (fun b o e n hb => ?_) (fun b o e n hb => ?_) (fun b o e n => un.free b o e n (by simp)) (fun b o e => ?_) un.tups un.frzs un.tbls,fun b o e => ?_,q⟩
  · obtain ⟨o',e1,e2⟩ := inB b o e hb
    have e3 := un.keep b o e n hb (by simp)
    rw [e2] at e3; cases e3
    exact x1.1 b _ e1
  · obtain ⟨sl,e1⟩ := un.slot b o e n (List.mem_cons_of_mem _ hb) (by simp)
    obtain ⟨sl',e2⟩ := up b _ e1 (List.mem_cons_of_mem _ hb)
    exact ⟨sl',e2⟩
  · by_cases hb : b ∈ frs (envOfC qual scope s₀.heap.objs.size f cdv :: outer)
    · obtain ⟨o',e1⟩ := un.there b o e (by simp)
      obtain ⟨sl,e2⟩ := up b o' e1 hb
      exact ⟨_,e2⟩
    · obtain ⟨o',e1,_⟩ := inB b o e hb
      exact ⟨o',x1.1 b o' e1⟩
  · by_cases hb : b ∈ frs outer
    · exact .inl hb
    · obtain ⟨o',e1⟩ := I.base.there b o e (by intro z; cases z)
      obtain ⟨o2,e2,_⟩ := inB b o' e1 (I.notStk e hb)
      exact .inr ⟨o2,e2⟩
end
noncomputable def tRaise (C : Addr) (E : XK) (t : TA) : TS := fun _ σ H => t σ H fun vs H1 => vs.length ≤ sizeLine ∧ E (.ref C) none H1
structure ExC (mg : Str → Option Value) (base : Heap) (x : Str) (C : Addr) : Prop where
  ex : ∃ bm newId,OwnCls x C bm newId mg base ∧ ∃ (Bn inN : String) (bmN : List Value) (B nid initId : String),ExcBaseFacts Bn newId inN bmN ∧ bm.contains (.type Bn) = true ∧ ExcBaseFacts B nid initId bm
theorem ps_raise {P : Program} {w : World} {K : PySem.W.Frag} {mg : Str → Option Value} {base : Heap} {N : List Str} {qual : Str} {scope : Scope} {f : Addr} {cdv : Value} {A : Around} {outer : List Env} {s₀ : Shared} {H₀ : Hp} {E : XK}
    {x : Str} {C : Addr} {np cpos pos : Pos} {e : Expr} {es : List Expr} {t : TA} (O : ExC mg base x C) (hg : Gl (cxF P w K mg base N qual scope f cdv A outer s₀ H₀ E) x) (ha : PA (cxF P w K mg base N qual scope f cdv A outer s₀ H₀ E) (e :: es) t)
    (hdb : (x == ("__debug__" : Str)) = false := by decide)
    (he : starEach (e :: es) (cxF P w K mg base N qual scope f cdv A outer s₀ H₀ E).env = (false,eval e (cxF P w K mg base N qual scope f cdv A outer s₀ H₀ E).env) :: starEach es (cxF P w K mg base N qual scope f cdv A outer s₀ H₀ E).env := by rfl)
    (hpl : (backTo cpos (starEach es (cxF P w K mg base N qual scope f cdv A outer s₀ H₀ E).env)).any (·.1) = false := by rfl) :
    PS (cxF P w K mg base N qual scope f cdv A outer s₀ H₀ E) (.Raise (some (.Call (.Name x np) (e :: es) [] cpos)) none pos) (tRaise C E t) := by
  intro pins s σ H D I h
  obtain ⟨bm,newId,O,Bn,inN,bmN,B,nid,initId,Fn,hBn,FB⟩ := O.ex
  obtain ⟨tl,Nn,nm,q,bs,hdct,sn,sub,ab,col,dd,k0,k1,k2,k3,k5,mN,hC,hN,hni,T⟩ := O.obj
  refine wpAny_Raise_call_subU (C := C) (nm := nm) (q := q) (N := Nn) (bs := bs) (bm := tl) (hdct := hdct) (sn := sn) (sub := sub) (ab := ab) (col := col) (dd := dd) (k0 := k0) (k1 := k1) (k2 := k2) (k3 := k3) (k5 := k5)
    Fn hBn FB (mN := mN) (T.hasType FB.hasBase) (I.ok.hd rfl) (by rw [he]; show (false || (backTo cpos (starEach es (cxF P w K mg base N qual scope f cdv A outer s₀ H₀ E).env)).any (·.1)) = false; rw [hpl]; rfl) hni (ld_glob I hg O.bound ⟨rfl,?_⟩ hdb)
  have h2 := ha cpos pins s σ H _ I h
  rw [he] at h2 ⊢
  refine Calls.evalArgs_plain (wpAny_mono h2 (fun us s2 ⟨vs,H2,I2,r,z,q⟩ => ⟨rfl,by rw [← r.length]; exact z,I2.bk _ _ hC,hN.keeps I2.bk,T.keeps I2.bk,fun h' e hm => made_leaves I2 hm q⟩) fun _ _ y => y)
theorem Fun.okF {P : Program} {w : World} {K : PySem.W.Frag} {mg : Str → Option Value} {base : Heap} {x qual : Str} {st : Stmt} {f : Addr} {fd : FuncData} {N ps : List Str} {k : Nat} {sp : Sp} (F : Fun K x qual st f fd) (S : FnScope N ps (defScope st)) (len : ∀ vs H Q E,sp vs H Q E → vs.length = ps.length)
    (hbody : ∀ (cdv : Value) (A : Around) (outer : List Env) (s : Shared) (H : Hp) (vs : List V) (Q : VK) (E : XK),Room k (A.deeper (envOfC qual (defScope st) s.heap.objs.size f cdv)) → sp vs H Q E →
      ∃ t,PSs (cxF P w K mg base N qual (defScope st) f cdv A outer s H E) (defBody st) t ∧ t { nx := fun _ H' => Q .non H',rt := Q } (start N vs) H) : FnOk P w K mg base (Flown P w) (k + 1) f fd ps sp := by
  obtain ⟨oc,od,kV,doc,pm,an,cdv,ct,osl,rfl,lk,hcd⟩ := F.ex
  exact fn_of lk hcd S len fun A outer s H vs Q E hr hsp => hbody cdv A outer s H vs Q E hr hsp
theorem Fun.okN {P : Program} {w : World} {K : PySem.W.Frag} {mg : Str → Option Value} {base : Heap} {x qual : Str} {st : Stmt} {f : Addr} {fd : FuncData} {N ps : List Str} {k : Nat} {sp : Sp} (F : Fun K x qual st f fd) (S : FnScope N ps (defScope st)) (len : ∀ vs H Q E,sp vs H Q E → vs.length = ps.length)
    (hbody : ∀ (cdv : Value) (A : Around) (outer : List Env) (s : Shared) (H : Hp) (vs : List V) (Q : VK) (E : XK),Room k (A.deeper (envOfC qual (defScope st) s.heap.objs.size f cdv)) → sp vs H Q E →
      ∃ t,PSs (cxF P w K mg base N qual (defScope st) f cdv A outer s H E).nox (defBody st) t ∧ t { nx := fun _ H' => Q .non H',rt := Q } (start N vs) H) : FnOk P w K mg base (Flown P w) (k + 1) f fd ps sp :=
  F.okF S len fun cdv A outer s H vs Q E hr h => let ⟨t,a,b⟩ := hbody cdv A outer s H vs Q E hr h; ⟨t,a.nox,b⟩
end L2
namespace L2
open PySem PySem.Spec PyProof.Rows
section
variable {X : Cx}
theorem OpR.imp {f : Value → Value → Sem Value} {r r' : R2} (h : OpR X f r) (i : ∀ x y H Q,r' x y H Q → r x y H Q) : OpR X f r' := fun pins s σ H x y v u Q I rx ry q => h pins s σ H x y v u Q I rx ry (i _ _ _ _ q)
theorem IxR.imp {r r' : R2} (h : IxR X r) (i : ∀ x y H Q,r' x y H Q → r x y H Q) : IxR X r' := fun value slice pins s σ H x y v u Q I rx ry q hs => h value slice pins s σ H x y v u Q I rx ry (i _ _ _ _ q) hs
theorem pe_globI {x : Str} {i : Int} {pos : Pos} (hg : Gl X x) (hm : ∃ t,X.mg x = some (.int i t)) (hd : (x == ("__debug__" : Str)) = false := by decide) : PE X (.Name x pos) (tC (.int i)) := by
  obtain ⟨t,e⟩ := hm
  exact pe_glob hg e ⟨t,rfl⟩ hd
theorem pe_tyB {x : Str} {n : String} {pos : Pos} (hg : Gl X x) (hm : X.mg x = none) (hv : bootBuiltins x = some (.type n)) (hn : x ≠ "__name__" := by decide) (hd : (x == ("__debug__" : Str)) = false := by decide) : PE X (.Name x pos) (tC (.ty n)) :=
  pe_bltn hg hm hv (v := .ty n) rfl hn hd
structure Cal (P : Program) (w : World) (K : PySem.W.Frag) (mg : Str → Option Value) (base : Heap) (x : Str) (k : Nat) (ps : List Str) (sp : Sp) : Prop where
  ex : ∃ (g : Addr) (gd : FuncData),mg x = some (.ref g) ∧ PySem.W.keepIn K (.ref g) = true ∧ Binds K gd ps [] ∧ FnOk P w K mg base (Flown P w) k g gd ps sp
theorem pe_callC {x : Str} {k k' : Nat} {ps : List Str} {sp : Sp} {p pos : Pos} {e : Expr} {es : List Expr} {t : TA} (C : Cal X.prog X.w X.K X.mg X.base x k ps sp) (hr : Room k' X.A) (hg : Gl X x) (ha : PA X (e :: es) t)
    (hk : k ≤ k' := by decide) (hd : (x == ("__debug__" : Str)) = false := by decide)
    (he : starEach (e :: es) X.env = (false,eval e X.env) :: starEach es X.env := by rfl) (hpl : (backTo pos (starEach es X.env)).any (·.1) = false := by rfl) : PE X (.Call (.Name x p) (e :: es) [] pos) (tCall sp [] E0 t) := by
  obtain ⟨g,gd,hm,hkp,hb,F⟩ := C.ex
  exact pe_call F (hr.mono hk) hg hm hkp hb .nil passF0 ha hd he hpl
theorem pe_callCF {P : Program} {w : World} {K : PySem.W.Frag} {mg : Str → Option Value} {base : Heap} {N : List Str} {qual : Str} {scope : Scope} {f : Addr} {cdv : Value} {A : Around} {outer : List Env} {s₀ : Shared} {H₀ : Hp} {E : XK}
    {x : Str} {k k' : Nat} {ps : List Str} {sp : Sp} {p pos : Pos} {e : Expr} {es : List Expr} {t : TA} (C : Cal P w K mg base x k ps sp) (hr : Room k' (cxF P w K mg base N qual scope f cdv A outer s₀ H₀ E).A) (hg : Gl (cxF P w K mg base N qual scope f cdv A outer s₀ H₀ E) x)
    (ha : PA (cxF P w K mg base N qual scope f cdv A outer s₀ H₀ E) (e :: es) t) (hk : k ≤ k' := by decide) (hd : (x == ("__debug__" : Str)) = false := by decide)
    (he : starEach (e :: es) (cxF P w K mg base N qual scope f cdv A outer s₀ H₀ E).env = (false,eval e (cxF P w K mg base N qual scope f cdv A outer s₀ H₀ E).env) :: starEach es (cxF P w K mg base N qual scope f cdv A outer s₀ H₀ E).env := by rfl)
    (hpl : (backTo pos (starEach es (cxF P w K mg base N qual scope f cdv A outer s₀ H₀ E).env)).any (·.1) = false := by rfl) :
    PE (cxF P w K mg base N qual scope f cdv A outer s₀ H₀ E) (.Call (.Name x p) (e :: es) [] pos) (tCall sp [] E t) := by
  obtain ⟨g,gd,hm,hkp,hb,F⟩ := C.ex
  exact pe_call (X := cxF P w K mg base N qual scope f cdv A outer s₀ H₀ E) F (hr.mono hk) hg hm hkp hb .nil pass_on ha hd he hpl
theorem cat_tup0 {prog : Program} {w : World} {A : Around} {E : Value → Shared → Prop} {s : Shared} {t b : Addr} {vs ws : List Value} {Q : Value → Shared → Prop} (ht : IsTup s.heap t vs.toArray) (hb : IsTup s.heap b ws.toArray) (hv : vs = [])
    (h1 : Q (.ref b) s) : wpAny (model prog w) A (binaryOp .Add (.ref t) (.ref b)) Q E s := by
  obtain ⟨⟨cls,dd,data,sl⟩,ho,hc,n,hd⟩ := id ht
  obtain ⟨⟨cls2,dd2,data2,sl2⟩,ho2,hc2,n2,hd2⟩ := id hb
  simp only at hc hd hc2 hd2
  subst hc hd hc2 hd2
  exact concat_meets ⟨_,ho,rfl⟩ ⟨_,ho2,rfl⟩ noFill_tuple_add seq_tuple_add PySem.F.slot_tuple_add PySem.F.entry_tuple_add (PySem.F.args_tuple_add_2 _ _)
      (tuple_addW0 t b vs.toArray ws.toArray n n2 dd dd2 sl sl2 (by simp [hv])) ⟨ho,ho2,h1⟩
noncomputable def rCat0 (K : PySem.W.Frag) : R2 := fun x y H Q => ∃ a b ys,x = .ref a ∧ y = .ref b ∧ SqT K H a [] ∧ SqT K H b ys ∧ Q (.ref b) H
theorem op_cat0 : OpR X (binaryOp .Add) (rCat0 X.K) := by
  intro pins s σ H x y v u Q I rx ry h
  obtain ⟨a,b,ys,rfl,rfl,ha,hb,q⟩ := h
  cases rx
  cases ry
  obtain ⟨its,r1,p1,_⟩ := I.tuple ha
  obtain ⟨its2,r2,p2,_⟩ := I.tuple hb
  exact cat_tup0 p1 p2 (r1.nil_iff.mpr rfl) ⟨.ref b,H,I,rfl,q⟩
noncomputable def rAddV (K : PySem.W.Frag) : R2 := fun x y H Q => match x,y with
  | .int i,.int j => Q (.int (i + j)) H
  | .str i,.str j => i.length + j.length ≤ sizeLine ∧ Q (.str (i ++ j)) H
  | .ref a,.ref b => (∃ xs ys,H a = some (.lst xs) ∧ H b = some (.lst ys) ∧ xs.length + ys.length ≤ sizeLine ∧ ∀ p,H p = none → Q (.ref p) (upd H p (.lst (xs ++ ys)))) ∨
      (∃ xs ys,SqT K H a xs ∧ SqT K H b ys ∧ xs.length + ys.length ≤ sizeLine ∧ (xs = [] → Q (.ref b) H) ∧ (xs ≠ [] → ys = [] → Q (.ref a) H) ∧ (xs ≠ [] → ys ≠ [] → ∀ p,H p = none → Q (.ref p) (upd H p (.tup (xs ++ ys)))))
  | _,_ => False
theorem v_add : OpR X (binaryOp .Add) (rAddV X.K) := by
  refine ((op_add.or op_add_str).or (op_cat.or (op_catT.or op_cat0))).imp fun x y H Q h => ?_
  unfold rAddV at h
  split at h
  · exact .inl (.inl ⟨_,_,rfl,rfl,h⟩)
  · exact .inl (.inr ⟨_,_,rfl,rfl,h⟩)
  · rcases h with ⟨xs,ys,h1,h2,h3,h4⟩ | ⟨xs,ys,h1,h2,h3,h4,h5,h6⟩
    · exact .inr (.inl ⟨_,_,xs,ys,rfl,rfl,h1,h2,h3,h4⟩)
    · by_cases hx : xs = []
      · subst hx
        exact .inr (.inr (.inr ⟨_,_,ys,rfl,rfl,h1,h2,h4 rfl⟩))
      · exact .inr (.inr (.inl ⟨_,_,xs,ys,rfl,rfl,h1,h2,hx,h3,h5 hx,h6 hx⟩))
  · exact h.elim
noncomputable def rMulV : R2 := fun x y H Q => match x,y with
  | .int i,.int j => IntMulOk i j ∧ Q (.int (i * j)) H
  | .ref l,.int k => ∃ xs,H l = some (.lst xs) ∧ -(2 ^ 63) ≤ k ∧ k < 2 ^ 63 ∧ xs.length * k.toNat ≤ sizeLine ∧ ∀ p,H p = none → Q (.ref p) (upd H p (.lst (List.replicate k.toNat xs).flatten))
  | _,_ => False
theorem op_mulG : OpR X (binaryOp .Mult) (rI IntMulOk fun i j => .int (i * j)) := opI fun _ _ _ _ _ _ _ hc q => mul_int q hc
theorem v_mul : OpR X (binaryOp .Mult) rMulV := by
  refine (op_mulG.or op_rep).imp fun x y H Q h => ?_
  unfold rMulV at h
  split at h
  · exact .inl ⟨_,_,rfl,rfl,h.1,h.2⟩
  · obtain ⟨xs,h1,h2,h3,h4,h5⟩ := h
    exact .inr ⟨_,_,xs,rfl,rfl,h1,h2,h3,h4,h5⟩
  · exact h.elim
inductive SIx (K : PySem.W.Frag) (p : Addr) (i : Int) (H : Hp) (Q : VK) : Prop | mk (xs : List V) (v : V) (hs : SqL K H p xs ∨ SqT K H p xs) (ha : atI xs i = some v) (q : Q v H)
noncomputable def rIxV (K : PySem.W.Frag) : R2 := fun x y H Q => match x,y with
  | .ref p,.int i => SIx K p i H Q
  | .str z,.int i => ∃ c,z.length ≤ sizeLine ∧ atI z.cps.toList i = some c ∧ Q (.str ⟨#[c]⟩) H
  | _,_ => False
theorem v_ix : IxR X (rIxV X.K) := by
  refine ix_seq.imp fun x y H Q h => ?_
  unfold rIxV at h
  split at h
  · obtain ⟨xs,v,h1 | h1,h2,h3⟩ := h
    · exact .inl ⟨_,xs,_,v,rfl,rfl,h1,h2,h3⟩
    · exact .inr (.inl ⟨_,xs,_,v,rfl,rfl,h1,h2,h3⟩)
  · obtain ⟨c,h1,h2,h3⟩ := h
    exact .inr (.inr ⟨_,_,c,rfl,rfl,h1,h2,h3⟩)
  · exact h.elim
noncomputable def tyNm (H : Hp) : V → Option String
  | .non => some "NoneType"
  | .bl _ => some "bool"
  | .int _ => some "int"
  | .str _ => some "str"
  | .ref a => match H a with
    | some (.lst _) => some "list"
    | some (.frz _ (.lst _)) => some "list"
    | some (.tup _) => some "tuple"
    | some (.dK _) => some "dict"
    | _ => none
  | _ => none
theorem bools_of : ∀ {bs : List Bool} {us : List Value},Vals (bs.map V.bl) us → us = bs.map Value.bool
  | [],_,.nil => rfl
  | b :: bs,_,.cons r t => by
    have e := bools_of (bs := bs) t
    cases (show _ = Value.bool b from r)
    rw [e]; rfl
theorem kept_iter' {s : Shared} {h' : Heap} {o : Obj} (hk : ∀ b x,b ∉ [s.heap.objs.size] → (s.heap.push o).get? b = some x → h'.get? b = some x) : ∀ b x,s.heap.get? b = some x → h'.get? b = some x :=
  fun b x e => hk b x (fun hm => by rw [List.mem_singleton.mp hm] at e; exact Nat.lt_irrefl _ (Heap.lt_size e)) (Heap.get?_push_of_some _ e)
theorem v_sum (hc : X.calm = true) : CallR X (.builtin "sum") (fun xs H Q => ∃ (l : Addr) (ns : List Int),xs = [.ref l] ∧ SqL X.K H l (ns.map V.int) ∧ Q (.int ns.sum) H) := by
  intro pins s σ H xs us Q I r h
  obtain ⟨l,ns,rfl,hl,q⟩ := h
  obtain ⟨u,rfl,ru⟩ := r.one
  cases ru
  obtain ⟨its,rv,pl,hz⟩ := I.list hl
  have hi := intsAre_of rv
  obtain ⟨xs,hx⟩ := hi.allInts.items
  have hl' : s.heap.IsList l (intItems xs) := hx ▸ pl.isList
  refine sum_intListG (I.ok.hd hc) hl' fun h' tk t' hk => ?_
  have e1 : ns = xs.toList.map (·.1) := by
    rw [← nums_intItems,← hx]
    exact (show numsOf its.toArray.toList = ns from hi.numsOf).symm
  have e2 : preSum (numAt xs) xs.size = ns.sum := by
    rw [preSum_eq,List.take_of_length_le (by simp),e1]
  rw [e2]
  exact ⟨.int _,H,I.kept hk,⟨_,rfl⟩,q⟩
noncomputable def iSeq (K : PySem.W.Frag) (tl : TE) : TI := fun σ H R => tl σ H fun x H1 => ∃ a,x = .ref a ∧ (((∃ xs,SqL K H1 a xs) ∧ R (Itl K a) H1) ∨ ((∃ xs,SqT K H1 a xs) ∧ R (Itt K a) H1))
theorem pi_seq {tg l : Expr} {tl : TE} (hl : PE X l tl) : PI X tg l (iSeq X.K tl) := by
  intro pins s σ H R I h
  refine thn (hl pins s σ H _ I h) fun v s1 ⟨x,H1,I1,r1,a,e,q⟩ => ?_
  subst e
  cases r1
  rcases q with ⟨⟨xs,hq⟩,q⟩ | ⟨⟨xs,hq⟩,q⟩
  · have hh : PI X tg l (iList X.K fun σ' H' Q => Q (.ref a) H') → True := fun _ => trivial
    obtain ⟨its,rv,p,hz⟩ := I1.list hq
    refine wpAny_pyIter_list p.isList ?_
    refine ⟨s1.heap.objs.size,[s1.heap.objs.size],_,_,H1,rfl,I1.kept (t' := s1.toks) fun b o e => Heap.get?_push_of_some _ e,turn_list a _,⟨_,Heap.get?_push_size _ rfl,rfl,rfl⟩,fun b hb => ?_,q⟩
    have e : b = s1.heap.objs.size := by simpa using hb
    subst e
    exact I1.fpOk (Nat.le_refl _) (I1.hok.fresh (Nat.le_refl _))
  · obtain ⟨its,rv,p,hz⟩ := I1.tuple hq
    refine wpAny_pyIter_tuple (show s1.heap.IsTuple a its.toArray from p) ?_
    refine ⟨s1.heap.objs.size,[s1.heap.objs.size],_,_,H1,rfl,I1.kept (t' := s1.toks) fun b o e => Heap.get?_push_of_some _ e,turn_tuple a _,⟨_,Heap.get?_push_size _ rfl,rfl,rfl⟩,fun b hb => ?_,q⟩
    have e : b = s1.heap.objs.size := by simpa using hb
    subst e
    exact I1.fpOk (Nat.le_refl _) (I1.hok.fresh (Nat.le_refl _))
end
end L2
namespace L2
open PySem PySem.Spec PyProof.Rows
theorem closure_go {env : Env} : ∀ (names : List (Str × NameKind)) (acc : List (Str × Addr)),(∀ y ∈ names,y.2 = .free → ∃ c,env.cells.lookup y.1 = some c) → (∀ p ∈ acc,env.cells.lookup p.1 = some p.2) →
   ∃ cl,(forIn names acc fun (y : Str × NameKind) (cs : List (Str × Addr)) => match y with | (name,kind) => if (kind == .free) = true then do let a ← cellOf env name; pure (ForInStep.yield ((name,a) :: cs)) else pure (ForInStep.yield cs)) = (pure cl : Sem _) ∧ (∀ p ∈ cl,env.cells.lookup p.1 = some p.2) ∧ (∀ p ∈ acc,p ∈ cl) ∧ ∀ y ∈ names,y.2 = .free → ∃ c,(y.1,c) ∈ cl
  | [],acc,_,ha => ⟨acc,rfl,ha,fun _ h => h,fun _ h => nomatch h⟩
  | (n,k) :: r,acc,hf,ha => by
    have hr : ∀ y ∈ r,y.2 = .free → ∃ c,env.cells.lookup y.1 = some c := fun y hy => hf y (List.mem_cons_of_mem _ hy)
    by_cases hk : k = .free
    · subst hk
      obtain ⟨c,hc⟩ := hf (n,.free) List.mem_cons_self rfl
      obtain ⟨cl,e,h1,h2,h3⟩ := closure_go r ((n,c) :: acc) hr (fun p hp => by
        rcases List.mem_cons.mp hp with rfl | hp
        · exact hc
        · exact ha p hp)
      refine ⟨cl,?_,h1,fun p hp => h2 p (List.mem_cons_of_mem _ hp),fun y hy hyf => ?_⟩
      · rw [List.forIn_cons]
        simp only [beq_self_eq_true,if_true,cellOf,hc,pure_bind]
        exact e
      · rcases List.mem_cons.mp hy with rfl | hy
        · exact ⟨c,h2 _ List.mem_cons_self⟩
        · exact h3 y hy hyf
    · have hb : (k == NameKind.free) = false := by simpa using hk
      obtain ⟨cl,e,h1,h2,h3⟩ := closure_go r acc hr ha
      refine ⟨cl,?_,h1,h2,fun y hy hyf => ?_⟩
      · rw [List.forIn_cons]
        simp only [hb,Bool.false_eq_true,if_false,pure_bind]
        exact e
      · rcases List.mem_cons.mp hy with rfl | hy
        · exact absurd hyf hk
        · exact h3 y hy hyf
theorem closure_ok {env : Env} {scope : Scope} (hf : ∀ y ∈ scope.names,y.2 = .free → ∃ c,env.cells.lookup y.1 = some c) :
    ∃ cl,closureFor scope env = pure cl ∧ (∀ x c,cl.lookup x = some c → env.cells.lookup x = some c) ∧ ∀ y ∈ scope.names,y.2 = .free → ∃ c,cl.lookup y.1 = some c := by
  obtain ⟨cl,e,h1,_,h3⟩ := closure_go (env := env) scope.names [] hf (fun _ h => nomatch h)
  refine ⟨cl,?_,fun x c h => h1 (x,c) (PySem.mem_of_lookup h),fun y hy hyf => ?_⟩
  · unfold closureFor
    simp only [bind_pure_comp] at e ⊢
    rw [e]
    rfl
  · obtain ⟨c,hc⟩ := h3 y hy hyf
    cases q : cl.lookup y.1 with
    | some d => exact ⟨d,rfl⟩
    | none =>
      have z := List.lookup_eq_none_iff.mp q (y.1,c) hc
      simp at z
noncomputable def cEnv (sc : Scope) (cl : List (Str × Addr)) (C : Addr) (env : Env) : Env :=
  { scope := sc,locals := C,globals := env.globals,cells := cl,qual := env.qual,func := none,code := env.code,frame := env.frame,builtins := env.builtins }
noncomputable def cCx (X : Cx) (sc : Scope) (N : List Str) (cl : List (Str × Addr)) (C : Addr) (s₀ : Shared) (H₀ : Hp) (ex : List Addr) : Cx :=
  { X with env := cEnv sc cl C X.env,N := N,s₀ := s₀,H₀ := H₀,outer := X.stack,ex := ex,fn := fun _ => false,pn := [],xe := fun _ _ => False }
noncomputable def cst (ix : List (Option Nat)) (σ : St) : St := ix.map fun o => match o with
  | none => none
  | some i => match σ[i]? with
    | some v => v
    | none => none
noncomputable def PIf (X : Cx) (ifs : List Expr) (t : TT) : Prop :=
  ∀ (pins : List (Addr × Obj)) (s : Shared) (σ : St) (H : Hp) (Q : Bool → Hp → Prop),Inv X pins σ H s → t σ H Q →
    wpAny (model X.prog X.w) X.A (forIn ifs true fun c r => if r = true then do let ok ← isTrue c X.env (eval c X.env); pure (ForInStep.yield ok) else pure (ForInStep.yield r)) (TP X pins σ Q) X.xe s
noncomputable def tYes : TT := fun _ H Q => Q true H
theorem pif_nil {X : Cx} : PIf X [] tYes := fun _ _ _ H _ I h => wpAny_tests_nil ⟨H,I,h⟩
theorem pif_one {X : Cx} {c : Expr} {t : TT} (h : PT X c t) : PIf X [c] t := fun pins s σ H Q I q => wpAny_tests_one (h pins s σ H Q I q)
theorem codeAny_compLoop_any {prog : Program} {w : World} {A : Around} {R : Result → Shared → Prop} {s : Shared} {elt target iter : Expr} {ifs : List Expr} {scope : Scope} {pos : Pos} {it acc : Value} {env : Env} (I : Nat → Shared → Prop)
    (turn : ∀ n s,I n s → wpAny (model prog w) A (pyNext it) (fun r s₁ => match r with
      | none => R (.ok .next) s₁
      | some v => wpAny (model prog w) A (letOwnedTupleGo target it v) (fun _ s₀ => wpAny (model prog w) A (assign target env v) (fun _ s₂ =>
          wpAny (model prog w) A (forIn ifs true fun c r => if r = true then do let ok ← isTrue c env (eval c env); pure (ForInStep.yield ok) else pure (ForInStep.yield r)) (fun ok s₃ =>
            if ok = true then wpAny (model prog w) A (eval elt env) (fun x s₄ =>
              wpAny (model prog w) A (call (.builtin "list.append") [acc,x]) (fun _ s₅ => ∃ m,m < n ∧ I m s₅) (fun _ _ => False) s₄) (fun _ _ => False) s₃
            else ∃ m,m < n ∧ I m s₃) (fun _ _ => False) s₂) (fun _ _ => False) s₀) (fun _ _ => False) s₁) (fun _ _ => False) s)
    (n : Nat) (h : I n s) :
    codeAny (model prog w) A (.compLoop (.ListComp elt [⟨target,iter,ifs,0⟩] scope pos) 0 it acc env) R s := by
  refine codeAny_loop rfl I (fun n s hI => ?_) n h
  show wpAny _ A ((compTurn (.ListComp elt [⟨target,iter,ifs,0⟩] scope pos) 0 it acc env).onRaise (fun x => do noteFrame x env; theTreesLotGoes x)) _ _ s
  refine wpAny_noted ?_
  rw [compTurn_list]
  refine wpAny_bind (wpAny_standAt (wpAny_bind (wpAny_mono (turn n s hI) (fun r s₁ h₁ => ?_) fun _ _ h' => h'.elim)))
  cases r with
  | none => exact wpAny_pure h₁
  | some v =>
    refine wpAny_bind (wpAny_mono h₁ (fun _ s₀ h₀ => ?_) fun _ _ h' => h'.elim)
    refine wpAny_bind (wpAny_mono h₀ (fun _ s₂ h₂ => wpAny_bind (wpAny_mono h₂ (fun ok s₃ h₃ => ?_) fun _ _ h' => h'.elim)) fun _ _ h' => h'.elim)
    cases ok with
    | false => exact wpAny_pure ⟨rfl,h₃⟩
    | true =>
      exact wpAny_bind (wpAny_bind (wpAny_mono h₃ (fun x s₄ h₄ => wpAny_bind (wpAny_mono h₄ (fun _ s₅ h₅ => wpAny_pure (wpAny_pure ⟨rfl,h₅⟩)) fun _ _ h' => h'.elim)) fun _ _ h' => h'.elim))
structure CompK (ix : List (Option Nat)) (g : TG) (tc : TT) (te : TE) (σ : St) (Q : VK) (J : It) (H1 : Hp) : Prop where
  go : ∀ D,H1 D = none → ∃ W : Nat → Nat → St → Hp → Prop,(∃ m,W 0 m (cst ix σ) (upd H1 D (.lst []))) ∧
    ∀ i m σ' H',W i m σ' H' → (J.stop i H' ∧ Q (.ref D) H') ∨ (J.go i H' ∧ ∀ x H2,J.yld i H' x H2 → g x σ' H2 fun σ3 H3 => tc σ3 H3 fun b H4 =>
      if b = true then te σ3 H4 fun y H5 => ∃ ys,H5 D = some (.lst ys) ∧ ys.length < sizeLine ∧ ∃ m',m' < m ∧ W (i + 1) m' σ3 (upd H5 D (.lst (ys ++ [y])))
      else ∃ m',m' < m ∧ W (i + 1) m' σ3 H4)
noncomputable def tComp (ix : List (Option Nat)) (wi : TI) (g : TG) (tc : TT) (te : TE) : TE := fun σ H Q => wi σ H fun J H1 => CompK ix g tc te σ Q J H1
structure CompOk (X : Cx) (scope sc : Scope) (N : List Str) (ix : List (Option Nat)) : Prop where
  rel : relabel scope X.env = sc
  kind : scope.kind = .function
  cell : ∀ y ∈ scope.names,y.2 ≠ .cell
  names : ∀ x ∈ scope.names,x.2 = .local → scope.names.lookup x.1 = some .local
  free : ∀ y ∈ scope.names,y.2 = .free → X.env.kindOf y.1 = some .cell ∨ X.env.kindOf y.1 = some .free
  len : N.length = ix.length
  ix : ∀ (j : Nat) (x : Str) (i : Nat),N[j]? = some x → ix[j]? = some (some i) → X.N[i]? = some x ∧ (x,NameKind.free) ∈ scope.names ∧ (sc.names.lookup x = some .cell ∨ sc.names.lookup x = some .free)
  has : ∀ x,(sc.names.lookup x = some .cell ∨ sc.names.lookup x = some .free) → (x,NameKind.free) ∈ scope.names
theorem comp_core {X : Cx} {tg iter elt : Expr} {ifs : List Expr} {scope sc : Scope} {pos ip : Pos} {wi : TI} {g : TG} {tc : TT} {te : TE} {N : List Str} {ix : List (Option Nat)} (O : CompOk X scope sc N ix) (hc : X.calm = true) (hi : PI X tg iter wi)
    (hb : ∀ cl C s₀ H₀ ex,PG (cCx X sc N cl C s₀ H₀ ex) tg g ∧ PIf (cCx X sc N cl C s₀ H₀ ex) ifs tc ∧ PE (cCx X sc N cl C s₀ H₀ ex) elt te) (hs : ∀ x,foldedSetIterable iter X.env x = pure x)
    {use : Option (Value → Sem Unit)} {QQ : Value → Shared → Prop} {pins : List (Addr × Obj)} {s : Shared} {σ : St} {H : Hp} {Q : VK} (I : Inv X pins σ H s) (h : tComp ix wi g tc te σ H Q)
    (fin : ∀ (D C : Addr) (s6 : Shared) (H5 : Hp) (m : Str → Option Value),Inv X pins σ H5 s6 → s6.heap.Ns C m → FpOk X pins H5 C → Q (.ref D) H5 → compPost (model X.prog X.w) X.A X.xe use QQ (.ref D) C (.ok .next) s6) :
    wpAny (model X.prog X.w) X.A (comprehension (.ListComp elt [⟨tg,iter,ifs,0⟩] scope pos) scope X.env ip (newList []) false (eval iter X.env) use) QQ X.xe s := by
  have hcl : ∃ cl,closureFor scope X.env = pure cl ∧ (∀ x c,cl.lookup x = some c → X.env.cells.lookup x = some c) ∧ ∀ y ∈ scope.names,y.2 = .free → ∃ c,cl.lookup y.1 = some c :=
    closure_ok fun y hy hf => I.ok.has y.1 (O.free y hy hf)
  obtain ⟨cl,ecl,hcl1,hcl2⟩ := hcl
  refine wpAny_comprehension_free (use := use) rfl hs ecl O.kind O.names (thn (hi pins s σ H _ I h) fun v s1 h1 => thn h1 fun itv s2 h2 => ?_)
  obtain ⟨it,fp,tn,J,H2,e,I2,T,st2,f2,q2⟩ := h2
  subst e
  obtain ⟨W,⟨m0,w0⟩,turn⟩ := q2.go s2.heap.objs.size I2.fresh
  refine wpAny_newObj_type ?_
  have I3 := I2.lnew (its := []) (t' := s2.toks) (ys := []) .nil (Nat.zero_le _)
  generalize eH3 : upd H2 s2.heap.objs.size (.lst []) = H3 at I3 w0
  have eD : H3 s2.heap.objs.size = some (.lst []) := by rw [← eH3]; exact upd_same
  have hfp2 : ∀ b ∈ fp,b ≠ s2.heap.objs.size := fun b hb z => by
    obtain ⟨o,ho,_⟩ := T.obj _ _ st2 b hb
    exact absurd (Heap.lt_size ho) (by rw [z]; exact Nat.lt_irrefl _)
  have st3 : tn 0 (s2.heap.push { cls := .type "list",dict := none,data := .seq ([] : List Value).toArray }) := T.keep _ _ _ st2 fun b _ o e => Heap.get?_push_of_some _ e
  have f3 : ∀ b ∈ fp,FpOk X pins H3 b := fun b hb => ⟨by rw [← eH3,upd_ne (hfp2 b hb)]; exact (f2 b hb).1,(f2 b hb).2⟩
  generalize es3 : ({ s2 with heap := s2.heap.push { cls := .type "list",dict := none,data := .seq ([] : List Value).toArray },toks := s2.toks } : Shared) = s3 at I3
  have st3' : tn 0 s3.heap := by rw [← es3]; exact st3
  refine wpAny_newFunctionEnv O.cell (fun y hy => nomatch hy) (fun h4 hns4 hsb4 => ?_) O.kind
  have keep4 : ∀ b o,s3.heap.get? b = some o → h4.get? b = some o := fun b o e => (hsb4.2 b (Nat.ne_of_lt (Heap.lt_size e))).trans (Heap.get?_push_of_some _ e)
  have I4 : Inv X pins σ H3 { s3 with heap := h4,toks := s3.toks + ([] : List (Str × Value)).length } := I3.kept keep4
  have eenv : ({ newEnv scope s3.heap.objs.size X.env.globals cl X.env.qual none .none (some X.env) builtinsNs with scope := relabel scope X.env } : Env) = cEnv sc cl s3.heap.objs.size X.env := by rw [O.rel]; rfl
  rw [eenv]
  show codeAny _ _ _ (compPost (model X.prog X.w) X.A X.xe use QQ (.ref s2.heap.objs.size) s3.heap.objs.size) _
  generalize eC : s3.heap.objs.size = C
  generalize es4 : ({ s3 with heap := h4,toks := s3.toks + ([] : List (Str × Value)).length } : Shared) = s4 at I4
  have h4s : s4.heap = h4 := by rw [← es4]
  have o4s : s4.os = s3.os := by rw [← es4]
  have fC : ∀ b ∈ fp,b ≠ C := fun b hb z => by
    obtain ⟨o,ho,_⟩ := T.obj _ _ st3' b hb
    exact absurd (Heap.lt_size ho) (by rw [z,eC]; exact Nat.lt_irrefl _)
  have okC : (cCx X sc N cl C s3 H3 fp).Ok := by
    refine ⟨I3.ok.mod,?_,I3.ok.glob,I3.ok.blt,Nat.le_of_eq eC,fun x y c h1 h2 => I3.ok.inj x y c (hcl1 x c h1) (hcl1 y c h2),fun x hx => ?_,fun x c z _ => (nomatch z),I3.ok.hd,I3.ok.frames,.inl rfl,fun b hb => ⟨fC b hb,fun x c e => (f3 b hb).2.2.2.2.1 x c (hcl1 x c e)⟩,
      I3.bs,Nat.le_trans I3.ok.bsz I3.sz,fun b o e hb => ?_,fun b hb z => ?_,I3.stack,I3.stkFree⟩
    · show sc.kind = .function
      rw [← O.rel]; exact O.kind
    · exact hcl2 (x,.free) (O.has x hx) rfl
    · rcases (f3 b hb).2.2.2.1 with z | z
      · exact I3.ok.noex b o e z
      · exact absurd (Nat.lt_of_lt_of_le (Heap.lt_size e) (Nat.le_trans I3.ok.bsz z)) (Nat.lt_irrefl _)
    · rcases List.mem_cons.mp (I3.stkSub b z) with z | z
      · exact (f3 b hb).2.1 z
      · exact (f3 b hb).2.2.1 z
  have IC : Inv (cCx X sc N cl C s3 H3 fp) [] (cst ix σ) H3 s4 := by
    refine ⟨okC,o4s,I4.bare,?_,?_,fun x c e => I4.cell x c (hcl1 x c e),?_,fun x c e => I4.freeC x c (hcl1 x c e),fun p hp => (nomatch hp),I4.hok,?_⟩
    · rw [h4s]
      exact Un.kept keep4
    · refine ⟨_,by rw [h4s,← eC]; exact hns4,fun j x v e1 e2 e3 => ?_⟩
      have e2' : (cst ix σ)[j]? = some (some v) := e2
      unfold cst at e2'
      rw [List.getElem?_map] at e2'
      cases q : ix[j]? with
      | none => rw [q] at e2'; cases e2'
      | some o =>
        rw [q] at e2'
        cases o with
        | none => cases e2'
        | some i =>
          obtain ⟨hx,hm,hsc⟩ := O.ix j x i e1 q
          cases q2 : σ[i]? with
          | none => simp [q2] at e2'
          | some w' =>
            simp [q2] at e2'
            subst e2'
            obtain ⟨m,hn,hl⟩ := I4.loc
            have kf := O.free (x,.free) hm rfl
            have vis : Vis X.env.scope x := by
              rcases kf with k | k
              · exact .inr (.inl k)
              · exact .inr (.inr k)
            obtain ⟨u,r,l⟩ := hl i x v hx q2 vis
            refine ⟨u,r,?_⟩
            rcases l with ⟨k,_⟩ | ⟨_,c,e,z⟩
            · rcases kf with k' | k'
              · rw [k] at k'; cases k'
              · rw [k] at k'; cases k'
            · obtain ⟨c',e'⟩ := hcl2 (x,.free) hm rfl
              have := hcl1 x c' e'
              rw [e] at this; cases this
              exact .inr ⟨hsc,c,e',z⟩
    · rw [← eC]
      exact I3.fresh
    · show (cst ix σ).length = N.length
      rw [O.len]; simp [cst]
  have st4 : tn 0 s4.heap := T.keep _ _ _ st3' fun b _ o e => by rw [h4s]; exact keep4 b o e
  have stat : ∀ {H' : Hp},(∀ b ∈ fp,H' b = none) → ∀ b ∈ fp,FpOk (cCx X sc N cl C s3 H3 fp) [] H' b := fun hn b hb =>
    ⟨hn b hb,fC b hb,okC.exfs b hb,.inl hb,fun x c e => (f3 b hb).2.2.2.2.1 x c (hcl1 x c e),fun p hp => (nomatch hp)⟩
  obtain ⟨hg,ht,he⟩ := hb cl C s3 H3 fp
  have loop : codeAny (model X.prog X.w) X.A (.compLoop (.ListComp elt [⟨tg,iter,ifs,0⟩] scope pos) 0 (.ref it) (.ref s2.heap.objs.size) (cEnv sc cl C X.env))
      (compPost (model X.prog X.w) X.A X.xe use QQ (.ref s2.heap.objs.size) C) s4 := by
    refine codeAny_compLoop_any (fun n s' => ∃ i σ' H',Inv (cCx X sc N cl C s3 H3 fp) [] σ' H' s' ∧ tn i s'.heap ∧ (∀ b ∈ fp,H' b = none) ∧ W i n σ' H') ?_ m0 ⟨0,cst ix σ,H3,IC,st4,fun b hb => (f3 b hb).1,w0⟩
    rintro n s5 ⟨i,σ5,H5,I5,st5,fr5,w5⟩
    rcases turn i n σ5 H5 w5 with ⟨stop,qn⟩ | ⟨go,step⟩
    · refine thn (T.done (cCx X sc N cl C s3 H3 fp) rfl rfl rfl hc i [] s5 σ5 H5 (fun _ _ => False) I5 (stat fr5) st5 stop) fun r s6 ⟨hr,I6⟩ => ?_
      subst hr
      obtain ⟨m,hn,_⟩ := id I6.loc
      have I7 : Inv X pins σ H5 s6 := I3.call' (ch := fp) I6.os I6.base I6.hok I6.bare fun b hb => ⟨(f3 b hb).2.2.2.1,(f3 b hb).2.1,(f3 b hb).2.2.2.2.1,(f3 b hb).2.2.2.2.2⟩
      exact fin _ C s6 H5 m I7 hn (I3.fpOk (Nat.le_of_eq eC) I6.free) qn
    · refine thn (T.item (cCx X sc N cl C s3 H3 fp) rfl rfl rfl hc i [] s5 σ5 H5 (fun _ _ => False) I5 (stat fr5) st5 go) fun r s6 ⟨u,hr,h6⟩ => ?_
      subst hr
      refine thn h6 fun _ s7 ⟨x,H7,I7,r7,y7,st7,fr7⟩ => ?_
      have I7' := I7.pinned (stat fr7) (T.obj _ _ st7)
      have again : ∀ {σ9 : St} {H9 : Hp} {s9 : Shared} {m' : Nat},Inv (cCx X sc N cl C s3 H3 fp) ([] ++ pinsAt fp s7.heap) σ9 H9 s9 → m' < n → W (i + 1) m' σ9 H9 →
          ∃ m,m < n ∧ ∃ i σ' H',Inv (cCx X sc N cl C s3 H3 fp) [] σ' H' s9 ∧ tn i s9.heap ∧ (∀ b ∈ fp,H' b = none) ∧ W i m σ' H' := fun {σ9 H9 s9 m'} I9 hm w9 => by
        refine ⟨m',hm,i + 1,σ9,H9,I9.unpinned,T.keep _ _ _ st7 fun b hb o e => (I9.pin (b,o) (List.mem_append_right _ (List.mem_append_right _ (mem_pinsAt hb e)))).1,fun b hb => ?_,w9⟩
        obtain ⟨o,e,d⟩ := T.obj _ _ st7 b hb
        exact (I9.pin (b,o) (List.mem_append_right _ (List.mem_append_right _ (mem_pinsAt hb e)))).2.1
      refine thn (hg _ s7 σ5 H7 x u _ I7' r7 (step x H7 y7)) fun _ s8 ⟨σ8,H8,I8,q8⟩ => ?_
      refine thn (ht _ s8 σ8 H8 _ I8 q8) fun b s9 ⟨H9,I9,q9⟩ => ?_
      cases b with
      | false =>
        rw [if_neg Bool.false_ne_true] at q9
        obtain ⟨m',hm,w9⟩ := q9
        rw [if_neg Bool.false_ne_true]
        exact again I9 hm w9
      | true =>
        rw [if_pos rfl] at q9
        rw [if_pos rfl]
        refine thn (he _ s9 σ8 H9 _ I9 q9) fun y s10 ⟨yv,H10,I10,r10,ys,e10,z10,m',hm,w10⟩ => ?_
        refine thn (mt_append _ s10 σ8 H10 (.ref s2.heap.objs.size) [yv] (.ref s2.heap.objs.size) [y] (fun _ H' => W (i + 1) m' σ8 H') I10 rfl (.cons r10 .nil) ⟨_,ys,yv,rfl,rfl,e10,z10,w10⟩) fun _ s11 ⟨_,H11,I11,_,w11⟩ => ?_
        exact again I11 hm w11
  exact codeAny_compStart_list loop (T.self _ _ _ _ _ st4 loop)
theorem pe_comp {X : Cx} {tg iter elt : Expr} {ifs : List Expr} {scope sc : Scope} {pos : Pos} {wi : TI} {g : TG} {tc : TT} {te : TE} {N : List Str} {ix : List (Option Nat)} (O : CompOk X scope sc N ix) (hc : X.calm = true) (hi : PI X tg iter wi)
    (hb : ∀ cl C s₀ H₀ ex,PG (cCx X sc N cl C s₀ H₀ ex) tg g ∧ PIf (cCx X sc N cl C s₀ H₀ ex) ifs tc ∧ PE (cCx X sc N cl C s₀ H₀ ex) elt te)
    (hs : ∀ x,foldedSetIterable iter X.env x = pure x := by intro _; rfl) : PE X (.ListComp elt [⟨tg,iter,ifs,0⟩] scope pos) (tComp ix wi g tc te) := by
  intro pins s σ H Q I h
  rw [eval_ListComp]
  exact comp_core (use := none) (QQ := EP X pins σ Q) O hc hi hb hs I h fun D C s6 H5 m I7 hn f q => ⟨m,hn,fun h' hs' => ⟨.ref D,H5,I7.turned (it := C) (t' := s6.toks) (fun b o hb e => (hs'.2 b hb).trans e) f.1 f.2.1 f.2.2.2.1 f.2.2.2.2.1 f.2.2.2.2.2,rfl,q⟩⟩
theorem ps_setC {X : Cx} {i : Nat} {y : Str} {py spos : Pos} {tg iter elt : Expr} {ifs : List Expr} {scope sc : Scope} {pos : Pos} {wi : TI} {g : TG} {tc : TT} {te : TE} {N : List Str} {ix : List (Option Nat)} (hN : X.N.Nodup) (hi' : X.N[i]? = some y) (hx : Loc X.env.scope y)
    (O : CompOk X scope sc N ix) (hc : X.calm = true) (hi : PI X tg iter wi)
    (hb : ∀ cl C s₀ H₀ ex,PG (cCx X sc N cl C s₀ H₀ ex) tg g ∧ PIf (cCx X sc N cl C s₀ H₀ ex) ifs tc ∧ PE (cCx X sc N cl C s₀ H₀ ex) elt te)
    (hs : ∀ x,foldedSetIterable iter X.env x = pure x := by intro _; rfl) (hsw : swapsWith (.ListComp elt [⟨tg,iter,ifs,0⟩] scope pos) (some (.Name y py)) spos.line X.env = pure true := by rfl)
    (hf : X.fn y = true ∨ X.env.scope.names.lookup y = some .local := by first | exact .inl rfl | exact .inr rfl | assumption) :
    PS X (.Assign [.Name y py] (.ListComp elt [⟨tg,iter,ifs,0⟩] scope pos) spos) (tAsg (tComp ix wi g tc te) (gName i)) := by
  intro pins s σ H D I h
  rw [exec_Assign_Name_used _ _ _ _ hsw]
  refine wpAny_bind (wpAny_standAt (wpAny_bind ?_))
  show wpAny _ X.A (do let _ ← comprehension (.ListComp elt [⟨tg,iter,ifs,0⟩] scope pos) scope X.env _ (newList []) false (eval iter X.env) (some (assign (.Name y py) X.env))) _ _ s
  refine wpAny_bind (wpAny_mono (comp_core (use := some (assign (.Name y py) X.env)) (QQ := fun _ s' => ∃ σ' H',Inv X pins σ' H' s' ∧ D.nx σ' H') O hc hi hb hs I h fun D1 C s6 H5 m I7 hn f q => ?_) (fun _ s' ⟨σ',H',I',q'⟩ => wpAny_pure (wpAny_pure ⟨σ',H',I',q'⟩)) fun _ _ e => e)
  obtain ⟨o,es,ep,ho,hc1,hc2⟩ := id hn
  have I8 := I7.pinned (fp := [C]) (fun b hb => by
    have e : b = C := by simpa using hb
    subst e; exact f) (fun b hb => by
    have e : b = C := by simpa using hb
    subst e; exact ⟨o,ho,fun v z => by first | (rw [hc1.2] at z; cases z) | (rw [hc2.1] at z; cases z) | (rw [hc1] at z; cases z) | (simp_all)⟩)
  show wpAny _ X.A (assign (.Name y py) X.env (.ref D1)) _ _ _
  refine wpAny_assign_Name (store_ok I8 hN hi' hx (v := .ref D1) rfl (fun s7 I9 => ?_) hf)
  have hC := (I9.pin (C,o) (List.mem_append_right _ (List.mem_append_right _ (mem_pinsAt (by simp) ho)))).1
  refine ⟨m,⟨o,es,ep,hC,hc1,hc2⟩,fun h' hs' => ⟨_,H5,I9.unpinned.turned (it := C) (t' := s7.toks) (fun b o hb e => (hs'.2 b hb).trans e) f.1 f.2.1 f.2.2.2.1 f.2.2.2.2.1 f.2.2.2.2.2,q⟩⟩
end L2
namespace L2
open PySem PySem.Spec PyProof.Rows
mutual
inductive RdD (K : PySem.W.Frag) (H : Hp) : V → PyData → Prop
  | non : RdD K H .non .none
  | bl (b : Bool) : RdD K H (.bl b) (.bool b)
  | int (i : Int) : RdD K H (.int i) (.int i)
  | str (x : Str) : RdD K H (.str x) (.str x)
  | lst {a : Addr} {xs : List V} {ds : List PyData} : SqL K H a xs → RdDs K H xs ds → RdD K H (.ref a) (.list ds)
  | tup {a : Addr} {xs : List V} {ds : List PyData} : SqT K H a xs → RdDs K H xs ds → RdD K H (.ref a) (.tuple ds)
inductive RdDs (K : PySem.W.Frag) (H : Hp) : List V → List PyData → Prop
  | nil : RdDs K H [] []
  | cons {x : V} {d : PyData} {xs : List V} {ds : List PyData} : RdD K H x d → RdDs K H xs ds → RdDs K H (x :: xs) (d :: ds)
end
section
variable {X : Cx} {pins : List (Addr × Obj)} {σ : St} {H : Hp} {s : Shared}
mutual
theorem Inv.reads (I : Inv X pins σ H s) : ∀ {x : V} {d : PyData} {u : Value},RdD X.K H x d → RelV x u → ∃ as,Reads s.heap u d as
  | _,_,_,.non,r => by cases r; exact ⟨_,.none⟩
  | _,_,_,.bl b,r => by cases r; exact ⟨_,.bool b⟩
  | _,_,_,.int i,r => by obtain ⟨t,rfl⟩ := r; exact ⟨_,.int i t⟩
  | _,_,_,.str x,r => by obtain ⟨t,rfl⟩ := r; exact ⟨_,.str x t⟩
  | _,_,_,.lst hq hs,r => by
    cases r
    obtain ⟨its,rv,pl,_⟩ := I.list hq
    obtain ⟨as,ra⟩ := Inv.readsAll I hs rv
    obtain ⟨o,ho,hc,n,hd⟩ := pl.isList
    exact ⟨_,.list ho hc hd (by simpa using ra)⟩
  | _,_,_,.tup hq hs,r => by
    cases r
    obtain ⟨its,rv,pl,_⟩ := I.tuple hq
    obtain ⟨as,ra⟩ := Inv.readsAll I hs rv
    obtain ⟨o,ho,hc,n,hd⟩ := pl
    exact ⟨_,.tuple ho hc hd (by simpa using ra)⟩
theorem Inv.readsAll (I : Inv X pins σ H s) : ∀ {xs : List V} {ds : List PyData} {us : List Value},RdDs X.K H xs ds → Vals xs us → ∃ as,ReadsAll s.heap us ds as
  | _,_,_,.nil,.nil => ⟨_,.nil⟩
  | _,_,_,.cons h1 h2,.cons r1 r2 => by
    obtain ⟨as,a⟩ := Inv.reads I h1 r1
    obtain ⟨bs,b⟩ := Inv.readsAll I h2 r2
    exact ⟨_,.cons a b⟩
end
theorem RdDs.ints {K : PySem.W.Frag} {H : Hp} : ∀ ns : List Int,RdDs K H (ns.map V.int) (ns.map PyData.int)
  | [] => .nil
  | n :: r => .cons (.int n) (RdDs.ints r)
noncomputable def dictHits (kb : List (Key × V)) : List (Key × V) → Bool
  | [] => true
  | (k,v) :: r => match valV kb k with
    | none => false
    | some y => eqV v y && dictHits kb r
theorem hits_of {A : Around} {kb : List (Key × V)} {vb : List (Key × Value)} (hb : KV kb vb) (fb : kb.all (fun p => flatV p.2) = true) : ∀ {ka : List (Key × V)} {va : List (Key × Value)},KV ka va → ka.all (fun p => flatV p.2) = true →
    PySem.W.KeqHits A s vb va (dictHits kb ka)
  | [],_,.nil,_ => .nil
  | (k,v) :: r,(k',v') :: r',.cons ⟨e,rv⟩ t,f => by
    cases (show k = k' from e)
    rw [List.all_cons,Bool.and_eq_true] at f
    have hv := KV.val hb k
    cases q : valV kb k with
    | none =>
      have hn : valueAt vb k = none := RelO.none_of (by rw [q] at hv; exact hv)
      have e2 : dictHits kb ((k,v) :: r) = false := by simp [dictHits,q]
      rw [e2]
      exact .miss hn
    | some y =>
      rw [q] at hv
      obtain ⟨u,hu,ru⟩ := RelO.some_of hv
      have fy : flatV y = true := by
        unfold valV at q
        cases q2 : kb.find? (fun kv => decide (kv.1 = k)) with
        | none => rw [q2] at q; cases q
        | some p =>
          rw [q2] at q; cases q
          exact List.all_eq_true.mp fb p (List.mem_of_find?_eq_some q2)
      have e2 : dictHits kb ((k,v) :: r) = (eqV v y && dictHits kb r) := by simp [dictHits,q]
      rw [e2]
      exact .hit hu (eqAt_V rv ru f.1 fy) (hits_of hb fb t f.2)
end
section
variable {X : Cx}
noncomputable def rEqV (K : PySem.W.Frag) (g : Bool → Bool) : R2 := fun x y H Q => match x,y with
  | .int i,.int j => Q (.bl (g (decide (i = j)))) H
  | .bl i,.bl j => Q (.bl (g (decide (i = j)))) H
  | .str i,.str j => Q (.bl (g (decide (i = j)))) H
  | .non,.non => Q (.bl (g true)) H
  | .ref a,.ref b => (∃ d e,RdD K H (.ref a) d ∧ RdD K H (.ref b) e ∧ SeqAt.shaped d = true ∧ SeqAt.shaped e = true ∧ Q (.bl (g (PyData.eqv d e))) H) ∨
      (∃ ka kb,H a = some (.dK ka) ∧ H b = some (.dK kb) ∧ ka.all (fun p => flatV p.2) = true ∧ kb.all (fun p => flatV p.2) = true ∧ Q (.bl (g (ka.length == kb.length && dictHits kb ka))) H)
  | .non,.ref _ => False
  | .ref _,.non => False
  | x,y => scal x y = true ∧ Q (.bl (g (decide (x = y)))) H
theorem op_eqD {k : Nat} (hr : Room k X.A) : OpR X (compareOp .Eq) (fun x y H Q => ∃ d e,RdD X.K H x d ∧ RdD X.K H y e ∧ SeqAt.shaped d = true ∧ SeqAt.shaped e = true ∧ Q (.bl (PyData.eqv d e)) H) := by
  intro pins s σ H x y v u Q I rx ry h
  obtain ⟨d,e,h1,h2,h3,h4,q⟩ := h
  obtain ⟨as,ra⟩ := I.reads h1 rx
  obtain ⟨bs,rb⟩ := I.reads h2 ry
  exact eq_dataH ra rb h3 h4 hr.units ⟨.bl _,H,I,rfl,q⟩
theorem op_neD {k : Nat} (hr : Room k X.A) : OpR X (compareOp .NotEq) (fun x y H Q => ∃ d e,RdD X.K H x d ∧ RdD X.K H y e ∧ SeqAt.shaped d = true ∧ SeqAt.shaped e = true ∧ Q (.bl (!PyData.eqv d e)) H) := by
  intro pins s σ H x y v u Q I rx ry h
  obtain ⟨d,e,h1,h2,h3,h4,q⟩ := h
  obtain ⟨as,ra⟩ := I.reads h1 rx
  obtain ⟨bs,rb⟩ := I.reads h2 ry
  exact ne_dataH ra rb h3 h4 hr.units ⟨.bl _,H,I,rfl,q⟩
theorem op_eqK {k : Nat} (hr : Room k X.A) : OpR X (compareOp .Eq) (fun x y H Q => ∃ a b ka kb,x = .ref a ∧ y = .ref b ∧ H a = some (.dK ka) ∧ H b = some (.dK kb) ∧ ka.all (fun p => flatV p.2) = true ∧ kb.all (fun p => flatV p.2) = true ∧ Q (.bl (ka.length == kb.length && dictHits kb ka)) H) := by
  intro pins s σ H x y v u Q I rx ry h
  obtain ⟨a,b,ka,kb,rfl,rfl,h1,h2,h3,h4,q⟩ := h
  cases rx; cases ry
  obtain ⟨_,ea,va,ra,da⟩ : ka.length ≤ sizeLine ∧ (a == sysModules) = false ∧ ∃ vs,KV ka vs ∧ s.heap.DictOf (mixKind X.prog X.w) a vs := I.hok a _ h1
  obtain ⟨_,eb,vb,rb,db⟩ : kb.length ≤ sizeLine ∧ (b == sysModules) = false ∧ ∃ vs,KV kb vs ∧ s.heap.DictOf (mixKind X.prog X.w) b vs := I.hok b _ h2
  refine PySem.W.keq_eq ea eb da db hr.units0 (fun _ => hits_of rb h4 ra h3) ⟨.bl _,H,I,?_,q⟩
  show _ = Value.bool _
  rw [Paired.length ra,Paired.length rb]
theorem op_neK {k : Nat} (hr : Room k X.A) : OpR X (compareOp .NotEq) (fun x y H Q => ∃ a b ka kb,x = .ref a ∧ y = .ref b ∧ H a = some (.dK ka) ∧ H b = some (.dK kb) ∧ ka.all (fun p => flatV p.2) = true ∧ kb.all (fun p => flatV p.2) = true ∧ Q (.bl (!(ka.length == kb.length && dictHits kb ka))) H) := by
  intro pins s σ H x y v u Q I rx ry h
  obtain ⟨a,b,ka,kb,rfl,rfl,h1,h2,h3,h4,q⟩ := h
  cases rx; cases ry
  obtain ⟨_,ea,va,ra,da⟩ : ka.length ≤ sizeLine ∧ (a == sysModules) = false ∧ ∃ vs,KV ka vs ∧ s.heap.DictOf (mixKind X.prog X.w) a vs := I.hok a _ h1
  obtain ⟨_,eb,vb,rb,db⟩ : kb.length ≤ sizeLine ∧ (b == sysModules) = false ∧ ∃ vs,KV kb vs ∧ s.heap.DictOf (mixKind X.prog X.w) b vs := I.hok b _ h2
  refine PySem.W.keq_ne ea eb da db hr.units0 (fun _ => hits_of rb h4 ra h3) ⟨.bl _,H,I,?_,q⟩
  show _ = Value.bool _
  rw [Paired.length ra,Paired.length rb]
theorem dec_i {i j : Int} : decide (V.int i = V.int j) = decide (i = j) := by simp
theorem dec_b {i j : Bool} : decide (V.bl i = V.bl j) = decide (i = j) := by simp
theorem dec_s {i j : Str} : decide (V.str i = V.str j) = decide (i = j) := by simp
theorem v_eq {k : Nat} (hr : Room k X.A) : OpR X (compareOp .Eq) (rEqV X.K id) := by
  refine (op_eq.or ((op_eqD hr).or (op_eqK hr))).imp fun x y H Q h => ?_
  unfold rEqV at h
  split at h
  · exact .inl ⟨rfl,by rw [dec_i]; exact h⟩
  · exact .inl ⟨rfl,by rw [dec_b]; exact h⟩
  · exact .inl ⟨rfl,by rw [dec_s]; exact h⟩
  · exact .inl ⟨rfl,by rw [decide_eq_true rfl]; exact h⟩
  · rcases h with ⟨d,e,h⟩ | ⟨ka,kb,h⟩
    · exact .inr (.inl ⟨d,e,h⟩)
    · exact .inr (.inr ⟨_,_,ka,kb,rfl,rfl,h⟩)
  · exact h.elim
  · exact h.elim
  · exact .inl h
theorem v_ne {k : Nat} (hr : Room k X.A) : OpR X (compareOp .NotEq) (rEqV X.K not) := by
  refine (op_ne.or ((op_neD hr).or (op_neK hr))).imp fun x y H Q h => ?_
  unfold rEqV at h
  split at h
  · exact .inl ⟨rfl,by rw [dec_i]; exact h⟩
  · exact .inl ⟨rfl,by rw [dec_b]; exact h⟩
  · exact .inl ⟨rfl,by rw [dec_s]; exact h⟩
  · exact .inl ⟨rfl,by rw [decide_eq_true rfl]; exact h⟩
  · rcases h with ⟨d,e,h⟩ | ⟨ka,kb,h⟩
    · exact .inr (.inl ⟨d,e,h⟩)
    · exact .inr (.inr ⟨_,_,ka,kb,rfl,rfl,h⟩)
  · exact h.elim
  · exact h.elim
  · exact .inl h
end
end L2
namespace PySem.SeqAt
open AutoSeq1 (wpAny_loadPart')
open MeetsSeq MeetsSeq2 MeetsSeq3 SeqRoads2
section
variable {A : Around} {s : Shared}
end
end PySem.SeqAt
namespace L2
open PySem PySem.Spec PyProof.Rows
section
variable {X : Cx}
end
theorem boot_isinstance : bootBuiltins "isinstance" = some (.builtin "isinstance") := by decide +kernel
theorem boot_abs : bootBuiltins "abs" = some (.builtin "abs") := by decide +kernel
theorem boot_sum : bootBuiltins "sum" = some (.builtin "sum") := by decide +kernel
theorem boot_max : bootBuiltins "max" = some (.builtin "max") := by decide +kernel
theorem boot_int : bootBuiltins "int" = some (.type "int") := by decide +kernel
theorem boot_tuple : bootBuiltins "tuple" = some (.type "tuple") := by decide +kernel
theorem boot_list : bootBuiltins "list" = some (.type "list") := by decide +kernel
structure Fn (K : PySem.W.Frag) (mg : Str → Option Value) (x : Str) (st : Stmt) (ps : List Str) : Prop where
  ex : ∃ (f : Addr) (fd : FuncData),Fun K x x st f fd ∧ mg x = some (.ref f) ∧ Binds K fd ps []
theorem Fn.cal {P : Program} {w : World} {K : PySem.W.Frag} {mg : Str → Option Value} {base : Heap} {x : Str} {st : Stmt} {N ps : List Str} {k : Nat} {sp : Sp} (F : Fn K mg x st ps) (S : FnScope N ps (defScope st)) (len : ∀ vs H Q E,sp vs H Q E → vs.length = ps.length)
    (hbody : ∀ (f : Addr) (cdv : Value) (A : Around) (outer : List Env) (s : Shared) (H : Hp) (vs : List V) (Q : VK) (E : XK),Room k (A.deeper (envOfC x (defScope st) s.heap.objs.size f cdv)) → sp vs H Q E →
      ∃ t,PSs (cxF P w K mg base N x (defScope st) f cdv A outer s H E).nox (defBody st) t ∧ t { nx := fun _ H' => Q .non H',rt := Q } (start N vs) H) : Cal P w K mg base x (k + 1) ps sp := by
  obtain ⟨f,fd,F,m,b⟩ := F.ex
  exact ⟨f,fd,m,F.kp,b,F.okN S len fun cdv A outer s H vs Q E hr h => hbody f cdv A outer s H vs Q E hr h⟩
theorem Fn.calF {P : Program} {w : World} {K : PySem.W.Frag} {mg : Str → Option Value} {base : Heap} {x : Str} {st : Stmt} {N ps : List Str} {k : Nat} {sp : Sp} (F : Fn K mg x st ps) (S : FnScope N ps (defScope st)) (len : ∀ vs H Q E,sp vs H Q E → vs.length = ps.length)
    (hbody : ∀ (f : Addr) (cdv : Value) (A : Around) (outer : List Env) (s : Shared) (H : Hp) (vs : List V) (Q : VK) (E : XK),Room k (A.deeper (envOfC x (defScope st) s.heap.objs.size f cdv)) → sp vs H Q E →
      ∃ t,PSs (cxF P w K mg base N x (defScope st) f cdv A outer s H E) (defBody st) t ∧ t { nx := fun _ H' => Q .non H',rt := Q } (start N vs) H) : Cal P w K mg base x (k + 1) ps sp := by
  obtain ⟨f,fd,F,m,b⟩ := F.ex
  exact ⟨f,fd,m,F.kp,b,F.okF S len fun cdv A outer s H vs Q E hr h => hbody f cdv A outer s H vs Q E hr h⟩
theorem Same.new {H : Hp} {p : Addr} (h : H p = none) (o : HO) : Same H (upd H p o) := fun b u q => by rw [upd_ne (ne_of_none q h)]; exact q
theorem Same.upd {H H' : Hp} {p : Addr} (g : Same H H') (h : H p = none) (o : HO) : Same H (L2.upd H' p o) := fun b u q => by rw [upd_ne (ne_of_none q h)]; exact g b u q
theorem Same.seqT {K : PySem.W.Frag} {H H' : Hp} {a : Addr} {xs : List V} (e : Same H H') (h : SqT K H a xs) : SqT K H' a xs := by
  rcases h with (h | ⟨o,h⟩) | h
  · exact .inl (.inl (e _ _ h))
  · exact .inl (.inr ⟨o,e _ _ h⟩)
  · exact .inr h
theorem mulL {i j : Int} (h1 : -(2 ^ 64) < i) (h2 : i < 2 ^ 64) : IntMulOk i j := .of_left (intBits_le_64 h1 h2)
theorem mulR {i j : Int} (h1 : -(2 ^ 64) < j) (h2 : j < 2 ^ 64) : IntMulOk i j := .of_right (intBits_le_64 h1 h2)
theorem comp_mk {X : Cx} {scope sc : Scope} {N : List Str} {ix : List (Option Nat)} (sc' : relabel scope X.env = sc) (kind : scope.kind = .function) (cell : scope.names.all (fun y => y.2 != .cell) = true)
    (names : scope.names.all (fun x => x.2 != .local || scope.names.lookup x.1 == some .local) = true)
    (free : scope.names.all (fun y => y.2 != .free || (X.env.scope.names.lookup y.1 == some .cell || X.env.scope.names.lookup y.1 == some .free)) = true)
    (len : N.length = ix.length)
    (hix : (N.zip ix).all (fun p => match p.2 with
      | none => true
      | some i => X.N[i]? == some p.1 && scope.names.any (fun y => y.1 == p.1 && y.2 == .free) && (sc.names.lookup p.1 == some .cell || sc.names.lookup p.1 == some .free)) = true)
    (has : sc.names.all (fun y => (y.2 != .cell && y.2 != .free) || scope.names.any (fun z => z.1 == y.1 && z.2 == .free)) = true) : CompOk X scope sc N ix := by
  have mem : ∀ x : Str,scope.names.any (fun y => y.1 == x && y.2 == .free) = true → (x,NameKind.free) ∈ scope.names := fun x h => by
    obtain ⟨y,hy,e⟩ := List.any_eq_true.mp h
    rw [Bool.and_eq_true] at e
    obtain ⟨a,b⟩ := y
    have e1 : a = x := eq_of_beq e.1
    have e2 : b = .free := eq_of_beq e.2
    subst e1; subst e2
    exact hy
  refine ⟨sc',kind,fun y hy e => ?_,fun x hx e => ?_,fun y hy e => ?_,len,fun j x i h1 h2 => ?_,fun x hx => ?_⟩
  · have := List.all_eq_true.mp cell y hy
    rw [e] at this; cases this
  · have := List.all_eq_true.mp names x hx
    rw [e] at this
    simpa using this
  · have := List.all_eq_true.mp free y hy
    rw [e] at this
    simpa [Env.kindOf] using this
  · have hm : (x,some i) ∈ N.zip ix := by
      have : (N.zip ix)[j]? = some (x,some i) := by
        rw [List.getElem?_zip_eq_some]
        exact ⟨h1,h2⟩
      exact List.mem_of_getElem? this
    have := List.all_eq_true.mp hix _ hm
    simp only [Bool.and_eq_true] at this
    obtain ⟨⟨a1,a2⟩,a3⟩ := this
    refine ⟨eq_of_beq a1,mem x a2,?_⟩
    rw [Bool.or_eq_true] at a3
    rcases a3 with z | z
    · exact .inl (eq_of_beq z)
    · exact .inr (eq_of_beq z)
  · have hm : ∃ k,(x,k) ∈ sc.names ∧ (k = .cell ∨ k = .free) := by
      rcases hx with z | z
      · exact ⟨_,PySem.mem_of_lookup z,.inl rfl⟩
      · exact ⟨_,PySem.mem_of_lookup z,.inr rfl⟩
    obtain ⟨k,hk,e⟩ := hm
    have := List.all_eq_true.mp has _ hk
    rw [Bool.or_eq_true] at this
    rcases this with z | z
    · rcases e with e | e <;> (subst e; simp at z)
    · exact mem x z
end L2
namespace L2
open PySem PySem.Spec PyProof.Rows
structure FnIn (K : PySem.W.Frag) (x : Str) (st : Stmt) : Prop where
  ex : ∃ (f : Addr) (oc : Value) (od : Option Addr) (kV doc pm : Value) (an : Option Addr) (cdv ct : Value) (sl : Array (Option Value)),PySem.W.nsIn K mainGlobals x = some (some (.ref f)) ∧
    K.lookup f = some ⟨oc,od,.func (PySem.W.fnOf x x (defArgs st) (defBody st) (defScope st) .none kV doc pm an cdv ct),sl⟩ ∧ PySem.W.codeIn K cdv x = true ∧ PySem.W.keepIn K (.ref f) = true
theorem fnIn_mk {K : PySem.W.Frag} {x : Str} {st : Stmt} {f : Addr} {oc : Value} {od : Option Addr} {kV doc pm : Value} {an : Option Addr} {cdv ct : Value} {sl : Array (Option Value)} (a : PySem.W.nsIn K mainGlobals x = some (some (.ref f)))
    (l : K.lookup f = some ⟨oc,od,.func (PySem.W.fnOf x x (defArgs st) (defBody st) (defScope st) .none kV doc pm an cdv ct),sl⟩) (c : PySem.W.codeIn K cdv x = true) (k : PySem.W.keepIn K (.ref f) = true) : FnIn K x st :=
  ⟨f,oc,od,kV,doc,pm,an,cdv,ct,sl,a,l,c,k⟩
theorem FnIn.fn {K : PySem.W.Frag} {h : Heap} {mg : Str → Option Value} {x : Str} {st : Stmt} {ps : List Str} (F : FnIn K x st) (X : K.In h) (G : h.Ns mainGlobals mg)
    (hb : ∀ (kV doc pm : Value) (an : Option Addr) (cdv ct : Value) (us : List Value),us.length = ps.length → bindArgs (PySem.W.fnOf x x (defArgs st) (defBody st) (defScope st) .none kV doc pm an cdv ct) ⟨us,[]⟩ = pure (ps.zip us)) : Fn K mg x st ps := by
  obtain ⟨f,oc,od,kV,doc,pm,an,cdv,ct,sl,a,l,c,k⟩ := F.ex
  have FF := fun_mk (st := st) l c k
  exact ⟨f,_,FF,PySem.W.mg_of X G a,FF.binds hb⟩
end L2
namespace L2
open PySem PySem.Spec PyProof.Rows
structure ItS (J : It) (xs : List V) (H1 : Hp) : Prop where
  go : ∀ i H',Same H1 H' → i < xs.length → J.go i H'
  yld : ∀ i H' x H2,Same H1 H' → J.yld i H' x H2 → H2 = H' ∧ (i < xs.length → xs[i]? = some x)
  stop : ∀ i H',Same H1 H' → xs.length ≤ i → J.stop i H'
theorem its_list {K : PySem.W.Frag} {a : Addr} {xs : List V} {H1 : Hp} (hq : SqL K H1 a xs) : ItS (Itl K a) xs H1 :=
  ⟨fun i H' g h => ⟨xs,xs[i],g.seq hq,by simp [h]⟩,fun i H' x H2 g y => ⟨y.1,fun _ => y.2 xs (g.seq hq)⟩,fun i H' g h => ⟨xs,g.seq hq,h⟩⟩
theorem its_tup {K : PySem.W.Frag} {a : Addr} {xs : List V} {H1 : Hp} (hq : SqT K H1 a xs) : ItS (Itt K a) xs H1 :=
  ⟨fun i H' g h => ⟨xs,xs[i],g.seqT hq,by simp [h]⟩,fun i H' x H2 g y => ⟨y.1,fun _ => y.2 xs (g.seqT hq)⟩,fun i H' g h => ⟨xs,g.seqT hq,h⟩⟩
theorem its_range {lo : Int} {n : Nat} {H1 : Hp} : ItS (Itr lo n) ((List.range n).map fun i => V.int (lo + (i : Nat))) H1 :=
  ⟨fun i H' g h => show i < n by simpa using h,fun i H' x H2 g y => ⟨y.1,fun h => by
    have h' : i < n := by simpa using h
    rw [List.getElem?_map,List.getElem?_range h',y.2]; rfl⟩,fun i H' g h => show n ≤ i by simpa using h⟩
theorem comp_pure {J : It} {xs : List V} {ix : List (Option Nat)} {tc : TT} {te : TE} {σ : St} {H1 : Hp} {Q : VK} (I : ItS J xs H1) (hz : xs.length ≤ sizeLine) {rest : St} (hst : cst ix σ = none :: rest) (p : V → Bool) (F : V → V)
    (ht : ∀ H' x,Same H1 H' → x ∈ xs → ∀ k : Bool → Hp → Prop,k (p x) H' → tc (some x :: rest) H' k)
    (he : ∀ H' x,Same H1 H' → x ∈ xs → p x = true → ∀ k : VK,k (F x) H' → te (some x :: rest) H' k)
    (hQ : ∀ D,H1 D = none → Q (.ref D) (upd H1 D (.lst ((xs.filter p).map F)))) :
    CompK ix (gName 0) tc te σ Q J H1 := by
  constructor
  intro D hD
  refine ⟨fun i m σ' H' => m = xs.length - i ∧ i ≤ xs.length ∧ (∃ o,σ' = o :: rest) ∧ H' = upd H1 D (.lst (((xs.take i).filter p).map F)),⟨xs.length,by simp,Nat.zero_le _,⟨none,hst⟩,by simp⟩,?_⟩
  rintro i m σ' H' ⟨rfl,hi,⟨o,rfl⟩,rfl⟩
  have g : Same H1 (upd H1 D (.lst (((xs.take i).filter p).map F))) := Same.new hD _
  by_cases hlt : i < xs.length
  · refine .inr ⟨I.go i _ g hlt,fun x H2 y => ?_⟩
    obtain ⟨rfl,hx⟩ := I.yld i _ x H2 g y
    have hx := hx hlt
    have hm : x ∈ xs := List.mem_of_getElem? hx
    have et : xs.take (i + 1) = xs.take i ++ [x] := by
      rw [List.take_add_one,hx]; rfl
    show tc (some x :: rest) _ _
    refine ht _ x g hm _ ?_
    cases hp : p x with
    | true =>
      rw [if_pos rfl]
      refine he _ x g hm hp _ ⟨_,upd_same,?_,xs.length - (i + 1),by omega,rfl,hlt,⟨_,rfl⟩,?_⟩
      · have h1 : (((xs.take i).filter p).map F).length ≤ i := by
          rw [List.length_map]
          exact Nat.le_trans (List.length_filter_le _ _) (by rw [List.length_take]; omega)
        omega
      · rw [upd_upd,et,List.filter_append,List.map_append]
        simp [hp]
    | false =>
      rw [if_neg Bool.false_ne_true]
      refine ⟨xs.length - (i + 1),by omega,rfl,hlt,⟨_,rfl⟩,?_⟩
      rw [et,List.filter_append]
      simp [hp]
  · have e : i = xs.length := by omega
    subst e
    refine .inl ⟨I.stop _ _ g (Nat.le_refl _),?_⟩
    rw [List.take_length]
    exact hQ D hD
theorem for_its {J : It} {xs : List V} {g : TG} {tb : TS} {D : Ends} {σ : St} {H : Hp} (I : ItS J xs H) (Pv : Nat → St → Hp → Prop) (h0 : Pv 0 σ H) (hsame : ∀ i σ' H',Pv i σ' H' → Same H H')
    (hs : ∀ i x σ' H',xs[i]? = some x → Pv i σ' H' → g x σ' H' fun σ2 H2 => tb { D with nx := Pv (i + 1),ct := Pv (i + 1),bk := D.nx } σ2 H2) (hd : ∀ σ' H',Pv xs.length σ' H' → D.nx σ' H') :
    ∃ W : Nat → Nat → St → Hp → Prop,(∃ m,W 0 m σ H) ∧ ∀ i m σ H,W i m σ H →
      (J.stop i H ∧ D.nx σ H) ∨ (J.go i H ∧ ∃ N : St → Hp → Prop,(∀ σ' H',N σ' H' → ∃ m',m' < m ∧ W (i + 1) m' σ' H') ∧ ∀ x H',J.yld i H x H' → g x σ H' fun σ2 H2 => tb { D with nx := N,ct := N,bk := D.nx } σ2 H2) := by
  refine ⟨fun i m σ' H' => m = xs.length - i ∧ i ≤ xs.length ∧ Pv i σ' H',⟨xs.length,by simp,Nat.zero_le _,h0⟩,?_⟩
  rintro i m σ' H' ⟨rfl,hi,p⟩
  have gs := hsame i σ' H' p
  by_cases hlt : i < xs.length
  · refine .inr ⟨I.go i _ gs hlt,Pv (i + 1),fun σ2 H2 p' => ⟨xs.length - (i + 1),by omega,rfl,hlt,p'⟩,fun x H2 y => ?_⟩
    obtain ⟨rfl,hx⟩ := I.yld i _ x H2 gs y
    exact hs i x σ' _ (hx hlt) p
  · have e : i = xs.length := by omega
    subst e
    exact .inl ⟨I.stop _ _ gs (Nat.le_refl _),hd σ' H' p⟩
end L2
namespace L2
open PySem PySem.Spec PyProof.Rows
structure BarS (t : TS) (D : Ends) (σ : St) (H : Hp) : Prop where
  go : t D σ H
noncomputable def tBarS (t : TS) : TS := fun D σ H => BarS t D σ H
theorem ps_bar {X : Cx} {st : Stmt} {t : TS} (h : PS X st t) : PS X st (tBarS t) := fun pins s σ H D I q => h pins s σ H D I q.go
theorem BarS.by {t : TS} {D : Ends} {σ : St} {H : Hp} (R : St → Hp → Prop) (h : ∀ N : St → Hp → Prop,(∀ σ' H',R σ' H' → N σ' H') → t { D with nx := N } σ H) (q : ∀ σ' H',R σ' H' → D.nx σ' H') : BarS t D σ H := by
  constructor
  exact h D.nx q
end L2
namespace HT
open PySem PyProof.Rows
section
variable {prog : Program} {w : World} {A : Around} {E : Value → Shared → Prop} {s : Shared}
theorem getItem_tuple_all {t sl : Addr} {items : Array Value} {vl vu : Value} {lo hi : Option Int} {Q : Value → Shared → Prop} (ht : IsTup s.heap t items) (hs : s.heap.IsSliceOf sl vl vu .none) (pl : IsPart vl lo) (pu : IsPart vu hi)
    (hw : sIx items.size 0 lo = 0 ∧ sIx items.size items.size hi = items.size) (h : Q (.ref t) s) : wpAny (model prog w) A (getItem (.ref t) (.ref sl)) Q E s := by
  obtain ⟨os,hos,hcs,hds⟩ := id hs
  have hTs : s.TypeIs (.ref sl) "slice" := ⟨os,hos,hcs⟩
  unfold getItem
  try with_reducible refine wpAny_holding ?_
  first | refine wpAny_bind (wpAny_pure ?_) | skip
  refine wpAny_bind (wpAny_sequenceKey ht.typeIs (by decide) ?_)
  refine wpAny_bind (wpAny_callSpecial?_slot (name := Str.ofString "__getitem__") ht.typeIs PyProof.Rows.slot_tuple_getitem
    (wpAny_call_entry PyProof.Rows.slot_tuple_getitem ht.typeIs entry_tuple_getitem ?_ (args_tuple_getitem _ _)))
  show wpAny _ _ (Builtin.Tuple.tupleItemsOf (.ref t) >>= _) _ _ s
  refine wpAny_bind (tupleItemsOf_ ht ?_)
  refine wpAny_bind (wpAny_typeOf hTs ?_)
  rw [if_pos (by decide)]
  refine wpAny_bind (sliceApplied_gen hs pl pu ?_)
  have hyes : (((sIx items.size 0 lo : Nat) : Int) == 0 && (1 : Int) == 1 && (sIx items.size items.size hi - sIx items.size 0 lo) == items.size) = true := by
    rw [hw.1,hw.2]; simp
  show wpAny _ _ (if (((sIx items.size 0 lo : Nat) : Int) == 0 && (1 : Int) == 1 && (sIx items.size items.size hi - sIx items.size 0 lo) == items.size) = true then _ else _) _ _ s
  rw [if_pos hyes]
  unfold Builtin.Tuple.tupleIsExact
  refine wpAny_bind (wpAny_bind (wpAny_typeOf ht.typeIs (wpAny_pure ?_)))
  rw [if_pos (by decide)]
  exact wpAny_bind (wpAny_rule (wpAny_pure ⟨_,rfl,wpAny_pure h⟩))
end
end HT
namespace L2
open PySem PySem.Spec PyProof.Rows
section
variable {X : Cx}
theorem sl_tupAll : SlR X (fun x lo hi H Q => ∃ a xs,x = .ref a ∧ SqT X.K H a xs ∧ (HT.sIx xs.length 0 lo = 0 ∧ HT.sIx xs.length xs.length hi = xs.length) ∧ Q (.ref a) H) := by
  intro pins s σ H x v vl vu lo hi sl Q I rx hs pl pu h
  obtain ⟨a,xs,rfl,hx,hw,q⟩ := h
  cases rx
  obtain ⟨its,r,ht,hz⟩ := I.tuple hx
  have hlen : its.toArray.size = xs.length := by rw [List.size_toArray]; exact r.length.symm
  refine ⟨"tuple",_,PyProof.Rows.slot_tuple_getitem.lookup,ht.typeIs,?_⟩
  exact HT.getItem_tuple_all ht hs pl pu (by rw [hlen]; exact hw) ⟨.ref a,H,I,rfl,q⟩
end
end L2
namespace L2
open PySem PySem.Spec PyProof.Rows
section
variable {X : Cx} (K : PySem.W.Frag)
theorem SlR.imp {r r' : V → Option Int → Option Int → Hp → VK → Prop} (h : SlR X r) (i : ∀ x lo hi H Q,r' x lo hi H Q → r x lo hi H Q) : SlR X r' := fun pins s σ H x v vl vu lo hi sl Q I rx hs pl pu q => h pins s σ H x v vl vu lo hi sl Q I rx hs pl pu (i _ _ _ _ _ q)
theorem xadd (hK : X.K = K := by rfl) : OpR X (binaryOp .Add) (rAddV K) := by subst hK; exact v_add
theorem xix (hK : X.K = K := by rfl) : IxR X (rIxV K) := by subst hK; exact v_ix
theorem xeq {k : Nat} (hr : Room k X.A) (hK : X.K = K := by rfl) : OpR X (compareOp .Eq) (rEqV K id) := by subst hK; exact v_eq hr
theorem xne {k : Nat} (hr : Room k X.A) (hK : X.K = K := by rfl) : OpR X (compareOp .NotEq) (rEqV K not) := by subst hK; exact v_ne hr
theorem xlen (hK : X.K = K := by rfl) : CallR X (.builtin "len") (fun xs H Q => ∃ x n,xs = [x] ∧ LenV K x H n ∧ Q (.int n) H) := by subst hK; exact call_len
theorem xsum (hc : X.calm = true) (hK : X.K = K := by rfl) : CallR X (.builtin "sum") (fun xs H Q => ∃ (l : Addr) (ns : List Int),xs = [.ref l] ∧ SqL K H l (ns.map V.int) ∧ Q (.int ns.sum) H) := by subst hK; exact v_sum hc
theorem xlist (hK : X.K = K := by rfl) : CallR X (.type "list") (fun xs H Q => ∃ p ys,xs = [.ref p] ∧ (SqL K H p ys ∨ SqT K H p ys) ∧ ∀ l,H l = none → Q (.ref l) (upd H l (.lst ys))) := by subst hK; exact call_list_of
theorem xtuple (hK : X.K = K := by rfl) : CallR X (.type "tuple") (fun xs H Q => ∃ p ys,xs = [.ref p] ∧ ((SqL K H p ys ∧ ∀ l,H l = none → Q (.ref l) (upd H l (.tup ys))) ∨ (SqT K H p ys ∧ Q (.ref p) H))) := by subst hK; exact call_tuple_of
noncomputable def rSlV (K : PySem.W.Frag) : V → Option Int → Option Int → Hp → VK → Prop := fun x lo hi H Q => match x with
  | .ref a => (∃ xs,SqL K H a xs ∧ ∀ p,H p = none → Q (.ref p) (upd H p (.lst (cutV xs lo hi)))) ∨
      (∃ xs,SqT K H a xs ∧ ¬ (HT.sIx xs.length 0 lo = 0 ∧ HT.sIx xs.length xs.length hi = xs.length) ∧ ∀ p,H p = none → Q (.ref p) (upd H p (.tup (cutV xs lo hi)))) ∨
      (∃ xs,SqT K H a xs ∧ (HT.sIx xs.length 0 lo = 0 ∧ HT.sIx xs.length xs.length hi = xs.length) ∧ Q (.ref a) H)
  | _ => False
theorem xsl (hK : X.K = K := by rfl) : SlR X (rSlV K) := by
  subst hK
  refine (sl_list.or (sl_tup.or sl_tupAll)).imp fun x lo hi H Q h => ?_
  unfold rSlV at h
  split at h
  · rcases h with ⟨xs,h⟩ | ⟨xs,h⟩ | ⟨xs,h⟩
    · exact .inl ⟨_,xs,rfl,h⟩
    · exact .inr (.inl ⟨_,xs,rfl,h⟩)
    · exact .inr (.inr ⟨_,xs,rfl,h⟩)
  · exact h.elim
theorem xseq {tg l : Expr} {tl : TE} (hl : PE X l tl) (hK : X.K = K := by rfl) : PI X tg l (iSeq K tl) := by subst hK; exact pi_seq hl
theorem xappend {o e : Expr} {to : TE} {te : TE} {apos cpos : Pos} (ho : PE X o to) (he : PE X e te) (hK : X.K = K := by rfl)
    (hbase : attributeBase o "append" X.env (eval o X.env) = eval o X.env := by rfl)
    (hfew : ((backTo cpos (starEach [e] X.env)).all (fun x => !x.1) && (backToKw cpos (keywordEach [] X.env)).all (fun x => x.1.isSome)
      && decide ([e].length + ([] : List Keyword).length + (if ([] : List Keyword).isEmpty then 0 else 1) < 30)) = true := by rfl)
    (hline : (apos.endLine == cpos.line) = true := by rfl) (hs : starEach [e] X.env = (false,eval e X.env) :: starEach [] X.env := by rfl) :
    PE X (.Call (.Attribute o "append" apos) [e] [] cpos) (tBM K "list" rAppend to (tCons te tNil)) := by
  subst hK
  exact pe_bm PySem.F.plainAttrs_list PySem.F.slot_list_append PySem.F.type_list_append mt_append ho (pa_cons he pa_nil hs) hbase hfew hline hs rfl
end
section
variable {X : Cx} {es : List Expr} {te : TE} {t : TA}
theorem pa_k {c : Const} {j} {p : Pos} (h : PE X (.Constant c j p) te) (hr : PA X es t) : PA X ((.Constant c j p) :: es) (tCons te t) := pa_cons h hr rfl
theorem pa_n {x : Str} {p : Pos} (h : PE X (.Name x p) te) (hr : PA X es t) : PA X ((.Name x p) :: es) (tCons te t) := pa_cons h hr rfl
theorem pa_l {as : List Expr} {p : Pos} (h : PE X (.List as p) te) (hr : PA X es t) : PA X ((.List as p) :: es) (tCons te t) := pa_cons h hr rfl
theorem pa_t {as : List Expr} {j} {p : Pos} (h : PE X (.Tuple as j p) te) (hr : PA X es t) : PA X ((.Tuple as j p) :: es) (tCons te t) := pa_cons h hr rfl
theorem pa_b {a : Expr} {o : Operator} {b : Expr} {p : Pos} (h : PE X (.BinOp a o b p) te) (hr : PA X es t) : PA X ((.BinOp a o b p) :: es) (tCons te t) := pa_cons h hr rfl
theorem pa_u {o : UnaryOp} {a : Expr} {p : Pos} (h : PE X (.UnaryOp o a p) te) (hr : PA X es t) : PA X ((.UnaryOp o a p) :: es) (tCons te t) := pa_cons h hr rfl
end
end L2
namespace L2
open PySem PySem.Spec PyProof.Rows
noncomputable def excO (a C : Addr) : HO := .ext fun h => ∃ o vs,h.get? a = some o ∧ o.cls = .ref C ∧ o.data = .fields vs
theorem excO_ok {P : Program} {w : World} {H : Hp} {h : Heap} {a C : Addr} {o : Obj} {vs : Array Value} (e : h.get? a = some o) (hc : o.cls = .ref C) (hd : o.data = .fields vs) : ObjOk P w H h a (excO a C) :=
  ⟨⟨o,vs,e,hc,hd⟩,⟨o,e⟩,fun _ _ ⟨o,vs,e,r⟩ k => ⟨o,vs,k o e,r⟩⟩
theorem ObjOk.there {P : Program} {w : World} {H : Hp} {h : Heap} {a : Addr} {o : HO} (x : ObjOk P w H h a o) : ∃ u,h.get? a = some u := by
  cases o with
  | lst xs => obtain ⟨_,_,_,_,e⟩ := x; exact ⟨_,e⟩
  | tup xs => obtain ⟨_,_,_,o,e,_⟩ := x; exact ⟨_,e⟩
  | dK kvs => obtain ⟨_,_,_,_,o,_,_,e,_⟩ := x; exact ⟨_,e⟩
  | dT kvs => obtain ⟨_,_,_,_,o,_,_,e,_⟩ := x; exact ⟨_,e⟩
  | set S n => obtain ⟨o,_,_,_,e,_⟩ := x; exact ⟨_,e⟩
  | ins C dx fs => obtain ⟨_,_,_,e,_⟩ := x; exact ⟨_,e⟩
  | own y => exact x
  | xd fs => obtain ⟨_,⟨_,_,_,e,_⟩,_⟩ := x; exact ⟨_,e⟩
  | rng lo hi => obtain ⟨_,_,_,e⟩ := x; exact ⟨_,e⟩
  | frz ob u => obtain ⟨e,_⟩ := x; exact ⟨_,e⟩
  | tbl ps => exact ⟨_,(show h.get? a = some _ from x)⟩
  | met f y => exact ⟨_,(show h.get? a = some _ from x)⟩
  | ext φ => exact x.2.1
structure ExS (base : Heap) (C R : Addr) : Prop where
  cls : ∃ nm q N bs bm hdct sn sub ab col dd k0 k1 k2 k3 k5 newId,base.get? C = some (excClassObj nm q C N bs bm hdct sn sub ab col dd k0 k1 k2 k3 k5 newId) ∧ (Value.ref C :: bm).contains (.ref R) = true
  top : ∃ nm q N bs bm hdct sn sub ab col dd k0 k1 k2 k3 k5 newId,base.get? R = some (excClassObj nm q R N bs bm hdct sn sub ab col dd k0 k1 k2 k3 k5 newId) ∧ bm.contains (.type "BaseException") = true
theorem excMatches_own {M : Model} {A : Around} {E : Value → Shared → Prop} {h : Heap} {g : Array GenState} {d : Drawn} {t : Nat} {os : OsState} {e C R : Addr} {oe : Obj} {Q : Bool → Shared → Prop} {base : Heap} (S : ExS base C R) (kb : ∀ b o,base.get? b = some o → h.get? b = some o)
    (he : h.get? e = some oe) (hcls : oe.cls = .ref C) (hq : Q true ⟨h,g,d,t,os⟩) : wpAny M A (excMatches (.ref e) (.ref R)) Q E ⟨h,g,d,t,os⟩ := by
  obtain ⟨nm,q,N,bs,bm,hdct,sn,sub,ab,col,dd,k0,k1,k2,k3,k5,newId,hC,hs⟩ := S.cls
  obtain ⟨nm',q',N',bs',bm',hdct',sn',sub',ab',col',dd',k0',k1',k2',k3',k5',newId',hR,hB⟩ := S.top
  have hC := kb _ _ hC
  have hR := kb _ _ hR
  have hcB : (Value.ref R :: bm').contains (.type "BaseException") = true := by rw [List.contains_cons,hB,Bool.or_true]
  have f := tc_notTuple
  unfold excMatches
  repeat (first | (with_reducible refine wpAny_loadPart_at he ?_; rw [hcls]) | with_reducible refine wpAny_loadPart_at hR ?_ | (with_reducible refine wpAny_isSubtype_exc hR ?_; rw [hcB]) | (with_reducible refine wpAny_isSubtype_exc hC ?_; rw [hs]) | wp_step)
  exact hq
section
variable {X : Cx} {pins : List (Addr × Obj)} {σ : St} {H : Hp} {s : Shared}
theorem Inv.track {a : Addr} {o : HO} (I : Inv X pins σ H s) (hn : H a = none) (h0 : ∀ u,X.s₀.heap.get? a ≠ some u) (hL : a ≠ X.env.locals) (hc : ∀ x c,X.env.cells.lookup x = some c → c ≠ a) (hp : ∀ p ∈ X.pn ++ pins,p.1 ≠ a)
    (new : ObjOk X.prog X.w (upd H a o) s.heap a o) : Inv X pins σ (upd H a o) s := by
  have ne : ∀ b u,H b = some u → b ≠ a := fun b u e => ne_of_none e hn
  refine ⟨I.ok,I.os,I.bare,⟨I.base.keep,I.base.slot,fun b u e n hx => ?_,I.base.there,fun b xs e => ?_,fun b u xs e => ?_,fun b ps e => ?_⟩,I.loc,I.cell,?_,fun x c e => ?_,fun p q => ?_,fun b u e => ?_,I.len⟩
  · rw [upd_ne (fun z => h0 u (by rw [← z]; exact e))]; exact I.base.free b u e n hx
  · have := I.base.tups b xs e
    rw [upd_ne (ne b _ this)]; exact this
  · have := I.base.frzs b u xs e
    rw [upd_ne (ne b _ this)]; exact this
  · obtain ⟨m,this⟩ := I.base.tbls b ps e
    exact ⟨m,by rw [upd_ne (ne b _ this)]; exact this⟩
  · rw [upd_ne (Ne.symm hL)]; exact I.free
  · rw [upd_ne (hc x c e)]; exact I.freeC x c e
  · obtain ⟨e1,e2,e3⟩ := I.pin p q
    exact ⟨e1,by rw [upd_ne (hp p q)]; exact e2,e3⟩
  · by_cases hb : b = a
    · subst hb
      rw [upd_same] at e; cases e
      exact new
    · rw [upd_ne hb] at e
      exact (I.hok b u e).stay (fun _ _ _ q => q) (fun c q => by rw [upd_ne (ne c _ q)]; exact q) fun c xs q => by rw [upd_ne (ne c _ q)]; exact q
theorem Inv.unset {h' : Heap} {t' : Nat} {j : Nat} {n : Str} {v : Option Value} {m : Str → Option Value} (I : Inv X pins σ H s) (hN : X.N.Nodup) (hj : X.N[j]? = some n) (hm : s.heap.Ns X.env.locals m)
    (hn : h'.Ns X.env.locals fun y => if y = n then v else m y) (hs : Heap.SameBut X.env.locals s.heap h') : Inv X pins (σ.set j none) H { s with heap := h',toks := t' } := by
  obtain ⟨m2,hn2,hl⟩ := id I.loc
  obtain ⟨oL,_,_,hoL,_⟩ := id hm
  have em : m2 = m := by
    obtain ⟨o1,es1,ep1,ho1,hd1,hk1,hf1⟩ := hn2
    obtain ⟨o2,es2,ep2,ho2,hd2,hk2,hf2⟩ := hm
    rw [ho1] at ho2; cases ho2
    rw [hd1] at hd2; cases hd2
    funext y; rw [← hf1 y,← hf2 y]
  subst em
  refine ⟨I.ok,I.os,I.bare,⟨fun b o e nn hb hx => ?_,fun b o e nn hb hx => ?_,I.base.free,fun b o e hx => ?_,I.base.tups,I.base.frzs,I.base.tbls⟩,⟨_,hn,fun i y u e1 e2 e3 => ?_⟩,fun y c e => ?_,I.free,I.freeC,fun p hp => ?_,fun b u e => ?_,by simpa using I.len⟩
  · exact (hs.2 b (Nat.ne_of_lt (Nat.lt_of_lt_of_le (Heap.lt_size e) I.ok.above))).trans (I.base.keep b o e nn hb hx)
  · obtain ⟨sl,e1⟩ := I.base.slot b o e nn hb hx
    exact ⟨sl,(hs.2 b (Nat.ne_of_lt (Nat.lt_of_lt_of_le (Heap.lt_size e) I.ok.above))).trans e1⟩
  · obtain ⟨o',e1⟩ := I.base.there b o e hx
    exact ⟨o',(hs.2 b (Nat.ne_of_lt (Nat.lt_of_lt_of_le (Heap.lt_size e) I.ok.above))).trans e1⟩
  · by_cases hji : i = j
    · subst hji
      by_cases hlt : i < σ.length
      · rw [List.getElem?_set_self hlt] at e2; cases e2
      · rw [List.getElem?_eq_none (by simp; omega)] at e2; cases e2
    · rw [List.getElem?_set_ne (Ne.symm hji)] at e2
      obtain ⟨u',r',q⟩ := hl i y u e1 e2 e3
      refine ⟨u',r',?_⟩
      rcases q with ⟨k,e⟩ | ⟨k,c,e,z⟩
      · refine .inl ⟨k,?_⟩
        have : y ≠ n := fun z => hji (nodup_ix hN e1 (z ▸ hj))
        simp [this,e]
      · exact .inr ⟨k,c,e,z.sameBut hs (I.cne y c e)⟩
  · obtain ⟨w',z⟩ := I.cell y c e
    exact ⟨w',z.sameBut hs (I.cne y c e)⟩
  · obtain ⟨e,nn,ne,nf,d⟩ := I.pin p hp
    exact ⟨(hs.2 p.1 ne).trans e,nn,ne,nf,d⟩
  · refine (I.hok b u e).stay (fun c w' hc q => (hs.2 c ?_).trans q) (fun _ q => q) fun _ _ q => q
    rintro rfl
    rcases hc with z | hc
    · rw [← z,I.free] at e; cases e
    · rw [I.free] at hc; cases hc
end
noncomputable def cxS (X : Cx) (a : Addr) : Cx := { X with A := X.A.mark (some (.ref a)),calm := false,xe := fun _ _ => False }
theorem Inv.suite {X : Cx} {pins : List (Addr × Obj)} {σ : St} {H : Hp} {s : Shared} (I : Inv X pins σ H s) (a : Addr) : Inv (cxS X a) pins σ H s :=
  ⟨⟨I.ok.mod,I.ok.kind,I.ok.glob,I.ok.blt,I.ok.above,I.ok.inj,I.ok.has,I.ok.cab,(fun z => by cases z),I.ok.frames,I.ok.stk,I.ok.exf,I.ok.bs,I.ok.bsz,I.ok.noex,I.ok.exfs,I.ok.funs,I.ok.frf⟩,
    I.os,I.bare,I.base,I.loc,I.cell,I.free,I.freeC,I.pin,I.hok,I.len⟩
theorem Inv.unsuite {X : Cx} {pins : List (Addr × Obj)} {σ : St} {H : Hp} {s : Shared} {a : Addr} (ok : X.Ok) (I : Inv (cxS X a) pins σ H s) : Inv X pins σ H s :=
  ⟨ok,I.os,I.bare,I.base,I.loc,I.cell,I.free,I.freeC,I.pin,I.hok,I.len⟩
end L2
namespace L2
open PySem PySem.Spec PyProof.Rows
structure ExI (K : PySem.W.Frag) (C : Addr) : Prop where
  ga : PySem.W.findIn K (.ref C) "__getattribute__" = some (some (.builtin "BaseException.__getattribute__"))
  gt : PySem.W.findIn K (.ref C) "__getattr__" = some none
  cl : PySem.W.findIn K (.ref C) "__class__" = some (some (.builtin "object.__class__"))
  mb : PySem.W.mroIn K C (.type "BaseException") = some true
  mo : PySem.W.mroIn K C (.type "object") = some true
  is : (PySem.W.clsIn K C).isSome = true
section
variable {prog : Program} {w : World} {A : Around} {E : Value → Shared → Prop} {h : Heap} {g : Array GenState} {d : Drawn} {t : Nat} {os : OsState} {a C : Addr} {o : Obj} {K : PySem.W.Frag}
theorem xc_get {R : Result → Shared → Prop} (S : ExI K C) (X : K.In h) (hx : h.get? a = some o) (hc : o.cls = .ref C) (hq : R (.ok (.ret (.ref C))) ⟨h,g,d,t,os⟩) :
    codeAny (model prog w) A (.call (.builtin "getset_descriptor.__get__") ⟨[.builtin "object.__class__",.ref a,.ref C],[]⟩) R ⟨h,g,d,t,os⟩ := by
  have hT5 : (⟨h,g,d,t,os⟩ : Shared).TypeIs (.builtin "object.__class__") "getset_descriptor" := F.typeOf_object_class
  have L1 := PySem.W.looks_mroIn (M := model prog w) X S.mo
  rw [← F.owner_object_class] at L1
  refine codeAny_call_builtin F.slot_gs_get.plain F.entry_gs_get (F.slot_gs_get.check _ _ _ _ _ _ _ _ hT5 (F.args_gs_get _ _ _) ?_)
  repeat (any_goals (first | assumption | (with_reducible refine wpAny_loadPart_at hx ?_; rw [hc]) | with_reducible refine L1.at ?_ | wp_step))
  refine ⟨Code.quiet_builtin _ (by decide +kernel),codeAny_builtin F.entry_object_class ?_⟩
  repeat (any_goals (first | assumption | (with_reducible refine wpAny_loadPart_at hx ?_; rw [hc]) | wp_step))
theorem xc_entry {tk : Tok} {Q : Fin → Shared → Prop} (S : ExI K C) (X : K.In h) (hx : h.get? a = some o) (hc : o.cls = .ref C) (hq : Q (.done (.ret (.ref C))) ⟨h,g,d,t,os⟩) :
    wpAny (model prog w) A (Builtin.«object.__getattribute__» ⟨[.ref a,.str "__class__" tk],[]⟩) Q E ⟨h,g,d,t,os⟩ := by
  have hT5 : (⟨h,g,d,t,os⟩ : Shared).TypeIs (.builtin "object.__class__") "getset_descriptor" := F.typeOf_object_class
  have L1 := PySem.W.looks_findIn (M := model prog w) X S.cl
  have f5 := F.typeOf_object_class
  have f6 := F.slot_gs_get.lookup
  have f7 := F.slot_gs_set.lookup
  repeat (any_goals (first | assumption | (with_reducible refine wpAny_loadPart_at hx ?_; rw [hc]) | with_reducible refine L1.at ?_ | wp_step))
  refine xc_get S X hx hc ?_
  repeat (any_goals (first | assumption | wp_step))
theorem xc_check {nameV : Value} {Q : Unit → Shared → Prop} (S : ExI K C) (X : K.In h) (hx : h.get? a = some o) (hc : o.cls = .ref C) (hq : Q () ⟨h,g,d,t,os⟩) :
    wpAny (model prog w) A (checkBuiltinCall "BaseException.__getattribute__" ⟨[.ref a,nameV],[]⟩) Q E ⟨h,g,d,t,os⟩ := by
  have hk : builtinKind "BaseException.__getattribute__" = some .slot := by decide +kernel
  have hs : splitId "BaseException.__getattribute__" = some ("BaseException","__getattribute__") := by decide +kernel
  have L1 := PySem.W.looks_mroIn (M := model prog w) X S.mb
  have ha := F.args_bexc_ga (.ref a) nameV
  simp only [checkBuiltinCall,hk,hs]
  refine wpAny_bind ?_
  unfold isInstance
  repeat (first | (with_reducible refine wpAny_loadPart_at hx ?_; rw [hc]) | with_reducible refine L1.at ?_ | wp_step)
  exact hq
theorem xc_by {tk : Tok} {Q : Value → Shared → Prop} (S : ExI K C) (X : K.In h) (hx : h.get? a = some o) (hc : o.cls = .ref C) (hq : Q (.ref C) ⟨h,g,d,t,os⟩) :
    wpAny (model prog w) A (getAttrBy (.ref a) (.str "__class__" tk) false) Q E ⟨h,g,d,t,os⟩ := by
  have f3 := F.excAttr_ValueError.ga.bind (.ref a)
  have L1 := PySem.W.looks_findIn (M := model prog w) X S.ga
  have L2 := PySem.W.looks_findIn (M := model prog w) X S.gt
  have hx2 : (Value.builtin "BaseException.__getattribute__" == Value.builtin "object.__getattribute__") = false := by decide +kernel
  have hx1 : (onTheHeap (Value.ref C) && Value.builtin "BaseException.__getattribute__" == Value.builtin "object.__getattribute__") = false := by rw [hx2]; rfl
  repeat (any_goals (first | assumption | (with_reducible refine wpAny_loadPart_at hx ?_; rw [hc]) | with_reducible refine L1.at ?_ | with_reducible refine L2.at ?_ | wp_step))
  refine codeAny_call_builtin F.excAttr_ValueError.ga.plain F.entry_bexc_ga (xc_check S X hx hc (xc_entry S X hx hc ?_))
  repeat (any_goals (first | assumption | wp_step))
theorem xc_attr {Q : Option Value → Shared → Prop} (S : ExI K C) (X : K.In h) (hx : h.get? a = some o) (hc : o.cls = .ref C) (hq : Q (some (.ref C)) ⟨h,g,d,t + 1,os⟩) :
    wpAny (model prog w) A (getAttr? (.ref a) "__class__") Q E ⟨h,g,d,t,os⟩ := by
  unfold getAttr? getAttrBy?
  repeat (any_goals (first | assumption | with_reducible apply xc_by S X hx hc | wp_step))
end
end L2
namespace L2
open PySem PySem.Spec PyProof.Rows
theorem kitx_exc {K : PySem.W.Frag} {a C : Addr} (S : ExI K C) : PySem.W.KitX K (.ref a) (.ref C) (fun h => ∃ o vs,h.get? a = some o ∧ o.cls = .ref C ∧ o.data = .fields vs) where
  ty := fun M h _ p => by
    obtain ⟨o,_,h1,h2,_⟩ := p
    exact h2 ▸ (PySem.W.Looks.ld h1).andThen .now
  it := fun _ _ X _ => by
    have hi := S.is
    unfold PySem.W.clsIn at hi
    split at hi
    · rename_i c' d' cd' sl' ho
      intro A' Q' E' s' k q
      unfold isType loadHead
      exact wpAny_bind (wpAny_loadPart (k _ _ (X _ _ ho)) (wpAny_pure q))
    · cases hi
  ne := fun h tp dd its n sl X htp => by
    have hi := S.is
    refine Bool.eq_false_iff.mpr fun q => ?_
    have e : C = tp := Value.ref.inj (beq_iff_eq.mp q)
    subst e
    unfold PySem.W.clsIn at hi
    split at hi
    · rename_i c' d' cd' sl' ho
      have z := (X _ _ ho).symm.trans htp
      cases z
    · cases hi
  ca := fun {prog w A E Q s} X p k => by
    obtain ⟨o,vs,h1,h2,_⟩ := p
    obtain ⟨h0,g,d,t,os⟩ := s
    exact xc_attr S X h1 h2 k
theorem refs_of : ∀ {Ds : List Addr} {us : List Value},Vals (Ds.map V.ref) us → us = Ds.map Value.ref
  | [],_,.nil => rfl
  | D :: Ds,_,.cons r t => by
    have e := refs_of (Ds := Ds) t
    cases (show _ = Value.ref D from r)
    rw [e]; rfl
noncomputable def rIsiE (K : PySem.W.Frag) : List V → Hp → VK → Prop := fun xs H Q => ∃ a C y b,xs = [.ref a,y] ∧ H a = some (excO a C) ∧ ExI K C ∧
  ((∃ D,y = .ref D ∧ PySem.W.kitOne K (.ref C) (.ref D) = some b) ∨ (∃ T,y = .ty T ∧ PySem.W.kitOne K (.ref C) (.type T) = some b) ∨ (∃ (p : Addr) (Ds : List Addr),y = .ref p ∧ H p = some (.tup (Ds.map V.ref)) ∧ PySem.W.kitAny K (.ref C) (Ds.map Value.ref) = some b)) ∧ Q (.bl b) H
theorem v_isiE {X : Cx} : CallR X (.builtin "isinstance") (rIsiE X.K) := by
  intro pins s σ H xs us Q I r h
  obtain ⟨a,C,y,b,rfl,ha,S,h1,q⟩ := h
  obtain ⟨u,v,rfl,ru,rv⟩ := r.two
  cases ru
  have p : ∃ o vs,s.heap.get? a = some o ∧ o.cls = .ref C ∧ o.data = .fields vs := (I.hok a _ ha).1
  have fin : ∀ tk,EP X pins σ Q (.bool b) { s with toks := tk } := fun tk => ⟨.bl b,H,I.tok tk,rfl,q⟩
  rcases h1 with ⟨D,rfl,e⟩ | ⟨T,rfl,e⟩ | ⟨tp,Ds,rfl,ht,e⟩
  · cases rv
    exact PySem.W.kia_one (kitx_exc S) I.kIn p e (fun z => nomatch z) fin
  · cases rv
    exact PySem.W.kia_one (kitx_exc S) I.kIn p e (fun z => nomatch z) fin
  · cases rv
    obtain ⟨its,r2,p2,_⟩ := I.tuple (SqT.of ht)
    have ei := refs_of r2
    subst ei
    obtain ⟨⟨cls,dd,data,sl⟩,ho,hc,n,hd⟩ := id p2
    simp only at hc hd
    subst hc hd
    exact PySem.W.kia_tup (kitx_exc S) I.kIn p ho e (fun z => nomatch z) fin
theorem xisiE {X : Cx} (K : PySem.W.Frag) (hK : X.K = K := by rfl) : CallR X (.builtin "isinstance") (rIsiE K) := by subst hK; exact v_isiE
theorem pe_cls {X : Cx} {x : Str} {C : Addr} {pos : Pos} (hg : Gl X x) (hm : X.mg x = some (.ref C)) (hd : (x == ("__debug__" : Str)) = false := by decide) : PE X (.Name x pos) (tC (.ref C)) := pe_glob hg hm rfl hd
theorem exC_of {K : PySem.W.Frag} {h : Heap} {mg : Str → Option Value} {x : Str} {C : Addr} {newId inN Bn : String} {bmN : List Value} (X : K.In h) (G : h.Ns mainGlobals mg) (e : PySem.W.nsIn K mainGlobals x = some (some (.ref C)))
    (q : PySem.W.excIn K C [.type "ValueError",.type "Exception",.type "BaseException",.type "object"] newId = true) (Fn : ExcBaseFacts Bn newId inN bmN)
    (hBn : [Value.type "ValueError",.type "Exception",.type "BaseException",.type "object"].contains (.type Bn) = true) : ExC mg h x C := by
  refine ⟨_,newId,⟨PySem.W.mg_of X G e,?_⟩,Bn,inN,bmN,_,_,_,Fn,hBn,F.excBase_ValueError⟩
  unfold PySem.W.excIn at q
  split at q
  · rename_i dd cd sl ho
    split at q
    · rename_i C' bm k0 k1 k2 k3 n k5 hm hs
      simp only [Bool.and_eq_true,beq_iff_eq,Bool.not_eq_true'] at q
      obtain ⟨⟨⟨⟨⟨rfl,rfl⟩,hdel⟩,ht⟩,hok⟩,hni⟩ := q
      obtain ⟨nm,bs,mro,ns,qn,hdc,sn,sub,ab,col,del⟩ := cd
      dsimp only at hm hdel hok hni
      subst hm; subst hdel
      have hsl : sl = #[k0,k1,k2,k3,some (.builtin n),k5] := by
        obtain ⟨l⟩ := sl
        simp only at hs
        rw [hs]
      subst hsl
      exact ⟨bm,ns,nm,qn,bs,hdc,sn,sub,ab,col,dd,k0,k1,k2,k3,k5,_,X _ _ ho,.of_isNs (PySem.W.isNs_of_in X hok),PySem.W.nsMap_none_of_in X hok hni,PySem.W.tail_of_in X ht⟩
    · cases q
  · cases q
noncomputable def excSub (K : PySem.W.Frag) (C R : Addr) : Bool := match K.lookup C with
  | some ⟨.type "type",_,.cls cd,sl⟩ => (match cd.mro,sl.toList with
    | .ref C' :: bm,[_,_,_,_,some (.builtin _),_] => C' == C && !cd.hasDel && (Value.ref C' :: bm).contains (.ref R)
    | _,_ => false)
  | _ => false
theorem exS_of {K : PySem.W.Frag} {h : Heap} {C R : Addr} (X : K.In h) (q : excSub K C R = true) (qr : PySem.W.ktsIn K R "BaseException" = true) : ExS h C R := by
  refine ⟨?_,?_⟩
  · unfold excSub at q
    split at q
    · rename_i dd cd sl ho
      split at q
      · rename_i C' bm k0 k1 k2 k3 n k5 hm hs
        simp only [Bool.and_eq_true,beq_iff_eq,Bool.not_eq_true'] at q
        obtain ⟨⟨rfl,hdel⟩,ht⟩ := q
        obtain ⟨nm,bs,mro,ns,qn,hdc,sn,sub,ab,col,del⟩ := cd
        dsimp only at hm hdel
        subst hm; subst hdel
        have hsl : sl = #[k0,k1,k2,k3,some (.builtin n),k5] := by
          obtain ⟨l⟩ := sl
          simp only at hs
          rw [hs]
        subst hsl
        exact ⟨nm,qn,ns,bs,bm,hdc,sn,sub,ab,col,dd,k0,k1,k2,k3,k5,n,X _ _ ho,ht⟩
      · cases q
    · cases q
  · obtain ⟨nm,qn,N,bs,bm,hdct,sn,sub,ab,col,dd,k0,k1,k2,k3,k5,newId,hR,hb,_⟩ := PySem.W.kts_cls X qr
    exact ⟨nm,qn,N,bs,bm,hdct,sn,sub,ab,col,dd,k0,k1,k2,k3,k5,newId,hR,hb⟩
end L2
namespace L2
open PySem PySem.Spec PyProof.Rows
theorem boot_ValueError : bootBuiltins "ValueError" = some (.type "ValueError") := by decide +kernel
section
variable {X : Cx} {a : Expr} {ta : TE}
end
end L2
namespace L2
open PySem
theorem canLay_ints : ∀ ns : List Int,PyData.canLayAll0 (ns.map PyData.int) = true
  | [] => rfl
  | n :: r => by
    have := canLay_ints r
    simp [PyData.canLayAll0,PyData.canLay0,this]
theorem depth_ints : ∀ ns : List Int,PyData.depthAll (ns.map PyData.int) ≤ 1
  | [] => by simp [PyData.depthAll]
  | n :: r => by
    have := depth_ints r
    simp [PyData.depthAll,PyData.depth]
    omega
theorem shaped_tup (ns : List Int) : SeqAt.shaped (.tuple (ns.map .int)) = true := by
  have h1 := canLay_ints ns
  have h2 := depth_ints ns
  simp only [SeqAt.shaped,PyData.canLay0,PyData.depth,h1,Bool.true_and]
  exact decide_eq_true (by omega)
theorem eqv_tup (ns ms : List Int) : PyData.eqv (.tuple (ns.map .int)) (.tuple (ms.map .int)) = decide (ns = ms) := by
  rw [PyData.eqv]; exact PySem.W.ked_eqvAll ns ms
theorem eqTT {K : PySem.W.Frag} {g : Bool → Bool} {H : Hp} {a b : Addr} {ns ms : List Int} {Q : VK} (ha : SqT K H a (ns.map V.int)) (hb : SqT K H b (ms.map V.int)) (q : Q (.bl (g (decide (ns = ms)))) H) : rEqV K g (.ref a) (.ref b) H Q :=
  .inl ⟨_,_,.tup ha (RdDs.ints ns),.tup hb (RdDs.ints ms),shaped_tup ns,shaped_tup ms,by rw [eqv_tup]; exact q⟩
end L2
set_option maxHeartbeats 4000000
namespace L2
open PySem PySem.Spec PyProof.Rows
noncomputable def tTaken (base : Heap) (R : Addr) (j : Nat) (ts : Addr → TS) (D : Ends) (σ : St) : XK := fun cls _ H2 => ∃ C,cls = .ref C ∧ ExS base C R ∧ ∀ a,H2 a = none →
    ts a { nx := fun σ' H' => D.nx (σ'.set j none) H',rt := D.rt,bk := fun σ' H' => D.bk (σ'.set j none) H',ct := fun σ' H' => D.ct (σ'.set j none) H' } (σ.set j (some (.ref a))) (upd H2 a (excO a C))
theorem try_lands {X : Cx} {n x : Str} {j : Nat} {R : Addr} {xp hpos : Pos} {b₀ : Stmt} {suite : List Stmt} {ts : Addr → TS} {pins : List (Addr × Obj)} {σ : St} {H H1 : Hp} {s s1 s2 : Shared} {D : Ends} {ev : Value}
    (hstk : X.stack = X.env :: X.outer) (hfr : X.env.frame = some X.env.locals) (hex : X.ex = []) (hN : X.N.Nodup)
    (hj : X.N[j]? = some n) (hn : X.env.scope.names.lookup n = some .local) (hx : Gl X x) (hR : X.mg x = some (.ref R)) (hs : ∀ a,PSs (cxS X a) (b₀ :: suite) (ts a))
    (hdx : (x == ("__debug__" : Str)) = false) (I : Inv X pins σ H s) (I1 : Inv X pins σ H1 s1) (hq : Flown X.prog X.w X.stack H1 s1 (tTaken X.base R j ts D σ) ev s2) :
    wpAny (model X.prog X.w) X.A (noteFrame ev X.env) (fun _ s₂ => wpAny (model X.prog X.w) X.A (setFlight ev none) (fun _ s₃ => wpAny (model X.prog X.w) X.A (handleBy ev X.env [.ExceptHandler (some (.Name x xp)) (some n) (b₀ :: suite) hpos]) (SP X pins D) X.xe s₃) X.xe s₂) X.xe s2 := by
  have nx : ∀ b : Addr,b ∉ X.ex := fun b => by rw [hex]; simp
  obtain ⟨ea,Cc,a0,B,H2,rfl,os,bare,fl,hok,un,old,C',eC,S,q2⟩ := Flown.ex hq
  cases eC
  rw [hstk] at fl
  have frs_eq : frs X.stack = (X.env :: X.outer).filterMap (·.frame) := by rw [hstk]; rfl
  have oe := fl.first
  have newE : ∀ u,s1.heap.get? ea ≠ some u := fun u z => by
    rcases old ea u z with hb | ⟨o',hb⟩
    · rw [frs_eq] at hb
      obtain ⟨_,o,ho,hd⟩ := fl.2.2.1.mem hb
      obtain ⟨o2,vs2,e1,_,e2,_⟩ := oe
      rw [e1] at ho; cases ho
      exact hd _ e2
    · rw [fl.2.1] at hb; cases hb
  have to : ∀ h6,Heap.FlyingW B (X.env :: X.outer) ea (.ref Cc) a0 h6 → s2.heap.UpToSlots h6 → Inv X pins σ H2 { s2 with heap := h6 } := fun h6 fl6 up => by
    refine I1.call' (ch := []) os ⟨fun b o e1 n1 hb _ => ?_,fun b o e1 n1 hb _ => ?_,fun b o e1 n1 _ => un.free b o e1 n1 (by simp),fun b o e1 _ => ?_,un.tups,un.frzs,un.tbls⟩ (hok.kept fl6.1) bare (fun _ z => nomatch z)
    · rcases old b o e1 with z | ⟨o',z⟩
      · exact absurd z hb
      · have e2 := un.keep b o e1 n1 hb (by simp)
        have e3 := fl.1 b o' z
        rw [e2] at e3; cases e3
        exact fl6.1 b _ z
    · obtain ⟨sl,e2⟩ := un.slot b o e1 n1 hb (by simp)
      rw [frs_eq] at hb
      obtain ⟨_,o2,ho,hd⟩ := fl.2.2.1.mem hb
      rw [e2] at ho; cases ho
      obtain ⟨sl',e3⟩ := up b _ e2 hd
      exact ⟨sl',e3⟩
    · rcases old b o e1 with z | ⟨o',z⟩
      · rw [frs_eq] at z
        obtain ⟨_,o2,ho,hd⟩ := fl.2.2.1.mem z
        obtain ⟨sl',e3⟩ := up b _ ho hd
        exact ⟨_,e3⟩
      · exact ⟨o',fl6.1 b o' z⟩
  have hfrm : X.A.frames = some (X.env :: X.outer) := by rw [I.ok.frames,hstk]
  refine wpAny_looks_onW hfrm hfr fl fun h4 held4 up4 => ?_
  refine wpAny_landsW held4 fun h5 fl5 up5 => ?_
  have I5 := to h5 fl5 (up4.trans up5)
  obtain ⟨ob,hob,hobc⟩ := fl5.there
  refine wpAny_handleBy_cons (codeAny_handlers_test (ld_glob (X := cxS X ea) (I5.suite ea) hx hR ?_ hdx)) (by intro z; cases z)
  refine excMatches_own S I5.bk hob hobc (codeAny_handlers_suite_as ?_)
  refine lands_againW fl5 fun h6 fl6 up6 => ?_
  have I6 := to h6 fl6 ((up4.trans up5).trans up6)
  obtain ⟨oe6,vs6,e6,c6,d6,_⟩ := fl6.first
  have hn2 : H2 ea = none := by
    cases z : H2 ea with
    | none => rfl
    | some u =>
      exfalso
      obtain ⟨o',z'⟩ := (hok ea u z).there
      rw [fl.2.1] at z'; cases z'
  have I7 : Inv X pins σ (upd H2 ea (excO ea Cc)) { s2 with heap := h6 } := by
    refine I6.track hn2 (fun u z => ?_) (fun z => ?_) (fun y c e z => ?_) (fun p hp z => ?_) (excO_ok e6 c6 d6)
    · obtain ⟨o',e1⟩ := I1.base.there ea u z (nx ea)
      exact newE o' e1
    · obtain ⟨m,⟨o,_,_,ho,_⟩,_⟩ := I1.loc
      exact newE o (by rw [z]; exact ho)
    · obtain ⟨v',o,ho,_⟩ := I1.cell y c e
      exact newE o (by rw [← z]; exact ho)
    · exact newE p.2 (by rw [← z]; exact (I1.pin p hp).1)
  refine store_ok (X := cxS X ea) (I7.suite ea) hN hj (.inl hn) (show RelV (.ref ea) (Value.ref ea) from rfl) (fun s8 I8 => ?_) (.inr hn)
  have q3 := q2 ea hn2
  have gone : ∀ {σ9 : St} {H9 : Hp} {s9 : Shared} {Q' : Unit → Shared → Prop},Inv (cxS X ea) pins σ9 H9 s9 → (∀ s10,Inv X pins (σ9.set j none) H9 s10 → Q' () s10) → wpAny (model X.prog X.w) X.A (do bindName X.env n .none; unbindBehindTheSuite X.env n hpos) Q' X.xe s9 :=
    fun {σ9 H9 s9 Q'} I9 k => by
      have I9' : Inv X pins σ9 H9 s9 := I9.unsuite I.ok
      obtain ⟨m,hm9,_⟩ := id I9'.loc
      exact wpAny_nameGoes_keeps hn hm9 (by rw [I.ok.kind]; rfl) fun h' v' n' sb => k _ (I9'.unset hN hj hm9 n' sb)
  refine wpAny_mono (hs ea pins s8 _ _ _ I8 q3) (fun fl9 s9 q9 => ?_) fun _ _ z => z.elim
  cases fl9 with
  | next =>
    obtain ⟨σ9,H9,I9,q9⟩ := q9
    exact gone I9 fun s10 I10 => ⟨_,H9,I10,q9⟩
  | brk =>
    obtain ⟨σ9,H9,I9,q9⟩ := q9
    exact gone I9 fun s10 I10 => ⟨_,H9,I10,q9⟩
  | cont =>
    obtain ⟨σ9,H9,I9,q9⟩ := q9
    exact gone I9 fun s10 I10 => ⟨_,H9,I10,q9⟩
  | ret u =>
    obtain ⟨y,σ9,H9,I9,r9,q9⟩ := q9
    exact gone I9 fun s10 I10 => ⟨y,_,H9,I10,r9,q9⟩
noncomputable def tTryExpr (base : Heap) (R : Addr) (sp : Sp) (j : Nat) (t : TA) (ts : Addr → TS) : TS := fun D σ H => t σ H fun vs H1 => sp vs H1 (fun _ H2 => D.nx σ H2) (tTaken base R j ts D σ)
theorem ps_tryExpr {X : Cx} {n x f : Str} {j k k' : Nat} {ps : List Str} {sp : Sp} {R : Addr} {fp cpos epos xp hpos pos : Pos} {e : Expr} {es : List Expr} {b₀ : Stmt} {suite : List Stmt} {t : TA} {ts : Addr → TS}
    (C : Cal X.prog X.w X.K X.mg X.base f k ps sp) (hr : Room k' X.A) (hstk : X.stack = X.env :: X.outer) (hfr : X.env.frame = some X.env.locals) (hex : X.ex = []) (hg : Gl X f) (ha : PA X.nox (e :: es) t) (hN : X.N.Nodup)
    (hj : X.N[j]? = some n) (hn : X.env.scope.names.lookup n = some .local) (hx : Gl X x) (hR : X.mg x = some (.ref R)) (hs : ∀ a,PSs (cxS X a) (b₀ :: suite) (ts a)) (hk : k ≤ k' := by decide)
    (hdf : (f == ("__debug__" : Str)) = false := by decide) (hdx : (x == ("__debug__" : Str)) = false := by decide)
    (he : starEach (e :: es) X.env = (false,eval e X.env) :: starEach es X.env := by rfl) (hpl : (backTo cpos (starEach es X.env)).any (·.1) = false := by rfl)
    (hsw : swapsWith (.Call (.Name f fp) (e :: es) [] cpos) none epos.line X.env = pure false := by rfl) :
    PS X (.Try [.Expr (.Call (.Name f fp) (e :: es) [] cpos) epos] [.ExceptHandler (some (.Name x xp)) (some n) (b₀ :: suite) hpos] [] [] pos) (tTryExpr X.base R sp j t ts) := by
  intro pins s σ H D I h
  obtain ⟨gf,gd,hm,hkp,hb,F⟩ := C.ex
  refine wpAny_Try_except (wpAny_execs_cons (wpAny_Expr_any (wpAny_Call_Name_kw (ld_glob I hg hm ?_ hdf)) I.quiet hsw))
  refine PySem.W.callWith_K (h₀ := X.base) I.ok.mod.kin hkp (wpAny_mono (ha cpos pins s σ H _ (I.wish _) h) (fun us s1 ⟨vs,H1,I1',r,q⟩ => ⟨I1'.kIn,?_⟩) fun _ _ z => z.elim) he hpl
  have I1 : Inv X pins σ H1 s1 := I1'.unwish
  have hl : (us ++ []).length = ps.length := by
    rw [List.append_nil,← r.length]; exact F.len _ _ _ _ q
  refine wpAny_call (codeAny_mono (F.run X.A X.stack s1 H1 ⟨us,[]⟩ (us ++ []) vs _ _ (hr.mono hk) I1.env0 (hb s1 us I1.kIn hl) (by rw [List.append_nil]; exact r) q) fun rs s2 hq => ?_)
  cases rs with
  | ok fl =>
    cases fl with
    | ret u =>
      obtain ⟨y,H2,I2,ry,q2⟩ := I1.after hq
      exact wpAny_execs_nil (wpAny_execs_nil ⟨_,H2,I2,q2⟩)
    | next => exact False.elim hq
    | brk => exact False.elim hq
    | cont => exact False.elim hq
  | error ev => exact try_lands hstk hfr hex hN hj hn hx hR hs hdx I I1 hq
end L2
namespace L2
open PySem PySem.Spec PyProof.Rows
noncomputable def Itd (lo : Int) (n : Nat) : It := ⟨fun i _ => i < n,fun i H x H' => H' = H ∧ x = .int (lo - i),fun i _ => n ≤ i⟩
theorem turn_down {P : Program} {w : World} {K : PySem.W.Frag} {tg : Expr} (it : Addr) (lo : Int) (n : Nat) : Turn P w K tg (Itd lo n) [it] it (fun i h => IsRangeIter h it (lo + (i : Nat) * (-1)) ((n : Int) - (i : Nat)) (-1)) where
  mem := by simp
  obj := fun i h st b hb => by
    have e : b = it := by simpa using hb
    subst e
    exact ⟨_,st,fun v z => by
      have z' : Data.fields _ = Data.cell v := z
      cases z'⟩
  keep := fun i h h' st k => k it (by simp) _ st
  item := by
    intro X hP hw hK hc i pins s σ H E I hf st hg
    subst hP hw hK
    obtain ⟨f0,f1,f2,f3,f4,f5⟩ := hf it (by simp)
    have W := Walks.range (prog := X.prog) (w := X.w) (I.ok.hd hc) it lo (-1) n
    refine W.item i s _ _ hg st fun v h' tk hv st' kk => ?_
    obtain ⟨t,rfl⟩ := hv
    have I1 : Inv X pins σ H { s with heap := h',toks := tk } := I.turned (fun b o hb e => kk b o (by simpa using hb) e) f0 f1 f3 f4 f5
    refine ⟨_,rfl,go_of (s := { s with heap := h',toks := tk }) (n := "range_iterator") st' rfl rfl (by decide) ⟨.int (lo - i),H,I1,⟨t,?_⟩,⟨rfl,rfl⟩,st',fun b hb => (hf b hb).1⟩⟩
    rw [Int.mul_neg_one]; rfl
  done := by
    intro X hP hw hK hc i pins s σ H E I hf st hg
    subst hP hw hK
    obtain ⟨f0,f1,f2,f3,f4,f5⟩ := hf it (by simp)
    exact wpAny_pyNext_range_end (I.ok.hd hc) st (by have : n ≤ i := hg; omega) fun h' eb => ⟨rfl,I.turned (t' := s.toks) (fun b o hb e => eb b o hb e) f0 f1 f3 f4 f5⟩
  self := fun _ _ _ _ _ st h => wpAny_pyIter_rangeiter st h
theorem rangeSize_down (a b : Int) : Builtin.Range.rangeSize a b (-1) = if b < a then a - b else 0 := by
  unfold Builtin.Range.rangeSize
  simp only [show ¬ (-1 : Int) > 0 by decide,if_false,Int.neg_neg,Int.ediv_one]
  split <;> omega
theorem small_down {a b : Int} (ha : -(2 ^ 62) ≤ a) (ha' : a < 2 ^ 62) (hb : -(2 ^ 62) ≤ b) (hb' : b < 2 ^ 62) : Builtin.Range.small a b (-1) = true := by
  unfold Builtin.Range.small
  rw [rangeSize_down]
  simp only [Builtin.Range.rangeFitsLong,Bool.and_eq_true,Bool.or_eq_true,decide_eq_true_eq,beq_iff_eq,show ¬ (-1 : Int) > 0 by decide,if_false]
  split <;> omega
section
variable {X : Cx} {tg : Expr}
theorem down_it {pins : List (Addr × Obj)} {σ : St} {H : Hp} {s : Shared} {R : It → Hp → Prop} {E : Value → Shared → Prop} {lo hi : Int} {t u v : Tok} {tk : Nat} (I : Inv X pins σ H s) (h1 : -(2 ^ 62) ≤ lo) (h2 : lo < 2 ^ 62) (h3 : -(2 ^ 62) ≤ hi) (h4 : hi < 2 ^ 62)
    (q : R (Itd lo (lo - hi).toNat) H) : wpAny (model X.prog X.w) X.A (pyIter (.ref s.heap.objs.size)) (PIE X pins σ tg R) E { s with heap := s.heap.push { cls := .type "range",data := .fields #[.int lo t,.int hi u,.int (-1) v] },toks := tk } := by
  refine wpAny_pyIter_range (IsRange.new ..) (small_down h1 h2 h3 h4) ?_
  have I1 : Inv X pins σ H { s with heap := s.heap.push { cls := .type "range",data := .fields #[.int lo t,.int hi u,.int (-1) v] },toks := tk } := I.kept fun b o e => Heap.get?_push_of_some _ e
  refine ⟨(s.heap.push { cls := .type "range",data := .fields #[.int lo t,.int hi u,.int (-1) v] }).objs.size,[(s.heap.push { cls := .type "range",data := .fields #[.int lo t,.int hi u,.int (-1) v] }).objs.size],_,_,H,rfl,
    I1.kept (t' := tk) fun b o e => Heap.get?_push_of_some _ e,turn_down _ lo (lo - hi).toNat,?_,fun b hb => ?_,q⟩
  · have e1 : lo + ((0 : Nat) : Int) * (-1) = lo := by simp
    have e2 : (((lo - hi).toNat : Nat) : Int) - ((0 : Nat) : Int) = Builtin.Range.rangeSize lo hi (-1) := by rw [rangeSize_down]; split <;> omega
    show IsRangeIter _ _ (lo + ((0 : Nat) : Int) * (-1)) ((((lo - hi).toNat : Nat) : Int) - ((0 : Nat) : Int)) (-1)
    rw [e1,e2]
    exact Heap.get?_push_size _ rfl
  · have e : b = (s.heap.push { cls := .type "range",data := .fields #[.int lo t,.int hi u,.int (-1) v] }).objs.size := by simpa using hb
    subst e
    exact I1.fpOk (Nat.le_refl _) (I1.hok.fresh (Nat.le_refl _))
noncomputable def iRngD (ta : TA) : TI := fun σ H R => ta σ H fun vs H1 => ∃ i j : Int,vs = [.int i,.int j,.int (-1)] ∧ (-(2 ^ 62) ≤ i ∧ i < 2 ^ 62 ∧ -(2 ^ 62) ≤ j ∧ j < 2 ^ 62) ∧ R (Itd i (i - j).toNat) H1
theorem pi_rangeD {a b c : Expr} {ta : TA} {p pos : Pos} (hg : Gl X "range") (hm : X.mg "range" = none) (ha : PA X [a,b,c] ta) (hs : starEach [a,b,c] X.env = (false,eval a X.env) :: starEach [b,c] X.env := by rfl) (hs2 : (backTo pos (starEach [b,c] X.env)).any (·.1) = false := by rfl) :
    PI X tg (.Call (.Name "range" p) [a,b,c] [] pos) (iRngD ta) := by
  intro pins s σ H R I h
  refine Call_ (ld_blt I hg hm boot_range (PyProof.Rows.callWith_type1 (thn (ha pos pins s σ H _ I h) fun us s1 ⟨vs,H1,I1,r1,q1⟩ => ?_) hs hs2))
  obtain ⟨i,j,e,⟨q1,q2,q3,q4⟩,q⟩ := q1
  subst e
  cases r1 with
  | cons r rr =>
    cases rr with
    | cons r' rr =>
      cases rr with
      | cons r'' rr =>
        cases rr
        obtain ⟨t,rfl⟩ := r
        obtain ⟨t',rfl⟩ := r'
        obtain ⟨t'',rfl⟩ := r''
        exact call_range_3 (by decide) (down_it (tk := s1.toks) I1 q1 q2 q3 q4 q) (.inl (PyProof.noPylong_small (by omega)))
end
theorem for_down {lo : Int} {n : Nat} {g : TG} {tb : TS} {D : Ends} {σ : St} {H : Hp} (Pv : Nat → St → Hp → Prop) (h0 : Pv 0 σ H)
    (hs : ∀ i σ H,i < n → Pv i σ H → g (.int (lo - i)) σ H fun σ2 H2 => tb { D with nx := Pv (i + 1),ct := Pv (i + 1),bk := D.nx } σ2 H2) (hd : ∀ σ H,Pv n σ H → D.nx σ H) :
    ∃ W : Nat → Nat → St → Hp → Prop,(∃ m,W 0 m σ H) ∧ ∀ i m σ H,W i m σ H →
      ((Itd lo n).stop i H ∧ D.nx σ H) ∨ ((Itd lo n).go i H ∧ ∃ N : St → Hp → Prop,(∀ σ' H',N σ' H' → ∃ m',m' < m ∧ W (i + 1) m' σ' H') ∧ ∀ x H',(Itd lo n).yld i H x H' → g x σ H' fun σ2 H2 => tb { D with nx := N,ct := N,bk := D.nx } σ2 H2) := by
  refine ⟨fun i m σ H => m = n - i ∧ i ≤ n ∧ Pv i σ H,⟨n,by simp,Nat.zero_le _,h0⟩,?_⟩
  rintro i m σ H ⟨rfl,hi,p⟩
  by_cases hlt : i < n
  · refine .inr ⟨hlt,Pv (i + 1),fun σ' H' p' => ⟨n - (i + 1),by omega,rfl,hlt,p'⟩,fun x H' y => ?_⟩
    obtain ⟨e,y⟩ := y
    subst e y
    exact hs i σ _ hlt p
  · have e : i = n := by omega
    subst e
    exact .inl ⟨Nat.le_refl _,hd σ H p⟩
end L2
namespace L2
open PySem PySem.Spec PyProof.Rows
section
variable {X : Cx}
theorem boot_any : bootBuiltins "any" = some (.builtin "any") := by decide +kernel
theorem v_any (hc : X.calm = true) : CallR X (.builtin "any") (fun xs H Q => ∃ (l : Addr) (bs : List Bool),xs = [.ref l] ∧ SqL X.K H l (bs.map V.bl) ∧ Q (.bl (bs.any id)) H) := by
  intro pins s σ H xs us Q I r h
  obtain ⟨l,bs,rfl,hl,q⟩ := h
  obtain ⟨u,rfl,ru⟩ := r.one
  cases ru
  obtain ⟨its,rv,pl,hz⟩ := I.list hl
  have eb := bools_of rv
  subst eb
  have hl' := pl.isList
  have hlt : l < s.heap.objs.size := by obtain ⟨_,e,_⟩ := hl'; exact Heap.lt_size e
  refine call_any_walk (wpAny_pyIter_list hl' ?_)
  refine ⟨s.heap.objs.size,[s.heap.objs.size,l],[s.heap.objs.size],(bs.map Value.bool).toArray.size,_,_,fun i => (bs[i]?).getD false,rfl,Walks.list (A := X.A.in1) (I.ok.hd hc) _ l (Nat.ne_of_lt hlt) (bs.map Value.bool).toArray,
    ⟨⟨_,Heap.get?_push_size _ rfl,rfl,rfl⟩,hl'.push _⟩,fun i v s' Q' E' hP hQ => ?_,fun h' tk hk => ?_⟩
  · have hP' : (bs.map Value.bool)[i]? = some v := by simpa using hP
    rw [List.getElem?_map] at hP'
    cases e : bs[i]? with
    | none => rw [e] at hP'; cases hP'
    | some b =>
      rw [e] at hP'
      cases hP'
      dsimp only at hQ
      rw [e] at hQ
      exact wpAny_truthy_bool hQ
  · have e2 : ((List.range (bs.map Value.bool).toArray.size).any fun i => (bs[i]?).getD false) = bs.any id := by
      rw [List.size_toArray,List.length_map]
      rw [Bool.eq_iff_iff,List.any_eq_true,List.any_eq_true]
      constructor
      · rintro ⟨i,hi,e⟩
        have hi' := List.mem_range.mp hi
        rw [List.getElem?_eq_getElem hi'] at e
        exact ⟨_,List.getElem_mem hi',e⟩
      · rintro ⟨x,hx,e⟩
        obtain ⟨i,hi,e'⟩ := List.mem_iff_getElem.mp hx
        exact ⟨i,List.mem_range.mpr hi,by rw [List.getElem?_eq_getElem hi,e']; exact e⟩
    have fin : EP X pins σ Q (.bool (bs.any id)) { s with heap := h',toks := tk } := ⟨.bl _,H,I.kept (kept_iter' hk),rfl,q⟩
    first | (rw [e2]; exact fin) | (simpa [e2] using fin)
theorem xany (K : PySem.W.Frag) (hc : X.calm = true) (hK : X.K = K := by rfl) : CallR X (.builtin "any") (fun xs H Q => ∃ (l : Addr) (bs : List Bool),xs = [.ref l] ∧ SqL K H l (bs.map V.bl) ∧ Q (.bl (bs.any id)) H) := by subst hK; exact v_any hc
end
end L2
namespace L2
open PySem PySem.Spec PyProof.Rows
theorem nolenR : typeLookup (.type "list_reverseiterator") "__len__" = pure none := by rw [typeLookup_type,builtinLookup_eq_fast]; kernel_rfl
theorem hintR : typeLookup (.type "list_reverseiterator") "__length_hint__" = pure (some (.builtin "list_reverseiterator.__length_hint__")) := by rw [typeLookup_type,builtinLookup_eq_fast]; kernel_rfl
theorem bootR : bootBuiltins "reversed" = some (.type "reversed") := by decide +kernel
section
variable {X : Cx} {pins : List (Addr × Obj)} {σ : St} {H : Hp} {s : Shared} {h' : Heap}
theorem Inv.adoptR {p : Addr} {o : HO} (I : Inv X pins σ H s) (f : FpOk X pins H p) (new : ObjOk X.prog X.w (upd H p o) s.heap p o) : Inv X pins σ (upd H p o) s := by
  obtain ⟨f0,f1,_,f3,f4,f5⟩ := f
  refine I.step (g' := s.gens) (d' := s.drawn) (t' := s.toks) (h' := s.heap) (ch := [p]) (fun b hb => ?_) (fun b o _ _ hc e _ => e) (fun b o _ _ hc e _ => ⟨o.slots,e⟩) (fun b _ hc _ n => ?_)
    (fun b o hc e => ⟨o,e⟩) (fun b xs e => ?_) (fun b xs _ e => ?_) (fun b ps e => ⟨#[],?_⟩) (fun m hm => hm) (fun b u e => ?_) I.bare
  · have e : b = p := by simpa using hb
    subst e
    exact ⟨f3,f1,f4,f5⟩
  · rw [upd_ne fun z => hc (by simp [z])]; exact n
  · rw [upd_ne (ne_of_none e f0)]; exact e
  · rw [upd_ne (ne_of_none e f0)]; exact e
  · rw [upd_ne (ne_of_none e f0),e]; simp
  · by_cases hb : b = p
    · subst hb; rw [upd_same] at e; cases e; exact new
    · rw [upd_ne hb] at e
      exact (I.hok b u e).stay (fun c v _ q => q) (fun c q => by rw [upd_ne (ne_of_none q f0)]; exact q) fun c xs q => by rw [upd_ne (ne_of_none q f0)]; exact q
end
noncomputable def ixR (n i : Nat) : Int := if i < n then ((n - 1 - i : Nat) : Int) else -1
noncomputable def Itv (K : PySem.W.Frag) (a : Addr) (n : Nat) : It :=
  ⟨fun i H => ∃ xs x,SqL K H a xs ∧ i < n ∧ xs[n - 1 - i]? = some x,fun i H x H' => H' = H ∧ ∀ xs,SqL K H a xs → xs[n - 1 - i]? = some x,fun i _ => n ≤ i⟩
theorem turn_rev {P : Program} {w : World} {K : PySem.W.Frag} {tg : Expr} (a it : Addr) (n : Nat) : Turn P w K tg (Itv K a n) [it] it (fun i h => h.IsRevIter it a (ixR n i)) where
  mem := by simp
  obj := fun i h st b hb => by
    have e : b = it := by simpa using hb
    subst e
    obtain ⟨o,e,c,d⟩ := st
    exact ⟨o,e,fun v z => by rw [d] at z; cases z⟩
  keep := fun i h h' st k => st.at fun o e => k it (by simp) o e
  item := by
    intro X hP hw hK hc i pins s σ H E I hf st hg
    subst hP hw hK
    obtain ⟨xs,x,hq,hi,hx⟩ := hg
    obtain ⟨its,rv,p,hz⟩ := I.list hq
    obtain ⟨u,hu,ru⟩ := rv.get hx
    obtain ⟨f0,f1,f2,f3,f4,f5⟩ := hf it (by simp)
    have e : ixR n i = ((n - 1 - i : Nat) : Int) := if_pos hi
    rw [e] at st
    refine wpAny_pyNext_rev_item st p.isList (x := u) (by simpa using hu) fun h' st' sb => ?_
    have e2 : ((n - 1 - i : Nat) : Int) - 1 = ixR n (i + 1) := by unfold ixR; split <;> omega
    rw [e2] at st'
    have I1 : Inv X pins σ H { s with heap := h' } := I.turned (t' := s.toks) (fun b o hb e => (sb.2 b hb).trans e) f0 f1 f3 f4 f5
    obtain ⟨o,e,c,d⟩ := id st'
    exact ⟨u,rfl,go_of (s := { s with heap := h' }) e c d (by decide) ⟨x,H,I1,ru,⟨rfl,fun ys hy => by rw [I.list_inj hy hq]; exact hx⟩,st',fun b hb => (hf b hb).1⟩⟩
  done := by
    intro X hP hw hK hc i pins s σ H E I hf st hg
    subst hP hw hK
    have hg : n ≤ i := hg
    obtain ⟨f0,f1,f2,f3,f4,f5⟩ := hf it (by simp)
    have e : ixR n i = -1 := if_neg (by omega)
    rw [e] at st
    exact wpAny_pyNext_rev_end (I.ok.hd hc) st fun h' eb => ⟨rfl,I.turned (t' := s.toks) (fun b o hb e => eb b o hb e) f0 f1 f3 f4 f5⟩
  self := fun _ _ _ _ _ st h => wpAny_pyIter_revIter st h
section
variable {X : Cx}
noncomputable def iRev (K : PySem.W.Frag) (ta : TA) : TI := fun σ H R => ta σ H fun vs H1 => ∃ a xs,vs = [.ref a] ∧ SqL K H1 a xs ∧ R (Itv K a xs.length) H1
theorem pi_rev (K : PySem.W.Frag) {tg e1 : Expr} {ta : TA} {p pos : Pos} (hg : Gl X "reversed") (hm : X.mg "reversed" = none) (ha : PA X [e1] ta) (hK : X.K = K := by rfl)
    (hs : starEach [e1] X.env = [(false,eval e1 X.env)] := by rfl) : PI X tg (.Call (.Name "reversed" p) [e1] [] pos) (iRev K ta) := by
  subst hK
  intro pins s σ H R I h
  refine Call_ (ld_blt I hg hm bootR (PyProof.Rows.callWith_type1 (thn (ha pos pins s σ H _ I h) fun us s1 ⟨vs,H1,I1,r1,q1⟩ => ?_) hs rfl))
  obtain ⟨a,xs,e,hq,q⟩ := q1
  subst e
  cases r1 with
  | cons r rr =>
    cases rr
    cases r
    obtain ⟨its,rv,p1,_⟩ := I1.list hq
    have hl := rv.length
    refine call_reversed_list p1.isList ?_
    have st : (s1.heap.push (revObj a ((its.toArray.size : Int) - 1))).IsRevIter s1.heap.objs.size a (ixR xs.length 0) := ⟨_,Heap.get?_push_size _ rfl,rfl,by
      show Data.fields #[.ref a,rawInt ((its.toArray.size : Int) - 1)] = _
      have e : (its.toArray.size : Int) - 1 = ixR xs.length 0 := by unfold ixR; simp; split <;> omega
      rw [e]⟩
    have I2 : Inv X pins σ H1 { s1 with heap := s1.heap.push (revObj a ((its.toArray.size : Int) - 1)) } := I1.kept (t' := s1.toks) fun b o e => Heap.get?_push_of_some _ e
    refine wpAny_pyIter_revIter (s := { s1 with heap := s1.heap.push (revObj a ((its.toArray.size : Int) - 1)) }) st ⟨_,[s1.heap.objs.size],_,_,H1,rfl,I2,turn_rev a _ _,st,fun c hc => ?_,q⟩
    have e : c = s1.heap.objs.size := by simpa using hc
    subst e
    exact I1.fpOk (Nat.le_refl _) (I1.hok.fresh (Nat.le_refl _))
theorem its_rev {K : PySem.W.Frag} {a : Addr} {xs : List V} {H1 : Hp} (h : SqL K H1 a xs) : ItS (Itv K a xs.length) xs.reverse H1 := by
  refine ⟨fun i H' g hi => ?_,fun i H' x H2 g y => ⟨y.1,fun hi => ?_⟩,fun i H' g hi => ?_⟩
  · rw [List.length_reverse] at hi
    exact ⟨xs,xs[xs.length - 1 - i]'(by omega),g.seq h,hi,List.getElem?_eq_getElem (by omega)⟩
  · rw [List.length_reverse] at hi
    rw [List.getElem?_reverse hi]
    exact y.2 xs (g.seq h)
  · rw [List.length_reverse] at hi
    exact hi
end
section
variable {prog : Program} {w : World} {A : Around} {E : Value → Shared → Prop} {s : Shared} {I : Addr} {fp wr : List Addr} {G : Array GenState → Array GenState → Prop} {n : Nat} {P : Nat → Value → Prop} {St : Nat → Shared → Prop} {R : Result → Shared → Prop}
theorem extend_rev (W : WalksS prog w A.in1 I fp wr G n P St) (hT : ∀ i s,St i s → s.TypeIs (.ref I) "list_reverseiterator") (S : Addr) (c0 : Nat) (hst : St 0 s) (hSf : S ∉ fp) (hI : I ∈ fp)
    (hS : s.heap.get? S = some { cls := .type "list",data := .seq #[] c0 })
    (hR : ∀ s' acc' c',Moved (S :: wr) G s s' → s'.heap.get? S = some { cls := .type "list",dict := none,data := .seq acc' c',slots := #[] } → ItemsOf P acc' n → R (.ok (.ret .none)) s') (hn : n ≤ sizeLine) :
    wpAny (model prog w) A.in1 (Builtin.List.listExtendWith (.ref S) (.ref I) .none)
      (fun fin s' => match fin with | .done f => R (.ok f) s' | .again c' => c'.quiet = true ∧ codeAny (model prog w) A c' R s') (fun e s' => R (.error e) s') s := by
  have hSI : S ≠ I := fun e => hSf (e ▸ hI)
  have h1 : Builtin.List.listSameRef (.ref S) (.ref I) = false := by simp [Builtin.List.listSameRef,hSI]
  unfold Builtin.List.listExtendWith
  refine wpAny_bind (wpAny_typeOf (hT 0 _ hst) ?_)
  rw [if_neg (by rw [h1]; decide)]
  refine wpAny_bind (W.self 0 _ _ _ hst ?_)
  refine wpAny_bind (wpAny_holding ?_)
  unfold Builtin.List.listLengthHint
  refine wpAny_bind (wpAny_specialOf (hT 0 _ hst) nolenR ?_)
  show wpAny _ A.in1 (specialOf (Value.ref I) (Str.ofString "__length_hint__") >>= _) _ _ _
  refine wpAny_bind (wpAny_specialOf (hT 0 _ hst) hintR ?_)
  (generalize hid : ("list_reverseiterator.__length_hint__" : String) = id0; (fail_if_success (clear hid id0)); wp_delta; rw [show splitId id0 = some ("list_reverseiterator","__length_hint__") from by subst hid; decide +kernel]; subst hid)
  refine wpAny_bind (wpAny_isInstance (b := true) (hT 0 _ hst) (by rw [isSubtype_type]; kernel_rfl) ?_)
  refine wpAny_pure ?_
  rw [if_neg (by decide)]
  exact wpAny_pure ⟨plainId_quiet F.plain_extend_loop _,codeAny_extend_loopS W hn _ hSf _ n 0 _ _ _ rfl (Nat.zero_le _) hst hS (ItemsOf.nil P) fun s' acc' c' hm hS' hacc => hR s' acc' c' hm hS' hacc⟩
theorem init_rev (W : WalksS prog w A.in1 I fp wr G n P St) (hT : ∀ i s,St i s → s.TypeIs (.ref I) "list_reverseiterator") (S : Addr) (hst : St 0 s) (hSf : S ∉ fp) (hI : I ∈ fp)
    (hS : s.heap.get? S = some { cls := .type "list",data := .seq #[] })
    (hR : ∀ s' acc' c',Moved (S :: wr) G s s' → s'.heap.get? S = some { cls := .type "list",dict := none,data := .seq acc' c',slots := #[] } → ItemsOf P acc' n → R (.ok (.ret .none)) s') (hn : n ≤ sizeLine) :
    wpAny (model prog w) A.in1 (Builtin.«list.__init__» ⟨[.ref S,.ref I],[]⟩)
      (fun fin s' => match fin with | .done f => R (.ok f) s' | .again c' => c'.quiet = true ∧ codeAny (model prog w) A c' R s') (fun e s' => R (.error e) s') s := by
  show wpAny _ A.in1 (Builtin.List.listItems (.ref S) >>= fun old => Builtin.List.listUpdate (.ref S) (fun _ => #[]) >>= fun _ => letGo old.toList.reverse >>= fun _ => Builtin.List.listExtendWith (.ref S) (.ref I) .none) _ _ s
  refine wpAny_bind ?_
  unfold Builtin.List.listItems
  refine wpAny_bind (wpAny_seqItems hS rfl (wpAny_pure ?_))
  refine wpAny_bind (wpAny_updateSeq hS rfl ?_)
  have hS2 := Heap.get?_update_self (Obj.mapSeq (fun _ => (#[] : Array Value))) hS rfl
  have oth : ∀ b o,b ≠ S → s.heap.get? b = some o → (s.heap.update S (Obj.mapSeq (fun _ => (#[] : Array Value)))).get? b = some o :=
    fun b o hb e => (Heap.get?_update_other _ _ (Ne.symm hb)).trans e
  refine wpAny_bind (wpAny_letGo ?_)
  refine extend_rev W hT S _ (W.frame 0 s _ s.toks hst (Nat.le_refl _) fun b hb o e => oth b o (fun h => hSf (h ▸ hb)) e) hSf hI hS2 (fun s' acc' c' hm hS' hacc => ?_) hn
  exact hR s' acc' c' (Moved.trans W.gtrans ((Moved.refl W.grefl).then_heap (Nat.le_refl _) fun b o hb e => oth b o (fun h => hb (h ▸ List.mem_cons_self)) e) hm) hS' hacc
theorem call_list_rev {Q : Value → Shared → Prop} (W : WalksS prog w A.in1.in1 I fp wr G n P St) (hT : ∀ i s,St i s → s.TypeIs (.ref I) "list_reverseiterator") (hst : St 0 s) (hfp : ∀ b ∈ fp,b < s.heap.objs.size) (hI : I ∈ fp)
    (hQ : ∀ s' acc' c',Moved (s.heap.objs.size :: wr) G { s with heap := s.heap.push { cls := .type "list",data := .seq #[] } } s' →
      s'.heap.get? s.heap.objs.size = some { cls := .type "list",dict := none,data := .seq acc' c',slots := #[] } → ItemsOf P acc' n → Q (.ref s.heap.objs.size) s') (hn : n ≤ sizeLine) :
    wpAny (model prog w) A (call (.type "list") [.ref I]) Q E s := by
  have hSf : s.heap.objs.size ∉ fp := fun hm => Nat.lt_irrefl _ (hfp _ hm)
  refine callType_codes (Q₁ := fun obj s₁ => obj = .ref s.heap.objs.size ∧ s₁ = { s with heap := s.heap.push { cls := .type "list",data := .seq #[] } }) F.called_list (F.typeCall_list_1 _) F.entry_list_init
    (code_list_new _ ⟨rfl,rfl⟩) fun obj s₁ h₁ => ?_
  obtain ⟨rfl,rfl⟩ := h₁
  have hS : (s.heap.push { cls := .type "list",data := .seq #[] }).get? s.heap.objs.size = some { cls := .type "list",data := .seq #[] } := Heap.get?_push_size _ rfl
  refine ⟨⟨_,hS,rfl⟩,F.args_list_init_2 _ _,init_rev W hT _ (W.frame 0 s _ s.toks hst (Nat.le_refl _) fun b _ o e => Heap.get?_push_of_some _ e) hSf hI hS (fun s' acc' c' hm hS' hacc => ?_) hn⟩
  exact ⟨rfl,hQ s' acc' c' hm hS' hacc⟩
end
section
variable {X : Cx}
noncomputable def tListRev (te : TA) : TE := fun σ H Q => te σ H fun vs H1 => ∃ (l : Addr) (xs : List V),vs = [.ref l] ∧ H1 l = some (.lst xs) ∧ ∀ l',H1 l' = none → Q (.ref l') (upd H1 l' (.lst xs.reverse))
theorem pe_listRev {a : Expr} {ta : TA} {p p2 pos pos2 : Pos} (hc : X.calm = true) (hg : Gl X "list") (hm : X.mg "list" = none) (hg2 : Gl X "reversed") (hm2 : X.mg "reversed" = none) (ha : PA X [a] ta)
    (hs2 : starEach [a] X.env = [(false,eval a X.env)] := by rfl)
    (hs : starEach [.Call (.Name "reversed" p2) [a] [] pos2] X.env = [(false,eval (.Call (.Name "reversed" p2) [a] [] pos2) X.env)] := by rfl) :
    PE X (.Call (.Name "list" p) [.Call (.Name "reversed" p2) [a] [] pos2] [] pos) (tListRev ta) := by
  intro pins s σ H Q I h
  refine wpAny_Call_Name_kw (ld_blt I hg hm boot_list ?_ (by decide) (by decide))
  refine PyProof.Rows.callWith_type1 ?_ hs rfl
  rw [hs]
  show wpAny _ _ (spliced ((false,eval (.Call (.Name "reversed" p2) [a] [] pos2) X.env) :: backTo pos [])) _ _ s
  refine Calls.spliced_cons ?_
  refine Call_ (ld_blt I hg2 hm2 bootR (PyProof.Rows.callWith_type1 (thn (ha pos2 pins s σ H _ I h) fun us s1 ⟨vs,H1,I1,r1,q1⟩ => ?_) hs2 rfl))
  obtain ⟨l,xs,e,hl,q⟩ := q1
  subst e
  cases r1 with
  | cons r rr =>
    cases rr
    cases r
    obtain ⟨z,its,nn,rv,hlen,eo⟩ := I1.lstM hl
    have hil : s1.heap.IsList l its.toArray := ⟨_,eo,rfl,_,rfl⟩
    refine call_reversed_list hil ?_
    refine Calls.spliced_nil ?_
    have hln : l ≠ s1.heap.objs.size := fun e => absurd (Heap.lt_size eo) (by rw [e]; exact Nat.lt_irrefl _)
    have hh := I1.ok.hd hc
    have hle : its.toArray.size = xs.length := by have := rv.length; simp; omega
    have key : (s1.heap.push (revObj l ((its.toArray.size : Int) - 1))).IsRevIter s1.heap.objs.size l ((its.toArray.size : Int) - 1 - ((0 : Nat) : Int)) := ⟨_,Heap.get?_push_size _ rfl,rfl,by simp [revObj]⟩
    have W := (Walks.listRev (prog := X.prog) (w := X.w) (A := X.A.in1.in1) hh s1.heap.objs.size l hln its.toArray).toS
    have hsz2 : (s1.heap.push (revObj l ((its.toArray.size : Int) - 1))).objs.size = s1.heap.objs.size + 1 := by simp [Heap.push]
    refine call_list_rev (s := { s1 with heap := s1.heap.push (revObj l ((its.toArray.size : Int) - 1)) }) W (fun i s' st => st.2.1.typeIs) ⟨Nat.zero_le _,key,hil.push _⟩ (fun b hb => ?_) (by simp) (fun s' acc' c' hm' hS' hacc => ?_) (by rw [hle]; exact z)
    · have hb' : b = s1.heap.objs.size ∨ b = l := by simpa using hb
      have := Heap.lt_size eo
      show b < (s1.heap.push (revObj l ((its.toArray.size : Int) - 1))).objs.size
      rcases hb' with z | z
      · rw [z,hsz2]; exact Nat.lt_succ_self _
      · rw [z,hsz2]; exact Nat.lt_succ_of_lt this
    · have I3 : Inv X pins σ H1 { s1 with heap := s1.heap.push (revObj l ((its.toArray.size : Int) - 1)) } := I1.kept (t' := s1.toks) fun b o e => Heap.get?_push_of_some _ e
      obtain ⟨f0,f1,f2,f3,f4,f5⟩ := I1.fpOk (H' := H1) (Nat.le_refl _) I1.fresh
      have hfree : H1 (s1.heap.push (revObj l ((its.toArray.size : Int) - 1))).objs.size = none := I3.hok.fresh (Nat.le_refl _)
      have hfp := I3.fpOk (H' := H1) (Nat.le_refl _) hfree
      have hv : Vals xs.reverse acc'.toList := by
        have e : acc'.toList = its.reverse := by
          obtain ⟨h1,h2⟩ := hacc
          refine List.ext_getElem? fun j => ?_
          have hs1 : acc'.toList.length = its.length := by simpa using h1
          by_cases hj : j < its.length
          · have a1 : acc'[j]? = some (acc'[j]'(by simpa using (hs1 ▸ hj : j < acc'.toList.length))) := Array.getElem?_eq_getElem _
            have a2 := h2 j _ a1
            rw [List.getElem?_reverse hj,Array.getElem?_toList,a1,← a2]
            simp
          · rw [List.getElem?_eq_none (by omega),List.getElem?_eq_none (by rw [List.length_reverse]; omega)]
        rw [e]; exact rv.reverse
      obtain ⟨hp',g',d',t'',o'⟩ := s'
      have eg : g' = s1.gens := hm'.gens
      have ed : d' = s1.drawn := hm'.drawn
      have eo' : o' = s1.os := hm'.os
      subst eg ed eo'
      have I5 := I3.turned (h' := hp') (it := s1.heap.objs.size) (t' := t'') (fun b o hb e => hm'.heap b o (by
        have hlt := Heap.lt_size e
        have : b ≠ (s1.heap.push (revObj l ((its.toArray.size : Int) - 1))).objs.size := Nat.ne_of_lt hlt
        simp only [List.mem_cons,List.not_mem_nil,or_false,not_or]
        exact ⟨this,hb⟩) (Heap.get?_push_of_some _ e)) f0 f1 f3 f4 f5
      refine ⟨.ref _,_,I5.adoptR (o := .lst xs.reverse) hfp ?_,rfl,q _ hfree⟩
      exact ⟨by rw [List.length_reverse]; exact z,acc'.toList,c',hv,by simpa using hS'⟩
end
end L2
namespace Rm
noncomputable def tk (b n : Int) : Int := if b = 0 then n else n % b
theorem tk_zero (n : Int) : tk 0 n = n := if_pos rfl
theorem tk_pos {b : Int} (h : b ≠ 0) (n : Int) : tk b n = n % b := if_neg h
theorem tk_tk (b n : Int) : tk b (tk b n) = tk b n := by
  unfold tk; split
  · rfl
  · exact Int.emod_emod_of_dvd _ (Int.dvd_refl b)
theorem tk_add_l (b x y : Int) : tk b (tk b x + y) = tk b (x + y) := by
  unfold tk; split
  · rfl
  · exact Int.emod_add_emod ..
theorem tk_add_r (b x y : Int) : tk b (x + tk b y) = tk b (x + y) := by
  rw [Int.add_comm,tk_add_l,Int.add_comm]
theorem tk_mul_r (b x y : Int) : tk b (x * tk b y) = tk b (x * y) := by
  unfold tk; split
  · rfl
  · rw [Int.mul_emod,Int.emod_emod_of_dvd _ (Int.dvd_refl b),← Int.mul_emod]
theorem tk_mul_l (b x y : Int) : tk b (tk b x * y) = tk b (x * y) := by
  rw [Int.mul_comm,tk_mul_r,Int.mul_comm]
theorem tk_congr_add {b x x' y y' : Int} (h : tk b x = tk b x') (h' : tk b y = tk b y') : tk b (x + y) = tk b (x' + y') := by
  rw [← tk_add_l,← tk_add_r,h,h',tk_add_r,tk_add_l]
noncomputable def S (rule : List Int) (f : Nat → Int) (n : Nat) : Nat → Int
  | 0 => 0
  | m + 1 => S rule f n m + rule.getD m 0 * f (n - 1 - m)
theorem getD_map {f : Int → Int} (h0 : f 0 = 0) : ∀ (l : List Int) (k : Nat),(l.map f).getD k 0 = f (l.getD k 0)
  | [],k => by simp [h0]
  | x :: r,0 => by simp
  | x :: r,k + 1 => by
    have := getD_map h0 r k
    simpa using this
noncomputable def row (b : Int) (rule starts : List Int) : Nat → List Int
  | 0 => []
  | n + 1 => row b rule starts n ++ [if n < starts.length then starts.getD n 0 else tk b (S rule (fun i => (row b rule starts n).getD i 0) n rule.length)]
theorem row_len (b : Int) (rule starts : List Int) : ∀ n,(row b rule starts n).length = n
  | 0 => rfl
  | n + 1 => by simp [row,row_len b rule starts n]
noncomputable def at_ (b : Int) (rule starts : List Int) (n : Nat) : Int := (row b rule starts (n + 1)).getD n 0
theorem at_val (b : Int) (rule starts : List Int) (n : Nat) : at_ b rule starts n = if n < starts.length then starts.getD n 0 else tk b (S rule (fun i => (row b rule starts n).getD i 0) n rule.length) := by
  unfold at_
  have hl := row_len b rule starts n
  show (row b rule starts n ++ _).getD n 0 = _
  rw [List.getD_eq_getElem?_getD,List.getElem?_append_right (by omega),hl]
  simp
theorem at_lt {b : Int} {rule starts : List Int} {n : Nat} (h : n < starts.length) : at_ b rule starts n = starts.getD n 0 := by
  rw [at_val,if_pos h]
noncomputable def Bd (n : Nat) (x : Int) : Prop := x.natAbs < 2 ^ n
theorem Bd.mono {m n : Nat} {x : Int} (h : Bd m x) (hmn : m ≤ n) : Bd n x := Nat.lt_of_lt_of_le h (Nat.pow_le_pow_right (by decide) hmn)
theorem Bd.mul {m n : Nat} {x y : Int} (h : Bd m x) (h' : Bd n y) : Bd (m + n) (x * y) := by
  unfold Bd at *
  rw [Int.natAbs_mul,Nat.pow_add]
  exact Nat.mul_lt_mul'' h h'
theorem Bd.add {n : Nat} {x y : Int} (h : Bd n x) (h' : Bd n y) : Bd (n + 1) (x + y) := by
  unfold Bd at *
  have := Int.natAbs_add_le x y
  rw [Nat.pow_succ]
  omega
theorem Bd.zero (n : Nat) : Bd n 0 := Nat.pow_pos (by decide)
theorem Bd.of {n : Nat} {x : Int} (h1 : -(2 ^ n) < x) (h2 : x < 2 ^ n) : Bd n x := by
  unfold Bd
  have e : ((2 ^ n : Nat) : Int) = (2 : Int) ^ n := by simp
  omega
theorem Bd.emod {n : Nat} {x b : Int} (hb : 0 < b) (h : Bd n b) : Bd n (x % b) := by
  unfold Bd at *
  have := Int.emod_nonneg x (show b ≠ 0 by omega)
  have := Int.emod_lt_of_pos x hb
  omega
theorem getD_mem_or (l : List Int) (k : Nat) : l.getD k 0 = 0 ∨ l.getD k 0 ∈ l := by
  by_cases h : k < l.length
  · right
    rw [List.getD_eq_getElem?_getD,List.getElem?_eq_getElem h]
    exact List.getElem_mem h
  · left
    rw [List.getD_eq_getElem?_getD,List.getElem?_eq_none (by omega)]
    rfl
theorem Bd.getD {l : List Int} {n : Nat} (h : ∀ x ∈ l,Bd n x) (k : Nat) : Bd n (l.getD k 0) := by
  rcases getD_mem_or l k with e | e
  · rw [e]; exact .zero n
  · exact h _ e
theorem tk_bd {b x : Int} {n : Nat} (hb : 0 ≤ b) (hb' : Bd n b) (h : Bd n x) : Bd n (tk b x) := by
  unfold tk
  split
  · exact h
  · exact Bd.emod (by omega) hb'
end Rm
namespace Om
theorem mod_mul {x y x' y' p : Int} (h : x % p = x' % p) (h' : y % p = y' % p) : (x * y) % p = (x' * y') % p := by
  rw [Int.mul_emod,h,h',← Int.mul_emod]
theorem mod_pow {x x' p : Int} (h : x % p = x' % p) : ∀ n : Nat,(x ^ n) % p = (x' ^ n) % p
  | 0 => by simp
  | n + 1 => by rw [Int.pow_succ,Int.pow_succ]; exact mod_mul (mod_pow h n) h
noncomputable def Keeps (p a : Int) (e : Nat) (power square : Int) (left : Nat) : Prop := (power * square ^ left) % p = (a ^ e) % p
theorem keeps_start (p a : Int) (e : Nat) : Keeps p a e 1 a e := by unfold Keeps; rw [Int.one_mul]
theorem pow_two_mul (x : Int) : ∀ n : Nat,(x * x) ^ n = x ^ (2 * n)
  | 0 => by simp
  | n + 1 => by
    rw [Int.pow_succ,pow_two_mul x n,show 2 * (n + 1) = 2 * n + 1 + 1 by omega,Int.pow_succ,Int.pow_succ,Int.mul_assoc]
theorem keeps_odd {p a : Int} {e : Nat} {power square : Int} {left : Nat} (h : Keeps p a e power square left) (ho : left % 2 = 1) : Keeps p a e (power * square % p) (square * square % p) (left / 2) := by
  unfold Keeps at *
  have h1 : (power * square % p) % p = (power * square) % p := Int.emod_emod_of_dvd _ (Int.dvd_refl p)
  have h2 := mod_pow (p := p) (x := square * square % p) (x' := square * square) (Int.emod_emod_of_dvd _ (Int.dvd_refl p)) (left / 2)
  rw [mod_mul h1 h2,← h,pow_two_mul,Int.mul_assoc]
  have e2 : left = 2 * (left / 2) + 1 := by omega
  conv => rhs; rw [e2,Int.pow_succ]
  rw [Int.mul_comm square]
theorem keeps_even {p a : Int} {e : Nat} {power square : Int} {left : Nat} (h : Keeps p a e power square left) (ho : ¬ left % 2 = 1) : Keeps p a e power (square * square % p) (left / 2) := by
  unfold Keeps at *
  have h2 := mod_pow (p := p) (x := square * square % p) (x' := square * square) (Int.emod_emod_of_dvd _ (Int.dvd_refl p)) (left / 2)
  rw [mod_mul rfl h2,← h,pow_two_mul]
  have e2 : left = 2 * (left / 2) := by omega
  conv => rhs; rw [e2]
theorem keeps_end {p a : Int} {e : Nat} {power square : Int} (h : Keeps p a e power square 0) : power % p = a ^ e % p := by
  unfold Keeps at h
  rwa [Int.pow_zero,Int.mul_one] at h
end Om
namespace Pm
open Rm
noncomputable def sm : Nat → (Nat → Int) → Int
  | 0,_ => 0
  | n + 1,f => sm n f + f n
theorem sm_congr {f g : Nat → Int} : ∀ {n : Nat},(∀ k,k < n → f k = g k) → sm n f = sm n g
  | 0,_ => rfl
  | n + 1,h => by rw [sm,sm,sm_congr fun k hk => h k (by omega),h n (by omega)]
theorem sm_zero : ∀ n : Nat,sm n (fun _ => 0) = 0
  | 0 => rfl
  | n + 1 => by rw [sm,sm_zero n]; rfl
theorem sm_none {f : Nat → Int} {n : Nat} (h : ∀ k,k < n → f k = 0) : sm n f = 0 := by rw [sm_congr h,sm_zero]
theorem sm_head (f : Nat → Int) : ∀ n : Nat,sm (n + 1) f = f 0 + sm n (fun i => f (i + 1))
  | 0 => by simp [sm]
  | n + 1 => by
    rw [sm,sm_head f n,sm,Int.add_assoc]
theorem sm_add (f g : Nat → Int) : ∀ n : Nat,sm n (fun k => f k + g k) = sm n f + sm n g
  | 0 => rfl
  | n + 1 => by rw [sm,sm,sm,sm_add f g n]; omega
theorem sm_mul (c : Int) (f : Nat → Int) : ∀ n : Nat,sm n (fun k => c * f k) = c * sm n f
  | 0 => by simp [sm]
  | n + 1 => by rw [sm,sm,sm_mul c f n,Int.mul_add]
theorem sm_more {f : Nat → Int} {m : Nat} : ∀ {n : Nat},m ≤ n → (∀ k,m ≤ k → k < n → f k = 0) → sm n f = sm m f
  | 0,h,_ => by rw [show m = 0 by omega]
  | n + 1,h,h0 => by
    by_cases e : m = n + 1
    · rw [e]
    · rw [sm,sm_more (n := n) (by omega) (fun k h1 h2 => h0 k h1 (by omega)),h0 n (by omega) (by omega),Int.add_zero]
theorem tk0 (b : Int) : tk b 0 = 0 := by unfold tk; split <;> simp
theorem tk_sm {b : Int} {f g : Nat → Int} : ∀ {n : Nat},(∀ k,k < n → tk b (f k) = tk b (g k)) → tk b (sm n f) = tk b (sm n g)
  | 0,_ => rfl
  | n + 1,h => by
    rw [sm,sm]
    exact tk_congr_add (tk_sm fun k hk => h k (by omega)) (h n (by omega))
theorem list_sum (f : Nat → Int) : ∀ n : Nat,((List.range n).map f).sum = sm n f
  | 0 => rfl
  | n + 1 => by rw [List.range_succ,List.map_append,List.sum_append,list_sum f n]; simp [sm]
noncomputable def cv : (Nat → Int) → (Nat → Int) → Nat → Int
  | f,g,0 => f 0 * g 0
  | f,g,k + 1 => f 0 * g (k + 1) + cv (fun i => f (i + 1)) g k
theorem cv_sm : ∀ (f g : Nat → Int) (k : Nat),cv f g k = sm (k + 1) (fun j => f j * g (k - j))
  | f,g,0 => by simp [cv,sm]
  | f,g,k + 1 => by
    rw [cv,cv_sm _ g k,sm_head (fun j => f j * g (k + 1 - j))]
    refine congrArg (_ + ·) (sm_congr fun j hj => ?_)
    rw [show k + 1 - (j + 1) = k - j by omega]
theorem cv_last : ∀ (f g : Nat → Int) (k : Nat),cv f g (k + 1) = cv f (fun i => g (i + 1)) k + f (k + 1) * g 0
  | f,g,0 => rfl
  | f,g,k + 1 => by
    rw [cv,cv_last (fun i => f (i + 1)) g k,cv,Int.add_assoc]
theorem cv_comm : ∀ (f g : Nat → Int) (k : Nat),cv f g k = cv g f k
  | f,g,0 => Int.mul_comm _ _
  | f,g,k + 1 => by
    rw [cv,cv_last,cv_comm (fun i => f (i + 1)) g k,Int.add_comm,Int.mul_comm]
theorem cv_congr {f f' g g' : Nat → Int} {k : Nat} (h : ∀ i,i ≤ k → f i = f' i) (h' : ∀ i,i ≤ k → g i = g' i) : cv f g k = cv f' g' k := by
  rw [cv_sm,cv_sm]
  exact sm_congr fun j hj => by rw [h j (by omega),h' _ (by omega)]
theorem cv_tk {b : Int} {f f' g g' : Nat → Int} {k : Nat} (h : ∀ i,i ≤ k → tk b (f i) = tk b (f' i)) (h' : ∀ i,i ≤ k → tk b (g i) = tk b (g' i)) : tk b (cv f g k) = tk b (cv f' g' k) := by
  rw [cv_sm,cv_sm]
  exact tk_sm fun j hj => by rw [← tk_mul_l,← tk_mul_r,h j (by omega),h' _ (by omega),tk_mul_r,tk_mul_l]
theorem cv_addl (f f' g : Nat → Int) (k : Nat) : cv (fun i => f i + f' i) g k = cv f g k + cv f' g k := by
  rw [cv_sm,cv_sm,cv_sm,← sm_add]
  exact sm_congr fun j _ => Int.add_mul ..
theorem cv_addr (f g g' : Nat → Int) (k : Nat) : cv f (fun i => g i + g' i) k = cv f g k + cv f g' k := by
  rw [cv_comm,cv_addl,cv_comm,cv_comm g']
theorem cv_mull (c : Int) (f g : Nat → Int) (k : Nat) : cv (fun i => c * f i) g k = c * cv f g k := by
  rw [cv_sm,cv_sm,← sm_mul]
  exact sm_congr fun j _ => Int.mul_assoc ..
theorem cv_assoc : ∀ (f g h : Nat → Int) (k : Nat),cv (cv f g) h k = cv f (cv g h) k
  | f,g,h,0 => by simp [cv,Int.mul_assoc]
  | f,g,h,k + 1 => by
    have e : (fun i => cv f g (i + 1)) = fun i => f 0 * (fun i => g (i + 1)) i + cv (fun i => f (i + 1)) g i := rfl
    rw [cv,e,cv_addl (fun i => f 0 * (fun i => g (i + 1)) i),cv_mull,cv_assoc (fun i => f (i + 1)) g h k,cv,cv,cv]
    rw [Int.mul_add,Int.mul_assoc]
    omega
theorem cv_zero {f g : Nat → Int} {k : Nat} (h : ∀ i,i ≤ k → f i = 0 ∨ g (k - i) = 0) : cv f g k = 0 := by
  rw [cv_sm]
  exact sm_none fun j hj => by rcases h j (by omega) with e | e <;> rw [e] <;> simp
noncomputable def co (p : List Int) (k : Nat) : Int := p.getD k 0
theorem co_nil (k : Nat) : co [] k = 0 := by simp [co]
theorem co_zero (x : Int) (r : List Int) : co (x :: r) 0 = x := by simp [co]
theorem co_succ (x : Int) (r : List Int) (k : Nat) : co (x :: r) (k + 1) = co r k := by simp [co]
theorem co_ge {p : List Int} {k : Nat} (h : p.length ≤ k) : co p k = 0 := by
  rw [co,List.getD_eq_getElem?_getD,List.getElem?_eq_none h]; rfl
theorem co_lt {p : List Int} {k : Nat} (h : k < p.length) : co p k = p[k] := by
  rw [co,List.getD_eq_getElem?_getD,List.getElem?_eq_getElem h]; rfl
theorem co_mem {p : List Int} {k : Nat} (h : k < p.length) : co p k ∈ p := by rw [co_lt h]; exact List.getElem_mem h
noncomputable def ofF (n : Nat) (f : Nat → Int) : List Int := (List.range n).map f
theorem ofF_len (n : Nat) (f : Nat → Int) : (ofF n f).length = n := by simp [ofF]
theorem co_ofF (n : Nat) (f : Nat → Int) (k : Nat) : co (ofF n f) k = if k < n then f k else 0 := by
  by_cases h : k < n
  · rw [if_pos h,co,ofF,List.getD_eq_getElem?_getD,List.getElem?_map,List.getElem?_range h]; rfl
  · rw [if_neg h,co_ge (by rw [ofF_len]; omega)]
theorem ofF_succ (n : Nat) (f : Nat → Int) : ofF (n + 1) f = ofF n f ++ [f n] := by
  rw [ofF,List.range_succ,List.map_append]; rfl
theorem ofF_co (p : List Int) : ofF p.length (co p) = p := by
  apply List.ext_getElem (by rw [ofF_len])
  intro i h1 h2
  simp only [ofF,List.getElem_map,List.getElem_range]
  exact co_lt h2
theorem co_ext {p q : List Int} (hl : p.length = q.length) (h : ∀ k,co p k = co q k) : p = q := by
  rw [← ofF_co p,← ofF_co q,hl]
  exact List.map_congr_left fun k _ => h k
theorem co_set (p : List Int) (i : Nat) (x : Int) (k : Nat) (hi : i < p.length) : co (p.set i x) k = if k = i then x else co p k := by
  unfold co
  rw [List.getD_eq_getElem?_getD,List.getElem?_set,List.getD_eq_getElem?_getD]
  by_cases e : i = k
  · subst e; simp [hi]
  · rw [if_neg e,if_neg (fun z => e z.symm)]
theorem co_map {f : Int → Int} (h : f 0 = 0) (p : List Int) (k : Nat) : co (p.map f) k = f (co p k) := getD_map h p k
theorem co_append (p q : List Int) (k : Nat) : co (p ++ q) k = if k < p.length then co p k else co q (k - p.length) := by
  unfold co
  by_cases h : k < p.length
  · rw [if_pos h,List.getD_eq_getElem?_getD,List.getElem?_append_left h,← List.getD_eq_getElem?_getD]
  · rw [if_neg h,List.getD_eq_getElem?_getD,List.getElem?_append_right (by omega),← List.getD_eq_getElem?_getD]
noncomputable def trim : List Int → List Int
  | [] => []
  | x :: r => if x = 0 ∧ trim r = [] then [] else x :: trim r
theorem co_trim : ∀ (p : List Int) (k : Nat),co (trim p) k = co p k
  | [],k => rfl
  | x :: r,k => by
    rw [trim]
    have ih := co_trim r
    by_cases h : x = 0 ∧ trim r = []
    · rw [if_pos h]
      rw [h.2] at ih
      cases k with
      | zero => rw [co_nil,co_zero,h.1]
      | succ k => rw [co_succ,← ih k,co_nil,co_nil]
    · rw [if_neg h]
      cases k with
      | zero => rw [co_zero,co_zero]
      | succ k => rw [co_succ,co_succ,ih k]
theorem trim_nil {p : List Int} : trim p = [] ↔ ∀ k,co p k = 0 := by
  constructor
  · intro h k; rw [← co_trim,h,co_nil]
  · intro h
    induction p with
    | nil => rfl
    | cons x r ih =>
      rw [trim,if_pos ⟨by have := h 0; rwa [co_zero] at this,ih fun k => by have := h (k + 1); rwa [co_succ] at this⟩]
theorem trim_ext : ∀ {p q : List Int},(∀ k,co p k = co q k) → trim p = trim q
  | [],q,h => by rw [show trim q = [] from trim_nil.mpr fun k => by rw [← h k,co_nil]]; rfl
  | x :: r,[],h => by rw [show trim (x :: r) = [] from trim_nil.mpr fun k => by rw [h k,co_nil]]; rfl
  | x :: r,y :: s,h => by
    have e1 := h 0
    rw [co_zero,co_zero] at e1
    have e2 : trim r = trim s := trim_ext fun k => by have := h (k + 1); rwa [co_succ,co_succ] at this
    rw [trim,trim,e1,e2]
theorem trim_trim (p : List Int) : trim (trim p) = trim p := trim_ext (co_trim p)
theorem trim_len_le : ∀ p : List Int,(trim p).length ≤ p.length
  | [] => Nat.le_refl _
  | x :: r => by
    have := trim_len_le r
    rw [trim]; split
    · simp
    · simp; omega
theorem trim_len_of : ∀ {p : List Int} {n : Nat},(∀ k,n ≤ k → co p k = 0) → (trim p).length ≤ n
  | [],n,_ => Nat.zero_le _
  | x :: r,0,h => by rw [trim_nil.mpr fun k => h k (Nat.zero_le _)]; exact Nat.le_refl 0
  | x :: r,n + 1,h => by
    have := trim_len_of (p := r) (n := n) fun k hk => by have := h (k + 1) (by omega); rwa [co_succ] at this
    rw [trim]; split
    · simp
    · simp; omega
theorem trim_zero (p : List Int) : trim (p ++ [0]) = trim p := trim_ext fun k => by
  rw [co_append]
  by_cases h : k < p.length
  · rw [if_pos h]
  · rw [if_neg h,co_ge (p := p) (by omega)]
    cases k - p.length with
    | zero => rfl
    | succ j => rw [co_succ,co_nil]
theorem trim_last : ∀ (p : List Int) {x : Int},x ≠ 0 → trim (p ++ [x]) = p ++ [x]
  | [],x,h => by simp [trim,h]
  | y :: r,x,h => by
    show trim (y :: (r ++ [x])) = _
    rw [trim,trim_last r h,if_neg (by simp)]; rfl
theorem trim_mem {p : List Int} {x : Int} (h : x ∈ trim p) : x ∈ p := by
  induction p with
  | nil => exact h
  | cons y r ih =>
    rw [trim] at h
    split at h
    · cases h
    · rcases List.mem_cons.mp h with rfl | h
      · exact List.mem_cons_self
      · exact List.mem_cons_of_mem _ (ih h)
structure Py (b : Int) (p : List Int) : Prop where
  tr : trim p = p
  nu : ∀ x ∈ p,tk b x = x
theorem Py.co {b : Int} {p : List Int} (h : Py b p) (k : Nat) : tk b (co p k) = co p k := by
  by_cases hk : k < p.length
  · exact h.nu _ (co_mem hk)
  · rw [co_ge (by omega),tk0]
theorem Py.ext {b : Int} {p q : List Int} (h : Py b p) (h' : Py b q) (e : ∀ k,tk b (Pm.co p k) = tk b (Pm.co q k)) : p = q := by
  rw [← h.tr,← h'.tr]
  exact trim_ext fun k => by rw [← h.co k,← h'.co k]; exact e k
theorem Py.of {b : Int} {p : List Int} (h : ∀ x ∈ p,tk b x = x) : Py b (trim p) := ⟨trim_trim p,fun x hx => h x (trim_mem hx)⟩
theorem Py.nil (b : Int) : Py b [] := ⟨rfl,fun _ h => nomatch h⟩
theorem mem_ofF {n : Nat} {f : Nat → Int} {x : Int} (h : x ∈ ofF n f) : ∃ k,k < n ∧ x = f k := by
  obtain ⟨k,hk,e⟩ := List.mem_map.mp h
  exact ⟨k,List.mem_range.mp hk,e.symm⟩
theorem Py.ofF (b : Int) (n : Nat) (f : Nat → Int) : Py b (trim (Pm.ofF n fun k => tk b (f k))) := Py.of fun x hx => by
  obtain ⟨k,_,rfl⟩ := mem_ofF hx
  exact tk_tk ..
noncomputable def add (b : Int) (p q : List Int) : List Int := trim (ofF (max p.length q.length) fun k => tk b (co p k + co q k))
noncomputable def mul (b : Int) (p q : List Int) : List Int := trim (ofF (p.length + q.length) fun k => tk b (cv (co p) (co q) k))
theorem add_py (b : Int) (p q : List Int) : Py b (add b p q) := Py.ofF ..
theorem add_co (b : Int) (p q : List Int) (k : Nat) : co (add b p q) k = tk b (co p k + co q k) := by
  rw [add,co_trim,co_ofF]
  split
  · rfl
  · rw [co_ge (p := p) (by omega),co_ge (p := q) (by omega),Int.add_zero,tk0]
theorem mul_co (b : Int) (p q : List Int) (k : Nat) : co (mul b p q) k = tk b (cv (co p) (co q) k) := by
  rw [mul,co_trim,co_ofF]
  split
  · rfl
  · rw [cv_zero,tk0]
    intro i hi
    by_cases h : i < p.length
    · exact .inr (co_ge (by omega))
    · exact .inl (co_ge (by omega))
noncomputable def W (f g : Nat → Int) (i k c : Nat) : Int := sm i (fun j => if j ≤ c then f j * g (c - j) else 0) + (if i ≤ c ∧ c - i < k then f i * g (c - i) else 0)
theorem W_zero (f g : Nat → Int) (c : Nat) : W f g 0 0 c = 0 := by simp [W,sm]
theorem W_step {f g : Nat → Int} {i k c : Nat} : W f g i (k + 1) c = W f g i k c + (if c = i + k then f i * g k else 0) := by
  unfold W
  by_cases h : c = i + k
  · rw [if_pos h,if_pos (by omega),if_neg (by omega),show c - i = k by omega]; omega
  · rw [if_neg h]
    by_cases h2 : i ≤ c ∧ c - i < k
    · rw [if_pos h2,if_pos (by omega)]; omega
    · rw [if_neg h2,if_neg (by omega)]; omega
theorem W_row {f g : Nat → Int} {i n c : Nat} (hg : ∀ k,n ≤ k → g k = 0) : W f g i n c = W f g (i + 1) 0 c := by
  unfold W
  rw [sm,if_neg (show ¬ (i + 1 ≤ c ∧ c - (i + 1) < 0) by omega)]
  by_cases h : i ≤ c
  · rw [if_pos h]
    by_cases h2 : c - i < n
    · rw [if_pos ⟨h,h2⟩]; omega
    · rw [if_neg (by omega),hg _ (by omega),Int.mul_zero]; omega
  · rw [if_neg (by omega),if_neg h]; omega
theorem W_end {f g : Nat → Int} {m c : Nat} (hf : ∀ k,m ≤ k → f k = 0) : W f g m 0 c = cv f g c := by
  unfold W
  rw [if_neg (by omega),Int.add_zero,cv_sm]
  by_cases h : m ≤ c + 1
  · rw [sm_more (n := c + 1) h fun k h1 _ => by rw [hf k h1,Int.zero_mul]]
    exact sm_congr fun j hj => if_pos (by omega)
  · rw [sm_more (m := c + 1) (n := m) (by omega) fun k h1 _ => if_neg (by omega)]
    exact sm_congr fun j hj => if_pos (by omega)
end Pm
namespace Pm
open Rm
noncomputable def ofRule (b : Int) (c : List Int) : List Int := ofF c.length (fun k => tk b (0 - co c (c.length - 1 - k))) ++ [1]
theorem ofRule_len (b : Int) (c : List Int) : (ofRule b c).length = c.length + 1 := by simp [ofRule,ofF_len]
theorem Bd_co {p : List Int} {u : Nat} (h : ∀ x ∈ p,Bd u x) (k : Nat) : Bd u (co p k) := Bd.getD h k
theorem ofRule_bd {b : Int} {c : List Int} {u : Nat} (hb : 0 ≤ b) (hb1 : b < 1000) (hu : 10 ≤ u) (h : ∀ x ∈ c,Bd u x) : ∀ x ∈ ofRule b c,Bd u x := by
  intro x hx
  rcases List.mem_append.mp hx with hx | hx
  · obtain ⟨k,_,rfl⟩ := mem_ofF hx
    refine tk_bd hb ((Bd.of (n := 10) (by omega) (by omega)).mono (by omega)) ?_
    have := Bd_co h (c.length - 1 - k)
    unfold Bd at this ⊢
    rw [Int.zero_sub,Int.natAbs_neg]; exact this
  · rw [List.mem_singleton.mp hx]
    exact (Bd.of (n := 10) (by decide) (by decide)).mono hu
end Pm
namespace Pm
open Rm
theorem sm_single (x : Int) (j : Nat) : ∀ n : Nat,sm n (fun i => if i = j then x else 0) = if j < n then x else 0
  | 0 => by simp [sm]
  | n + 1 => by
    rw [sm,sm_single x j n]
    by_cases h : n = j
    · rw [if_pos h,if_neg (by omega),if_pos (by omega)]; omega
    · rw [if_neg h]
      by_cases h2 : j < n
      · rw [if_pos h2,if_pos (by omega)]; omega
      · rw [if_neg h2,if_neg (by omega)]; omega
theorem tk_sub_zero {b x y : Int} : tk b (x - y) = 0 ↔ tk b x = tk b y := by
  constructor
  · intro h
    have := tk_congr_add (b := b) (x := x - y) (x' := 0) (y := y) (y' := y) (by rw [h,tk0]) rfl
    rwa [show x - y + y = x by omega,Int.zero_add] at this
  · intro h
    have := tk_congr_add (b := b) (x := x) (x' := y) (y := -y) (y' := -y) h rfl
    rw [show x + -y = x - y by omega,show y + -y = 0 by omega,tk0] at this
    exact this
theorem cv_point (f : Int) (s : Nat) (g : Nat → Int) (k : Nat) : cv (fun i => if i = s then f else 0) g k = if s ≤ k then f * g (k - s) else 0 := by
  rw [cv_sm]
  have e : sm (k + 1) (fun j => (if j = s then f else 0) * g (k - j)) = sm (k + 1) (fun j => if j = s then f * g (k - s) else 0) := sm_congr fun j _ => by
    by_cases h : j = s
    · rw [if_pos h,if_pos h,h]
    · rw [if_neg h,if_neg h,Int.zero_mul]
  rw [e,sm_single]
  by_cases h : s ≤ k
  · rw [if_pos h,if_pos (by omega)]
  · rw [if_neg h,if_neg (by omega)]
structure Mon (m : List Int) : Prop where
  pos : 0 < m.length
  one : co m (m.length - 1) = 1
structure Div (b : Int) (p m q r : List Int) : Prop where
  qy : Py b q
  ry : Py b r
  short : r.length < m.length
  eq : ∀ k,tk b (cv (co q) (co m) k + co r k) = tk b (co p k)
theorem Div.uniq {b : Int} {p m q r q' r' : List Int} (hm : Mon m) (h : Div b p m q r) (h' : Div b p m q' r') : q = q' ∧ r = r' := by
  have hp := hm.pos
  have e1 : ∀ k,tk b (cv (fun i => co q i - co q' i) (co m) k + (co r k - co r' k)) = 0 := by
    intro k
    have e2 : cv (fun i => co q i - co q' i) (co m) k = cv (co q) (co m) k - cv (co q') (co m) k := by
      have := cv_addl (co q) (fun i => -1 * co q' i) (co m) k
      rw [cv_mull] at this
      have e3 : (fun i => co q i + -1 * co q' i) = fun i => co q i - co q' i := by funext i; omega
      rw [e3] at this
      omega
    rw [e2,show cv (co q) (co m) k - cv (co q') (co m) k + (co r k - co r' k) = (cv (co q) (co m) k + co r k) - (cv (co q') (co m) k + co r' k) by omega,tk_sub_zero,h.eq,h'.eq]
  have e4 : ∀ d j,q.length + q'.length ≤ j + d → tk b (co q j - co q' j) = 0 := by
    intro d
    induction d with
    | zero => intro j hj; rw [co_ge (by omega),co_ge (by omega)]; exact tk0 b
    | succ d ih =>
      intro j hj
      have e5 := e1 (j + (m.length - 1))
      have hs := h.short
      have hs' := h'.short
      rw [co_ge (p := r) (by omega),co_ge (p := r') (by omega),Int.sub_zero,Int.add_zero,cv_sm] at e5
      rw [← e5]
      have e6 : tk b (sm (j + (m.length - 1) + 1) fun i => (co q i - co q' i) * co m (j + (m.length - 1) - i)) = tk b (sm (j + (m.length - 1) + 1) fun i => if i = j then co q j - co q' j else 0) := tk_sm fun i hi => by
        by_cases c : i = j
        · rw [if_pos c,c,show j + (m.length - 1) - j = m.length - 1 by omega,hm.one,Int.mul_one]
        · rw [if_neg c]
          by_cases c2 : i < j
          · rw [co_ge (p := m) (by omega),Int.mul_zero]
          · rw [← tk_mul_l,ih i (by omega),Int.zero_mul]
      rw [e6,sm_single,if_pos (by omega)]
  have eq : q = q' := h.qy.ext h'.qy fun k => tk_sub_zero.mp (e4 (q.length + q'.length) k (by omega))
  refine ⟨eq,h.ry.ext h'.ry fun k => ?_⟩
  have e7 := e1 k
  rw [eq] at e7
  have e8 : (fun i => co q' i - co q' i) = fun _ => 0 := by funext i; omega
  rw [e8,cv_zero (fun _ _ => .inl rfl),Int.zero_add] at e7
  exact tk_sub_zero.mp e7
structure DivI (b : Int) (p m : List Int) (s : Nat) (o l : List Int) : Prop where
  eq : ∀ k,tk b (cv (co o) (co m) k + co l k) = tk b (co p k)
  zero : ∀ k,s + (m.length - 1) ≤ k → co l k = 0
  low : ∀ k,k < s → co o k = 0
  ol : o.length = p.length - (m.length - 1)
  ll : l.length = p.length
  on : ∀ k,tk b (co o k) = co o k
  ln : ∀ k,tk b (co l k) = co l k
theorem DivI.start {b : Int} {p m : List Int} (hp : ∀ k,tk b (co p k) = co p k) : DivI b p m (p.length - (m.length - 1)) (ofF (p.length - (m.length - 1)) fun _ => 0) p := by
  have z : ∀ k,co (ofF (p.length - (m.length - 1)) fun _ => 0) k = 0 := fun k => by rw [co_ofF]; split <;> rfl
  exact ⟨fun k => by rw [cv_zero fun i _ => .inl (z i),Int.zero_add],fun k hk => co_ge (by omega),fun k _ => z k,ofF_len _ _,rfl,fun k => by rw [z,tk0],hp⟩
noncomputable def lf (b f : Int) (s t : Nat) (l m : List Int) (k : Nat) : Int := if s ≤ k ∧ k < s + t then tk b (co l k - f * co m (k - s)) else co l k
theorem lf_zero (b f : Int) (s : Nat) (l m : List Int) (k : Nat) : lf b f s 0 l m k = co l k := if_neg (by omega)
theorem lf_step (b f : Int) (s t : Nat) (l m : List Int) (k : Nat) : lf b f s (t + 1) l m k = if k = s + t then tk b (lf b f s t l m k - f * co m t) else lf b f s t l m k := by
  unfold lf
  by_cases h : k = s + t
  · rw [if_pos h,if_pos (by omega),if_neg (by omega),show k - s = t by omega]
  · rw [if_neg h]
    by_cases h2 : s ≤ k ∧ k < s + t
    · rw [if_pos h2,if_pos (by omega)]
    · rw [if_neg h2,if_neg (by omega)]
theorem lf_all {b f : Int} {s : Nat} {l m : List Int} (hl : ∀ k,tk b (co l k) = co l k) (k : Nat) : lf b f s m.length l m k = tk b (co l k - (if s ≤ k then f * co m (k - s) else 0)) := by
  unfold lf
  by_cases h : s ≤ k
  · rw [if_pos h]
    by_cases h2 : k < s + m.length
    · rw [if_pos ⟨h,h2⟩]
    · rw [if_neg (by omega),co_ge (p := m) (by omega),Int.mul_zero,Int.sub_zero,hl]
  · rw [if_neg (by omega),if_neg h,Int.sub_zero,hl]
theorem DivI.step {b : Int} {p m o l l' : List Int} {s : Nat} (hm : Mon m) (h : DivI b p m (s + 1) o l) (hs : s < p.length - (m.length - 1)) (hl : l'.length = l.length) (e : ∀ k,co l' k = lf b (co l (s + (m.length - 1))) s m.length l m k) :
    DivI b p m s (o.set s (co l (s + (m.length - 1)))) l' := by
  have hp := hm.pos
  have ho := h.ol
  have eo : co (o.set s (co l (s + (m.length - 1)))) = fun k => co o k + (if k = s then co l (s + (m.length - 1)) else 0) := by
    funext k
    rw [co_set _ _ _ _ (by omega)]
    by_cases c : k = s
    · rw [if_pos c,if_pos c,c,h.low s (by omega),Int.zero_add]
    · rw [if_neg c,if_neg c,Int.add_zero]
  have el : ∀ k,co l' k = tk b (co l k - (if s ≤ k then co l (s + (m.length - 1)) * co m (k - s) else 0)) := fun k => by rw [e,lf_all h.ln]
  refine ⟨fun k => ?_,fun k hk => ?_,fun k hk => ?_,by rw [List.length_set,ho],by rw [hl,h.ll],fun k => ?_,fun k => by rw [el,tk_tk]⟩
  · rw [eo,cv_addl (co o),cv_point,el,tk_add_r,← h.eq k]
    congr 1; omega
  · rw [el,if_pos (by omega)]
    by_cases c : k = s + (m.length - 1)
    · rw [c,show s + (m.length - 1) - s = m.length - 1 by omega,hm.one,Int.mul_one,Int.sub_self,tk0]
    · rw [h.zero k (by omega),co_ge (p := m) (by omega),Int.mul_zero,Int.sub_zero,tk0]
  · rw [eo]; simp only; rw [h.low k (by omega),if_neg (by omega),Int.add_zero]
  · rw [co_set _ _ _ _ (by omega)]
    split
    · exact h.ln _
    · exact h.on _
theorem DivI.stop {b : Int} {p m o l : List Int} (hm : Mon m) (h : DivI b p m 0 o l) : Div b p m (trim o) (trim l) := by
  have hp := hm.pos
  have y : ∀ {x : List Int},(∀ k,tk b (co x k) = co x k) → Py b (trim x) := fun hx => Py.of fun z hz => by
    obtain ⟨k,hk,e⟩ := List.mem_iff_getElem.mp hz
    rw [← e,← co_lt hk]; exact hx k
  refine ⟨y h.on,y h.ln,?_,fun k => ?_⟩
  · have := trim_len_of (p := l) (n := m.length - 1) fun k hk => h.zero k (by omega)
    omega
  · rw [co_trim,← h.eq k]
    congr 2
    exact cv_congr (fun i _ => co_trim _ _) (fun _ _ => rfl)
end Pm
namespace Pm
open Rm
noncomputable def In2 (b : Int) (p q x : List Int) : Prop := ∃ u v,∀ k,tk b (co x k) = tk b (cv (co u) (co p) k + cv (co v) (co q) k)
theorem co_add0 (p q : List Int) (k : Nat) : co (add 0 p q) k = co p k + co q k := by rw [add_co,tk_zero]
theorem co_mul0 (p q : List Int) (k : Nat) : co (mul 0 p q) k = cv (co p) (co q) k := by rw [mul_co,tk_zero]
theorem In2.left (b : Int) (p q : List Int) : In2 b p q p := ⟨[1],[],fun k => by
  rw [cv_zero (f := co []) fun i _ => .inl (co_nil _),Int.add_zero,cv_sm,sm_more (m := 1) (by omega) fun j h1 _ => by rw [show co [1] j = 0 from co_ge (by simpa using h1),Int.zero_mul]]
  simp [sm,co_zero]⟩
theorem In2.swap {b : Int} {p q x : List Int} (h : In2 b p q x) : In2 b q p x := by
  obtain ⟨u,v,e⟩ := h
  exact ⟨v,u,fun k => by rw [e,Int.add_comm]⟩
theorem In2.trans {b : Int} {p q g s x : List Int} (hg : In2 b p q g) (hs : In2 b p q s) (h : In2 b g s x) : In2 b p q x := by
  obtain ⟨a,c,eg⟩ := hg
  obtain ⟨a',c',es⟩ := hs
  obtain ⟨u,v,e⟩ := h
  refine ⟨add 0 (mul 0 u a) (mul 0 v a'),add 0 (mul 0 u c) (mul 0 v c'),fun k => ?_⟩
  have e1 : tk b (cv (co u) (co g) k) = tk b (cv (co u) (fun i => cv (co a) (co p) i + cv (co c) (co q) i) k) := cv_tk (fun _ _ => rfl) fun i _ => eg i
  have e2 : tk b (cv (co v) (co s) k) = tk b (cv (co v) (fun i => cv (co a') (co p) i + cv (co c') (co q) i) k) := cv_tk (fun _ _ => rfl) fun i _ => es i
  rw [e,tk_congr_add e1 e2]
  congr 1
  have f1 : ∀ y z : List Int,co (add 0 (mul 0 u y) (mul 0 v z)) = fun i => cv (co u) (co y) i + cv (co v) (co z) i := fun y z => by
    funext i; rw [co_add0,co_mul0,co_mul0]
  rw [f1,f1,cv_addl (cv (co u) (co a)),cv_addl (cv (co u) (co c)),cv_addr,cv_addr,cv_assoc,cv_assoc,cv_assoc,cv_assoc]
  omega
theorem Div.in1 {b : Int} {p m q r : List Int} (h : Div b p m q r) : In2 b m r p := by
  refine ⟨q,[1],fun k => ?_⟩
  obtain ⟨u,v,e⟩ := In2.left b r []
  rw [← h.eq k]
  have : cv (co [1]) (co r) k = co r k := by
    rw [cv_sm,sm_more (m := 1) (by omega) fun j h1 _ => by rw [show co [1] j = 0 from co_ge (by simpa using h1),Int.zero_mul]]
    simp [sm,co_zero]
  rw [this]
theorem Div.in2 {b : Int} {p m q r : List Int} (h : Div b p m q r) : In2 b p m r := by
  refine ⟨[1],q.map (-1 * ·),fun k => ?_⟩
  have e1 : cv (co [1]) (co p) k = co p k := by
    rw [cv_sm,sm_more (m := 1) (by omega) fun j h1 _ => by rw [show co [1] j = 0 from co_ge (by simpa using h1),Int.zero_mul]]
    simp [sm,co_zero]
  have e2 : co (q.map (-1 * ·)) = fun i => -1 * co q i := by funext i; rw [co_map (by simp)]
  rw [e1,e2,cv_mull]
  have := tk_congr_add (h.eq k) (rfl : tk b (-1 * cv (co q) (co m) k) = tk b (-1 * cv (co q) (co m) k))
  rw [← this]
  congr 1; omega
structure Gcd (b : Int) (p q g : List Int) : Prop where
  py : Py b g
  mon : Mon g
  sum : In2 b p q g
  one : In2 b g [] p
  two : In2 b g [] q
theorem In2.dv {b : Int} {g p : List Int} (h : In2 b g [] p) : ∃ u,∀ k,tk b (co p k) = tk b (cv (co u) (co g) k) := by
  obtain ⟨u,v,e⟩ := h
  exact ⟨u,fun k => by rw [e,cv_zero (g := co []) fun i _ => .inr (co_nil _),Int.add_zero]⟩
theorem len_le_of {b : Int} (hb : b ≠ 1) {g p u : List Int} (hp : Py b p) (hm : Mon g) (hpm : Mon p) (e : ∀ k,tk b (co p k) = tk b (cv (co u) (co g) k)) : g.length ≤ p.length := by
  have h1 := hm.pos
  have h2 := hpm.pos
  have one_ne : tk b 1 ≠ 0 := by
    unfold tk
    split
    · decide
    · intro z
      have : b ∣ 1 := Int.dvd_of_emod_eq_zero z
      rcases Int.natAbs_dvd_natAbs.mpr this with ⟨c,hc⟩
      have hc' : b.natAbs * c = 1 := hc.symm
      have := Nat.eq_one_of_mul_eq_one_right hc'
      have hb' : b = -1 ∨ b = 1 := by omega
      rcases hb' with rfl | rfl
      · have := hp.nu (co p (p.length - 1)) (co_mem (by omega))
        rw [hpm.one] at this
        revert this; decide
      · exact hb rfl
  by_cases hlt : p.length < g.length
  · exfalso
    have z : ∀ d j,u.length ≤ j + d → tk b (co u j) = 0 := by
      intro d
      induction d with
      | zero => intro j hj; rw [co_ge (by omega),tk0]
      | succ d ih =>
        intro j hj
        have e5 := e (j + (g.length - 1))
        rw [co_ge (p := p) (by omega),tk0,cv_sm] at e5
        have e6 : tk b (sm (j + (g.length - 1) + 1) fun i => co u i * co g (j + (g.length - 1) - i)) = tk b (sm (j + (g.length - 1) + 1) fun i => if i = j then co u j else 0) := tk_sm fun i hi => by
          by_cases c : i = j
          · rw [if_pos c,c,show j + (g.length - 1) - j = g.length - 1 by omega,hm.one,Int.mul_one]
          · rw [if_neg c]
            by_cases c2 : i < j
            · rw [co_ge (p := g) (by omega),Int.mul_zero]
            · rw [← tk_mul_l,ih i (by omega),Int.zero_mul]
        rw [e6,sm_single,if_pos (by omega)] at e5
        exact e5.symm
    have e7 := e (p.length - 1)
    rw [hpm.one] at e7
    have e8 : tk b (cv (co u) (co g) (p.length - 1)) = tk b (cv (fun _ => 0) (co g) (p.length - 1)) := cv_tk (fun i _ => by rw [z u.length i (by omega),tk0]) fun _ _ => rfl
    rw [e8,cv_zero fun _ _ => .inl rfl,tk0] at e7
    exact one_ne e7
  · omega
theorem Gcd.uniq {b : Int} (hb : b ≠ 1) {p q g g' : List Int} (h : Gcd b p q g) (h' : Gcd b p q g') : g = g' := by
  obtain ⟨u,e⟩ := (h.one.trans h.two h'.sum).dv
  obtain ⟨u',e'⟩ := (h'.one.trans h'.two h.sum).dv
  have l1 := len_le_of hb h'.py h.mon h'.mon e
  have l2 := len_le_of hb h.py h'.mon h.mon e'
  have hp := h.mon.pos
  have y1 : Py b [1] := ⟨by simp [trim],fun x hx => by
    rw [List.mem_singleton.mp hx]
    have := h.py.nu (co g (g.length - 1)) (co_mem (by omega))
    rwa [h.mon.one] at this⟩
  have d1 : Div b g' g (trim (u.map (tk b))) [] := ⟨Py.of fun x hx => by obtain ⟨y,_,rfl⟩ := List.mem_map.mp hx; exact tk_tk ..,Py.nil b,hp,fun k => by
    rw [co_nil,Int.add_zero,e k]
    refine cv_tk (fun i _ => ?_) fun _ _ => rfl
    rw [co_trim,co_map (tk0 b),tk_tk]⟩
  have d2 : Div b g' g [1] (add b g' (g.map (-1 * ·))) := by
    refine ⟨y1,add_py ..,?_,fun k => ?_⟩
    · have : (add b g' (g.map (-1 * ·))).length ≤ g.length - 1 := trim_len_of fun k hk => by
        rw [co_ofF]
        split
        · rw [co_map (by simp)]
          by_cases c : k = g.length - 1
          · have a1 := h.mon.one
            have a2 := h'.mon.one
            rw [show g'.length - 1 = k by omega] at a2
            rw [c] at a2 ⊢
            rw [a1,a2]
            exact tk0 b
          · rw [co_ge (p := g) (by omega),co_ge (p := g') (by omega)]; exact tk0 b
        · rfl
      omega
    · have : cv (co [1]) (co g) k = co g k := by
        rw [cv_sm,sm_more (m := 1) (by omega) fun j h1 _ => by rw [show co [1] j = 0 from co_ge (by simpa using h1),Int.zero_mul]]
        simp [sm,co_zero]
      rw [this,add_co,co_map (by simp),tk_add_r]
      congr 1; omega
  obtain ⟨_,r⟩ := d1.uniq h.mon d2
  refine (h.py.ext h'.py fun k => ?_)
  have := congrArg (fun x => co x k) r
  change co [] k = co (add b g' (g.map (-1 * ·))) k at this
  rw [co_nil,add_co,co_map (by simp)] at this
  rw [eq_comm,← tk_sub_zero,show co g' k - co g k = co g' k + -1 * co g k by omega]
  exact this.symm
end Pm
namespace Pm
open Rm
theorem last_split {p : List Int} (h : p ≠ []) : p = p.dropLast ++ [co p (p.length - 1)] := by
  have hp : 0 < p.length := List.length_pos_iff.mpr h
  conv => lhs; rw [← List.dropLast_concat_getLast h]
  congr 2
  rw [co_lt (by omega),List.getLast_eq_getElem]
theorem trim_of_last {p : List Int} (h : p ≠ []) (h0 : co p (p.length - 1) ≠ 0) : trim p = p := by
  have e := last_split h
  rw [e,trim_last _ h0]
theorem last_ne {p : List Int} (h : p ≠ []) (ht : trim p = p) : co p (p.length - 1) ≠ 0 := by
  intro z
  have e := last_split h
  rw [z] at e
  have e2 : trim p = trim p.dropLast := by
    conv => lhs; rw [e]
    exact trim_zero _
  have := trim_len_le p.dropLast
  rw [← e2,ht,List.length_dropLast] at this
  have hp : 0 < p.length := List.length_pos_iff.mpr h
  omega
structure MonOf (b : Int) (p m : List Int) : Prop where
  py : Py b m
  len : m.length = p.length
  mon : p ≠ [] → Mon m
  to : ∃ c,∀ k,tk b (co m k) = tk b (c * co p k)
  of : ∃ c,∀ k,tk b (co p k) = tk b (c * co m k)
theorem In2.scale {b : Int} {p m : List Int} (h : ∃ c,∀ k,tk b (co m k) = tk b (c * co p k)) (q : List Int) : In2 b p q m := by
  obtain ⟨c,e⟩ := h
  refine ⟨[c],[],fun k => ?_⟩
  rw [cv_zero (f := co []) fun i _ => .inl (co_nil _),Int.add_zero,e,cv_sm,sm_more (m := 1) (by omega) fun j h1 _ => by rw [show co [c] j = 0 from co_ge (by simpa using h1),Int.zero_mul]]
  simp [sm,co_zero]
theorem MonOf.nil (b : Int) : MonOf b [] [] := ⟨Py.nil b,rfl,fun h => absurd rfl h,⟨0,fun k => by rw [co_nil,Int.zero_mul]⟩,⟨0,fun k => by rw [co_nil,Int.zero_mul]⟩⟩
noncomputable def monicN (P : Nat) (p : List Int) : List Int := p.map fun x => x * (co p (p.length - 1)) ^ (P - 2) % (P : Int)
structure GcdI (b : Int) (p q g s : List Int) : Prop where
  gy : Py b g
  sy : Py b s
  gm : g ≠ [] → Mon g
  sm_ : s ≠ [] → Mon s
  some : s = [] → g ≠ []
  gi : In2 b p q g
  si : In2 b p q s
  pi : In2 b g s p
  qi : In2 b g s q
theorem GcdI.start {b : Int} {p q g s : List Int} (hg : MonOf b p g) (hs : MonOf b q s) (h : q = [] → p ≠ []) : GcdI b p q g s := by
  have lg := hg.len
  have ls := hs.len
  have pn : g ≠ [] → p ≠ [] := fun z e => z (List.eq_nil_of_length_eq_zero (by rw [lg,e]; rfl))
  have qn : s ≠ [] → q ≠ [] := fun z e => z (List.eq_nil_of_length_eq_zero (by rw [ls,e]; rfl))
  refine ⟨hg.py,hs.py,fun z => hg.mon (pn z),fun z => hs.mon (qn z),fun z e => ?_,In2.scale hg.to q,(In2.scale hs.to p).swap,In2.scale hg.of s,(In2.scale hs.of g).swap⟩
  have q0 : q = [] := List.eq_nil_of_length_eq_zero (by rw [← ls,z]; rfl)
  exact h q0 (List.eq_nil_of_length_eq_zero (by rw [← lg,e]; rfl))
theorem GcdI.step {b : Int} {p q g s o l m : List Int} (h : GcdI b p q g s) (hs : s ≠ []) (d : Div b g s o l) (hm : MonOf b l m) : GcdI b p q s m := by
  have lm := hm.len
  have ln : m ≠ [] → l ≠ [] := fun z e => z (List.eq_nil_of_length_eq_zero (by rw [lm,e]; rfl))
  have li : In2 b p q l := h.gi.trans h.si d.in2
  have gs : In2 b s m g := (In2.left b s m).trans (In2.scale hm.of s).swap d.in1
  refine ⟨h.sy,hm.py,h.sm_,fun z => hm.mon (ln z),fun _ => hs,h.si,li.trans li (In2.scale hm.to l),?_,?_⟩
  · exact gs.trans (In2.left b s m) h.pi
  · exact gs.trans (In2.left b s m) h.qi
theorem GcdI.stop {b : Int} {p q g s : List Int} (h : GcdI b p q g s) (hs : s = []) : Gcd b p q g := by
  subst hs
  exact ⟨h.gy,h.gm (h.some rfl),h.gi,h.pi,h.qi⟩
end Pm
namespace Pm
open Rm
theorem ofRule_mon (b : Int) (c : List Int) : Mon (ofRule b c) := ⟨by rw [ofRule_len]; omega,by
  rw [ofRule_len,ofRule,co_append,ofF_len,if_neg (by omega),show c.length + 1 - 1 - c.length = 0 by omega]; rfl⟩
end Pm
namespace Dm
open Pm
end Dm
namespace Dm
open Pm
end Dm
namespace Dm
open Pm Rm
noncomputable def ln (L : List (List Int)) (i : Nat) : List Int := L.getD i []
end Dm
namespace Dm
open Rm Pm
end Dm
namespace Pm
open Rm
noncomputable def tp (P : List Int) (a : Nat → Int) (k : Nat) : Int := sm (P.length - 1 - k) fun i => co P (k + 1 + i) * a i
end Pm
namespace Om
noncomputable def Prime (p : Nat) : Prop := 2 ≤ p ∧ ∀ d,d ∣ p → d = 1 ∨ d = p
theorem Prime.cop {p x : Nat} (h : Prime p) (hx : ¬ p ∣ x) : Nat.Coprime p x := by
  rcases h.2 _ (Nat.gcd_dvd_left p x) with e | e
  · exact e
  · exact absurd (e ▸ Nat.gcd_dvd_right p x) hx
theorem Prime.dvd {p x y : Nat} (h : Prime p) (hd : p ∣ x * y) : p ∣ x ∨ p ∣ y := by
  by_cases c : p ∣ x
  · exact .inl c
  · exact .inr ((h.cop c).dvd_of_dvd_mul_left hd)
noncomputable def ch : Nat → Nat → Nat
  | _,0 => 1
  | 0,_ + 1 => 0
  | n + 1,k + 1 => ch n k + ch n (k + 1)
theorem ch_zero (n : Nat) : ch n 0 = 1 := by cases n <;> rfl
theorem ch_out : ∀ (n k : Nat),n < k → ch n k = 0
  | 0,k + 1,_ => rfl
  | n + 1,k + 1,h => by rw [ch,ch_out n k (by omega),ch_out n (k + 1) (by omega)]
theorem ch_self : ∀ n,ch n n = 1
  | 0 => rfl
  | n + 1 => by rw [ch,ch_self n,ch_out n (n + 1) (by omega)]
theorem ch_absorb : ∀ n k : Nat,(k + 1) * ch (n + 1) (k + 1) = (n + 1) * ch n k
  | 0,0 => rfl
  | 0,k + 1 => by
    have e : ch (0 + 1) (k + 1 + 1) = ch 0 (k + 1) + ch 0 (k + 1 + 1) := rfl
    rw [e,ch_out 0 (k + 1) (by omega),ch_out 0 (k + 1 + 1) (by omega)]; simp
  | n + 1,0 => by
    have := ch_absorb n 0
    have e : ch (n + 1 + 1) (0 + 1) = ch (n + 1) 0 + ch (n + 1) (0 + 1) := rfl
    simp only [ch_zero] at e ⊢
    rw [e]
    rw [ch_zero] at this
    omega
  | n + 1,k + 1 => by
    have h1 := ch_absorb n k
    have h2 := ch_absorb n (k + 1)
    rw [ch,Nat.mul_add]
    have e1 : (k + 1 + 1) * ch (n + 1) (k + 1) = (n + 1) * ch n k + ch (n + 1) (k + 1) := by rw [Nat.succ_mul,h1]
    rw [e1,h2]
    have e2 : ch (n + 1) (k + 1) = ch n k + ch n (k + 1) := rfl
    rw [e2,Nat.succ_mul (n + 1),Nat.mul_add]
    omega
theorem Prime.dch {p k : Nat} (h : Prime p) (h0 : 0 < k) (hk : k < p) : p ∣ ch p k := by
  obtain ⟨n,rfl⟩ : ∃ n,p = n + 1 := ⟨p - 1,by have := h.1; omega⟩
  obtain ⟨j,rfl⟩ : ∃ j,k = j + 1 := ⟨k - 1,by omega⟩
  have e := ch_absorb n j
  rcases h.dvd (x := j + 1) (y := Om.ch (n + 1) (j + 1)) (by rw [e]; exact Nat.dvd_mul_right ..) with d | d
  · exact absurd (Nat.le_of_dvd (by omega) d) (by omega)
  · exact d
noncomputable def sN (f : Nat → Nat) : Nat → Nat
  | 0 => 0
  | n + 1 => sN f n + f n
theorem sN_congr {f g : Nat → Nat} : ∀ {n : Nat},(∀ k,k < n → f k = g k) → sN f n = sN g n
  | 0,_ => rfl
  | n + 1,h => by rw [sN,sN,sN_congr fun k hk => h k (by omega),h n (by omega)]
theorem sN_add (f g : Nat → Nat) : ∀ n,sN (fun k => f k + g k) n = sN f n + sN g n
  | 0 => rfl
  | n + 1 => by rw [sN,sN,sN,sN_add f g n]; omega
theorem sN_mul (c : Nat) (f : Nat → Nat) : ∀ n,sN (fun k => c * f k) n = c * sN f n
  | 0 => rfl
  | n + 1 => by rw [sN,sN,sN_mul c f n,Nat.mul_add]
theorem sN_head (f : Nat → Nat) : ∀ n,sN f (n + 1) = f 0 + sN (fun k => f (k + 1)) n
  | 0 => by rw [sN,sN,sN]; omega
  | n + 1 => by rw [sN,sN_head f n,sN]; omega
theorem sN_dvd {p : Nat} {f : Nat → Nat} : ∀ {n : Nat},(∀ k,k < n → p ∣ f k) → p ∣ sN f n
  | 0,_ => Nat.dvd_zero _
  | n + 1,h => Nat.dvd_add (sN_dvd fun k hk => h k (by omega)) (h n (by omega))
theorem binom (a : Nat) : ∀ n,(a + 1) ^ n = sN (fun k => ch n k * a ^ k) (n + 1)
  | 0 => by simp [sN,ch]
  | n + 1 => by
    rw [Nat.pow_succ,binom a n,sN_head (fun k => ch (n + 1) k * a ^ k) (n + 1)]
    have e1 : sN (fun k => ch (n + 1) (k + 1) * a ^ (k + 1)) (n + 1) = sN (fun k => a * (ch n k * a ^ k)) (n + 1) + sN (fun k => ch n (k + 1) * a ^ (k + 1)) (n + 1) := by
      rw [← sN_add]
      refine sN_congr fun k _ => ?_
      rw [ch,Nat.add_mul,Nat.pow_succ]
      congr 1
      rw [Nat.mul_comm a,Nat.mul_assoc]
    have e2 : sN (fun k => ch n k * a ^ k) (n + 1) = 1 + sN (fun k => ch n (k + 1) * a ^ (k + 1)) (n + 1) := by
      have e3 : sN (fun k => ch n k * a ^ k) (n + 1 + 1) = sN (fun k => ch n k * a ^ k) (n + 1) := by rw [sN,ch_out n (n + 1) (by omega),Nat.zero_mul,Nat.add_zero]
      rw [← e3,sN_head]
      rw [ch_zero,Nat.pow_zero]
    rw [e1,sN_mul,ch_zero,Nat.pow_zero,Nat.mul_add,Nat.mul_one,Nat.mul_comm]
    omega
theorem Prime.pow {p : Nat} (h : Prime p) : ∀ a : Nat,a ^ p % p = a % p
  | 0 => by rw [Nat.zero_pow (by have := h.1; omega)]
  | a + 1 => by
    obtain ⟨n,rfl⟩ : ∃ n,p = n + 1 := ⟨p - 1,by have := h.1; omega⟩
    have e : (a + 1) ^ (n + 1) = 1 + sN (fun k => ch (n + 1) (k + 1) * a ^ (k + 1)) n + a ^ (n + 1) := by
      rw [binom,sN,sN_head,ch_zero,Nat.pow_zero,ch_self,Nat.one_mul,Nat.one_mul]
    obtain ⟨c,hc⟩ : (n + 1) ∣ sN (fun k => ch (n + 1) (k + 1) * a ^ (k + 1)) n := sN_dvd fun k hk => Nat.dvd_trans (h.dch (by omega) (by omega)) (Nat.dvd_mul_right ..)
    rw [e,hc,show 1 + (n + 1) * c + a ^ (n + 1) = (a ^ (n + 1) + 1) + (n + 1) * c by omega,Nat.add_mul_mod_self_left,Nat.add_mod,Prime.pow h a,← Nat.add_mod]
theorem Prime.fermat {p a : Nat} (h : Prime p) (h0 : a ≠ 0) (ha : a < p) : a ^ (p - 1) % p = 1 := by
  have hp := h.1
  have e := h.pow a
  obtain ⟨n,rfl⟩ : ∃ n,p = n + 1 := ⟨p - 1,by omega⟩
  rw [Nat.add_sub_cancel]
  have one : 1 ≤ a ^ n := Nat.pow_pos (by omega)
  have d : (n + 1) ∣ a * (a ^ n - 1) := by
    have e2 : a * (a ^ n - 1) = a ^ (n + 1) - a := by rw [Nat.mul_sub,Nat.mul_one,Nat.pow_succ,Nat.mul_comm]
    rw [e2]
    exact Nat.dvd_of_mod_eq_zero (Nat.sub_mod_eq_zero_of_mod_eq e)
  rcases h.dvd d with d | ⟨c,hc⟩
  · exact absurd (Nat.le_of_dvd (by omega) d) (by omega)
  · rw [show a ^ n = 1 + (n + 1) * c by omega,Nat.add_mul_mod_self_left]
    exact Nat.mod_eq_of_lt (by omega)
end Om
namespace Om
theorem prime_try {n : Nat} (h2 : 2 ≤ n) (h : ∀ d,2 ≤ d → d * d ≤ n → ¬ d ∣ n) : Prime n := ⟨h2,fun d hd => by
  by_cases c1 : d = 1
  · exact .inl c1
  by_cases c2 : d = n
  · exact .inr c2
  exfalso
  obtain ⟨e,he⟩ := hd
  have d0 : d ≠ 0 := fun z => by rw [z,Nat.zero_mul] at he; omega
  have e0 : e ≠ 0 := fun z => by rw [z,Nat.mul_zero] at he; omega
  have e1 : e ≠ 1 := fun z => by rw [z,Nat.mul_one] at he; omega
  by_cases c : d ≤ e
  · exact h d (by omega) (by rw [he]; exact Nat.mul_le_mul_left d c) ⟨e,he⟩
  · exact h e (by omega) (by rw [he]; exact Nat.mul_le_mul_right e (by omega)) ⟨d,by rw [he,Nat.mul_comm]⟩⟩
theorem prime_not {n d : Nat} (h2 : 2 ≤ d) (h : d * d ≤ n) (hd : d ∣ n) : ¬ Prime n := fun hp => by
  have : d * 2 ≤ d * d := Nat.mul_le_mul_left d h2
  rcases hp.2 d hd with e | e <;> omega
theorem Prime.fermatI {p : Nat} {a : Int} (h : Prime p) (h0 : 0 < a) (ha : a < (p : Int)) : a ^ (p - 1) % (p : Int) = 1 := by
  obtain ⟨n,rfl⟩ : ∃ n : Nat,a = (n : Int) := ⟨a.toNat,by omega⟩
  have := h.fermat (a := n) (by omega) (by omega)
  have e : ((n ^ (p - 1) % p : Nat) : Int) = ((1 : Nat) : Int) := by rw [this]
  rw [Int.natCast_emod,Int.natCast_pow] at e
  exact e
end Om
namespace Pm
open Rm
theorem lf_bdQ {b f : Int} {s t : Nat} {l m : List Int} {u v : Nat} (hb : 0 ≤ b) (hb1 : b < 2097152) (hu : 21 ≤ u) (hf : Bd u f) (hl : ∀ k,Bd u (co l k)) (hm : ∀ x ∈ m,Bd v x) (k : Nat) : Bd (u + v + 1) (lf b f s t l m k) := by
  unfold lf
  split
  · refine tk_bd hb ((Bd.of (n := 21) (by omega) (by omega)).mono (by omega)) ?_
    rw [Int.sub_eq_add_neg]
    refine Bd.add ((hl k).mono (by omega)) ?_
    have := hf.mul (Bd_co hm (k - s))
    unfold Bd at this ⊢
    rw [Int.natAbs_neg]; exact this
  · exact (hl k).mono (by omega)
end Pm
namespace Pm
open Rm
theorem monicN_pr {P : Nat} (hP : Om.Prime P) {p : List Int} (hp : Py P p) (hn : p ≠ []) : MonOf P p (monicN P p) := by
  have h2 := hP.1
  have hpos : 0 < p.length := List.length_pos_iff.mpr hn
  have hP0 : (P : Int) ≠ 0 := by omega
  have tkP : ∀ n,tk (P : Int) n = n % (P : Int) := fun n => tk_pos hP0 n
  have l0 := last_ne hn hp.tr
  have l1 := hp.co (p.length - 1)
  rw [tkP] at l1
  have r0 : 0 ≤ co p (p.length - 1) := by rw [← l1]; exact Int.emod_nonneg _ hP0
  have r1 : co p (p.length - 1) < (P : Int) := by rw [← l1]; exact Int.emod_lt_of_pos _ (by omega)
  generalize hl : co p (p.length - 1) = a at l0 r0 r1
  have hinv : (a ^ (P - 2) * a) % (P : Int) = 1 := by
    rw [← Int.pow_succ,show (P - 2).succ = P - 1 by omega]
    exact hP.fermatI (by omega) r1
  have e : ∀ k,co (monicN P p) k = co p k * a ^ (P - 2) % (P : Int) := fun k => by
    rw [monicN,co_map (by simp),hl]
  have len : (monicN P p).length = p.length := by rw [monicN,List.length_map]
  have top : co (monicN P p) ((monicN P p).length - 1) = 1 := by
    rw [len,e,hl,Int.mul_comm]; exact hinv
  have hm : monicN P p ≠ [] := fun z => by rw [z] at len; simp at len; omega
  refine ⟨⟨trim_of_last hm (by rw [top]; decide),fun x hx => ?_⟩,len,fun _ => ⟨by omega,top⟩,⟨a ^ (P - 2),fun k => ?_⟩,⟨a,fun k => ?_⟩⟩
  · obtain ⟨y,_,rfl⟩ := List.mem_map.mp hx
    rw [tkP]; exact Int.emod_emod_of_dvd _ (Int.dvd_refl _)
  · rw [e,tkP,tkP,Int.emod_emod_of_dvd _ (Int.dvd_refl _),Int.mul_comm]
  · rw [e,tkP,tkP,Int.mul_emod a,Int.emod_emod_of_dvd _ (Int.dvd_refl _),← Int.mul_emod,Int.mul_left_comm a,Int.mul_comm a,Int.mul_emod,hinv]
    rw [Int.mul_one,Int.emod_emod_of_dvd _ (Int.dvd_refl _)]
end Pm
namespace Pm
open Rm
noncomputable def syn : List Int → Int → List Int × Int
  | [],_ => ([],0)
  | a :: t,r => ((syn t r).2 :: (syn t r).1,a + r * (syn t r).2)
theorem syn_len : ∀ (p : List Int) (r : Int),(syn p r).1.length = p.length
  | [],_ => rfl
  | a :: t,r => by show (_ :: (syn t r).1).length = _; rw [List.length_cons,syn_len t r,List.length_cons]
theorem syn_eq : ∀ (p : List Int) (r : Int) (k : Nat),co p k = (if k = 0 then (syn p r).2 else co (syn p r).1 (k - 1)) - r * co (syn p r).1 k
  | [],r,k => by
    show co [] k = (if k = 0 then (0 : Int) else co [] (k - 1)) - r * co [] k
    rw [co_nil,co_nil]; split <;> omega
  | a :: t,r,0 => by
    show co (a :: t) 0 = (a + r * (syn t r).2) - r * co ((syn t r).2 :: _) 0
    rw [co_zero,co_zero]; omega
  | a :: t,r,k + 1 => by
    rw [if_neg (by omega),Nat.add_sub_cancel,co_succ,syn_eq t r k]
    show _ = co ((syn t r).2 :: (syn t r).1) k - r * co ((syn t r).2 :: (syn t r).1) (k + 1)
    rw [co_succ]
    cases k with
    | zero => rw [if_pos rfl,co_zero]
    | succ k => rw [if_neg (by omega),Nat.add_sub_cancel,co_succ]
noncomputable def synQ (p : List Int) (r : Int) : List Int := trim (syn p r).1
noncomputable def synR (p : List Int) (r : Int) : Int := (syn p r).2
theorem cv_lin (f : Nat → Int) (r : Int) (k : Nat) : cv f (co [0 - r,1]) k = (if k = 0 then 0 else f (k - 1)) - r * f k := by
  have g0 : co [0 - r,1] 0 = 0 - r := rfl
  have g1 : co [0 - r,1] 1 = 1 := rfl
  have g2 : ∀ j,2 ≤ j → co [0 - r,1] j = 0 := fun j hj => co_ge (by show 2 ≤ j; exact hj)
  rw [cv_sm,sm,Nat.sub_self,g0]
  cases k with
  | zero => rw [if_pos rfl,sm,Int.mul_sub,Int.mul_zero,Int.mul_comm]; omega
  | succ k =>
    rw [if_neg (by omega),sm,show k + 1 - k = 1 by omega,g1,Int.mul_one,Nat.add_sub_cancel]
    have z : sm k (fun i => f i * co [0 - r,1] (k + 1 - i)) = 0 := by
      rw [sm_congr (g := fun _ => 0) fun i hi => by rw [g2 _ (by omega),Int.mul_zero]]
      exact sm_zero k
    rw [z,Int.mul_sub,Int.mul_zero,Int.mul_comm]; omega
theorem py0_trim (p : List Int) : Py 0 (trim p) := ⟨trim_trim p,fun x _ => tk_zero x⟩
theorem syn_div (p : List Int) (r : Int) : Div 0 p [0 - r,1] (synQ p r) (trim [synR p r]) := by
  refine ⟨py0_trim _,py0_trim _,?_,fun k => ?_⟩
  · have := trim_len_le [synR p r]
    exact Nat.lt_of_le_of_lt this (by show 1 < 2; decide)
  · have ec : co (synQ p r) = co (syn p r).1 := funext fun j => co_trim ..
    rw [ec,cv_lin,co_trim,syn_eq p r k]
    congr 1
    cases k with
    | zero => rw [if_pos rfl,if_pos rfl,co_zero]; show _ + (syn p r).2 = _; omega
    | succ k => rw [if_neg (by omega),if_neg (by omega),co_succ,co_nil]; omega
theorem syn_mon {p : List Int} {r : Int} (h : Mon p) (h2 : 2 ≤ p.length) : Mon (synQ p r) ∧ (synQ p r).length = p.length - 1 := by
  have l := syn_len p r
  have z1 : co (syn p r).1 (p.length - 1) = 0 := by
    have e := syn_eq p r p.length
    rw [co_ge (Nat.le_refl _),if_neg (by omega),co_ge (k := p.length) (by omega)] at e
    omega
  have z2 : co (syn p r).1 (p.length - 2) = 1 := by
    have e := syn_eq p r (p.length - 1)
    rw [h.one,if_neg (by omega),z1,show p.length - 1 - 1 = p.length - 2 by omega] at e
    omega
  have e : synQ p r = ofF (p.length - 1) (co (syn p r).1) := by
    have e1 : trim (ofF (p.length - 1) (co (syn p r).1)) = ofF (p.length - 1) (co (syn p r).1) := trim_of_last (fun z => by have := congrArg List.length z; rw [ofF_len] at this; simp at this; omega) (by
      rw [ofF_len,co_ofF,if_pos (by omega),show p.length - 1 - 1 = p.length - 2 by omega,z2]; decide)
    rw [← e1]
    refine trim_ext fun k => ?_
    rw [co_ofF]
    split
    · rfl
    · by_cases c : k = p.length - 1
      · rw [c,z1]
      · exact co_ge (by omega)
  have le : (synQ p r).length = p.length - 1 := by rw [e,ofF_len]
  refine ⟨⟨by omega,?_⟩,le⟩
  rw [le,e,co_ofF,if_pos (by omega),show p.length - 1 - 1 = p.length - 2 by omega,z2]
noncomputable def outF : Nat → List Int → Int → Nat × List Int
  | 0,p,_ => (0,p)
  | n + 1,p,r => if synR p r = 0 then ((outF n (synQ p r) r).1 + 1,(outF n (synQ p r) r).2) else (0,p)
noncomputable def wdF (n : Nat) : Nat → Nat → List Int → List Int → List Int
  | 0,_,s,g => s ++ g.reverse
  | f + 1,t,s,g => if t * t ≤ n then (if n % t = 0 then (if t * t < n then wdF n f (t + 1) (s ++ [(t : Int)]) (g ++ [((n / t : Nat) : Int)]) else wdF n f (t + 1) (s ++ [(t : Int)]) g) else wdF n f (t + 1) s g) else s ++ g.reverse
noncomputable def divs (n : Nat) : List Int := wdF n (n + 1) 1 [] []
noncomputable def lowN (p : List Int) : Int := (p.filter fun x => decide (x ≠ 0)).headD 0
noncomputable def cands (p : List Int) : List Int := ((divs (lowN p).natAbs).reverse.map fun x => 0 - x) ++ [0] ++ divs (lowN p).natAbs
noncomputable def wrF : List Int → List (List Int) → List Int → List (List Int) × List Int
  | [],rs,l => (rs,l)
  | c :: cs,rs,l => if 0 < (outF l.length l c).1 then wrF cs (rs ++ [[c,((outF l.length l c).1 : Int)]]) (outF l.length l c).2 else wrF cs rs l
noncomputable def wr (p : List Int) : List (List Int) × List Int := wrF (cands p) [] p
noncomputable def lmul (p q : List Int) : List Int := ofF (p.length + q.length - 1) (cv (co p) (co q))
noncomputable def otherL : List (List Int) := [[1,0,1],[1,1,1],[-2,0,1],[2,0,0,1],[0,1],[0,0,1],[0,0,1]]
noncomputable def noneQ (p : List Int) : Bool := decide ((wr p).2 ≠ [1]) || (wr p).1.any fun x => decide (x.headD 0 = 0)
noncomputable def okP (p : List Int) : Bool := decide (2 ≤ p.length) && decide (p.length ≤ 6) && decide (co p (p.length - 1) = 1) && p.all (fun x => decide (-1000 < x) && decide (x < 1000)) && noneQ p
theorem okP_all : ∀ o < 7,okP (otherL.getD o []) = true ∧ ∀ c < 5,okP (lmul (otherL.getD o []) [(c : Nat) + 1,1]) = true ∧ ∀ d < 5,okP (lmul (lmul (otherL.getD o []) [(c : Nat) + 1,1]) [(d : Nat) + 1,1]) = true := by decide +kernel
noncomputable def nr (M x : Int) : Int := if 2 * (x % M) > M then x % M - M else x % M
theorem wr_one : wr [1] = ([],[1]) := by decide +kernel
end Pm
namespace Pm
open Rm
theorem syn_bd {r : Int} {u v : Nat} (hr : Bd v r) : ∀ {p : List Int},(∀ x ∈ p,Bd u x) → (∀ x ∈ (syn p r).1,Bd (u + p.length * (v + 1)) x) ∧ Bd (u + p.length * (v + 1)) (syn p r).2
  | [],_ => ⟨fun x hx => (List.not_mem_nil hx).elim,Bd.zero _⟩
  | a :: t,h => by
    obtain ⟨h1,h2⟩ := syn_bd hr (p := t) fun x hx => h x (List.mem_cons_of_mem _ hx)
    have e : u + (t.length + 1) * (v + 1) = u + t.length * (v + 1) + v + 1 := by rw [Nat.succ_mul]; omega
    rw [List.length_cons,e]
    refine ⟨fun x hx => ?_,?_⟩
    · rcases List.mem_cons.mp hx with rfl | hx
      · exact h2.mono (by omega)
      · exact (h1 x hx).mono (by omega)
    · show Bd _ (a + r * (syn t r).2)
      refine (Bd.add (n := u + t.length * (v + 1) + v) ((h a (List.mem_cons_self ..)).mono (by omega)) ((hr.mul h2).mono (by omega))).mono (by omega)
theorem synQ_bd {r : Int} {u v : Nat} (hr : Bd v r) {p : List Int} (h : ∀ x ∈ p,Bd u x) : ∀ x ∈ synQ p r,Bd (u + p.length * (v + 1)) x := fun x hx => by
  obtain ⟨k,hk,e⟩ := List.mem_iff_getElem.mp hx
  rw [← e,← co_lt hk]
  unfold synQ
  rw [co_trim]
  exact Bd_co (syn_bd hr h).1 k
structure OutOk (p : List Int) (u : Nat) (n : Nat) (l : List Int) : Prop where
  mon : Mon l
  len : l.length + n = p.length
  bd : ∀ x ∈ l,Bd (u + n * 1640) x
theorem synR_one {p : List Int} (h : Mon p) (h1 : p.length < 2) (r : Int) : synR p r ≠ 0 := by
  have hp := h.pos
  obtain ⟨a,rfl⟩ : ∃ a,p = [a] := by
    match p,hp,h1 with
    | [a],_,_ => exact ⟨a,rfl⟩
  have := h.one
  rw [show [a].length - 1 = 0 from rfl,co_zero] at this
  subst this
  show (1 : Int) + r * 0 ≠ 0
  rw [Int.mul_zero]; decide
theorem out_ok {r : Int} (hr : Bd 40 r) : ∀ (n : Nat) {p : List Int} {u : Nat},Mon p → p.length ≤ 40 → (∀ x ∈ p,Bd u x) → OutOk p u (outF n p r).1 (outF n p r).2
  | 0,p,u,h,_,b => ⟨h,rfl,fun x hx => (b x hx).mono (by omega)⟩
  | n + 1,p,u,h,hl,b => by
    unfold outF
    split
    · rename_i c
      have h2 : 2 ≤ p.length := by
        by_cases z : 2 ≤ p.length
        · exact z
        · exact absurd c (synR_one h (by omega) r)
      obtain ⟨m1,l1⟩ := syn_mon (r := r) h h2
      obtain ⟨a,b1,c1⟩ := out_ok hr n (u := u + 1640) m1 (by omega) (fun x hx => (synQ_bd hr b x hx).mono (by have : p.length * (40 + 1) ≤ 40 * 41 := Nat.mul_le_mul_right _ hl; omega))
      refine ⟨a,by show (outF n (synQ p r) r).2.length + ((outF n (synQ p r) r).1 + 1) = _; omega,fun x hx => (c1 x hx).mono ?_⟩
      show _ ≤ u + ((outF n (synQ p r) r).1 + 1) * 1640
      rw [Nat.succ_mul]; omega
    · exact ⟨h,rfl,fun x hx => (b x hx).mono (by omega)⟩
theorem wd_mem (n : Nat) {m : Int} (hm : (n : Int) ≤ m) : ∀ (f t : Nat) (s g : List Int),1 ≤ t → (∀ x ∈ s,0 < x ∧ x ≤ m) → (∀ x ∈ g,0 < x ∧ x ≤ m) → ∀ x ∈ wdF n f t s g,0 < x ∧ x ≤ m
  | 0,t,s,g,_,hs,hg,x,hx => by
    rcases List.mem_append.mp hx with hx | hx
    · exact hs x hx
    · exact hg x (List.mem_reverse.mp hx)
  | f + 1,t,s,g,ht,hs,hg,x,hx => by
    unfold wdF at hx
    split at hx
    · rename_i c
      have htt : t ≤ t * t := Nat.le_mul_of_pos_left t ht
      have hs' : ∀ y ∈ s ++ [(t : Int)],0 < y ∧ y ≤ m := fun y hy => by
        rcases List.mem_append.mp hy with hy | hy
        · exact hs y hy
        · rw [List.mem_singleton.mp hy]; omega
      split at hx
      · split at hx
        · refine wd_mem n hm f (t + 1) _ _ (by omega) hs' (fun y hy => ?_) x hx
          rcases List.mem_append.mp hy with hy | hy
          · exact hg y hy
          · rw [List.mem_singleton.mp hy]
            have a1 : 0 < n / t := Nat.div_pos (by omega) (by omega)
            have a2 : n / t ≤ n := Nat.div_le_self ..
            omega
        · exact wd_mem n hm f (t + 1) _ _ (by omega) hs' hg x hx
      · exact wd_mem n hm f (t + 1) _ _ (by omega) hs hg x hx
    · rcases List.mem_append.mp hx with hx | hx
      · exact hs x hx
      · exact hg x (List.mem_reverse.mp hx)
theorem wd_len (n : Nat) : ∀ (f t : Nat) (s g : List Int),s.length + g.length ≤ 2 * t → (wdF n f t s g).length ≤ 2 * (t + f)
  | 0,t,s,g,h => by show (s ++ g.reverse).length ≤ _; rw [List.length_append,List.length_reverse]; omega
  | f + 1,t,s,g,h => by
    unfold wdF
    split
    · split
      · split
        · have := wd_len n f (t + 1) (s ++ [(t : Int)]) (g ++ [((n / t : Nat) : Int)]) (by rw [List.length_append,List.length_append]; show s.length + 1 + (g.length + 1) ≤ _; omega)
          omega
        · have := wd_len n f (t + 1) (s ++ [(t : Int)]) g (by rw [List.length_append]; show s.length + 1 + g.length ≤ _; omega)
          omega
      · have := wd_len n f (t + 1) s g (by omega)
        omega
    · rw [List.length_append,List.length_reverse]; omega
end Pm
namespace Pm
theorem wr_two : ∀ (cs : List Int) (rs : List (List Int)) (l : List Int),(∀ p ∈ rs,p.length = 2) → ∀ p ∈ (wrF cs rs l).1,p.length = 2
  | [],rs,l,h => h
  | c :: cs,rs,l,h => by
    unfold wrF
    split
    · refine wr_two cs _ _ fun p hp => ?_
      rcases List.mem_append.mp hp with hp | hp
      · exact h p hp
      · rw [List.mem_singleton.mp hp]; rfl
    · exact wr_two cs rs l h
theorem wr_len : ∀ (cs : List Int) (rs : List (List Int)) (l : List Int),(wrF cs rs l).1.length ≤ rs.length + cs.length
  | [],rs,l => Nat.le_refl _
  | c :: cs,rs,l => by
    unfold wrF
    split
    · have := wr_len cs (rs ++ [[c,((outF l.length l c).1 : Int)]]) (outF l.length l c).2
      rw [List.length_append] at this
      rw [List.length_cons]
      show _ ≤ _
      have e : [[c,((outF l.length l c).1 : Int)]].length = 1 := rfl
      omega
    · have := wr_len cs rs l
      rw [List.length_cons]; omega
theorem wr_most {p : List Int} (h : (lowN p).natAbs < 1000000) : (wr p).1.length ≤ 4000100 := by
  have h1 := wr_len (cands p) [] p
  have h2 := wd_len (lowN p).natAbs ((lowN p).natAbs + 1) 1 [] [] (by decide)
  have e : (cands p).length = (divs (lowN p).natAbs).length + 1 + (divs (lowN p).natAbs).length := by
    unfold cands
    rw [List.length_append,List.length_append,List.length_map,List.length_reverse]; rfl
  have h3 : (divs (lowN p).natAbs).length ≤ 2 * (1 + ((lowN p).natAbs + 1)) := h2
  have h4 : (wr p).1.length ≤ ([] : List (List Int)).length + (cands p).length := h1
  rw [List.length_nil] at h4
  omega
end Pm
namespace K46
open PySem L2
seal PA PE PS PSs PT PW PI PG PO PIf
def top (i : Nat) : Stmt := PySem.Challenge.pw_nextbyrule_k46_no_closed_forms.main.body.getD i (.Pass ⟨0,0,0,0⟩)
noncomputable abbrev s_is_prime : Stmt := top 11
noncomputable abbrev s_taken : Stmt := top 12
noncomputable abbrev s_inverse : Stmt := top 13
noncomputable abbrev s_over : Stmt := top 14
noncomputable abbrev s_refuse_prime : Stmt := top 16
noncomputable abbrev s_trimmed : Stmt := top 18
noncomputable abbrev s_divided : Stmt := top 19
noncomputable abbrev s_monic : Stmt := top 20
noncomputable abbrev s_greatest : Stmt := top 21
noncomputable abbrev s_of_rule : Stmt := top 22
noncomputable abbrev s_prime_above : Stmt := top 25
noncomputable abbrev s_divides : Stmt := top 26
noncomputable abbrev s_taken_poly : Stmt := top 27
noncomputable abbrev s_nearest : Stmt := top 28
noncomputable abbrev s_joined : Stmt := top 29
noncomputable abbrev s_whole_greatest : Stmt := top 30
noncomputable abbrev s_shared_divisor : Stmt := top 31
noncomputable abbrev s_top_of : Stmt := top 33
noncomputable abbrev s_least_of : Stmt := top 34
noncomputable abbrev s_line_taken : Stmt := top 36
noncomputable abbrev s_head_line : Stmt := top 37
noncomputable abbrev s_bring_up : Stmt := top 38
noncomputable abbrev s_freed : Stmt := top 39
noncomputable abbrev s_clear : Stmt := top 40
noncomputable abbrev s_common_divisor : Stmt := top 41
noncomputable abbrev s_lowest : Stmt := top 42
noncomputable abbrev s_free_numbers : Stmt := top 43
noncomputable abbrev s_solution : Stmt := top 44
noncomputable abbrev s_paper_against : Stmt := top 46
noncomputable abbrev s_solved : Stmt := top 47
noncomputable abbrev s_refuse_big : Stmt := top 50
noncomputable abbrev s_whole_divisors : Stmt := top 51
noncomputable abbrev s_perhaps_roots : Stmt := top 52
noncomputable abbrev s_divided_out : Stmt := top 53
noncomputable abbrev s_whole_roots : Stmt := top 54
noncomputable abbrev s_form_line : Stmt := top 56
noncomputable abbrev s_parts_of : Stmt := top 57
noncomputable abbrev s_closed : Stmt := top 58
noncomputable abbrev s_Lat : Stmt := top 60
noncomputable abbrev s_Ltimes : Stmt := top 61
noncomputable abbrev s_Lrefused : Stmt := top 63
noncomputable abbrev s_Lrule : Stmt := top 64
noncomputable abbrev s_law : Stmt := top 65
theorem sc_is_prime : FnScope ["number","divisor"] ["number"] (defScope s_is_prime) := ⟨rfl,rfl,rfl,by decide +kernel,rfl,by decide +kernel,by decide +kernel⟩
theorem sc_taken : FnScope ["by","number"] ["by","number"] (defScope s_taken) := ⟨rfl,rfl,rfl,by decide +kernel,rfl,by decide +kernel,by decide +kernel⟩
theorem sc_inverse : FnScope ["prime","number","power","square","left"] ["prime","number"] (defScope s_inverse) := ⟨rfl,rfl,rfl,by decide +kernel,rfl,by decide +kernel,by decide +kernel⟩
theorem sc_over : FnScope ["by","one","other"] ["by","one","other"] (defScope s_over) := ⟨rfl,rfl,rfl,by decide +kernel,rfl,by decide +kernel,by decide +kernel⟩
theorem sc_refuse_prime : FnScope ["row"] ["row"] (defScope s_refuse_prime) := ⟨rfl,rfl,rfl,by decide +kernel,rfl,by decide +kernel,by decide +kernel⟩
theorem sc_trimmed : FnScope ["numbers","end"] ["numbers"] (defScope s_trimmed) := ⟨rfl,rfl,rfl,by decide +kernel,rfl,by decide +kernel,by decide +kernel⟩
theorem sc_divided : FnScope ["by","one","other","top","often","left","shift","factor","k"] ["by","one","other"] (defScope s_divided) := ⟨rfl,rfl,rfl,by decide +kernel,rfl,by decide +kernel,by decide +kernel⟩
theorem sc_monic : FnScope ["prime","poly","last"] ["prime","poly"] (defScope s_monic) := ⟨rfl,rfl,rfl,by decide +kernel,rfl,by decide +kernel,by decide +kernel⟩
theorem sc_greatest : FnScope ["by","one","other","great","small","left"] ["by","one","other"] (defScope s_greatest) := ⟨rfl,rfl,rfl,by decide +kernel,rfl,by decide +kernel,by decide +kernel⟩
theorem sc_of_rule : FnScope ["by","rule","length","numbers"] ["by","rule"] (defScope s_of_rule) := ⟨rfl,rfl,rfl,by decide +kernel,rfl,by decide +kernel,by decide +kernel⟩
theorem sc_prime_above : FnScope ["number","found"] ["number"] (defScope s_prime_above) := ⟨rfl,rfl,rfl,by decide +kernel,rfl,by decide +kernel,by decide +kernel⟩
theorem sc_divides : FnScope ["monic_one","poly"] ["monic_one","poly"] (defScope s_divides) := ⟨rfl,rfl,rfl,by decide +kernel,rfl,by decide +kernel,by decide +kernel⟩
theorem sc_taken_poly : FnScope ["prime","poly"] ["prime","poly"] (defScope s_taken_poly) := ⟨rfl,rfl,rfl,by decide +kernel,rfl,by decide +kernel,by decide +kernel⟩
theorem sc_nearest : FnScope ["modulus","number","rest"] ["modulus","number"] (defScope s_nearest) := ⟨rfl,rfl,rfl,by decide +kernel,rfl,by decide +kernel,by decide +kernel⟩
theorem sc_joined : FnScope ["modulus","number","prime","rest","more"] ["modulus","number","prime","rest"] (defScope s_joined) := ⟨rfl,rfl,rfl,by decide +kernel,rfl,by decide +kernel,by decide +kernel⟩
theorem sc_whole_greatest : FnScope ["one","other","told","modulus","prime","ripe","seen","before"] ["one","other"] (defScope s_whole_greatest) := ⟨rfl,rfl,rfl,by decide +kernel,rfl,by decide +kernel,by decide +kernel⟩
theorem sc_shared_divisor : FnScope ["by","one","other"] ["by","one","other"] (defScope s_shared_divisor) := ⟨rfl,rfl,rfl,by decide +kernel,rfl,by decide +kernel,by decide +kernel⟩
theorem sc_top_of : FnScope ["row","poly","by","starts","top","k","parts"] ["row","poly"] (defScope s_top_of) := ⟨rfl,rfl,rfl,by decide +kernel,rfl,by decide +kernel,by decide +kernel⟩
theorem sc_least_of : FnScope ["row","by","poly","top"] ["row"] (defScope s_least_of) := ⟨rfl,rfl,rfl,by decide +kernel,rfl,by decide +kernel,by decide +kernel⟩
theorem sc_line_taken : FnScope ["by","line"] ["by","line"] (defScope s_line_taken) := ⟨rfl,rfl,rfl,by decide +kernel,rfl,by decide +kernel,by decide +kernel⟩
theorem sc_head_line : FnScope ["lines","begin","column","i"] ["lines","begin","column"] (defScope s_head_line) := ⟨rfl,rfl,rfl,by decide +kernel,rfl,by decide +kernel,by decide +kernel⟩
theorem sc_bring_up : FnScope ["by","lines","at","top","down"] ["by","lines","at","top"] (defScope s_bring_up) := ⟨rfl,rfl,rfl,by decide +kernel,rfl,by decide +kernel,by decide +kernel⟩
theorem sc_freed : FnScope ["by","line","head","column","last","pivot","factor","mixed","share"] ["by","line","head","column","last"] (defScope s_freed) := ⟨rfl,rfl,rfl,by decide +kernel,rfl,by decide +kernel,by decide +kernel⟩
theorem sc_clear : FnScope ["by","wide","lines","heads","last","column","top","at","i"] ["by","wide","lines"] (defScope s_clear) := ⟨rfl,rfl,rfl,by decide +kernel,rfl,by decide +kernel,by decide +kernel⟩
theorem sc_common_divisor : FnScope ["one","other","great","small","left"] ["one","other"] (defScope s_common_divisor) := ⟨rfl,rfl,rfl,by decide +kernel,rfl,by decide +kernel,by decide +kernel⟩
theorem sc_lowest : FnScope ["by","bottom","tops","top","divisor"] ["by","bottom","tops"] (defScope s_lowest) := ⟨rfl,rfl,rfl,by decide +kernel,rfl,by decide +kernel,by decide +kernel⟩
theorem sc_free_numbers : FnScope ["by","wide","lines","heads","last","column","free","i"] ["by","wide","lines","heads","last"] (defScope s_free_numbers) := ⟨rfl,rfl,rfl,by decide +kernel,rfl,by decide +kernel,by decide +kernel⟩
theorem sc_solution : FnScope ["by","wide","table","wished","lines","i","cleared","heads","last","tops","low"] ["by","wide","table","wished"] (defScope s_solution) := ⟨rfl,rfl,rfl,by decide +kernel,rfl,by decide +kernel,by decide +kernel⟩
theorem sc_paper_against : FnScope ["by","wide","table","wished","turned","goal"] ["by","wide","table","wished"] (defScope s_paper_against) := ⟨rfl,rfl,rfl,by decide +kernel,rfl,by decide +kernel,by decide +kernel⟩
theorem sc_solved : FnScope ["by","wide","table","wished","found"] ["by","wide","table","wished"] (defScope s_solved) := ⟨rfl,rfl,rfl,by decide +kernel,rfl,by decide +kernel,by decide +kernel⟩
theorem sc_refuse_big : FnScope ["poly"] ["poly"] (defScope s_refuse_big) := ⟨rfl,rfl,rfl,by decide +kernel,rfl,by decide +kernel,by decide +kernel⟩
theorem sc_whole_divisors : FnScope ["number","small","great","tried"] ["number"] (defScope s_whole_divisors) := ⟨rfl,rfl,rfl,by decide +kernel,rfl,by decide +kernel,by decide +kernel⟩
theorem sc_perhaps_roots : FnScope ["poly","low","above","below"] ["poly"] (defScope s_perhaps_roots) := ⟨rfl,rfl,rfl,by decide +kernel,rfl,by decide +kernel,by decide +kernel⟩
theorem sc_divided_out : FnScope ["poly","root","often","left","tried"] ["poly","root"] (defScope s_divided_out) := ⟨rfl,rfl,rfl,by decide +kernel,rfl,by decide +kernel,by decide +kernel⟩
theorem sc_whole_roots : FnScope ["poly","roots","left","root","found"] ["poly"] (defScope s_whole_roots) := ⟨rfl,rfl,rfl,by decide +kernel,rfl,by decide +kernel,by decide +kernel⟩
theorem sc_form_line : FnScope ["roots","n","line","pair"] ["roots","n"] (defScope s_form_line) := ⟨rfl,rfl,rfl,by decide +kernel,rfl,by decide +kernel,by decide +kernel⟩
theorem sc_parts_of : FnScope ["roots","tops","parts","begin","pair","end"] ["roots","tops"] (defScope s_parts_of) := ⟨rfl,rfl,rfl,by decide +kernel,rfl,by decide +kernel,by decide +kernel⟩
theorem sc_closed : FnScope ["row","found","roots","length","table","answer"] ["row"] (defScope s_closed) := ⟨rfl,rfl,rfl,by decide +kernel,rfl,by decide +kernel,by decide +kernel⟩
theorem sc_Lat : FnScope ["_law_script","_law_k","_law_mixed"] ["_law_script","_law_k"] (defScope s_Lat) := ⟨rfl,rfl,rfl,by decide +kernel,rfl,by decide +kernel,by decide +kernel⟩
theorem sc_Ltimes : FnScope ["_law_one","_law_other","_law_found","_law_k","_law_j"] ["_law_one","_law_other"] (defScope s_Ltimes) := ⟨rfl,rfl,rfl,by decide +kernel,rfl,by decide +kernel,by decide +kernel⟩
theorem sc_Lrefused : FnScope ["_law_row","_law_caught","e","_law_others"] ["_law_row"] (defScope s_Lrefused) := ⟨rfl,rfl,rfl,by decide +kernel,rfl,by decide +kernel,by decide +kernel⟩
theorem sc_Lrule : FnScope ["_law_poly"] ["_law_poly"] (defScope s_Lrule) := ⟨rfl,rfl,rfl,by decide +kernel,rfl,by decide +kernel,by decide +kernel⟩
theorem sc_law : FnScope ["_law_script","_law_size","_law_ends","_law_by","_law_rule_here","_law_k","_law_big","_law_at_here","_law_other","_law_told"] ["_law_script"] (defScope s_law) := ⟨rfl,rfl,rfl,by decide +kernel,rfl,by decide +kernel,by decide +kernel⟩
noncomputable abbrev cs_monic1 : Scope := { kind := .function,names := [(".0",.local),("number",.local),("over",.globalImplicit),("last",.cell),("prime",.cell)],isGenerator := false,isCoroutine := false }
noncomputable abbrev cs_of_rule1 : Scope := { kind := .function,names := [(".0",.local),("k",.local),("taken",.globalImplicit),("by",.cell),("length",.cell),("rule",.cell)],isGenerator := false,isCoroutine := false }
noncomputable abbrev cs_taken_poly1 : Scope := { kind := .function,names := [(".0",.local),("number",.local),("taken",.globalImplicit),("prime",.cell)],isGenerator := false,isCoroutine := false }
noncomputable abbrev cs_whole_greatest1 : Scope := { kind := .function,names := [(".0",.local),("rest",.local),("nearest",.globalImplicit),("prime",.cell)],isGenerator := false,isCoroutine := false }
noncomputable abbrev cs_whole_greatest2 : Scope := { kind := .function,names := [(".0",.local),("k",.local),("joined",.globalImplicit),("before",.cell),("modulus",.cell),("prime",.cell),("seen",.cell)],isGenerator := false,isCoroutine := false }
noncomputable abbrev cs_top_of1 : Scope := { kind := .function,names := [(".0",.local),("j",.local),("k",.cell),("poly",.cell),("starts",.cell)],isGenerator := false,isCoroutine := false }
noncomputable abbrev cs_lowest1 : Scope := { kind := .function,names := [(".0",.local),("top",.local),("over",.globalImplicit),("bottom",.cell),("by",.cell)],isGenerator := false,isCoroutine := false }
noncomputable abbrev cs_lowest2 : Scope := { kind := .function,names := [(".0",.local),("top",.local),("divisor",.cell)],isGenerator := false,isCoroutine := false }
noncomputable abbrev cs_solution1 : Scope := { kind := .function,names := [(".0",.local),("i",.local),("line_taken",.globalImplicit),("by",.cell),("table",.cell),("wished",.cell)],isGenerator := false,isCoroutine := false }
noncomputable abbrev cs_solution2 : Scope := { kind := .function,names := [(".0",.local),("line",.local),("wide",.cell)],isGenerator := false,isCoroutine := false }
noncomputable abbrev cs_refuse_big1 : Scope := { kind := .function,names := [(".0",.local),("number",.local),("abs",.globalImplicit),("ABOVE_ALL_NUMBERS",.globalImplicit)],isGenerator := false,isCoroutine := false }
noncomputable abbrev cs_perhaps_roots1 : Scope := { kind := .function,names := [(".0",.local),("number",.local)],isGenerator := false,isCoroutine := false }
noncomputable abbrev cs_perhaps_roots2 : Scope := { kind := .function,names := [(".0",.local),("divisor",.local)],isGenerator := false,isCoroutine := false }
noncomputable abbrev cs_closed1 : Scope := { kind := .function,names := [(".0",.local),("pair",.local)],isGenerator := false,isCoroutine := false }
noncomputable abbrev cs_closed2 : Scope := { kind := .function,names := [(".0",.local),("pair",.local)],isGenerator := false,isCoroutine := false }
noncomputable abbrev cs_closed3 : Scope := { kind := .function,names := [(".0",.local),("n",.local),("form_line",.globalImplicit),("roots",.cell)],isGenerator := false,isCoroutine := false }
noncomputable abbrev cs_Lrule1 : Scope := { kind := .function,names := [(".0",.local),("_law_number",.local)],isGenerator := false,isCoroutine := false }
noncomputable abbrev cs_law1 : Scope := { kind := .function,names := [(".0",.local),("_law_k",.local),("_law_at",.globalImplicit),("_law_by",.cell),("_law_script",.cell)],isGenerator := false,isCoroutine := false }
noncomputable abbrev cs_law2 : Scope := { kind := .function,names := [(".0",.local),("_law_number",.local),("_law_by",.cell)],isGenerator := false,isCoroutine := false }
noncomputable abbrev cs_law3 : Scope := { kind := .function,names := [(".0",.local),("_law_k",.local),("_law_at",.globalImplicit),("_law_script",.cell)],isGenerator := false,isCoroutine := false }
structure Bt (mg : Str → Option Value) : Prop where
  b_ValueError : mg "ValueError" = none
  b_abs : mg "abs" = none
  b_any : mg "any" = none
  b_int : mg "int" = none
  b_isinstance : mg "isinstance" = none
  b_len : mg "len" = none
  b_list : mg "list" = none
  b_max : mg "max" = none
  b_range : mg "range" = none
  b_reversed : mg "reversed" = none
  b_sum : mg "sum" = none
  b_tuple : mg "tuple" = none
  g_ABOVE_ALL_NUMBERS : ∃ t,mg "ABOVE_ALL_NUMBERS" = some (.int 1000000 t)
  g_BELOW_THE_PRIMES : ∃ t,mg "BELOW_THE_PRIMES" = some (.int 1000000 t)
structure Ms (K : PySem.W.Frag) (mg : Str → Option Value) (base : Heap) (A_NoBy A_NoName A_NoNumber A_NoRow A_NoText A_RuleError A_TooBig A_TooFar A_TooLong : Addr) : Prop where
  m_NoBy : mg "NoBy" = some (.ref A_NoBy)
  m_NoName : mg "NoName" = some (.ref A_NoName)
  m_NoNumber : mg "NoNumber" = some (.ref A_NoNumber)
  m_NoRow : mg "NoRow" = some (.ref A_NoRow)
  m_NoText : mg "NoText" = some (.ref A_NoText)
  m_RuleError : mg "RuleError" = some (.ref A_RuleError)
  m_TooBig : mg "TooBig" = some (.ref A_TooBig)
  m_TooFar : mg "TooFar" = some (.ref A_TooFar)
  m_TooLong : mg "TooLong" = some (.ref A_TooLong)
  x_NoBy : ExC mg base "NoBy" A_NoBy
  s_NoBy_RuleError : ExS base A_NoBy A_RuleError
  i_NoBy : ExI K A_NoBy
  k_NoBy_NoBy : PySem.W.kitOne K (.ref A_NoBy) (.ref A_NoBy) = some true
  k_NoBy_NoName : PySem.W.kitOne K (.ref A_NoBy) (.ref A_NoName) = some false
  k_NoBy_NoNumber : PySem.W.kitOne K (.ref A_NoBy) (.ref A_NoNumber) = some false
  k_NoBy_NoRow : PySem.W.kitOne K (.ref A_NoBy) (.ref A_NoRow) = some false
  k_NoBy_NoText : PySem.W.kitOne K (.ref A_NoBy) (.ref A_NoText) = some false
  k_NoBy_RuleError : PySem.W.kitOne K (.ref A_NoBy) (.ref A_RuleError) = some true
  k_NoBy_TooBig : PySem.W.kitOne K (.ref A_NoBy) (.ref A_TooBig) = some false
  k_NoBy_TooFar : PySem.W.kitOne K (.ref A_NoBy) (.ref A_TooFar) = some false
  k_NoBy_TooLong : PySem.W.kitOne K (.ref A_NoBy) (.ref A_TooLong) = some false
  k_NoBy_ValueError : PySem.W.kitOne K (.ref A_NoBy) (.type "ValueError") = some true
  x_TooBig : ExC mg base "TooBig" A_TooBig
  s_TooBig_RuleError : ExS base A_TooBig A_RuleError
  i_TooBig : ExI K A_TooBig
  k_TooBig_NoBy : PySem.W.kitOne K (.ref A_TooBig) (.ref A_NoBy) = some false
  k_TooBig_NoName : PySem.W.kitOne K (.ref A_TooBig) (.ref A_NoName) = some false
  k_TooBig_NoNumber : PySem.W.kitOne K (.ref A_TooBig) (.ref A_NoNumber) = some false
  k_TooBig_NoRow : PySem.W.kitOne K (.ref A_TooBig) (.ref A_NoRow) = some false
  k_TooBig_NoText : PySem.W.kitOne K (.ref A_TooBig) (.ref A_NoText) = some false
  k_TooBig_RuleError : PySem.W.kitOne K (.ref A_TooBig) (.ref A_RuleError) = some true
  k_TooBig_TooBig : PySem.W.kitOne K (.ref A_TooBig) (.ref A_TooBig) = some true
  k_TooBig_TooFar : PySem.W.kitOne K (.ref A_TooBig) (.ref A_TooFar) = some false
  k_TooBig_TooLong : PySem.W.kitOne K (.ref A_TooBig) (.ref A_TooLong) = some false
  k_TooBig_ValueError : PySem.W.kitOne K (.ref A_TooBig) (.type "ValueError") = some true
noncomputable abbrev KLAW : Nat := 12
theorem emod_lo (a : Int) {b : Int} (h : 0 < b) : 0 ≤ a % b := Int.emod_nonneg _ (by omega)
theorem emod_hi (a : Int) {b : Int} (h : 0 < b) : a % b < b := Int.emod_lt_of_pos _ h
theorem atI_ints {ns : List Int} {k : Int} (h0 : 0 ≤ k) (h1 : k < (ns.length : Int)) : atI (ns.map V.int) k = some (.int (ns.getD k.toNat 0)) := by
  have e : k = ((k.toNat : Nat) : Int) := by omega
  have hk : k.toNat < ns.length := by omega
  conv => lhs; rw [e]
  exact atI_nat (by rw [List.getElem?_map,List.getElem?_eq_getElem hk,List.getD_eq_getElem?_getD,List.getElem?_eq_getElem hk] <;> rfl)
theorem atI_len {α : Type} {xs : List α} {k : Int} {v : α} (j : Nat) (e : k = (j : Int)) (h : xs[j]? = some v) : atI xs k = some v := by rw [e]; exact atI_nat h
theorem dec_true {p : Prop} [Decidable p] (c : decide p = true) : p := of_decide_eq_true c
theorem dec_false {p : Prop} [Decidable p] (c : ¬ decide p = true) : ¬ p := of_decide_eq_false (Bool.eq_false_iff.mpr c)
noncomputable def IsNum (b x : Int) : Prop := b = 0 ∨ (0 ≤ x ∧ x < b)
structure Rw where
  b : Int
  rule : List Int
  starts : List Int
structure RwOk (r : Rw) : Prop where
  len : r.rule.length = r.starts.length
  short : r.rule.length ≤ 12
  by0 : 0 ≤ r.b
  by1 : r.b < 1000
  ruleNum : ∀ x ∈ r.rule,IsNum r.b x
  startsNum : ∀ x ∈ r.starts,IsNum r.b x
  ruleBd : ∀ x ∈ r.rule,Rm.Bd 200 x
  startsBd : ∀ x ∈ r.starts,Rm.Bd 1000 x
noncomputable def Rw.at (r : Rw) (n : Nat) : Int := Rm.at_ r.b r.rule r.starts n
theorem mulBd {x y : Int} {m n : Nat} (h : Rm.Bd m x) (h' : Rm.Bd n y) (hn : m + n ≤ 134217728) : IntMulOk x y :=
  IntMulOk.of_le (intBits_le_iff.mpr h) (intBits_le_iff.mpr h') hn
noncomputable def RowIs (H : Hp) (v : V) (r : Rw) : Prop :=
  ∃ a p q,v = .ref a ∧ H a = some (.tup [.int r.b,.ref p,.ref q]) ∧ H p = some (.tup (r.rule.map V.int)) ∧ H q = some (.tup (r.starts.map V.int))
theorem RowIs.same {H H' : Hp} {v : V} {r : Rw} (h : RowIs H v r) (g : Same H H') : RowIs H' v r := by
  obtain ⟨a,p,q,e,h1,h2,h3⟩ := h
  exact ⟨a,p,q,e,g _ _ h1,g _ _ h2,g _ _ h3⟩
theorem map_snoc (xs : List Int) (x : Int) : (xs ++ [x]).map V.int = xs.map V.int ++ [.int x] := by rw [List.map_append]; rfl
inductive SpLaw_  (K : PySem.W.Frag) (vs : List V) (H : Hp) (Q : VK) (E : XK) : Prop | mk (a : Addr) (ns : List Int) (z_0 : vs = [.ref a]) (z_1 : SqL K H a (ns.map V.int)) (z_2 : ns.length ≤ 63) (z_3 : ∀ H',Q (.bl true) H')
noncomputable def spLaw  (K : PySem.W.Frag) : Sp := fun vs H Q E => SpLaw_ K vs H Q E
theorem cut_to (xs : List V) (k : Nat) : cutV xs none (some (k : Int)) = xs.take k := by
  unfold cutV
  rw [HT.sIx_nat,HT.sIx_none,List.drop_zero,Nat.sub_zero,List.take_eq_take_iff]
  omega
theorem cut_drop (xs : List V) (k : Nat) : cutV xs (some (k : Int)) none = xs.drop k := by
  unfold cutV
  rw [HT.sIx_nat,HT.sIx_none]
  by_cases h : k ≤ xs.length
  · rw [Nat.min_eq_left h,List.take_of_length_le (by rw [List.length_drop]; omega)]
  · rw [Nat.min_eq_right (by omega),List.drop_eq_nil_of_le (Nat.le_refl _),List.drop_eq_nil_of_le (by omega),List.take_nil]
theorem cut_nextN (xs : List V) (i : Nat) : cutV xs (some ((i : Int) + 1)) none = xs.drop (i + 1) := cut_drop xs (i + 1)
noncomputable def ToldT (H : Hp) (Q : VK) (ns : List Int) : Prop := ∀ p H',Same H H' → H' p = some (.tup (ns.map V.int)) → Q (.ref p) H'
theorem take_step {xs : List Int} {n : Nat} (h : 0 < n) (hn : n ≤ xs.length) : xs.take n = xs.take (n - 1) ++ [xs.getD (n - 1) 0] := by
  obtain ⟨m,rfl⟩ : ∃ m,n = m + 1 := ⟨n - 1,by omega⟩
  rw [Nat.add_sub_cancel,List.take_add_one,List.getElem?_eq_getElem (by omega),List.getD_eq_getElem?_getD,List.getElem?_eq_getElem (by omega)]
  rfl
theorem trim_down {xs : List Int} {n : Nat} (h : 0 < n) (hn : n ≤ xs.length) (ht : Pm.trim (xs.take n) = Pm.trim xs) (h0 : xs.getD (n - 1) 0 = 0) : Pm.trim (xs.take (n - 1)) = Pm.trim xs := by
  rw [take_step h hn,h0,Pm.trim_zero] at ht
  exact ht
theorem trim_stop {xs : List Int} {n : Nat} (hn : n ≤ xs.length) (ht : Pm.trim (xs.take n) = Pm.trim xs) (h0 : n = 0 ∨ xs.getD (n - 1) 0 ≠ 0) : xs.take n = Pm.trim xs := by
  rcases h0 with h0 | h0
  · subst h0; rw [← ht]; rfl
  · by_cases hz : n = 0
    · subst hz; rw [← ht]; rfl
    · rw [← ht,take_step (by omega) hn,Pm.trim_last _ h0]
theorem ixN_of {n j : Nat} {i : Int} (e : i = (j : Int)) (h : j < n) : ixN n i = some j := by
  subst e
  unfold ixN
  rw [if_pos (by omega),if_pos (by omega),Int.toNat_natCast]
theorem map_set_int (L : List Int) (j : Nat) (x : Int) : (L.map V.int).set j (.int x) = (L.set j x).map V.int := by rw [List.map_set]
theorem replicate_ofF (n : Nat) : (List.replicate n [V.int 0]).flatten = (Pm.ofF n fun _ => 0).map V.int := by
  induction n with
  | zero => rfl
  | succ n ih =>
    rw [Pm.ofF_succ,List.map_append,← ih,List.replicate_succ',List.flatten_append]
    rfl
theorem comp_rng {n : Nat} {ix : List (Option Nat)} {te : TE} {σ : St} {H1 : Hp} {Q : VK} (hz : n ≤ 1000) {rest : St} (hst : cst ix σ = none :: rest) (f : Nat → Int)
    (he : ∀ H' k,Same H1 H' → k < n → ∀ kk : VK,kk (.int (f k)) H' → te (some (.int (0 + (k : Int))) :: rest) H' kk)
    (hQ : ∀ D,H1 D = none → Q (.ref D) (upd H1 D (.lst ((Pm.ofF n f).map V.int)))) : CompK ix (gName 0) tYes te σ Q (Itr 0 n) H1 := by
  refine comp_pure its_range (by rw [List.length_map,List.length_range]; exact Nat.le_of_lt (small1000 hz)) hst (fun _ => true) (fun x => match x with | .int k => .int (f k.toNat) | _ => .non) ?_ ?_ ?_
  · intro H2 x g2 hx k hk; exact hk
  · intro H2 x g2 hx _ k hk
    obtain ⟨j,hj,rfl⟩ := List.mem_map.mp hx
    have e1 : (0 + (j : Int)).toNat = j := by omega
    refine he H2 j g2 (List.mem_range.mp hj) k ?_
    have hk' : k (V.int (f (0 + (j : Int)).toNat)) H2 := hk
    rwa [e1] at hk'
  · intro D hD
    have el : ((((List.range n).map fun i => V.int (0 + (i : Nat))).filter fun _ => true).map fun x => match x with | .int k => V.int (f k.toNat) | _ => V.non) = (Pm.ofF n f).map V.int := by
      rw [List.filter_eq_self.mpr (by simp),List.map_map,Pm.ofF,List.map_map]
      refine List.map_congr_left fun k _ => ?_
      show V.int (f (0 + (k : Int)).toNat) = V.int (f k)
      rw [show (0 + (k : Int)).toNat = k by omega]
    rw [el]
    exact hQ D hD
theorem comp_tup {K : PySem.W.Frag} {a : Addr} {xs : List Int} {ix : List (Option Nat)} {te : TE} {σ : St} {H1 : Hp} {Q : VK} (hA : H1 a = some (.tup (xs.map V.int))) (hz : xs.length ≤ 1000) {rest : St} (hst : cst ix σ = none :: rest) (f : Int → Int)
    (he : ∀ H' x,Same H1 H' → x ∈ xs → ∀ kk : VK,kk (.int (f x)) H' → te (some (.int x) :: rest) H' kk)
    (hQ : ∀ D,H1 D = none → Q (.ref D) (upd H1 D (.lst ((xs.map f).map V.int)))) : CompK ix (gName 0) tYes te σ Q (Itt K a) H1 := by
  refine comp_pure (its_tup (SqT.of hA)) (by rw [List.length_map]; exact Nat.le_of_lt (small1000 hz)) hst (fun _ => true) (fun x => match x with | .int k => .int (f k) | _ => .non) ?_ ?_ ?_
  · intro H2 x g2 hx k hk; exact hk
  · intro H2 x g2 hx _ k hk
    obtain ⟨y,hy,rfl⟩ := List.mem_map.mp hx
    exact he H2 y g2 hy k hk
  · intro D hD
    have el : (((xs.map V.int).filter fun _ => true).map fun x => match x with | .int k => V.int (f k) | _ => V.non) = (xs.map f).map V.int := by
      rw [List.filter_eq_self.mpr (by simp),List.map_map,List.map_map]; rfl
    rw [el]
    exact hQ D hD
theorem map_int_get {p : List Int} {i : Nat} {x : V} (h : (p.map V.int)[i]? = some x) : x = .int (Pm.co p i) ∧ i < p.length := by
  by_cases hi : i < p.length
  · rw [List.getElem?_map,List.getElem?_eq_getElem hi] at h
    cases h
    refine ⟨?_,hi⟩
    show V.int _ = V.int (p.getD i 0)
    rw [List.getD_eq_getElem?_getD,List.getElem?_eq_getElem hi]; rfl
  · rw [List.getElem?_eq_none (by rw [List.length_map]; omega)] at h; cases h
theorem comp_rngP {n : Nat} {ix : List (Option Nat)} {te : TE} {σ : St} {H1 : Hp} {Q : VK} (hz : n ≤ 1000) {rest : St} (hst : cst ix σ = none :: rest) (P : Int → Prop)
    (he : ∀ H' k,Same H1 H' → k < n → ∀ kk : VK,(∀ x H2,Same H' H2 → P x → kk (.int x) H2) → te (some (.int (0 + (k : Int))) :: rest) H' kk)
    (hQ : ∀ D H' xs,H1 D = none → Same H1 H' → H' D = some (.lst (List.map V.int xs)) → xs.length = n → (∀ x ∈ xs,P x) → Q (.ref D) H') : CompK ix (gName 0) tYes te σ Q (Itr 0 n) H1 := by
  have I : ItS (Itr 0 n) ((List.range n).map fun i => V.int (0 + (i : Nat))) H1 := its_range
  have lI : ((List.range n).map fun i => V.int (0 + (i : Nat))).length = n := by rw [List.length_map,List.length_range]
  constructor
  intro D hD
  refine ⟨fun i m σ' H' => m = n - i ∧ i ≤ n ∧ (∃ o,σ' = o :: rest) ∧ Same H1 H' ∧ ∃ xs : List Int,H' D = some (.lst (xs.map V.int)) ∧ xs.length = i ∧ ∀ x ∈ xs,P x,⟨n,rfl,Nat.zero_le _,⟨none,hst⟩,Same.new hD _,[],upd_same,rfl,fun _ h => nomatch h⟩,?_⟩
  rintro i m σ' H' ⟨rfl,hi,⟨o,rfl⟩,g,xs,hl,lx,hP⟩
  by_cases hlt : i < n
  · refine .inr ⟨I.go i _ g (by rw [lI]; exact hlt),fun x H2 y => ?_⟩
    obtain ⟨rfl,hx⟩ := I.yld i _ x H2 g y
    have hx := hx (by rw [lI]; exact hlt)
    rw [List.getElem?_map,List.getElem?_range hlt] at hx
    cases hx
    change te (some (.int (0 + (i : Int))) :: rest) H2 _
    refine he H2 i g hlt _ fun x H3 g3 hx => ⟨_,g3 _ _ hl,by rw [List.length_map,lx]; exact small1000 (by omega),n - (i + 1),by omega,rfl,hlt,⟨_,rfl⟩,Same.upd (g.trans g3) hD _,xs ++ [x],?_,by rw [List.length_append,lx]; rfl,fun z hz => ?_⟩
    · rw [upd_same,map_snoc]
    · rcases List.mem_append.mp hz with hz | hz
      · exact hP z hz
      · rw [List.mem_singleton.mp hz]; exact hx
  · have e : i = n := by omega
    subst e
    exact .inl ⟨I.stop _ _ g (by rw [lI]; exact Nat.le_refl _),hQ D H' xs hD g hl lx hP⟩
inductive SpTaken_  (vs : List V) (H : Hp) (Q : VK) (E : XK) : Prop | mk (b n : Int) (z_0 : vs = [.int b,.int n]) (z_1 : 0 ≤ b) (z_2 : Q (.int (Rm.tk b n)) H)
noncomputable def spTaken : Sp := fun vs H Q E => SpTaken_  vs H Q E
inductive SpPrimeQ_  (vs : List V) (H : Hp) (Q : VK) (E : XK) : Prop | mk (n : Nat) (z_0 : vs = [.int n]) (z_1 : n < 2097152) (z_2 : ∀ b : Bool,(b = true ↔ Om.Prime n) → Q (.bl b) H)
noncomputable def spPrimeQ : Sp := fun vs H Q E => SpPrimeQ_  vs H Q E
inductive SpAbove_  (vs : List V) (H : Hp) (Q : VK) (E : XK) : Prop | mk (n q : Nat) (z_0 : vs = [.int n]) (z_1 : Om.Prime q) (z_2 : n < q) (z_3 : q < 2097152) (z_4 : ∀ p : Nat,Om.Prime p → n < p → p ≤ q → Q (.int p) H)
noncomputable def spAbove : Sp := fun vs H Q E => SpAbove_  vs H Q E
inductive SpInverseQ_  (vs : List V) (H : Hp) (Q : VK) (E : XK) : Prop | mk (P : Nat) (a : Int) (z_0 : vs = [.int P,.int a]) (z_1 : Om.Prime P) (z_2 : P < 2097152) (z_3 : 0 < a) (z_4 : a < (P : Int)) (z_5 : ∀ x : Int,0 ≤ x → x < 2097152 → x % (P : Int) = a ^ (P - 2) % (P : Int) → Q (.int x) H)
noncomputable def spInverseQ : Sp := fun vs H Q E => SpInverseQ_  vs H Q E
inductive SpOverQ_  (vs : List V) (H : Hp) (Q : VK) (E : XK) : Prop | mk (P : Nat) (one other : Int) (z_0 : vs = [.int P,.int one,.int other]) (z_1 : Om.Prime P) (z_2 : P < 2097152) (z_3 : 0 < other) (z_4 : other < (P : Int)) (z_5 : Q (.int (one * other ^ (P - 2) % (P : Int))) H)
noncomputable def spOverQ : Sp := fun vs H Q E => SpOverQ_  vs H Q E
inductive SpTrim_  (K : PySem.W.Frag) (vs : List V) (H : Hp) (Q : VK) (E : XK) : Prop | mk (l : Addr) (xs : List Int) (z_0 : vs = [.ref l]) (z_1 : SqL K H l (xs.map V.int)) (z_2 : ToldT H Q (Pm.trim xs))
noncomputable def spTrim  (K : PySem.W.Frag) : Sp := fun vs H Q E => SpTrim_ K vs H Q E
noncomputable def ToldD (H : Hp) (Q : VK) (b : Int) (P M : List Int) : Prop := ∀ t x y q r H',Same H H' → H' t = some (.tup [.ref x,.ref y]) → H' x = some (.tup (List.map V.int q)) → H' y = some (.tup (List.map V.int r)) → Pm.Div b P M q r →
  (∀ z ∈ q,Rm.Bd 5300000 z) → (∀ z ∈ r,Rm.Bd 5300000 z) → q.length ≤ P.length → Q (.ref t) H'
inductive SpDividedQ_  (vs : List V) (H : Hp) (Q : VK) (E : XK) : Prop | mk (b : Int) (a c : Addr) (P M : List Int) (z_0 : vs = [.int b,.ref a,.ref c]) (z_1 : 0 ≤ b) (z_2 : b < 2097152) (z_3 : H a = some (.tup (P.map V.int))) (z_4 : H c = some (.tup (M.map V.int))) (z_5 : P.length ≤ 40) (z_6 : M.length ≤ 40) (z_7 : Pm.Mon M) (z_8 : (∀ k,Rm.tk b (Pm.co P k) = Pm.co P k)) (z_9 : (∀ x ∈ P,Rm.Bd 300000 x)) (z_10 : (∀ x ∈ M,Rm.Bd 124000 x)) (z_11 : ToldD H Q b P M)
noncomputable def spDividedQ : Sp := fun vs H Q E => SpDividedQ_  vs H Q E
theorem bd_trim {L : List Int} {u : Nat} (h : ∀ k,Rm.Bd u (Pm.co L k)) : ∀ x ∈ Pm.trim L,Rm.Bd u x := fun x hx => by
  obtain ⟨k,hk,e⟩ := List.mem_iff_getElem.mp hx
  rw [← e,← Pm.co_lt hk,Pm.co_trim]; exact h k
theorem max_zero (m n : Nat) : (if (m : Int) - ((n : Int) - 1) > 0 then (m : Int) - ((n : Int) - 1) else 0).toNat = m - (n - 1) ∨ n = 0 := by
  by_cases h : n = 0
  · exact .inr h
  · left; split <;> omega
noncomputable def ToldM (H : Hp) (Q : VK) (b : Int) (p : List Int) : Prop := ∀ t m H',Same H H' → H' t = some (.tup (List.map V.int m)) → Pm.MonOf b p m → Q (.ref t) H'
inductive SpMonicQ_  (vs : List V) (H : Hp) (Q : VK) (E : XK) : Prop | mk (P : Nat) (a : Addr) (p : List Int) (z_0 : vs = [.int P,.ref a]) (z_1 : Om.Prime P) (z_2 : P < 2097152) (z_3 : H a = some (.tup (p.map V.int))) (z_4 : p.length ≤ 300) (z_5 : Pm.Py P p) (z_6 : ToldM H Q P p)
noncomputable def spMonicQ : Sp := fun vs H Q E => SpMonicQ_  vs H Q E
noncomputable def ToldG (H : Hp) (Q : VK) (b : Int) (p r : List Int) : Prop := ∀ t g H',Same H H' → H' t = some (.tup (List.map V.int g)) → Pm.Gcd b p r g → g.length ≤ max p.length r.length → Q (.ref t) H'
inductive SpGreatestQ_  (vs : List V) (H : Hp) (Q : VK) (E : XK) : Prop | mk (P : Nat) (a c : Addr) (p r : List Int) (z_0 : vs = [.int P,.ref a,.ref c]) (z_1 : Om.Prime P) (z_2 : P < 2097152) (z_3 : H a = some (.tup (p.map V.int))) (z_4 : H c = some (.tup (r.map V.int))) (z_5 : p.length ≤ 40) (z_6 : r.length ≤ 40) (z_7 : Pm.Py P p) (z_8 : Pm.Py P r) (z_9 : (r = [] → p ≠ [])) (z_10 : ToldG H Q P p r)
noncomputable def spGreatestQ : Sp := fun vs H Q E => SpGreatestQ_  vs H Q E
theorem py_bd {P : Nat} (h0 : 2 ≤ P) (h : P < 2097152) {p : List Int} (hp : Pm.Py P p) : ∀ x ∈ p,Rm.Bd 124000 x := fun x hx => by
  have := hp.nu x hx
  rw [Rm.tk_pos (by omega)] at this
  rw [← this]
  exact Rm.Bd.emod (by omega) ((Rm.Bd.of (n := 21) (by omega) (by omega)).mono (by decide))
inductive SpNearest_  (vs : List V) (H : Hp) (Q : VK) (E : XK) : Prop | mk (M x : Int) (z_0 : vs = [.int M,.int x]) (z_1 : 0 < M) (z_2 : Q (.int (Pm.nr M x)) H)
noncomputable def spNearest : Sp := fun vs H Q E => SpNearest_  vs H Q E
inductive SpTakenPoly_  (vs : List V) (H : Hp) (Q : VK) (E : XK) : Prop | mk (p : Nat) (a : Addr) (P : List Int) (z_0 : vs = [.int p,.ref a]) (z_1 : 0 < p) (z_2 : H a = some (.tup (P.map V.int))) (z_3 : P.length ≤ 100) (z_4 : ToldT H Q (Pm.trim (P.map (Rm.tk p))))
noncomputable def spTakenPoly : Sp := fun vs H Q E => SpTakenPoly_  vs H Q E
noncomputable def spNever : Sp := fun _ _ _ _ => False
inductive SpOfRule_  (vs : List V) (H : Hp) (Q : VK) (E : XK) : Prop | mk (b : Int) (a : Addr) (c : List Int) (z_0 : vs = [.int b,.ref a]) (z_1 : 0 ≤ b) (z_2 : H a = some (.tup (c.map V.int))) (z_3 : c.length ≤ 100) (z_4 : ToldT H Q (Pm.ofRule b c))
noncomputable def spOfRule : Sp := fun vs H Q E => SpOfRule_  vs H Q E
theorem comp_rngL {lo : Int} {n : Nat} {ix : List (Option Nat)} {te : TE} {σ : St} {H1 : Hp} {Q : VK} (hz : n ≤ 1000) {rest : St} (hst : cst ix σ = none :: rest) (f : Nat → Int)
    (he : ∀ H' k,Same H1 H' → k < n → ∀ kk : VK,kk (.int (f k)) H' → te (some (.int (lo + (k : Int))) :: rest) H' kk)
    (hQ : ∀ D,H1 D = none → Q (.ref D) (upd H1 D (.lst ((Pm.ofF n f).map V.int)))) : CompK ix (gName 0) tYes te σ Q (Itr lo n) H1 := by
  refine comp_pure its_range (by rw [List.length_map,List.length_range]; exact Nat.le_of_lt (small1000 hz)) hst (fun _ => true) (fun x => match x with | .int k => .int (f (k - lo).toNat) | _ => .non) ?_ ?_ ?_
  · intro H2 x g2 hx k hk; exact hk
  · intro H2 x g2 hx _ k hk
    obtain ⟨j,hj,rfl⟩ := List.mem_map.mp hx
    have e1 : (lo + (j : Int) - lo).toNat = j := by omega
    refine he H2 j g2 (List.mem_range.mp hj) k ?_
    have hk' : k (V.int (f (lo + (j : Int) - lo).toNat)) H2 := hk
    rwa [e1] at hk'
  · intro D hD
    have el : ((((List.range n).map fun i => V.int (lo + (i : Nat))).filter fun _ => true).map fun x => match x with | .int k => V.int (f (k - lo).toNat) | _ => V.non) = (Pm.ofF n f).map V.int := by
      rw [List.filter_eq_self.mpr (by simp),List.map_map,Pm.ofF,List.map_map]
      refine List.map_congr_left fun k _ => ?_
      show V.int (f (lo + (k : Int) - lo).toNat) = V.int (f k)
      rw [show (lo + (k : Int) - lo).toNat = k by omega]
    rw [el]
    exact hQ D hD
noncomputable def topL (r : Rw) : List Int := Pm.trim (Pm.ofF r.rule.length fun k => Rm.tk r.b (Pm.tp (Pm.ofRule r.b r.rule) r.at k))
theorem RwOk.poly_bd {r : Rw} (ok : RwOk r) : ∀ x ∈ Pm.ofRule r.b r.rule,Rm.Bd 200 x := Pm.ofRule_bd ok.by0 ok.by1 (by decide) ok.ruleBd
inductive SpTop_  (vs : List V) (H : Hp) (Q : VK) (E : XK) : Prop | mk (v : V) (r : Rw) (a : Addr) (z_0 : vs = [v,.ref a]) (z_1 : RowIs H v r) (z_2 : RwOk r) (z_3 : H a = some (.tup ((Pm.ofRule r.b r.rule).map V.int))) (z_4 : ToldT H Q (topL r))
noncomputable def spTop : Sp := fun vs H Q E => SpTop_  vs H Q E
theorem cv_one46 (f : Nat → Int) (k : Nat) : Pm.cv f (Pm.co [1]) k = f k := by
  rw [Pm.cv_sm,Pm.sm,Nat.sub_self,Pm.co_zero,Int.mul_one,Pm.sm_none (n := k) fun i hi => by rw [Pm.co_ge (k := k - i) (by show 1 ≤ k - i; omega),Int.mul_zero],Int.zero_add]
theorem py_one0 : Pm.Py 0 [1] := ⟨rfl,fun x _ => Rm.tk_zero x⟩
theorem py_mon0 {P : List Int} (h : Pm.Mon P) : Pm.Py 0 P := ⟨Pm.trim_of_last (fun z => by have := h.pos; rw [z] at this; exact absurd this (by decide)) (by rw [h.one]; decide),fun x _ => Rm.tk_zero x⟩
theorem mon_one : Pm.Mon [1] := ⟨by decide,rfl⟩
theorem div_self46 {P : List Int} (h : Pm.Mon P) : Pm.Div 0 P P [1] [] := ⟨py_one0,Pm.Py.nil 0,h.pos,fun k => by rw [Pm.cv_comm,cv_one46,Pm.co_nil,Int.add_zero]⟩
theorem div_one46 {P : List Int} (h : Pm.Mon P) : Pm.Div 0 P [1] P [] := ⟨py_mon0 h,Pm.Py.nil 0,by decide,fun k => by rw [cv_one46,Pm.co_nil,Int.add_zero]⟩
theorem div_low46 {P : List Int} (h : 2 ≤ P.length) {c : Int} (hc : c ≠ 0) : Pm.Div 0 [c] P [] [c] := ⟨Pm.Py.nil 0,⟨by rw [Pm.trim,Pm.trim,if_neg (fun z => hc z.1)],fun x _ => Rm.tk_zero x⟩,h,fun k => by
  rw [Pm.cv_zero (fun i _ => .inl (Pm.co_nil i)),Int.zero_add]⟩
theorem div_con46 {c : Int} (hc : c ≠ 0) : Pm.Div 0 [c] [1] [c] [] := ⟨⟨by rw [Pm.trim,Pm.trim,if_neg (fun z => hc z.1)],fun x _ => Rm.tk_zero x⟩,Pm.Py.nil 0,by decide,fun k => by rw [cv_one46,Pm.co_nil,Int.add_zero]⟩
theorem div_nil46 {P : List Int} (h : 0 < P.length) : Pm.Div 0 [] P [] [] := ⟨Pm.Py.nil 0,Pm.Py.nil 0,h,fun k => by rw [Pm.cv_zero (fun i _ => .inl (Pm.co_nil i)),Pm.co_nil,Int.add_zero]⟩
theorem prime_mill : Om.Prime 1000003 := by
  refine Om.prime_try (by decide) fun d hd hdd hdv => ?_
  have h : d < 1001 := by
    by_cases c : d < 1001
    · exact c
    · have : 1001 * 1001 ≤ d * d := Nat.mul_le_mul (by omega) (by omega)
      omega
  have key : ∀ d < 1001,2 ≤ d → 1000003 % d ≠ 0 := by decide +kernel
  exact key d h hd (Nat.mod_eq_zero_of_dvd hdv)
theorem gcd_one46 {p : Nat} (hp : Om.Prime p) (hb : 1000000 < p) {c : Nat} (hc : 0 < c) (h9 : c < 1000) (P : List Int) (g : List Int) (h : Pm.Gcd p P [(c : Int)] g) : g = [1] := by
  have h1 : Rm.tk (p : Int) 1 = 1 := by rw [Rm.tk_pos (by omega)]; exact Int.emod_eq_of_lt (by decide) (by omega)
  refine h.uniq (by omega) ⟨⟨rfl,fun x hx => by rw [List.mem_singleton.mp hx]; exact h1⟩,mon_one,⟨[],[((c ^ (p - 2) : Nat) : Int)],fun k => ?_⟩,⟨P,[],fun k => ?_⟩,⟨[(c : Int)],[],fun k => ?_⟩⟩
  · rw [Pm.cv_zero (fun i _ => .inl (Pm.co_nil i)),Int.zero_add]
    cases k with
    | zero =>
      show Rm.tk _ 1 = Rm.tk _ (((c ^ (p - 2) : Nat) : Int) * (c : Int))
      have f := hp.fermat (a := c) (by omega) (by omega)
      have e : c ^ (p - 1) = c ^ (p - 2) * c := by rw [← Nat.pow_succ]; congr 1; omega
      rw [h1,Rm.tk_pos (by omega),← Int.natCast_mul,← e]
      have : ((c ^ (p - 1) % p : Nat) : Int) = 1 := by rw [f]; rfl
      rw [← this,Int.natCast_emod]
    | succ k =>
      rw [Pm.co_ge (by show 1 ≤ k + 1; omega)]
      have : Pm.cv (Pm.co [((c ^ (p - 2) : Nat) : Int)]) (Pm.co [(c : Int)]) (k + 1) = 0 := Pm.cv_zero fun i _ => by
        by_cases z : i = 0
        · exact .inr (Pm.co_ge (by show 1 ≤ k + 1 - i; omega))
        · exact .inl (Pm.co_ge (by show 1 ≤ i; omega))
      rw [this]
  · rw [cv_one46,Pm.cv_zero (f := Pm.co []) (fun i _ => .inl (Pm.co_nil i)),Int.add_zero]
  · rw [cv_one46,Pm.cv_zero (f := Pm.co []) (fun i _ => .inl (Pm.co_nil i)),Int.add_zero]
noncomputable def ends46 (n : Nat) (c : Int) : List Int := Pm.ofF n fun i => if i = n - 1 then c else 0
theorem top_ends {r : Rw} (hb : r.b = 0) (ok : RwOk r) {c : Int} (hn : 0 < r.rule.length) (hc : c ≠ 0) (hs : r.starts = ends46 r.rule.length c) : topL r = [c] := by
  have e1 : Pm.trim [c] = [c] := by rw [Pm.trim,Pm.trim,if_neg (fun z => hc z.1)]
  unfold topL
  rw [← e1]
  refine Pm.trim_ext fun k => ?_
  have ea : ∀ i,i < r.rule.length → r.at i = if i = r.rule.length - 1 then c else 0 := fun i hi => by
    have e : r.at i = r.starts.getD i 0 := Rm.at_lt (by have := ok.len; omega)
    rw [e,hs]
    have := Pm.co_ofF r.rule.length (fun i => if i = r.rule.length - 1 then c else 0) i
    rw [if_pos hi] at this
    exact this
  have lq : (Pm.ofRule r.b r.rule).length = r.rule.length + 1 := Pm.ofRule_len ..
  have hm := Pm.ofRule_mon r.b r.rule
  have ho : Pm.co (Pm.ofRule r.b r.rule) r.rule.length = 1 := by have := hm.one; rwa [lq,Nat.add_sub_cancel] at this
  rw [Pm.co_ofF,hb,Rm.tk_zero]
  rw [hb] at lq ho
  unfold Pm.tp
  rw [lq,Nat.add_sub_cancel]
  cases k with
  | zero =>
    rw [if_pos hn,Pm.co_zero,Nat.sub_zero]
    obtain ⟨m,hmm⟩ : ∃ m,r.rule.length = m + 1 := ⟨r.rule.length - 1,by omega⟩
    rw [hmm,Pm.sm,ea m (by omega),if_pos (by omega),show 0 + 1 + m = r.rule.length by omega,ho,Int.one_mul,Pm.sm_none fun i hi => by rw [ea i (by omega),if_neg (by omega),Int.mul_zero],Int.zero_add]
  | succ k =>
    rw [Pm.co_succ,Pm.co_nil]
    split
    · exact Pm.sm_none fun i hi => by rw [ea i (by omega),if_neg (by omega),Int.mul_zero]
    · rfl
theorem top_noughts {r : Rw} (ok : RwOk r) (hs : r.starts = Pm.ofF r.rule.length fun _ => 0) : topL r = [] := by
  unfold topL
  refine Pm.trim_nil.mpr fun k => ?_
  have ea : ∀ i,i < r.rule.length → r.at i = 0 := fun i hi => by
    have e : r.at i = r.starts.getD i 0 := Rm.at_lt (by have := ok.len; omega)
    rw [e,hs]
    have := Pm.co_ofF r.rule.length (fun _ => (0 : Int)) i
    rw [if_pos hi] at this
    exact this
  have lq : (Pm.ofRule r.b r.rule).length = r.rule.length + 1 := Pm.ofRule_len ..
  rw [Pm.co_ofF]
  split
  · unfold Pm.tp
    rw [lq,Nat.add_sub_cancel,Pm.sm_none fun i hi => by rw [ea i (by omega),Int.mul_zero],Pm.tk0]
  · rfl
inductive SpDiv46_  (vs : List V) (H : Hp) (Q : VK) (E : XK) : Prop | mk (m a : Addr) (M P o l : List Int) (z_0 : vs = [.ref m,.ref a]) (z_1 : H m = some (.tup (M.map V.int))) (z_2 : H a = some (.tup (P.map V.int))) (z_3 : M.length ≤ 40) (z_4 : P.length ≤ 40) (z_5 : Pm.Mon M) (z_6 : (∀ x ∈ M,Rm.Bd 124000 x)) (z_7 : (∀ x ∈ P,Rm.Bd 300000 x)) (z_8 : Pm.Div 0 P M o l) (z_9 : ∀ H',Same H H' → Q (.bl (decide (l = []))) H')
noncomputable def spDiv46 : Sp := fun vs H Q E => SpDiv46_  vs H Q E
theorem py_tk46 (p : Nat) (P : List Int) : Pm.Py p (Pm.trim (P.map (Rm.tk p))) := Pm.Py.of fun x hx => by
  obtain ⟨y,_,rfl⟩ := List.mem_map.mp hx
  exact Rm.tk_tk ..
inductive SpWG46_  (vs : List V) (H : Hp) (Q : VK) (E : XK) : Prop | mk (a c : Addr) (P t : List Int) (z_0 : vs = [.ref a,.ref c]) (z_1 : H a = some (.tup (P.map V.int))) (z_2 : H c = some (.tup (t.map V.int))) (z_3 : P.length ≤ 40) (z_4 : 2 ≤ P.length) (z_5 : Pm.Mon P) (z_6 : (∀ x ∈ P,Rm.Bd 124000 x)) (z_7 : ((∃ c0 : Nat,0 < c0 ∧ c0 < 1000 ∧ t = [(c0 : Int)] ∧ ToldT H Q [1]) ∨ (t = [] ∧ ToldT H Q P)))
noncomputable def spWG46 : Sp := fun vs H Q E => SpWG46_  vs H Q E
inductive SpShared46_  (vs : List V) (H : Hp) (Q : VK) (E : XK) : Prop | mk (a c : Addr) (P t : List Int) (z_0 : vs = [.int 0,.ref a,.ref c]) (z_1 : H a = some (.tup (P.map V.int))) (z_2 : H c = some (.tup (t.map V.int))) (z_3 : P.length ≤ 40) (z_4 : 2 ≤ P.length) (z_5 : Pm.Mon P) (z_6 : (∀ x ∈ P,Rm.Bd 124000 x)) (z_7 : ((∃ c0 : Nat,0 < c0 ∧ c0 < 1000 ∧ t = [(c0 : Int)] ∧ ToldT H Q [1]) ∨ (t = [] ∧ ToldT H Q P)))
noncomputable def spShared46 : Sp := fun vs H Q E => SpShared46_  vs H Q E
inductive SpLeast46_  (vs : List V) (H : Hp) (Q : VK) (E : XK) : Prop | mk (v : V) (r : Rw) (z_0 : vs = [v]) (z_1 : RowIs H v r) (z_2 : RwOk r) (z_3 : r.b = 0) (z_4 : 0 < r.rule.length) (z_5 : ((∃ c0 : Nat,0 < c0 ∧ c0 < 1000 ∧ r.starts = ends46 r.rule.length (c0 : Int) ∧ ToldT H Q (Pm.ofRule 0 r.rule)) ∨ (r.starts = (Pm.ofF r.rule.length fun _ => 0) ∧ ToldT H Q [1])))
noncomputable def spLeast46 : Sp := fun vs H Q E => SpLeast46_  vs H Q E
inductive Tps (H : Hp) : List V → List (List Int) → Prop
  | nil : Tps H [] []
  | cons {t : Addr} {p : List Int} {xs : List V} {ps : List (List Int)} : H t = some (.tup (p.map V.int)) → Tps H xs ps → Tps H (.ref t :: xs) (p :: ps)
theorem Tps.up {H H' : Hp} (g : ∀ b ts,H b = some (.tup ts) → H' b = some (.tup ts)) : ∀ {xs : List V} {ps : List (List Int)},Tps H xs ps → Tps H' xs ps
  | _,_,.nil => .nil
  | _,_,.cons h r => .cons (g _ _ h) (Tps.up g r)
theorem Tps.same {H H' : Hp} (g : Same H H') {xs : List V} {ps : List (List Int)} (h : Tps H xs ps) : Tps H' xs ps := h.up fun b ts e => g b _ e
theorem Tps.set {H : Hp} {D : Addr} {ys : List V} {o : HO} (hD : H D = some (.lst ys)) {xs : List V} {ps : List (List Int)} (h : Tps H xs ps) : Tps (upd H D o) xs ps := h.up fun b ts e => by rw [upd_ne fun q => by rw [q,hD] at e; cases e]; exact e
theorem Tps.len {H : Hp} : ∀ {xs : List V} {ps : List (List Int)},Tps H xs ps → xs.length = ps.length
  | _,_,.nil => rfl
  | _,_,.cons _ r => by rw [List.length_cons,List.length_cons,Tps.len r]
theorem Tps.append {H : Hp} : ∀ {xs ys : List V} {ps qs : List (List Int)},Tps H xs ps → Tps H ys qs → Tps H (xs ++ ys) (ps ++ qs)
  | _,_,_,_,.nil,h => h
  | _,_,_,_,.cons h r,h' => .cons h (Tps.append r h')
theorem Tps.get {H : Hp} : ∀ {xs : List V} {ps : List (List Int)} {i : Nat} {x : V},Tps H xs ps → xs[i]? = some x → ∃ t p,x = .ref t ∧ ps[i]? = some p ∧ H t = some (.tup (p.map V.int))
  | _,_,_,_,.nil,h => by cases h
  | _,_,0,_,.cons h _,e => by cases e; exact ⟨_,_,rfl,rfl,h⟩
  | _,_,i + 1,_,.cons _ r,e => Tps.get (i := i) r e
inductive SpBig46_  (C : Addr) (vs : List V) (H : Hp) (Q : VK) (E : XK) : Prop | mk (a : Addr) (P : List Int) (z_0 : vs = [.ref a]) (z_1 : H a = some (.tup (P.map V.int))) (z_2 : P.length ≤ 40) (z_3 : ((∀ x ∈ P,x.natAbs < 1000000) → ∀ H',Same H H' → Q .non H')) (z_4 : ((∃ x ∈ P,1000000 ≤ x.natAbs) → ∀ H',Same H H' → E (.ref C) none H'))
noncomputable def spBig46  (C : Addr) : Sp := fun vs H Q E => SpBig46_ C vs H Q E
inductive SpDivs46_  (vs : List V) (H : Hp) (Q : VK) (E : XK) : Prop | mk (n : Nat) (z_0 : vs = [.int n]) (z_1 : n ≤ 1000000) (z_2 : ∀ l H',Same H H' → H' l = some (.lst ((Pm.divs n).map V.int)) → (Pm.divs n).length ≤ 2002 → Q (.ref l) H')
noncomputable def spDivs46 : Sp := fun vs H Q E => SpDivs46_  vs H Q E
inductive SpCand46_  (vs : List V) (H : Hp) (Q : VK) (E : XK) : Prop | mk (a : Addr) (P : List Int) (z_0 : vs = [.ref a]) (z_1 : H a = some (.tup (P.map V.int))) (z_2 : P.length ≤ 40) (z_3 : (∃ x ∈ P,x ≠ 0)) (z_4 : (∀ x ∈ P,x.natAbs < 1000000)) (z_5 : ∀ l H',Same H H' → H' l = some (.lst ((Pm.cands P).map V.int)) → (Pm.cands P).length ≤ 5000 → Q (.ref l) H')
noncomputable def spCand46 : Sp := fun vs H Q E => SpCand46_  vs H Q E
inductive SpOut46_  (vs : List V) (H : Hp) (Q : VK) (E : XK) : Prop | mk (a : Addr) (r : Int) (P : List Int) (u : Nat) (z_0 : vs = [.ref a,.int r]) (z_1 : H a = some (.tup (P.map V.int))) (z_2 : P.length ≤ 40) (z_3 : Pm.Mon P) (z_4 : Rm.Bd 40 r) (z_5 : (∀ x ∈ P,Rm.Bd u x)) (z_6 : u + P.length * 1640 ≤ 200000) (z_7 : ∀ t tl H',Same H H' → H' t = some (.tup [.int ((Pm.outF P.length P r).1 : Nat),.ref tl]) → H' tl = some (.tup ((Pm.outF P.length P r).2.map V.int)) → Q (.ref t) H')
noncomputable def spOut46 : Sp := fun vs H Q E => SpOut46_  vs H Q E
theorem for_its2 {K : PySem.W.Frag} {a : Addr} {xs : List V} {g : TG} {tb : TS} {D : Ends} {σ : St} {H : Hp} (Pv : Nat → St → Hp → Prop) (h0 : Pv 0 σ H) (hsq : ∀ i σ' H',Pv i σ' H' → SqL K H' a xs)
    (hs : ∀ i x σ' H',xs[i]? = some x → Pv i σ' H' → g x σ' H' fun σ2 H2 => tb { D with nx := Pv (i + 1),ct := Pv (i + 1),bk := D.nx } σ2 H2) (hd : ∀ σ' H',Pv xs.length σ' H' → D.nx σ' H') :
    ∃ W : Nat → Nat → St → Hp → Prop,(∃ m,W 0 m σ H) ∧ ∀ i m σ H,W i m σ H →
      ((Itl K a).stop i H ∧ D.nx σ H) ∨ ((Itl K a).go i H ∧ ∃ N : St → Hp → Prop,(∀ σ' H',N σ' H' → ∃ m',m' < m ∧ W (i + 1) m' σ' H') ∧ ∀ x H',(Itl K a).yld i H x H' → g x σ H' fun σ2 H2 => tb { D with nx := N,ct := N,bk := D.nx } σ2 H2) := by
  refine ⟨fun i m σ' H' => m = xs.length - i ∧ i ≤ xs.length ∧ Pv i σ' H',⟨xs.length,by simp,Nat.zero_le _,h0⟩,?_⟩
  rintro i m σ' H' ⟨rfl,hi,p⟩
  have hq := hsq i σ' H' p
  by_cases hlt : i < xs.length
  · refine .inr ⟨⟨xs,xs[i],hq,List.getElem?_eq_getElem hlt⟩,Pv (i + 1),fun σ2 H2 p2 => ⟨xs.length - (i + 1),by omega,rfl,by omega,p2⟩,?_⟩
    rintro x H2 ⟨rfl,hx⟩
    exact hs i x σ' H2 (hx xs hq) p
  · have e : i = xs.length := by omega
    subst e
    exact .inl ⟨⟨xs,hq,Nat.le_refl _⟩,hd σ' H' p⟩
theorem cand_bd {P : List Int} (hs : ∀ x ∈ P,x.natAbs < 1000000) : ∀ z ∈ Pm.cands P,Rm.Bd 40 z := fun z hz => by
  have hlow : (Pm.lowN P).natAbs < 1000000 := by
    unfold Pm.lowN
    cases e : P.filter fun x => decide (x ≠ 0) with
    | nil => decide
    | cons y ys => exact hs y (List.mem_filter.mp (e ▸ List.mem_cons_self .. : y ∈ P.filter fun x => decide (x ≠ 0))).1
  have hm : ∀ x ∈ Pm.divs (Pm.lowN P).natAbs,0 < x ∧ x ≤ 1000000 := Pm.wd_mem _ (by omega) _ _ _ _ (by decide) (fun x hx => (List.not_mem_nil hx).elim) (fun x hx => (List.not_mem_nil hx).elim)
  unfold Pm.cands at hz
  rcases List.mem_append.mp hz with hz | hz
  · rcases List.mem_append.mp hz with hz | hz
    · obtain ⟨y,hy,rfl⟩ := List.mem_map.mp hz
      have := hm y (List.mem_reverse.mp hy)
      exact Rm.Bd.of (by omega) (by omega)
    · rw [List.mem_singleton.mp hz]; exact Rm.Bd.zero _
  · have := hm z hz
    exact Rm.Bd.of (by omega) (by omega)
inductive SpRoots46_  (C : Addr) (vs : List V) (H : Hp) (Q : VK) (E : XK) : Prop | mk (a : Addr) (P : List Int) (z_0 : vs = [.ref a]) (z_1 : H a = some (.tup (P.map V.int))) (z_2 : P.length ≤ 13) (z_3 : Pm.Mon P) (z_4 : ((∀ x ∈ P,x.natAbs < 1000000) → ∀ t lr tl xs H',Same H H' → H' t = some (.tup [.ref lr,.ref tl]) → H' lr = some (.lst xs) → Tps H' xs (Pm.wr P).1 → H' tl = some (.tup ((Pm.wr P).2.map V.int)) → Q (.ref t) H')) (z_5 : ((∃ x ∈ P,1000000 ≤ x.natAbs) → ∀ H',Same H H' → E (.ref C) none H'))
noncomputable def spRoots46  (C : Addr) : Sp := fun vs H Q E => SpRoots46_ C vs H Q E
inductive SpRefuseP_  (C : Addr) (vs : List V) (H : Hp) (Q : VK) (E : XK) : Prop | mk (v : V) (r : Rw) (z_0 : vs = [v]) (z_1 : RowIs H v r) (z_2 : (r.b = 0 → Q .non H)) (z_3 : (r.b ≠ 0 → E (.ref C) none H))
noncomputable def spRefuseP  (C : Addr) : Sp := fun vs H Q E => SpRefuseP_ C vs H Q E
theorem comp_none {J : It} {ix : List (Option Nat)} {tc : TT} {te : TE} {σ : St} {H1 : Hp} {Q : VK} (I : ItS J [] H1) {rest : St} (hst : cst ix σ = none :: rest) (hQ : ∀ D,H1 D = none → Q (.ref D) (upd H1 D (.lst []))) : CompK ix (gName 0) tc te σ Q J H1 :=
  comp_pure I (Nat.zero_le _) hst (fun _ => true) (fun x => x) (fun _ _ _ hx => absurd hx List.not_mem_nil) (fun _ _ _ hx => absurd hx List.not_mem_nil) hQ
inductive SpClear46_  (vs : List V) (H : Hp) (Q : VK) (E : XK) : Prop | mk (l : Addr) (z_0 : vs = [.int 0,.int 0,.ref l]) (z_1 : H l = some (.lst [])) (z_2 : ∀ t lh H',Same H H' → H' t = some (.tup [.ref lh,.int 1]) → H' lh = some (.lst []) → Q (.ref t) H')
noncomputable def spClear46 : Sp := fun vs H Q E => SpClear46_  vs H Q E
inductive SpLow46_  (vs : List V) (H : Hp) (Q : VK) (E : XK) : Prop | mk (l : Addr) (z_0 : vs = [.int 0,.int 1,.ref l]) (z_1 : H l = some (.lst [])) (z_2 : ∀ t l2 H',Same H H' → H' t = some (.tup [.int 1,.ref l2]) → H' l2 = some (.lst []) → Q (.ref t) H')
noncomputable def spLow46 : Sp := fun vs H Q E => SpLow46_  vs H Q E
inductive SpSol46_  (vs : List V) (H : Hp) (Q : VK) (E : XK) : Prop | mk (lt lw : Addr) (z_0 : vs = [.int 0,.int 0,.ref lt,.ref lw]) (z_1 : H lt = some (.lst [])) (z_2 : H lw = some (.lst [])) (z_3 : ∀ t l2 H',Same H H' → H' t = some (.tup [.str ("one" : Str),.int 1,.ref l2]) → H' l2 = some (.lst []) → Q (.ref t) H')
noncomputable def spSol46 : Sp := fun vs H Q E => SpSol46_  vs H Q E
inductive SpParts46_  (vs : List V) (H : Hp) (Q : VK) (E : XK) : Prop | mk (lr lt : Addr) (z_0 : vs = [.ref lr,.ref lt]) (z_1 : H lr = some (.lst [])) (z_2 : ∀ l2 H',Same H H' → H' l2 = some (.lst []) → Q (.ref l2) H')
noncomputable def spParts46 : Sp := fun vs H Q E => SpParts46_  vs H Q E
noncomputable def vI (v : V) : Int := match v with | .int k => k | _ => 0
theorem vI_map (c : List Int) : (c.map V.int).map vI = c := by rw [List.map_map]; exact List.map_id' c
theorem comp_tpsB {K : PySem.W.Frag} {a : Addr} {xs : List V} {ps : List (List Int)} {ix : List (Option Nat)} {te : TE} {σ : St} {H1 : Hp} {Q : VK} (hA : H1 a = some (.lst xs)) (hp : Tps H1 xs ps) (hz : xs.length ≤ sizeLine) {rest : St} (hst : cst ix σ = none :: rest) (f : List Int → Bool)
    (he : ∀ (H' : Hp) (t : Addr) (c : List Int),Same H1 H' → c ∈ ps → H' t = some (.tup (c.map V.int)) → ∀ k : VK,k (.bl (f c)) H' → te (some (.ref t) :: rest) H' k)
    (hQ : ∀ D,H1 D = none → Q (.ref D) (upd H1 D (.lst ((ps.map f).map V.bl)))) : CompK ix (gName 0) tYes te σ Q (Itl K a) H1 := by
  have key : ∀ x ∈ xs,∃ t p,x = V.ref t ∧ p ∈ ps ∧ H1 t = some (.tup (p.map V.int)) := fun x hx => by
    obtain ⟨i,hi,e⟩ := List.mem_iff_getElem.mp hx
    obtain ⟨t,p,e1,e2,e3⟩ := hp.get (i := i) (x := x) (by rw [List.getElem?_eq_getElem hi,e])
    exact ⟨t,p,e1,List.mem_of_getElem? e2,e3⟩
  have mp : ∀ {xs : List V} {ps : List (List Int)},Tps H1 xs ps → (xs.map fun x => match x with | .ref t => (match H1 t with | some (.tup vs) => V.bl (f (vs.map vI)) | _ => V.non) | _ => V.non) = (ps.map f).map V.bl := fun {xs ps} h => by
    induction h with
    | nil => rfl
    | cons ht _ ih => rw [List.map_cons,List.map_cons,List.map_cons,ih]; simp only [ht,vI_map]
  refine comp_pure (its_list (SqL.of hA)) hz hst (fun _ => true) (fun x => match x with | .ref t => (match H1 t with | some (.tup vs) => V.bl (f (vs.map vI)) | _ => V.non) | _ => V.non) ?_ ?_ ?_
  · intro H2 x g2 hx k hk; exact hk
  · intro H2 x g2 hx _ k hk
    obtain ⟨t,p,rfl,hp2,ht⟩ := key x hx
    refine he H2 t p g2 hp2 (g2 _ _ ht) k ?_
    simp only [ht,vI_map] at hk
    exact hk
  · intro D hD
    have e := mp hp
    rw [List.filter_eq_self.mpr (by simp),e]
    exact hQ D hD
theorem low_small {P : List Int} (hs : ∀ x ∈ P,x.natAbs < 1000000) : (Pm.lowN P).natAbs < 1000000 := by
  unfold Pm.lowN
  cases e : P.filter fun x => decide (x ≠ 0) with
  | nil => decide
  | cons y ys => exact hs y (List.mem_filter.mp (e ▸ List.mem_cons_self .. : y ∈ P.filter fun x => decide (x ≠ 0))).1
inductive SpClosed46_  (C1 C2 : Addr) (vs : List V) (H : Hp) (Q : VK) (E : XK) : Prop | mk (v : V) (r : Rw) (z_0 : vs = [v]) (z_1 : RowIs H v r) (z_2 : ((r.b ≠ 0 ∧ E (.ref C1) none H) ∨
   (r.b = 0 ∧ RwOk r ∧ 0 < r.rule.length ∧
     ((∃ c0 : Nat,0 < c0 ∧ c0 < 1000 ∧ r.starts = ends46 r.rule.length (c0 : Int) ∧
        (((∃ x ∈ Pm.ofRule 0 r.rule,1000000 ≤ x.natAbs) ∧ ∀ H',Same H H' → E (.ref C2) none H') ∨ ((∀ x ∈ Pm.ofRule 0 r.rule,x.natAbs < 1000000) ∧ Pm.noneQ (Pm.ofRule 0 r.rule) = true ∧ ∀ H',Same H H' → Q .non H'))) ∨
      (r.starts = (Pm.ofF r.rule.length fun _ => 0) ∧ ∀ t l2 H',Same H H' → H' t = some (.tup [.int 1,.ref l2]) → H' l2 = some (.lst []) → Q (.ref t) H')))))
noncomputable def spClosed46  (C1 C2 : Addr) : Sp := fun vs H Q E => SpClosed46_ C1 C2 vs H Q E
inductive SpAt46_  (K : PySem.W.Frag) (vs : List V) (H : Hp) (Q : VK) (E : XK) : Prop | mk (a : Addr) (ns : List Int) (k : Int) (z_0 : vs = [.ref a,.int k]) (z_1 : SqL K H a (ns.map V.int)) (z_2 : ns.length ≤ 63) (z_3 : 0 ≤ k) (z_4 : k ≤ 100) (z_5 : ∀ c : Int,Q (.int c) H)
noncomputable def spAt46  (K : PySem.W.Frag) : Sp := fun vs H Q E => SpAt46_ K vs H Q E
inductive SpLTimes_  (vs : List V) (H : Hp) (Q : VK) (E : XK) : Prop | mk (a c : Addr) (p r : List Int) (z_0 : vs = [.ref a,.ref c]) (z_1 : H a = some (.lst (p.map V.int))) (z_2 : H c = some (.lst (r.map V.int))) (z_3 : 1 ≤ p.length) (z_4 : p.length ≤ 10) (z_5 : 1 ≤ r.length) (z_6 : r.length ≤ 10) (z_7 : (∀ x ∈ p,Rm.Bd 1000 x)) (z_8 : (∀ x ∈ r,Rm.Bd 1000 x)) (z_9 : ∀ l H',Same H H' → H' l = some (.lst ((Pm.lmul p r).map V.int)) → Q (.ref l) H')
noncomputable def spLTimes : Sp := fun vs H Q E => SpLTimes_  vs H Q E
noncomputable def ruleL (P : List Int) : List Int := P.dropLast.reverse.map fun x => 0 - x
inductive SpLRule46_  (vs : List V) (H : Hp) (Q : VK) (E : XK) : Prop | mk (a : Addr) (P : List Int) (z_0 : vs = [.ref a]) (z_1 : H a = some (.lst (P.map V.int))) (z_2 : 1 ≤ P.length) (z_3 : P.length ≤ 20) (z_4 : ToldT H Q (ruleL P))
noncomputable def spLRule46 : Sp := fun vs H Q E => SpLRule46_  vs H Q E
inductive SpRef46_  (vs : List V) (H : Hp) (Q : VK) (E : XK) : Prop | mk (v : V) (r : Rw) (z_0 : vs = [v]) (z_1 : RowIs H v r) (z_2 : ((r.b ≠ 0 ∧ ∀ H',Same H H' → Q (.str ("by" : Str)) H') ∨
   (r.b = 0 ∧ RwOk r ∧ 0 < r.rule.length ∧ (∃ c0 : Nat,0 < c0 ∧ c0 < 1000 ∧ r.starts = ends46 r.rule.length (c0 : Int)) ∧ (∃ x ∈ Pm.ofRule 0 r.rule,1000000 ≤ x.natAbs) ∧ ∀ H',Same H H' → Q (.str ("big" : Str)) H')))
noncomputable def spRef46 : Sp := fun vs H Q E => SpRef46_  vs H Q E
theorem ends_eq {n : Nat} (h : 1 ≤ n) (c : Int) : (Pm.ofF (n - 1) fun _ => 0) ++ [c] = ends46 n c := by
  refine Pm.co_ext (by rw [List.length_append,Pm.ofF_len,ends46,Pm.ofF_len]; show n - 1 + 1 = n; omega) fun k => ?_
  rw [Pm.co_append,Pm.ofF_len,Pm.co_ofF,ends46,Pm.co_ofF]
  by_cases a : k < n - 1
  · rw [if_pos a,if_pos a,if_pos (by omega),if_neg (by omega)]
  · rw [if_neg a]
    by_cases b : k = n - 1
    · rw [b,Nat.sub_self,Pm.co_zero,if_pos (by omega),if_pos rfl]
    · rw [if_neg (by omega),Pm.co_ge (by show 1 ≤ k - (n - 1); omega)]
theorem ends_len (n : Nat) (c : Int) : (ends46 n c).length = n := Pm.ofF_len ..
theorem ends_mem {n : Nat} {c x : Int} (h : x ∈ ends46 n c) : x = c ∨ x = 0 := by
  obtain ⟨i,_,rfl⟩ := Pm.mem_ofF h
  split
  · exact .inl rfl
  · exact .inr rfl
theorem ofRule_mem {R : List Int} {x : Int} (h : x ∈ R) : 0 - x ∈ Pm.ofRule 0 R := by
  obtain ⟨i,hi,e⟩ := List.mem_iff_getElem.mp h
  unfold Pm.ofRule
  refine List.mem_append_left _ (List.mem_map.mpr ⟨R.length - 1 - i,List.mem_range.mpr (by omega),?_⟩)
  rw [Rm.tk_zero,show R.length - 1 - (R.length - 1 - i) = i by omega,Pm.co_lt hi,e]
theorem ruleL_len (P : List Int) : (ruleL P).length = P.length - 1 := by rw [ruleL,List.length_map,List.length_reverse,List.length_dropLast]
theorem ruleL_co {P : List Int} {k : Nat} (h : k < P.length - 1) : Pm.co (ruleL P) k = 0 - Pm.co P (P.length - 2 - k) := by
  unfold ruleL
  rw [Pm.co_map (f := fun x => 0 - x) rfl]
  congr 1
  unfold Pm.co
  rw [List.getD_eq_getElem?_getD,List.getElem?_reverse (by rw [List.length_dropLast]; exact h),List.length_dropLast,List.getElem?_dropLast,if_pos (by omega),← List.getD_eq_getElem?_getD,show P.length - 1 - 1 - k = P.length - 2 - k by omega]
theorem ofRule_ruleL {P : List Int} (h : Pm.Mon P) : Pm.ofRule 0 (ruleL P) = P := by
  have hp := h.pos
  refine Pm.co_ext (by rw [Pm.ofRule_len,ruleL_len]; omega) fun k => ?_
  have hm := Pm.ofRule_mon 0 (ruleL P)
  by_cases a : k < P.length - 1
  · unfold Pm.ofRule
    have l1 : (ruleL P).length = P.length - 1 := ruleL_len P
    rw [Pm.co_append]
    show (if k < (Pm.ofF (ruleL P).length fun k => Rm.tk 0 (0 - Pm.co (ruleL P) ((ruleL P).length - 1 - k))).length then _ else _) = _
    rw [Pm.ofF_len,if_pos (by omega)]
    show Pm.co (Pm.ofF (ruleL P).length fun k => Rm.tk 0 (0 - Pm.co (ruleL P) ((ruleL P).length - 1 - k))) k = _
    rw [Pm.co_ofF,if_pos (by omega),Rm.tk_zero,l1,ruleL_co (by omega),show P.length - 2 - (P.length - 1 - 1 - k) = k by omega]
    omega
  · by_cases b : k = P.length - 1
    · have := hm.one
      rw [Pm.ofRule_len,ruleL_len,show P.length - 1 + 1 - 1 = P.length - 1 by omega] at this
      rw [b,this,h.one]
    · rw [Pm.co_ge (by rw [Pm.ofRule_len,ruleL_len]; omega),Pm.co_ge (by omega)]
noncomputable def Reach (j : Nat) : Nat → List Int → Prop
  | 0,P => P = Pm.otherL.getD j []
  | i + 1,P => ∃ (Q : List Int) (c : Nat),Reach j i Q ∧ c < 5 ∧ P = Pm.lmul Q [((c : Nat) : Int) + 1,1]
theorem Reach.ok {j : Nat} (hj : j < 7) : ∀ {i : Nat} {P : List Int},i ≤ 2 → Reach j i P → Pm.okP P = true
  | 0,P,_,h => by rw [show P = _ from h]; exact (Pm.okP_all j hj).1
  | 1,P,_,⟨Q,c,h,hc,e⟩ => by rw [e,show Q = _ from h]; exact ((Pm.okP_all j hj).2 c hc).1
  | 2,P,_,⟨Q,d,⟨Q2,c,h,hc,e2⟩,hd,e⟩ => by rw [e,e2,show Q2 = _ from h]; exact ((Pm.okP_all j hj).2 c hc).2 d hd
structure GoodP (P : List Int) : Prop where
  lo : 2 ≤ P.length
  hi : P.length ≤ 6
  mon : Pm.Mon P
  small : ∀ x ∈ P,-1000 < x ∧ x < 1000
  none : Pm.noneQ P = true
theorem goodP {P : List Int} (h : Pm.okP P = true) : GoodP P := by
  unfold Pm.okP at h
  simp only [Bool.and_eq_true,decide_eq_true_eq] at h
  obtain ⟨⟨⟨⟨a,b⟩,c⟩,d⟩,e⟩ := h
  refine ⟨a,b,⟨by omega,c⟩,fun x hx => ?_,e⟩
  have := List.all_eq_true.mp d x hx
  simpa using this
theorem rw46 {n : Nat} {R S : List Int} (hR : R.length = n) (hS : S.length = n) (hn : n ≤ 12) (bR : ∀ x ∈ R,Rm.Bd 200 x) (bS : ∀ x ∈ S,Rm.Bd 1000 x) : RwOk ⟨0,R,S⟩ :=
  ⟨by show R.length = S.length; omega,by show R.length ≤ 12; omega,by show (0 : Int) ≤ 0; decide,by show (0 : Int) < 1000; decide,fun x _ => .inl rfl,fun x _ => .inl rfl,bR,bS⟩
noncomputable def byL46 : List Int := [2,3,7,997]
theorem byL46_ok : ∀ k < 4,0 < byL46.getD k 0 := by decide
section
variable {P : Program} {w : World} {K : PySem.W.Frag} {mg : Str → Option Value} {base : Heap}
variable {A_NoBy A_NoName A_NoNumber A_NoRow A_NoText A_RuleError A_TooBig A_TooFar A_TooLong : Addr}
theorem ok_taken (B : Bt mg) (F : Fn K mg "taken" s_taken ["by","number"]) (M : Ms K mg base A_NoBy A_NoName A_NoNumber A_NoRow A_NoText A_RuleError A_TooBig A_TooFar A_TooLong) : Cal P w K mg base "taken" 1 ["by","number"] spTaken := by
  refine F.cal sc_taken (fun vs H Q E h => ?_) (fun f cdv A outer s H vs Q E hr h => ?_)
  · obtain ⟨b,n,rfl,_⟩ := h; rfl
  · obtain ⟨b,n,rfl,h0,q⟩ := h
    refine ⟨_,(pss_cons (ps_if (pt_cmpR (xeq K hr) (pv 0) pe_int (nomark _))
      (pss_one (ps_ret (pv 1)))
      pss_nil)
      (pss_one (ps_ret (pe_op op_mod (pv 1) (pv 0))))),?_⟩
    refine ⟨_,rfl,_,rfl,?_⟩
    refine ite2 (fun c => ?_) (fun c => ?_)
    · refine ⟨_,rfl,?_⟩
      have c' : b = 0 := dec_true c
      have e : Rm.tk b n = n := by rw [c',Rm.tk_zero]
      rw [e] at q; exact q
    · have c' : ¬ b = 0 := dec_false c
      refine ⟨_,rfl,_,rfl,_,_,rfl,rfl,(by omega : (0 : Int) < b),?_⟩
      rw [Rm.tk_pos c'] at q; exact q
theorem ok_is_prime (B : Bt mg) (F : Fn K mg "is_prime" s_is_prime ["number"]) (M : Ms K mg base A_NoBy A_NoName A_NoNumber A_NoRow A_NoText A_RuleError A_TooBig A_TooFar A_TooLong) : Cal P w K mg base "is_prime" 1 ["number"] spPrimeQ := by
  refine F.cal sc_is_prime (fun vs H Q E h => ?_) (fun f cdv A outer s H vs Q E hr h => ?_)
  · obtain ⟨n,rfl,_⟩ := h; rfl
  · obtain ⟨n,rfl,hn,q⟩ := h
    refine ⟨_,(pss_cons (ps_if (pt_cmpR op_lt (pv 0) pe_int (nomark _))
      (pss_one (ps_ret pe_bl))
      pss_nil)
      (pss_cons (ps_set (i := 1) sc_is_prime.nd rfl (Or.inl rfl) pe_int)
      (pss_cons (ps_while PassesOwn.never (pt_cmpR op_le (pe_op v_mul (pv 1) (pv 1)) (pv 0) (nomark _))
      (pss_cons (ps_if (pt_cmpR (xeq K hr) (pe_op op_mod (pv 0) (pv 1)) pe_int (nomark _))
      (pss_one (ps_ret pe_bl))
      pss_nil)
      (pss_one (ps_set (i := 1) sc_is_prime.nd rfl (Or.inl rfl) (pe_op (xadd K) (pv 1) pe_int)))))
      (pss_one (ps_ret pe_bl))))),?_⟩
    refine ⟨_,rfl,_,_,rfl,rfl,_,rfl,?_⟩
    refine ite2 (fun c => ?_) (fun c => ?_)
    · have c' : (n : Int) < 2 := dec_true c
      exact q false ⟨fun z => absurd z (by decide),fun z => by have := z.1; omega⟩
    · have c' : ¬ (n : Int) < 2 := dec_false c
      refine ⟨fun m σ' H' => ∃ d : Nat,σ' = [some (.int n),some (.int (d : Int))] ∧ H' = H ∧ 2 ≤ d ∧ d ≤ n + 1 ∧ m = n + 2 - d ∧ ∀ e : Nat,2 ≤ e → e < d → ¬ e ∣ n,⟨_,2,rfl,rfl,by omega,by omega,rfl,fun e h1 h2 => by omega⟩,?_⟩
      rintro m σ' H' ⟨d,rfl,rfl,h2,hdn,rfl,hd⟩
      refine ⟨_,rfl,_,rfl,mulL (by omega) (by omega),_,rfl,_,_,rfl,rfl,_,rfl,?_⟩
      refine ite2 (fun c2 => ?_) (fun c2 => ?_)
      · have c2' : (d : Int) * d ≤ n := dec_true c2
        have c2n : d * d ≤ n := by exact_mod_cast c2'
        have hdl : d * 1 ≤ d * d := Nat.mul_le_mul_left d (by omega)
        refine ⟨_,fun _ _ z => z,?_⟩
        refine ⟨_,rfl,_,rfl,_,_,rfl,rfl,(by omega : (0 : Int) < (d : Int)),?_⟩
        refine ⟨_,rfl,?_⟩
        refine ite2 (fun c3 => ?_) (fun c3 => ?_)
        · have c3' : (n : Int) % (d : Int) = 0 := dec_true c3
          have hdv : d ∣ n := Int.ofNat_dvd.mp (Int.dvd_of_emod_eq_zero c3')
          exact q false ⟨fun z => absurd z (by decide),fun z => absurd z (Om.prime_not h2 c2n hdv)⟩
        · have c3' : ¬ (n : Int) % (d : Int) = 0 := dec_false c3
          refine ⟨_,rfl,?_⟩
          exact ⟨n + 2 - (d + 1),by omega,d + 1,by simp,rfl,by omega,by omega,rfl,fun e h1 h3 => by
            rcases Nat.lt_or_ge e d with z | z
            · exact hd e h1 z
            · have : e = d := by omega
              subst this
              exact fun z => c3' (Int.emod_eq_zero_of_dvd (Int.ofNat_dvd.mpr z))⟩
      · have c2' : ¬ (d : Int) * d ≤ n := dec_false c2
        have c2n : ¬ d * d ≤ n := fun z => c2' (by exact_mod_cast z)
        exact q true ⟨fun _ => Om.prime_try (by omega) fun e h1 h3 hdv => by
          by_cases c4 : e < d
          · exact hd e h1 c4 hdv
          · have : d * d ≤ e * e := Nat.mul_le_mul (by omega) (by omega)
            omega,fun _ => rfl⟩
theorem ok_prime_above (B : Bt mg) (F : Fn K mg "prime_above" s_prime_above ["number"]) (M : Ms K mg base A_NoBy A_NoName A_NoNumber A_NoRow A_NoText A_RuleError A_TooBig A_TooFar A_TooLong) (C_is_prime : Cal P w K mg base "is_prime" 1 ["number"] spPrimeQ) : Cal P w K mg base "prime_above" 2 ["number"] spAbove := by
  refine F.cal sc_prime_above (fun vs H Q E h => ?_) (fun f cdv A outer s H vs Q E hr h => ?_)
  · obtain ⟨n,q,rfl,_⟩ := h; rfl
  · obtain ⟨n,q',rfl,hq,hnq,hqb,q⟩ := h
    refine ⟨_,(pss_cons (ps_set (i := 1) sc_prime_above.nd rfl (Or.inl rfl) (pe_op (xadd K) (pv 0) pe_int))
      (pss_cons (ps_while PassesOwn.never (pt_not (pt_val (pe_callC C_is_prime hr rfl (pa_n (pv 1) pa_nil))))
      (pss_one (ps_set (i := 1) sc_prime_above.nd rfl (Or.inl rfl) (pe_op (xadd K) (pv 1) pe_int))))
      (pss_one (ps_ret (pv 1))))),?_⟩
    refine ⟨_,rfl,?_⟩
    refine ⟨fun m σ' H' => ∃ f : Nat,σ' = [some (.int n),some (.int (f : Int))] ∧ H' = H ∧ n < f ∧ f ≤ q' ∧ m = q' - f,⟨_,n + 1,rfl,rfl,by omega,by omega,rfl⟩,?_⟩
    rintro m σ' H' ⟨f,rfl,rfl,h1,h2,rfl⟩
    refine ⟨_,rfl,f,rfl,by omega,fun b hb => ?_⟩
    refine ⟨b,rfl,?_⟩
    cases b with
    | false =>
      refine ⟨_,fun _ _ z => z,?_⟩
      refine ⟨_,rfl,?_⟩
      have hne : f ≠ q' := fun e => absurd (hb.mpr (e ▸ hq)) (by decide)
      exact ⟨q' - (f + 1),by omega,f + 1,rfl,rfl,by omega,by omega,rfl⟩
    | true =>
      refine ⟨_,rfl,?_⟩
      exact q f (hb.mp rfl) h1 h2
theorem ok_inverse (B : Bt mg) (F : Fn K mg "inverse" s_inverse ["prime","number"]) (M : Ms K mg base A_NoBy A_NoName A_NoNumber A_NoRow A_NoText A_RuleError A_TooBig A_TooFar A_TooLong) (C_taken : Cal P w K mg base "taken" 1 ["by","number"] spTaken) : Cal P w K mg base "inverse" 2 ["prime","number"] spInverseQ := by
  refine F.cal sc_inverse (fun vs H Q E h => ?_) (fun f cdv A outer s H vs Q E hr h => ?_)
  · obtain ⟨P,a,rfl,_⟩ := h; rfl
  · obtain ⟨P',a,rfl,hP,hPb,h0,h1,q⟩ := h
    have hr2 : 2 ≤ P' ∧ P' < 2097152 := ⟨hP.1,hPb⟩
    refine ⟨_,(pss_cons (ps_set (i := 2) sc_inverse.nd rfl (Or.inl rfl) pe_int)
      (pss_cons (ps_set (i := 3) sc_inverse.nd rfl (Or.inl rfl) (pv 1))
      (pss_cons (ps_set (i := 4) sc_inverse.nd rfl (Or.inl rfl) (pe_op op_sub (pv 0) pe_int))
      (pss_cons (ps_while PassesOwn.never (pt_cmpR op_gt (pv 4) pe_int (nomark _))
      (pss_cons (ps_bar (ps_if (pt_cmpR (xeq K hr) (pe_op op_mod (pv 4) pe_int) pe_int (nomark _))
      (pss_one (ps_set (i := 2) sc_inverse.nd rfl (Or.inl rfl) (pe_callC C_taken hr rfl (pa_n (pv 0) (pa_b (pe_op v_mul (pv 2) (pv 3)) pa_nil)))))
      pss_nil))
      (pss_cons (ps_set (i := 3) sc_inverse.nd rfl (Or.inl rfl) (pe_callC C_taken hr rfl (pa_n (pv 0) (pa_b (pe_op v_mul (pv 3) (pv 3)) pa_nil))))
      (pss_one (ps_set (i := 4) sc_inverse.nd rfl (Or.inl rfl) (pe_op op_fdiv (pv 4) pe_int))))))
      (pss_one (ps_ret (pv 2))))))),?_⟩
    refine ⟨_,rfl,?_⟩
    refine ⟨_,rfl,_,_,rfl,rfl,?_⟩
    have e0 : ((P' : Int) - 2).toNat = P' - 2 := by omega
    refine ⟨fun m σ' H' => ∃ power square left : Int,σ' = [some (.int P'),some (.int a),some (.int power),some (.int square),some (.int left)] ∧ H' = H ∧ m = left.toNat ∧ 0 ≤ power ∧ power < 2097152 ∧ 0 ≤ square ∧ square < 2097152 ∧ 0 ≤ left ∧ Om.Keeps P' a (P' - 2) power square left.toNat,
      ⟨_,1,a,(P' : Int) - 2,rfl,rfl,rfl,by decide,by decide,by omega,by omega,by omega,by rw [e0]; exact Om.keeps_start _ _ _⟩,?_⟩
    rintro m σ' H' ⟨power,square,left,rfl,rfl,rfl,p0,p1,s0,s1,l0,hk⟩
    refine ⟨_,rfl,_,_,rfl,rfl,_,rfl,?_⟩
    refine ite2 (fun c => ?_) (fun c => ?_)
    · have c' : 0 < left := dec_true c
      refine ⟨_,fun _ _ z => z,?_⟩
      have hpos : (0 : Int) < (P' : Int) := by omega
      have tkP : ∀ n,Rm.tk (P' : Int) n = n % (P' : Int) := fun n => Rm.tk_pos (by omega) n
      refine BarS.by (fun σ' H2 => ∃ power' : Int,σ' = [some (.int P'),some (.int a),some (.int power'),some (.int square),some (.int left)] ∧ H2 = H' ∧ ((left % 2 = 1 ∧ power' = power * square % (P' : Int)) ∨ (¬ left % 2 = 1 ∧ power' = power))) (fun N hN => ?_) ?_
      · refine ⟨_,rfl,_,_,rfl,rfl,(by decide : (0 : Int) < 2),_,rfl,?_⟩
        refine ite2 (fun c2 => ?_) (fun c2 => ?_)
        · refine ⟨_,rfl,_,rfl,_,rfl,mulL (by omega) (by omega),P',_,rfl,by omega,?_⟩
          exact hN _ _ ⟨_,rfl,rfl,.inl ⟨dec_true c2,tkP _⟩⟩
        · exact hN _ _ ⟨_,rfl,rfl,.inr ⟨dec_false c2,rfl⟩⟩
      rintro σ' H2 ⟨power',rfl,rfl,hp⟩
      refine ⟨_,rfl,_,rfl,_,rfl,mulL (by omega) (by omega),P',_,rfl,by omega,?_⟩
      refine ⟨_,rfl,_,_,rfl,rfl,⟨by decide,by decide⟩,?_⟩
      have b1 := emod_lo (square * square) hpos
      have b2 := emod_hi (square * square) hpos
      have b3 := emod_lo (power * square) hpos
      have b4 := emod_hi (power * square) hpos
      have el : (left / 2).toNat = left.toNat / 2 := by omega
      refine ⟨_,?_,power',square * square % (P' : Int),left / 2,by rw [tkP]; rfl,rfl,rfl,?_,?_,b1,by omega,by omega,?_⟩
      · omega
      · rcases hp with ⟨_,rfl⟩ | ⟨_,rfl⟩
        · exact b3
        · exact p0
      · rcases hp with ⟨_,rfl⟩ | ⟨_,rfl⟩
        · omega
        · exact p1
      · rw [el]
        rcases hp with ⟨hodd,rfl⟩ | ⟨hodd,rfl⟩
        · exact Om.keeps_odd hk (by omega)
        · exact Om.keeps_even hk (by omega)
    · have c' : left = 0 := by have := dec_false c; omega
      subst c'
      refine ⟨_,rfl,?_⟩
      exact q power p0 p1 (Om.keeps_end hk)
theorem ok_over (B : Bt mg) (F : Fn K mg "over" s_over ["by","one","other"]) (M : Ms K mg base A_NoBy A_NoName A_NoNumber A_NoRow A_NoText A_RuleError A_TooBig A_TooFar A_TooLong) (C_taken : Cal P w K mg base "taken" 1 ["by","number"] spTaken) (C_inverse : Cal P w K mg base "inverse" 2 ["prime","number"] spInverseQ) : Cal P w K mg base "over" 3 ["by","one","other"] spOverQ := by
  refine F.cal sc_over (fun vs H Q E h => ?_) (fun f cdv A outer s H vs Q E hr h => ?_)
  · obtain ⟨P,one,other,rfl,_⟩ := h; rfl
  · obtain ⟨P',one,other,rfl,hP,hPb,o0,o1,q⟩ := h
    refine ⟨_,(pss_cons (ps_if (pt_cmpR (xeq K hr) (pv 0) pe_int (nomark _))
      (pss_one ps_never)
      pss_nil)
      (pss_cons (ps_if (pt_cmpR (xeq K hr) (pe_callC C_taken hr rfl (pa_n (pv 0) (pa_n (pv 2) pa_nil))) pe_int (nomark _))
      (pss_one ps_never)
      pss_nil)
      (pss_one (ps_ret (pe_callC C_taken hr rfl (pa_n (pv 0) (pa_b (pe_op v_mul (pv 1) (pe_callC C_inverse hr rfl (pa_n (pv 0) (pa_n (pv 2) pa_nil)))) pa_nil))))))),?_⟩
    have hr2 : 2 ≤ P' ∧ P' < 2097152 := ⟨hP.1,hPb⟩
    refine ⟨_,rfl,_,rfl,?_⟩
    refine ite2 (fun c => absurd (dec_true c) (by omega)) (fun _ => ?_)
    have tkP : ∀ n,Rm.tk (P' : Int) n = n % (P' : Int) := fun n => Rm.tk_pos (by omega) n
    refine ⟨_,rfl,_,rfl,P',other,rfl,by omega,_,rfl,?_⟩
    have et : Rm.tk (P' : Int) other = other := by rw [tkP]; exact Int.emod_eq_of_lt (by omega) o1
    rw [et]
    refine ite2 (fun c2 => absurd (dec_true c2) (by omega)) (fun _ => ?_)
    refine ⟨_,rfl,_,rfl,_,rfl,_,rfl,P',other,rfl,hP,hPb,o0,o1,fun x x0 x1 hx => ?_⟩
    refine ⟨mulR (by omega) (by omega),P',_,rfl,by omega,?_⟩
    rw [tkP,Om.mod_mul (rfl : one % (P' : Int) = one % (P' : Int)) hx]
    exact q
theorem ok_trimmed (B : Bt mg) (F : Fn K mg "trimmed" s_trimmed ["numbers"]) (M : Ms K mg base A_NoBy A_NoName A_NoNumber A_NoRow A_NoText A_RuleError A_TooBig A_TooFar A_TooLong) : Cal P w K mg base "trimmed" 1 ["numbers"] (spTrim K) := by
  refine F.cal sc_trimmed (fun vs H Q E h => ?_) (fun f cdv A outer s H vs Q E hr h => ?_)
  · obtain ⟨l,xs,rfl,_⟩ := h; rfl
  · obtain ⟨l,xs,rfl,hL,q⟩ := h
    refine ⟨_,(pss_cons (ps_set (i := 1) sc_trimmed.nd rfl (Or.inl rfl) (pe_callB (xlen K) rfl B.b_len boot_len (pa_n (pv 0) pa_nil)))
      (pss_cons (ps_while PassesOwn.never (PW.pt (pw_and (pt_cmpR op_gt (pv 1) pe_int (nomark _)) (pw_and1 (pt_cmpR (xeq K hr) (pe_ix (xix K) (pv 0) (pe_op op_sub (pv 1) pe_int) (fun _ _ => rfl)) pe_int (nomark _)))))
      (pss_one (ps_set (i := 1) sc_trimmed.nd rfl (Or.inl rfl) (pe_op op_sub (pv 1) pe_int))))
      (pss_one (ps_ret (pe_callTy (xtuple K) rfl B.b_tuple boot_tuple (pa_cons (pe_slice (xsl K) (pv 0) po_none (po_some (pv 1))) pa_nil)))))),?_⟩
    have lL : (xs.map V.int).length = xs.length := List.length_map _
    refine ⟨_,rfl,.ref l,xs.length,rfl,.inl ⟨_,hL,lL.symm⟩,?_⟩
    refine ⟨fun m σ' H' => ∃ n : Nat,m = n ∧ n ≤ xs.length ∧ σ' = [some (.ref l),some (.int (n : Int))] ∧ H' = H ∧ Pm.trim (xs.take n) = Pm.trim xs,⟨_,xs.length,rfl,Nat.le_refl _,rfl,rfl,by rw [List.take_length]⟩,?_⟩
    rintro m σ' H' ⟨n,e0,hn,rfl,rfl,ht⟩
    refine ⟨_,rfl,_,_,rfl,rfl,_,rfl,?_⟩
    refine ite2 (fun c => ?_) (fun c => iteF ?_)
    · have h0 : 0 < n := by have := dec_true c; omega
      have e1 : ((n : Int) - 1).toNat = n - 1 := by omega
      refine ⟨_,rfl,_,rfl,_,_,rfl,rfl,_,_,.inl hL,atI_ints (ns := xs) (by omega : (0 : Int) ≤ (n : Int) - 1) (by omega),_,rfl,?_⟩
      refine ite2 (fun c2 => ?_) (fun c2 => ?_)
      · have hz := dec_true c2
        rw [e1] at hz
        refine ⟨_,fun _ _ z => z,?_⟩
        refine ⟨_,rfl,_,_,rfl,rfl,?_⟩
        refine ⟨n - 1,by omega,n - 1,rfl,by omega,?_,rfl,trim_down h0 hn ht hz⟩
        rw [show ((n - 1 : Nat) : Int) = (n : Int) - 1 by omega]
        rfl
      · have hz := dec_false c2
        rw [e1] at hz
        refine ⟨_,rfl,_,rfl,_,rfl,.inl ⟨_,hL,fun p hp => ?_⟩⟩
        refine ⟨p,_,rfl,.inl ⟨SqL.of upd_same,fun p2 hp2 => ?_⟩⟩
        refine q p2 _ ((Same.new hp _).trans (Same.new hp2 _)) ?_
        rw [upd_same,cut_to,← List.map_take,trim_stop hn ht (.inr hz)]
    · have h0 : n = 0 := by have := dec_false c; omega
      refine ⟨_,rfl,_,rfl,_,rfl,.inl ⟨_,hL,fun p hp => ?_⟩⟩
      refine ⟨p,_,rfl,.inl ⟨SqL.of upd_same,fun p2 hp2 => ?_⟩⟩
      refine q p2 _ ((Same.new hp _).trans (Same.new hp2 _)) ?_
      rw [upd_same,cut_to,← List.map_take,trim_stop hn ht (.inl h0)]
theorem ok_divided (B : Bt mg) (F : Fn K mg "divided" s_divided ["by","one","other"]) (M : Ms K mg base A_NoBy A_NoName A_NoNumber A_NoRow A_NoText A_RuleError A_TooBig A_TooFar A_TooLong) (C_taken : Cal P w K mg base "taken" 1 ["by","number"] spTaken) (C_trimmed : Cal P w K mg base "trimmed" 1 ["numbers"] (spTrim K)) : Cal P w K mg base "divided" 2 ["by","one","other"] spDividedQ := by
  refine F.cal sc_divided (fun vs H Q E h => ?_) (fun f cdv A outer s H vs Q E hr h => ?_)
  · obtain ⟨b,a,c,P,M,rfl,_⟩ := h; rfl
  · obtain ⟨b,a,c,P,M,rfl,hb,hb1,hA,hC,zA,zC,hM,nP,bA,bC,q⟩ := h
    refine ⟨_,(pss_cons (ps_set (i := 3) sc_divided.nd rfl (Or.inl rfl) (pe_op op_sub (pe_callB (xlen K) rfl B.b_len boot_len (pa_n (pv 2) pa_nil)) pe_int))
      (pss_cons (ps_set (i := 4) sc_divided.nd rfl (Or.inl rfl) (pe_op v_mul (pe_lst (pa_k pe_int pa_nil)) (pe_callB (call_max2 rfl) rfl B.b_max boot_max (pa_k pe_int (pa_b (pe_op op_sub (pe_callB (xlen K) rfl B.b_len boot_len (pa_n (pv 1) pa_nil)) (pv 3)) pa_nil)))))
      (pss_cons (ps_set (i := 5) sc_divided.nd rfl (Or.inl rfl) (pe_callTy (xlist K) rfl B.b_list boot_list (pa_n (pv 1) pa_nil)))
      (pss_cons (ps_for PassesOwn.never rfl (pi_rangeD rfl B.b_range (pa_b (pe_op op_sub (pe_callB (xlen K) rfl B.b_len boot_len (pa_n (pv 4) pa_nil)) pe_int) (pa_u (pe_un un_neg pe_int) (pa_u (pe_un un_neg pe_int) pa_nil)))) (pg_name (i := 6) sc_divided.nd rfl (Or.inl rfl))
      (pss_cons (ps_set (i := 7) sc_divided.nd rfl (Or.inl rfl) (pe_ix (xix K) (pv 5) (pe_op (xadd K) (pv 6) (pv 3)) (fun _ _ => rfl)))
      (pss_cons (ps_asg (pv 7) (pg_sub (pv 4) (pv 6) set_list))
      (pss_one (ps_for PassesOwn.never rfl (pi_range1 rfl B.b_range (pa_cons (pe_callB (xlen K) rfl B.b_len boot_len (pa_n (pv 2) pa_nil)) pa_nil)) (pg_name (i := 8) sc_divided.nd rfl (Or.inl rfl))
      (pss_one (ps_asg (pe_callC C_taken hr rfl (pa_n (pv 0) (pa_b (pe_op op_sub (pe_ix (xix K) (pv 5) (pe_op (xadd K) (pv 6) (pv 8)) (fun _ _ => rfl)) (pe_op v_mul (pv 7) (pe_ix (xix K) (pv 2) (pv 8) (fun _ _ => rfl)))) pa_nil))) (pg_sub (pv 5) (pe_op (xadd K) (pv 6) (pv 8)) set_list))))))))
      (pss_one (ps_ret (pe_tup (pa_cons (pe_callC C_trimmed hr rfl (pa_n (pv 4) pa_nil)) (pa_cons (pe_callC C_trimmed hr rfl (pa_n (pv 5) pa_nil)) pa_nil))))))))),?_⟩
    have lP : (P.map V.int).length = P.length := List.length_map _
    have lM : (M.map V.int).length = M.length := List.length_map _
    have hMp := hM.pos
    refine ⟨_,rfl,.ref c,M.length,rfl,.inr ⟨_,SqT.of hC,lM.symm⟩,_,_,rfl,rfl,?_⟩
    refine ⟨(by show 1 ≤ sizeLine; decide),fun l0 h0 => ?_⟩
    have g0 := Same.new h0 (.lst [.int 0])
    refine ⟨_,rfl,.ref a,P.length,rfl,.inr ⟨_,SqT.of (g0 _ _ hA),lP.symm⟩,_,rfl,_,_,rfl,rfl,_,_,rfl,?_⟩
    have en : (if (P.length : Int) - ((M.length : Int) - 1) > 0 then (P.length : Int) - ((M.length : Int) - 1) else 0).toNat = P.length - (M.length - 1) := (max_zero P.length M.length).resolve_right (by omega)
    refine ⟨_,upd_same,?_,?_,?_,fun lo hlo => ?_⟩
    · split <;> omega
    · split <;> omega
    · rw [en]; show 1 * (P.length - (M.length - 1)) ≤ sizeLine; rw [Nat.one_mul]; exact Nat.le_of_lt (small1000 (by omega))
    rw [en,replicate_ofF]
    have hlo0 : H lo = none := g0.free hlo
    have g1 := g0.trans (Same.new hlo (.lst ((Pm.ofF (P.length - (M.length - 1)) fun _ => 0).map V.int)))
    have hO0 : (upd (upd H l0 (.lst [.int 0])) lo (.lst ((Pm.ofF (P.length - (M.length - 1)) fun _ => 0).map V.int))) lo = some (.lst ((Pm.ofF (P.length - (M.length - 1)) fun _ => 0).map V.int)) := upd_same
    generalize upd (upd H l0 (.lst [.int 0])) lo (.lst ((Pm.ofF (P.length - (M.length - 1)) fun _ => 0).map V.int)) = H1 at g1 hO0
    refine ⟨_,rfl,a,_,rfl,.inr (SqT.of (g1 _ _ hA)),fun ll hll => ?_⟩
    have hll0 : H ll = none := g1.free hll
    have hne : lo ≠ ll := ne_of_none hO0 hll
    have gll := Same.new hll (.lst (P.map V.int))
    have g2 := g1.trans gll
    have hO2 := gll _ _ hO0
    have hL2 : (upd H1 ll (.lst (P.map V.int))) ll = some (.lst (P.map V.int)) := upd_same
    generalize upd H1 ll (.lst (P.map V.int)) = H2 at gll g2 hO2 hL2
    generalize hn : P.length - (M.length - 1) = n at hO2
    refine ⟨_,rfl,.ref lo,n,rfl,.inl ⟨_,SqL.of hO2,by rw [List.length_map,Pm.ofF_len]⟩,_,_,rfl,rfl,_,rfl,_,rfl,(n : Int) - 1,-1,rfl,⟨by omega,by omega,by omega,by omega⟩,?_⟩
    refine for_down (lo := (n : Int) - 1) (n := ((n : Int) - 1 - (-1)).toNat) (fun i σ' H' => ∃ o6 o7 o8 O L,σ' = [some (.int b),some (.ref a),some (.ref c),some (.int ((M.length : Int) - 1)),some (.ref lo),some (.ref ll),o6,o7,o8] ∧ Same H H' ∧ H' lo = some (.lst (List.map V.int O)) ∧ H' ll = some (.lst (List.map V.int L)) ∧ Pm.DivI b P M (n - i) O L ∧ (∀ k,Rm.Bd (300000 + i * 124001) (Pm.co O k)) ∧ ∀ k,Rm.Bd (300000 + i * 124001) (Pm.co L k))
      ⟨_,_,_,_,P,rfl,g2,hO2,hL2,(by rw [Nat.sub_zero,← hn]; exact Pm.DivI.start nP),fun k => by rw [Pm.co_ofF]; split <;> exact Rm.Bd.zero _,fun k => (Pm.Bd_co bA k).mono (by omega)⟩ ?_ ?_
    · rintro i σ' H' hi ⟨o6,o7,o8,O,L,rfl,g,hO,hL,I,bO,bL⟩
      have hi' : i < n := by omega
      have hs : n - i = n - (i + 1) + 1 := by omega
      rw [hs] at I
      generalize es : n - (i + 1) = s at I
      have esI : (n : Int) - 1 - (i : Int) = (s : Int) := by omega
      rw [esI]
      have hlL := I.ll
      have hlO := I.ol
      have lO : (O.map V.int).length = O.length := List.length_map _
      have e1 : ((s : Int) + ((M.length : Int) - 1)).toNat = s + (M.length - 1) := by omega
      refine ⟨_,rfl,_,rfl,_,rfl,_,_,.inl (SqL.of hL),atI_ints (ns := L) (by omega : (0 : Int) ≤ (s : Int) + ((M.length : Int) - 1)) (by omega),?_⟩
      rw [e1]
      have hF : Rm.Bd (300000 + i * 124001) (L.getD (s + (M.length - 1)) 0) := bL _
      have eF : L.getD (s + (M.length - 1)) 0 = Pm.co L (s + (M.length - 1)) := rfl
      rw [eF] at hF ⊢
      generalize hf : Pm.co L (s + (M.length - 1)) = f at hF
      refine ⟨_,rfl,_,rfl,_,rfl,lo,_,_,s,rfl,rfl,hO,ixN_of rfl (by rw [lO]; omega),?_⟩
      have hO3 : (upd H' lo (.lst ((O.map V.int).set s (.int f)))) lo = some (.lst ((O.set s f).map V.int)) := by rw [upd_same,map_set_int]
      have hL3 : (upd H' lo (.lst ((O.map V.int).set s (.int f)))) ll = some (.lst (L.map V.int)) := by rw [upd_ne hne.symm]; exact hL
      have g3 := g.upd hlo0 (.lst ((O.map V.int).set s (.int f)))
      generalize upd H' lo (.lst ((O.map V.int).set s (.int f))) = H3 at hO3 hL3 g3
      refine ⟨_,rfl,.ref c,M.length,rfl,.inr ⟨_,SqT.of (g3 _ _ hC),lM.symm⟩,?_⟩
      refine ⟨(M.length : Int),rfl,(by omega : -(2 ^ 62) ≤ (M.length : Int)),(by omega : (M.length : Int) < 2 ^ 62),?_⟩
      refine for_range (lo := 0) (n := (M.length : Int).toNat) (fun t σ' H' => ∃ o8 L',σ' = [some (.int b),some (.ref a),some (.ref c),some (.int ((M.length : Int) - 1)),some (.ref lo),some (.ref ll),some (.int (s : Int)),some (.int f),o8] ∧ Same H H' ∧ H' lo = some (.lst ((O.set s f).map V.int)) ∧ H' ll = some (.lst (List.map V.int L')) ∧ L'.length = L.length ∧ ∀ k,Pm.co L' k = Pm.lf b f s t L M k)
        ⟨_,L,rfl,g3,hO3,hL3,rfl,fun k => (Pm.lf_zero ..).symm⟩ ?_ ?_
      · rintro t σ' H4 ht ⟨o8,L',rfl,g4,hO4,hL4,zL',eL'⟩
        have ht' : t < M.length := by omega
        have lL' : (L'.map V.int).length = L'.length := List.length_map _
        have e2 : ((s : Int) + (0 + (t : Int))).toNat = s + t := by omega
        have e3 : (0 + (t : Int)).toNat = t := by omega
        refine ⟨_,rfl,_,rfl,_,rfl,_,rfl,_,_,.inl (SqL.of hL4),atI_ints (ns := L') (by omega : (0 : Int) ≤ (s : Int) + (0 + (t : Int))) (by omega),?_⟩
        refine ⟨_,rfl,_,rfl,_,rfl,_,_,.inr (SqT.of (g4 _ _ hC)),atI_ints (ns := M) (by omega : (0 : Int) ≤ 0 + (t : Int)) (by omega),?_⟩
        refine ⟨mulBd hF (Rm.Bd.getD bC _) (by have : i * 124001 ≤ 40 * 124001 := Nat.mul_le_mul_right _ (by omega); omega),_,_,rfl,rfl,?_⟩
        refine ⟨b,_,rfl,hb,?_⟩
        refine ⟨_,rfl,_,rfl,_,rfl,ll,_,_,s + t,rfl,rfl,hL4,ixN_of (by omega) (by rw [lL']; omega),?_⟩
        refine ⟨_,L'.set (s + t) _,rfl,g4.upd hll0 _,(by rw [upd_ne hne]; exact hO4),(by rw [upd_same,map_set_int]),(by rw [List.length_set]; exact zL'),fun k => ?_⟩
        rw [Pm.co_set _ _ _ _ (by omega),Pm.lf_step,e2,e3,← eL' k]
        by_cases ek : k = s + t
        · rw [if_pos ek,if_pos ek,ek]; rfl
        · rw [if_neg ek,if_neg ek]
      · rintro σ' H4 ⟨o8,L',rfl,g4,hO4,hL4,zL',eL'⟩
        rw [Int.toNat_natCast] at eL'
        refine ⟨_,_,_,O.set s f,L',rfl,g4,hO4,hL4,?_,fun k => ?_,fun k => ?_⟩
        · rw [← hf]
          rw [← hf] at eL'
          exact I.step hM (by omega) zL' eL'
        · rw [Pm.co_set _ _ _ _ (by omega)]
          split
          · exact hF.mono (by omega)
          · exact (bO k).mono (by omega)
        · rw [eL' k]
          exact (Pm.lf_bdQ hb hb1 (by omega) hF bL bC k).mono (by omega)
    · rintro σ' H' ⟨o6,o7,o8,O,L,rfl,g,hO,hL,I,bO,bL⟩
      have e9 : ((n : Int) - 1 - (-1)).toNat = n := by omega
      rw [e9] at I bO bL
      rw [Nat.sub_self] at I
      refine ⟨_,rfl,lo,O,rfl,SqL.of hO,fun t1 H3 g3 h3 => ?_⟩
      refine ⟨_,rfl,ll,L,rfl,SqL.of (g3 _ _ hL),fun t2 H4 g4 h4 => ?_⟩
      refine ⟨(by show 2 ≤ sizeLine; decide),fun t ht => ?_⟩
      have gt := Same.new ht (.tup [.ref t1,.ref t2])
      have hz : 300000 + n * 124001 ≤ 5300000 := by have : n * 124001 ≤ 40 * 124001 := Nat.mul_le_mul_right _ (by omega); omega
      refine q t t1 t2 (Pm.trim O) (Pm.trim L) _ (g.trans (g3.trans (g4.trans gt))) upd_same (gt _ _ (g4 _ _ h3)) (gt _ _ h4) (I.stop hM) (fun z hz' => (bd_trim bO z hz').mono hz) (fun z hz' => (bd_trim bL z hz').mono hz) ?_
      have := Pm.trim_len_le O
      have := I.ol
      omega
theorem ok_monic (B : Bt mg) (F : Fn K mg "monic" s_monic ["prime","poly"]) (M : Ms K mg base A_NoBy A_NoName A_NoNumber A_NoRow A_NoText A_RuleError A_TooBig A_TooFar A_TooLong) (C_over : Cal P w K mg base "over" 3 ["by","one","other"] spOverQ) : Cal P w K mg base "monic" 4 ["prime","poly"] spMonicQ := by
  refine F.cal sc_monic (fun vs H Q E h => ?_) (fun f cdv A outer s H vs Q E hr h => ?_)
  · obtain ⟨P,a,p,rfl,_⟩ := h; rfl
  · obtain ⟨P',a,p,rfl,hP,hPb,hA,zA,pP,q⟩ := h
    refine ⟨_,(pss_cons (ps_if (pt_cmpR (xeq K hr) (pe_callB (xlen K) rfl B.b_len boot_len (pa_n (pv 1) pa_nil)) pe_int (nomark _))
      (pss_one (ps_ret (pe_tup pa_nil)))
      pss_nil)
      (pss_cons (ps_set (i := 2) sc_monic.nd rfl (Or.inr rfl) (pe_ix (xix K) (pv 1) (pe_op op_sub (pe_callB (xlen K) rfl B.b_len boot_len (pa_n (pv 1) pa_nil)) pe_int) (fun _ _ => rfl)))
      (pss_one (ps_ret (pe_callTy (xtuple K) rfl B.b_tuple boot_tuple (pa_cons (pe_comp (sc := cs_monic1) (N := ["number","last","prime"]) (ix := [none,some 2,some 0]) (comp_mk (by kernel_rfl) (by kernel_rfl) (by kernel_rfl) (by kernel_rfl) (by kernel_rfl) (by kernel_rfl) (by kernel_rfl) (by kernel_rfl)) rfl (xseq K (pv 1)) (fun cl C s₀ H₀ ex => ⟨(pg_name (i := 0) (show (["number","last","prime"] : List Str).Nodup by decide +kernel) rfl (Or.inl rfl)),pif_nil,(pe_callC C_over hr rfl (pa_n (pv 2) (pa_n (pv 0) (pa_n (pv 1) pa_nil))))⟩)) pa_nil)))))),?_⟩
    have hr2 : 2 ≤ P' ∧ P' < 2097152 := ⟨hP.1,hPb⟩
    have lP : (p.map V.int).length = p.length := List.length_map _
    refine ⟨_,rfl,.ref a,p.length,rfl,.inr ⟨_,SqT.of hA,lP.symm⟩,_,rfl,?_⟩
    refine ite2 (fun c => ?_) (fun c => ?_)
    · have c' : (p.length : Int) = 0 := dec_true c
      have e : p = [] := List.eq_nil_of_length_eq_zero (by omega)
      subst e
      exact ⟨Nat.zero_le _,fun t ht => q t [] _ (Same.new ht _) upd_same (Pm.MonOf.nil _)⟩
    · have c' : ¬ (p.length : Int) = 0 := dec_false c
      have hn : p ≠ [] := fun e => c' (by rw [e]; rfl)
      have hpos : 0 < p.length := by omega
      have e1 : ((p.length : Int) - 1).toNat = p.length - 1 := by omega
      refine ⟨_,rfl,_,rfl,.ref a,p.length,rfl,.inr ⟨_,SqT.of hA,lP.symm⟩,_,_,rfl,rfl,_,_,.inr (SqT.of hA),atI_ints (ns := p) (by omega : (0 : Int) ≤ (p.length : Int) - 1) (by omega),?_⟩
      rw [e1]
      have l0 := Pm.last_ne hn pP.tr
      have l1 := pP.co (p.length - 1)
      rw [Rm.tk_pos (by omega)] at l1
      have r0 : 0 ≤ Pm.co p (p.length - 1) := by rw [← l1]; exact Int.emod_nonneg _ (by omega)
      have r1 : Pm.co p (p.length - 1) < (P' : Int) := by rw [← l1]; exact Int.emod_lt_of_pos _ (by omega)
      refine ⟨_,rfl,a,rfl,.inr ⟨⟨_,SqT.of hA⟩,comp_tup hA (by omega) rfl (fun x => x * (Pm.co p (p.length - 1)) ^ (P' - 2) % (P' : Int)) ?_ ?_⟩⟩
      · intro H2 x g2 hx k hk
        exact ⟨_,rfl,_,rfl,_,rfl,P',x,_,rfl,hP,hPb,by show 0 < Pm.co p (p.length - 1); omega,r1,hk⟩
      · intro D hD
        refine ⟨D,_,rfl,.inl ⟨SqL.of upd_same,fun t ht => ?_⟩⟩
        exact q t (Pm.monicN P' p) _ ((Same.new hD _).trans (Same.new ht _)) upd_same (Pm.monicN_pr hP pP hn)
theorem ok_greatest (B : Bt mg) (F : Fn K mg "greatest" s_greatest ["by","one","other"]) (M : Ms K mg base A_NoBy A_NoName A_NoNumber A_NoRow A_NoText A_RuleError A_TooBig A_TooFar A_TooLong) (C_monic : Cal P w K mg base "monic" 4 ["prime","poly"] spMonicQ) (C_divided : Cal P w K mg base "divided" 2 ["by","one","other"] spDividedQ) : Cal P w K mg base "greatest" 5 ["by","one","other"] spGreatestQ := by
  refine F.cal sc_greatest (fun vs H Q E h => ?_) (fun f cdv A outer s H vs Q E hr h => ?_)
  · obtain ⟨P,a,c,p,r,rfl,_⟩ := h; rfl
  · obtain ⟨P',a,c,p,r,rfl,hP,hPb,hA,hC,zA,zC,pP,pR,hne,q⟩ := h
    refine ⟨_,(pss_cons (ps_set (i := 3) sc_greatest.nd rfl (Or.inl rfl) (pe_callC C_monic hr rfl (pa_n (pv 0) (pa_n (pv 1) pa_nil))))
      (pss_cons (ps_set (i := 4) sc_greatest.nd rfl (Or.inl rfl) (pe_callC C_monic hr rfl (pa_n (pv 0) (pa_n (pv 2) pa_nil))))
      (pss_cons (ps_while PassesOwn.never (pt_cmpR op_gt (pe_callB (xlen K) rfl B.b_len boot_len (pa_n (pv 4) pa_nil)) pe_int (nomark _))
      (pss_cons (ps_set (i := 5) sc_greatest.nd rfl (Or.inl rfl) (pe_ix (xix K) (pe_callC C_divided hr rfl (pa_n (pv 0) (pa_n (pv 3) (pa_n (pv 4) pa_nil)))) pe_int (fun _ _ => rfl)))
      (pss_cons (ps_set (i := 3) sc_greatest.nd rfl (Or.inl rfl) (pv 4))
      (pss_one (ps_set (i := 4) sc_greatest.nd rfl (Or.inl rfl) (pe_callC C_monic hr rfl (pa_n (pv 0) (pa_n (pv 5) pa_nil))))))))
      (pss_one (ps_ret (pv 3)))))),?_⟩
    have hr2 : 2 ≤ P' ∧ P' < 2097152 := ⟨hP.1,hPb⟩
    refine ⟨_,rfl,_,rfl,P',a,p,rfl,hP,hPb,hA,by omega,pP,fun tg g0 H1 g1 hG mG => ?_⟩
    refine ⟨_,rfl,_,rfl,P',c,r,rfl,hP,hPb,g1 _ _ hC,by omega,pR,fun ts s0 H2 g2 hS' mS => ?_⟩
    have lg0 := mG.len
    have ls0 := mS.len
    refine ⟨fun m σ' H' => ∃ (o5 : Option V) (tg ts : Addr) (g s : List Int),m = s.length ∧ σ' = [some (.int P'),some (.ref a),some (.ref c),some (.ref tg),some (.ref ts),o5] ∧ Same H H' ∧ H' tg = some (.tup (g.map V.int)) ∧ H' ts = some (.tup (s.map V.int)) ∧ Pm.GcdI P' p r g s ∧ g.length ≤ max p.length r.length ∧ s.length ≤ max p.length r.length,
      ⟨_,_,tg,ts,g0,s0,rfl,rfl,g1.trans g2,g2 _ _ hG,hS',Pm.GcdI.start mG mS hne,by omega,by omega⟩,?_⟩
    rintro m σ' H' ⟨o5,tg,ts,gg,ss,rfl,rfl,g,hG,hS',I,zg,zs⟩
    have lS : (ss.map V.int).length = ss.length := List.length_map _
    refine ⟨_,rfl,.ref ts,ss.length,rfl,.inr ⟨_,SqT.of hS',lS.symm⟩,_,_,rfl,rfl,_,rfl,?_⟩
    refine ite2 (fun cc => ?_) (fun cc => ?_)
    · have hs : ss ≠ [] := fun e => by have := dec_true cc; rw [e] at this; simp at this
      have hMs := I.sm_ hs
      refine ⟨_,fun _ _ z => z,?_⟩
      refine ⟨_,rfl,_,rfl,_,rfl,P',tg,ts,gg,ss,rfl,by omega,by omega,hG,hS',by omega,by omega,hMs,I.gy.co,(fun x hx => (py_bd hr2.1 hr2.2 I.gy x hx).mono (by decide)),py_bd hr2.1 hr2.2 I.sy,fun t x y o l H3 g3 hT hX hY D _ _ _ => ?_⟩
      refine ⟨_,_,.inr (SqT.of hT),rfl,?_⟩
      refine ⟨_,rfl,?_⟩
      have hsh := D.short
      refine ⟨_,rfl,_,rfl,P',y,l,rfl,hP,hPb,hY,by omega,D.ry,fun tm m H4 g4 hM mM => ?_⟩
      have lm := mM.len
      exact ⟨m.length,by omega,_,ts,tm,ss,m,rfl,rfl,g.trans (g3.trans g4),(g3.trans g4) _ _ hS',hM,I.step hs D mM,zs,by omega⟩
    · have hs : ss = [] := List.eq_nil_of_length_eq_zero (by have := dec_false cc; omega)
      refine ⟨_,rfl,?_⟩
      exact q tg gg H' g hG (I.stop hs) zg
theorem ok_nearest (B : Bt mg) (F : Fn K mg "nearest" s_nearest ["modulus","number"]) (M : Ms K mg base A_NoBy A_NoName A_NoNumber A_NoRow A_NoText A_RuleError A_TooBig A_TooFar A_TooLong) : Cal P w K mg base "nearest" 1 ["modulus","number"] spNearest := by
  refine F.cal sc_nearest (fun vs H Q E h => ?_) (fun f cdv A outer s H vs Q E hr h => ?_)
  · obtain ⟨M,x,rfl,_⟩ := h; rfl
  · obtain ⟨M,x,rfl,hM,q⟩ := h
    refine ⟨_,(pss_cons (ps_set (i := 2) sc_nearest.nd rfl (Or.inl rfl) (pe_op op_mod (pv 1) (pv 0)))
      (pss_one (ps_ret (pe_ifExp (pt_cmpR op_gt (pe_op v_mul pe_int (pv 2)) (pv 0) (nomark _)) (pe_op op_sub (pv 2) (pv 0)) (pv 2))))),?_⟩
    refine ⟨_,rfl,_,rfl,_,_,rfl,rfl,hM,?_⟩
    refine ⟨_,rfl,mulL (by decide) (by decide),_,rfl,_,_,rfl,rfl,_,rfl,?_⟩
    refine ite2 (fun c => ?_) (fun c => ?_)
    · have c' : 2 * (x % M) > M := dec_true c
      refine ⟨_,rfl,_,rfl,_,_,rfl,rfl,?_⟩
      have e : Pm.nr M x = x % M - M := if_pos c'
      rw [e] at q; exact q
    · have c' : ¬ 2 * (x % M) > M := dec_false c
      refine ⟨_,rfl,?_⟩
      have e : Pm.nr M x = x % M := if_neg c'
      rw [e] at q; exact q
theorem ok_taken_poly (B : Bt mg) (F : Fn K mg "taken_poly" s_taken_poly ["prime","poly"]) (M : Ms K mg base A_NoBy A_NoName A_NoNumber A_NoRow A_NoText A_RuleError A_TooBig A_TooFar A_TooLong) (C_trimmed : Cal P w K mg base "trimmed" 1 ["numbers"] (spTrim K)) (C_taken : Cal P w K mg base "taken" 1 ["by","number"] spTaken) : Cal P w K mg base "taken_poly" 2 ["prime","poly"] spTakenPoly := by
  refine F.cal sc_taken_poly (fun vs H Q E h => ?_) (fun f cdv A outer s H vs Q E hr h => ?_)
  · obtain ⟨p,a,P,rfl,_⟩ := h; rfl
  · obtain ⟨p,a,P',rfl,hp,hA,zA,q⟩ := h
    refine ⟨_,(pss_one (ps_ret (pe_callC C_trimmed hr rfl (pa_cons (pe_comp (sc := cs_taken_poly1) (N := ["number","prime"]) (ix := [none,some 0]) (comp_mk (by kernel_rfl) (by kernel_rfl) (by kernel_rfl) (by kernel_rfl) (by kernel_rfl) (by kernel_rfl) (by kernel_rfl) (by kernel_rfl)) rfl (xseq K (pv 1)) (fun cl C s₀ H₀ ex => ⟨(pg_name (i := 0) (show (["number","prime"] : List Str).Nodup by decide +kernel) rfl (Or.inl rfl)),pif_nil,(pe_callC C_taken hr rfl (pa_n (pv 1) (pa_n (pv 0) pa_nil)))⟩)) pa_nil)))),?_⟩
    refine ⟨_,rfl,a,rfl,.inr ⟨⟨_,SqT.of hA⟩,comp_tup hA (by omega) rfl (fun x => Rm.tk p x) ?_ ?_⟩⟩
    · intro H2 x g2 hx k hk
      exact ⟨_,rfl,_,rfl,p,x,rfl,by omega,hk⟩
    · intro D hD
      refine ⟨D,_,rfl,SqL.of upd_same,fun t1 H3 g3 h3 => ?_⟩
      exact q t1 H3 ((Same.new hD _).trans g3) h3
theorem ok_joined (B : Bt mg) (F : Fn K mg "joined" s_joined ["modulus","number","prime","rest"]) (M : Ms K mg base A_NoBy A_NoName A_NoNumber A_NoRow A_NoText A_RuleError A_TooBig A_TooFar A_TooLong) : Cal P w K mg base "joined" 4 ["modulus","number","prime","rest"] spNever := by
  refine F.cal sc_joined (fun vs H Q E h => ?_) (fun f cdv A outer s H vs Q E hr h => ?_)
  · exact False.elim h
  · exact False.elim h
theorem ok_line_taken (B : Bt mg) (F : Fn K mg "line_taken" s_line_taken ["by","line"]) (M : Ms K mg base A_NoBy A_NoName A_NoNumber A_NoRow A_NoText A_RuleError A_TooBig A_TooFar A_TooLong) : Cal P w K mg base "line_taken" 2 ["by","line"] spNever := by
  refine F.cal sc_line_taken (fun vs H Q E h => ?_) (fun f cdv A outer s H vs Q E hr h => ?_)
  · exact False.elim h
  · exact False.elim h
theorem ok_head_line (B : Bt mg) (F : Fn K mg "head_line" s_head_line ["lines","begin","column"]) (M : Ms K mg base A_NoBy A_NoName A_NoNumber A_NoRow A_NoText A_RuleError A_TooBig A_TooFar A_TooLong) : Cal P w K mg base "head_line" 1 ["lines","begin","column"] spNever := by
  refine F.cal sc_head_line (fun vs H Q E h => ?_) (fun f cdv A outer s H vs Q E hr h => ?_)
  · exact False.elim h
  · exact False.elim h
theorem ok_bring_up (B : Bt mg) (F : Fn K mg "bring_up" s_bring_up ["by","lines","at","top"]) (M : Ms K mg base A_NoBy A_NoName A_NoNumber A_NoRow A_NoText A_RuleError A_TooBig A_TooFar A_TooLong) : Cal P w K mg base "bring_up" 2 ["by","lines","at","top"] spNever := by
  refine F.cal sc_bring_up (fun vs H Q E h => ?_) (fun f cdv A outer s H vs Q E hr h => ?_)
  · exact False.elim h
  · exact False.elim h
theorem ok_freed (B : Bt mg) (F : Fn K mg "freed" s_freed ["by","line","head","column","last"]) (M : Ms K mg base A_NoBy A_NoName A_NoNumber A_NoRow A_NoText A_RuleError A_TooBig A_TooFar A_TooLong) : Cal P w K mg base "freed" 4 ["by","line","head","column","last"] spNever := by
  refine F.cal sc_freed (fun vs H Q E h => ?_) (fun f cdv A outer s H vs Q E hr h => ?_)
  · exact False.elim h
  · exact False.elim h
theorem ok_common_divisor (B : Bt mg) (F : Fn K mg "common_divisor" s_common_divisor ["one","other"]) (M : Ms K mg base A_NoBy A_NoName A_NoNumber A_NoRow A_NoText A_RuleError A_TooBig A_TooFar A_TooLong) : Cal P w K mg base "common_divisor" 1 ["one","other"] spNever := by
  refine F.cal sc_common_divisor (fun vs H Q E h => ?_) (fun f cdv A outer s H vs Q E hr h => ?_)
  · exact False.elim h
  · exact False.elim h
theorem ok_free_numbers (B : Bt mg) (F : Fn K mg "free_numbers" s_free_numbers ["by","wide","lines","heads","last"]) (M : Ms K mg base A_NoBy A_NoName A_NoNumber A_NoRow A_NoText A_RuleError A_TooBig A_TooFar A_TooLong) : Cal P w K mg base "free_numbers" 5 ["by","wide","lines","heads","last"] spNever := by
  refine F.cal sc_free_numbers (fun vs H Q E h => ?_) (fun f cdv A outer s H vs Q E hr h => ?_)
  · exact False.elim h
  · exact False.elim h
theorem ok_paper_against (B : Bt mg) (F : Fn K mg "paper_against" s_paper_against ["by","wide","table","wished"]) (M : Ms K mg base A_NoBy A_NoName A_NoNumber A_NoRow A_NoText A_RuleError A_TooBig A_TooFar A_TooLong) : Cal P w K mg base "paper_against" 7 ["by","wide","table","wished"] spNever := by
  refine F.cal sc_paper_against (fun vs H Q E h => ?_) (fun f cdv A outer s H vs Q E hr h => ?_)
  · exact False.elim h
  · exact False.elim h
theorem ok_form_line (B : Bt mg) (F : Fn K mg "form_line" s_form_line ["roots","n"]) (M : Ms K mg base A_NoBy A_NoName A_NoNumber A_NoRow A_NoText A_RuleError A_TooBig A_TooFar A_TooLong) : Cal P w K mg base "form_line" 2 ["roots","n"] spNever := by
  refine F.cal sc_form_line (fun vs H Q E h => ?_) (fun f cdv A outer s H vs Q E hr h => ?_)
  · exact False.elim h
  · exact False.elim h
theorem ok_of_rule (B : Bt mg) (F : Fn K mg "of_rule" s_of_rule ["by","rule"]) (M : Ms K mg base A_NoBy A_NoName A_NoNumber A_NoRow A_NoText A_RuleError A_TooBig A_TooFar A_TooLong) (C_taken : Cal P w K mg base "taken" 1 ["by","number"] spTaken) : Cal P w K mg base "of_rule" 2 ["by","rule"] spOfRule := by
  refine F.cal sc_of_rule (fun vs H Q E h => ?_) (fun f cdv A outer s H vs Q E hr h => ?_)
  · obtain ⟨b,a,c,rfl,_⟩ := h; rfl
  · obtain ⟨b,a,c,rfl,hb,hA,zA,q⟩ := h
    refine ⟨_,(pss_cons (ps_set (i := 2) sc_of_rule.nd rfl (Or.inr rfl) (pe_callB (xlen K) rfl B.b_len boot_len (pa_n (pv 1) pa_nil)))
      (pss_cons (ps_setC (i := 3) (hN := sc_of_rule.nd) (hi' := rfl) (hx := (Or.inl rfl)) (sc := cs_of_rule1) (N := ["k","by","length","rule"]) (ix := [none,some 0,some 2,some 1]) (comp_mk (by kernel_rfl) (by kernel_rfl) (by kernel_rfl) (by kernel_rfl) (by kernel_rfl) (by kernel_rfl) (by kernel_rfl) (by kernel_rfl)) rfl (pi_range1 rfl B.b_range (pa_n (pv 2) pa_nil)) (fun cl C s₀ H₀ ex => ⟨(pg_name (i := 0) (show (["k","by","length","rule"] : List Str).Nodup by decide +kernel) rfl (Or.inl rfl)),pif_nil,(pe_callC C_taken hr rfl (pa_n (pv 1) (pa_b (pe_op op_sub pe_int (pe_ix (xix K) (pv 3) (pe_op op_sub (pe_op op_sub (pv 2) pe_int) (pv 0)) (fun _ _ => rfl))) pa_nil)))⟩))
      (pss_one (ps_ret (pe_callTy (xtuple K) rfl B.b_tuple boot_tuple (pa_b (pe_op (xadd K) (pv 3) (pe_lst (pa_k pe_int pa_nil))) pa_nil)))))),?_⟩
    have lC : (c.map V.int).length = c.length := List.length_map _
    refine ⟨_,rfl,.ref a,c.length,rfl,.inr ⟨_,SqT.of hA,lC.symm⟩,?_⟩
    refine ⟨_,rfl,(c.length : Int),rfl,(by omega : -(2 ^ 62) ≤ (c.length : Int)),(by omega : (c.length : Int) < 2 ^ 62),?_⟩
    rw [Int.toNat_natCast]
    refine comp_rng (n := c.length) (by omega) rfl (fun k => Rm.tk b (0 - Pm.co c (c.length - 1 - k))) ?_ ?_
    · intro H2 k g2 hk kk hkk
      have e1 : ((c.length : Int) - 1 - (0 + (k : Int))).toNat = c.length - 1 - k := by omega
      refine ⟨_,rfl,_,rfl,_,rfl,_,_,rfl,rfl,_,rfl,_,_,rfl,rfl,_,_,.inr (SqT.of (g2 _ _ hA)),atI_ints (ns := c) (by omega : (0 : Int) ≤ (c.length : Int) - 1 - (0 + (k : Int))) (by omega),_,_,rfl,rfl,?_⟩
      refine ⟨b,_,rfl,hb,?_⟩
      rw [e1]
      exact hkk
    · intro D hD
      have g1 := Same.new hD (.lst ((Pm.ofF c.length fun k => Rm.tk b (0 - Pm.co c (c.length - 1 - k))).map V.int))
      refine ⟨_,rfl,(by show 1 ≤ sizeLine; decide),fun l2 hl2 => ?_⟩
      have g2 := Same.new hl2 (.lst [.int 1])
      refine .inl ⟨_,_,g2 _ _ upd_same,upd_same,?_,fun l3 hl3 => ?_⟩
      · rw [List.length_map,Pm.ofF_len]; exact Nat.le_of_lt (small1000 (by show _ + 1 ≤ 1000; omega))
      refine ⟨l3,_,rfl,.inl ⟨SqL.of upd_same,fun t ht => ?_⟩⟩
      refine q t _ (g1.trans (g2.trans ((Same.new hl3 _).trans (Same.new ht _)))) ?_
      rw [upd_same,Pm.ofRule,map_snoc]
theorem ok_top_of (B : Bt mg) (F : Fn K mg "top_of" s_top_of ["row","poly"]) (M : Ms K mg base A_NoBy A_NoName A_NoNumber A_NoRow A_NoText A_RuleError A_TooBig A_TooFar A_TooLong) (C_taken : Cal P w K mg base "taken" 1 ["by","number"] spTaken) (C_trimmed : Cal P w K mg base "trimmed" 1 ["numbers"] (spTrim K)) : Cal P w K mg base "top_of" 2 ["row","poly"] spTop := by
  refine F.cal sc_top_of (fun vs H Q E h => ?_) (fun f cdv A outer s H vs Q E hr h => ?_)
  · obtain ⟨v,r,a,rfl,_⟩ := h; rfl
  · obtain ⟨v,r,a,rfl,⟨a0,p,p2,rfl,hA,hR,hS⟩,ok,hP,q⟩ := h
    refine ⟨_,(pss_cons (ps_set (i := 2) sc_top_of.nd rfl (Or.inl rfl) (pe_ix (xix K) (pv 0) pe_int (fun _ _ => rfl)))
      (pss_cons (ps_set (i := 3) sc_top_of.nd rfl (Or.inr rfl) (pe_ix (xix K) (pv 0) pe_int (fun _ _ => rfl)))
      (pss_cons (ps_set (i := 4) sc_top_of.nd rfl (Or.inl rfl) (pe_lst pa_nil))
      (pss_cons (ps_for PassesOwn.never rfl (pi_range1 rfl B.b_range (pa_cons (pe_callB (xlen K) rfl B.b_len boot_len (pa_n (pv 3) pa_nil)) pa_nil)) (pg_name (i := 5) sc_top_of.nd rfl (Or.inr rfl))
      (pss_cons (ps_setC (i := 6) (hN := sc_top_of.nd) (hi' := rfl) (hx := (Or.inl rfl)) (sc := cs_top_of1) (N := ["j","k","poly","starts"]) (ix := [none,some 5,some 1,some 3]) (comp_mk (by kernel_rfl) (by kernel_rfl) (by kernel_rfl) (by kernel_rfl) (by kernel_rfl) (by kernel_rfl) (by kernel_rfl) (by kernel_rfl)) rfl (pi_range2 rfl B.b_range (pa_b (pe_op (xadd K) (pv 5) pe_int) (pa_cons (pe_callB (xlen K) rfl B.b_len boot_len (pa_n (pv 1) pa_nil)) pa_nil))) (fun cl C s₀ H₀ ex => ⟨(pg_name (i := 0) (show (["j","k","poly","starts"] : List Str).Nodup by decide +kernel) rfl (Or.inl rfl)),pif_nil,(pe_op v_mul (pe_ix (xix K) (pv 2) (pv 0) (fun _ _ => rfl)) (pe_ix (xix K) (pv 3) (pe_op op_sub (pe_op op_sub (pv 0) pe_int) (pv 1)) (fun _ _ => rfl)))⟩))
      (pss_one (ps_expr (xappend K (pv 4) (pe_callC C_taken hr rfl (pa_n (pv 2) (pa_cons (pe_callB (xsum K rfl) rfl B.b_sum boot_sum (pa_n (pv 6) pa_nil)) pa_nil))))))))
      (pss_one (ps_ret (pe_callC C_trimmed hr rfl (pa_n (pv 4) pa_nil)))))))),?_⟩
    have hl := ok.len
    have hs := ok.short
    have lS : (r.starts.map V.int).length = r.starts.length := List.length_map _
    have lP : ((Pm.ofRule r.b r.rule).map V.int).length = r.rule.length + 1 := by rw [List.length_map,Pm.ofRule_len]
    refine ⟨_,rfl,_,_,.inr (SqT.of hA),rfl,?_⟩
    refine ⟨_,rfl,_,_,.inr (SqT.of hA),rfl,?_⟩
    refine ⟨Nat.zero_le _,fun l0 h0 => ?_⟩
    have g0 := Same.new h0 (.lst [])
    refine ⟨_,rfl,.ref p2,r.starts.length,rfl,.inr ⟨_,SqT.of (g0 _ _ hS),lS.symm⟩,?_⟩
    refine ⟨(r.starts.length : Int),rfl,(by omega : -(2 ^ 62) ≤ (r.starts.length : Int)),(by omega : (r.starts.length : Int) < 2 ^ 62),?_⟩
    refine for_range (lo := 0) (n := (r.starts.length : Int).toNat) (fun i σ' H' => ∃ o5 o6,σ' = [some (.ref a0),some (.ref a),some (.int r.b),some (.ref p2),some (.ref l0),o5,o6] ∧ Same H H' ∧ H' l0 = some (.lst ((Pm.ofF i fun k => Rm.tk r.b (Pm.tp (Pm.ofRule r.b r.rule) r.at k)).map V.int)))
      ⟨_,_,rfl,g0,upd_same⟩ ?_ ?_
    · rintro i σ' H' hi ⟨o5,o6,rfl,g,hL⟩
      have hi' : i < r.starts.length := by omega
      refine ⟨_,rfl,_,rfl,.ref a,r.rule.length + 1,rfl,.inr ⟨_,SqT.of (g _ _ hP),lP.symm⟩,?_⟩
      refine ⟨_,_,rfl,⟨by omega,by omega,by omega,by omega⟩,?_⟩
      rw [show (((r.rule.length + 1 : Nat) : Int) - (0 + (i : Int) + 1)).toNat = r.rule.length - i by omega]
      refine comp_rngL (lo := 0 + (i : Int) + 1) (n := r.rule.length - i) (by omega) rfl (fun k => Pm.co (Pm.ofRule r.b r.rule) (i + 1 + k) * r.at k) ?_ ?_
      · intro H2 k g2 hk kk hkk
        have e1 : (0 + (i : Int) + 1 + (k : Int)).toNat = i + 1 + k := by omega
        have e2 : (0 + (i : Int) + 1 + (k : Int) - 1 - (0 + (i : Int))).toNat = k := by omega
        have lq : (Pm.ofRule r.b r.rule).length = r.rule.length + 1 := Pm.ofRule_len ..
        refine ⟨_,rfl,_,rfl,_,_,.inr (SqT.of (g2 _ _ (g _ _ hP))),atI_ints (ns := Pm.ofRule r.b r.rule) (by omega : (0 : Int) ≤ 0 + (i : Int) + 1 + (k : Int)) (by omega),?_⟩
        refine ⟨_,rfl,_,rfl,_,_,rfl,rfl,_,rfl,_,_,rfl,rfl,_,_,.inr (SqT.of (g2 _ _ (g _ _ hS))),atI_ints (ns := r.starts) (by omega : (0 : Int) ≤ 0 + (i : Int) + 1 + (k : Int) - 1 - (0 + (i : Int))) (by omega),?_⟩
        refine ⟨mulBd (Rm.Bd.getD ok.poly_bd _) (Rm.Bd.getD ok.startsBd _) (by decide),?_⟩
        rw [e1,e2]
        have e3 : r.at k = r.starts.getD k 0 := Rm.at_lt (by omega)
        rw [e3] at hkk
        exact hkk
      · intro D hD
        have g3 := Same.new hD (.lst ((Pm.ofF (r.rule.length - i) fun k => Pm.co (Pm.ofRule r.b r.rule) (i + 1 + k) * r.at k).map V.int))
        have hL3 := g3 _ _ hL
        have lL : ((Pm.ofF i fun k => Rm.tk r.b (Pm.tp (Pm.ofRule r.b r.rule) r.at k)).map V.int).length = i := by rw [List.length_map,Pm.ofF_len]
        refine ⟨_,rfl,.inl ⟨rfl,_,SqL.of hL3⟩,_,rfl,_,rfl,D,_,rfl,SqL.of upd_same,r.b,_,rfl,ok.by0,?_⟩
        refine ⟨l0,_,_,rfl,rfl,hL3,?_,?_⟩
        · rw [lL]; exact small1000 (by omega)
        · refine ⟨_,_,rfl,(g.trans g3).upd h0 _,?_⟩
          rw [upd_same,Pm.ofF_succ,map_snoc]
          have e4 : Pm.tp (Pm.ofRule r.b r.rule) r.at i = (Pm.ofF (r.rule.length - i) fun k => Pm.co (Pm.ofRule r.b r.rule) (i + 1 + k) * r.at k).sum := by
            unfold Pm.tp
            rw [Pm.ofF,Pm.list_sum,Pm.ofRule_len,Nat.add_sub_cancel]
          rw [e4]
    · rintro σ' H' ⟨o5,o6,rfl,g,hL⟩
      refine ⟨_,rfl,l0,_,rfl,SqL.of hL,fun t1 H3 g3 h3 => ?_⟩
      refine q t1 H3 (g.trans g3) ?_
      rw [h3,topL,hl,Int.toNat_natCast]
theorem ok_divides (B : Bt mg) (F : Fn K mg "divides" s_divides ["monic_one","poly"]) (M : Ms K mg base A_NoBy A_NoName A_NoNumber A_NoRow A_NoText A_RuleError A_TooBig A_TooFar A_TooLong) (C_divided : Cal P w K mg base "divided" 2 ["by","one","other"] spDividedQ) : Cal P w K mg base "divides" 3 ["monic_one","poly"] spDiv46 := by
  refine F.cal sc_divides (fun vs H Q E h => ?_) (fun f cdv A outer s H vs Q E hr h => ?_)
  · obtain ⟨m,a,M,P,o,l,rfl,_⟩ := h; rfl
  · obtain ⟨m,a,M,P',o,l,rfl,hMm,hA,zM,zP,hM,bM,bP,hD,q⟩ := h
    refine ⟨_,(pss_one (ps_ret (pe_cmpR (xeq K hr) (pe_ix (xix K) (pe_callC C_divided hr rfl (pa_k pe_int (pa_n (pv 1) (pa_n (pv 0) pa_nil)))) pe_int (fun _ _ => rfl)) (pe_tup pa_nil) (nomark _)))),?_⟩
    refine ⟨_,rfl,_,rfl,0,a,m,P',M,rfl,by decide,by decide,hA,hMm,zP,zM,hM,fun k => Rm.tk_zero _,bP,bM,fun t x y o' l' H3 g3 hT hX hY D _ _ _ => ?_⟩
    obtain ⟨rfl,rfl⟩ := D.uniq hM hD
    refine ⟨_,_,.inr (SqT.of hT),rfl,?_⟩
    refine ⟨Nat.zero_le _,fun t0 ht0 => ?_⟩
    have g4 := Same.new ht0 (.tup [])
    refine eqTT (ns := l') (ms := []) (SqT.of (g4 _ _ hY)) (SqT.of upd_same) ?_
    exact q _ (g3.trans g4)
theorem ok_whole_greatest (B : Bt mg) (F : Fn K mg "whole_greatest" s_whole_greatest ["one","other"]) (M : Ms K mg base A_NoBy A_NoName A_NoNumber A_NoRow A_NoText A_RuleError A_TooBig A_TooFar A_TooLong) (C_divides : Cal P w K mg base "divides" 3 ["monic_one","poly"] spDiv46) (C_prime_above : Cal P w K mg base "prime_above" 2 ["number"] spAbove) (C_greatest : Cal P w K mg base "greatest" 5 ["by","one","other"] spGreatestQ) (C_taken_poly : Cal P w K mg base "taken_poly" 2 ["prime","poly"] spTakenPoly) (C_nearest : Cal P w K mg base "nearest" 1 ["modulus","number"] spNearest) (C_joined : Cal P w K mg base "joined" 4 ["modulus","number","prime","rest"] spNever) : Cal P w K mg base "whole_greatest" 6 ["one","other"] spWG46 := by
  refine F.cal sc_whole_greatest (fun vs H Q E h => ?_) (fun f cdv A outer s H vs Q E hr h => ?_)
  · obtain ⟨a,c,P,t,rfl,_⟩ := h; rfl
  · obtain ⟨a,c,P',t,rfl,hA,hC,zP,z2,hP,bP,hq⟩ := h
    refine ⟨_,(pss_cons (ps_set (i := 2) sc_whole_greatest.nd rfl (Or.inl rfl) (pv 0))
      (pss_cons (ps_set (i := 3) sc_whole_greatest.nd rfl (Or.inr rfl) pe_int)
      (pss_cons (ps_set (i := 4) sc_whole_greatest.nd rfl (Or.inr rfl) (pe_globI rfl B.g_BELOW_THE_PRIMES))
      (pss_cons (ps_set (i := 5) sc_whole_greatest.nd rfl (Or.inl rfl) pe_bl)
      (pss_cons (ps_while PassesOwn.never (PW.pt (pw_or (pt_not (pt_val (pv 5))) (pw_or (pt_not (pt_val (pe_callC C_divides hr rfl (pa_n (pv 2) (pa_n (pv 0) pa_nil))))) (pw_or1 (pt_not (pt_val (pe_callC C_divides hr rfl (pa_n (pv 2) (pa_n (pv 1) pa_nil)))))))))
      (pss_cons (ps_set (i := 4) sc_whole_greatest.nd rfl (Or.inr rfl) (pe_callC C_prime_above hr rfl (pa_n (pv 4) pa_nil)))
      (pss_cons (ps_set (i := 6) sc_whole_greatest.nd rfl (Or.inr rfl) (pe_callC C_greatest hr rfl (pa_n (pv 4) (pa_cons (pe_callC C_taken_poly hr rfl (pa_n (pv 4) (pa_n (pv 0) pa_nil))) (pa_cons (pe_callC C_taken_poly hr rfl (pa_n (pv 4) (pa_n (pv 1) pa_nil))) pa_nil)))))
      (pss_one (ps_if (pt_cmpR op_lt (pe_callB (xlen K) rfl B.b_len boot_len (pa_n (pv 6) pa_nil)) (pe_callB (xlen K) rfl B.b_len boot_len (pa_n (pv 2) pa_nil)) (nomark _))
      (pss_cons (ps_set (i := 2) sc_whole_greatest.nd rfl (Or.inl rfl) (pe_callTy (xtuple K) rfl B.b_tuple boot_tuple (pa_cons (pe_comp (sc := cs_whole_greatest1) (N := ["rest","prime"]) (ix := [none,some 4]) (comp_mk (by kernel_rfl) (by kernel_rfl) (by kernel_rfl) (by kernel_rfl) (by kernel_rfl) (by kernel_rfl) (by kernel_rfl) (by kernel_rfl)) rfl (xseq K (pv 6)) (fun cl C s₀ H₀ ex => ⟨(pg_name (i := 0) (show (["rest","prime"] : List Str).Nodup by decide +kernel) rfl (Or.inl rfl)),pif_nil,(pe_callC C_nearest hr rfl (pa_n (pv 1) (pa_n (pv 0) pa_nil)))⟩)) pa_nil)))
      (pss_cons (ps_set (i := 3) sc_whole_greatest.nd rfl (Or.inr rfl) (pv 4))
      (pss_one (ps_set (i := 5) sc_whole_greatest.nd rfl (Or.inl rfl) pe_bl))))
      (pss_one (ps_bar (ps_if (pt_cmpR (xeq K hr) (pe_callB (xlen K) rfl B.b_len boot_len (pa_n (pv 6) pa_nil)) (pe_callB (xlen K) rfl B.b_len boot_len (pa_n (pv 2) pa_nil)) (nomark _))
      (pss_cons (ps_set (i := 7) sc_whole_greatest.nd rfl (Or.inr rfl) (pv 2))
      (pss_cons (ps_set (i := 2) sc_whole_greatest.nd rfl (Or.inl rfl) (pe_callTy (xtuple K) rfl B.b_tuple boot_tuple (pa_cons (pe_comp (sc := cs_whole_greatest2) (N := ["k","before","modulus","prime","seen"]) (ix := [none,some 7,some 3,some 4,some 6]) (comp_mk (by kernel_rfl) (by kernel_rfl) (by kernel_rfl) (by kernel_rfl) (by kernel_rfl) (by kernel_rfl) (by kernel_rfl) (by kernel_rfl)) rfl (pi_range1 rfl B.b_range (pa_cons (pe_callB (xlen K) rfl B.b_len boot_len (pa_n (pv 6) pa_nil)) pa_nil)) (fun cl C s₀ H₀ ex => ⟨(pg_name (i := 0) (show (["k","before","modulus","prime","seen"] : List Str).Nodup by decide +kernel) rfl (Or.inl rfl)),pif_nil,(pe_callC C_joined hr rfl (pa_n (pv 2) (pa_cons (pe_ix (xix K) (pv 1) (pv 0) (fun _ _ => rfl)) (pa_n (pv 3) (pa_cons (pe_ix (xix K) (pv 4) (pv 0) (fun _ _ => rfl)) pa_nil)))))⟩)) pa_nil)))
      (pss_cons (ps_set (i := 3) sc_whole_greatest.nd rfl (Or.inr rfl) (pe_op v_mul (pv 3) (pv 4)))
      (pss_one (ps_set (i := 5) sc_whole_greatest.nd rfl (Or.inl rfl) (pe_cmpR (xeq K hr) (pv 2) (pv 7) (nomark _)))))))
      pss_nil))))))))
      (pss_one (ps_ret (pv 2)))))))),?_⟩
    refine ⟨_,rfl,?_⟩
    rcases hq with ⟨c0,hc0,hc9,rfl,q⟩ | ⟨rfl,q⟩
    · have bc : ∀ x ∈ [(c0 : Int)],Rm.Bd 300000 x := fun x hx => by rw [List.mem_singleton.mp hx]; exact (Rm.Bd.of (n := 10) (by omega) (by omega)).mono (by decide)
      have hcn : (c0 : Int) ≠ 0 := by omega
      refine ⟨fun m σ' H' => (m = 1 ∧ σ' = [some (.ref a),some (.ref c),some (.ref a),some (.int 1),some (.int 1000000),some (.bl true),none,none] ∧ H' = H) ∨ (m = 0 ∧ ∃ (t1 : Addr) (o6 o7 : Option V) (p : Int),σ' = [some (.ref a),some (.ref c),some (.ref t1),some (.int p),some (.int p),some (.bl true),o6,o7] ∧ Same H H' ∧ H' t1 = some (.tup ([1].map V.int))),⟨1,.inl ⟨rfl,rfl,rfl⟩⟩,?_⟩
      rintro m σ' H' (⟨rfl,rfl,rfl⟩ | ⟨rfl,t1,o6,o7,p,rfl,gg,hT⟩)
      · refine ⟨_,rfl,true,rfl,iteF ?_⟩
        refine ⟨_,rfl,_,rfl,a,a,P',P',[1],[],rfl,hA,hA,zP,zP,hP,bP,(fun x hx => (bP x hx).mono (by decide)),div_self46 hP,fun H1 g1 => ?_⟩
        refine ⟨_,rfl,iteF ?_⟩
        refine ⟨_,rfl,_,rfl,a,c,P',[(c0 : Int)],[],[(c0 : Int)],rfl,g1 _ _ hA,g1 _ _ hC,zP,(by show 1 ≤ 40; decide),hP,bP,bc,div_low46 z2 hcn,fun H2 g2 => ?_⟩
        refine ⟨_,rfl,iteT ?_⟩
        have g12 := g1.trans g2
        refine ⟨_,fun _ _ z => z,?_⟩
        refine ⟨_,rfl,1000000,1000003,rfl,prime_mill,by decide,by decide,fun p hp hnp hpq => ?_⟩
        have hpz : (0 : Int) < (p : Int) := by omega
        have et : Pm.trim ([(c0 : Int)].map (Rm.tk p)) = [(c0 : Int)] := by
          have e : Rm.tk (p : Int) (c0 : Int) = (c0 : Int) := by rw [Rm.tk_pos (by omega)]; exact Int.emod_eq_of_lt (by omega) (by omega)
          show Pm.trim [Rm.tk (p : Int) (c0 : Int)] = _
          rw [e,Pm.trim,Pm.trim,if_neg (fun z => hcn z.1)]
        refine ⟨_,rfl,_,rfl,_,rfl,p,a,P',rfl,by omega,g12 _ _ hA,by omega,fun tA H3 g3 hTA => ?_⟩
        refine ⟨_,rfl,_,rfl,p,c,[(c0 : Int)],rfl,by omega,g3 _ _ (g12 _ _ hC),(by show 1 ≤ 100; decide),fun tC' H4 g4 hTC => ?_⟩
        rw [et] at hTC
        have g34 := g3.trans g4
        refine ⟨p,tA,tC',Pm.trim (P'.map (Rm.tk p)),[(c0 : Int)],rfl,hp,by omega,g4 _ _ hTA,hTC,?_,(by show 1 ≤ 40; decide),py_tk46 p P',⟨by rw [Pm.trim,Pm.trim,if_neg (fun z => hcn z.1)],fun x hx => by rw [List.mem_singleton.mp hx,Rm.tk_pos (by omega)]; exact Int.emod_eq_of_lt (by omega) (by omega)⟩,fun z => (by cases z),fun tg g H5 g5 hTg hG _ => ?_⟩
        · have := Pm.trim_len_le (P'.map (Rm.tk p))
          rw [List.length_map] at this
          omega
        have eg := gcd_one46 hp hnp hc0 hc9 _ g hG
        subst eg
        have gA := g12.trans (g34.trans g5)
        refine ⟨_,rfl,.ref tg,1,rfl,.inr ⟨_,SqT.of hTg,rfl⟩,_,rfl,.ref a,P'.length,rfl,.inr ⟨_,SqT.of (gA _ _ hA),(List.length_map _).symm⟩,_,_,rfl,rfl,_,rfl,?_⟩
        rw [decide_eq_true (show ((1 : Nat) : Int) < (P'.length : Int) by omega)]
        refine iteT ?_
        refine ⟨_,rfl,tg,rfl,.inr ⟨⟨_,SqT.of hTg⟩,comp_tup hTg (by decide) rfl (fun x => Pm.nr p x) ?_ ?_⟩⟩
        · intro H6 x g6 hx k hk
          exact ⟨_,rfl,_,rfl,p,x,rfl,hpz,hk⟩
        intro D hD
        have en : [(1 : Int)].map (fun x => Pm.nr p x) = [1] := by
          show [Pm.nr p 1] = [1]
          have e : (1 : Int) % (p : Int) = 1 := Int.emod_eq_of_lt (by decide) (by omega)
          unfold Pm.nr
          rw [e,if_neg (by omega)]
        rw [en]
        refine ⟨D,_,rfl,.inl ⟨SqL.of upd_same,fun t1 ht1 => ?_⟩⟩
        have gz := (Same.new hD (.lst ([(1 : Int)].map V.int))).trans (Same.new ht1 (.tup ([(1 : Int)].map V.int)))
        refine ⟨_,rfl,?_⟩
        exact ⟨0,by decide,.inr ⟨rfl,t1,_,_,(p : Int),rfl,gA.trans gz,upd_same⟩⟩
      · refine ⟨_,rfl,true,rfl,iteF ?_⟩
        have b1 : ∀ x ∈ [(1 : Int)],Rm.Bd 124000 x := fun x hx => by rw [List.mem_singleton.mp hx]; exact (Rm.Bd.of (n := 10) (by omega) (by omega)).mono (by decide)
        refine ⟨_,rfl,_,rfl,t1,a,[1],P',P',[],rfl,hT,gg _ _ hA,by decide,zP,mon_one,b1,(fun x hx => (bP x hx).mono (by decide)),div_one46 hP,fun H1 g1 => ?_⟩
        refine ⟨_,rfl,iteF ?_⟩
        refine ⟨_,rfl,_,rfl,t1,c,[1],[(c0 : Int)],[(c0 : Int)],[],rfl,g1 _ _ hT,g1 _ _ (gg _ _ hC),by decide,(by show 1 ≤ 40; decide),mon_one,b1,bc,div_con46 hcn,fun H2 g2 => ?_⟩
        refine ⟨_,rfl,iteF ?_⟩
        exact ⟨_,rfl,q t1 H2 (gg.trans (g1.trans g2)) ((g1.trans g2) _ _ hT)⟩
    · refine ⟨fun m σ' H' => σ' = [some (.ref a),some (.ref c),some (.ref a),some (.int 1),some (.int 1000000),some (.bl true),none,none] ∧ H' = H,⟨0,rfl,rfl⟩,?_⟩
      rintro m σ' H' ⟨rfl,rfl⟩
      refine ⟨_,rfl,true,rfl,iteF ?_⟩
      refine ⟨_,rfl,_,rfl,a,a,P',P',[1],[],rfl,hA,hA,zP,zP,hP,bP,(fun x hx => (bP x hx).mono (by decide)),div_self46 hP,fun H1 g1 => ?_⟩
      refine ⟨_,rfl,iteF ?_⟩
      refine ⟨_,rfl,_,rfl,a,c,P',[],[],[],rfl,g1 _ _ hA,g1 _ _ hC,zP,by decide,hP,bP,(fun x hx => by cases hx),div_nil46 (by omega),fun H2 g2 => ?_⟩
      refine ⟨_,rfl,iteF ?_⟩
      exact ⟨_,rfl,q a H2 (g1.trans g2) ((g1.trans g2) _ _ hA)⟩
theorem ok_shared_divisor (B : Bt mg) (F : Fn K mg "shared_divisor" s_shared_divisor ["by","one","other"]) (M : Ms K mg base A_NoBy A_NoName A_NoNumber A_NoRow A_NoText A_RuleError A_TooBig A_TooFar A_TooLong) (C_whole_greatest : Cal P w K mg base "whole_greatest" 6 ["one","other"] spWG46) (C_greatest : Cal P w K mg base "greatest" 5 ["by","one","other"] spGreatestQ) : Cal P w K mg base "shared_divisor" 7 ["by","one","other"] spShared46 := by
  refine F.cal sc_shared_divisor (fun vs H Q E h => ?_) (fun f cdv A outer s H vs Q E hr h => ?_)
  · obtain ⟨a,c,P,t,rfl,_⟩ := h; rfl
  · obtain ⟨a,c,P',t,rfl,hA,hC,zP,z2,hP,bP,hq⟩ := h
    refine ⟨_,(pss_one (ps_ret (pe_ifExp (pt_cmpR (xeq K hr) (pv 0) pe_int (nomark _)) (pe_callC C_whole_greatest hr rfl (pa_n (pv 1) (pa_n (pv 2) pa_nil))) (pe_callC C_greatest hr rfl (pa_n (pv 0) (pa_n (pv 1) (pa_n (pv 2) pa_nil))))))),?_⟩
    refine ⟨_,rfl,_,rfl,?_⟩
    rw [decide_eq_true rfl]
    refine iteT ?_
    exact ⟨_,rfl,_,rfl,a,c,P',t,rfl,hA,hC,zP,z2,hP,bP,hq⟩
theorem ok_least_of (B : Bt mg) (F : Fn K mg "least_of" s_least_of ["row"]) (M : Ms K mg base A_NoBy A_NoName A_NoNumber A_NoRow A_NoText A_RuleError A_TooBig A_TooFar A_TooLong) (C_of_rule : Cal P w K mg base "of_rule" 2 ["by","rule"] spOfRule) (C_top_of : Cal P w K mg base "top_of" 2 ["row","poly"] spTop) (C_divided : Cal P w K mg base "divided" 2 ["by","one","other"] spDividedQ) (C_shared_divisor : Cal P w K mg base "shared_divisor" 7 ["by","one","other"] spShared46) : Cal P w K mg base "least_of" 8 ["row"] spLeast46 := by
  refine F.cal sc_least_of (fun vs H Q E h => ?_) (fun f cdv A outer s H vs Q E hr h => ?_)
  · obtain ⟨v,r,rfl,_⟩ := h; rfl
  · obtain ⟨v,r,rfl,⟨a0,p,p2,rfl,hA,hR,hS⟩,ok,h0,hn,hq⟩ := h
    refine ⟨_,(pss_cons (ps_set (i := 1) sc_least_of.nd rfl (Or.inl rfl) (pe_ix (xix K) (pv 0) pe_int (fun _ _ => rfl)))
      (pss_cons (ps_set (i := 2) sc_least_of.nd rfl (Or.inl rfl) (pe_callC C_of_rule hr rfl (pa_n (pv 1) (pa_cons (pe_ix (xix K) (pv 0) pe_int (fun _ _ => rfl)) pa_nil))))
      (pss_cons (ps_set (i := 3) sc_least_of.nd rfl (Or.inl rfl) (pe_callC C_top_of hr rfl (pa_n (pv 0) (pa_n (pv 2) pa_nil))))
      (pss_one (ps_ret (pe_ix (xix K) (pe_callC C_divided hr rfl (pa_n (pv 1) (pa_n (pv 2) (pa_cons (pe_callC C_shared_divisor hr rfl (pa_n (pv 1) (pa_n (pv 2) (pa_n (pv 3) pa_nil)))) pa_nil)))) pe_int (fun _ _ => rfl))))))),?_⟩
    have hs := ok.short
    have hm := Pm.ofRule_mon 0 r.rule
    have lq : (Pm.ofRule 0 r.rule).length = r.rule.length + 1 := Pm.ofRule_len ..
    have bP : ∀ x ∈ Pm.ofRule 0 r.rule,Rm.Bd 124000 x := fun x hx => (ok.poly_bd x (by rw [h0]; exact hx)).mono (by decide)
    refine ⟨_,rfl,_,_,.inr (SqT.of hA),rfl,?_⟩
    refine ⟨_,rfl,_,rfl,_,_,.inr (SqT.of hA),rfl,r.b,p,r.rule,rfl,ok.by0,hR,by omega,fun tP H1 g1 hP => ?_⟩
    refine ⟨_,rfl,_,rfl,.ref a0,r,tP,rfl,⟨a0,p,p2,rfl,g1 _ _ hA,g1 _ _ hR,g1 _ _ hS⟩,ok,hP,fun tT H2 g2 hTp => ?_⟩
    have hP2 := g2 _ _ hP
    rw [h0] at hP2 ⊢
    have g12 := g1.trans g2
    refine ⟨_,rfl,_,rfl,_,rfl,_,rfl,_,rfl,tP,tT,Pm.ofRule 0 r.rule,topL r,rfl,hP2,hTp,by omega,by omega,hm,bP,?_⟩
    have b1 : ∀ x ∈ [(1 : Int)],Rm.Bd 124000 x := fun x hx => by rw [List.mem_singleton.mp hx]; exact (Rm.Bd.of (n := 10) (by omega) (by omega)).mono (by decide)
    rcases hq with ⟨c0,c1,c2,he,q⟩ | ⟨he,q⟩
    · refine .inl ⟨c0,c1,c2,top_ends h0 ok hn (by omega) he,fun tg H3 g3 hg3 => ?_⟩
      refine ⟨0,tP,tg,Pm.ofRule 0 r.rule,[1],rfl,by decide,by decide,g3 _ _ hP2,hg3,by omega,by decide,mon_one,fun k => Rm.tk_zero _,(fun x hx => (bP x hx).mono (by decide)),b1,fun t x y o' l' H4 g4 hT hX hY D _ _ _ => ?_⟩
      obtain ⟨rfl,rfl⟩ := D.uniq mon_one (div_one46 hm)
      exact ⟨_,_,.inr (SqT.of hT),rfl,q x H4 (g12.trans (g3.trans g4)) hX⟩
    · refine .inr ⟨top_noughts ok he,fun tg H3 g3 hg3 => ?_⟩
      refine ⟨0,tP,tg,Pm.ofRule 0 r.rule,Pm.ofRule 0 r.rule,rfl,by decide,by decide,g3 _ _ hP2,hg3,by omega,by omega,hm,fun k => Rm.tk_zero _,(fun x hx => (bP x hx).mono (by decide)),bP,fun t x y o' l' H4 g4 hT hX hY D _ _ _ => ?_⟩
      obtain ⟨rfl,rfl⟩ := D.uniq hm (div_self46 hm)
      exact ⟨_,_,.inr (SqT.of hT),rfl,q x H4 (g12.trans (g3.trans g4)) hX⟩
theorem ok_refuse_big (B : Bt mg) (F : Fn K mg "refuse_big" s_refuse_big ["poly"]) (M : Ms K mg base A_NoBy A_NoName A_NoNumber A_NoRow A_NoText A_RuleError A_TooBig A_TooFar A_TooLong) : Cal P w K mg base "refuse_big" 1 ["poly"] (spBig46 A_TooBig) := by
  refine F.calF sc_refuse_big (fun vs H Q E h => ?_) (fun f cdv A outer s H vs Q E hr h => ?_)
  · obtain ⟨a,P,rfl,_⟩ := h; rfl
  · obtain ⟨a,P',rfl,hA,zP,q1,q2⟩ := h
    refine ⟨_,(pss_one (ps_if (pt_val (pe_callB (xany K rfl) rfl B.b_any boot_any (pa_cons (pe_comp (sc := cs_refuse_big1) (N := ["number"]) (ix := [none]) (comp_mk (by kernel_rfl) (by kernel_rfl) (by kernel_rfl) (by kernel_rfl) (by kernel_rfl) (by kernel_rfl) (by kernel_rfl) (by kernel_rfl)) rfl (xseq K (pv 0)) (fun cl C s₀ H₀ ex => ⟨(pg_name (i := 0) (show (["number"] : List Str).Nodup by decide +kernel) rfl (Or.inl rfl)),pif_nil,(pe_cmpR op_ge (pe_callB call_abs rfl B.b_abs boot_abs (pa_n (pv 0) pa_nil)) (pe_globI rfl B.g_ABOVE_ALL_NUMBERS) (nomark _))⟩)) pa_nil)))
      (pss_one (ps_raise M.x_TooBig rfl (pa_k pe_str pa_nil)))
      pss_nil)),?_⟩
    refine ⟨_,rfl,a,rfl,.inr ⟨⟨_,SqT.of hA⟩,?_⟩⟩
    refine comp_pure (its_tup (SqT.of hA)) (by rw [List.length_map]; exact Nat.le_of_lt (small1000 (by omega))) rfl (fun _ => true) (fun x => match x with | .int k => .bl (decide ((1000000 : Int) ≤ (if k < 0 then -k else k))) | _ => .non) ?_ ?_ ?_
    · intro H2 x g2 hx k hk; exact hk
    · intro H2 x g2 hx _ k hk
      obtain ⟨y,hy,rfl⟩ := List.mem_map.mp hx
      exact ⟨_,rfl,y,rfl,_,_,rfl,rfl,hk⟩
    intro D hD
    have el : (((P'.map V.int).filter fun _ => true).map fun x => match x with | .int k => V.bl (decide ((1000000 : Int) ≤ (if k < 0 then -k else k))) | _ => V.non) = (P'.map fun k => decide ((1000000 : Int) ≤ (if k < 0 then -k else k))).map V.bl := by
      rw [List.filter_eq_self.mpr (by simp),List.map_map,List.map_map]; rfl
    rw [el]
    refine ⟨D,_,rfl,SqL.of upd_same,_,rfl,?_⟩
    refine ite2 (fun c => ⟨(by show 1 ≤ sizeLine; decide),q2 ?_ _ (Same.new hD _)⟩) (fun c => q1 (fun x hx => ?_) _ (Same.new hD _))
    · obtain ⟨b,hb,e⟩ := List.any_eq_true.mp c
      obtain ⟨x,hx,rfl⟩ := List.mem_map.mp hb
      refine ⟨x,hx,?_⟩
      have : (1000000 : Int) ≤ (if x < 0 then -x else x) := of_decide_eq_true e
      split at this <;> omega
    · by_cases z : x.natAbs < 1000000
      · exact z
      · refine absurd (List.any_eq_true.mpr ⟨true,List.mem_map.mpr ⟨x,hx,decide_eq_true ?_⟩,rfl⟩) c
        split <;> omega
theorem ok_whole_divisors (B : Bt mg) (F : Fn K mg "whole_divisors" s_whole_divisors ["number"]) (M : Ms K mg base A_NoBy A_NoName A_NoNumber A_NoRow A_NoText A_RuleError A_TooBig A_TooFar A_TooLong) : Cal P w K mg base "whole_divisors" 1 ["number"] spDivs46 := by
  refine F.cal sc_whole_divisors (fun vs H Q E h => ?_) (fun f cdv A outer s H vs Q E hr h => ?_)
  · obtain ⟨n,rfl,_⟩ := h; rfl
  · obtain ⟨n,rfl,hn,q⟩ := h
    refine ⟨_,(pss_cons (ps_set (i := 1) sc_whole_divisors.nd rfl (Or.inl rfl) (pe_lst pa_nil))
      (pss_cons (ps_set (i := 2) sc_whole_divisors.nd rfl (Or.inl rfl) (pe_lst pa_nil))
      (pss_cons (ps_set (i := 3) sc_whole_divisors.nd rfl (Or.inl rfl) pe_int)
      (pss_cons (ps_while PassesOwn.never (pt_cmpR op_le (pe_op v_mul (pv 3) (pv 3)) (pv 0) (nomark _))
      (pss_cons (ps_if (pt_cmpR (xeq K hr) (pe_op op_mod (pv 0) (pv 3)) pe_int (nomark _))
      (pss_cons (ps_expr (xappend K (pv 1) (pv 3)))
      (pss_one (ps_if (pt_cmpR op_lt (pe_op v_mul (pv 3) (pv 3)) (pv 0) (nomark _))
      (pss_one (ps_expr (xappend K (pv 2) (pe_op op_fdiv (pv 0) (pv 3)))))
      pss_nil)))
      pss_nil)
      (pss_one (ps_set (i := 3) sc_whole_divisors.nd rfl (Or.inl rfl) (pe_op (xadd K) (pv 3) pe_int)))))
      (pss_one (ps_ret (pe_op (xadd K) (pv 1) (pe_listRev rfl rfl B.b_list rfl B.b_reversed (pa_n (pv 2) pa_nil))))))))),?_⟩
    refine ⟨Nat.zero_le _,fun ls hls => ?_⟩
    have g1 := Same.new hls (.lst [])
    refine ⟨Nat.zero_le _,fun lg hlg => ?_⟩
    have hne : ls ≠ lg := fun z => by rw [z,upd_same] at hlg; cases hlg
    have g2 := Same.new hlg (.lst [])
    have h1 : (upd (upd H ls (.lst [])) lg (.lst [])) ls = some (.lst (([] : List Int).map V.int)) := g2 _ _ upd_same
    have h2 : (upd (upd H ls (.lst [])) lg (.lst [])) lg = some (.lst (([] : List Int).map V.int)) := upd_same
    have hlg0 : H lg = none := g1.free hlg
    have g12 := g1.trans g2
    generalize upd (upd H ls (.lst [])) lg (.lst []) = H2 at h1 h2 g12
    refine ⟨fun m σ' H' => ∃ (t : Nat) (s g : List Int),m = n + 2 - t ∧ 1 ≤ t ∧ t ≤ n + 1 ∧ σ' = [some (.int n),some (.ref ls),some (.ref lg),some (.int (t : Int))] ∧ Same H H' ∧ H' ls = some (.lst (s.map V.int)) ∧ H' lg = some (.lst (g.map V.int)) ∧ s.length + g.length ≤ 2 * t ∧ s.length ≤ t ∧ g.length ≤ t ∧ (t - 1) * (t - 1) ≤ n ∧ Pm.wdF n (n + 2 - t) t s g = Pm.divs n,
      ⟨_,1,[],[],rfl,Nat.le_refl _,by omega,rfl,g12,h1,h2,by decide,by decide,by decide,by omega,rfl⟩,?_⟩
    rintro m σ' H' ⟨t,s1,g,rfl,ht1,htn,rfl,gg,hs,hg,lsg,lss,lgg,hsq,hw⟩
    have ht1001 : t ≤ 1001 := by
      by_cases c : t ≤ 1001
      · exact c
      · have : 1001 * 1001 ≤ (t - 1) * (t - 1) := Nat.mul_le_mul (by omega) (by omega)
        omega
    refine ⟨_,rfl,_,rfl,mulR (by omega) (by omega),_,rfl,_,_,rfl,rfl,_,rfl,?_⟩
    obtain ⟨f,hf⟩ : ∃ f,n + 2 - t = f + 1 := ⟨n + 1 - t,by omega⟩
    have hf2 : n + 2 - (t + 1) = f := by omega
    rw [hf] at hw
    unfold Pm.wdF at hw
    have htt : ((t : Int) * (t : Int)) = ((t * t : Nat) : Int) := (Int.natCast_mul ..).symm
    have hts : t ≤ t * t := Nat.le_mul_of_pos_left t ht1
    rw [htt]
    refine ite2 (fun c => ?_) (fun c => ?_)
    · have c' : t * t ≤ n := by have := dec_true c; omega
      rw [if_pos c'] at hw
      have tn : t ≤ n := by omega
      refine ⟨_,fun _ _ z => z,?_⟩
      refine ⟨_,rfl,_,rfl,_,_,rfl,rfl,(by omega : (0 : Int) < (t : Int)),_,rfl,?_⟩
      have em : ((n : Int) % (t : Int)) = ((n % t : Nat) : Int) := (Int.natCast_emod ..).symm
      rw [em]
      have sq' : (t + 1 - 1) * (t + 1 - 1) ≤ n := by rw [Nat.add_sub_cancel]; exact c'
      refine ite2 (fun c2 => ?_) (fun c2 => ?_)
      · have c2' : n % t = 0 := by have := dec_true c2; omega
        rw [if_pos c2'] at hw
        refine ⟨_,rfl,.inl ⟨rfl,_,SqL.of hs⟩,_,rfl,ls,_,_,rfl,rfl,hs,(by rw [List.length_map]; exact Nat.lt_of_le_of_lt lss (Nat.lt_of_le_of_lt ht1001 (by decide))),?_⟩
        dsimp only
        rw [← map_snoc]
        have ga := gg.upd hls (.lst ((s1 ++ [(t : Int)]).map V.int))
        have hs2 : (upd H' ls (.lst ((s1 ++ [(t : Int)]).map V.int))) ls = some (.lst ((s1 ++ [(t : Int)]).map V.int)) := upd_same
        have hg2 : (upd H' ls (.lst ((s1 ++ [(t : Int)]).map V.int))) lg = some (.lst (g.map V.int)) := by rw [upd_ne hne.symm]; exact hg
        generalize upd H' ls (.lst ((s1 ++ [(t : Int)]).map V.int)) = H3 at ga hs2 hg2
        refine ⟨_,rfl,_,rfl,mulR (by omega) (by omega),_,rfl,_,_,rfl,rfl,_,rfl,?_⟩
        rw [htt]
        refine ite2 (fun c3 => ?_) (fun c3 => ?_)
        · have c3' : t * t < n := by have := dec_true c3; omega
          rw [if_pos c3'] at hw
          refine ⟨_,rfl,.inl ⟨rfl,_,SqL.of hg2⟩,_,rfl,_,rfl,_,_,rfl,rfl,⟨(by omega : (0 : Int) < (t : Int)),(by omega : (t : Int) < 1073741824)⟩,lg,_,_,rfl,rfl,hg2,(by rw [List.length_map]; exact Nat.lt_of_le_of_lt lgg (Nat.lt_of_le_of_lt ht1001 (by decide))),?_⟩
          dsimp only
          have ed : ((n : Int) / (t : Int)) = ((n / t : Nat) : Int) := (Int.natCast_ediv ..).symm
          rw [ed,← map_snoc]
          refine ⟨_,rfl,?_⟩
          refine ⟨f,by omega,t + 1,s1 ++ [(t : Int)],g ++ [((n / t : Nat) : Int)],by omega,by omega,by omega,rfl,ga.upd hlg0 _,(by rw [upd_ne hne]; exact hs2),upd_same,?_,?_,?_,sq',(by rw [hf2]; exact hw)⟩
          · rw [List.length_append,List.length_append]; show s1.length + 1 + (g.length + 1) ≤ _; omega
          · rw [List.length_append]; show s1.length + 1 ≤ _; omega
          · rw [List.length_append]; show g.length + 1 ≤ _; omega
        · have c3' : ¬ t * t < n := by have := dec_false c3; omega
          rw [if_neg c3'] at hw
          refine ⟨_,rfl,?_⟩
          refine ⟨f,by omega,t + 1,s1 ++ [(t : Int)],g,by omega,by omega,by omega,rfl,ga,hs2,hg2,?_,?_,by omega,sq',(by rw [hf2]; exact hw)⟩
          · rw [List.length_append]; show s1.length + 1 + g.length ≤ _; omega
          · rw [List.length_append]; show s1.length + 1 ≤ _; omega
      · have c2' : ¬ n % t = 0 := by have := dec_false c2; omega
        rw [if_neg c2'] at hw
        refine ⟨_,rfl,?_⟩
        exact ⟨f,by omega,t + 1,s1,g,by omega,by omega,by omega,rfl,gg,hs,hg,by omega,by omega,by omega,sq',(by rw [hf2]; exact hw)⟩
    · have c' : ¬ t * t ≤ n := by have := dec_false c; omega
      rw [if_neg c'] at hw
      refine ⟨_,rfl,_,rfl,lg,_,rfl,hg,fun l1 hl1 => ?_⟩
      have g3 := Same.new hl1 (.lst (g.map V.int).reverse)
      have hs3 := g3 _ _ hs
      have h3 : (upd H' l1 (.lst (g.map V.int).reverse)) l1 = some (.lst (g.reverse.map V.int)) := by rw [upd_same,List.map_reverse]
      generalize upd H' l1 (.lst (g.map V.int).reverse) = H3 at g3 hs3 h3
      refine .inl ⟨_,_,hs3,h3,?_,fun l2 hl2 => ?_⟩
      · rw [List.length_map,List.length_map,List.length_reverse]; exact Nat.le_trans (show s1.length + g.length ≤ 5000 by omega) (by decide)
      refine q l2 _ (gg.trans (g3.trans (Same.new hl2 _))) ?_ ?_
      · rw [upd_same,← List.map_append,hw]
      · rw [← hw,List.length_append,List.length_reverse]; omega
theorem ok_perhaps_roots (B : Bt mg) (F : Fn K mg "perhaps_roots" s_perhaps_roots ["poly"]) (M : Ms K mg base A_NoBy A_NoName A_NoNumber A_NoRow A_NoText A_RuleError A_TooBig A_TooFar A_TooLong) (C_whole_divisors : Cal P w K mg base "whole_divisors" 1 ["number"] spDivs46) : Cal P w K mg base "perhaps_roots" 2 ["poly"] spCand46 := by
  refine F.cal sc_perhaps_roots (fun vs H Q E h => ?_) (fun f cdv A outer s H vs Q E hr h => ?_)
  · obtain ⟨a,P,rfl,_⟩ := h; rfl
  · obtain ⟨a,P',rfl,hA,zP,hx,hs,q⟩ := h
    refine ⟨_,(pss_cons (ps_set (i := 1) sc_perhaps_roots.nd rfl (Or.inl rfl) (pe_ix (xix K) (pe_comp (sc := cs_perhaps_roots1) (N := ["number"]) (ix := [none]) (comp_mk (by kernel_rfl) (by kernel_rfl) (by kernel_rfl) (by kernel_rfl) (by kernel_rfl) (by kernel_rfl) (by kernel_rfl) (by kernel_rfl)) rfl (xseq K (pv 0)) (fun cl C s₀ H₀ ex => ⟨(pg_name (i := 0) (show (["number"] : List Str).Nodup by decide +kernel) rfl (Or.inl rfl)),(pif_one (pt_cmpR (xne K hr) (pv 0) pe_int (nomark _))),(pv 0)⟩)) pe_int (fun _ _ => rfl)))
      (pss_cons (ps_set (i := 2) sc_perhaps_roots.nd rfl (Or.inl rfl) (pe_callC C_whole_divisors hr rfl (pa_cons (pe_callB call_abs rfl B.b_abs boot_abs (pa_n (pv 1) pa_nil)) pa_nil)))
      (pss_cons (ps_setC (i := 3) (hN := sc_perhaps_roots.nd) (hi' := rfl) (hx := (Or.inl rfl)) (sc := cs_perhaps_roots2) (N := ["divisor"]) (ix := [none]) (comp_mk (by kernel_rfl) (by kernel_rfl) (by kernel_rfl) (by kernel_rfl) (by kernel_rfl) (by kernel_rfl) (by kernel_rfl) (by kernel_rfl)) rfl (pi_rev K rfl B.b_reversed (pa_n (pv 2) pa_nil)) (fun cl C s₀ H₀ ex => ⟨(pg_name (i := 0) (show (["divisor"] : List Str).Nodup by decide +kernel) rfl (Or.inl rfl)),pif_nil,(pe_op op_sub pe_int (pv 0))⟩))
      (pss_one (ps_ret (pe_op (xadd K) (pe_op (xadd K) (pv 3) (pe_lst (pa_k pe_int pa_nil))) (pv 2))))))),?_⟩
    refine ⟨_,rfl,a,rfl,.inr ⟨⟨_,SqT.of hA⟩,?_⟩⟩
    refine comp_pure (its_tup (SqT.of hA)) (by rw [List.length_map]; exact Nat.le_of_lt (small1000 (by omega))) rfl (fun x => match x with | .int k => decide (k ≠ 0) | _ => false) (fun x => x) ?_ ?_ ?_
    · intro H2 x g2 hx k hk
      obtain ⟨y,hy,rfl⟩ := List.mem_map.mp hx
      refine ⟨_,rfl,_,rfl,?_⟩
      have e : (not (decide (y = 0))) = decide (y ≠ 0) := by by_cases z : y = 0 <;> simp [z]
      rw [e]; exact hk
    · intro H2 x g2 hx _ k hk
      exact ⟨_,rfl,hk⟩
    intro D hD
    have el : (((P'.map V.int).filter fun x => match x with | .int k => decide (k ≠ 0) | _ => false).map fun x => x) = (P'.filter fun x => decide (x ≠ 0)).map V.int := by
      rw [List.map_id',List.filter_map]; rfl
    rw [el]
    have hlow : Pm.lowN P' = (P'.filter fun x => decide (x ≠ 0)).headD 0 := rfl
    obtain ⟨y0,ys,hf⟩ : ∃ y0 ys,(P'.filter fun x => decide (x ≠ 0)) = y0 :: ys := by
      cases e : P'.filter fun x => decide (x ≠ 0) with
      | nil =>
        obtain ⟨x,hx1,hx2⟩ := hx
        exact absurd (decide_eq_true hx2) (List.filter_eq_nil_iff.mp e x hx1)
      | cons y ys => exact ⟨y,ys,rfl⟩
    have hy0 : y0 ∈ P' := (List.mem_filter.mp (hf ▸ List.mem_cons_self .. : y0 ∈ P'.filter fun x => decide (x ≠ 0))).1
    rw [hf,List.headD_cons] at hlow
    rw [hf]
    have g1 := Same.new hD (.lst ((y0 :: ys).map V.int))
    refine ⟨_,.int y0,.inl (SqL.of upd_same),atI_ints (ns := y0 :: ys) (by decide) (by show (0 : Int) < ((ys.length + 1 : Nat) : Int); omega),?_⟩
    generalize upd H D (.lst ((y0 :: ys).map V.int)) = H1 at g1
    have hsm := hs y0 hy0
    have ea : (if y0 < 0 then -y0 else y0) = ((y0.natAbs : Nat) : Int) := by split <;> omega
    refine ⟨_,rfl,y0,rfl,?_⟩
    refine ⟨y0.natAbs,(by rw [ea]; rfl),by omega,fun la H2 g2 h2 ld => ?_⟩
    have ln2 : ((Pm.divs y0.natAbs).map V.int).reverse.length = (Pm.divs y0.natAbs).length := by rw [List.length_reverse,List.length_map]
    refine ⟨_,rfl,la,(Pm.divs y0.natAbs).map V.int,rfl,SqL.of h2,?_⟩
    refine comp_pure (its_rev (SqL.of h2)) (by rw [ln2]; exact Nat.le_trans ld (by decide)) rfl (fun _ => true) (fun x => match x with | .int k => .int (0 - k) | _ => .non) ?_ ?_ ?_
    · intro H3 x g3 hx k hk; exact hk
    · intro H3 x g3 hx _ k hk
      obtain ⟨y,hy,rfl⟩ := List.mem_map.mp (List.mem_reverse.mp hx)
      exact ⟨_,rfl,_,_,rfl,rfl,hk⟩
    intro D2 hD2
    have el2 : ((((Pm.divs y0.natAbs).map V.int).reverse.filter fun _ => true).map fun x => match x with | .int k => V.int (0 - k) | _ => V.non) = ((Pm.divs y0.natAbs).reverse.map fun x => 0 - x).map V.int := by
      rw [List.filter_eq_self.mpr (by simp),← List.map_reverse,List.map_map,List.map_map]; rfl
    rw [el2]
    have g3 := Same.new hD2 (.lst (((Pm.divs y0.natAbs).reverse.map fun x => 0 - x).map V.int))
    have h3 : (upd H2 D2 (.lst (((Pm.divs y0.natAbs).reverse.map fun x => 0 - x).map V.int))) D2 = some (.lst (((Pm.divs y0.natAbs).reverse.map fun x => 0 - x).map V.int)) := upd_same
    have h23 := g3 _ _ h2
    generalize upd H2 D2 (.lst (((Pm.divs y0.natAbs).reverse.map fun x => 0 - x).map V.int)) = H3 at g3 h3 h23
    refine ⟨_,rfl,(by show 1 ≤ sizeLine; decide),fun l0 hl0 => ?_⟩
    have g4 := Same.new hl0 (.lst [.int 0])
    have h4 : (upd H3 l0 (.lst [.int 0])) l0 = some (.lst [.int 0]) := upd_same
    have h34 := g4 _ _ h3
    have h24 := g4 _ _ h23
    generalize upd H3 l0 (.lst [.int 0]) = H4 at g4 h4 h34 h24
    have lb : (((Pm.divs y0.natAbs).reverse.map fun x => 0 - x).map V.int).length = (Pm.divs y0.natAbs).length := by rw [List.length_map,List.length_map,List.length_reverse]
    refine .inl ⟨_,_,h34,h4,?_,fun l1 hl1 => ?_⟩
    · rw [lb]; exact Nat.le_trans (show _ + 1 ≤ 5000 by omega) (by decide)
    have g5 := Same.new hl1 (.lst (((Pm.divs y0.natAbs).reverse.map fun x => 0 - x).map V.int ++ [.int 0]))
    have h5 : (upd H4 l1 (.lst (((Pm.divs y0.natAbs).reverse.map fun x => 0 - x).map V.int ++ [.int 0]))) l1 = some (.lst (((Pm.divs y0.natAbs).reverse.map fun x => 0 - x).map V.int ++ [.int 0])) := upd_same
    have h25 := g5 _ _ h24
    generalize upd H4 l1 (.lst (((Pm.divs y0.natAbs).reverse.map fun x => 0 - x).map V.int ++ [.int 0])) = H5 at g5 h5 h25
    refine ⟨_,rfl,.inl ⟨_,_,h5,h25,?_,fun l2 hl2 => ?_⟩⟩
    · rw [List.length_append,lb,List.length_map]; exact Nat.le_trans (show (Pm.divs y0.natAbs).length + 1 + (Pm.divs y0.natAbs).length ≤ 5000 by omega) (by decide)
    have ec : Pm.cands P' = ((Pm.divs y0.natAbs).reverse.map fun x => 0 - x) ++ [0] ++ Pm.divs y0.natAbs := by unfold Pm.cands; rw [hlow]
    refine q l2 _ (g1.trans (g2.trans (g3.trans (g4.trans (g5.trans (Same.new hl2 _)))))) ?_ ?_
    · rw [upd_same,ec,List.map_append,List.map_append]; rfl
    · rw [ec,List.length_append,List.length_append,List.length_map,List.length_reverse]; show _ + 1 + _ ≤ _; omega
theorem ok_divided_out (B : Bt mg) (F : Fn K mg "divided_out" s_divided_out ["poly","root"]) (M : Ms K mg base A_NoBy A_NoName A_NoNumber A_NoRow A_NoText A_RuleError A_TooBig A_TooFar A_TooLong) (C_divided : Cal P w K mg base "divided" 2 ["by","one","other"] spDividedQ) : Cal P w K mg base "divided_out" 3 ["poly","root"] spOut46 := by
  refine F.cal sc_divided_out (fun vs H Q E h => ?_) (fun f cdv A outer s H vs Q E hr h => ?_)
  · obtain ⟨a,r,P,u,rfl,_⟩ := h; rfl
  · obtain ⟨a,r,P',u,rfl,hA,zP,hP,hrb,bP,hu,q⟩ := h
    refine ⟨_,(pss_cons (ps_set (i := 2) sc_divided_out.nd rfl (Or.inl rfl) pe_int)
      (pss_cons (ps_set (i := 3) sc_divided_out.nd rfl (Or.inl rfl) (pv 0))
      (pss_cons (ps_set (i := 4) sc_divided_out.nd rfl (Or.inl rfl) (pe_callC C_divided hr rfl (pa_k pe_int (pa_n (pv 3) (pa_t (pe_tup (pa_b (pe_op op_sub pe_int (pv 1)) (pa_k pe_int pa_nil))) pa_nil)))))
      (pss_cons (ps_while PassesOwn.never (pt_cmpR (xeq K hr) (pe_ix (xix K) (pv 4) pe_int (fun _ _ => rfl)) (pe_tup pa_nil) (nomark _))
      (pss_cons (ps_set (i := 2) sc_divided_out.nd rfl (Or.inl rfl) (pe_op (xadd K) (pv 2) pe_int))
      (pss_cons (ps_set (i := 3) sc_divided_out.nd rfl (Or.inl rfl) (pe_ix (xix K) (pv 4) pe_int (fun _ _ => rfl)))
      (pss_one (ps_set (i := 4) sc_divided_out.nd rfl (Or.inl rfl) (pe_callC C_divided hr rfl (pa_k pe_int (pa_n (pv 3) (pa_t (pe_tup (pa_b (pe_op op_sub pe_int (pv 1)) (pa_k pe_int pa_nil))) pa_nil)))))))))
      (pss_one (ps_ret (pe_tup (pa_n (pv 2) (pa_n (pv 3) pa_nil))))))))),?_⟩
    have hM : Pm.Mon [0 - r,1] := ⟨by show 0 < 2; decide,rfl⟩
    have bM : ∀ x ∈ [0 - r,1],Rm.Bd 124000 x := fun x hx => by
      rcases List.mem_cons.mp hx with rfl | hx
      · have : Rm.Bd 40 (0 - r) := by unfold Rm.Bd at hrb ⊢; omega
        exact this.mono (by decide)
      · rw [List.mem_singleton.mp hx]; exact (Rm.Bd.of (n := 10) (by omega) (by omega)).mono (by decide)
    have one : ∀ {H1 : Hp} {tl : Addr} {L : List Int} {Q1 : VK} {E1 : XK} {tm : Addr},H1 tl = some (.tup (L.map V.int)) → H1 tm = some (.tup ([0 - r,1].map V.int)) → L.length ≤ 40 → (∀ x ∈ L,Rm.Bd 200000 x) → (∀ t x y H2,Same H1 H2 → H2 t = some (.tup [.ref x,.ref y]) → H2 x = some (.tup ((Pm.synQ L r).map V.int)) → H2 y = some (.tup ((Pm.trim [Pm.synR L r]).map V.int)) → Q1 (.ref t) H2) → spDividedQ [.int 0,.ref tl,.ref tm] H1 Q1 E1 := fun {H1 tl L Q1 E1 tm} h1 h2 zL bL hq => by
      refine ⟨0,tl,tm,L,[0 - r,1],rfl,by decide,by decide,h1,h2,zL,(by show 2 ≤ 40; decide),hM,fun k => Rm.tk_zero _,(fun x hx => (bL x hx).mono (by decide)),bM,fun t x y o l H2 g2 hT hX hY D _ _ _ => ?_⟩
      obtain ⟨rfl,rfl⟩ := D.uniq hM (Pm.syn_div L r)
      exact hq t x y H2 g2 hT hX hY
    refine ⟨_,rfl,?_⟩
    refine ⟨_,rfl,_,rfl,_,_,rfl,rfl,(by show 2 ≤ sizeLine; decide),fun tm htm => ?_⟩
    have g0 := Same.new htm (.tup ([0 - r,1].map V.int))
    refine one (g0 _ _ hA) upd_same zP (fun x hx => (bP x hx).mono (by omega)) fun tt x y H1 g1 hT hX hY => ?_
    refine ⟨fun m σ' H' => ∃ (i : Nat) (L : List Int) (tl tt x y : Addr),m = L.length ∧ σ' = [some (.ref a),some (.int r),some (.int (i : Int)),some (.ref tl),some (.ref tt)] ∧ Same H H' ∧ H' tl = some (.tup (L.map V.int)) ∧ H' tt = some (.tup [.ref x,.ref y]) ∧ H' x = some (.tup ((Pm.synQ L r).map V.int)) ∧ H' y = some (.tup ((Pm.trim [Pm.synR L r]).map V.int)) ∧ Pm.Mon L ∧ L.length + i = P'.length ∧ (Pm.outF P'.length P' r).1 = (Pm.outF L.length L r).1 + i ∧ (Pm.outF P'.length P' r).2 = (Pm.outF L.length L r).2 ∧ ∀ z ∈ L,Rm.Bd (u + i * 1640) z,
      ⟨_,0,P',a,tt,x,y,rfl,rfl,g0.trans g1,g1 _ _ (g0 _ _ hA),hT,hX,hY,hP,rfl,rfl,rfl,fun z hz => (bP z hz).mono (by omega)⟩,?_⟩
    rintro m σ' H' ⟨i,L,tl,tt,x,y,rfl,rfl,gg,hL,hT,hX,hY,hMo,hlen,o1,o2,bL⟩
    have hi : u + i * 1640 ≤ 200000 := by
      have : i * 1640 ≤ P'.length * 1640 := Nat.mul_le_mul_right _ (by omega)
      omega
    refine ⟨_,rfl,_,_,.inr (SqT.of hT),rfl,?_⟩
    refine ⟨Nat.zero_le _,fun t0 ht0 => ?_⟩
    have g2 := Same.new ht0 (.tup [])
    refine eqTT (ns := Pm.trim [Pm.synR L r]) (ms := []) (SqT.of (g2 _ _ hY)) (SqT.of upd_same) ⟨_,rfl,?_⟩
    have hX2 := g2 _ _ hX
    have hT2 := g2 _ _ hT
    have hL2 := g2 _ _ hL
    have gg2 := gg.trans g2
    generalize upd H' t0 (.tup []) = H2 at hX2 hT2 hL2 gg2
    have et : Pm.trim [Pm.synR L r] = [] ↔ Pm.synR L r = 0 := by
      rw [Pm.trim,Pm.trim]
      by_cases z : Pm.synR L r = 0
      · rw [if_pos ⟨z,rfl⟩]; exact ⟨fun _ => z,fun _ => rfl⟩
      · rw [if_neg (fun w => z w.1)]; exact ⟨fun w => (by cases w),fun w => absurd w z⟩
    refine ite2 (fun c => ?_) (fun c => ?_)
    · have hz := et.mp (dec_true c)
      have h2 : 2 ≤ L.length := by
        by_cases z : 2 ≤ L.length
        · exact z
        · exact absurd hz (Pm.synR_one hMo (by omega) r)
      obtain ⟨m1,l1⟩ := Pm.syn_mon (r := r) hMo h2
      have bQ : ∀ z ∈ Pm.synQ L r,Rm.Bd (u + (i + 1) * 1640) z := fun z hz => (Pm.synQ_bd hrb bL z hz).mono (by
        have : L.length * (40 + 1) ≤ 40 * 41 := Nat.mul_le_mul_right _ (by omega)
        rw [Nat.succ_mul]; omega)
      have hi1 : u + (i + 1) * 1640 ≤ 200000 := by
        have : (i + 1) * 1640 ≤ P'.length * 1640 := Nat.mul_le_mul_right _ (by omega)
        omega
      have eo : Pm.outF L.length L r = ((Pm.outF (Pm.synQ L r).length (Pm.synQ L r) r).1 + 1,(Pm.outF (Pm.synQ L r).length (Pm.synQ L r) r).2) := by
        obtain ⟨k,hk⟩ : ∃ k,L.length = k + 1 := ⟨L.length - 1,by omega⟩
        rw [l1,hk,Nat.add_sub_cancel,Pm.outF,if_pos hz]
      refine ⟨_,fun _ _ z => z,?_⟩
      refine ⟨_,rfl,?_⟩
      refine ⟨_,rfl,_,_,.inr (SqT.of hT2),rfl,?_⟩
      refine ⟨_,rfl,_,rfl,_,_,rfl,rfl,(by show 2 ≤ sizeLine; decide),fun tm htm => ?_⟩
      have g3 := Same.new htm (.tup ([0 - r,1].map V.int))
      refine one (g3 _ _ hX2) upd_same (by omega) (fun z hz => (bQ z hz).mono hi1) fun tt' x' y' H3 g4 hT' hX' hY' => ?_
      refine ⟨(Pm.synQ L r).length,by omega,i + 1,Pm.synQ L r,x,tt',x',y',rfl,?_,gg2.trans (g3.trans g4),g4 _ _ (g3 _ _ hX2),hT',hX',hY',m1,by omega,?_,?_,bQ⟩
      · rw [Int.natCast_add]; rfl
      · rw [o1,eo]; show _ + 1 + i = _ + (i + 1); omega
      · rw [o2,eo]
    · have hz : ¬ Pm.synR L r = 0 := fun w => (dec_false c) (et.mpr w)
      have eo : Pm.outF L.length L r = (0,L) := by
        cases hl : L.length with
        | zero => rfl
        | succ k => rw [Pm.outF,if_neg hz]
      rw [eo] at o1 o2
      refine ⟨_,rfl,_,rfl,(by show 2 ≤ sizeLine; decide),fun tz htz => ?_⟩
      have gz := Same.new htz (.tup [.int (i : Int),.ref tl])
      refine q tz tl _ (gg2.trans gz) ?_ ?_
      · rw [upd_same,o1]; show some (HO.tup [V.int (i : Int),V.ref tl]) = some (HO.tup [V.int ((0 + i : Nat) : Int),V.ref tl]); rw [Nat.zero_add]
      · rw [o2]; exact gz _ _ hL2
theorem ok_whole_roots (B : Bt mg) (F : Fn K mg "whole_roots" s_whole_roots ["poly"]) (M : Ms K mg base A_NoBy A_NoName A_NoNumber A_NoRow A_NoText A_RuleError A_TooBig A_TooFar A_TooLong) (C_refuse_big : Cal P w K mg base "refuse_big" 1 ["poly"] (spBig46 A_TooBig)) (C_perhaps_roots : Cal P w K mg base "perhaps_roots" 2 ["poly"] spCand46) (C_divided_out : Cal P w K mg base "divided_out" 3 ["poly","root"] spOut46) : Cal P w K mg base "whole_roots" 4 ["poly"] (spRoots46 A_TooBig) := by
  refine F.calF sc_whole_roots (fun vs H Q E h => ?_) (fun f cdv A outer s H vs Q E hr h => ?_)
  · obtain ⟨a,P,rfl,_⟩ := h; rfl
  · obtain ⟨a,P',rfl,hA,zP,hP,q1,q2⟩ := h
    refine ⟨_,(pss_cons (ps_expr (pe_callCF C_refuse_big hr rfl (pa_n (pv 0) pa_nil)))
      (pss_cons (ps_set (i := 1) sc_whole_roots.nd rfl (Or.inl rfl) (pe_lst pa_nil))
      (pss_cons (ps_set (i := 2) sc_whole_roots.nd rfl (Or.inl rfl) (pv 0))
      (pss_cons (ps_for PassesOwn.leaving rfl (xseq K (pe_callC C_perhaps_roots hr rfl (pa_n (pv 0) pa_nil))) (pg_name (i := 3) sc_whole_roots.nd rfl (Or.inl rfl))
      (pss_cons (ps_set (i := 4) sc_whole_roots.nd rfl (Or.inl rfl) (pe_callC C_divided_out hr rfl (pa_n (pv 2) (pa_n (pv 3) pa_nil))))
      (pss_one (ps_if (pt_cmpR op_gt (pe_ix (xix K) (pv 4) pe_int (fun _ _ => rfl)) pe_int (nomark _))
      (pss_cons (ps_expr (xappend K (pv 1) (pe_tup (pa_n (pv 3) (pa_cons (pe_ix (xix K) (pv 4) pe_int (fun _ _ => rfl)) pa_nil)))))
      (pss_one (ps_set (i := 2) sc_whole_roots.nd rfl (Or.inl rfl) (pe_ix (xix K) (pv 4) pe_int (fun _ _ => rfl)))))
      pss_nil))))
      (pss_one (ps_ret (pe_tup (pa_n (pv 1) (pa_n (pv 2) pa_nil))))))))),?_⟩
    have hx1 : ∃ x ∈ P',x ≠ 0 := ⟨Pm.co P' (P'.length - 1),Pm.co_mem (by have := hP.pos; omega),by rw [hP.one]; decide⟩
    refine ⟨_,rfl,a,P',rfl,hA,by omega,fun hs H1 g1 => ?_,fun hb H1 g1 => q2 hb H1 g1⟩
    refine ⟨Nat.zero_le _,fun lr hlr => ?_⟩
    have g2 := Same.new hlr (.lst [])
    have h2 : (upd H1 lr (.lst [])) lr = some (.lst []) := upd_same
    have g12 := g1.trans g2
    have hlr0 : H lr = none := g1.free hlr
    generalize upd H1 lr (.lst []) = H2 at g2 h2 g12
    refine ⟨_,rfl,?_⟩
    refine ⟨_,rfl,a,P',rfl,g12 _ _ hA,by omega,hx1,hs,fun lc H3 g3 h3 hcl => ?_⟩
    refine ⟨lc,rfl,.inl ⟨⟨_,SqL.of h3⟩,?_⟩⟩
    have h23 := g3 _ _ h2
    have g13 := g12.trans g3
    have b0 : ∀ z ∈ P',Rm.Bd 20 z := fun z hz => by
      have := hs z hz
      exact Rm.Bd.of (by omega) (by omega)
    have hcm : ∀ z ∈ Pm.cands P',Rm.Bd 40 z := cand_bd hs
    refine for_its2 (xs := (Pm.cands P').map V.int) (fun i σ' H' => ∃ (o3 o4 : Option V) (tl : Addr) (L : List Int) (rs : List (List Int)) (xs : List V),σ' = [some (.ref a),some (.ref lr),some (.ref tl),o3,o4] ∧ Same H H' ∧ H' lc = some (.lst ((Pm.cands P').map V.int)) ∧ H' lr = some (.lst xs) ∧ Tps H' xs rs ∧ H' tl = some (.tup (L.map V.int)) ∧ Pm.Mon L ∧ L.length ≤ P'.length ∧ (∀ z ∈ L,Rm.Bd (20 + (P'.length - L.length) * 1640) z) ∧ xs.length ≤ i ∧ Pm.wrF ((Pm.cands P').drop i) rs L = Pm.wr P')
      ⟨_,_,a,P',[],[],rfl,g13,h3,h23,.nil,g13 _ _ hA,hP,Nat.le_refl _,fun z hz => (b0 z hz).mono (by omega),Nat.le_refl _,rfl⟩ (fun i σ' H' ⟨_,_,_,_,_,_,_,_,z,_⟩ => SqL.of z) ?_ ?_
    · rintro i x σ' H4 hx ⟨o3,o4,tl,L,rs,xs,rfl,g4,hc4,hr4,hT4,hl4,hM4,hle,hB4,hxl,hw⟩
      obtain ⟨rfl,hi⟩ := map_int_get hx
      obtain ⟨c,hcd⟩ : ∃ c,c = Pm.co (Pm.cands P') i := ⟨_,rfl⟩
      rw [← hcd]
      have hcB : Rm.Bd 40 c := hcm c (hcd ▸ Pm.co_mem hi)
      have ed : (Pm.cands P').drop i = c :: (Pm.cands P').drop (i + 1) := by
        rw [hcd,List.drop_eq_getElem_cons hi,← Pm.co_lt hi]
      rw [ed,Pm.wrF] at hw
      have hu : 20 + (P'.length - L.length) * 1640 + L.length * 1640 ≤ 200000 := by
        have : (P'.length - L.length) * 1640 + L.length * 1640 ≤ 13 * 1640 := by rw [← Nat.add_mul]; exact Nat.mul_le_mul_right _ (by omega)
        omega
      have hok := Pm.out_ok hcB L.length (u := 20 + (P'.length - L.length) * 1640) hM4 (by omega) hB4
      refine ⟨_,rfl,_,rfl,tl,c,L,20 + (P'.length - L.length) * 1640,rfl,hl4,by omega,hM4,hcB,hB4,hu,fun t tl' H5 g5 ht htl => ?_⟩
      generalize ho : Pm.outF L.length L c = oo at hw hok ht htl
      obtain ⟨o1,o2⟩ := oo
      obtain ⟨ok1,ok2,ok3⟩ := hok
      replace ok2 : o2.length + o1 = L.length := ok2
      have hr5 := g5 _ _ hr4
      refine ⟨_,rfl,_,_,.inr (SqT.of ht),rfl,_,_,rfl,rfl,_,rfl,?_⟩
      have hlrne : ∀ b ts,H5 b = some (HO.tup ts) → b ≠ lr := fun b ts e z => by rw [z,hr5] at e; cases e
      refine ite2 (fun cc => ?_) (fun cc => ?_)
      · have c' : 0 < o1 := by have := dec_true cc; omega
        rw [if_pos c'] at hw
        refine ⟨_,rfl,.inl ⟨rfl,_,SqL.of hr5⟩,_,rfl,_,rfl,_,_,.inr (SqT.of ht),rfl,(by show 2 ≤ sizeLine; decide),fun tp htp => ?_⟩
        have g6 := Same.new htp (.tup [.int c,.int (o1 : Int)])
        have h6 : (upd H5 tp (.tup [.int c,.int (o1 : Int)])) tp = some (.tup [.int c,.int (o1 : Int)]) := upd_same
        have hr6 := g6 _ _ hr5
        have ht6 := g6 _ _ ht
        have htl6 := g6 _ _ htl
        have hc6 := g6 _ _ (g5 _ _ hc4)
        have hT6 := (hT4.same g5).same g6
        have g16 := g4.trans (g5.trans g6)
        generalize upd H5 tp (.tup [.int c,.int (o1 : Int)]) = H6 at g6 h6 hr6 ht6 htl6 hc6 hT6 g16
        have hlc : lc ≠ lr := fun z => by
          rw [z,h23] at h3
          have e1 : (Pm.cands P').map V.int = [] := by injection h3 with h3; injection h3 with h3; exact h3.symm
          have e2 := congrArg List.length e1
          rw [List.length_map] at e2
          simp at e2
          rw [e2] at hi
          exact absurd hi (by simp)
        refine ⟨lr,_,_,rfl,rfl,hr6,(Nat.lt_of_le_of_lt hxl (Nat.lt_of_lt_of_le hi (Nat.le_trans hcl (by decide)))),?_⟩
        have hT7 : Tps (upd H6 lr (.lst (xs ++ [.ref tp]))) (xs ++ [.ref tp]) (rs ++ [[c,(o1 : Int)]]) := Tps.append (hT6.set hr6) (.cons (by rw [upd_ne (fun z => by rw [z,hr6] at h6; cases h6)]; exact h6) .nil)
        refine ⟨_,rfl,_,_,.inr (SqT.of (by rw [upd_ne (fun z => by rw [z,hr6] at ht6; cases ht6)]; exact ht6)),rfl,?_⟩
        refine ⟨some (.int c),some (.ref t),tl',o2,rs ++ [[c,(o1 : Int)]],xs ++ [.ref tp],rfl,g16.upd hlr0 _,(by rw [upd_ne hlc]; exact hc6),upd_same,hT7,(by rw [upd_ne (fun z => by rw [z,hr6] at htl6; cases htl6)]; exact htl6),ok1,by omega,fun z hz => (ok3 z hz).mono ?_,by rw [List.length_append]; show xs.length + 1 ≤ _; omega,hw⟩
        have : o1 * 1640 + (P'.length - L.length) * 1640 = (P'.length - o2.length) * 1640 := by rw [← Nat.add_mul]; congr 1; omega
        omega
      · have c' : ¬ 0 < o1 := by have := dec_false cc; omega
        rw [if_neg c'] at hw
        exact ⟨some (.int c),some (.ref t),tl,L,rs,xs,rfl,g4.trans g5,g5 _ _ hc4,hr5,hT4.same g5,g5 _ _ hl4,hM4,hle,hB4,by omega,hw⟩
    · rintro σ' H4 ⟨o3,o4,tl,L,rs,xs,rfl,g4,hc4,hr4,hT4,hl4,hM4,hle,hB4,hxl,hw⟩
      rw [List.length_map,List.drop_length,Pm.wrF] at hw
      refine ⟨_,rfl,_,rfl,(by show 2 ≤ sizeLine; decide),fun tz htz => ?_⟩
      have gz := Same.new htz (.tup [.ref lr,.ref tl])
      refine q1 hs tz lr tl xs _ (g4.trans gz) upd_same (gz _ _ hr4) ?_ ?_
      · rw [← hw]; exact hT4.same gz
      · rw [← hw]; exact gz _ _ hl4
theorem ok_refuse_prime (B : Bt mg) (F : Fn K mg "refuse_prime" s_refuse_prime ["row"]) (M : Ms K mg base A_NoBy A_NoName A_NoNumber A_NoRow A_NoText A_RuleError A_TooBig A_TooFar A_TooLong) : Cal P w K mg base "refuse_prime" 1 ["row"] (spRefuseP A_NoBy) := by
  refine F.calF sc_refuse_prime (fun vs H Q E h => ?_) (fun f cdv A outer s H vs Q E hr h => ?_)
  · obtain ⟨v,r,rfl,_⟩ := h; rfl
  · obtain ⟨v,r,rfl,⟨a,p,p2,rfl,hA,hR,hS⟩,q1,q2⟩ := h
    refine ⟨_,(pss_one (ps_if (pt_cmpR (xne K hr) (pe_ix (xix K) (pv 0) pe_int (fun _ _ => rfl)) pe_int (nomark _))
      (pss_one (ps_raise M.x_NoBy rfl (pa_k pe_str pa_nil)))
      pss_nil)),?_⟩
    refine ⟨_,rfl,_,_,.inr (SqT.of hA),rfl,_,rfl,?_⟩
    refine ite2 (fun c => ⟨(by show 1 ≤ sizeLine; decide),q2 fun z => ?_⟩) (fun c => q1 ?_)
    · rw [z] at c; exact absurd c (by decide)
    · by_cases z : r.b = 0
      · exact z
      · exact absurd (by rw [decide_eq_false z]; rfl) c
theorem ok_clear (B : Bt mg) (F : Fn K mg "clear" s_clear ["by","wide","lines"]) (M : Ms K mg base A_NoBy A_NoName A_NoNumber A_NoRow A_NoText A_RuleError A_TooBig A_TooFar A_TooLong) (C_head_line : Cal P w K mg base "head_line" 1 ["lines","begin","column"] spNever) (C_bring_up : Cal P w K mg base "bring_up" 2 ["by","lines","at","top"] spNever) (C_freed : Cal P w K mg base "freed" 4 ["by","line","head","column","last"] spNever) : Cal P w K mg base "clear" 5 ["by","wide","lines"] spClear46 := by
  refine F.cal sc_clear (fun vs H Q E h => ?_) (fun f cdv A outer s H vs Q E hr h => ?_)
  · obtain ⟨l,rfl,_⟩ := h; rfl
  · obtain ⟨l,rfl,hl,q⟩ := h
    refine ⟨_,(pss_cons (ps_set (i := 3) sc_clear.nd rfl (Or.inl rfl) (pe_lst pa_nil))
      (pss_cons (ps_set (i := 4) sc_clear.nd rfl (Or.inl rfl) pe_int)
      (pss_cons (ps_for PassesOwn.never rfl (pi_range1 rfl B.b_range (pa_n (pv 1) pa_nil)) (pg_name (i := 5) sc_clear.nd rfl (Or.inl rfl))
      (pss_cons (ps_set (i := 6) sc_clear.nd rfl (Or.inl rfl) (pe_callB (xlen K) rfl B.b_len boot_len (pa_n (pv 3) pa_nil)))
      (pss_cons (ps_set (i := 7) sc_clear.nd rfl (Or.inl rfl) (pe_callC C_head_line hr rfl (pa_n (pv 2) (pa_n (pv 6) (pa_n (pv 5) pa_nil)))))
      (pss_one (ps_if (pt_cmp (pc_notN (pv 7)))
      (pss_cons (ps_expr (pe_callC C_bring_up hr rfl (pa_n (pv 0) (pa_n (pv 2) (pa_n (pv 7) (pa_n (pv 6) pa_nil))))))
      (pss_cons (ps_for PassesOwn.never rfl (pi_range1 rfl B.b_range (pa_cons (pe_callB (xlen K) rfl B.b_len boot_len (pa_n (pv 2) pa_nil)) pa_nil)) (pg_name (i := 8) sc_clear.nd rfl (Or.inl rfl))
      (pss_one (ps_bar (ps_if (pt_cmpR (xne K hr) (pv 8) (pv 6) (nomark _))
      (pss_one (ps_asg (pe_callC C_freed hr rfl (pa_n (pv 0) (pa_cons (pe_ix (xix K) (pv 2) (pv 8) (fun _ _ => rfl)) (pa_cons (pe_ix (xix K) (pv 2) (pv 6) (fun _ _ => rfl)) (pa_n (pv 5) (pa_n (pv 4) pa_nil)))))) (pg_sub (pv 2) (pv 8) set_list)))
      pss_nil))))
      (pss_cons (ps_set (i := 4) sc_clear.nd rfl (Or.inl rfl) (pe_ix (xix K) (pe_ix (xix K) (pv 2) (pv 6) (fun _ _ => rfl)) (pv 5) (fun _ _ => rfl)))
      (pss_one (ps_expr (xappend K (pv 3) (pv 5)))))))
      pss_nil)))))
      (pss_one (ps_ret (pe_tup (pa_n (pv 3) (pa_n (pv 4) pa_nil)))))))),?_⟩
    refine ⟨Nat.zero_le _,fun lh hlh => ?_⟩
    have g1 := Same.new hlh (.lst [])
    have h1 : (upd H lh (.lst [])) lh = some (.lst []) := upd_same
    generalize upd H lh (.lst []) = H1 at g1 h1
    refine ⟨_,rfl,(0 : Int),rfl,by decide,by decide,?_⟩
    refine for_range (lo := 0) (n := (0 : Int).toNat) (fun i σ' H' => σ' = [some (.int 0),some (.int 0),some (.ref l),some (.ref lh),some (.int 1),none,none,none,none] ∧ H' = H1) ⟨rfl,rfl⟩ (fun i σ' H' hi _ => absurd hi (by simp)) ?_
    rintro σ' H' ⟨rfl,rfl⟩
    refine ⟨_,rfl,_,rfl,(by show 2 ≤ sizeLine; decide),fun t ht => ?_⟩
    have gt := Same.new ht (.tup [.ref lh,.int 1])
    exact q t lh _ (g1.trans gt) upd_same (gt _ _ h1)
theorem ok_lowest (B : Bt mg) (F : Fn K mg "lowest" s_lowest ["by","bottom","tops"]) (M : Ms K mg base A_NoBy A_NoName A_NoNumber A_NoRow A_NoText A_RuleError A_TooBig A_TooFar A_TooLong) (C_over : Cal P w K mg base "over" 3 ["by","one","other"] spOverQ) (C_common_divisor : Cal P w K mg base "common_divisor" 1 ["one","other"] spNever) : Cal P w K mg base "lowest" 4 ["by","bottom","tops"] spLow46 := by
  refine F.cal sc_lowest (fun vs H Q E h => ?_) (fun f cdv A outer s H vs Q E hr h => ?_)
  · obtain ⟨l,rfl,_⟩ := h; rfl
  · obtain ⟨l,rfl,hl,q⟩ := h
    refine ⟨_,(pss_cons (ps_if (pt_cmpR (xne K hr) (pv 0) pe_int (nomark _))
      (pss_one (ps_ret (pe_tup (pa_k pe_int (pa_cons (pe_comp (sc := cs_lowest1) (N := ["top","bottom","by"]) (ix := [none,some 1,some 0]) (comp_mk (by kernel_rfl) (by kernel_rfl) (by kernel_rfl) (by kernel_rfl) (by kernel_rfl) (by kernel_rfl) (by kernel_rfl) (by kernel_rfl)) rfl (xseq K (pv 2)) (fun cl C s₀ H₀ ex => ⟨(pg_name (i := 0) (show (["top","bottom","by"] : List Str).Nodup by decide +kernel) rfl (Or.inl rfl)),pif_nil,(pe_callC C_over hr rfl (pa_n (pv 2) (pa_n (pv 0) (pa_n (pv 1) pa_nil))))⟩)) pa_nil)))))
      pss_nil)
      (pss_cons (ps_set (i := 4) sc_lowest.nd rfl (Or.inr rfl) (pe_callB call_abs rfl B.b_abs boot_abs (pa_n (pv 1) pa_nil)))
      (pss_cons (ps_for PassesOwn.never rfl (xseq K (pv 2)) (pg_name (i := 3) sc_lowest.nd rfl (Or.inl rfl))
      (pss_one (ps_set (i := 4) sc_lowest.nd rfl (Or.inr rfl) (pe_callC C_common_divisor hr rfl (pa_n (pv 4) (pa_n (pv 3) pa_nil))))))
      (pss_cons (ps_bar (ps_if (pt_cmpR op_lt (pv 1) pe_int (nomark _))
      (pss_one (ps_set (i := 4) sc_lowest.nd rfl (Or.inr rfl) (pe_op op_sub pe_int (pv 4))))
      pss_nil))
      (pss_one (ps_ret (pe_tup (pa_b (pe_op op_fdiv (pv 1) (pv 4)) (pa_cons (pe_comp (sc := cs_lowest2) (N := ["top","divisor"]) (ix := [none,some 4]) (comp_mk (by kernel_rfl) (by kernel_rfl) (by kernel_rfl) (by kernel_rfl) (by kernel_rfl) (by kernel_rfl) (by kernel_rfl) (by kernel_rfl)) rfl (xseq K (pv 2)) (fun cl C s₀ H₀ ex => ⟨(pg_name (i := 0) (show (["top","divisor"] : List Str).Nodup by decide +kernel) rfl (Or.inl rfl)),pif_nil,(pe_op op_fdiv (pv 0) (pv 1))⟩)) pa_nil))))))))),?_⟩
    refine ⟨_,rfl,_,rfl,iteF ?_⟩
    refine ⟨_,rfl,1,rfl,?_⟩
    refine ⟨_,rfl,l,rfl,.inl ⟨⟨_,SqL.of hl⟩,?_⟩⟩
    refine for_its (its_list (SqL.of hl)) (fun i σ' H' => σ' = [some (.int 0),some (.int 1),some (.ref l),none,some (.int 1)] ∧ H' = H) ⟨rfl,rfl⟩ (fun i σ' H' z => z.2 ▸ Same.refl _) (fun i x σ' H' hx _ => by cases hx) ?_
    rintro σ' H' ⟨rfl,rfl⟩
    refine BarS.by (fun σ' H1 => σ' = [some (.int 0),some (.int 1),some (.ref l),none,some (.int 1)] ∧ H1 = H') (fun NN hNN => ?_) ?_
    · exact ⟨_,rfl,_,_,rfl,rfl,_,rfl,iteF (hNN _ _ ⟨rfl,rfl⟩)⟩
    rintro _ _ ⟨rfl,rfl⟩
    refine ⟨_,rfl,_,rfl,_,_,rfl,rfl,⟨by decide,by decide⟩,_,rfl,l,rfl,.inl ⟨⟨_,SqL.of hl⟩,comp_none (its_list (SqL.of hl)) rfl fun D hD => ?_⟩⟩
    have g1 := Same.new hD (.lst [])
    refine ⟨(by show 2 ≤ sizeLine; decide),fun t ht => ?_⟩
    have gt := Same.new ht (.tup [.int 1,.ref D])
    exact q t D _ (g1.trans gt) upd_same (gt _ _ upd_same)
theorem ok_solution (B : Bt mg) (F : Fn K mg "solution" s_solution ["by","wide","table","wished"]) (M : Ms K mg base A_NoBy A_NoName A_NoNumber A_NoRow A_NoText A_RuleError A_TooBig A_TooFar A_TooLong) (C_line_taken : Cal P w K mg base "line_taken" 2 ["by","line"] spNever) (C_clear : Cal P w K mg base "clear" 5 ["by","wide","lines"] spClear46) (C_lowest : Cal P w K mg base "lowest" 4 ["by","bottom","tops"] spLow46) (C_free_numbers : Cal P w K mg base "free_numbers" 5 ["by","wide","lines","heads","last"] spNever) : Cal P w K mg base "solution" 6 ["by","wide","table","wished"] spSol46 := by
  refine F.cal sc_solution (fun vs H Q E h => ?_) (fun f cdv A outer s H vs Q E hr h => ?_)
  · obtain ⟨lt,lw,rfl,_⟩ := h; rfl
  · obtain ⟨lt,lw,rfl,hlt,hlw,q⟩ := h
    refine ⟨_,(pss_cons (ps_setC (i := 4) (hN := sc_solution.nd) (hi' := rfl) (hx := (Or.inl rfl)) (sc := cs_solution1) (N := ["i","by","table","wished"]) (ix := [none,some 0,some 2,some 3]) (comp_mk (by kernel_rfl) (by kernel_rfl) (by kernel_rfl) (by kernel_rfl) (by kernel_rfl) (by kernel_rfl) (by kernel_rfl) (by kernel_rfl)) rfl (pi_range1 rfl B.b_range (pa_cons (pe_callB (xlen K) rfl B.b_len boot_len (pa_n (pv 2) pa_nil)) pa_nil)) (fun cl C s₀ H₀ ex => ⟨(pg_name (i := 0) (show (["i","by","table","wished"] : List Str).Nodup by decide +kernel) rfl (Or.inl rfl)),pif_nil,(pe_callC C_line_taken hr rfl (pa_n (pv 1) (pa_b (pe_op (xadd K) (pe_ix (xix K) (pv 2) (pv 0) (fun _ _ => rfl)) (pe_lst (pa_cons (pe_ix (xix K) (pv 3) (pv 0) (fun _ _ => rfl)) pa_nil))) pa_nil)))⟩))
      (pss_cons (ps_set (i := 6) sc_solution.nd rfl (Or.inl rfl) (pe_callC C_clear hr rfl (pa_n (pv 0) (pa_n (pv 1) (pa_n (pv 4) pa_nil)))))
      (pss_cons (ps_set (i := 7) sc_solution.nd rfl (Or.inl rfl) (pe_ix (xix K) (pv 6) pe_int (fun _ _ => rfl)))
      (pss_cons (ps_set (i := 8) sc_solution.nd rfl (Or.inl rfl) (pe_ix (xix K) (pv 6) pe_int (fun _ _ => rfl)))
      (pss_cons (ps_if (pt_val (pe_callB (xany K rfl) rfl B.b_any boot_any (pa_cons (pe_comp (sc := cs_solution2) (N := ["line","wide"]) (ix := [none,some 1]) (comp_mk (by kernel_rfl) (by kernel_rfl) (by kernel_rfl) (by kernel_rfl) (by kernel_rfl) (by kernel_rfl) (by kernel_rfl) (by kernel_rfl)) rfl (xseq K (pe_slice (xsl K) (pv 4) (po_some (pe_callB (xlen K) rfl B.b_len boot_len (pa_n (pv 7) pa_nil))) po_none)) (fun cl C s₀ H₀ ex => ⟨(pg_name (i := 0) (show (["line","wide"] : List Str).Nodup by decide +kernel) rfl (Or.inl rfl)),pif_nil,(pe_cmpR (xne K hr) (pe_ix (xix K) (pv 0) (pv 1) (fun _ _ => rfl)) pe_int (nomark _))⟩)) pa_nil)))
      (pss_one (ps_ret pe_non))
      pss_nil)
      (pss_cons (ps_set (i := 9) sc_solution.nd rfl (Or.inl rfl) (pe_op v_mul (pe_lst (pa_k pe_int pa_nil)) (pv 1)))
      (pss_cons (ps_for PassesOwn.never rfl (pi_range1 rfl B.b_range (pa_cons (pe_callB (xlen K) rfl B.b_len boot_len (pa_n (pv 7) pa_nil)) pa_nil)) (pg_name (i := 5) sc_solution.nd rfl (Or.inl rfl))
      (pss_one (ps_asg (pe_ix (xix K) (pe_ix (xix K) (pv 4) (pv 5) (fun _ _ => rfl)) (pv 1) (fun _ _ => rfl)) (pg_sub (pv 9) (pe_ix (xix K) (pv 7) (pv 5) (fun _ _ => rfl)) set_list))))
      (pss_cons (ps_set (i := 10) sc_solution.nd rfl (Or.inl rfl) (pe_callC C_lowest hr rfl (pa_n (pv 0) (pa_n (pv 8) (pa_n (pv 9) pa_nil)))))
      (pss_cons (ps_if (pt_cmpR (xeq K hr) (pe_callB (xlen K) rfl B.b_len boot_len (pa_n (pv 7) pa_nil)) (pv 1) (nomark _))
      (pss_one (ps_ret (pe_tup (pa_k pe_str (pa_cons (pe_ix (xix K) (pv 10) pe_int (fun _ _ => rfl)) (pa_cons (pe_ix (xix K) (pv 10) pe_int (fun _ _ => rfl)) pa_nil))))))
      pss_nil)
      (pss_one (ps_ret (pe_tup (pa_k pe_str (pa_cons (pe_ix (xix K) (pv 10) pe_int (fun _ _ => rfl)) (pa_cons (pe_ix (xix K) (pv 10) pe_int (fun _ _ => rfl)) (pa_cons (pe_callC C_free_numbers hr rfl (pa_n (pv 0) (pa_n (pv 1) (pa_n (pv 4) (pa_n (pv 7) (pa_n (pv 8) pa_nil)))))) pa_nil)))))))))))))))),?_⟩
    refine ⟨_,rfl,.ref lt,0,rfl,.inl ⟨_,SqL.of hlt,rfl⟩,(0 : Int),rfl,by decide,by decide,?_⟩
    refine comp_none (its_range (lo := 0) (n := 0)) rfl fun D hD => ?_
    have g1 := Same.new hD (.lst [])
    have h1 : (upd H D (.lst [])) D = some (.lst []) := upd_same
    generalize upd H D (.lst []) = H1 at g1 h1
    refine ⟨_,rfl,_,rfl,_,rfl,D,rfl,h1,fun tc lh H2 g2 hc hh => ?_⟩
    have h12 := g2 _ _ h1
    refine ⟨_,rfl,_,_,.inr (SqT.of hc),rfl,?_⟩
    refine ⟨_,rfl,_,_,.inr (SqT.of hc),rfl,?_⟩
    refine ⟨_,rfl,_,rfl,.ref lh,0,rfl,.inl ⟨_,SqL.of hh,rfl⟩,((0 : Nat) : Int),rfl,.inl ⟨_,SqL.of h12,fun l3 hl3 => ?_⟩⟩
    have g3 := Same.new hl3 (.lst [])
    have h3 : (upd H2 l3 (.lst [])) l3 = some (.lst []) := upd_same
    have hh3 := g3 _ _ hh
    have hc3 := g3 _ _ hc
    have e0 : cutV ([] : List V) (some ((0 : Nat) : Int)) none = [] := rfl
    rw [e0]
    generalize upd H2 l3 (.lst []) = H3 at g3 h3 hh3 hc3
    refine ⟨l3,rfl,.inl ⟨⟨_,SqL.of h3⟩,comp_none (its_list (SqL.of h3)) rfl fun D4 hD4 => ?_⟩⟩
    have g4 := Same.new hD4 (.lst [])
    have h4 : (upd H3 D4 (.lst [])) D4 = some (.lst (([] : List Bool).map V.bl)) := upd_same
    have hh4 := g4 _ _ hh3
    have hc4 := g4 _ _ hc3
    generalize upd H3 D4 (.lst []) = H4 at g4 h4 hh4 hc4
    refine ⟨D4,[],rfl,SqL.of h4,_,rfl,iteF ?_⟩
    refine ⟨(by show 1 ≤ sizeLine; decide),fun l5 hl5 => ?_⟩
    have g5 := Same.new hl5 (.lst [.int 0])
    refine ⟨_,rfl,_,upd_same,by decide,by decide,(by show 1 * (0 : Int).toNat ≤ sizeLine; decide),fun l6 hl6 => ?_⟩
    have e6 : (List.replicate (0 : Int).toNat [V.int 0]).flatten = [] := rfl
    rw [e6]
    have g6 := Same.new hl6 (.lst [])
    have h6 : (upd (upd H4 l5 (.lst [.int 0])) l6 (.lst [])) l6 = some (.lst []) := upd_same
    have g56 := g5.trans g6
    have hh6 := g56 _ _ hh4
    have hc6 := g56 _ _ hc4
    generalize upd (upd H4 l5 (.lst [.int 0])) l6 (.lst []) = H6 at g56 h6 hh6 hc6
    refine ⟨_,rfl,.ref lh,0,rfl,.inl ⟨_,SqL.of hh6,rfl⟩,(0 : Int),rfl,by decide,by decide,?_⟩
    refine for_range (lo := 0) (n := (0 : Int).toNat) (fun i σ' H' => σ' = [some (.int 0),some (.int 0),some (.ref lt),some (.ref lw),some (.ref D),none,some (.ref tc),some (.ref lh),some (.int 1),some (.ref l6),none] ∧ H' = H6) ⟨rfl,rfl⟩ (fun i σ' H' hi _ => absurd hi (by simp)) ?_
    rintro σ' H' ⟨rfl,rfl⟩
    refine ⟨_,rfl,_,rfl,_,rfl,l6,rfl,h6,fun tl l2 H7 g7 ht7 h27 => ?_⟩
    refine ⟨_,rfl,.ref lh,0,rfl,.inl ⟨_,SqL.of (g7 _ _ hh6),rfl⟩,_,rfl,_,rfl,iteT ?_⟩
    refine ⟨_,rfl,_,_,.inr (SqT.of ht7),rfl,_,rfl,_,_,.inr (SqT.of ht7),rfl,(by show 3 ≤ sizeLine; decide),fun t ht => ?_⟩
    have gt := Same.new ht (.tup [.str ("one" : Str),.int 1,.ref l2])
    exact q t l2 _ (g1.trans (g2.trans (g3.trans (g4.trans (g56.trans (g7.trans gt)))))) upd_same (gt _ _ h27)
theorem ok_solved (B : Bt mg) (F : Fn K mg "solved" s_solved ["by","wide","table","wished"]) (M : Ms K mg base A_NoBy A_NoName A_NoNumber A_NoRow A_NoText A_RuleError A_TooBig A_TooFar A_TooLong) (C_solution : Cal P w K mg base "solution" 6 ["by","wide","table","wished"] spSol46) (C_paper_against : Cal P w K mg base "paper_against" 7 ["by","wide","table","wished"] spNever) : Cal P w K mg base "solved" 8 ["by","wide","table","wished"] spSol46 := by
  refine F.cal sc_solved (fun vs H Q E h => ?_) (fun f cdv A outer s H vs Q E hr h => ?_)
  · obtain ⟨lt,lw,rfl,_⟩ := h; rfl
  · obtain ⟨lt,lw,rfl,hlt,hlw,q⟩ := h
    refine ⟨_,(pss_cons (ps_set (i := 4) sc_solved.nd rfl (Or.inl rfl) (pe_callC C_solution hr rfl (pa_n (pv 0) (pa_n (pv 1) (pa_n (pv 2) (pa_n (pv 3) pa_nil))))))
      (pss_cons (ps_if (pt_cmp (pc_isN (pv 4)))
      (pss_one (ps_ret (pe_tup (pa_k pe_str (pa_cons (pe_callC C_paper_against hr rfl (pa_n (pv 0) (pa_n (pv 1) (pa_n (pv 2) (pa_n (pv 3) pa_nil))))) pa_nil)))))
      pss_nil)
      (pss_one (ps_ret (pv 4))))),?_⟩
    refine ⟨_,rfl,_,rfl,_,rfl,_,rfl,lt,lw,rfl,hlt,hlw,fun t l2 H1 g1 ht h2 => ?_⟩
    refine ⟨_,rfl,_,rfl,iteF ?_⟩
    exact ⟨_,rfl,q t l2 H1 g1 ht h2⟩
theorem ok_parts_of (B : Bt mg) (F : Fn K mg "parts_of" s_parts_of ["roots","tops"]) (M : Ms K mg base A_NoBy A_NoName A_NoNumber A_NoRow A_NoText A_RuleError A_TooBig A_TooFar A_TooLong) : Cal P w K mg base "parts_of" 1 ["roots","tops"] spParts46 := by
  refine F.cal sc_parts_of (fun vs H Q E h => ?_) (fun f cdv A outer s H vs Q E hr h => ?_)
  · obtain ⟨lr,lt,rfl,_⟩ := h; rfl
  · obtain ⟨lr,lt,rfl,hlr,q⟩ := h
    refine ⟨_,(pss_cons (ps_set (i := 2) sc_parts_of.nd rfl (Or.inl rfl) (pe_lst pa_nil))
      (pss_cons (ps_set (i := 3) sc_parts_of.nd rfl (Or.inl rfl) pe_int)
      (pss_cons (ps_for PassesOwn.never rfl (xseq K (pv 0)) (pg_name (i := 4) sc_parts_of.nd rfl (Or.inl rfl))
      (pss_cons (ps_set (i := 5) sc_parts_of.nd rfl (Or.inl rfl) (pe_op (xadd K) (pv 3) (pe_ix (xix K) (pv 4) pe_int (fun _ _ => rfl))))
      (pss_cons (ps_expr (xappend K (pv 2) (pe_tup (pa_cons (pe_ix (xix K) (pv 4) pe_int (fun _ _ => rfl)) (pa_cons (pe_slice (xsl K) (pv 1) (po_some (pv 3)) (po_some (pv 5))) pa_nil)))))
      (pss_one (ps_set (i := 3) sc_parts_of.nd rfl (Or.inl rfl) (pv 5))))))
      (pss_one (ps_ret (pv 2)))))),?_⟩
    refine ⟨Nat.zero_le _,fun lp hlp => ?_⟩
    have g1 := Same.new hlp (.lst [])
    have h1 : (upd H lp (.lst [])) lp = some (.lst []) := upd_same
    have hr1 := g1 _ _ hlr
    generalize upd H lp (.lst []) = H1 at g1 h1 hr1
    refine ⟨_,rfl,lr,rfl,.inl ⟨⟨_,SqL.of hr1⟩,?_⟩⟩
    refine for_its (its_list (SqL.of hr1)) (fun i σ' H' => σ' = [some (.ref lr),some (.ref lt),some (.ref lp),some (.int 0),none,none] ∧ H' = H1) ⟨rfl,rfl⟩ (fun i σ' H' z => z.2 ▸ Same.refl _) (fun i x σ' H' hx _ => by cases hx) ?_
    rintro σ' H' ⟨rfl,rfl⟩
    exact ⟨_,rfl,q lp _ g1 h1⟩
theorem ok_closed (B : Bt mg) (F : Fn K mg "closed" s_closed ["row"]) (M : Ms K mg base A_NoBy A_NoName A_NoNumber A_NoRow A_NoText A_RuleError A_TooBig A_TooFar A_TooLong) (C_refuse_prime : Cal P w K mg base "refuse_prime" 1 ["row"] (spRefuseP A_NoBy)) (C_whole_roots : Cal P w K mg base "whole_roots" 4 ["poly"] (spRoots46 A_TooBig)) (C_least_of : Cal P w K mg base "least_of" 8 ["row"] spLeast46) (C_form_line : Cal P w K mg base "form_line" 2 ["roots","n"] spNever) (C_solved : Cal P w K mg base "solved" 8 ["by","wide","table","wished"] spSol46) (C_parts_of : Cal P w K mg base "parts_of" 1 ["roots","tops"] spParts46) : Cal P w K mg base "closed" 9 ["row"] (spClosed46 A_NoBy A_TooBig) := by
  refine F.calF sc_closed (fun vs H Q E h => ?_) (fun f cdv A outer s H vs Q E hr h => ?_)
  · obtain ⟨v,r,rfl,_⟩ := h; rfl
  · obtain ⟨v,r,rfl,hR,h⟩ := h
    refine ⟨_,(pss_cons (ps_expr (pe_callCF C_refuse_prime hr rfl (pa_n (pv 0) pa_nil)))
      (pss_cons (ps_set (i := 1) sc_closed.nd rfl (Or.inl rfl) (pe_callCF C_whole_roots hr rfl (pa_cons (pe_callC C_least_of hr rfl (pa_n (pv 0) pa_nil)) pa_nil)))
      (pss_cons (ps_set (i := 2) sc_closed.nd rfl (Or.inr rfl) (pe_ix (xix K) (pv 1) pe_int (fun _ _ => rfl)))
      (pss_cons (ps_if (PW.pt (pw_or (pt_cmpR (xne K hr) (pe_ix (xix K) (pv 1) pe_int (fun _ _ => rfl)) (pe_tup (pa_k pe_int pa_nil)) (nomark _)) (pw_or1 (pt_val (pe_callB (xany K rfl) rfl B.b_any boot_any (pa_cons (pe_comp (sc := cs_closed1) (N := ["pair"]) (ix := [none]) (comp_mk (by kernel_rfl) (by kernel_rfl) (by kernel_rfl) (by kernel_rfl) (by kernel_rfl) (by kernel_rfl) (by kernel_rfl) (by kernel_rfl)) rfl (xseq K (pv 2)) (fun cl C s₀ H₀ ex => ⟨(pg_name (i := 0) (show (["pair"] : List Str).Nodup by decide +kernel) rfl (Or.inl rfl)),pif_nil,(pe_cmpR (xeq K hr) (pe_ix (xix K) (pv 0) pe_int (fun _ _ => rfl)) pe_int (nomark _))⟩)) pa_nil))))))
      (pss_one (ps_ret pe_non))
      pss_nil)
      (pss_cons (ps_set (i := 3) sc_closed.nd rfl (Or.inl rfl) (pe_callB (xsum K rfl) rfl B.b_sum boot_sum (pa_cons (pe_comp (sc := cs_closed2) (N := ["pair"]) (ix := [none]) (comp_mk (by kernel_rfl) (by kernel_rfl) (by kernel_rfl) (by kernel_rfl) (by kernel_rfl) (by kernel_rfl) (by kernel_rfl) (by kernel_rfl)) rfl (xseq K (pv 2)) (fun cl C s₀ H₀ ex => ⟨(pg_name (i := 0) (show (["pair"] : List Str).Nodup by decide +kernel) rfl (Or.inl rfl)),pif_nil,(pe_ix (xix K) (pv 0) pe_int (fun _ _ => rfl))⟩)) pa_nil)))
      (pss_cons (ps_setC (i := 4) (hN := sc_closed.nd) (hi' := rfl) (hx := (Or.inl rfl)) (sc := cs_closed3) (N := ["n","roots"]) (ix := [none,some 2]) (comp_mk (by kernel_rfl) (by kernel_rfl) (by kernel_rfl) (by kernel_rfl) (by kernel_rfl) (by kernel_rfl) (by kernel_rfl) (by kernel_rfl)) rfl (pi_range1 rfl B.b_range (pa_n (pv 3) pa_nil)) (fun cl C s₀ H₀ ex => ⟨(pg_name (i := 0) (show (["n","roots"] : List Str).Nodup by decide +kernel) rfl (Or.inl rfl)),pif_nil,(pe_callC C_form_line hr rfl (pa_n (pv 1) (pa_n (pv 0) pa_nil)))⟩))
      (pss_cons (ps_set (i := 5) sc_closed.nd rfl (Or.inl rfl) (pe_callC C_solved hr rfl (pa_k pe_int (pa_n (pv 3) (pa_n (pv 4) (pa_cons (pe_callTy (xlist K) rfl B.b_list boot_list (pa_cons (pe_slice (xsl K) (pe_ix (xix K) (pv 0) pe_int (fun _ _ => rfl)) po_none (po_some (pv 3))) pa_nil)) pa_nil))))))
      (pss_one (ps_ret (pe_tup (pa_cons (pe_ix (xix K) (pv 5) pe_int (fun _ _ => rfl)) (pa_cons (pe_callC C_parts_of hr rfl (pa_n (pv 2) (pa_cons (pe_ix (xix K) (pv 5) pe_int (fun _ _ => rfl)) pa_nil))) pa_nil)))))))))))),?_⟩
    refine ⟨_,rfl,v,r,rfl,hR,fun h0 => ?_,fun hne => ?_⟩
    case refine_2 =>
      rcases h with ⟨_,e⟩ | ⟨z,_⟩
      · exact e
      · exact absurd z hne
    rcases h with ⟨z,_⟩ | ⟨_,ok,hn,h⟩
    · exact absurd h0 z
    have hs := ok.short
    have hm := Pm.ofRule_mon 0 r.rule
    have lq : (Pm.ofRule 0 r.rule).length = r.rule.length + 1 := Pm.ofRule_len ..
    refine ⟨_,rfl,v,r,rfl,hR,ok,h0,hn,?_⟩
    rcases h with ⟨c0,c1,c2,he,h⟩ | ⟨he,q⟩
    · refine .inl ⟨c0,c1,c2,he,fun tL H1 g1 hL => ?_⟩
      refine ⟨tL,Pm.ofRule 0 r.rule,rfl,hL,by omega,hm,fun hsm t lr tl xs H2 g2 ht hlr hT htl => ?_,fun hb H2 g2 => ?_⟩
      case refine_2 =>
        rcases h with ⟨_,e⟩ | ⟨z,_,_⟩
        · exact e H2 (g1.trans g2)
        · obtain ⟨x,hx,hx2⟩ := hb
          exact absurd (z x hx) (by omega)
      rcases h with ⟨⟨x,hx,hx2⟩,_⟩ | ⟨_,hN,q⟩
      · exact absurd (hsm x hx) (by omega)
      have g12 := g1.trans g2
      refine ⟨_,rfl,_,_,.inr (SqT.of ht),rfl,?_⟩
      refine ⟨_,rfl,_,_,.inr (SqT.of ht),rfl,(by show 1 ≤ sizeLine; decide),fun t1 ht1 => ?_⟩
      have g3 := Same.new ht1 (.tup [.int 1])
      refine eqTT (ns := (Pm.wr (Pm.ofRule 0 r.rule)).2) (ms := [1]) (SqT.of (g3 _ _ htl)) (SqT.of upd_same) ⟨_,rfl,?_⟩
      by_cases c : (Pm.wr (Pm.ofRule 0 r.rule)).2 = [1]
      · rw [decide_eq_true c]
        refine iteF ?_
        have hlr3 := g3 _ _ hlr
        have hT3 := hT.same g3
        generalize upd H2 t1 (.tup [.int 1]) = H3 at g3 hlr3 hT3
        have hany : (Pm.wr (Pm.ofRule 0 r.rule)).1.any (fun x => decide (x.headD 0 = 0)) = true := by
          unfold Pm.noneQ at hN
          rcases Bool.or_eq_true_iff.mp hN with z | z
          · exact absurd c (of_decide_eq_true z)
          · exact z
        refine ⟨_,rfl,lr,rfl,.inl ⟨⟨_,SqL.of hlr3⟩,?_⟩⟩
        refine comp_tpsB hlr3 hT3 (by rw [hT3.len]; exact Nat.le_trans (Pm.wr_most (low_small hsm)) (by decide)) rfl (fun x => decide (x.headD 0 = 0)) ?_ ?_
        · intro H4 tt cc g4 hcc htt k hk
          have l2 := Pm.wr_two (Pm.cands (Pm.ofRule 0 r.rule)) [] (Pm.ofRule 0 r.rule) (fun p hp => absurd hp List.not_mem_nil) cc hcc
          obtain ⟨y0,y1,rfl⟩ : ∃ y0 y1,cc = [y0,y1] := by
            match cc,l2 with
            | [y0,y1],_ => exact ⟨y0,y1,rfl⟩
          exact ⟨_,rfl,_,_,.inr (SqT.of htt),rfl,hk⟩
        intro D hD
        refine ⟨D,_,rfl,SqL.of upd_same,_,rfl,?_⟩
        have ea : ((Pm.wr (Pm.ofRule 0 r.rule)).1.map fun x => decide (x.headD 0 = 0)).any id = true := by rw [List.any_map]; exact hany
        rw [ea]
        refine iteT ?_
        exact q _ (g12.trans (g3.trans (Same.new hD _)))
      · rw [decide_eq_false c]
        refine iteT ?_
        exact q _ (g12.trans g3)
    · refine .inr ⟨he,fun tL H1 g1 hL => ?_⟩
      have s1 : ∀ x ∈ [(1 : Int)],x.natAbs < 1000000 := fun x hx => by rw [List.mem_singleton.mp hx]; decide
      refine ⟨tL,[1],rfl,hL,by decide,mon_one,fun hsm t lr tl xs H2 g2 ht hlr hT htl => ?_,fun ⟨x,hx,hx2⟩ H2 g2 => absurd (s1 x hx) (by omega)⟩
      rw [Pm.wr_one] at hT htl
      have exs : xs = [] := List.eq_nil_of_length_eq_zero hT.len
      subst exs
      have g12 := g1.trans g2
      refine ⟨_,rfl,_,_,.inr (SqT.of ht),rfl,?_⟩
      refine ⟨_,rfl,_,_,.inr (SqT.of ht),rfl,(by show 1 ≤ sizeLine; decide),fun t1 ht1 => ?_⟩
      have g3 := Same.new ht1 (.tup [.int 1])
      refine eqTT (ns := [1]) (ms := [1]) (SqT.of (g3 _ _ htl)) (SqT.of upd_same) ⟨_,rfl,iteF ?_⟩
      have hlr3 := g3 _ _ hlr
      have g13 := g12.trans g3
      generalize upd H2 t1 (.tup [.int 1]) = H3 at g3 hlr3 g13
      refine ⟨_,rfl,lr,rfl,.inl ⟨⟨_,SqL.of hlr3⟩,comp_none (its_list (SqL.of hlr3)) rfl fun D hD => ?_⟩⟩
      have g4 := Same.new hD (.lst [])
      have h4 : (upd H3 D (.lst [])) D = some (.lst (([] : List Bool).map V.bl)) := upd_same
      have hlr4 := g4 _ _ hlr3
      have g14 := g13.trans g4
      generalize upd H3 D (.lst []) = H4 at g4 h4 hlr4 g14
      refine ⟨D,[],rfl,SqL.of h4,_,rfl,iteF ?_⟩
      refine ⟨_,rfl,lr,rfl,.inl ⟨⟨_,SqL.of hlr4⟩,comp_none (its_list (SqL.of hlr4)) rfl fun D2 hD2 => ?_⟩⟩
      have g5 := Same.new hD2 (.lst [])
      have h5 : (upd H4 D2 (.lst [])) D2 = some (.lst (([] : List Int).map V.int)) := upd_same
      have hlr5 := g5 _ _ hlr4
      have g15 := g14.trans g5
      generalize upd H4 D2 (.lst []) = H5 at g5 h5 hlr5 g15
      refine ⟨D2,[],rfl,SqL.of h5,?_⟩
      refine ⟨_,rfl,(0 : Int),rfl,by decide,by decide,?_⟩
      refine comp_none (its_range (lo := 0) (n := 0)) rfl fun D3 hD3 => ?_
      have g6 := Same.new hD3 (.lst [])
      have h6 : (upd H5 D3 (.lst [])) D3 = some (.lst []) := upd_same
      have hlr6 := g6 _ _ hlr5
      have g16 := g15.trans g6
      generalize upd H5 D3 (.lst []) = H6 at g6 h6 hlr6 g16
      obtain ⟨xa,xp,xq,rfl,hxA,hxR,hxS⟩ := hR.same g16
      have lS : (r.starts.map V.int).length = r.rule.length := by rw [List.length_map]; exact ok.len.symm
      refine ⟨_,rfl,_,rfl,_,rfl,_,_,.inr (SqT.of hxA),rfl,_,rfl,(0 : Int),rfl,.inr (.inl ⟨_,SqT.of hxS,?_,fun p3 hp3 => ?_⟩)⟩
      · rw [show (0 : Int) = ((0 : Nat) : Int) from rfl,HT.sIx_nat,HT.sIx_none,lS]; omega
      have ec : cutV (r.starts.map V.int) none (some (0 : Int)) = [] := by
        unfold cutV
        rw [show (0 : Int) = ((0 : Nat) : Int) from rfl,HT.sIx_nat,HT.sIx_none,List.drop_zero,Nat.sub_zero,Nat.zero_min,List.take_zero]
      rw [ec]
      have g7 := Same.new hp3 (.tup [])
      refine ⟨p3,_,rfl,.inr (SqT.of upd_same),fun l8 hl8 => ?_⟩
      have g8 := Same.new hl8 (.lst [])
      have g78 := g7.trans g8
      have h8 : (upd (upd H6 p3 (.tup [])) l8 (.lst [])) l8 = some (.lst []) := upd_same
      have h68 := g78 _ _ h6
      have hlr8 := g78 _ _ hlr6
      generalize upd (upd H6 p3 (.tup [])) l8 (.lst []) = H8 at g78 h8 h68 hlr8
      refine ⟨D3,l8,rfl,h68,h8,fun ta l2 H9 g9 hta h29 => ?_⟩
      refine ⟨_,rfl,_,_,.inr (SqT.of hta),rfl,_,rfl,_,rfl,_,_,.inr (SqT.of hta),rfl,lr,l2,rfl,g9 _ _ hlr8,fun lp H10 g10 hlp => ?_⟩
      refine ⟨(by show 2 ≤ sizeLine; decide),fun tz htz => ?_⟩
      have gz := Same.new htz (.tup [.int 1,.ref lp])
      exact q tz lp _ (g16.trans (g78.trans (g9.trans (g10.trans gz)))) upd_same (gz _ _ hlp)
theorem ok_Lat (B : Bt mg) (F : Fn K mg "_law_at" s_Lat ["_law_script","_law_k"]) (M : Ms K mg base A_NoBy A_NoName A_NoNumber A_NoRow A_NoText A_RuleError A_TooBig A_TooFar A_TooLong) : Cal P w K mg base "_law_at" 1 ["_law_script","_law_k"] (spAt46 K) := by
  refine F.cal sc_Lat (fun vs H Q E h => ?_) (fun f cdv A outer s H vs Q E hr h => ?_)
  · obtain ⟨a,ns,k,rfl,_⟩ := h; rfl
  · obtain ⟨a,ns,k,rfl,hS,hl,k0,k1,q⟩ := h
    refine ⟨_,(pss_cons (ps_if (pt_cmpR op_lt (pv 1) (pe_callB (xlen K) rfl B.b_len boot_len (pa_n (pv 0) pa_nil)) (nomark _))
      (pss_one (ps_ret (pe_ix (xix K) (pv 0) (pv 1) (fun _ _ => rfl))))
      pss_nil)
      (pss_cons (ps_set (i := 2) sc_Lat.nd rfl (Or.inl rfl) (pe_op (xadd K) pe_int (pe_op v_mul (pe_op v_mul pe_int (pv 1)) (pv 1))))
      (pss_cons (ps_bar (ps_if (pt_cmpR op_gt (pe_callB (xlen K) rfl B.b_len boot_len (pa_n (pv 0) pa_nil)) pe_int (nomark _))
      (pss_one (ps_set (i := 2) sc_Lat.nd rfl (Or.inl rfl) (pe_op (xadd K) (pv 2) (pe_op v_mul (pe_op op_mod (pe_ix (xix K) (pv 0) (pe_op op_mod (pv 1) (pe_callB (xlen K) rfl B.b_len boot_len (pa_n (pv 0) pa_nil))) (fun _ _ => rfl)) pe_int) (pe_op (xadd K) (pe_op op_fdiv (pv 1) (pe_callB (xlen K) rfl B.b_len boot_len (pa_n (pv 0) pa_nil))) pe_int)))))
      pss_nil))
      (pss_one (ps_ret (pe_op op_mod (pe_op v_mul (pv 2) pe_int) pe_int)))))),?_⟩
    have lL : (ns.map V.int).length = ns.length := List.length_map _
    refine ⟨_,rfl,_,rfl,.ref a,ns.length,rfl,.inl ⟨_,hS,lL.symm⟩,_,_,rfl,rfl,_,rfl,?_⟩
    refine ite2 (fun c => ?_) (fun c => ?_)
    · have c' := dec_true c
      exact ⟨_,rfl,_,rfl,_,_,.inl hS,atI_ints (ns := ns) k0 c',q _⟩
    · refine ⟨_,rfl,mulR (by omega) (by omega),_,rfl,mulR (by omega) (by omega),?_⟩
      refine BarS.by (fun σ' H' => ∃ m : Int,σ' = [some (.ref a),some (.int k),some (.int m)] ∧ H' = H) (fun NN hNN => ?_) ?_
      · refine ⟨_,rfl,.ref a,ns.length,rfl,.inl ⟨_,hS,lL.symm⟩,_,_,rfl,rfl,_,rfl,?_⟩
        refine ite2 (fun c2 => ?_) (fun c2 => hNN _ _ ⟨_,rfl,rfl⟩)
        have c2' : (0 : Int) < (ns.length : Int) := by have := dec_true c2; omega
        have e0 := emod_lo k c2'
        have e1 := emod_hi k c2'
        have d0 : 0 ≤ k / (ns.length : Int) := Int.ediv_nonneg k0 (by omega)
        have d1 : k / (ns.length : Int) ≤ k := Int.ediv_le_self _ k0
        refine ⟨_,rfl,_,rfl,_,rfl,_,rfl,.ref a,ns.length,rfl,.inl ⟨_,hS,lL.symm⟩,_,_,rfl,rfl,c2',_,_,.inl hS,atI_ints (ns := ns) e0 e1,_,_,rfl,rfl,(by decide : (0 : Int) < 1000133),?_⟩
        refine ⟨_,rfl,_,rfl,.ref a,ns.length,rfl,.inl ⟨_,hS,lL.symm⟩,_,_,rfl,rfl,⟨c2',(by omega : (ns.length : Int) < 1073741824)⟩,mulR (by omega) (by omega),?_⟩
        exact hNN _ _ ⟨_,rfl,rfl⟩
      rintro _ _ ⟨m,rfl,rfl⟩
      exact ⟨_,rfl,mulR (by decide) (by decide),_,_,rfl,rfl,(by decide : (0 : Int) < 2147483647),q _⟩
theorem ok_Ltimes (B : Bt mg) (F : Fn K mg "_law_times" s_Ltimes ["_law_one","_law_other"]) (M : Ms K mg base A_NoBy A_NoName A_NoNumber A_NoRow A_NoText A_RuleError A_TooBig A_TooFar A_TooLong) : Cal P w K mg base "_law_times" 1 ["_law_one","_law_other"] spLTimes := by
  refine F.cal sc_Ltimes (fun vs H Q E h => ?_) (fun f cdv A outer s H vs Q E hr h => ?_)
  · obtain ⟨a,c,p,r,rfl,_⟩ := h; rfl
  · obtain ⟨a,c,p,r,rfl,hA,hC,p1,p10,r1,r10,bA,bC,q⟩ := h
    refine ⟨_,(pss_cons (ps_set (i := 2) sc_Ltimes.nd rfl (Or.inl rfl) (pe_op v_mul (pe_lst (pa_k pe_int pa_nil)) (pe_op op_sub (pe_op (xadd K) (pe_callB (xlen K) rfl B.b_len boot_len (pa_n (pv 0) pa_nil)) (pe_callB (xlen K) rfl B.b_len boot_len (pa_n (pv 1) pa_nil))) pe_int)))
      (pss_cons (ps_for PassesOwn.never rfl (pi_range1 rfl B.b_range (pa_cons (pe_callB (xlen K) rfl B.b_len boot_len (pa_n (pv 0) pa_nil)) pa_nil)) (pg_name (i := 3) sc_Ltimes.nd rfl (Or.inl rfl))
      (pss_one (ps_for PassesOwn.never rfl (pi_range1 rfl B.b_range (pa_cons (pe_callB (xlen K) rfl B.b_len boot_len (pa_n (pv 1) pa_nil)) pa_nil)) (pg_name (i := 4) sc_Ltimes.nd rfl (Or.inl rfl))
      (pss_one (ps_asg (pe_op (xadd K) (pe_ix (xix K) (pv 2) (pe_op (xadd K) (pv 3) (pv 4)) (fun _ _ => rfl)) (pe_op v_mul (pe_ix (xix K) (pv 0) (pv 3) (fun _ _ => rfl)) (pe_ix (xix K) (pv 1) (pv 4) (fun _ _ => rfl)))) (pg_sub (pv 2) (pe_op (xadd K) (pv 3) (pv 4)) set_list))))))
      (pss_one (ps_ret (pv 2))))),?_⟩
    have lP : (p.map V.int).length = p.length := List.length_map _
    have lR : (r.map V.int).length = r.length := List.length_map _
    refine ⟨(by show 1 ≤ sizeLine; decide),fun l0 h0 => ?_⟩
    have g0 := Same.new h0 (.lst [.int 0])
    refine ⟨_,rfl,.ref a,p.length,rfl,.inl ⟨_,SqL.of (g0 _ _ hA),lP.symm⟩,_,rfl,.ref c,r.length,rfl,.inl ⟨_,SqL.of (g0 _ _ hC),lR.symm⟩,_,_,rfl,rfl,?_⟩
    have en : ((p.length : Int) + (r.length : Int) - 1).toNat = p.length + r.length - 1 := by omega
    refine ⟨_,upd_same,(by omega : -(2 ^ 63) ≤ (p.length : Int) + (r.length : Int) - 1),(by omega : (p.length : Int) + (r.length : Int) - 1 < 2 ^ 63),?_,fun l hl => ?_⟩
    · rw [en]; show 1 * (p.length + r.length - 1) ≤ sizeLine; rw [Nat.one_mul]; exact Nat.le_of_lt (small1000 (by omega))
    have g1 := g0.trans (Same.new hl (.lst (List.replicate ((p.length : Int) + (r.length : Int) - 1).toNat [V.int 0]).flatten))
    have hl0 : H l = none := g0.free hl
    refine ⟨_,rfl,.ref a,p.length,rfl,.inl ⟨_,SqL.of (g1 _ _ hA),lP.symm⟩,?_⟩
    refine ⟨(p.length : Int),rfl,(by omega : -(2 ^ 62) ≤ (p.length : Int)),(by omega : (p.length : Int) < 2 ^ 62),?_⟩
    refine for_range (lo := 0) (n := (p.length : Int).toNat) (fun i σ' H' => ∃ o4 o5 L,σ' = [some (.ref a),some (.ref c),some (.ref l),o4,o5] ∧ Same H H' ∧ H' l = some (.lst (L.map V.int)) ∧ L.length = p.length + r.length - 1 ∧ ∀ k,Pm.co L k = Pm.W (Pm.co p) (Pm.co r) i 0 k)
      ⟨_,_,Pm.ofF (p.length + r.length - 1) (fun _ => 0),rfl,g1,(by rw [upd_same,en,replicate_ofF]),Pm.ofF_len _ _,fun k => by rw [Pm.co_ofF,Pm.W_zero]; split <;> rfl⟩ ?_ ?_
    · rintro i σ' H' hi ⟨o4,o5,L,rfl,g,hL,zL,hW⟩
      have hi' : i < p.length := by omega
      refine ⟨_,rfl,.ref c,r.length,rfl,.inl ⟨_,SqL.of (g _ _ hC),lR.symm⟩,?_⟩
      refine ⟨(r.length : Int),rfl,(by omega : -(2 ^ 62) ≤ (r.length : Int)),(by omega : (r.length : Int) < 2 ^ 62),?_⟩
      refine for_range (lo := 0) (n := (r.length : Int).toNat) (fun k σ' H' => ∃ o5 L,σ' = [some (.ref a),some (.ref c),some (.ref l),some (.int (0 + (i : Int))),o5] ∧ Same H H' ∧ H' l = some (.lst (L.map V.int)) ∧ L.length = p.length + r.length - 1 ∧ ∀ j,Pm.co L j = Pm.W (Pm.co p) (Pm.co r) i k j)
        ⟨_,L,rfl,g,hL,zL,hW⟩ ?_ ?_
      · rintro k σ' H2 hk ⟨o5,L,rfl,g,hL,zL,hW⟩
        have hk' : k < r.length := by omega
        have lL : (L.map V.int).length = L.length := List.length_map _
        have e1 : (0 + (i : Int) + (0 + (k : Int))).toNat = i + k := by omega
        have e2 : (0 + (i : Int)).toNat = i := by omega
        have e3 : (0 + (k : Int)).toNat = k := by omega
        refine ⟨_,rfl,_,rfl,_,rfl,_,_,.inl (SqL.of hL),atI_ints (ns := L) (by omega : (0 : Int) ≤ 0 + (i : Int) + (0 + (k : Int))) (by omega),?_⟩
        refine ⟨_,rfl,_,rfl,_,_,.inl (SqL.of (g _ _ hA)),atI_ints (ns := p) (by omega : (0 : Int) ≤ 0 + (i : Int)) (by omega),?_⟩
        refine ⟨_,rfl,_,rfl,_,_,.inl (SqL.of (g _ _ hC)),atI_ints (ns := r) (by omega : (0 : Int) ≤ 0 + (k : Int)) (by omega),?_⟩
        refine ⟨mulBd (Rm.Bd.getD bA _) (Rm.Bd.getD bC _) (by decide),?_⟩
        refine ⟨_,rfl,_,rfl,_,rfl,l,_,_,i + k,rfl,rfl,hL,ixN_of (by omega) (by rw [lL]; omega),?_⟩
        refine ⟨_,L.set (i + k) _,rfl,g.upd hl0 _,(by rw [upd_same,map_set_int]),(by rw [List.length_set]; exact zL),fun j => ?_⟩
        rw [Pm.co_set _ _ _ _ (by omega),Pm.W_step,e1,e2,e3]
        by_cases ej : j = i + k
        · have hw := hW j
          rw [if_pos ej,if_pos ej]
          rw [ej] at hw ⊢
          rw [← hw]; rfl
        · rw [if_neg ej,if_neg ej,Int.add_zero]; exact hW j
      · rintro σ' H2 ⟨o5,L,rfl,g,hL,zL,hW⟩
        refine ⟨_,_,L,rfl,g,hL,zL,fun k => ?_⟩
        rw [hW k,Int.toNat_natCast,Pm.W_row fun k hk => Pm.co_ge hk]
    · rintro σ' H' ⟨o4,o5,L,rfl,g,hL,zL,hW⟩
      have e : L = Pm.lmul p r := by
        refine Pm.co_ext (by rw [zL,Pm.lmul,Pm.ofF_len]) fun k => ?_
        rw [Pm.lmul,Pm.co_ofF]
        split
        · rw [hW k,Int.toNat_natCast,Pm.W_end fun k hk => Pm.co_ge hk]
        · exact Pm.co_ge (by omega)
      exact ⟨_,rfl,q l H' g (e ▸ hL)⟩
theorem ok_Lrule (B : Bt mg) (F : Fn K mg "_law_rule" s_Lrule ["_law_poly"]) (M : Ms K mg base A_NoBy A_NoName A_NoNumber A_NoRow A_NoText A_RuleError A_TooBig A_TooFar A_TooLong) : Cal P w K mg base "_law_rule" 1 ["_law_poly"] spLRule46 := by
  refine F.cal sc_Lrule (fun vs H Q E h => ?_) (fun f cdv A outer s H vs Q E hr h => ?_)
  · obtain ⟨a,P,rfl,_⟩ := h; rfl
  · obtain ⟨a,P',rfl,hA,p1,p20,q⟩ := h
    refine ⟨_,(pss_one (ps_ret (pe_callTy (xtuple K) rfl B.b_tuple boot_tuple (pa_cons (pe_comp (sc := cs_Lrule1) (N := ["_law_number"]) (ix := [none]) (comp_mk (by kernel_rfl) (by kernel_rfl) (by kernel_rfl) (by kernel_rfl) (by kernel_rfl) (by kernel_rfl) (by kernel_rfl) (by kernel_rfl)) rfl (pi_rev K rfl B.b_reversed (pa_cons (pe_slice (xsl K) (pv 0) po_none (po_some (pe_un un_neg pe_int))) pa_nil)) (fun cl C s₀ H₀ ex => ⟨(pg_name (i := 0) (show (["_law_number"] : List Str).Nodup by decide +kernel) rfl (Or.inl rfl)),pif_nil,(pe_op op_sub pe_int (pv 0))⟩)) pa_nil)))),?_⟩
    have lX : (P'.map V.int).length = P'.length := List.length_map _
    refine ⟨_,rfl,1,rfl,_,rfl,.inl ⟨_,SqL.of hA,fun l1 hl1 => ?_⟩⟩
    have ecut : cutV (P'.map V.int) none (some (-1)) = P'.dropLast.map V.int := by
      unfold cutV
      rw [HT.sIx_none,List.drop_zero,Nat.sub_zero,lX,List.dropLast_eq_take,List.map_take]
      congr 1
      show (if (-1 : Int) < 0 then (-1 + (P'.length : Int)).toNat else min (-1 : Int).toNat P'.length) = P'.length - 1
      rw [if_pos (by decide)]; omega
    rw [ecut]
    have g1 := Same.new hl1 (.lst (P'.dropLast.map V.int))
    have h1 : (upd H l1 (.lst (P'.dropLast.map V.int))) l1 = some (.lst (P'.dropLast.map V.int)) := upd_same
    generalize upd H l1 (.lst (P'.dropLast.map V.int)) = H1 at g1 h1
    refine ⟨l1,P'.dropLast.map V.int,rfl,SqL.of h1,?_⟩
    have ln2 : (P'.dropLast.map V.int).reverse.length = P'.length - 1 := by rw [List.length_reverse,List.length_map,List.length_dropLast]
    refine comp_pure (its_rev (SqL.of h1)) (by rw [ln2]; exact Nat.le_trans (show P'.length - 1 ≤ 1000 by omega) (by decide)) rfl (fun _ => true) (fun x => match x with | .int k => .int (0 - k) | _ => .non) ?_ ?_ ?_
    · intro H3 x g3 hx k hk; exact hk
    · intro H3 x g3 hx _ k hk
      obtain ⟨y,hy,rfl⟩ := List.mem_map.mp (List.mem_reverse.mp hx)
      exact ⟨_,rfl,_,_,rfl,rfl,hk⟩
    intro D2 hD2
    have el2 : (((P'.dropLast.map V.int).reverse.filter fun _ => true).map fun x => match x with | .int k => V.int (0 - k) | _ => V.non) = (ruleL P').map V.int := by
      rw [List.filter_eq_self.mpr (by simp),← List.map_reverse,List.map_map,ruleL,List.map_map]; rfl
    rw [el2]
    refine ⟨D2,_,rfl,.inl ⟨SqL.of upd_same,fun t ht => ?_⟩⟩
    exact q t _ (g1.trans ((Same.new hD2 _).trans (Same.new ht _))) upd_same
theorem ok_Lrefused (B : Bt mg) (F : Fn K mg "_law_refused" s_Lrefused ["_law_row"]) (M : Ms K mg base A_NoBy A_NoName A_NoNumber A_NoRow A_NoText A_RuleError A_TooBig A_TooFar A_TooLong) (C_closed : Cal P w K mg base "closed" 9 ["row"] (spClosed46 A_NoBy A_TooBig)) : Cal P w K mg base "_law_refused" 10 ["_law_row"] spRef46 := by
  refine F.cal sc_Lrefused (fun vs H Q E h => ?_) (fun f cdv A outer s H vs Q E hr h => ?_)
  · obtain ⟨v,r,rfl,_⟩ := h; rfl
  · obtain ⟨v,r,rfl,hR,h⟩ := h
    refine ⟨_,(pss_cons (ps_set (i := 1) sc_Lrefused.nd rfl (Or.inl rfl) pe_non)
      (pss_cons (ps_tryExpr (j := 2) C_closed hr rfl rfl rfl rfl (pa_n (pv 0) pa_nil) sc_Lrefused.nd rfl rfl rfl M.m_RuleError (fun a => (pss_one (ps_set (i := 1) sc_Lrefused.nd rfl (Or.inl rfl) (pv 2)))))
      (pss_cons (ps_set (i := 3) sc_Lrefused.nd rfl (Or.inl rfl) (pe_callB (xisiE K) rfl B.b_isinstance boot_isinstance (pa_n (pv 1) (pa_t (pe_tup (pa_n (pe_cls rfl M.m_NoName) (pa_n (pe_cls rfl M.m_NoNumber) (pa_n (pe_cls rfl M.m_NoRow) (pa_n (pe_cls rfl M.m_NoText) (pa_n (pe_cls rfl M.m_TooFar) (pa_n (pe_cls rfl M.m_TooLong) pa_nil))))))) pa_nil))))
      (pss_cons (ps_if (PW.pt (pw_or (pt_val (pv 3)) (pw_or1 (pt_not (pt_val (pe_callB (xisiE K) rfl B.b_isinstance boot_isinstance (pa_n (pv 1) (pa_n (pe_tyB rfl B.b_ValueError boot_ValueError) pa_nil))))))))
      (pss_one (ps_ret pe_str))
      pss_nil)
      (pss_one (ps_ret (pe_ix (xix K) (pe_lst (pa_k pe_str (pa_k pe_str (pa_k pe_str (pa_k pe_str pa_nil))))) (pe_op (xadd K) (pe_callTy call_int1 rfl B.b_int boot_int (pa_cons (pe_callB (xisiE K) rfl B.b_isinstance boot_isinstance (pa_n (pv 1) (pa_n (pe_cls rfl M.m_NoBy) pa_nil))) pa_nil)) (pe_op v_mul pe_int (pe_callTy call_int1 rfl B.b_int boot_int (pa_cons (pe_callB (xisiE K) rfl B.b_isinstance boot_isinstance (pa_n (pv 1) (pa_n (pe_cls rfl M.m_TooBig) pa_nil))) pa_nil)))) (fun _ _ => rfl)))))))),?_⟩
    rcases h with ⟨hb,q⟩ | ⟨h0,ok,hn,⟨c0,c1,c2,he⟩,hbig,q⟩
    · refine ⟨_,rfl,v,r,rfl,hR,.inl ⟨hb,_,rfl,?_⟩⟩
      refine ⟨M.s_NoBy_RuleError,fun a ha => ?_⟩
      have g0 := Same.new ha (excO a A_NoBy)
      have hA := upd_same (H := H) (a := a) (o := excO a A_NoBy)
      generalize upd H a (excO a A_NoBy) = H2 at g0 hA
      refine ⟨_,rfl,?_⟩
      refine ⟨_,rfl,(by show 6 ≤ sizeLine; decide),fun p hp => ?_⟩
      have g1 := Same.new hp (.tup [.ref A_NoName,.ref A_NoNumber,.ref A_NoRow,.ref A_NoText,.ref A_TooFar,.ref A_TooLong])
      have hA1 := g1 _ _ hA
      refine ⟨a,A_NoBy,.ref p,false,rfl,hA1,M.i_NoBy,.inr (.inr ⟨p,[A_NoName,A_NoNumber,A_NoRow,A_NoText,A_TooFar,A_TooLong],rfl,upd_same,?_⟩),?_⟩
      · simp only [List.map,PySem.W.kitAny,M.k_NoBy_NoName,M.k_NoBy_NoNumber,M.k_NoBy_NoRow,M.k_NoBy_NoText,M.k_NoBy_TooFar,M.k_NoBy_TooLong]
      generalize upd H2 p (.tup [.ref A_NoName,.ref A_NoNumber,.ref A_NoRow,.ref A_NoText,.ref A_TooFar,.ref A_TooLong]) = H3 at g1 hA1
      refine ⟨_,rfl,_,rfl,iteF ?_⟩
      refine ⟨_,rfl,a,A_NoBy,_,true,rfl,hA1,M.i_NoBy,.inr (.inl ⟨_,rfl,M.k_NoBy_ValueError⟩),_,rfl,iteF ?_⟩
      refine ⟨(by show 4 ≤ sizeLine; decide),fun pl hpl => ?_⟩
      have g2 := Same.new hpl (.lst [.str ("" : Str),.str ("by" : Str),.str ("big" : Str),.str ("both" : Str)])
      have hA2 := g2 _ _ hA1
      have hL := upd_same (H := H3) (a := pl) (o := .lst [.str ("" : Str),.str ("by" : Str),.str ("big" : Str),.str ("both" : Str)])
      generalize upd H3 pl (.lst [.str ("" : Str),.str ("by" : Str),.str ("big" : Str),.str ("both" : Str)]) = H4 at g2 hA2 hL
      refine ⟨_,rfl,a,A_NoBy,_,true,rfl,hA2,M.i_NoBy,.inl ⟨_,rfl,M.k_NoBy_NoBy⟩,.inr ⟨true,rfl,?_⟩⟩
      refine ⟨_,rfl,a,A_NoBy,_,false,rfl,hA2,M.i_NoBy,.inl ⟨_,rfl,M.k_NoBy_TooBig⟩,.inr ⟨false,rfl,mulL (by decide) (by decide),_,_,.inl (SqL.of hL),rfl,?_⟩⟩
      exact q _ (g0.trans (g1.trans g2))
    · refine ⟨_,rfl,v,r,rfl,hR,.inr ⟨h0,ok,hn,.inl ⟨c0,c1,c2,he,.inl ⟨hbig,fun Hx gx => ⟨_,rfl,?_⟩⟩⟩⟩⟩
      refine ⟨M.s_TooBig_RuleError,fun a ha => ?_⟩
      have g0 := gx.trans (Same.new ha (excO a A_TooBig))
      have hA := upd_same (H := Hx) (a := a) (o := excO a A_TooBig)
      generalize upd Hx a (excO a A_TooBig) = H2 at g0 hA
      refine ⟨_,rfl,?_⟩
      refine ⟨_,rfl,(by show 6 ≤ sizeLine; decide),fun p hp => ?_⟩
      have g1 := Same.new hp (.tup [.ref A_NoName,.ref A_NoNumber,.ref A_NoRow,.ref A_NoText,.ref A_TooFar,.ref A_TooLong])
      have hA1 := g1 _ _ hA
      refine ⟨a,A_TooBig,.ref p,false,rfl,hA1,M.i_TooBig,.inr (.inr ⟨p,[A_NoName,A_NoNumber,A_NoRow,A_NoText,A_TooFar,A_TooLong],rfl,upd_same,?_⟩),?_⟩
      · simp only [List.map,PySem.W.kitAny,M.k_TooBig_NoName,M.k_TooBig_NoNumber,M.k_TooBig_NoRow,M.k_TooBig_NoText,M.k_TooBig_TooFar,M.k_TooBig_TooLong]
      generalize upd H2 p (.tup [.ref A_NoName,.ref A_NoNumber,.ref A_NoRow,.ref A_NoText,.ref A_TooFar,.ref A_TooLong]) = H3 at g1 hA1
      refine ⟨_,rfl,_,rfl,iteF ?_⟩
      refine ⟨_,rfl,a,A_TooBig,_,true,rfl,hA1,M.i_TooBig,.inr (.inl ⟨_,rfl,M.k_TooBig_ValueError⟩),_,rfl,iteF ?_⟩
      refine ⟨(by show 4 ≤ sizeLine; decide),fun pl hpl => ?_⟩
      have g2 := Same.new hpl (.lst [.str ("" : Str),.str ("by" : Str),.str ("big" : Str),.str ("both" : Str)])
      have hA2 := g2 _ _ hA1
      have hL := upd_same (H := H3) (a := pl) (o := .lst [.str ("" : Str),.str ("by" : Str),.str ("big" : Str),.str ("both" : Str)])
      generalize upd H3 pl (.lst [.str ("" : Str),.str ("by" : Str),.str ("big" : Str),.str ("both" : Str)]) = H4 at g2 hA2 hL
      refine ⟨_,rfl,a,A_TooBig,_,false,rfl,hA2,M.i_TooBig,.inl ⟨_,rfl,M.k_TooBig_NoBy⟩,.inr ⟨false,rfl,?_⟩⟩
      refine ⟨_,rfl,a,A_TooBig,_,true,rfl,hA2,M.i_TooBig,.inl ⟨_,rfl,M.k_TooBig_TooBig⟩,.inr ⟨true,rfl,mulL (by decide) (by decide),_,_,.inl (SqL.of hL),rfl,?_⟩⟩
      exact q _ (g0.trans (g1.trans g2))
theorem ok_law (B : Bt mg) {f : Addr} {fd : FuncData} (F : Fun K "law" "law" s_law f fd) (M : Ms K mg base A_NoBy A_NoName A_NoNumber A_NoRow A_NoText A_RuleError A_TooBig A_TooFar A_TooLong) (C_Lat : Cal P w K mg base "_law_at" 1 ["_law_script","_law_k"] (spAt46 K)) (C_Lrefused : Cal P w K mg base "_law_refused" 10 ["_law_row"] spRef46) (C_Ltimes : Cal P w K mg base "_law_times" 1 ["_law_one","_law_other"] spLTimes) (C_closed : Cal P w K mg base "closed" 9 ["row"] (spClosed46 A_NoBy A_TooBig)) (C_Lrule : Cal P w K mg base "_law_rule" 1 ["_law_poly"] spLRule46) : FnOk P w K mg base (Flown P w) KLAW f fd ["_law_script"] (spLaw K) := by
  refine F.okN (k := 11) sc_law (fun vs H Q E h => ?_) (fun cdv A outer s H vs Q E hr h => ?_)
  · obtain ⟨a,ns,rfl,_⟩ := h; rfl
  · obtain ⟨a,ns,rfl,hS,hlen,q⟩ := h
    refine ⟨_,(pss_cons (ps_set (i := 1) sc_law.nd rfl (Or.inl rfl) (pe_op (xadd K) pe_int (pe_op op_mod (pe_callC C_Lat hr rfl (pa_n (pv 0) (pa_k pe_int pa_nil))) pe_int)))
      (pss_cons (ps_set (i := 2) sc_law.nd rfl (Or.inl rfl) (pe_callTy (xtuple K) rfl B.b_tuple boot_tuple (pa_b (pe_op (xadd K) (pe_op v_mul (pe_lst (pa_k pe_int pa_nil)) (pe_op op_sub (pv 1) pe_int)) (pe_lst (pa_b (pe_op (xadd K) pe_int (pe_op op_mod (pe_callC C_Lat hr rfl (pa_n (pv 0) (pa_k pe_int pa_nil))) pe_int)) pa_nil))) pa_nil)))
      (pss_cons (ps_set (i := 3) sc_law.nd rfl (Or.inr rfl) (pe_ix (xix K) (pe_lst (pa_k pe_int (pa_k pe_int (pa_k pe_int (pa_k pe_int pa_nil))))) (pe_op op_mod (pe_callC C_Lat hr rfl (pa_n (pv 0) (pa_k pe_int pa_nil))) pe_int) (fun _ _ => rfl)))
      (pss_cons (ps_set (i := 4) sc_law.nd rfl (Or.inl rfl) (pe_callTy (xtuple K) rfl B.b_tuple boot_tuple (pa_cons (pe_comp (sc := cs_law1) (N := ["_law_k","_law_by","_law_script"]) (ix := [none,some 3,some 0]) (comp_mk (by kernel_rfl) (by kernel_rfl) (by kernel_rfl) (by kernel_rfl) (by kernel_rfl) (by kernel_rfl) (by kernel_rfl) (by kernel_rfl)) rfl (pi_range1 rfl B.b_range (pa_n (pv 1) pa_nil)) (fun cl C s₀ H₀ ex => ⟨(pg_name (i := 0) (show (["_law_k","_law_by","_law_script"] : List Str).Nodup by decide +kernel) rfl (Or.inl rfl)),pif_nil,(pe_op op_mod (pe_callC C_Lat hr rfl (pa_n (pv 2) (pa_b (pe_op (xadd K) pe_int (pv 0)) pa_nil))) (pv 1))⟩)) pa_nil)))
      (pss_cons (ps_if (pt_cmpR (xne K hr) (pe_callC C_Lrefused hr rfl (pa_t (pe_tup (pa_n (pv 3) (pa_n (pv 4) (pa_cons (pe_callTy (xtuple K) rfl B.b_tuple boot_tuple (pa_cons (pe_comp (sc := cs_law2) (N := ["_law_number","_law_by"]) (ix := [none,some 3]) (comp_mk (by kernel_rfl) (by kernel_rfl) (by kernel_rfl) (by kernel_rfl) (by kernel_rfl) (by kernel_rfl) (by kernel_rfl) (by kernel_rfl)) rfl (xseq K (pv 2)) (fun cl C s₀ H₀ ex => ⟨(pg_name (i := 0) (show (["_law_number","_law_by"] : List Str).Nodup by decide +kernel) rfl (Or.inl rfl)),pif_nil,(pe_op op_mod (pv 0) (pv 1))⟩)) pa_nil)) pa_nil)))) pa_nil)) pe_str (nomark _))
      (pss_one (ps_ret pe_bl))
      pss_nil)
      (pss_cons (ps_set (i := 6) sc_law.nd rfl (Or.inl rfl) (pe_op (xadd K) (pe_op op_pow pe_int pe_int) (pe_op v_mul (pe_op op_mod (pe_callC C_Lat hr rfl (pa_n (pv 0) (pa_k pe_int pa_nil))) (pe_op op_pow pe_int pe_int)) (pe_op op_mod (pe_callC C_Lat hr rfl (pa_n (pv 0) (pa_k pe_int pa_nil))) pe_int))))
      (pss_cons (ps_bar (ps_if (pt_cmpR (xeq K hr) (pe_op op_mod (pe_op op_fdiv (pe_callC C_Lat hr rfl (pa_n (pv 0) (pa_k pe_int pa_nil))) pe_int) pe_int) pe_int (nomark _))
      (pss_one (ps_set (i := 6) sc_law.nd rfl (Or.inl rfl) (pe_op op_sub pe_int (pv 6))))
      pss_nil))
      (pss_cons (ps_set (i := 7) sc_law.nd rfl (Or.inl rfl) (pe_op op_mod (pe_callC C_Lat hr rfl (pa_n (pv 0) (pa_k pe_int pa_nil))) (pv 1)))
      (pss_cons (ps_setC (i := 4) (hN := sc_law.nd) (hi' := rfl) (hx := (Or.inl rfl)) (sc := cs_law3) (N := ["_law_k","_law_script"]) (ix := [none,some 0]) (comp_mk (by kernel_rfl) (by kernel_rfl) (by kernel_rfl) (by kernel_rfl) (by kernel_rfl) (by kernel_rfl) (by kernel_rfl) (by kernel_rfl)) rfl (pi_range1 rfl B.b_range (pa_n (pv 1) pa_nil)) (fun cl C s₀ H₀ ex => ⟨(pg_name (i := 0) (show (["_law_k","_law_script"] : List Str).Nodup by decide +kernel) rfl (Or.inl rfl)),pif_nil,(pe_op op_sub (pe_op op_mod (pe_callC C_Lat hr rfl (pa_n (pv 1) (pa_b (pe_op (xadd K) pe_int (pv 0)) pa_nil))) pe_int) pe_int)⟩))
      (pss_cons (ps_if (pt_cmpR (xne K hr) (pe_callC C_Lrefused hr rfl (pa_t (pe_tup (pa_k pe_int (pa_cons (pe_callTy (xtuple K) rfl B.b_tuple boot_tuple (pa_b (pe_op (xadd K) (pe_op (xadd K) (pe_slice (xsl K) (pv 4) po_none (po_some (pv 7))) (pe_lst (pa_n (pv 6) pa_nil))) (pe_slice (xsl K) (pv 4) (po_some (pe_op (xadd K) (pv 7) pe_int)) po_none)) pa_nil)) (pa_n (pv 2) pa_nil)))) pa_nil)) pe_str (nomark _))
      (pss_one (ps_ret pe_bl))
      pss_nil)
      (pss_cons (ps_set (i := 8) sc_law.nd rfl (Or.inl rfl) (pe_ix (xix K) (pe_lst (pa_l (pe_lst (pa_k pe_int (pa_k pe_int (pa_k pe_int pa_nil)))) (pa_l (pe_lst (pa_k pe_int (pa_k pe_int (pa_k pe_int pa_nil)))) (pa_l (pe_lst (pa_u (pe_un un_neg pe_int) (pa_k pe_int (pa_k pe_int pa_nil)))) (pa_l (pe_lst (pa_k pe_int (pa_k pe_int (pa_k pe_int (pa_k pe_int pa_nil))))) (pa_l (pe_lst (pa_k pe_int (pa_k pe_int pa_nil))) (pa_l (pe_lst (pa_k pe_int (pa_k pe_int (pa_k pe_int pa_nil)))) (pa_l (pe_lst (pa_k pe_int (pa_k pe_int (pa_k pe_int pa_nil)))) pa_nil)))))))) (pe_op op_mod (pe_callC C_Lat hr rfl (pa_n (pv 0) (pa_k pe_int pa_nil))) pe_int) (fun _ _ => rfl)))
      (pss_cons (ps_for PassesOwn.never rfl (pi_range1 rfl B.b_range (pa_b (pe_op op_mod (pe_callC C_Lat hr rfl (pa_n (pv 0) (pa_k pe_int pa_nil))) pe_int) pa_nil)) (pg_name (i := 5) sc_law.nd rfl (Or.inl rfl))
      (pss_one (ps_set (i := 8) sc_law.nd rfl (Or.inl rfl) (pe_callC C_Ltimes hr rfl (pa_n (pv 8) (pa_l (pe_lst (pa_b (pe_op (xadd K) (pe_op op_mod (pe_callC C_Lat hr rfl (pa_n (pv 0) (pa_b (pe_op (xadd K) pe_int (pv 5)) pa_nil))) pe_int) pe_int) (pa_k pe_int pa_nil))) pa_nil))))))
      (pss_cons (ps_set (i := 9) sc_law.nd rfl (Or.inl rfl) (pe_callC C_closed hr rfl (pa_t (pe_tup (pa_k pe_int (pa_cons (pe_callC C_Lrule hr rfl (pa_n (pv 8) pa_nil)) (pa_cons (pe_callTy (xtuple K) rfl B.b_tuple boot_tuple (pa_b (pe_op (xadd K) (pe_op v_mul (pe_lst (pa_k pe_int pa_nil)) (pe_op op_sub (pe_callB (xlen K) rfl B.b_len boot_len (pa_n (pv 8) pa_nil)) pe_int)) (pe_lst (pa_b (pe_op (xadd K) pe_int (pe_op op_mod (pe_callC C_Lat hr rfl (pa_n (pv 0) (pa_k pe_int pa_nil))) pe_int)) pa_nil))) pa_nil)) pa_nil)))) pa_nil)))
      (pss_cons (ps_if (pt_cmp (pc_notN (pv 9)))
      (pss_one (ps_ret pe_bl))
      pss_nil)
      (pss_one (ps_ret (pe_cmpR (xeq K hr) (pe_callC C_closed hr rfl (pa_t (pe_tup (pa_k pe_int (pa_cons (pe_callTy (xtuple K) rfl B.b_tuple boot_tuple (pa_n (pv 4) pa_nil)) (pa_cons (pe_callTy (xtuple K) rfl B.b_tuple boot_tuple (pa_b (pe_op v_mul (pe_lst (pa_k pe_int pa_nil)) (pv 1)) pa_nil)) pa_nil)))) pa_nil)) (pe_tup (pa_k pe_int (pa_l (pe_lst pa_nil) pa_nil))) (nomark _)))))))))))))))))),?_⟩
    refine ⟨_,rfl,a,ns,0,rfl,hS,hlen,by decide,by decide,fun c0 => ⟨_,_,rfl,rfl,(by decide : (0 : Int) < 5),?_⟩⟩
    obtain ⟨n,en,n1,n5⟩ : ∃ n : Nat,1 + c0 % 5 = (n : Int) ∧ 1 ≤ n ∧ n ≤ 5 := by
      have h0 := emod_lo c0 (show (0 : Int) < 5 by decide)
      have h1 := emod_hi c0 (show (0 : Int) < 5 by decide)
      exact ⟨(1 + c0 % 5).toNat,by omega,by omega,by omega⟩
    dsimp only [rAddV]
    rw [en]
    refine ⟨(by show 1 ≤ sizeLine; decide),fun l0 h0 => ?_⟩
    have g0 := Same.new h0 (.lst [.int 0])
    have enn : ((n : Int) - 1).toNat = n - 1 := by omega
    refine ⟨_,rfl,_,_,rfl,rfl,_,upd_same,by omega,by omega,?_,fun l1 hl1 => ?_⟩
    · rw [enn]; show 1 * (n - 1) ≤ sizeLine; rw [Nat.one_mul]; exact Nat.le_of_lt (small1000 (by omega))
    rw [enn,replicate_ofF]
    have g1 := g0.trans (Same.new hl1 (.lst ((Pm.ofF (n - 1) fun _ => 0).map V.int)))
    have h1 : (upd (upd H l0 (.lst [.int 0])) l1 (.lst ((Pm.ofF (n - 1) fun _ => 0).map V.int))) l1 = some (.lst ((Pm.ofF (n - 1) fun _ => 0).map V.int)) := upd_same
    generalize upd (upd H l0 (.lst [.int 0])) l1 (.lst ((Pm.ofF (n - 1) fun _ => 0).map V.int)) = H1 at g1 h1
    have hS1 := g1.seq hS
    refine ⟨_,rfl,a,ns,1,rfl,hS1,hlen,by decide,by decide,fun c1 => ⟨_,_,rfl,rfl,(by decide : (0 : Int) < 9),?_⟩⟩
    obtain ⟨ce,ec,ce1,ce9⟩ : ∃ m : Nat,1 + c1 % 9 = (m : Int) ∧ 0 < m ∧ m < 1000 := by
      have h0 := emod_lo c1 (show (0 : Int) < 9 by decide)
      have h1 := emod_hi c1 (show (0 : Int) < 9 by decide)
      exact ⟨(1 + c1 % 9).toNat,by omega,by omega,by omega⟩
    dsimp only [rAddV]
    rw [ec]
    refine ⟨(by show 1 ≤ sizeLine; decide),fun l2 hl2 => ?_⟩
    have g2 := Same.new hl2 (.lst [.int (ce : Int)])
    have h2 : (upd H1 l2 (.lst [.int (ce : Int)])) l2 = some (.lst [.int (ce : Int)]) := upd_same
    have h12 := g2 _ _ h1
    generalize upd H1 l2 (.lst [.int (ce : Int)]) = H2 at g2 h2 h12
    refine .inl ⟨_,_,h12,h2,?_,fun l3 hl3 => ?_⟩
    · rw [List.length_map,Pm.ofF_len]; exact Nat.le_of_lt (small1000 (by show _ + 1 ≤ 1000; omega))
    have ee : (Pm.ofF (n - 1) fun _ => 0).map V.int ++ [.int (ce : Int)] = (ends46 n (ce : Int)).map V.int := by rw [← ends_eq n1,map_snoc]
    rw [ee]
    refine ⟨l3,_,rfl,.inl ⟨SqL.of upd_same,fun te hte => ?_⟩⟩
    have g3 := (Same.new hl3 (.lst ((ends46 n (ce : Int)).map V.int))).trans (Same.new hte (.tup ((ends46 n (ce : Int)).map V.int)))
    have h3 : (upd (upd H2 l3 (.lst ((ends46 n (ce : Int)).map V.int))) te (.tup ((ends46 n (ce : Int)).map V.int))) te = some (.tup ((ends46 n (ce : Int)).map V.int)) := upd_same
    have g13 := g1.trans (g2.trans g3)
    generalize upd (upd H2 l3 (.lst ((ends46 n (ce : Int)).map V.int))) te (.tup ((ends46 n (ce : Int)).map V.int)) = H3 at g3 h3 g13
    have hS3 := g13.seq hS
    refine ⟨(by show 4 ≤ sizeLine; decide),fun p1 hp1 => ?_⟩
    have g4 := Same.new hp1 (.lst (byL46.map V.int))
    refine ⟨_,rfl,a,ns,2,rfl,g4.seq hS3,hlen,by decide,by decide,fun c2 => ?_⟩
    have e0 := emod_lo c2 (show (0 : Int) < 4 by decide)
    have e1 := emod_hi c2 (show (0 : Int) < 4 by decide)
    refine ⟨_,_,rfl,rfl,(by decide : (0 : Int) < 4),_,_,.inl (SqL.of upd_same),atI_ints (ns := byL46) e0 e1,?_⟩
    obtain ⟨b,hb,hb0⟩ : ∃ b,byL46.getD (c2 % 4).toNat 0 = b ∧ 0 < b := ⟨_,rfl,byL46_ok _ (by omega)⟩
    rw [hb]
    have eH : (upd H3 p1 (.lst [.int 2,.int 3,.int 7,.int 997])) = upd H3 p1 (.lst (byL46.map V.int)) := rfl
    rw [eH]
    have h34 := g4 _ _ h3
    have g14 := g13.trans g4
    generalize upd H3 p1 (.lst (byL46.map V.int)) = H4 at g4 h34 g14
    have hS4 := g14.seq hS
    refine ⟨_,rfl,(n : Int),rfl,(by omega : -(2 ^ 62) ≤ (n : Int)),(by omega : (n : Int) < 2 ^ 62),?_⟩
    rw [Int.toNat_natCast]
    refine comp_rngP (n := n) (by omega) rfl (fun _ => True) ?_ ?_
    · intro H5 k g5 hk kk hkk
      exact ⟨_,rfl,_,rfl,a,ns,_,rfl,g5.seq hS4,hlen,(by omega : (0 : Int) ≤ 3 + (0 + (k : Int))),(by omega : 3 + (0 + (k : Int)) ≤ 100),fun c => ⟨_,rfl,_,_,rfl,rfl,hb0,hkk _ _ (Same.refl _) trivial⟩⟩
    intro D5 H5 xs5 hD5 g5 h5 lx5 _
    refine ⟨D5,_,rfl,.inl ⟨SqL.of h5,fun t5 ht5 => ?_⟩⟩
    have g6 := Same.new ht5 (.tup (xs5.map V.int))
    have h6 : (upd H5 t5 (.tup (xs5.map V.int))) t5 = some (.tup (xs5.map V.int)) := upd_same
    have h36 := g6 _ _ (g5 _ _ h34)
    have g16 := g14.trans (g5.trans g6)
    generalize upd H5 t5 (.tup (xs5.map V.int)) = H6 at g6 h6 h36 g16
    refine ⟨_,rfl,_,rfl,_,rfl,te,rfl,.inr ⟨⟨_,SqT.of h36⟩,comp_tup h36 (by rw [ends_len]; omega) rfl (fun x => x % b) ?_ ?_⟩⟩
    · intro H7 x g7 hx k hk
      exact ⟨_,rfl,_,rfl,_,_,rfl,rfl,hb0,hk⟩
    intro D7 hD7
    refine ⟨D7,_,rfl,.inl ⟨SqL.of upd_same,fun t7 ht7 => ?_⟩⟩
    have g7 := (Same.new hD7 (.lst (((ends46 n (ce : Int)).map fun x => x % b).map V.int))).trans (Same.new ht7 (.tup (((ends46 n (ce : Int)).map fun x => x % b).map V.int)))
    have h7 : (upd (upd H6 D7 (.lst (((ends46 n (ce : Int)).map fun x => x % b).map V.int))) t7 (.tup (((ends46 n (ce : Int)).map fun x => x % b).map V.int))) t7 = some (.tup (((ends46 n (ce : Int)).map fun x => x % b).map V.int)) := upd_same
    have h67 := g7 _ _ h6
    have h37 := g7 _ _ h36
    have g17 := g16.trans g7
    generalize upd (upd H6 D7 (.lst (((ends46 n (ce : Int)).map fun x => x % b).map V.int))) t7 (.tup (((ends46 n (ce : Int)).map fun x => x % b).map V.int)) = H7 at g7 h7 h67 h37 g17
    refine ⟨(by show 3 ≤ sizeLine; decide),fun t8 ht8 => ?_⟩
    have g8 := Same.new ht8 (.tup [.int b,.ref t5,.ref t7])
    refine ⟨.ref t8,⟨b,xs5,(ends46 n (ce : Int)).map fun x => x % b⟩,rfl,⟨t8,t5,t7,rfl,upd_same,g8 _ _ h67,g8 _ _ h7⟩,.inl ⟨by show b ≠ 0; omega,fun H9 g9 => ?_⟩⟩
    refine ⟨_,rfl,iteF ?_⟩
    have h39 := g9 _ _ (g8 _ _ h37)
    have g19 := g17.trans (g8.trans g9)
    have hS9 := g19.seq hS
    clear h1 h2 h12 h3 h34 h5 h6 h36 h7 h67 h37
    have hM : (0 : Int) < 10 ^ (30 : Int).toNat := by decide
    refine ⟨_,_,rfl,rfl,⟨by decide,by decide,by decide⟩,?_⟩
    refine ⟨_,rfl,a,ns,10,rfl,hS9,hlen,by decide,by decide,fun c10 => ⟨_,_,rfl,rfl,⟨by decide,by decide,by decide⟩,_,_,rfl,rfl,hM,?_⟩⟩
    refine ⟨_,rfl,a,ns,11,rfl,hS9,hlen,by decide,by decide,fun c11 => ⟨_,_,rfl,rfl,(by decide : (0 : Int) < 2),?_⟩⟩
    have f0 := emod_lo c11 (show (0 : Int) < 2 by decide)
    have f1 := emod_hi c11 (show (0 : Int) < 2 by decide)
    refine ⟨mulR (by omega) (by omega),?_⟩
    have f2 := emod_lo c10 hM
    have f3 := emod_hi c10 hM
    have hq30 : (10 : Int) ^ (30 : Int).toNat = 10 ^ 30 := rfl
    have hq6 : (10 : Int) ^ (6 : Int).toNat = 10 ^ 6 := rfl
    obtain ⟨B0,eB0,b1,b2⟩ : ∃ B0 : Int,(10 : Int) ^ (6 : Int).toNat + c10 % 10 ^ (30 : Int).toNat * (c11 % 2) = B0 ∧ 1000000 ≤ B0 ∧ B0 < 2 ^ 110 := by
      refine ⟨_,rfl,?_,?_⟩ <;> rw [hq6] <;> rw [hq30] at f3 ⊢ <;> rcases (show c11 % 2 = 0 ∨ c11 % 2 = 1 by omega) with z | z <;> rw [z] <;> omega
    dsimp only [rAddV]
    rw [eB0]
    clear eB0 f2 f3 hq30 hq6
    refine BarS.by (fun σ' H' => ∃ B : Int,σ' = [some (.ref a),some (.int (n : Int)),some (.ref te),some (.int b),some (.ref t5),none,some (.int B),none,none,none] ∧ H' = H9 ∧ 1000000 ≤ B.natAbs ∧ Rm.Bd 110 B) (fun NN hNN => ?_) ?_
    · refine ⟨_,rfl,a,ns,11,rfl,hS9,hlen,by decide,by decide,fun c12 => ⟨_,_,rfl,rfl,⟨by decide,by decide⟩,_,_,rfl,rfl,(by decide : (0 : Int) < 2),_,rfl,?_⟩⟩
      refine ite2 (fun _ => ?_) (fun _ => hNN _ _ ⟨B0,rfl,rfl,by omega,Rm.Bd.of (by omega) (by omega)⟩)
      exact ⟨_,rfl,_,_,rfl,rfl,hNN _ _ ⟨0 - B0,rfl,rfl,by omega,Rm.Bd.of (by omega) (by omega)⟩⟩
    rintro _ _ ⟨B,rfl,rfl,hB1,hB2⟩
    have hn0 : (0 : Int) < (n : Int) := by omega
    refine ⟨_,rfl,a,ns,12,rfl,hS9,hlen,by decide,by decide,fun c13 => ⟨_,rfl,_,_,rfl,rfl,hn0,?_⟩⟩
    obtain ⟨m,em,hm⟩ : ∃ m : Nat,c13 % (n : Int) = (m : Int) ∧ m < n := by
      have h0 := emod_lo c13 hn0
      have h1 := emod_hi c13 hn0
      exact ⟨(c13 % (n : Int)).toNat,by omega,by omega⟩
    dsimp only
    rw [em]
    refine ⟨_,rfl,(n : Int),rfl,(by omega : -(2 ^ 62) ≤ (n : Int)),(by omega : (n : Int) < 2 ^ 62),?_⟩
    rw [Int.toNat_natCast]
    refine comp_rngP (n := n) (by omega) rfl (fun x => Rm.Bd 10 x) ?_ ?_
    · intro H10 k g10 hk kk hkk
      refine ⟨_,rfl,_,rfl,a,ns,_,rfl,g10.seq hS9,hlen,(by omega : (0 : Int) ≤ 13 + (0 + (k : Int))),(by omega : 13 + (0 + (k : Int)) ≤ 100),fun c => ⟨_,_,rfl,rfl,(by decide : (0 : Int) < 7),_,_,rfl,rfl,hkk _ _ (Same.refl _) ?_⟩⟩
      have h0 := emod_lo c (show (0 : Int) < 7 by decide)
      have h1 := emod_hi c (show (0 : Int) < 7 by decide)
      exact Rm.Bd.of (by omega) (by omega)
    intro lR H10 xs hlR g10 hR10 lxs bxs
    have g1A := g19.trans g10
    have hSA := g1A.seq hS
    have hte := g10 _ _ h39
    have lXs : (xs.map V.int).length = xs.length := List.length_map _
    refine ⟨_,rfl,_,rfl,(m : Int),rfl,.inl ⟨_,SqL.of hR10,fun l1 hl1 => ?_⟩⟩
    rw [cut_to,← List.map_take]
    have g11 := Same.new hl1 (.lst ((xs.take m).map V.int))
    have h11 : (upd H10 l1 (.lst ((xs.take m).map V.int))) l1 = some (.lst ((xs.take m).map V.int)) := upd_same
    have hR11 := g11 _ _ hR10
    generalize upd H10 l1 (.lst ((xs.take m).map V.int)) = H11 at g11 h11 hR11
    refine ⟨_,rfl,(by show 1 ≤ sizeLine; decide),fun l2 hl2 => ?_⟩
    have g12 := Same.new hl2 (.lst [.int B])
    have h12 : (upd H11 l2 (.lst [.int B])) l2 = some (.lst [.int B]) := upd_same
    have h11' := g12 _ _ h11
    have hR12 := g12 _ _ hR11
    generalize upd H11 l2 (.lst [.int B]) = H12 at g12 h12 h11' hR12
    refine .inl ⟨_,_,h11',h12,?_,fun l3 hl3 => ?_⟩
    · rw [List.length_map,List.length_take]; exact Nat.le_of_lt (small1000 (by show _ + 1 ≤ 1000; omega))
    rw [← map_snoc]
    have g13' := Same.new hl3 (.lst ((xs.take m ++ [B]).map V.int))
    have h13 : (upd H12 l3 (.lst ((xs.take m ++ [B]).map V.int))) l3 = some (.lst ((xs.take m ++ [B]).map V.int)) := upd_same
    have hR13 := g13' _ _ hR12
    generalize upd H12 l3 (.lst ((xs.take m ++ [B]).map V.int)) = H13 at g13' h13 hR13
    refine ⟨_,rfl,_,rfl,(m : Int) + 1,rfl,.inl ⟨_,SqL.of hR13,fun l4 hl4 => ?_⟩⟩
    rw [cut_nextN,← List.map_drop]
    have g14' := Same.new hl4 (.lst ((xs.drop (m + 1)).map V.int))
    have h14 : (upd H13 l4 (.lst ((xs.drop (m + 1)).map V.int))) l4 = some (.lst ((xs.drop (m + 1)).map V.int)) := upd_same
    have h13' := g14' _ _ h13
    have hR14 := g14' _ _ hR13
    generalize upd H13 l4 (.lst ((xs.drop (m + 1)).map V.int)) = H14 at g14' h14 h13' hR14
    refine .inl ⟨_,_,h13',h14,?_,fun l5 hl5 => ?_⟩
    · rw [List.length_map,List.length_map,List.length_append,List.length_take,List.length_drop]; exact Nat.le_of_lt (small1000 (by show _ + 1 + _ ≤ 1000; omega))
    rw [← List.map_append]
    refine ⟨l5,_,rfl,.inl ⟨SqL.of upd_same,fun t6 ht6 => ?_⟩⟩
    obtain ⟨RL,hRL⟩ : ∃ RL,RL = xs.take m ++ [B] ++ xs.drop (m + 1) := ⟨_,rfl⟩
    rw [← hRL]
    rw [← hRL] at ht6
    have lRL : RL.length = n := by rw [hRL,List.length_append,List.length_append,List.length_take,List.length_drop]; show _ + 1 + _ = _; omega
    have g15 := (Same.new hl5 (.lst (RL.map V.int))).trans (Same.new ht6 (.tup (RL.map V.int)))
    have h15 : (upd (upd H14 l5 (.lst (RL.map V.int))) t6 (.tup (RL.map V.int))) t6 = some (.tup (RL.map V.int)) := upd_same
    have g1F := g11.trans (g12.trans (g13'.trans (g14'.trans g15)))
    have hte5 := g1F _ _ hte
    have hR15 := g15 _ _ hR14
    generalize upd (upd H14 l5 (.lst (RL.map V.int))) t6 (.tup (RL.map V.int)) = H15 at g15 h15 g1F hte5 hR15
    refine ⟨_,rfl,(by show 3 ≤ sizeLine; decide),fun t7' ht7' => ?_⟩
    have g16' := Same.new ht7' (.tup [.int 0,.ref t6,.ref te])
    have bRL : ∀ x ∈ RL,Rm.Bd 200 x := fun x hx => by
      rw [hRL] at hx
      rcases List.mem_append.mp hx with hx | hx
      · rcases List.mem_append.mp hx with hx | hx
        · exact (bxs x (List.mem_of_mem_take hx)).mono (by decide)
        · rw [List.mem_singleton.mp hx]; exact hB2.mono (by decide)
      · exact (bxs x (List.mem_of_mem_drop hx)).mono (by decide)
    have bE : ∀ x ∈ ends46 n (ce : Int),Rm.Bd 1000 x := fun x hx => by
      rcases ends_mem hx with rfl | rfl
      · exact (Rm.Bd.of (n := 10) (by omega) (by omega)).mono (by decide)
      · exact Rm.Bd.zero _
    have okB := rw46 (R := RL) (S := ends46 n (ce : Int)) lRL (ends_len ..) (by omega) bRL bE
    have hBm : B ∈ RL := by rw [hRL]; exact List.mem_append_left _ (List.mem_append_right _ (List.mem_singleton.mpr rfl))
    refine ⟨.ref t7',⟨0,RL,ends46 n (ce : Int)⟩,rfl,⟨t7',t6,te,rfl,upd_same,g16' _ _ h15,g16' _ _ hte5⟩,.inr ⟨rfl,okB,(by show 0 < RL.length; omega),⟨ce,ce1,ce9,(by show ends46 n (ce : Int) = ends46 RL.length (ce : Int); rw [lRL])⟩,⟨0 - B,ofRule_mem hBm,by omega⟩,fun H17 g17' => ?_⟩⟩
    refine ⟨_,rfl,iteF ?_⟩
    have g1G := g1A.trans (g1F.trans (g16'.trans g17'))
    have hRG := g17' _ _ (g16' _ _ hR15)
    have hSG := g1G.seq hS
    refine ⟨(by show 3 ≤ sizeLine; decide),fun q0 hq0 => ?_⟩
    have gq0 := Same.new hq0 (.lst ((Pm.otherL.getD 0 []).map V.int))
    have hv0 : (upd H17 q0 (.lst ((Pm.otherL.getD 0 []).map V.int))) q0 = some (.lst ((Pm.otherL.getD 0 []).map V.int)) := upd_same
    have hRG0x := gq0 _ _ hRG
    have eq0 : upd H17 q0 (.lst [.int 1,.int 0,.int 1]) = upd H17 q0 (.lst ((Pm.otherL.getD 0 []).map V.int)) := rfl
    rw [eq0]
    generalize upd H17 q0 (.lst ((Pm.otherL.getD 0 []).map V.int)) = Hq0 at gq0 hv0 hRG0x ⊢
    refine ⟨(by show 3 ≤ sizeLine; decide),fun q1 hq1 => ?_⟩
    have gq1 := Same.new hq1 (.lst ((Pm.otherL.getD 1 []).map V.int))
    have hv1 : (upd Hq0 q1 (.lst ((Pm.otherL.getD 1 []).map V.int))) q1 = some (.lst ((Pm.otherL.getD 1 []).map V.int)) := upd_same
    have hRG0x1x := gq1 _ _ hRG0x
    have hv01x := gq1 _ _ hv0
    have eq1 : upd Hq0 q1 (.lst [.int 1,.int 1,.int 1]) = upd Hq0 q1 (.lst ((Pm.otherL.getD 1 []).map V.int)) := rfl
    rw [eq1]
    generalize upd Hq0 q1 (.lst ((Pm.otherL.getD 1 []).map V.int)) = Hq1 at gq1 hv1 hRG0x1x hv01x ⊢
    refine ⟨2,rfl,(by show 3 ≤ sizeLine; decide),fun q2 hq2 => ?_⟩
    have gq2 := Same.new hq2 (.lst ((Pm.otherL.getD 2 []).map V.int))
    have hv2 : (upd Hq1 q2 (.lst ((Pm.otherL.getD 2 []).map V.int))) q2 = some (.lst ((Pm.otherL.getD 2 []).map V.int)) := upd_same
    have hRG0x1x2x := gq2 _ _ hRG0x1x
    have hv01x2x := gq2 _ _ hv01x
    have hv12x := gq2 _ _ hv1
    have eq2 : upd Hq1 q2 (.lst [.int (-2),.int 0,.int 1]) = upd Hq1 q2 (.lst ((Pm.otherL.getD 2 []).map V.int)) := rfl
    rw [eq2]
    generalize upd Hq1 q2 (.lst ((Pm.otherL.getD 2 []).map V.int)) = Hq2 at gq2 hv2 hRG0x1x2x hv01x2x hv12x ⊢
    refine ⟨(by show 4 ≤ sizeLine; decide),fun q3 hq3 => ?_⟩
    have gq3 := Same.new hq3 (.lst ((Pm.otherL.getD 3 []).map V.int))
    have hv3 : (upd Hq2 q3 (.lst ((Pm.otherL.getD 3 []).map V.int))) q3 = some (.lst ((Pm.otherL.getD 3 []).map V.int)) := upd_same
    have hRG0x1x2x3x := gq3 _ _ hRG0x1x2x
    have hv01x2x3x := gq3 _ _ hv01x2x
    have hv12x3x := gq3 _ _ hv12x
    have hv23x := gq3 _ _ hv2
    have eq3 : upd Hq2 q3 (.lst [.int 2,.int 0,.int 0,.int 1]) = upd Hq2 q3 (.lst ((Pm.otherL.getD 3 []).map V.int)) := rfl
    rw [eq3]
    generalize upd Hq2 q3 (.lst ((Pm.otherL.getD 3 []).map V.int)) = Hq3 at gq3 hv3 hRG0x1x2x3x hv01x2x3x hv12x3x hv23x ⊢
    refine ⟨(by show 2 ≤ sizeLine; decide),fun q4 hq4 => ?_⟩
    have gq4 := Same.new hq4 (.lst ((Pm.otherL.getD 4 []).map V.int))
    have hv4 : (upd Hq3 q4 (.lst ((Pm.otherL.getD 4 []).map V.int))) q4 = some (.lst ((Pm.otherL.getD 4 []).map V.int)) := upd_same
    have hRG0x1x2x3x4x := gq4 _ _ hRG0x1x2x3x
    have hv01x2x3x4x := gq4 _ _ hv01x2x3x
    have hv12x3x4x := gq4 _ _ hv12x3x
    have hv23x4x := gq4 _ _ hv23x
    have hv34x := gq4 _ _ hv3
    have eq4 : upd Hq3 q4 (.lst [.int 0,.int 1]) = upd Hq3 q4 (.lst ((Pm.otherL.getD 4 []).map V.int)) := rfl
    rw [eq4]
    generalize upd Hq3 q4 (.lst ((Pm.otherL.getD 4 []).map V.int)) = Hq4 at gq4 hv4 hRG0x1x2x3x4x hv01x2x3x4x hv12x3x4x hv23x4x hv34x ⊢
    refine ⟨(by show 3 ≤ sizeLine; decide),fun q5 hq5 => ?_⟩
    have gq5 := Same.new hq5 (.lst ((Pm.otherL.getD 5 []).map V.int))
    have hv5 : (upd Hq4 q5 (.lst ((Pm.otherL.getD 5 []).map V.int))) q5 = some (.lst ((Pm.otherL.getD 5 []).map V.int)) := upd_same
    have hRG0x1x2x3x4x5x := gq5 _ _ hRG0x1x2x3x4x
    have hv01x2x3x4x5x := gq5 _ _ hv01x2x3x4x
    have hv12x3x4x5x := gq5 _ _ hv12x3x4x
    have hv23x4x5x := gq5 _ _ hv23x4x
    have hv34x5x := gq5 _ _ hv34x
    have hv45x := gq5 _ _ hv4
    have eq5 : upd Hq4 q5 (.lst [.int 0,.int 0,.int 1]) = upd Hq4 q5 (.lst ((Pm.otherL.getD 5 []).map V.int)) := rfl
    rw [eq5]
    generalize upd Hq4 q5 (.lst ((Pm.otherL.getD 5 []).map V.int)) = Hq5 at gq5 hv5 hRG0x1x2x3x4x5x hv01x2x3x4x5x hv12x3x4x5x hv23x4x5x hv34x5x hv45x ⊢
    refine ⟨(by show 3 ≤ sizeLine; decide),fun q6 hq6 => ?_⟩
    have gq6 := Same.new hq6 (.lst ((Pm.otherL.getD 6 []).map V.int))
    have hv6 : (upd Hq5 q6 (.lst ((Pm.otherL.getD 6 []).map V.int))) q6 = some (.lst ((Pm.otherL.getD 6 []).map V.int)) := upd_same
    have hRG0x1x2x3x4x5x6x := gq6 _ _ hRG0x1x2x3x4x5x
    have hv01x2x3x4x5x6x := gq6 _ _ hv01x2x3x4x5x
    have hv12x3x4x5x6x := gq6 _ _ hv12x3x4x5x
    have hv23x4x5x6x := gq6 _ _ hv23x4x5x
    have hv34x5x6x := gq6 _ _ hv34x5x
    have hv45x6x := gq6 _ _ hv45x
    have hv56x := gq6 _ _ hv5
    have eq6 : upd Hq5 q6 (.lst [.int 0,.int 0,.int 1]) = upd Hq5 q6 (.lst ((Pm.otherL.getD 6 []).map V.int)) := rfl
    rw [eq6]
    generalize upd Hq5 q6 (.lst ((Pm.otherL.getD 6 []).map V.int)) = Hq6 at gq6 hv6 hRG0x1x2x3x4x5x6x hv01x2x3x4x5x6x hv12x3x4x5x6x hv23x4x5x6x hv34x5x6x hv45x6x hv56x ⊢
    have gQ := g1G.trans (gq0.trans (gq1.trans (gq2.trans (gq3.trans (gq4.trans (gq5.trans (gq6)))))))
    refine ⟨(by show 7 ≤ sizeLine; decide),fun lo hlo => ?_⟩
    have gq7 := Same.new hlo (.lst [.ref q0,.ref q1,.ref q2,.ref q3,.ref q4,.ref q5,.ref q6])
    have pick : ∀ j,j < 7 → ∃ lp,([.ref q0,.ref q1,.ref q2,.ref q3,.ref q4,.ref q5,.ref q6] : List V)[j]? = some (.ref lp) ∧ (upd Hq6 lo (.lst [.ref q0,.ref q1,.ref q2,.ref q3,.ref q4,.ref q5,.ref q6])) lp = some (.lst ((Pm.otherL.getD j []).map V.int)) := fun j hj => by
      match j,hj with
      | 0,_ => exact ⟨q0,rfl,gq7 _ _ hv01x2x3x4x5x6x⟩
      | 1,_ => exact ⟨q1,rfl,gq7 _ _ hv12x3x4x5x6x⟩
      | 2,_ => exact ⟨q2,rfl,gq7 _ _ hv23x4x5x6x⟩
      | 3,_ => exact ⟨q3,rfl,gq7 _ _ hv34x5x6x⟩
      | 4,_ => exact ⟨q4,rfl,gq7 _ _ hv45x6x⟩
      | 5,_ => exact ⟨q5,rfl,gq7 _ _ hv56x⟩
      | 6,_ => exact ⟨q6,rfl,gq7 _ _ hv6⟩
    have hRQ := gq7 _ _ hRG0x1x2x3x4x5x6x
    have hloQ : (upd Hq6 lo (.lst [.ref q0,.ref q1,.ref q2,.ref q3,.ref q4,.ref q5,.ref q6])) lo = some (.lst [.ref q0,.ref q1,.ref q2,.ref q3,.ref q4,.ref q5,.ref q6]) := upd_same
    have gQ7 := gQ.trans gq7
    generalize upd Hq6 lo (.lst [.ref q0,.ref q1,.ref q2,.ref q3,.ref q4,.ref q5,.ref q6]) = HQ at gq7 pick hRQ hloQ gQ7
    have hSQ := gQ7.seq hS
    refine ⟨_,rfl,a,ns,20,rfl,hSQ,hlen,by decide,by decide,fun c20 => ⟨_,_,rfl,rfl,(by decide : (0 : Int) < 7),?_⟩⟩
    obtain ⟨j,ej,hj⟩ : ∃ j : Nat,c20 % 7 = (j : Int) ∧ j < 7 := by
      have h0 := emod_lo c20 (show (0 : Int) < 7 by decide)
      have h1 := emod_hi c20 (show (0 : Int) < 7 by decide)
      exact ⟨(c20 % 7).toNat,by omega,by omega⟩
    obtain ⟨lp,ep1,ep2⟩ := pick j hj
    refine ⟨_,.ref lp,.inl (SqL.of hloQ),atI_len j ej ep1,?_⟩
    refine ⟨_,rfl,a,ns,21,rfl,hSQ,hlen,by decide,by decide,fun c21 => ?_⟩
    have k0 := emod_lo c21 (show (0 : Int) < 3 by decide)
    have k1 := emod_hi c21 (show (0 : Int) < 3 by decide)
    refine ⟨_,_,rfl,rfl,(by decide : (0 : Int) < 3),c21 % 3,rfl,(by omega : -(2 ^ 62) ≤ c21 % 3),(by omega : c21 % 3 < 2 ^ 62),?_⟩
    generalize hst : (c21 % 3).toNat = st
    have hst2 : st ≤ 2 := by omega
    refine for_range (lo := 0) (n := st) (fun i σ' H' => ∃ (o5 : Option V) (lq : Addr) (PP : List Int),σ' = [some (.ref a),some (.int (n : Int)),some (.ref te),some (.int b),some (.ref lR),o5,some (.int B),some (.int (m : Int)),some (.ref lq),none] ∧ Same HQ H' ∧ H' lq = some (.lst (PP.map V.int)) ∧ Reach j i PP)
      ⟨_,lp,_,rfl,Same.refl _,ep2,rfl⟩ ?_ ?_
    · rintro i σ' H18 hi ⟨o5,lq,PP,rfl,g18,h18,hRe⟩
      have gp := goodP (hRe.ok hj (by omega))
      have bP : ∀ x ∈ PP,Rm.Bd 1000 x := fun x hx => (Rm.Bd.of (n := 10) (by have := gp.small x hx; omega) (by have := gp.small x hx; omega)).mono (by decide)
      refine ⟨_,rfl,_,rfl,_,rfl,a,ns,_,rfl,g18.seq hSQ,hlen,(by omega : (0 : Int) ≤ 22 + (0 + (i : Int))),(by omega : 22 + (0 + (i : Int)) ≤ 100),fun c22 => ⟨_,_,rfl,rfl,(by decide : (0 : Int) < 5),?_⟩⟩
      obtain ⟨d,ed,hd⟩ : ∃ d : Nat,c22 % 5 = (d : Int) ∧ d < 5 := by
        have h0 := emod_lo c22 (show (0 : Int) < 5 by decide)
        have h1 := emod_hi c22 (show (0 : Int) < 5 by decide)
        exact ⟨(c22 % 5).toNat,by omega,by omega⟩
      dsimp only
      rw [ed]
      refine ⟨(by show 2 ≤ sizeLine; decide),fun l9 hl9 => ?_⟩
      have g19' := Same.new hl9 (.lst ([((d : Nat) : Int) + 1,1].map V.int))
      refine ⟨lq,l9,PP,[((d : Nat) : Int) + 1,1],rfl,g19' _ _ h18,upd_same,by have := gp.lo; omega,by have := gp.hi; omega,(by show 1 ≤ 2; decide),(by show 2 ≤ 10; decide),bP,fun x hx => ?_,fun l10 H20 g20 h20 => ?_⟩
      · rcases List.mem_cons.mp hx with rfl | hx
        · exact (Rm.Bd.of (n := 10) (by omega) (by omega)).mono (by decide)
        · rw [List.mem_singleton.mp hx]; exact (Rm.Bd.of (n := 10) (by omega) (by omega)).mono (by decide)
      exact ⟨_,l10,_,rfl,g18.trans (g19'.trans g20),h20,PP,d,hRe,hd,rfl⟩
    rintro σ' H18 ⟨o5,lq,PP,rfl,g18,h18,hRe⟩
    have gp := goodP (hRe.ok hj hst2)
    have p2 := gp.lo
    have p6 := gp.hi
    have hR18 := g18 _ _ hRQ
    have gA18 := gQ7.trans g18
    have lPP : (PP.map V.int).length = PP.length := List.length_map _
    refine ⟨_,rfl,lq,PP,rfl,h18,by omega,by omega,fun t9 H19 g19' h19 => ?_⟩
    refine ⟨(by show 1 ≤ sizeLine; decide),fun l0' h0' => ?_⟩
    have ga := Same.new h0' (.lst [.int 0])
    have h18a := ga _ _ (g19' _ _ h18)
    have enP : ((PP.length : Int) - 2).toNat = PP.length - 1 - 1 := by omega
    refine ⟨_,rfl,.ref lq,PP.length,rfl,.inl ⟨_,SqL.of h18a,lPP.symm⟩,_,_,rfl,rfl,_,upd_same,by omega,by omega,?_,fun l1' hl1' => ?_⟩
    · rw [enP]; show 1 * (PP.length - 1 - 1) ≤ sizeLine; rw [Nat.one_mul]; exact Nat.le_of_lt (small1000 (by omega))
    rw [enP,replicate_ofF]
    have gb := ga.trans (Same.new hl1' (.lst ((Pm.ofF (PP.length - 1 - 1) fun _ => 0).map V.int)))
    have hb1 : (upd (upd H19 l0' (.lst [.int 0])) l1' (.lst ((Pm.ofF (PP.length - 1 - 1) fun _ => 0).map V.int))) l1' = some (.lst ((Pm.ofF (PP.length - 1 - 1) fun _ => 0).map V.int)) := upd_same
    generalize upd (upd H19 l0' (.lst [.int 0])) l1' (.lst ((Pm.ofF (PP.length - 1 - 1) fun _ => 0).map V.int)) = H20 at gb hb1
    have gA20 := gA18.trans (g19'.trans gb)
    refine ⟨_,rfl,a,ns,26,rfl,gA20.seq hS,hlen,by decide,by decide,fun c26 => ⟨_,_,rfl,rfl,(by decide : (0 : Int) < 5),?_⟩⟩
    obtain ⟨cf,ecf,cf1,cf9⟩ : ∃ m : Nat,1 + c26 % 5 = (m : Int) ∧ 0 < m ∧ m < 1000 := by
      have h0 := emod_lo c26 (show (0 : Int) < 5 by decide)
      have h1 := emod_hi c26 (show (0 : Int) < 5 by decide)
      exact ⟨(1 + c26 % 5).toNat,by omega,by omega,by omega⟩
    dsimp only [rAddV]
    rw [ecf]
    refine ⟨(by show 1 ≤ sizeLine; decide),fun l2' hl2' => ?_⟩
    have gc := Same.new hl2' (.lst [.int (cf : Int)])
    have hc2 : (upd H20 l2' (.lst [.int (cf : Int)])) l2' = some (.lst [.int (cf : Int)]) := upd_same
    have hb2 := gc _ _ hb1
    generalize upd H20 l2' (.lst [.int (cf : Int)]) = H21 at gc hc2 hb2
    refine .inl ⟨_,_,hb2,hc2,?_,fun l3' hl3' => ?_⟩
    · rw [List.length_map,Pm.ofF_len]; exact Nat.le_of_lt (small1000 (by show _ + 1 ≤ 1000; omega))
    have ee2 : (Pm.ofF (PP.length - 1 - 1) fun _ => 0).map V.int ++ [.int (cf : Int)] = (ends46 (PP.length - 1) (cf : Int)).map V.int := by rw [← ends_eq (by omega),map_snoc]
    rw [ee2]
    refine ⟨l3',_,rfl,.inl ⟨SqL.of upd_same,fun ts hts => ?_⟩⟩
    have gd := (Same.new hl3' (.lst ((ends46 (PP.length - 1) (cf : Int)).map V.int))).trans (Same.new hts (.tup ((ends46 (PP.length - 1) (cf : Int)).map V.int)))
    have hd1 : (upd (upd H21 l3' (.lst ((ends46 (PP.length - 1) (cf : Int)).map V.int))) ts (.tup ((ends46 (PP.length - 1) (cf : Int)).map V.int))) ts = some (.tup ((ends46 (PP.length - 1) (cf : Int)).map V.int)) := upd_same
    have gbcd := gb.trans (gc.trans gd)
    generalize upd (upd H21 l3' (.lst ((ends46 (PP.length - 1) (cf : Int)).map V.int))) ts (.tup ((ends46 (PP.length - 1) (cf : Int)).map V.int)) = H22 at gd hd1 gbcd
    refine ⟨(by show 3 ≤ sizeLine; decide),fun tr htr => ?_⟩
    have ge := Same.new htr (.tup [.int 0,.ref t9,.ref ts])
    have bR2 : ∀ x ∈ ruleL PP,Rm.Bd 200 x := fun x hx => by
      unfold ruleL at hx
      obtain ⟨y,hy,rfl⟩ := List.mem_map.mp hx
      have := gp.small y ((List.dropLast_sublist PP).subset (List.mem_reverse.mp hy))
      exact (Rm.Bd.of (n := 10) (by omega) (by omega)).mono (by decide)
    have bE2 : ∀ x ∈ ends46 (PP.length - 1) (cf : Int),Rm.Bd 1000 x := fun x hx => by
      rcases ends_mem hx with rfl | rfl
      · exact (Rm.Bd.of (n := 10) (by omega) (by omega)).mono (by decide)
      · exact Rm.Bd.zero _
    have ok2 := rw46 (R := ruleL PP) (S := ends46 (PP.length - 1) (cf : Int)) (n := PP.length - 1) (ruleL_len _) (ends_len ..) (by omega) bR2 bE2
    have eor : Pm.ofRule 0 (ruleL PP) = PP := ofRule_ruleL gp.mon
    refine ⟨.ref tr,⟨0,ruleL PP,ends46 (PP.length - 1) (cf : Int)⟩,rfl,⟨tr,t9,ts,rfl,upd_same,ge _ _ (gbcd _ _ h19),ge _ _ hd1⟩,.inr ⟨rfl,ok2,(by show 0 < (ruleL PP).length; rw [ruleL_len]; omega),.inl ⟨cf,cf1,cf9,(by show ends46 (PP.length - 1) (cf : Int) = ends46 (ruleL PP).length (cf : Int); rw [ruleL_len]),.inr ⟨fun x hx => ?_,(by show Pm.noneQ (Pm.ofRule 0 (ruleL PP)) = true; rw [eor]; exact gp.none),fun H23 g23 => ?_⟩⟩⟩⟩
    · have hx' : x ∈ Pm.ofRule 0 (ruleL PP) := hx
      rw [eor] at hx'
      have := gp.small x hx'
      omega
    refine ⟨_,rfl,_,rfl,iteF ?_⟩
    have gA23 := gA18.trans (g19'.trans (gbcd.trans (ge.trans g23)))
    have hR23 := (gbcd.trans (ge.trans g23)) _ _ (g19' _ _ hR18)
    refine ⟨_,rfl,lR,_,rfl,.inl ⟨SqL.of hR23,fun t10 ht10 => ?_⟩⟩
    have gf := Same.new ht10 (.tup (xs.map V.int))
    have hf1 : (upd H23 t10 (.tup (xs.map V.int))) t10 = some (.tup (xs.map V.int)) := upd_same
    generalize upd H23 t10 (.tup (xs.map V.int)) = H24 at gf hf1
    refine ⟨(by show 1 ≤ sizeLine; decide),fun l6' hl6' => ?_⟩
    have gg := Same.new hl6' (.lst [.int 0])
    refine ⟨_,rfl,_,upd_same,by omega,by omega,?_,fun l7' hl7' => ?_⟩
    · rw [Int.toNat_natCast]; show 1 * n ≤ sizeLine; rw [Nat.one_mul]; exact Nat.le_of_lt (small1000 (by omega))
    rw [Int.toNat_natCast,replicate_ofF]
    refine ⟨l7',_,rfl,.inl ⟨SqL.of upd_same,fun t11 ht11 => ?_⟩⟩
    have gh := gg.trans ((Same.new hl7' (.lst ((Pm.ofF n fun _ => 0).map V.int))).trans (Same.new ht11 (.tup ((Pm.ofF n fun _ => 0).map V.int))))
    have hh1 : (upd (upd (upd H24 l6' (.lst [.int 0])) l7' (.lst ((Pm.ofF n fun _ => 0).map V.int))) t11 (.tup ((Pm.ofF n fun _ => 0).map V.int))) t11 = some (.tup ((Pm.ofF n fun _ => 0).map V.int)) := upd_same
    have hf2 := gh _ _ hf1
    generalize upd (upd (upd H24 l6' (.lst [.int 0])) l7' (.lst ((Pm.ofF n fun _ => 0).map V.int))) t11 (.tup ((Pm.ofF n fun _ => 0).map V.int)) = H25 at gh hh1 hf2
    refine ⟨(by show 3 ≤ sizeLine; decide),fun t12 ht12 => ?_⟩
    have gi := Same.new ht12 (.tup [.int 0,.ref t10,.ref t11])
    have ok3 := rw46 (R := xs) (S := Pm.ofF n fun _ => 0) lxs (Pm.ofF_len ..) (by omega) (fun x hx => (bxs x hx).mono (by decide)) (fun x hx => by obtain ⟨_,_,rfl⟩ := Pm.mem_ofF hx; exact Rm.Bd.zero _)
    refine ⟨.ref t12,⟨0,xs,Pm.ofF n fun _ => 0⟩,rfl,⟨t12,t10,t11,rfl,upd_same,gi _ _ hf2,gi _ _ hh1⟩,.inr ⟨rfl,ok3,(by show 0 < xs.length; omega),.inr ⟨(by show (Pm.ofF n fun _ => 0) = Pm.ofF xs.length fun _ => 0; rw [lxs]),fun tz lz H26 g26 htz hlz => ?_⟩⟩⟩
    refine ⟨Nat.zero_le _,fun ly hly => ?_⟩
    have gj := Same.new hly (.lst [])
    refine ⟨(by show 2 ≤ sizeLine; decide),fun ty hty => ?_⟩
    have gk := Same.new hty (.tup [.int 1,.ref ly])
    refine .inl ⟨.tuple [.int 1,.list []],.tuple [.int 1,.list []],.tup (SqT.of (gk _ _ (gj _ _ htz))) (.cons (.int _) (.cons (.lst (SqL.of (gk _ _ (gj _ _ hlz))) .nil) .nil)),.tup (SqT.of upd_same) (.cons (.int _) (.cons (.lst (SqL.of (gk _ _ upd_same)) .nil) .nil)),rfl,rfl,?_⟩
    have e9 : PyData.eqv (.tuple [.int 1,.list []]) (.tuple [.int 1,.list []]) = true := by simp [PyData.eqv,PyData.eqvAll]
    rw [e9]
    exact q _
end
theorem all_mk {l : PySem.W.OpenLaw} {w : World} {K : PySem.W.Frag} {h : Heap} {mg : Str → Option Value} {fa : Addr} (X : K.In h) (G : h.Ns mainGlobals mg) (hfa : mg "law" = some (.ref fa))
    (F0 : FnIn K "is_prime" s_is_prime) (F1 : FnIn K "taken" s_taken) (F2 : FnIn K "inverse" s_inverse) (F3 : FnIn K "over" s_over) (F4 : FnIn K "refuse_prime" s_refuse_prime) (F5 : FnIn K "trimmed" s_trimmed) (F6 : FnIn K "divided" s_divided) (F7 : FnIn K "monic" s_monic) (F8 : FnIn K "greatest" s_greatest) (F9 : FnIn K "of_rule" s_of_rule) (F10 : FnIn K "prime_above" s_prime_above) (F11 : FnIn K "divides" s_divides) (F12 : FnIn K "taken_poly" s_taken_poly) (F13 : FnIn K "nearest" s_nearest) (F14 : FnIn K "joined" s_joined) (F15 : FnIn K "whole_greatest" s_whole_greatest) (F16 : FnIn K "shared_divisor" s_shared_divisor) (F17 : FnIn K "top_of" s_top_of) (F18 : FnIn K "least_of" s_least_of) (F19 : FnIn K "line_taken" s_line_taken) (F20 : FnIn K "head_line" s_head_line) (F21 : FnIn K "bring_up" s_bring_up) (F22 : FnIn K "freed" s_freed) (F23 : FnIn K "clear" s_clear) (F24 : FnIn K "common_divisor" s_common_divisor) (F25 : FnIn K "lowest" s_lowest) (F26 : FnIn K "free_numbers" s_free_numbers) (F27 : FnIn K "solution" s_solution) (F28 : FnIn K "paper_against" s_paper_against) (F29 : FnIn K "solved" s_solved) (F30 : FnIn K "refuse_big" s_refuse_big) (F31 : FnIn K "whole_divisors" s_whole_divisors) (F32 : FnIn K "perhaps_roots" s_perhaps_roots) (F33 : FnIn K "divided_out" s_divided_out) (F34 : FnIn K "whole_roots" s_whole_roots) (F35 : FnIn K "form_line" s_form_line) (F36 : FnIn K "parts_of" s_parts_of) (F37 : FnIn K "closed" s_closed) (F38 : FnIn K "_law_at" s_Lat) (F39 : FnIn K "_law_times" s_Ltimes) (F40 : FnIn K "_law_refused" s_Lrefused) (F41 : FnIn K "_law_rule" s_Lrule) (FL : FnIn K "law" s_law) (z_ValueError : PySem.W.nsIn K mainGlobals "ValueError" = some none) (z_abs : PySem.W.nsIn K mainGlobals "abs" = some none) (z_any : PySem.W.nsIn K mainGlobals "any" = some none) (z_int : PySem.W.nsIn K mainGlobals "int" = some none) (z_isinstance : PySem.W.nsIn K mainGlobals "isinstance" = some none) (z_len : PySem.W.nsIn K mainGlobals "len" = some none) (z_list : PySem.W.nsIn K mainGlobals "list" = some none) (z_max : PySem.W.nsIn K mainGlobals "max" = some none) (z_range : PySem.W.nsIn K mainGlobals "range" = some none) (z_reversed : PySem.W.nsIn K mainGlobals "reversed" = some none) (z_sum : PySem.W.nsIn K mainGlobals "sum" = some none) (z_tuple : PySem.W.nsIn K mainGlobals "tuple" = some none) (g_ABOVE_ALL_NUMBERS : ∃ t,PySem.W.nsIn K mainGlobals "ABOVE_ALL_NUMBERS" = some (some (.int 1000000 t))) (g_BELOW_THE_PRIMES : ∃ t,PySem.W.nsIn K mainGlobals "BELOW_THE_PRIMES" = some (some (.int 1000000 t))) {A_NoBy : Addr} (n_NoBy : PySem.W.nsIn K mainGlobals "NoBy" = some (some (.ref A_NoBy))) {A_NoName : Addr} (n_NoName : PySem.W.nsIn K mainGlobals "NoName" = some (some (.ref A_NoName))) {A_NoNumber : Addr} (n_NoNumber : PySem.W.nsIn K mainGlobals "NoNumber" = some (some (.ref A_NoNumber))) {A_NoRow : Addr} (n_NoRow : PySem.W.nsIn K mainGlobals "NoRow" = some (some (.ref A_NoRow))) {A_NoText : Addr} (n_NoText : PySem.W.nsIn K mainGlobals "NoText" = some (some (.ref A_NoText))) {A_RuleError : Addr} (n_RuleError : PySem.W.nsIn K mainGlobals "RuleError" = some (some (.ref A_RuleError))) {A_TooBig : Addr} (n_TooBig : PySem.W.nsIn K mainGlobals "TooBig" = some (some (.ref A_TooBig))) {A_TooFar : Addr} (n_TooFar : PySem.W.nsIn K mainGlobals "TooFar" = some (some (.ref A_TooFar))) {A_TooLong : Addr} (n_TooLong : PySem.W.nsIn K mainGlobals "TooLong" = some (some (.ref A_TooLong))) (q_NoBy : PySem.W.excIn K A_NoBy [.type "ValueError",.type "Exception",.type "BaseException",.type "object"] "ValueError.__new__" = true) (u_NoBy_RuleError : excSub K A_NoBy A_RuleError = true) (v_NoBy_RuleError : PySem.W.ktsIn K A_RuleError "BaseException" = true) (w1_NoBy : PySem.W.findIn K (.ref A_NoBy) "__getattribute__" = some (some (.builtin "BaseException.__getattribute__"))) (w2_NoBy : PySem.W.findIn K (.ref A_NoBy) "__getattr__" = some none) (w3_NoBy : PySem.W.findIn K (.ref A_NoBy) "__class__" = some (some (.builtin "object.__class__"))) (w4_NoBy : PySem.W.mroIn K A_NoBy (.type "BaseException") = some true) (w5_NoBy : PySem.W.mroIn K A_NoBy (.type "object") = some true) (w6_NoBy : (PySem.W.clsIn K A_NoBy).isSome = true) (k_NoBy_NoBy : PySem.W.kitOne K (.ref A_NoBy) (.ref A_NoBy) = some true) (k_NoBy_NoName : PySem.W.kitOne K (.ref A_NoBy) (.ref A_NoName) = some false) (k_NoBy_NoNumber : PySem.W.kitOne K (.ref A_NoBy) (.ref A_NoNumber) = some false) (k_NoBy_NoRow : PySem.W.kitOne K (.ref A_NoBy) (.ref A_NoRow) = some false) (k_NoBy_NoText : PySem.W.kitOne K (.ref A_NoBy) (.ref A_NoText) = some false) (k_NoBy_RuleError : PySem.W.kitOne K (.ref A_NoBy) (.ref A_RuleError) = some true) (k_NoBy_TooBig : PySem.W.kitOne K (.ref A_NoBy) (.ref A_TooBig) = some false) (k_NoBy_TooFar : PySem.W.kitOne K (.ref A_NoBy) (.ref A_TooFar) = some false) (k_NoBy_TooLong : PySem.W.kitOne K (.ref A_NoBy) (.ref A_TooLong) = some false) (k_NoBy_ValueError : PySem.W.kitOne K (.ref A_NoBy) (.type "ValueError") = some true) (q_TooBig : PySem.W.excIn K A_TooBig [.type "ValueError",.type "Exception",.type "BaseException",.type "object"] "ValueError.__new__" = true) (u_TooBig_RuleError : excSub K A_TooBig A_RuleError = true) (v_TooBig_RuleError : PySem.W.ktsIn K A_RuleError "BaseException" = true) (w1_TooBig : PySem.W.findIn K (.ref A_TooBig) "__getattribute__" = some (some (.builtin "BaseException.__getattribute__"))) (w2_TooBig : PySem.W.findIn K (.ref A_TooBig) "__getattr__" = some none) (w3_TooBig : PySem.W.findIn K (.ref A_TooBig) "__class__" = some (some (.builtin "object.__class__"))) (w4_TooBig : PySem.W.mroIn K A_TooBig (.type "BaseException") = some true) (w5_TooBig : PySem.W.mroIn K A_TooBig (.type "object") = some true) (w6_TooBig : (PySem.W.clsIn K A_TooBig).isSome = true) (k_TooBig_NoBy : PySem.W.kitOne K (.ref A_TooBig) (.ref A_NoBy) = some false) (k_TooBig_NoName : PySem.W.kitOne K (.ref A_TooBig) (.ref A_NoName) = some false) (k_TooBig_NoNumber : PySem.W.kitOne K (.ref A_TooBig) (.ref A_NoNumber) = some false) (k_TooBig_NoRow : PySem.W.kitOne K (.ref A_TooBig) (.ref A_NoRow) = some false) (k_TooBig_NoText : PySem.W.kitOne K (.ref A_TooBig) (.ref A_NoText) = some false) (k_TooBig_RuleError : PySem.W.kitOne K (.ref A_TooBig) (.ref A_RuleError) = some true) (k_TooBig_TooBig : PySem.W.kitOne K (.ref A_TooBig) (.ref A_TooBig) = some true) (k_TooBig_TooFar : PySem.W.kitOne K (.ref A_TooBig) (.ref A_TooFar) = some false) (k_TooBig_TooLong : PySem.W.kitOne K (.ref A_TooBig) (.ref A_TooLong) = some false) (k_TooBig_ValueError : PySem.W.kitOne K (.ref A_TooBig) (.type "ValueError") = some true) :
    ∃ fd : FuncData,(∀ (s : Shared) (v : Value),BindsTo s fd ⟨[v],[]⟩ [("_law_script",v)]) ∧ ∀ base : Heap,K.In base → base.Ns mainGlobals mg → FnOk l.prog w K mg base (Flown l.prog w) KLAW fa fd ["_law_script"] (spLaw K) := by
  obtain ⟨f,oc,od,kV,doc,pm,an,cdv,ct,sl,e1,e2,e3,e4⟩ := FL.ex
  have e := hfa.symm.trans (PySem.W.mg_of X G e1)
  cases e
  have FF := fun_mk (st := s_law) e2 e3 e4
  have B : Bt mg := ⟨PySem.W.mg_none_of X G z_ValueError,PySem.W.mg_none_of X G z_abs,PySem.W.mg_none_of X G z_any,PySem.W.mg_none_of X G z_int,PySem.W.mg_none_of X G z_isinstance,PySem.W.mg_none_of X G z_len,PySem.W.mg_none_of X G z_list,PySem.W.mg_none_of X G z_max,PySem.W.mg_none_of X G z_range,PySem.W.mg_none_of X G z_reversed,PySem.W.mg_none_of X G z_sum,PySem.W.mg_none_of X G z_tuple,(let ⟨t,q⟩ := g_ABOVE_ALL_NUMBERS; ⟨t,PySem.W.mg_of X G q⟩),(let ⟨t,q⟩ := g_BELOW_THE_PRIMES; ⟨t,PySem.W.mg_of X G q⟩)⟩
  have G0 := F0.fn X G (ps := ["number"]) fun _ _ _ _ _ _ us hl => by obtain ⟨_,rfl⟩ := L2.us1 hl; rfl
  have G1 := F1.fn X G (ps := ["by","number"]) fun _ _ _ _ _ _ us hl => by obtain ⟨_,_,rfl⟩ := L2.us2 hl; rfl
  have G2 := F2.fn X G (ps := ["prime","number"]) fun _ _ _ _ _ _ us hl => by obtain ⟨_,_,rfl⟩ := L2.us2 hl; rfl
  have G3 := F3.fn X G (ps := ["by","one","other"]) fun _ _ _ _ _ _ us hl => by obtain ⟨_,_,_,rfl⟩ := L2.us3 hl; rfl
  have G4 := F4.fn X G (ps := ["row"]) fun _ _ _ _ _ _ us hl => by obtain ⟨_,rfl⟩ := L2.us1 hl; rfl
  have G5 := F5.fn X G (ps := ["numbers"]) fun _ _ _ _ _ _ us hl => by obtain ⟨_,rfl⟩ := L2.us1 hl; rfl
  have G6 := F6.fn X G (ps := ["by","one","other"]) fun _ _ _ _ _ _ us hl => by obtain ⟨_,_,_,rfl⟩ := L2.us3 hl; rfl
  have G7 := F7.fn X G (ps := ["prime","poly"]) fun _ _ _ _ _ _ us hl => by obtain ⟨_,_,rfl⟩ := L2.us2 hl; rfl
  have G8 := F8.fn X G (ps := ["by","one","other"]) fun _ _ _ _ _ _ us hl => by obtain ⟨_,_,_,rfl⟩ := L2.us3 hl; rfl
  have G9 := F9.fn X G (ps := ["by","rule"]) fun _ _ _ _ _ _ us hl => by obtain ⟨_,_,rfl⟩ := L2.us2 hl; rfl
  have G10 := F10.fn X G (ps := ["number"]) fun _ _ _ _ _ _ us hl => by obtain ⟨_,rfl⟩ := L2.us1 hl; rfl
  have G11 := F11.fn X G (ps := ["monic_one","poly"]) fun _ _ _ _ _ _ us hl => by obtain ⟨_,_,rfl⟩ := L2.us2 hl; rfl
  have G12 := F12.fn X G (ps := ["prime","poly"]) fun _ _ _ _ _ _ us hl => by obtain ⟨_,_,rfl⟩ := L2.us2 hl; rfl
  have G13 := F13.fn X G (ps := ["modulus","number"]) fun _ _ _ _ _ _ us hl => by obtain ⟨_,_,rfl⟩ := L2.us2 hl; rfl
  have G14 := F14.fn X G (ps := ["modulus","number","prime","rest"]) fun _ _ _ _ _ _ us hl => by obtain ⟨_,_,_,_,rfl⟩ := L2.us4 hl; rfl
  have G15 := F15.fn X G (ps := ["one","other"]) fun _ _ _ _ _ _ us hl => by obtain ⟨_,_,rfl⟩ := L2.us2 hl; rfl
  have G16 := F16.fn X G (ps := ["by","one","other"]) fun _ _ _ _ _ _ us hl => by obtain ⟨_,_,_,rfl⟩ := L2.us3 hl; rfl
  have G17 := F17.fn X G (ps := ["row","poly"]) fun _ _ _ _ _ _ us hl => by obtain ⟨_,_,rfl⟩ := L2.us2 hl; rfl
  have G18 := F18.fn X G (ps := ["row"]) fun _ _ _ _ _ _ us hl => by obtain ⟨_,rfl⟩ := L2.us1 hl; rfl
  have G19 := F19.fn X G (ps := ["by","line"]) fun _ _ _ _ _ _ us hl => by obtain ⟨_,_,rfl⟩ := L2.us2 hl; rfl
  have G20 := F20.fn X G (ps := ["lines","begin","column"]) fun _ _ _ _ _ _ us hl => by obtain ⟨_,_,_,rfl⟩ := L2.us3 hl; rfl
  have G21 := F21.fn X G (ps := ["by","lines","at","top"]) fun _ _ _ _ _ _ us hl => by obtain ⟨_,_,_,_,rfl⟩ := L2.us4 hl; rfl
  have G22 := F22.fn X G (ps := ["by","line","head","column","last"]) fun _ _ _ _ _ _ us hl => by obtain ⟨_,_,_,_,_,rfl⟩ := L2.us5 hl; rfl
  have G23 := F23.fn X G (ps := ["by","wide","lines"]) fun _ _ _ _ _ _ us hl => by obtain ⟨_,_,_,rfl⟩ := L2.us3 hl; rfl
  have G24 := F24.fn X G (ps := ["one","other"]) fun _ _ _ _ _ _ us hl => by obtain ⟨_,_,rfl⟩ := L2.us2 hl; rfl
  have G25 := F25.fn X G (ps := ["by","bottom","tops"]) fun _ _ _ _ _ _ us hl => by obtain ⟨_,_,_,rfl⟩ := L2.us3 hl; rfl
  have G26 := F26.fn X G (ps := ["by","wide","lines","heads","last"]) fun _ _ _ _ _ _ us hl => by obtain ⟨_,_,_,_,_,rfl⟩ := L2.us5 hl; rfl
  have G27 := F27.fn X G (ps := ["by","wide","table","wished"]) fun _ _ _ _ _ _ us hl => by obtain ⟨_,_,_,_,rfl⟩ := L2.us4 hl; rfl
  have G28 := F28.fn X G (ps := ["by","wide","table","wished"]) fun _ _ _ _ _ _ us hl => by obtain ⟨_,_,_,_,rfl⟩ := L2.us4 hl; rfl
  have G29 := F29.fn X G (ps := ["by","wide","table","wished"]) fun _ _ _ _ _ _ us hl => by obtain ⟨_,_,_,_,rfl⟩ := L2.us4 hl; rfl
  have G30 := F30.fn X G (ps := ["poly"]) fun _ _ _ _ _ _ us hl => by obtain ⟨_,rfl⟩ := L2.us1 hl; rfl
  have G31 := F31.fn X G (ps := ["number"]) fun _ _ _ _ _ _ us hl => by obtain ⟨_,rfl⟩ := L2.us1 hl; rfl
  have G32 := F32.fn X G (ps := ["poly"]) fun _ _ _ _ _ _ us hl => by obtain ⟨_,rfl⟩ := L2.us1 hl; rfl
  have G33 := F33.fn X G (ps := ["poly","root"]) fun _ _ _ _ _ _ us hl => by obtain ⟨_,_,rfl⟩ := L2.us2 hl; rfl
  have G34 := F34.fn X G (ps := ["poly"]) fun _ _ _ _ _ _ us hl => by obtain ⟨_,rfl⟩ := L2.us1 hl; rfl
  have G35 := F35.fn X G (ps := ["roots","n"]) fun _ _ _ _ _ _ us hl => by obtain ⟨_,_,rfl⟩ := L2.us2 hl; rfl
  have G36 := F36.fn X G (ps := ["roots","tops"]) fun _ _ _ _ _ _ us hl => by obtain ⟨_,_,rfl⟩ := L2.us2 hl; rfl
  have G37 := F37.fn X G (ps := ["row"]) fun _ _ _ _ _ _ us hl => by obtain ⟨_,rfl⟩ := L2.us1 hl; rfl
  have G38 := F38.fn X G (ps := ["_law_script","_law_k"]) fun _ _ _ _ _ _ us hl => by obtain ⟨_,_,rfl⟩ := L2.us2 hl; rfl
  have G39 := F39.fn X G (ps := ["_law_one","_law_other"]) fun _ _ _ _ _ _ us hl => by obtain ⟨_,_,rfl⟩ := L2.us2 hl; rfl
  have G40 := F40.fn X G (ps := ["_law_row"]) fun _ _ _ _ _ _ us hl => by obtain ⟨_,rfl⟩ := L2.us1 hl; rfl
  have G41 := F41.fn X G (ps := ["_law_poly"]) fun _ _ _ _ _ _ us hl => by obtain ⟨_,rfl⟩ := L2.us1 hl; rfl
  refine ⟨PySem.W.fnOf "law" "law" (defArgs s_law) (defBody s_law) (defScope s_law) .none kV doc pm an cdv ct,fun s v => .of_eq rfl,fun base kB gB => ?_⟩
  have M : Ms K mg base A_NoBy A_NoName A_NoNumber A_NoRow A_NoText A_RuleError A_TooBig A_TooFar A_TooLong := ⟨PySem.W.mg_of X G n_NoBy,PySem.W.mg_of X G n_NoName,PySem.W.mg_of X G n_NoNumber,PySem.W.mg_of X G n_NoRow,PySem.W.mg_of X G n_NoText,PySem.W.mg_of X G n_RuleError,PySem.W.mg_of X G n_TooBig,PySem.W.mg_of X G n_TooFar,PySem.W.mg_of X G n_TooLong,exC_of kB gB n_NoBy q_NoBy F.excBase_ValueError (by decide),exS_of kB u_NoBy_RuleError v_NoBy_RuleError,⟨w1_NoBy,w2_NoBy,w3_NoBy,w4_NoBy,w5_NoBy,w6_NoBy⟩,k_NoBy_NoBy,k_NoBy_NoName,k_NoBy_NoNumber,k_NoBy_NoRow,k_NoBy_NoText,k_NoBy_RuleError,k_NoBy_TooBig,k_NoBy_TooFar,k_NoBy_TooLong,k_NoBy_ValueError,exC_of kB gB n_TooBig q_TooBig F.excBase_ValueError (by decide),exS_of kB u_TooBig_RuleError v_TooBig_RuleError,⟨w1_TooBig,w2_TooBig,w3_TooBig,w4_TooBig,w5_TooBig,w6_TooBig⟩,k_TooBig_NoBy,k_TooBig_NoName,k_TooBig_NoNumber,k_TooBig_NoRow,k_TooBig_NoText,k_TooBig_RuleError,k_TooBig_TooBig,k_TooBig_TooFar,k_TooBig_TooLong,k_TooBig_ValueError⟩
  have C_is_prime := ok_is_prime (P := l.prog) (w := w) (base := base) B G0 M
  have C_taken := ok_taken (P := l.prog) (w := w) (base := base) B G1 M
  have C_inverse := ok_inverse (P := l.prog) (w := w) (base := base) B G2 M C_taken
  have C_over := ok_over (P := l.prog) (w := w) (base := base) B G3 M C_taken C_inverse
  have C_refuse_prime := ok_refuse_prime (P := l.prog) (w := w) (base := base) B G4 M
  have C_trimmed := ok_trimmed (P := l.prog) (w := w) (base := base) B G5 M
  have C_divided := ok_divided (P := l.prog) (w := w) (base := base) B G6 M C_taken C_trimmed
  have C_monic := ok_monic (P := l.prog) (w := w) (base := base) B G7 M C_over
  have C_greatest := ok_greatest (P := l.prog) (w := w) (base := base) B G8 M C_monic C_divided
  have C_of_rule := ok_of_rule (P := l.prog) (w := w) (base := base) B G9 M C_taken
  have C_prime_above := ok_prime_above (P := l.prog) (w := w) (base := base) B G10 M C_is_prime
  have C_divides := ok_divides (P := l.prog) (w := w) (base := base) B G11 M C_divided
  have C_taken_poly := ok_taken_poly (P := l.prog) (w := w) (base := base) B G12 M C_trimmed C_taken
  have C_nearest := ok_nearest (P := l.prog) (w := w) (base := base) B G13 M
  have C_joined := ok_joined (P := l.prog) (w := w) (base := base) B G14 M
  have C_whole_greatest := ok_whole_greatest (P := l.prog) (w := w) (base := base) B G15 M C_divides C_prime_above C_greatest C_taken_poly C_nearest C_joined
  have C_shared_divisor := ok_shared_divisor (P := l.prog) (w := w) (base := base) B G16 M C_whole_greatest C_greatest
  have C_top_of := ok_top_of (P := l.prog) (w := w) (base := base) B G17 M C_taken C_trimmed
  have C_least_of := ok_least_of (P := l.prog) (w := w) (base := base) B G18 M C_of_rule C_top_of C_divided C_shared_divisor
  have C_line_taken := ok_line_taken (P := l.prog) (w := w) (base := base) B G19 M
  have C_head_line := ok_head_line (P := l.prog) (w := w) (base := base) B G20 M
  have C_bring_up := ok_bring_up (P := l.prog) (w := w) (base := base) B G21 M
  have C_freed := ok_freed (P := l.prog) (w := w) (base := base) B G22 M
  have C_clear := ok_clear (P := l.prog) (w := w) (base := base) B G23 M C_head_line C_bring_up C_freed
  have C_common_divisor := ok_common_divisor (P := l.prog) (w := w) (base := base) B G24 M
  have C_lowest := ok_lowest (P := l.prog) (w := w) (base := base) B G25 M C_over C_common_divisor
  have C_free_numbers := ok_free_numbers (P := l.prog) (w := w) (base := base) B G26 M
  have C_solution := ok_solution (P := l.prog) (w := w) (base := base) B G27 M C_line_taken C_clear C_lowest C_free_numbers
  have C_paper_against := ok_paper_against (P := l.prog) (w := w) (base := base) B G28 M
  have C_solved := ok_solved (P := l.prog) (w := w) (base := base) B G29 M C_solution C_paper_against
  have C_refuse_big := ok_refuse_big (P := l.prog) (w := w) (base := base) B G30 M
  have C_whole_divisors := ok_whole_divisors (P := l.prog) (w := w) (base := base) B G31 M
  have C_perhaps_roots := ok_perhaps_roots (P := l.prog) (w := w) (base := base) B G32 M C_whole_divisors
  have C_divided_out := ok_divided_out (P := l.prog) (w := w) (base := base) B G33 M C_divided
  have C_whole_roots := ok_whole_roots (P := l.prog) (w := w) (base := base) B G34 M C_refuse_big C_perhaps_roots C_divided_out
  have C_form_line := ok_form_line (P := l.prog) (w := w) (base := base) B G35 M
  have C_parts_of := ok_parts_of (P := l.prog) (w := w) (base := base) B G36 M
  have C_closed := ok_closed (P := l.prog) (w := w) (base := base) B G37 M C_refuse_prime C_whole_roots C_least_of C_form_line C_solved C_parts_of
  have C_Lat := ok_Lat (P := l.prog) (w := w) (base := base) B G38 M
  have C_Ltimes := ok_Ltimes (P := l.prog) (w := w) (base := base) B G39 M
  have C_Lrefused := ok_Lrefused (P := l.prog) (w := w) (base := base) B G40 M C_closed
  have C_Lrule := ok_Lrule (P := l.prog) (w := w) (base := base) B G41 M
  exact ok_law B FF M C_Lat C_Lrefused C_Ltimes C_closed C_Lrule
end K46
namespace L2
open PySem PySem.W PySem.W.X
theorem walkX_of {q : Program} {loose : List Str} {XP : (Str → Option Value) → Heap → Prop} {K : Params → Frag} {as : List Addr} {n t : Nat} {r : RowW} {d : DefRec} {kwd : List (Str × PySem.Expr)} {run : Value → List Value → Sem Value} (keys : ∀ P,as = (K P).map (·.1))
    (W : WalkO q loose XP (fun w h => (K w.params).In h) r d kwd run) : WalkX q loose XP (obsZ as) (valZ K n t) r d kwd run :=
  fun w s0 s1 mg mb G y a o pm cd doc dV kV h1 h2 h3 h4 h5 h6 args vals as' L p1 p2 p3 p4 p5 => W w s0 s1 mg mb G (InK.keeps w _ _ (z_facts keys y).2.1 L.keeps) a o pm cd doc dV kV h1 h2 h3 h4 h5 h6 args vals as' p1 p2 p3 p4 p5
end L2
namespace K46
def topF (i : Nat) : PySem.Stmt := PySem.Challenge.pw_nextbyrule_k46_no_closed_forms.main.body.getD i (.Pass ⟨0,0,0,0⟩)
def pwL : PySem.Program := { PySem.Challenge.pw_nextbyrule_k46_no_closed_forms with main := { PySem.Challenge.pw_nextbyrule_k46_no_closed_forms.main with body := [topF 0,topF 1,topF 2,topF 3,topF 4,topF 5,topF 6,topF 7,topF 8,topF 9,topF 10,topF 11,topF 12,topF 13,topF 14,topF 15,topF 16,topF 17,topF 18,topF 19,topF 20,topF 21,topF 22,topF 23,topF 24,topF 25,topF 26,topF 27,topF 28,topF 29,topF 30,topF 31,topF 32,topF 33,topF 34,topF 35,topF 36,topF 37,topF 38,topF 39,topF 40,topF 41,topF 42,topF 43,topF 44,topF 45,topF 46,topF 47,topF 48,topF 49,topF 50,topF 51,topF 52,topF 53,topF 54,topF 55,topF 56,topF 57,topF 58,topF 59,topF 60,topF 61,topF 62,topF 63,topF 64,topF 65] } }
def rwL : PySem.W.OpenLaw := { PySem.Challenge.rw_nextbyrule_k46_no_closed_forms with prog := pwL }
end K46
namespace K46
namespace H
noncomputable section
open PySem PySem.W PySem.Calls PyProof.Rows
theorem warm : (K46.pwL.main.body.isEmpty || true) = true := by k_qdec
abbrev nd (v : Obj) (l r : BT) : BT := .node v l r
abbrev e : BT := .nil
abbrev kh := PyData.keyHash
abbrev tt (i : Nat) : Stmt := PySem.W.Fast.tw8010311650938108691 i
def z0 : Str := ⟨⟨[95,95,110,97,109,101,95,95]⟩⟩
def z1 : Str := ⟨⟨[108,97,119,95,110,101,120,116,98,121,114,117,108,101,95,107,52,54,95,110,111,95,99,108,111,115,101,100,95,102,111,114,109,115]⟩⟩
def z2 : Str := ⟨⟨[95,95,100,111,99,95,95]⟩⟩
def z3 : Str := ⟨⟨[95,95,112,97,99,107,97,103,101,95,95]⟩⟩
def z4 : Str := ⟨⟨[95,95,108,111,97,100,101,114,95,95]⟩⟩
def z5 : Str := ⟨⟨[95,95,115,112,101,99,95,95]⟩⟩
def z6 : Str := ⟨⟨[95,95,97,110,110,111,116,97,116,105,111,110,115,95,95]⟩⟩
def z7 : Str := ⟨⟨[95,95,98,117,105,108,116,105,110,115,95,95]⟩⟩
def z8 : Str := ⟨⟨[95,95,102,105,108,101,95,95]⟩⟩
def z9 : Str := ⟨⟨[47,99,108,97,105,109,47,99,117,116,46,112,121]⟩⟩
def z10 : Str := ⟨⟨[95,95,99,97,99,104,101,100,95,95]⟩⟩
def z11 : Str := ⟨⟨[82,117,108,101,69,114,114,111,114]⟩⟩
def z12 : Str := ⟨⟨[78,111,78,117,109,98,101,114]⟩⟩
def z13 : Str := ⟨⟨[78,111,66,121]⟩⟩
def z14 : Str := ⟨⟨[78,111,84,101,120,116]⟩⟩
def z15 : Str := ⟨⟨[84,111,111,70,97,114]⟩⟩
def z16 : Str := ⟨⟨[84,111,111,76,111,110,103]⟩⟩
def z17 : Str := ⟨⟨[84,111,111,66,105,103]⟩⟩
def z18 : Str := ⟨⟨[78,111,82,111,119]⟩⟩
def z19 : Str := ⟨⟨[78,111,78,97,109,101]⟩⟩
def z20 : Str := ⟨⟨[105,115,95,112,114,105,109,101]⟩⟩
def z21 : Str := ⟨⟨[116,97,107,101,110]⟩⟩
def z22 : Str := ⟨⟨[105,110,118,101,114,115,101]⟩⟩
def z23 : Str := ⟨⟨[111,118,101,114]⟩⟩
def z24 : Str := ⟨⟨[114,101,102,117,115,101,95,112,114,105,109,101]⟩⟩
def z25 : Str := ⟨⟨[116,114,105,109,109,101,100]⟩⟩
def z26 : Str := ⟨⟨[100,105,118,105,100,101,100]⟩⟩
def z27 : Str := ⟨⟨[109,111,110,105,99]⟩⟩
def z28 : Str := ⟨⟨[103,114,101,97,116,101,115,116]⟩⟩
def z29 : Str := ⟨⟨[111,102,95,114,117,108,101]⟩⟩
def z30 : Str := ⟨⟨[66,69,76,79,87,95,84,72,69,95,80,82,73,77,69,83]⟩⟩
def z31 : Str := ⟨⟨[112,114,105,109,101,95,97,98,111,118,101]⟩⟩
def z32 : Str := ⟨⟨[100,105,118,105,100,101,115]⟩⟩
def z33 : Str := ⟨⟨[116,97,107,101,110,95,112,111,108,121]⟩⟩
def z34 : Str := ⟨⟨[110,101,97,114,101,115,116]⟩⟩
def z35 : Str := ⟨⟨[106,111,105,110,101,100]⟩⟩
def z36 : Str := ⟨⟨[119,104,111,108,101,95,103,114,101,97,116,101,115,116]⟩⟩
def z37 : Str := ⟨⟨[115,104,97,114,101,100,95,100,105,118,105,115,111,114]⟩⟩
def z38 : Str := ⟨⟨[116,111,112,95,111,102]⟩⟩
def z39 : Str := ⟨⟨[108,101,97,115,116,95,111,102]⟩⟩
def z40 : Str := ⟨⟨[108,105,110,101,95,116,97,107,101,110]⟩⟩
def z41 : Str := ⟨⟨[104,101,97,100,95,108,105,110,101]⟩⟩
def z42 : Str := ⟨⟨[98,114,105,110,103,95,117,112]⟩⟩
def z43 : Str := ⟨⟨[102,114,101,101,100]⟩⟩
def z44 : Str := ⟨⟨[99,108,101,97,114]⟩⟩
def z45 : Str := ⟨⟨[99,111,109,109,111,110,95,100,105,118,105,115,111,114]⟩⟩
def z46 : Str := ⟨⟨[108,111,119,101,115,116]⟩⟩
def z47 : Str := ⟨⟨[102,114,101,101,95,110,117,109,98,101,114,115]⟩⟩
def z48 : Str := ⟨⟨[115,111,108,117,116,105,111,110]⟩⟩
def z49 : Str := ⟨⟨[99,111,108,117,109,110,95,111,102]⟩⟩
def z50 : Str := ⟨⟨[112,97,112,101,114,95,97,103,97,105,110,115,116]⟩⟩
def z51 : Str := ⟨⟨[115,111,108,118,101,100]⟩⟩
def z52 : Str := ⟨⟨[65,66,79,86,69,95,65,76,76,95,78,85,77,66,69,82,83]⟩⟩
def z53 : Str := ⟨⟨[114,101,102,117,115,101,95,98,105,103]⟩⟩
def z54 : Str := ⟨⟨[119,104,111,108,101,95,100,105,118,105,115,111,114,115]⟩⟩
def z55 : Str := ⟨⟨[112,101,114,104,97,112,115,95,114,111,111,116,115]⟩⟩
def z56 : Str := ⟨⟨[100,105,118,105,100,101,100,95,111,117,116]⟩⟩
def z57 : Str := ⟨⟨[119,104,111,108,101,95,114,111,111,116,115]⟩⟩
def z58 : Str := ⟨⟨[112,111,119,101,114]⟩⟩
def z59 : Str := ⟨⟨[102,111,114,109,95,108,105,110,101]⟩⟩
def z60 : Str := ⟨⟨[112,97,114,116,115,95,111,102]⟩⟩
def z61 : Str := ⟨⟨[99,108,111,115,101,100]⟩⟩
def z62 : Str := ⟨⟨[95,108,97,119,95,97,116]⟩⟩
def z63 : Str := ⟨⟨[95,108,97,119,95,116,105,109,101,115]⟩⟩
def z64 : Str := ⟨⟨[95,108,97,119,95,118,97,108,117,101]⟩⟩
def z65 : Str := ⟨⟨[95,108,97,119,95,114,101,102,117,115,101,100]⟩⟩
def z66 : Str := ⟨⟨[95,108,97,119,95,114,117,108,101]⟩⟩
def z67 : Str := ⟨⟨[108,97,119]⟩⟩
def z68 : Str := ⟨⟨[60,109,111,100,117,108,101,62]⟩⟩
def z69 : Str := ⟨⟨[95,95,109,97,105,110,95,95]⟩⟩
def z70 : Str := ⟨⟨[95,95,109,111,100,117,108,101,95,95]⟩⟩
def z71 : Str := ⟨⟨[110,101,120,116,98,121,114,117,108,101,46,101,114,114,111,114,115]⟩⟩
def z72 : Str := ⟨⟨[95,95,113,117,97,108,110,97,109,101,95,95]⟩⟩
def z73 : Str := ⟨⟨[95,95,102,105,114,115,116,108,105,110,101,110,111,95,95]⟩⟩
def z74 : Str := ⟨⟨[95,95,115,116,97,116,105,99,95,97,116,116,114,105,98,117,116,101,115,95,95]⟩⟩
def z75 : Str := ⟨⟨[95,95,119,101,97,107,114,101,102,95,95]⟩⟩
def z76 : Str := ⟨⟨[110,117,109,98,101,114]⟩⟩
def z77 : Str := ⟨⟨[100,105,118,105,115,111,114]⟩⟩
def z78 : Str := ⟨⟨[110,101,120,116,98,121,114,117,108,101,46,110,117,109,98,101,114,115]⟩⟩
def z79 : Str := ⟨⟨[98,121]⟩⟩
def z80 : Str := ⟨⟨[112,114,105,109,101]⟩⟩
def z81 : Str := ⟨⟨[115,113,117,97,114,101]⟩⟩
def z82 : Str := ⟨⟨[108,101,102,116]⟩⟩
def z83 : Str := ⟨⟨[111,110,101]⟩⟩
def z84 : Str := ⟨⟨[111,116,104,101,114]⟩⟩
def z85 : Str := ⟨⟨[114,111,119]⟩⟩
def z86 : Str := ⟨⟨[110,101,120,116,98,121,114,117,108,101,46,114,111,119,115]⟩⟩
def z87 : Str := ⟨⟨[110,117,109,98,101,114,115]⟩⟩
def z88 : Str := ⟨⟨[101,110,100]⟩⟩
def z89 : Str := ⟨⟨[110,101,120,116,98,121,114,117,108,101,46,112,111,108,121,115]⟩⟩
def z90 : Str := ⟨⟨[116,111,112]⟩⟩
def z91 : Str := ⟨⟨[111,102,116,101,110]⟩⟩
def z92 : Str := ⟨⟨[115,104,105,102,116]⟩⟩
def z93 : Str := ⟨⟨[102,97,99,116,111,114]⟩⟩
def z94 : Str := ⟨⟨[107]⟩⟩
def z95 : Str := ⟨⟨[103,114,101,97,116]⟩⟩
def z96 : Str := ⟨⟨[115,109,97,108,108]⟩⟩
def z97 : Str := ⟨⟨[102,111,117,110,100]⟩⟩
def z98 : Str := ⟨⟨[110,101,120,116,98,121,114,117,108,101,46,119,104,111,108,101,115]⟩⟩
def z99 : Str := ⟨⟨[109,111,110,105,99,95,111,110,101]⟩⟩
def z100 : Str := ⟨⟨[112,111,108,121]⟩⟩
def z101 : Str := ⟨⟨[109,111,100,117,108,117,115]⟩⟩
def z102 : Str := ⟨⟨[114,101,115,116]⟩⟩
def z103 : Str := ⟨⟨[109,111,114,101]⟩⟩
def z104 : Str := ⟨⟨[110,101,120,116,98,121,114,117,108,101,46,115,104,111,114,116,101,115,116]⟩⟩
def z105 : Str := ⟨⟨[110,101,120,116,98,121,114,117,108,101,46,116,97,98,108,101,115]⟩⟩
def z106 : Str := ⟨⟨[108,105,110,101,115]⟩⟩
def z107 : Str := ⟨⟨[98,101,103,105,110]⟩⟩
def z108 : Str := ⟨⟨[99,111,108,117,109,110]⟩⟩
def z109 : Str := ⟨⟨[105]⟩⟩
def z110 : Str := ⟨⟨[119,105,100,101]⟩⟩
def z111 : Str := ⟨⟨[104,101,97,100,115]⟩⟩
def z112 : Str := ⟨⟨[108,97,115,116]⟩⟩
def z113 : Str := ⟨⟨[97,116]⟩⟩
def z114 : Str := ⟨⟨[116,97,98,108,101]⟩⟩
def z115 : Str := ⟨⟨[119,105,115,104,101,100]⟩⟩
def z116 : Str := ⟨⟨[110,101,120,116,98,121,114,117,108,101,46,114,111,111,116,115]⟩⟩
def z117 : Str := ⟨⟨[116,114,105,101,100]⟩⟩
def z118 : Str := ⟨⟨[114,111,111,116]⟩⟩
def z119 : Str := ⟨⟨[114,111,111,116,115]⟩⟩
def z120 : Str := ⟨⟨[101,120,112,111,110,101,110,116]⟩⟩
def z121 : Str := ⟨⟨[112,114,111,100,117,99,116]⟩⟩
def z122 : Str := ⟨⟨[116,117,114,110]⟩⟩
def z123 : Str := ⟨⟨[116,111,112,115]⟩⟩
def z124 : Str := ⟨⟨[112,97,114,116,115]⟩⟩
def z125 : Str := ⟨⟨[112,97,105,114]⟩⟩
def z126 : Str := ⟨⟨[95,108,97,119,95,115,99,114,105,112,116]⟩⟩
def z127 : Str := ⟨⟨[95,108,97,119,95,107]⟩⟩
def z128 : Str := ⟨⟨[95,108,97,119,95,109,105,120,101,100]⟩⟩
def z129 : Str := ⟨⟨[95,108,97,119,95,111,110,101]⟩⟩
def z130 : Str := ⟨⟨[95,108,97,119,95,111,116,104,101,114]⟩⟩
def z131 : Str := ⟨⟨[95,108,97,119,95,102,111,117,110,100]⟩⟩
def z132 : Str := ⟨⟨[95,108,97,119,95,106]⟩⟩
def z133 : Str := ⟨⟨[95,108,97,119,95,112,111,108,121]⟩⟩
def z134 : Str := ⟨⟨[95,108,97,119,95,110,117,109,98,101,114]⟩⟩
def z135 : Str := ⟨⟨[95,108,97,119,95,116,111,116,97,108]⟩⟩
def z136 : Str := ⟨⟨[95,108,97,119,95,114,111,119]⟩⟩
def z137 : Str := ⟨⟨[95,108,97,119,95,99,97,117,103,104,116]⟩⟩
def z138 : Str := ⟨⟨[101]⟩⟩
def z139 : Str := ⟨⟨[95,108,97,119,95,111,116,104,101,114,115]⟩⟩
noncomputable abbrev t0 : String := PySem.W.SL.s14018661285674007319x4
noncomputable abbrev t1 : String := PySem.W.SL.s7097527257260152453x26
noncomputable abbrev t2 : String := PySem.W.SL.s2766695959194262286x5
noncomputable abbrev t3 : String := PySem.W.SL.s5856160107412720595x4
noncomputable abbrev t4 : String := PySem.W.SL.s658472552662922059x5
noncomputable abbrev t5 : String := PySem.W.SL.s6070975301684473832x10
noncomputable abbrev t6 : String := PySem.W.SL.s11030030927630378310x26
noncomputable abbrev t7 : String := PySem.W.SL.s10062305145149207511x16
noncomputable abbrev t8 : String := PySem.W.SL.s17162191345867700912x4
noncomputable abbrev t9 : String := PySem.W.SL.s4209523147560561109x18
noncomputable abbrev t10 : String := PySem.W.SL.s5946037652744460706x9
noncomputable abbrev t11 : String := PySem.W.SL.s4278001404047624695x13
noncomputable abbrev t12 : String := PySem.W.SL.s2742458400755230247x6
noncomputable abbrev t13 : String := PySem.W.SL.s14755015743595814543x17
noncomputable abbrev t14 : String := PySem.W.SL.s10220274742760427390x26
noncomputable abbrev t15 : String := PySem.W.SL.s4290257624100764138x5
noncomputable abbrev t16 : String := PySem.W.SL.s4860613602091757760x24
noncomputable abbrev t17 : String := PySem.W.SL.s7174869446012820540x8
def l3 (P : Params) : List DictEntry := [⟨kh P z0,.str z0 165,.str z1 689⟩,⟨kh P z2,.str z2 166,.none⟩,⟨kh P z3,.str z3 167,.none⟩,⟨kh P z4,.str z4 168,.builtin t1⟩,⟨kh P z5,.str z5 169,.none⟩,⟨kh P z6,.str z6 170,.ref 6⟩,⟨kh P z7,.str z7 171,.ref 4⟩,⟨kh P z8,.str z8 173,.str z9 172⟩,⟨kh P z10,.str z10 174,.none⟩,⟨kh P z11,.str z11 206,.ref 24⟩,⟨kh P z12,.str z12 222,.ref 37⟩,⟨kh P z13,.str z13 238,.ref 49⟩,⟨kh P z14,.str z14 254,.ref 61⟩,⟨kh P z15,.str z15 270,.ref 73⟩,⟨kh P z16,.str z16 286,.ref 85⟩,⟨kh P z17,.str z17 302,.ref 97⟩,⟨kh P z18,.str z18 318,.ref 109⟩,⟨kh P z19,.str z19 334,.ref 121⟩,⟨kh P z20,.str z20 344,.ref 130⟩,⟨kh P z21,.str z21 352,.ref 137⟩,⟨kh P z22,.str z22 363,.ref 144⟩,⟨kh P z23,.str z23 372,.ref 151⟩,⟨kh P z24,.str z24 381,.ref 158⟩,⟨kh P z25,.str z25 391,.ref 165⟩,⟨kh P z26,.str z26 406,.ref 172⟩,⟨kh P z27,.str z27 412,.ref 177⟩,⟨kh P z28,.str z28 424,.ref 184⟩,⟨kh P z29,.str z29 430,.ref 189⟩,⟨kh P z30,.str z30 434,.int 1000000 433⟩,⟨kh P z31,.str z31 442,.ref 196⟩,⟨kh P z32,.str z32 450,.ref 203⟩,⟨kh P z33,.str z33 456,.ref 208⟩,⟨kh P z34,.str z34 465,.ref 215⟩,⟨kh P z35,.str z35 476,.ref 222⟩,⟨kh P z36,.str z36 482,.ref 227⟩,⟨kh P z37,.str z37 491,.ref 234⟩,⟨kh P z38,.str z38 499,.ref 239⟩,⟨kh P z39,.str z39 509,.ref 246⟩,⟨kh P z40,.str z40 517,.ref 251⟩,⟨kh P z41,.str z41 527,.ref 258⟩,⟨kh P z42,.str z42 533,.ref 263⟩,⟨kh P z43,.str z43 539,.ref 268⟩,⟨kh P z44,.str z44 554,.ref 275⟩,⟨kh P z45,.str z45 565,.ref 282⟩,⟨kh P z46,.str z46 571,.ref 287⟩,⟨kh P z47,.str z47 577,.ref 292⟩,⟨kh P z48,.str z48 583,.ref 297⟩,⟨kh P z49,.str z49 589,.ref 302⟩,⟨kh P z50,.str z50 595,.ref 307⟩,⟨kh P z51,.str z51 606,.ref 314⟩,⟨kh P z52,.str z52 610,.int 1000000 609⟩,⟨kh P z53,.str z53 616,.ref 319⟩,⟨kh P z54,.str z54 626,.ref 326⟩,⟨kh P z55,.str z55 632,.ref 331⟩,⟨kh P z56,.str z56 643,.ref 338⟩,⟨kh P z57,.str z57 654,.ref 345⟩,⟨kh P z58,.str z58 664,.ref 352⟩,⟨kh P z59,.str z59 670,.ref 357⟩,⟨kh P z60,.str z60 682,.ref 364⟩,⟨kh P z61,.str z61 688,.ref 369⟩,⟨kh P z62,.str z62 699,.ref 376⟩,⟨kh P z63,.str z63 710,.ref 383⟩,⟨kh P z64,.str z64 720,.ref 390⟩,⟨kh P z65,.str z65 730,.ref 397⟩,⟨kh P z66,.str z66 736,.ref 402⟩,⟨kh P z67,.str z67 742,.ref 407⟩]
def o3 (P : Params) : Obj := ⟨.type t0,.none,.dict ⟨l3 P⟩ 66,⟨[]⟩⟩
def v3_1 (P : Params) : Obj := ⟨.type t0,.none,.dict ⟨[⟨kh P z0,.str z0 165,.str z71 187⟩,⟨kh P z2,.str z2 166,.none⟩,⟨kh P z3,.str z3 167,.none⟩,⟨kh P z4,.str z4 168,.builtin t1⟩,⟨kh P z5,.str z5 169,.none⟩,⟨kh P z6,.str z6 170,.ref 6⟩,⟨kh P z7,.str z7 171,.ref 4⟩,⟨kh P z8,.str z8 173,.str z9 172⟩,⟨kh P z10,.str z10 174,.none⟩,⟨kh P z11,.str z11 206,.ref 24⟩]⟩ 10,⟨[]⟩⟩
def v3_4 (P : Params) : Obj := ⟨.type t0,.none,.dict ⟨[⟨kh P z0,.str z0 165,.str z71 187⟩,⟨kh P z2,.str z2 166,.none⟩,⟨kh P z3,.str z3 167,.none⟩,⟨kh P z4,.str z4 168,.builtin t1⟩,⟨kh P z5,.str z5 169,.none⟩,⟨kh P z6,.str z6 170,.ref 6⟩,⟨kh P z7,.str z7 171,.ref 4⟩,⟨kh P z8,.str z8 173,.str z9 172⟩,⟨kh P z10,.str z10 174,.none⟩,⟨kh P z11,.str z11 206,.ref 24⟩,⟨kh P z12,.str z12 222,.ref 37⟩]⟩ 11,⟨[]⟩⟩
def v3_7 (P : Params) : Obj := ⟨.type t0,.none,.dict ⟨[⟨kh P z0,.str z0 165,.str z71 187⟩,⟨kh P z2,.str z2 166,.none⟩,⟨kh P z3,.str z3 167,.none⟩,⟨kh P z4,.str z4 168,.builtin t1⟩,⟨kh P z5,.str z5 169,.none⟩,⟨kh P z6,.str z6 170,.ref 6⟩,⟨kh P z7,.str z7 171,.ref 4⟩,⟨kh P z8,.str z8 173,.str z9 172⟩,⟨kh P z10,.str z10 174,.none⟩,⟨kh P z11,.str z11 206,.ref 24⟩,⟨kh P z12,.str z12 222,.ref 37⟩,⟨kh P z13,.str z13 238,.ref 49⟩]⟩ 12,⟨[]⟩⟩
def v3_10 (P : Params) : Obj := ⟨.type t0,.none,.dict ⟨[⟨kh P z0,.str z0 165,.str z71 187⟩,⟨kh P z2,.str z2 166,.none⟩,⟨kh P z3,.str z3 167,.none⟩,⟨kh P z4,.str z4 168,.builtin t1⟩,⟨kh P z5,.str z5 169,.none⟩,⟨kh P z6,.str z6 170,.ref 6⟩,⟨kh P z7,.str z7 171,.ref 4⟩,⟨kh P z8,.str z8 173,.str z9 172⟩,⟨kh P z10,.str z10 174,.none⟩,⟨kh P z11,.str z11 206,.ref 24⟩,⟨kh P z12,.str z12 222,.ref 37⟩,⟨kh P z13,.str z13 238,.ref 49⟩,⟨kh P z14,.str z14 254,.ref 61⟩]⟩ 13,⟨[]⟩⟩
def v3_13 (P : Params) : Obj := ⟨.type t0,.none,.dict ⟨[⟨kh P z0,.str z0 165,.str z71 187⟩,⟨kh P z2,.str z2 166,.none⟩,⟨kh P z3,.str z3 167,.none⟩,⟨kh P z4,.str z4 168,.builtin t1⟩,⟨kh P z5,.str z5 169,.none⟩,⟨kh P z6,.str z6 170,.ref 6⟩,⟨kh P z7,.str z7 171,.ref 4⟩,⟨kh P z8,.str z8 173,.str z9 172⟩,⟨kh P z10,.str z10 174,.none⟩,⟨kh P z11,.str z11 206,.ref 24⟩,⟨kh P z12,.str z12 222,.ref 37⟩,⟨kh P z13,.str z13 238,.ref 49⟩,⟨kh P z14,.str z14 254,.ref 61⟩,⟨kh P z15,.str z15 270,.ref 73⟩]⟩ 14,⟨[]⟩⟩
def v3_16 (P : Params) : Obj := ⟨.type t0,.none,.dict ⟨[⟨kh P z0,.str z0 165,.str z71 187⟩,⟨kh P z2,.str z2 166,.none⟩,⟨kh P z3,.str z3 167,.none⟩,⟨kh P z4,.str z4 168,.builtin t1⟩,⟨kh P z5,.str z5 169,.none⟩,⟨kh P z6,.str z6 170,.ref 6⟩,⟨kh P z7,.str z7 171,.ref 4⟩,⟨kh P z8,.str z8 173,.str z9 172⟩,⟨kh P z10,.str z10 174,.none⟩,⟨kh P z11,.str z11 206,.ref 24⟩,⟨kh P z12,.str z12 222,.ref 37⟩,⟨kh P z13,.str z13 238,.ref 49⟩,⟨kh P z14,.str z14 254,.ref 61⟩,⟨kh P z15,.str z15 270,.ref 73⟩,⟨kh P z16,.str z16 286,.ref 85⟩]⟩ 15,⟨[]⟩⟩
def v3_19 (P : Params) : Obj := ⟨.type t0,.none,.dict ⟨[⟨kh P z0,.str z0 165,.str z71 187⟩,⟨kh P z2,.str z2 166,.none⟩,⟨kh P z3,.str z3 167,.none⟩,⟨kh P z4,.str z4 168,.builtin t1⟩,⟨kh P z5,.str z5 169,.none⟩,⟨kh P z6,.str z6 170,.ref 6⟩,⟨kh P z7,.str z7 171,.ref 4⟩,⟨kh P z8,.str z8 173,.str z9 172⟩,⟨kh P z10,.str z10 174,.none⟩,⟨kh P z11,.str z11 206,.ref 24⟩,⟨kh P z12,.str z12 222,.ref 37⟩,⟨kh P z13,.str z13 238,.ref 49⟩,⟨kh P z14,.str z14 254,.ref 61⟩,⟨kh P z15,.str z15 270,.ref 73⟩,⟨kh P z16,.str z16 286,.ref 85⟩,⟨kh P z17,.str z17 302,.ref 97⟩]⟩ 16,⟨[]⟩⟩
def v3_22 (P : Params) : Obj := ⟨.type t0,.none,.dict ⟨[⟨kh P z0,.str z0 165,.str z71 187⟩,⟨kh P z2,.str z2 166,.none⟩,⟨kh P z3,.str z3 167,.none⟩,⟨kh P z4,.str z4 168,.builtin t1⟩,⟨kh P z5,.str z5 169,.none⟩,⟨kh P z6,.str z6 170,.ref 6⟩,⟨kh P z7,.str z7 171,.ref 4⟩,⟨kh P z8,.str z8 173,.str z9 172⟩,⟨kh P z10,.str z10 174,.none⟩,⟨kh P z11,.str z11 206,.ref 24⟩,⟨kh P z12,.str z12 222,.ref 37⟩,⟨kh P z13,.str z13 238,.ref 49⟩,⟨kh P z14,.str z14 254,.ref 61⟩,⟨kh P z15,.str z15 270,.ref 73⟩,⟨kh P z16,.str z16 286,.ref 85⟩,⟨kh P z17,.str z17 302,.ref 97⟩,⟨kh P z18,.str z18 318,.ref 109⟩]⟩ 17,⟨[]⟩⟩
def v3_25 (P : Params) : Obj := ⟨.type t0,.none,.dict ⟨[⟨kh P z0,.str z0 165,.str z89 382⟩,⟨kh P z2,.str z2 166,.none⟩,⟨kh P z3,.str z3 167,.none⟩,⟨kh P z4,.str z4 168,.builtin t1⟩,⟨kh P z5,.str z5 169,.none⟩,⟨kh P z6,.str z6 170,.ref 6⟩,⟨kh P z7,.str z7 171,.ref 4⟩,⟨kh P z8,.str z8 173,.str z9 172⟩,⟨kh P z10,.str z10 174,.none⟩,⟨kh P z11,.str z11 206,.ref 24⟩,⟨kh P z12,.str z12 222,.ref 37⟩,⟨kh P z13,.str z13 238,.ref 49⟩,⟨kh P z14,.str z14 254,.ref 61⟩,⟨kh P z15,.str z15 270,.ref 73⟩,⟨kh P z16,.str z16 286,.ref 85⟩,⟨kh P z17,.str z17 302,.ref 97⟩,⟨kh P z18,.str z18 318,.ref 109⟩,⟨kh P z19,.str z19 334,.ref 121⟩,⟨kh P z20,.str z20 344,.ref 130⟩,⟨kh P z21,.str z21 352,.ref 137⟩,⟨kh P z22,.str z22 363,.ref 144⟩,⟨kh P z23,.str z23 372,.ref 151⟩,⟨kh P z24,.str z24 381,.ref 158⟩]⟩ 23,⟨[]⟩⟩
def v3_27 (P : Params) : Obj := ⟨.type t0,.none,.dict ⟨[⟨kh P z0,.str z0 165,.str z104 492⟩,⟨kh P z2,.str z2 166,.none⟩,⟨kh P z3,.str z3 167,.none⟩,⟨kh P z4,.str z4 168,.builtin t1⟩,⟨kh P z5,.str z5 169,.none⟩,⟨kh P z6,.str z6 170,.ref 6⟩,⟨kh P z7,.str z7 171,.ref 4⟩,⟨kh P z8,.str z8 173,.str z9 172⟩,⟨kh P z10,.str z10 174,.none⟩,⟨kh P z11,.str z11 206,.ref 24⟩,⟨kh P z12,.str z12 222,.ref 37⟩,⟨kh P z13,.str z13 238,.ref 49⟩,⟨kh P z14,.str z14 254,.ref 61⟩,⟨kh P z15,.str z15 270,.ref 73⟩,⟨kh P z16,.str z16 286,.ref 85⟩,⟨kh P z17,.str z17 302,.ref 97⟩,⟨kh P z18,.str z18 318,.ref 109⟩,⟨kh P z19,.str z19 334,.ref 121⟩,⟨kh P z20,.str z20 344,.ref 130⟩,⟨kh P z21,.str z21 352,.ref 137⟩,⟨kh P z22,.str z22 363,.ref 144⟩,⟨kh P z23,.str z23 372,.ref 151⟩,⟨kh P z24,.str z24 381,.ref 158⟩,⟨kh P z25,.str z25 391,.ref 165⟩,⟨kh P z26,.str z26 406,.ref 172⟩,⟨kh P z27,.str z27 412,.ref 177⟩,⟨kh P z28,.str z28 424,.ref 184⟩,⟨kh P z29,.str z29 430,.ref 189⟩,⟨kh P z30,.str z30 434,.int 1000000 433⟩,⟨kh P z31,.str z31 442,.ref 196⟩,⟨kh P z32,.str z32 450,.ref 203⟩,⟨kh P z33,.str z33 456,.ref 208⟩,⟨kh P z34,.str z34 465,.ref 215⟩,⟨kh P z35,.str z35 476,.ref 222⟩,⟨kh P z36,.str z36 482,.ref 227⟩,⟨kh P z37,.str z37 491,.ref 234⟩]⟩ 36,⟨[]⟩⟩
def v3_29 (P : Params) : Obj := ⟨.type t0,.none,.dict ⟨[⟨kh P z0,.str z0 165,.str z105 510⟩,⟨kh P z2,.str z2 166,.none⟩,⟨kh P z3,.str z3 167,.none⟩,⟨kh P z4,.str z4 168,.builtin t1⟩,⟨kh P z5,.str z5 169,.none⟩,⟨kh P z6,.str z6 170,.ref 6⟩,⟨kh P z7,.str z7 171,.ref 4⟩,⟨kh P z8,.str z8 173,.str z9 172⟩,⟨kh P z10,.str z10 174,.none⟩,⟨kh P z11,.str z11 206,.ref 24⟩,⟨kh P z12,.str z12 222,.ref 37⟩,⟨kh P z13,.str z13 238,.ref 49⟩,⟨kh P z14,.str z14 254,.ref 61⟩,⟨kh P z15,.str z15 270,.ref 73⟩,⟨kh P z16,.str z16 286,.ref 85⟩,⟨kh P z17,.str z17 302,.ref 97⟩,⟨kh P z18,.str z18 318,.ref 109⟩,⟨kh P z19,.str z19 334,.ref 121⟩,⟨kh P z20,.str z20 344,.ref 130⟩,⟨kh P z21,.str z21 352,.ref 137⟩,⟨kh P z22,.str z22 363,.ref 144⟩,⟨kh P z23,.str z23 372,.ref 151⟩,⟨kh P z24,.str z24 381,.ref 158⟩,⟨kh P z25,.str z25 391,.ref 165⟩,⟨kh P z26,.str z26 406,.ref 172⟩,⟨kh P z27,.str z27 412,.ref 177⟩,⟨kh P z28,.str z28 424,.ref 184⟩,⟨kh P z29,.str z29 430,.ref 189⟩,⟨kh P z30,.str z30 434,.int 1000000 433⟩,⟨kh P z31,.str z31 442,.ref 196⟩,⟨kh P z32,.str z32 450,.ref 203⟩,⟨kh P z33,.str z33 456,.ref 208⟩,⟨kh P z34,.str z34 465,.ref 215⟩,⟨kh P z35,.str z35 476,.ref 222⟩,⟨kh P z36,.str z36 482,.ref 227⟩,⟨kh P z37,.str z37 491,.ref 234⟩,⟨kh P z38,.str z38 499,.ref 239⟩,⟨kh P z39,.str z39 509,.ref 246⟩,⟨kh P z40,.str z40 517,.ref 251⟩,⟨kh P z41,.str z41 527,.ref 258⟩,⟨kh P z42,.str z42 533,.ref 263⟩,⟨kh P z43,.str z43 539,.ref 268⟩,⟨kh P z44,.str z44 554,.ref 275⟩,⟨kh P z45,.str z45 565,.ref 282⟩,⟨kh P z46,.str z46 571,.ref 287⟩,⟨kh P z47,.str z47 577,.ref 292⟩,⟨kh P z48,.str z48 583,.ref 297⟩,⟨kh P z49,.str z49 589,.ref 302⟩,⟨kh P z50,.str z50 595,.ref 307⟩]⟩ 49,⟨[]⟩⟩
def v3_31 (P : Params) : Obj := ⟨.type t0,.none,.dict ⟨(l3 P).take 62⟩ 62,⟨[]⟩⟩
def o11 (P : Params) : Obj := ⟨.type t2,.none,.seq ⟨[]⟩ 0,⟨[]⟩⟩
def l12 (P : Params) : List Value := [.int 2 0,.int 0 0,.ref 20,.int 4 0,.int 0 0,.ref 33,.int 6 0,.int 0 0,.ref 45,.int 8 0,.int 0 0,.ref 57,.int 10 0,.int 0 0,.ref 69,.int 12 0,.int 0 0,.ref 81,.int 14 0,.int 0 0,.ref 93,.int 16 0,.int 0 0,.ref 105,.int 18 0,.int 0 0,.ref 117,.int 21 0,.int 0 0,.ref 129,.int 30 0,.int 0 0,.ref 136,.int 34 0,.int 0 0,.ref 143,.int 44 0,.int 0 0,.ref 150,.int 51 0,.int 0 0,.ref 157,.int 55 0,.int 0 0,.ref 164,.int 60 0,.int 0 0,.ref 171,.int 70 0,.int 0 0,.ref 176,.int 75 0,.int 0 0,.ref 183,.int 83 0,.int 0 0,.ref 188,.int 89 0,.int 0 0,.ref 195,.int 94 0,.int 0 0,.ref 202,.int 96 0,.int 0 0,.ref 207,.int 98 0,.int 0 0,.ref 214,.int 101 0,.int 0 0,.ref 221,.int 104 0,.int 0 0,.ref 226,.int 122 0,.int 0 0,.ref 233,.int 125 0,.int 0 0,.ref 238,.int 133 0,.int 0 0,.ref 245,.int 139 0,.int 0 0,.ref 250,.int 141 0,.int 0 0,.ref 257,.int 146 0,.int 0 0,.ref 262,.int 151 0,.int 0 0,.ref 267,.int 159 0,.int 0 0,.ref 274,.int 173 0,.int 0 0,.ref 281,.int 181 0,.int 0 0,.ref 286,.int 190 0,.int 0 0,.ref 291,.int 197 0,.int 0 0,.ref 296,.int 211 0,.int 0 0,.ref 301,.int 213 0,.int 0 0,.ref 306,.int 219 0,.int 0 0,.ref 313,.int 226 0,.int 0 0,.ref 318,.int 229 0,.int 0 0,.ref 325,.int 240 0,.int 0 0,.ref 330,.int 245 0,.int 0 0,.ref 337,.int 254 0,.int 0 0,.ref 344,.int 264 0,.int 0 0,.ref 351,.int 269 0,.int 0 0,.ref 356,.int 274 0,.int 0 0,.ref 363,.int 282 0,.int 0 0,.ref 368,.int 293 0,.int 0 0,.ref 375,.int 300 0,.int 0 0,.ref 382,.int 306 0,.int 0 0,.ref 389,.int 311 0,.int 0 0,.ref 396,.int 321 0,.int 0 0,.ref 401,.int 323 0,.int 0 0,.ref 406]
def o12 (P : Params) : Obj := ⟨.none,.none,.fields ⟨l12 P⟩,⟨[]⟩⟩
def v12_0 (P : Params) : Obj := ⟨.none,.none,.fields ⟨(l12 P).take 0⟩,⟨[]⟩⟩
def v12_2 (P : Params) : Obj := ⟨.none,.none,.fields ⟨(l12 P).take 3⟩,⟨[]⟩⟩
def v12_5 (P : Params) : Obj := ⟨.none,.none,.fields ⟨(l12 P).take 6⟩,⟨[]⟩⟩
def v12_8 (P : Params) : Obj := ⟨.none,.none,.fields ⟨(l12 P).take 9⟩,⟨[]⟩⟩
def v12_11 (P : Params) : Obj := ⟨.none,.none,.fields ⟨(l12 P).take 12⟩,⟨[]⟩⟩
def v12_14 (P : Params) : Obj := ⟨.none,.none,.fields ⟨(l12 P).take 15⟩,⟨[]⟩⟩
def v12_17 (P : Params) : Obj := ⟨.none,.none,.fields ⟨(l12 P).take 18⟩,⟨[]⟩⟩
def v12_20 (P : Params) : Obj := ⟨.none,.none,.fields ⟨(l12 P).take 21⟩,⟨[]⟩⟩
def v12_23 (P : Params) : Obj := ⟨.none,.none,.fields ⟨(l12 P).take 24⟩,⟨[]⟩⟩
def v12_26 (P : Params) : Obj := ⟨.none,.none,.fields ⟨(l12 P).take 42⟩,⟨[]⟩⟩
def v12_28 (P : Params) : Obj := ⟨.none,.none,.fields ⟨(l12 P).take 78⟩,⟨[]⟩⟩
def v12_30 (P : Params) : Obj := ⟨.none,.none,.fields ⟨(l12 P).take 117⟩,⟨[]⟩⟩
def v12_32 (P : Params) : Obj := ⟨.none,.none,.fields ⟨(l12 P).take 153⟩,⟨[]⟩⟩
def o13 (P : Params) : Obj := ⟨.type t3,.none,.fields ⟨[.str z68 182,.str z68 183,.str z9 184,.int 1 0,.int 0 0,.int 0 0,.int 0 0,.int 0 0,.ref 11,.bool false,.int 181 0,.ref 12,.none,.none,.none,.none,.int 185 0,.int 1 0,.str z9 186]⟩,⟨[]⟩⟩
def o14 (P : Params) : Obj := ⟨.type t4,.none,.plain,⟨[.some (.ref 13),.some (.ref 3),.some (.ref 3),.none,.some (.str z69 164),.none,.some (.ref 0)]⟩⟩
def o15 (P : Params) : Obj := ⟨.type t2,.none,.seq ⟨[.type t5]⟩ 0,⟨[]⟩⟩
def o16 (P : Params) : Obj := ⟨.type t6,.none,.fields ⟨[.builtin t7,.type t8]⟩,⟨[]⟩⟩
def o17 (P : Params) : Obj := ⟨.type t0,.none,.dict ⟨[⟨kh P z70,.str z70 196,.str z71 187⟩,⟨kh P z72,.str z72 198,.str z11 197⟩,⟨kh P z73,.str z73 200,.int 2 199⟩,⟨kh P z74,.str z74 201,.ref 22⟩]⟩ 4,⟨[]⟩⟩
def o18 (P : Params) : Obj := ⟨.type t2,.none,.seq ⟨[]⟩ 0,⟨[]⟩⟩
def o19 (P : Params) : Obj := ⟨.none,.none,.fields ⟨[]⟩,⟨[]⟩⟩
def o20 (P : Params) : Obj := ⟨.type t3,.none,.fields ⟨[.str z11 191,.str z11 192,.str z9 193,.int 2 0,.int 0 0,.int 0 0,.int 0 0,.int 0 0,.ref 18,.bool false,.int 181 0,.ref 19,.none,.none,.none,.none,.int 194 0,.int 2 0,.str z9 195]⟩,⟨[]⟩⟩
def o21 (P : Params) : Obj := ⟨.type t4,.none,.plain,⟨[.some (.ref 20),.some (.ref 3),.some (.ref 17),.none,.some (.str z71 187),.none,.some (.ref 0)]⟩⟩
def o22 (P : Params) : Obj := ⟨.type t2,.none,.seq ⟨[]⟩ 0,⟨[]⟩⟩
def o23 (P : Params) : Obj := ⟨.type t0,.none,.dict ⟨[⟨kh P z70,.str z70 196,.str z71 187⟩,⟨kh P z73,.str z73 200,.int 2 199⟩,⟨kh P z74,.str z74 201,.ref 22⟩,⟨kh P z75,.str z75 203,.ref 25⟩,⟨kh P z2,.str z2 204,.none⟩]⟩ 3,⟨[]⟩⟩
def o24 (P : Params) : Obj := ⟨.type t8,.none,.cls ⟨z11,[.type t5],[.ref 24,.type t5,.type t10,.type t11,.type t12],23,z11,true,[],[.ref 37,.ref 49,.ref 61,.ref 73,.ref 85,.ref 97,.ref 109,.ref 121],false,.none,false⟩,⟨[.some (.ref 15),.none,.some (.str z11 189),.some (.str z11 197),.some (.builtin t9),.some (.bool true)]⟩⟩
def v24_3 (P : Params) : Obj := ⟨.type t8,.none,.cls ⟨z11,[.type t5],[.ref 24,.type t5,.type t10,.type t11,.type t12],23,z11,true,[],[],false,.none,false⟩,⟨[.some (.ref 15),.none,.some (.str z11 189),.some (.str z11 197),.some (.builtin t9),.some (.bool true)]⟩⟩
def v24_6 (P : Params) : Obj := ⟨.type t8,.none,.cls ⟨z11,[.type t5],[.ref 24,.type t5,.type t10,.type t11,.type t12],23,z11,true,[],[.ref 37],false,.none,false⟩,⟨[.some (.ref 15),.none,.some (.str z11 189),.some (.str z11 197),.some (.builtin t9),.some (.bool true)]⟩⟩
def v24_9 (P : Params) : Obj := ⟨.type t8,.none,.cls ⟨z11,[.type t5],[.ref 24,.type t5,.type t10,.type t11,.type t12],23,z11,true,[],[.ref 37,.ref 49],false,.none,false⟩,⟨[.some (.ref 15),.none,.some (.str z11 189),.some (.str z11 197),.some (.builtin t9),.some (.bool true)]⟩⟩
def v24_12 (P : Params) : Obj := ⟨.type t8,.none,.cls ⟨z11,[.type t5],[.ref 24,.type t5,.type t10,.type t11,.type t12],23,z11,true,[],[.ref 37,.ref 49,.ref 61],false,.none,false⟩,⟨[.some (.ref 15),.none,.some (.str z11 189),.some (.str z11 197),.some (.builtin t9),.some (.bool true)]⟩⟩
def v24_15 (P : Params) : Obj := ⟨.type t8,.none,.cls ⟨z11,[.type t5],[.ref 24,.type t5,.type t10,.type t11,.type t12],23,z11,true,[],[.ref 37,.ref 49,.ref 61,.ref 73],false,.none,false⟩,⟨[.some (.ref 15),.none,.some (.str z11 189),.some (.str z11 197),.some (.builtin t9),.some (.bool true)]⟩⟩
def v24_18 (P : Params) : Obj := ⟨.type t8,.none,.cls ⟨z11,[.type t5],[.ref 24,.type t5,.type t10,.type t11,.type t12],23,z11,true,[],[.ref 37,.ref 49,.ref 61,.ref 73,.ref 85],false,.none,false⟩,⟨[.some (.ref 15),.none,.some (.str z11 189),.some (.str z11 197),.some (.builtin t9),.some (.bool true)]⟩⟩
def v24_21 (P : Params) : Obj := ⟨.type t8,.none,.cls ⟨z11,[.type t5],[.ref 24,.type t5,.type t10,.type t11,.type t12],23,z11,true,[],[.ref 37,.ref 49,.ref 61,.ref 73,.ref 85,.ref 97],false,.none,false⟩,⟨[.some (.ref 15),.none,.some (.str z11 189),.some (.str z11 197),.some (.builtin t9),.some (.bool true)]⟩⟩
def v24_24 (P : Params) : Obj := ⟨.type t8,.none,.cls ⟨z11,[.type t5],[.ref 24,.type t5,.type t10,.type t11,.type t12],23,z11,true,[],[.ref 37,.ref 49,.ref 61,.ref 73,.ref 85,.ref 97,.ref 109],false,.none,false⟩,⟨[.some (.ref 15),.none,.some (.str z11 189),.some (.str z11 197),.some (.builtin t9),.some (.bool true)]⟩⟩
def o25 (P : Params) : Obj := ⟨.type t13,.none,.fields ⟨[.str z75 202,.ref 24,.builtin t14,.none]⟩,⟨[]⟩⟩
def o26 (P : Params) : Obj := ⟨.type t15,.none,.fields ⟨[.ref 24,.ref 24,.ref 24]⟩,⟨[]⟩⟩
def o27 (P : Params) : Obj := ⟨.type t6,.none,.fields ⟨[.builtin t16,.ref 24]⟩,⟨[]⟩⟩
def o28 (P : Params) : Obj := ⟨.type t2,.none,.seq ⟨[.ref 24]⟩ 0,⟨[]⟩⟩
def o29 (P : Params) : Obj := ⟨.type t6,.none,.fields ⟨[.builtin t7,.type t8]⟩,⟨[]⟩⟩
def o30 (P : Params) : Obj := ⟨.type t0,.none,.dict ⟨[⟨kh P z70,.str z70 214,.str z71 187⟩,⟨kh P z72,.str z72 216,.str z12 215⟩,⟨kh P z73,.str z73 218,.int 4 217⟩,⟨kh P z74,.str z74 219,.ref 35⟩]⟩ 4,⟨[]⟩⟩
def o31 (P : Params) : Obj := ⟨.type t2,.none,.seq ⟨[]⟩ 0,⟨[]⟩⟩
def o32 (P : Params) : Obj := ⟨.none,.none,.fields ⟨[]⟩,⟨[]⟩⟩
def o33 (P : Params) : Obj := ⟨.type t3,.none,.fields ⟨[.str z12 209,.str z12 210,.str z9 211,.int 4 0,.int 0 0,.int 0 0,.int 0 0,.int 0 0,.ref 31,.bool false,.int 181 0,.ref 32,.none,.none,.none,.none,.int 212 0,.int 4 0,.str z9 213]⟩,⟨[]⟩⟩
def o34 (P : Params) : Obj := ⟨.type t4,.none,.plain,⟨[.some (.ref 33),.some (.ref 3),.some (.ref 30),.none,.some (.str z71 187),.none,.some (.ref 0)]⟩⟩
def o35 (P : Params) : Obj := ⟨.type t2,.none,.seq ⟨[]⟩ 0,⟨[]⟩⟩
def o36 (P : Params) : Obj := ⟨.type t0,.none,.dict ⟨[⟨kh P z70,.str z70 214,.str z71 187⟩,⟨kh P z73,.str z73 218,.int 4 217⟩,⟨kh P z74,.str z74 219,.ref 35⟩,⟨kh P z2,.str z2 220,.none⟩]⟩ 2,⟨[]⟩⟩
def o37 (P : Params) : Obj := ⟨.type t8,.none,.cls ⟨z12,[.ref 24],[.ref 37,.ref 24,.type t5,.type t10,.type t11,.type t12],36,z12,true,[],[],false,.none,false⟩,⟨[.some (.ref 28),.none,.some (.str z12 207),.some (.str z12 215),.some (.builtin t9),.some (.bool true)]⟩⟩
def o38 (P : Params) : Obj := ⟨.type t15,.none,.fields ⟨[.ref 37,.ref 37,.ref 37]⟩,⟨[]⟩⟩
def o39 (P : Params) : Obj := ⟨.type t6,.none,.fields ⟨[.builtin t16,.ref 37]⟩,⟨[]⟩⟩
def o40 (P : Params) : Obj := ⟨.type t2,.none,.seq ⟨[.ref 24]⟩ 0,⟨[]⟩⟩
def o41 (P : Params) : Obj := ⟨.type t6,.none,.fields ⟨[.builtin t7,.type t8]⟩,⟨[]⟩⟩
def o42 (P : Params) : Obj := ⟨.type t0,.none,.dict ⟨[⟨kh P z70,.str z70 230,.str z71 187⟩,⟨kh P z72,.str z72 232,.str z13 231⟩,⟨kh P z73,.str z73 234,.int 6 233⟩,⟨kh P z74,.str z74 235,.ref 47⟩]⟩ 4,⟨[]⟩⟩
def o43 (P : Params) : Obj := ⟨.type t2,.none,.seq ⟨[]⟩ 0,⟨[]⟩⟩
def o44 (P : Params) : Obj := ⟨.none,.none,.fields ⟨[]⟩,⟨[]⟩⟩
def o45 (P : Params) : Obj := ⟨.type t3,.none,.fields ⟨[.str z13 225,.str z13 226,.str z9 227,.int 6 0,.int 0 0,.int 0 0,.int 0 0,.int 0 0,.ref 43,.bool false,.int 181 0,.ref 44,.none,.none,.none,.none,.int 228 0,.int 6 0,.str z9 229]⟩,⟨[]⟩⟩
def o46 (P : Params) : Obj := ⟨.type t4,.none,.plain,⟨[.some (.ref 45),.some (.ref 3),.some (.ref 42),.none,.some (.str z71 187),.none,.some (.ref 0)]⟩⟩
def o47 (P : Params) : Obj := ⟨.type t2,.none,.seq ⟨[]⟩ 0,⟨[]⟩⟩
def o48 (P : Params) : Obj := ⟨.type t0,.none,.dict ⟨[⟨kh P z70,.str z70 230,.str z71 187⟩,⟨kh P z73,.str z73 234,.int 6 233⟩,⟨kh P z74,.str z74 235,.ref 47⟩,⟨kh P z2,.str z2 236,.none⟩]⟩ 2,⟨[]⟩⟩
def o49 (P : Params) : Obj := ⟨.type t8,.none,.cls ⟨z13,[.ref 24],[.ref 49,.ref 24,.type t5,.type t10,.type t11,.type t12],48,z13,true,[],[],false,.none,false⟩,⟨[.some (.ref 40),.none,.some (.str z13 223),.some (.str z13 231),.some (.builtin t9),.some (.bool true)]⟩⟩
def o50 (P : Params) : Obj := ⟨.type t15,.none,.fields ⟨[.ref 49,.ref 49,.ref 49]⟩,⟨[]⟩⟩
def o51 (P : Params) : Obj := ⟨.type t6,.none,.fields ⟨[.builtin t16,.ref 49]⟩,⟨[]⟩⟩
def o52 (P : Params) : Obj := ⟨.type t2,.none,.seq ⟨[.ref 24]⟩ 0,⟨[]⟩⟩
def o53 (P : Params) : Obj := ⟨.type t6,.none,.fields ⟨[.builtin t7,.type t8]⟩,⟨[]⟩⟩
def o54 (P : Params) : Obj := ⟨.type t0,.none,.dict ⟨[⟨kh P z70,.str z70 246,.str z71 187⟩,⟨kh P z72,.str z72 248,.str z14 247⟩,⟨kh P z73,.str z73 250,.int 8 249⟩,⟨kh P z74,.str z74 251,.ref 59⟩]⟩ 4,⟨[]⟩⟩
def o55 (P : Params) : Obj := ⟨.type t2,.none,.seq ⟨[]⟩ 0,⟨[]⟩⟩
def o56 (P : Params) : Obj := ⟨.none,.none,.fields ⟨[]⟩,⟨[]⟩⟩
def o57 (P : Params) : Obj := ⟨.type t3,.none,.fields ⟨[.str z14 241,.str z14 242,.str z9 243,.int 8 0,.int 0 0,.int 0 0,.int 0 0,.int 0 0,.ref 55,.bool false,.int 181 0,.ref 56,.none,.none,.none,.none,.int 244 0,.int 8 0,.str z9 245]⟩,⟨[]⟩⟩
def o58 (P : Params) : Obj := ⟨.type t4,.none,.plain,⟨[.some (.ref 57),.some (.ref 3),.some (.ref 54),.none,.some (.str z71 187),.none,.some (.ref 0)]⟩⟩
def o59 (P : Params) : Obj := ⟨.type t2,.none,.seq ⟨[]⟩ 0,⟨[]⟩⟩
def o60 (P : Params) : Obj := ⟨.type t0,.none,.dict ⟨[⟨kh P z70,.str z70 246,.str z71 187⟩,⟨kh P z73,.str z73 250,.int 8 249⟩,⟨kh P z74,.str z74 251,.ref 59⟩,⟨kh P z2,.str z2 252,.none⟩]⟩ 2,⟨[]⟩⟩
def o61 (P : Params) : Obj := ⟨.type t8,.none,.cls ⟨z14,[.ref 24],[.ref 61,.ref 24,.type t5,.type t10,.type t11,.type t12],60,z14,true,[],[],false,.none,false⟩,⟨[.some (.ref 52),.none,.some (.str z14 239),.some (.str z14 247),.some (.builtin t9),.some (.bool true)]⟩⟩
def o62 (P : Params) : Obj := ⟨.type t15,.none,.fields ⟨[.ref 61,.ref 61,.ref 61]⟩,⟨[]⟩⟩
def o63 (P : Params) : Obj := ⟨.type t6,.none,.fields ⟨[.builtin t16,.ref 61]⟩,⟨[]⟩⟩
def o64 (P : Params) : Obj := ⟨.type t2,.none,.seq ⟨[.ref 24]⟩ 0,⟨[]⟩⟩
def o65 (P : Params) : Obj := ⟨.type t6,.none,.fields ⟨[.builtin t7,.type t8]⟩,⟨[]⟩⟩
def o66 (P : Params) : Obj := ⟨.type t0,.none,.dict ⟨[⟨kh P z70,.str z70 262,.str z71 187⟩,⟨kh P z72,.str z72 264,.str z15 263⟩,⟨kh P z73,.str z73 266,.int 10 265⟩,⟨kh P z74,.str z74 267,.ref 71⟩]⟩ 4,⟨[]⟩⟩
def o67 (P : Params) : Obj := ⟨.type t2,.none,.seq ⟨[]⟩ 0,⟨[]⟩⟩
def o68 (P : Params) : Obj := ⟨.none,.none,.fields ⟨[]⟩,⟨[]⟩⟩
def o69 (P : Params) : Obj := ⟨.type t3,.none,.fields ⟨[.str z15 257,.str z15 258,.str z9 259,.int 10 0,.int 0 0,.int 0 0,.int 0 0,.int 0 0,.ref 67,.bool false,.int 181 0,.ref 68,.none,.none,.none,.none,.int 260 0,.int 10 0,.str z9 261]⟩,⟨[]⟩⟩
def o70 (P : Params) : Obj := ⟨.type t4,.none,.plain,⟨[.some (.ref 69),.some (.ref 3),.some (.ref 66),.none,.some (.str z71 187),.none,.some (.ref 0)]⟩⟩
def o71 (P : Params) : Obj := ⟨.type t2,.none,.seq ⟨[]⟩ 0,⟨[]⟩⟩
def o72 (P : Params) : Obj := ⟨.type t0,.none,.dict ⟨[⟨kh P z70,.str z70 262,.str z71 187⟩,⟨kh P z73,.str z73 266,.int 10 265⟩,⟨kh P z74,.str z74 267,.ref 71⟩,⟨kh P z2,.str z2 268,.none⟩]⟩ 2,⟨[]⟩⟩
def o73 (P : Params) : Obj := ⟨.type t8,.none,.cls ⟨z15,[.ref 24],[.ref 73,.ref 24,.type t5,.type t10,.type t11,.type t12],72,z15,true,[],[],false,.none,false⟩,⟨[.some (.ref 64),.none,.some (.str z15 255),.some (.str z15 263),.some (.builtin t9),.some (.bool true)]⟩⟩
def o74 (P : Params) : Obj := ⟨.type t15,.none,.fields ⟨[.ref 73,.ref 73,.ref 73]⟩,⟨[]⟩⟩
def o75 (P : Params) : Obj := ⟨.type t6,.none,.fields ⟨[.builtin t16,.ref 73]⟩,⟨[]⟩⟩
def o76 (P : Params) : Obj := ⟨.type t2,.none,.seq ⟨[.ref 24]⟩ 0,⟨[]⟩⟩
def o77 (P : Params) : Obj := ⟨.type t6,.none,.fields ⟨[.builtin t7,.type t8]⟩,⟨[]⟩⟩
def o78 (P : Params) : Obj := ⟨.type t0,.none,.dict ⟨[⟨kh P z70,.str z70 278,.str z71 187⟩,⟨kh P z72,.str z72 280,.str z16 279⟩,⟨kh P z73,.str z73 282,.int 12 281⟩,⟨kh P z74,.str z74 283,.ref 83⟩]⟩ 4,⟨[]⟩⟩
def o79 (P : Params) : Obj := ⟨.type t2,.none,.seq ⟨[]⟩ 0,⟨[]⟩⟩
def o80 (P : Params) : Obj := ⟨.none,.none,.fields ⟨[]⟩,⟨[]⟩⟩
def o81 (P : Params) : Obj := ⟨.type t3,.none,.fields ⟨[.str z16 273,.str z16 274,.str z9 275,.int 12 0,.int 0 0,.int 0 0,.int 0 0,.int 0 0,.ref 79,.bool false,.int 181 0,.ref 80,.none,.none,.none,.none,.int 276 0,.int 12 0,.str z9 277]⟩,⟨[]⟩⟩
def o82 (P : Params) : Obj := ⟨.type t4,.none,.plain,⟨[.some (.ref 81),.some (.ref 3),.some (.ref 78),.none,.some (.str z71 187),.none,.some (.ref 0)]⟩⟩
def o83 (P : Params) : Obj := ⟨.type t2,.none,.seq ⟨[]⟩ 0,⟨[]⟩⟩
def o84 (P : Params) : Obj := ⟨.type t0,.none,.dict ⟨[⟨kh P z70,.str z70 278,.str z71 187⟩,⟨kh P z73,.str z73 282,.int 12 281⟩,⟨kh P z74,.str z74 283,.ref 83⟩,⟨kh P z2,.str z2 284,.none⟩]⟩ 2,⟨[]⟩⟩
def o85 (P : Params) : Obj := ⟨.type t8,.none,.cls ⟨z16,[.ref 24],[.ref 85,.ref 24,.type t5,.type t10,.type t11,.type t12],84,z16,true,[],[],false,.none,false⟩,⟨[.some (.ref 76),.none,.some (.str z16 271),.some (.str z16 279),.some (.builtin t9),.some (.bool true)]⟩⟩
def o86 (P : Params) : Obj := ⟨.type t15,.none,.fields ⟨[.ref 85,.ref 85,.ref 85]⟩,⟨[]⟩⟩
def o87 (P : Params) : Obj := ⟨.type t6,.none,.fields ⟨[.builtin t16,.ref 85]⟩,⟨[]⟩⟩
def o88 (P : Params) : Obj := ⟨.type t2,.none,.seq ⟨[.ref 24]⟩ 0,⟨[]⟩⟩
def o89 (P : Params) : Obj := ⟨.type t6,.none,.fields ⟨[.builtin t7,.type t8]⟩,⟨[]⟩⟩
def o90 (P : Params) : Obj := ⟨.type t0,.none,.dict ⟨[⟨kh P z70,.str z70 294,.str z71 187⟩,⟨kh P z72,.str z72 296,.str z17 295⟩,⟨kh P z73,.str z73 298,.int 14 297⟩,⟨kh P z74,.str z74 299,.ref 95⟩]⟩ 4,⟨[]⟩⟩
def o91 (P : Params) : Obj := ⟨.type t2,.none,.seq ⟨[]⟩ 0,⟨[]⟩⟩
def o92 (P : Params) : Obj := ⟨.none,.none,.fields ⟨[]⟩,⟨[]⟩⟩
def o93 (P : Params) : Obj := ⟨.type t3,.none,.fields ⟨[.str z17 289,.str z17 290,.str z9 291,.int 14 0,.int 0 0,.int 0 0,.int 0 0,.int 0 0,.ref 91,.bool false,.int 181 0,.ref 92,.none,.none,.none,.none,.int 292 0,.int 14 0,.str z9 293]⟩,⟨[]⟩⟩
def o94 (P : Params) : Obj := ⟨.type t4,.none,.plain,⟨[.some (.ref 93),.some (.ref 3),.some (.ref 90),.none,.some (.str z71 187),.none,.some (.ref 0)]⟩⟩
def o95 (P : Params) : Obj := ⟨.type t2,.none,.seq ⟨[]⟩ 0,⟨[]⟩⟩
def o96 (P : Params) : Obj := ⟨.type t0,.none,.dict ⟨[⟨kh P z70,.str z70 294,.str z71 187⟩,⟨kh P z73,.str z73 298,.int 14 297⟩,⟨kh P z74,.str z74 299,.ref 95⟩,⟨kh P z2,.str z2 300,.none⟩]⟩ 2,⟨[]⟩⟩
def o97 (P : Params) : Obj := ⟨.type t8,.none,.cls ⟨z17,[.ref 24],[.ref 97,.ref 24,.type t5,.type t10,.type t11,.type t12],96,z17,true,[],[],false,.none,false⟩,⟨[.some (.ref 88),.none,.some (.str z17 287),.some (.str z17 295),.some (.builtin t9),.some (.bool true)]⟩⟩
def o98 (P : Params) : Obj := ⟨.type t15,.none,.fields ⟨[.ref 97,.ref 97,.ref 97]⟩,⟨[]⟩⟩
def o99 (P : Params) : Obj := ⟨.type t6,.none,.fields ⟨[.builtin t16,.ref 97]⟩,⟨[]⟩⟩
def o100 (P : Params) : Obj := ⟨.type t2,.none,.seq ⟨[.ref 24]⟩ 0,⟨[]⟩⟩
def o101 (P : Params) : Obj := ⟨.type t6,.none,.fields ⟨[.builtin t7,.type t8]⟩,⟨[]⟩⟩
def o102 (P : Params) : Obj := ⟨.type t0,.none,.dict ⟨[⟨kh P z70,.str z70 310,.str z71 187⟩,⟨kh P z72,.str z72 312,.str z18 311⟩,⟨kh P z73,.str z73 314,.int 16 313⟩,⟨kh P z74,.str z74 315,.ref 107⟩]⟩ 4,⟨[]⟩⟩
def o103 (P : Params) : Obj := ⟨.type t2,.none,.seq ⟨[]⟩ 0,⟨[]⟩⟩
def o104 (P : Params) : Obj := ⟨.none,.none,.fields ⟨[]⟩,⟨[]⟩⟩
def o105 (P : Params) : Obj := ⟨.type t3,.none,.fields ⟨[.str z18 305,.str z18 306,.str z9 307,.int 16 0,.int 0 0,.int 0 0,.int 0 0,.int 0 0,.ref 103,.bool false,.int 181 0,.ref 104,.none,.none,.none,.none,.int 308 0,.int 16 0,.str z9 309]⟩,⟨[]⟩⟩
def o106 (P : Params) : Obj := ⟨.type t4,.none,.plain,⟨[.some (.ref 105),.some (.ref 3),.some (.ref 102),.none,.some (.str z71 187),.none,.some (.ref 0)]⟩⟩
def o107 (P : Params) : Obj := ⟨.type t2,.none,.seq ⟨[]⟩ 0,⟨[]⟩⟩
def o108 (P : Params) : Obj := ⟨.type t0,.none,.dict ⟨[⟨kh P z70,.str z70 310,.str z71 187⟩,⟨kh P z73,.str z73 314,.int 16 313⟩,⟨kh P z74,.str z74 315,.ref 107⟩,⟨kh P z2,.str z2 316,.none⟩]⟩ 2,⟨[]⟩⟩
def o109 (P : Params) : Obj := ⟨.type t8,.none,.cls ⟨z18,[.ref 24],[.ref 109,.ref 24,.type t5,.type t10,.type t11,.type t12],108,z18,true,[],[],false,.none,false⟩,⟨[.some (.ref 100),.none,.some (.str z18 303),.some (.str z18 311),.some (.builtin t9),.some (.bool true)]⟩⟩
def o110 (P : Params) : Obj := ⟨.type t15,.none,.fields ⟨[.ref 109,.ref 109,.ref 109]⟩,⟨[]⟩⟩
def o111 (P : Params) : Obj := ⟨.type t6,.none,.fields ⟨[.builtin t16,.ref 109]⟩,⟨[]⟩⟩
def o112 (P : Params) : Obj := ⟨.type t2,.none,.seq ⟨[.ref 24]⟩ 0,⟨[]⟩⟩
def o113 (P : Params) : Obj := ⟨.type t6,.none,.fields ⟨[.builtin t7,.type t8]⟩,⟨[]⟩⟩
def o114 (P : Params) : Obj := ⟨.type t0,.none,.dict ⟨[⟨kh P z70,.str z70 326,.str z71 187⟩,⟨kh P z72,.str z72 328,.str z19 327⟩,⟨kh P z73,.str z73 330,.int 18 329⟩,⟨kh P z74,.str z74 331,.ref 119⟩]⟩ 4,⟨[]⟩⟩
def o115 (P : Params) : Obj := ⟨.type t2,.none,.seq ⟨[]⟩ 0,⟨[]⟩⟩
def o116 (P : Params) : Obj := ⟨.none,.none,.fields ⟨[]⟩,⟨[]⟩⟩
def o117 (P : Params) : Obj := ⟨.type t3,.none,.fields ⟨[.str z19 321,.str z19 322,.str z9 323,.int 18 0,.int 0 0,.int 0 0,.int 0 0,.int 0 0,.ref 115,.bool false,.int 181 0,.ref 116,.none,.none,.none,.none,.int 324 0,.int 18 0,.str z9 325]⟩,⟨[]⟩⟩
def o118 (P : Params) : Obj := ⟨.type t4,.none,.plain,⟨[.some (.ref 117),.some (.ref 3),.some (.ref 114),.none,.some (.str z71 187),.none,.some (.ref 0)]⟩⟩
def o119 (P : Params) : Obj := ⟨.type t2,.none,.seq ⟨[]⟩ 0,⟨[]⟩⟩
def o120 (P : Params) : Obj := ⟨.type t0,.none,.dict ⟨[⟨kh P z70,.str z70 326,.str z71 187⟩,⟨kh P z73,.str z73 330,.int 18 329⟩,⟨kh P z74,.str z74 331,.ref 119⟩,⟨kh P z2,.str z2 332,.none⟩]⟩ 2,⟨[]⟩⟩
def o121 (P : Params) : Obj := ⟨.type t8,.none,.cls ⟨z19,[.ref 24],[.ref 121,.ref 24,.type t5,.type t10,.type t11,.type t12],120,z19,true,[],[],false,.none,false⟩,⟨[.some (.ref 112),.none,.some (.str z19 319),.some (.str z19 327),.some (.builtin t9),.some (.bool true)]⟩⟩
def o122 (P : Params) : Obj := ⟨.type t15,.none,.fields ⟨[.ref 121,.ref 121,.ref 121]⟩,⟨[]⟩⟩
def o123 (P : Params) : Obj := ⟨.type t6,.none,.fields ⟨[.builtin t16,.ref 121]⟩,⟨[]⟩⟩
def o124 (P : Params) : Obj := ⟨.type t2,.none,.seq ⟨[]⟩ 0,⟨[]⟩⟩
def o125 (P : Params) : Obj := ⟨.none,.none,.fields ⟨[]⟩,⟨[]⟩⟩
def o126 (P : Params) : Obj := ⟨.type t2,.none,.seq ⟨[.str z76 340,.str z77 341]⟩ 0,⟨[]⟩⟩
def o127 (P : Params) : Obj := ⟨.type t2,.none,.seq ⟨[]⟩ 0,⟨[]⟩⟩
def o128 (P : Params) : Obj := ⟨.none,.none,.func ⟨z20,z20,L2.defArgs (tt 11),.stmts (L2.defBody (tt 11)),L2.defScope (tt 11),0,[],.none,.none,.none,.none,.none,.none,.none,0⟩,⟨[]⟩⟩
def o129 (P : Params) : Obj := ⟨.type t3,.none,.fields ⟨[.str z20 337,.str z20 338,.str z9 339,.int 21 0,.int 1 0,.int 0 0,.int 0 0,.int 3 0,.ref 124,.bool true,.int 181 0,.ref 125,.none,.ref 126,.ref 127,.ref 128,.int 342 0,.int 21 0,.str z9 343]⟩,⟨[]⟩⟩
def o130 (P : Params) : Obj := ⟨.type t17,.none,.func ⟨z20,z20,L2.defArgs (tt 11),.stmts (L2.defBody (tt 11)),L2.defScope (tt 11),3,[],.none,.none,.none,.str z78 335,.none,.ref 129,.none,0⟩,⟨[]⟩⟩
def o131 (P : Params) : Obj := ⟨.type t2,.none,.seq ⟨[]⟩ 0,⟨[]⟩⟩
def o132 (P : Params) : Obj := ⟨.none,.none,.fields ⟨[]⟩,⟨[]⟩⟩
def o133 (P : Params) : Obj := ⟨.type t2,.none,.seq ⟨[.str z79 348,.str z76 349]⟩ 0,⟨[]⟩⟩
def o134 (P : Params) : Obj := ⟨.type t2,.none,.seq ⟨[]⟩ 0,⟨[]⟩⟩
def o135 (P : Params) : Obj := ⟨.none,.none,.func ⟨z21,z21,L2.defArgs (tt 12),.stmts (L2.defBody (tt 12)),L2.defScope (tt 12),0,[],.none,.none,.none,.none,.none,.none,.none,0⟩,⟨[]⟩⟩
def o136 (P : Params) : Obj := ⟨.type t3,.none,.fields ⟨[.str z21 345,.str z21 346,.str z9 347,.int 30 0,.int 2 0,.int 0 0,.int 0 0,.int 3 0,.ref 131,.bool true,.int 181 0,.ref 132,.none,.ref 133,.ref 134,.ref 135,.int 350 0,.int 30 0,.str z9 351]⟩,⟨[]⟩⟩
def o137 (P : Params) : Obj := ⟨.type t17,.none,.func ⟨z21,z21,L2.defArgs (tt 12),.stmts (L2.defBody (tt 12)),L2.defScope (tt 12),3,[],.none,.none,.none,.str z78 335,.none,.ref 136,.none,0⟩,⟨[]⟩⟩
def o138 (P : Params) : Obj := ⟨.type t2,.none,.seq ⟨[]⟩ 0,⟨[]⟩⟩
def o139 (P : Params) : Obj := ⟨.none,.none,.fields ⟨[]⟩,⟨[]⟩⟩
def o140 (P : Params) : Obj := ⟨.type t2,.none,.seq ⟨[.str z80 356,.str z76 357,.str z58 358,.str z81 359,.str z82 360]⟩ 0,⟨[]⟩⟩
def o141 (P : Params) : Obj := ⟨.type t2,.none,.seq ⟨[]⟩ 0,⟨[]⟩⟩
def o142 (P : Params) : Obj := ⟨.none,.none,.func ⟨z22,z22,L2.defArgs (tt 13),.stmts (L2.defBody (tt 13)),L2.defScope (tt 13),0,[],.none,.none,.none,.none,.none,.none,.none,0⟩,⟨[]⟩⟩
def o143 (P : Params) : Obj := ⟨.type t3,.none,.fields ⟨[.str z22 353,.str z22 354,.str z9 355,.int 34 0,.int 2 0,.int 0 0,.int 0 0,.int 3 0,.ref 138,.bool true,.int 181 0,.ref 139,.none,.ref 140,.ref 141,.ref 142,.int 361 0,.int 34 0,.str z9 362]⟩,⟨[]⟩⟩
def o144 (P : Params) : Obj := ⟨.type t17,.none,.func ⟨z22,z22,L2.defArgs (tt 13),.stmts (L2.defBody (tt 13)),L2.defScope (tt 13),3,[],.none,.none,.none,.str z78 335,.none,.ref 143,.none,0⟩,⟨[]⟩⟩
def o145 (P : Params) : Obj := ⟨.type t2,.none,.seq ⟨[]⟩ 0,⟨[]⟩⟩
def o146 (P : Params) : Obj := ⟨.none,.none,.fields ⟨[]⟩,⟨[]⟩⟩
def o147 (P : Params) : Obj := ⟨.type t2,.none,.seq ⟨[.str z79 367,.str z83 368,.str z84 369]⟩ 0,⟨[]⟩⟩
def o148 (P : Params) : Obj := ⟨.type t2,.none,.seq ⟨[]⟩ 0,⟨[]⟩⟩
def o149 (P : Params) : Obj := ⟨.none,.none,.func ⟨z23,z23,L2.defArgs (tt 14),.stmts (L2.defBody (tt 14)),L2.defScope (tt 14),0,[],.none,.none,.none,.none,.none,.none,.none,0⟩,⟨[]⟩⟩
def o150 (P : Params) : Obj := ⟨.type t3,.none,.fields ⟨[.str z23 364,.str z23 365,.str z9 366,.int 44 0,.int 3 0,.int 0 0,.int 0 0,.int 3 0,.ref 145,.bool true,.int 181 0,.ref 146,.none,.ref 147,.ref 148,.ref 149,.int 370 0,.int 44 0,.str z9 371]⟩,⟨[]⟩⟩
def o151 (P : Params) : Obj := ⟨.type t17,.none,.func ⟨z23,z23,L2.defArgs (tt 14),.stmts (L2.defBody (tt 14)),L2.defScope (tt 14),3,[],.none,.none,.none,.str z78 335,.none,.ref 150,.none,0⟩,⟨[]⟩⟩
def o152 (P : Params) : Obj := ⟨.type t2,.none,.seq ⟨[]⟩ 0,⟨[]⟩⟩
def o153 (P : Params) : Obj := ⟨.none,.none,.fields ⟨[]⟩,⟨[]⟩⟩
def o154 (P : Params) : Obj := ⟨.type t2,.none,.seq ⟨[.str z85 378]⟩ 0,⟨[]⟩⟩
def o155 (P : Params) : Obj := ⟨.type t2,.none,.seq ⟨[]⟩ 0,⟨[]⟩⟩
def o156 (P : Params) : Obj := ⟨.none,.none,.func ⟨z24,z24,L2.defArgs (tt 16),.stmts (L2.defBody (tt 16)),L2.defScope (tt 16),0,[],.none,.none,.none,.none,.none,.none,.none,0⟩,⟨[]⟩⟩
def o157 (P : Params) : Obj := ⟨.type t3,.none,.fields ⟨[.str z24 375,.str z24 376,.str z9 377,.int 51 0,.int 1 0,.int 0 0,.int 0 0,.int 3 0,.ref 152,.bool true,.int 181 0,.ref 153,.none,.ref 154,.ref 155,.ref 156,.int 379 0,.int 51 0,.str z9 380]⟩,⟨[]⟩⟩
def o158 (P : Params) : Obj := ⟨.type t17,.none,.func ⟨z24,z24,L2.defArgs (tt 16),.stmts (L2.defBody (tt 16)),L2.defScope (tt 16),3,[],.none,.none,.none,.str z86 373,.none,.ref 157,.none,0⟩,⟨[]⟩⟩
def o159 (P : Params) : Obj := ⟨.type t2,.none,.seq ⟨[]⟩ 0,⟨[]⟩⟩
def o160 (P : Params) : Obj := ⟨.none,.none,.fields ⟨[]⟩,⟨[]⟩⟩
def o161 (P : Params) : Obj := ⟨.type t2,.none,.seq ⟨[.str z87 387,.str z88 388]⟩ 0,⟨[]⟩⟩
def o162 (P : Params) : Obj := ⟨.type t2,.none,.seq ⟨[]⟩ 0,⟨[]⟩⟩
def o163 (P : Params) : Obj := ⟨.none,.none,.func ⟨z25,z25,L2.defArgs (tt 18),.stmts (L2.defBody (tt 18)),L2.defScope (tt 18),0,[],.none,.none,.none,.none,.none,.none,.none,0⟩,⟨[]⟩⟩
def o164 (P : Params) : Obj := ⟨.type t3,.none,.fields ⟨[.str z25 384,.str z25 385,.str z9 386,.int 55 0,.int 1 0,.int 0 0,.int 0 0,.int 3 0,.ref 159,.bool true,.int 181 0,.ref 160,.none,.ref 161,.ref 162,.ref 163,.int 389 0,.int 55 0,.str z9 390]⟩,⟨[]⟩⟩
def o165 (P : Params) : Obj := ⟨.type t17,.none,.func ⟨z25,z25,L2.defArgs (tt 18),.stmts (L2.defBody (tt 18)),L2.defScope (tt 18),3,[],.none,.none,.none,.str z89 382,.none,.ref 164,.none,0⟩,⟨[]⟩⟩
def o166 (P : Params) : Obj := ⟨.type t2,.none,.seq ⟨[]⟩ 0,⟨[]⟩⟩
def o167 (P : Params) : Obj := ⟨.none,.none,.fields ⟨[]⟩,⟨[]⟩⟩
def o168 (P : Params) : Obj := ⟨.type t2,.none,.seq ⟨[.str z79 395,.str z83 396,.str z84 397,.str z90 398,.str z91 399,.str z82 400,.str z92 401,.str z93 402,.str z94 403]⟩ 0,⟨[]⟩⟩
def o169 (P : Params) : Obj := ⟨.type t2,.none,.seq ⟨[]⟩ 0,⟨[]⟩⟩
def o170 (P : Params) : Obj := ⟨.none,.none,.func ⟨z26,z26,L2.defArgs (tt 19),.stmts (L2.defBody (tt 19)),L2.defScope (tt 19),0,[],.none,.none,.none,.none,.none,.none,.none,0⟩,⟨[]⟩⟩
def o171 (P : Params) : Obj := ⟨.type t3,.none,.fields ⟨[.str z26 392,.str z26 393,.str z9 394,.int 60 0,.int 3 0,.int 0 0,.int 0 0,.int 3 0,.ref 166,.bool true,.int 181 0,.ref 167,.none,.ref 168,.ref 169,.ref 170,.int 404 0,.int 60 0,.str z9 405]⟩,⟨[]⟩⟩
def o172 (P : Params) : Obj := ⟨.type t17,.none,.func ⟨z26,z26,L2.defArgs (tt 19),.stmts (L2.defBody (tt 19)),L2.defScope (tt 19),3,[],.none,.none,.none,.str z89 382,.none,.ref 171,.none,0⟩,⟨[]⟩⟩
def o173 (P : Params) : Obj := ⟨.type t2,.none,.seq ⟨[]⟩ 0,⟨[]⟩⟩
def o174 (P : Params) : Obj := ⟨.none,.none,.fields ⟨[]⟩,⟨[]⟩⟩
def o175 (P : Params) : Obj := ⟨.none,.none,.func ⟨z27,z27,L2.defArgs (tt 20),.stmts (L2.defBody (tt 20)),L2.defScope (tt 20),0,[],.none,.none,.none,.none,.none,.none,.none,0⟩,⟨[]⟩⟩
def o176 (P : Params) : Obj := ⟨.type t3,.none,.fields ⟨[.str z27 407,.str z27 408,.str z9 409,.int 70 0,.int 2 0,.int 0 0,.int 0 0,.int 3 0,.ref 173,.bool true,.int 181 0,.ref 174,.none,.none,.none,.ref 175,.int 410 0,.int 70 0,.str z9 411]⟩,⟨[]⟩⟩
def o177 (P : Params) : Obj := ⟨.type t17,.none,.func ⟨z27,z27,L2.defArgs (tt 20),.stmts (L2.defBody (tt 20)),L2.defScope (tt 20),3,[],.none,.none,.none,.str z89 382,.none,.ref 176,.none,0⟩,⟨[]⟩⟩
def o178 (P : Params) : Obj := ⟨.type t2,.none,.seq ⟨[]⟩ 0,⟨[]⟩⟩
def o179 (P : Params) : Obj := ⟨.none,.none,.fields ⟨[]⟩,⟨[]⟩⟩
def o180 (P : Params) : Obj := ⟨.type t2,.none,.seq ⟨[.str z79 416,.str z83 417,.str z84 418,.str z95 419,.str z96 420,.str z82 421]⟩ 0,⟨[]⟩⟩
def o181 (P : Params) : Obj := ⟨.type t2,.none,.seq ⟨[]⟩ 0,⟨[]⟩⟩
def o182 (P : Params) : Obj := ⟨.none,.none,.func ⟨z28,z28,L2.defArgs (tt 21),.stmts (L2.defBody (tt 21)),L2.defScope (tt 21),0,[],.none,.none,.none,.none,.none,.none,.none,0⟩,⟨[]⟩⟩
def o183 (P : Params) : Obj := ⟨.type t3,.none,.fields ⟨[.str z28 413,.str z28 414,.str z9 415,.int 75 0,.int 3 0,.int 0 0,.int 0 0,.int 3 0,.ref 178,.bool true,.int 181 0,.ref 179,.none,.ref 180,.ref 181,.ref 182,.int 422 0,.int 75 0,.str z9 423]⟩,⟨[]⟩⟩
def o184 (P : Params) : Obj := ⟨.type t17,.none,.func ⟨z28,z28,L2.defArgs (tt 21),.stmts (L2.defBody (tt 21)),L2.defScope (tt 21),3,[],.none,.none,.none,.str z89 382,.none,.ref 183,.none,0⟩,⟨[]⟩⟩
def o185 (P : Params) : Obj := ⟨.type t2,.none,.seq ⟨[]⟩ 0,⟨[]⟩⟩
def o186 (P : Params) : Obj := ⟨.none,.none,.fields ⟨[]⟩,⟨[]⟩⟩
def o187 (P : Params) : Obj := ⟨.none,.none,.func ⟨z29,z29,L2.defArgs (tt 22),.stmts (L2.defBody (tt 22)),L2.defScope (tt 22),0,[],.none,.none,.none,.none,.none,.none,.none,0⟩,⟨[]⟩⟩
def o188 (P : Params) : Obj := ⟨.type t3,.none,.fields ⟨[.str z29 425,.str z29 426,.str z9 427,.int 83 0,.int 2 0,.int 0 0,.int 0 0,.int 3 0,.ref 185,.bool true,.int 181 0,.ref 186,.none,.none,.none,.ref 187,.int 428 0,.int 83 0,.str z9 429]⟩,⟨[]⟩⟩
def o189 (P : Params) : Obj := ⟨.type t17,.none,.func ⟨z29,z29,L2.defArgs (tt 22),.stmts (L2.defBody (tt 22)),L2.defScope (tt 22),3,[],.none,.none,.none,.str z89 382,.none,.ref 188,.none,0⟩,⟨[]⟩⟩
def o190 (P : Params) : Obj := ⟨.type t2,.none,.seq ⟨[]⟩ 0,⟨[]⟩⟩
def o191 (P : Params) : Obj := ⟨.none,.none,.fields ⟨[]⟩,⟨[]⟩⟩
def o192 (P : Params) : Obj := ⟨.type t2,.none,.seq ⟨[.str z76 438,.str z97 439]⟩ 0,⟨[]⟩⟩
def o193 (P : Params) : Obj := ⟨.type t2,.none,.seq ⟨[]⟩ 0,⟨[]⟩⟩
def o194 (P : Params) : Obj := ⟨.none,.none,.func ⟨z31,z31,L2.defArgs (tt 25),.stmts (L2.defBody (tt 25)),L2.defScope (tt 25),0,[],.none,.none,.none,.none,.none,.none,.none,0⟩,⟨[]⟩⟩
def o195 (P : Params) : Obj := ⟨.type t3,.none,.fields ⟨[.str z31 435,.str z31 436,.str z9 437,.int 89 0,.int 1 0,.int 0 0,.int 0 0,.int 3 0,.ref 190,.bool true,.int 181 0,.ref 191,.none,.ref 192,.ref 193,.ref 194,.int 440 0,.int 89 0,.str z9 441]⟩,⟨[]⟩⟩
def o196 (P : Params) : Obj := ⟨.type t17,.none,.func ⟨z31,z31,L2.defArgs (tt 25),.stmts (L2.defBody (tt 25)),L2.defScope (tt 25),3,[],.none,.none,.none,.str z98 431,.none,.ref 195,.none,0⟩,⟨[]⟩⟩
def o197 (P : Params) : Obj := ⟨.type t2,.none,.seq ⟨[]⟩ 0,⟨[]⟩⟩
def o198 (P : Params) : Obj := ⟨.none,.none,.fields ⟨[]⟩,⟨[]⟩⟩
def o199 (P : Params) : Obj := ⟨.type t2,.none,.seq ⟨[.str z99 446,.str z100 447]⟩ 0,⟨[]⟩⟩
def o200 (P : Params) : Obj := ⟨.type t2,.none,.seq ⟨[]⟩ 0,⟨[]⟩⟩
def o201 (P : Params) : Obj := ⟨.none,.none,.func ⟨z32,z32,L2.defArgs (tt 26),.stmts (L2.defBody (tt 26)),L2.defScope (tt 26),0,[],.none,.none,.none,.none,.none,.none,.none,0⟩,⟨[]⟩⟩
def o202 (P : Params) : Obj := ⟨.type t3,.none,.fields ⟨[.str z32 443,.str z32 444,.str z9 445,.int 94 0,.int 2 0,.int 0 0,.int 0 0,.int 3 0,.ref 197,.bool true,.int 181 0,.ref 198,.none,.ref 199,.ref 200,.ref 201,.int 448 0,.int 94 0,.str z9 449]⟩,⟨[]⟩⟩
def o203 (P : Params) : Obj := ⟨.type t17,.none,.func ⟨z32,z32,L2.defArgs (tt 26),.stmts (L2.defBody (tt 26)),L2.defScope (tt 26),3,[],.none,.none,.none,.str z98 431,.none,.ref 202,.none,0⟩,⟨[]⟩⟩
def o204 (P : Params) : Obj := ⟨.type t2,.none,.seq ⟨[]⟩ 0,⟨[]⟩⟩
def o205 (P : Params) : Obj := ⟨.none,.none,.fields ⟨[]⟩,⟨[]⟩⟩
def o206 (P : Params) : Obj := ⟨.none,.none,.func ⟨z33,z33,L2.defArgs (tt 27),.stmts (L2.defBody (tt 27)),L2.defScope (tt 27),0,[],.none,.none,.none,.none,.none,.none,.none,0⟩,⟨[]⟩⟩
def o207 (P : Params) : Obj := ⟨.type t3,.none,.fields ⟨[.str z33 451,.str z33 452,.str z9 453,.int 96 0,.int 2 0,.int 0 0,.int 0 0,.int 3 0,.ref 204,.bool true,.int 181 0,.ref 205,.none,.none,.none,.ref 206,.int 454 0,.int 96 0,.str z9 455]⟩,⟨[]⟩⟩
def o208 (P : Params) : Obj := ⟨.type t17,.none,.func ⟨z33,z33,L2.defArgs (tt 27),.stmts (L2.defBody (tt 27)),L2.defScope (tt 27),3,[],.none,.none,.none,.str z98 431,.none,.ref 207,.none,0⟩,⟨[]⟩⟩
def o209 (P : Params) : Obj := ⟨.type t2,.none,.seq ⟨[]⟩ 0,⟨[]⟩⟩
def o210 (P : Params) : Obj := ⟨.none,.none,.fields ⟨[]⟩,⟨[]⟩⟩
def o211 (P : Params) : Obj := ⟨.type t2,.none,.seq ⟨[.str z101 460,.str z76 461,.str z102 462]⟩ 0,⟨[]⟩⟩
def o212 (P : Params) : Obj := ⟨.type t2,.none,.seq ⟨[]⟩ 0,⟨[]⟩⟩
def o213 (P : Params) : Obj := ⟨.none,.none,.func ⟨z34,z34,L2.defArgs (tt 28),.stmts (L2.defBody (tt 28)),L2.defScope (tt 28),0,[],.none,.none,.none,.none,.none,.none,.none,0⟩,⟨[]⟩⟩
def o214 (P : Params) : Obj := ⟨.type t3,.none,.fields ⟨[.str z34 457,.str z34 458,.str z9 459,.int 98 0,.int 2 0,.int 0 0,.int 0 0,.int 3 0,.ref 209,.bool true,.int 181 0,.ref 210,.none,.ref 211,.ref 212,.ref 213,.int 463 0,.int 98 0,.str z9 464]⟩,⟨[]⟩⟩
def o215 (P : Params) : Obj := ⟨.type t17,.none,.func ⟨z34,z34,L2.defArgs (tt 28),.stmts (L2.defBody (tt 28)),L2.defScope (tt 28),3,[],.none,.none,.none,.str z98 431,.none,.ref 214,.none,0⟩,⟨[]⟩⟩
def o216 (P : Params) : Obj := ⟨.type t2,.none,.seq ⟨[]⟩ 0,⟨[]⟩⟩
def o217 (P : Params) : Obj := ⟨.none,.none,.fields ⟨[]⟩,⟨[]⟩⟩
def o218 (P : Params) : Obj := ⟨.type t2,.none,.seq ⟨[.str z101 469,.str z76 470,.str z80 471,.str z102 472,.str z103 473]⟩ 0,⟨[]⟩⟩
def o219 (P : Params) : Obj := ⟨.type t2,.none,.seq ⟨[]⟩ 0,⟨[]⟩⟩
def o220 (P : Params) : Obj := ⟨.none,.none,.func ⟨z35,z35,L2.defArgs (tt 29),.stmts (L2.defBody (tt 29)),L2.defScope (tt 29),0,[],.none,.none,.none,.none,.none,.none,.none,0⟩,⟨[]⟩⟩
def o221 (P : Params) : Obj := ⟨.type t3,.none,.fields ⟨[.str z35 466,.str z35 467,.str z9 468,.int 101 0,.int 4 0,.int 0 0,.int 0 0,.int 3 0,.ref 216,.bool true,.int 181 0,.ref 217,.none,.ref 218,.ref 219,.ref 220,.int 474 0,.int 101 0,.str z9 475]⟩,⟨[]⟩⟩
def o222 (P : Params) : Obj := ⟨.type t17,.none,.func ⟨z35,z35,L2.defArgs (tt 29),.stmts (L2.defBody (tt 29)),L2.defScope (tt 29),3,[],.none,.none,.none,.str z98 431,.none,.ref 221,.none,0⟩,⟨[]⟩⟩
def o223 (P : Params) : Obj := ⟨.type t2,.none,.seq ⟨[]⟩ 0,⟨[]⟩⟩
def o224 (P : Params) : Obj := ⟨.none,.none,.fields ⟨[]⟩,⟨[]⟩⟩
def o225 (P : Params) : Obj := ⟨.none,.none,.func ⟨z36,z36,L2.defArgs (tt 30),.stmts (L2.defBody (tt 30)),L2.defScope (tt 30),0,[],.none,.none,.none,.none,.none,.none,.none,0⟩,⟨[]⟩⟩
def o226 (P : Params) : Obj := ⟨.type t3,.none,.fields ⟨[.str z36 477,.str z36 478,.str z9 479,.int 104 0,.int 2 0,.int 0 0,.int 0 0,.int 3 0,.ref 223,.bool true,.int 181 0,.ref 224,.none,.none,.none,.ref 225,.int 480 0,.int 104 0,.str z9 481]⟩,⟨[]⟩⟩
def o227 (P : Params) : Obj := ⟨.type t17,.none,.func ⟨z36,z36,L2.defArgs (tt 30),.stmts (L2.defBody (tt 30)),L2.defScope (tt 30),3,[],.none,.none,.none,.str z98 431,.none,.ref 226,.none,0⟩,⟨[]⟩⟩
def o228 (P : Params) : Obj := ⟨.type t2,.none,.seq ⟨[]⟩ 0,⟨[]⟩⟩
def o229 (P : Params) : Obj := ⟨.none,.none,.fields ⟨[]⟩,⟨[]⟩⟩
def o230 (P : Params) : Obj := ⟨.type t2,.none,.seq ⟨[.str z79 486,.str z83 487,.str z84 488]⟩ 0,⟨[]⟩⟩
def o231 (P : Params) : Obj := ⟨.type t2,.none,.seq ⟨[]⟩ 0,⟨[]⟩⟩
def o232 (P : Params) : Obj := ⟨.none,.none,.func ⟨z37,z37,L2.defArgs (tt 31),.stmts (L2.defBody (tt 31)),L2.defScope (tt 31),0,[],.none,.none,.none,.none,.none,.none,.none,0⟩,⟨[]⟩⟩
def o233 (P : Params) : Obj := ⟨.type t3,.none,.fields ⟨[.str z37 483,.str z37 484,.str z9 485,.int 122 0,.int 3 0,.int 0 0,.int 0 0,.int 3 0,.ref 228,.bool true,.int 181 0,.ref 229,.none,.ref 230,.ref 231,.ref 232,.int 489 0,.int 122 0,.str z9 490]⟩,⟨[]⟩⟩
def o234 (P : Params) : Obj := ⟨.type t17,.none,.func ⟨z37,z37,L2.defArgs (tt 31),.stmts (L2.defBody (tt 31)),L2.defScope (tt 31),3,[],.none,.none,.none,.str z98 431,.none,.ref 233,.none,0⟩,⟨[]⟩⟩
def o235 (P : Params) : Obj := ⟨.type t2,.none,.seq ⟨[]⟩ 0,⟨[]⟩⟩
def o236 (P : Params) : Obj := ⟨.none,.none,.fields ⟨[]⟩,⟨[]⟩⟩
def o237 (P : Params) : Obj := ⟨.none,.none,.func ⟨z38,z38,L2.defArgs (tt 33),.stmts (L2.defBody (tt 33)),L2.defScope (tt 33),0,[],.none,.none,.none,.none,.none,.none,.none,0⟩,⟨[]⟩⟩
def o238 (P : Params) : Obj := ⟨.type t3,.none,.fields ⟨[.str z38 494,.str z38 495,.str z9 496,.int 125 0,.int 2 0,.int 0 0,.int 0 0,.int 3 0,.ref 235,.bool true,.int 181 0,.ref 236,.none,.none,.none,.ref 237,.int 497 0,.int 125 0,.str z9 498]⟩,⟨[]⟩⟩
def o239 (P : Params) : Obj := ⟨.type t17,.none,.func ⟨z38,z38,L2.defArgs (tt 33),.stmts (L2.defBody (tt 33)),L2.defScope (tt 33),3,[],.none,.none,.none,.str z104 492,.none,.ref 238,.none,0⟩,⟨[]⟩⟩
def o240 (P : Params) : Obj := ⟨.type t2,.none,.seq ⟨[]⟩ 0,⟨[]⟩⟩
def o241 (P : Params) : Obj := ⟨.none,.none,.fields ⟨[]⟩,⟨[]⟩⟩
def o242 (P : Params) : Obj := ⟨.type t2,.none,.seq ⟨[.str z85 503,.str z79 504,.str z100 505,.str z90 506]⟩ 0,⟨[]⟩⟩
def o243 (P : Params) : Obj := ⟨.type t2,.none,.seq ⟨[]⟩ 0,⟨[]⟩⟩
def o244 (P : Params) : Obj := ⟨.none,.none,.func ⟨z39,z39,L2.defArgs (tt 34),.stmts (L2.defBody (tt 34)),L2.defScope (tt 34),0,[],.none,.none,.none,.none,.none,.none,.none,0⟩,⟨[]⟩⟩
def o245 (P : Params) : Obj := ⟨.type t3,.none,.fields ⟨[.str z39 500,.str z39 501,.str z9 502,.int 133 0,.int 1 0,.int 0 0,.int 0 0,.int 3 0,.ref 240,.bool true,.int 181 0,.ref 241,.none,.ref 242,.ref 243,.ref 244,.int 507 0,.int 133 0,.str z9 508]⟩,⟨[]⟩⟩
def o246 (P : Params) : Obj := ⟨.type t17,.none,.func ⟨z39,z39,L2.defArgs (tt 34),.stmts (L2.defBody (tt 34)),L2.defScope (tt 34),3,[],.none,.none,.none,.str z104 492,.none,.ref 245,.none,0⟩,⟨[]⟩⟩
def o247 (P : Params) : Obj := ⟨.type t2,.none,.seq ⟨[]⟩ 0,⟨[]⟩⟩
def o248 (P : Params) : Obj := ⟨.none,.none,.fields ⟨[]⟩,⟨[]⟩⟩
def o249 (P : Params) : Obj := ⟨.none,.none,.func ⟨z40,z40,L2.defArgs (tt 36),.stmts (L2.defBody (tt 36)),L2.defScope (tt 36),0,[],.none,.none,.none,.none,.none,.none,.none,0⟩,⟨[]⟩⟩
def o250 (P : Params) : Obj := ⟨.type t3,.none,.fields ⟨[.str z40 512,.str z40 513,.str z9 514,.int 139 0,.int 2 0,.int 0 0,.int 0 0,.int 3 0,.ref 247,.bool true,.int 181 0,.ref 248,.none,.none,.none,.ref 249,.int 515 0,.int 139 0,.str z9 516]⟩,⟨[]⟩⟩
def o251 (P : Params) : Obj := ⟨.type t17,.none,.func ⟨z40,z40,L2.defArgs (tt 36),.stmts (L2.defBody (tt 36)),L2.defScope (tt 36),3,[],.none,.none,.none,.str z105 510,.none,.ref 250,.none,0⟩,⟨[]⟩⟩
def o252 (P : Params) : Obj := ⟨.type t2,.none,.seq ⟨[]⟩ 0,⟨[]⟩⟩
def o253 (P : Params) : Obj := ⟨.none,.none,.fields ⟨[]⟩,⟨[]⟩⟩
def o254 (P : Params) : Obj := ⟨.type t2,.none,.seq ⟨[.str z106 521,.str z107 522,.str z108 523,.str z109 524]⟩ 0,⟨[]⟩⟩
def o255 (P : Params) : Obj := ⟨.type t2,.none,.seq ⟨[]⟩ 0,⟨[]⟩⟩
def o256 (P : Params) : Obj := ⟨.none,.none,.func ⟨z41,z41,L2.defArgs (tt 37),.stmts (L2.defBody (tt 37)),L2.defScope (tt 37),0,[],.none,.none,.none,.none,.none,.none,.none,0⟩,⟨[]⟩⟩
def o257 (P : Params) : Obj := ⟨.type t3,.none,.fields ⟨[.str z41 518,.str z41 519,.str z9 520,.int 141 0,.int 3 0,.int 0 0,.int 0 0,.int 3 0,.ref 252,.bool true,.int 181 0,.ref 253,.none,.ref 254,.ref 255,.ref 256,.int 525 0,.int 141 0,.str z9 526]⟩,⟨[]⟩⟩
def o258 (P : Params) : Obj := ⟨.type t17,.none,.func ⟨z41,z41,L2.defArgs (tt 37),.stmts (L2.defBody (tt 37)),L2.defScope (tt 37),3,[],.none,.none,.none,.str z105 510,.none,.ref 257,.none,0⟩,⟨[]⟩⟩
def o259 (P : Params) : Obj := ⟨.type t2,.none,.seq ⟨[]⟩ 0,⟨[]⟩⟩
def o260 (P : Params) : Obj := ⟨.none,.none,.fields ⟨[]⟩,⟨[]⟩⟩
def o261 (P : Params) : Obj := ⟨.none,.none,.func ⟨z42,z42,L2.defArgs (tt 38),.stmts (L2.defBody (tt 38)),L2.defScope (tt 38),0,[],.none,.none,.none,.none,.none,.none,.none,0⟩,⟨[]⟩⟩
def o262 (P : Params) : Obj := ⟨.type t3,.none,.fields ⟨[.str z42 528,.str z42 529,.str z9 530,.int 146 0,.int 4 0,.int 0 0,.int 0 0,.int 3 0,.ref 259,.bool true,.int 181 0,.ref 260,.none,.none,.none,.ref 261,.int 531 0,.int 146 0,.str z9 532]⟩,⟨[]⟩⟩
def o263 (P : Params) : Obj := ⟨.type t17,.none,.func ⟨z42,z42,L2.defArgs (tt 38),.stmts (L2.defBody (tt 38)),L2.defScope (tt 38),3,[],.none,.none,.none,.str z105 510,.none,.ref 262,.none,0⟩,⟨[]⟩⟩
def o264 (P : Params) : Obj := ⟨.type t2,.none,.seq ⟨[]⟩ 0,⟨[]⟩⟩
def o265 (P : Params) : Obj := ⟨.none,.none,.fields ⟨[]⟩,⟨[]⟩⟩
def o266 (P : Params) : Obj := ⟨.none,.none,.func ⟨z43,z43,L2.defArgs (tt 39),.stmts (L2.defBody (tt 39)),L2.defScope (tt 39),0,[],.none,.none,.none,.none,.none,.none,.none,0⟩,⟨[]⟩⟩
def o267 (P : Params) : Obj := ⟨.type t3,.none,.fields ⟨[.str z43 534,.str z43 535,.str z9 536,.int 151 0,.int 5 0,.int 0 0,.int 0 0,.int 3 0,.ref 264,.bool true,.int 181 0,.ref 265,.none,.none,.none,.ref 266,.int 537 0,.int 151 0,.str z9 538]⟩,⟨[]⟩⟩
def o268 (P : Params) : Obj := ⟨.type t17,.none,.func ⟨z43,z43,L2.defArgs (tt 39),.stmts (L2.defBody (tt 39)),L2.defScope (tt 39),3,[],.none,.none,.none,.str z105 510,.none,.ref 267,.none,0⟩,⟨[]⟩⟩
def o269 (P : Params) : Obj := ⟨.type t2,.none,.seq ⟨[]⟩ 0,⟨[]⟩⟩
def o270 (P : Params) : Obj := ⟨.none,.none,.fields ⟨[]⟩,⟨[]⟩⟩
def o271 (P : Params) : Obj := ⟨.type t2,.none,.seq ⟨[.str z79 543,.str z110 544,.str z106 545,.str z111 546,.str z112 547,.str z108 548,.str z90 549,.str z113 550,.str z109 551]⟩ 0,⟨[]⟩⟩
def o272 (P : Params) : Obj := ⟨.type t2,.none,.seq ⟨[]⟩ 0,⟨[]⟩⟩
def o273 (P : Params) : Obj := ⟨.none,.none,.func ⟨z44,z44,L2.defArgs (tt 40),.stmts (L2.defBody (tt 40)),L2.defScope (tt 40),0,[],.none,.none,.none,.none,.none,.none,.none,0⟩,⟨[]⟩⟩
def o274 (P : Params) : Obj := ⟨.type t3,.none,.fields ⟨[.str z44 540,.str z44 541,.str z9 542,.int 159 0,.int 3 0,.int 0 0,.int 0 0,.int 3 0,.ref 269,.bool true,.int 181 0,.ref 270,.none,.ref 271,.ref 272,.ref 273,.int 552 0,.int 159 0,.str z9 553]⟩,⟨[]⟩⟩
def o275 (P : Params) : Obj := ⟨.type t17,.none,.func ⟨z44,z44,L2.defArgs (tt 40),.stmts (L2.defBody (tt 40)),L2.defScope (tt 40),3,[],.none,.none,.none,.str z105 510,.none,.ref 274,.none,0⟩,⟨[]⟩⟩
def o276 (P : Params) : Obj := ⟨.type t2,.none,.seq ⟨[]⟩ 0,⟨[]⟩⟩
def o277 (P : Params) : Obj := ⟨.none,.none,.fields ⟨[]⟩,⟨[]⟩⟩
def o278 (P : Params) : Obj := ⟨.type t2,.none,.seq ⟨[.str z83 558,.str z84 559,.str z95 560,.str z96 561,.str z82 562]⟩ 0,⟨[]⟩⟩
def o279 (P : Params) : Obj := ⟨.type t2,.none,.seq ⟨[]⟩ 0,⟨[]⟩⟩
def o280 (P : Params) : Obj := ⟨.none,.none,.func ⟨z45,z45,L2.defArgs (tt 41),.stmts (L2.defBody (tt 41)),L2.defScope (tt 41),0,[],.none,.none,.none,.none,.none,.none,.none,0⟩,⟨[]⟩⟩
def o281 (P : Params) : Obj := ⟨.type t3,.none,.fields ⟨[.str z45 555,.str z45 556,.str z9 557,.int 173 0,.int 2 0,.int 0 0,.int 0 0,.int 3 0,.ref 276,.bool true,.int 181 0,.ref 277,.none,.ref 278,.ref 279,.ref 280,.int 563 0,.int 173 0,.str z9 564]⟩,⟨[]⟩⟩
def o282 (P : Params) : Obj := ⟨.type t17,.none,.func ⟨z45,z45,L2.defArgs (tt 41),.stmts (L2.defBody (tt 41)),L2.defScope (tt 41),3,[],.none,.none,.none,.str z105 510,.none,.ref 281,.none,0⟩,⟨[]⟩⟩
def o283 (P : Params) : Obj := ⟨.type t2,.none,.seq ⟨[]⟩ 0,⟨[]⟩⟩
def o284 (P : Params) : Obj := ⟨.none,.none,.fields ⟨[]⟩,⟨[]⟩⟩
def o285 (P : Params) : Obj := ⟨.none,.none,.func ⟨z46,z46,L2.defArgs (tt 42),.stmts (L2.defBody (tt 42)),L2.defScope (tt 42),0,[],.none,.none,.none,.none,.none,.none,.none,0⟩,⟨[]⟩⟩
def o286 (P : Params) : Obj := ⟨.type t3,.none,.fields ⟨[.str z46 566,.str z46 567,.str z9 568,.int 181 0,.int 3 0,.int 0 0,.int 0 0,.int 3 0,.ref 283,.bool true,.int 181 0,.ref 284,.none,.none,.none,.ref 285,.int 569 0,.int 181 0,.str z9 570]⟩,⟨[]⟩⟩
def o287 (P : Params) : Obj := ⟨.type t17,.none,.func ⟨z46,z46,L2.defArgs (tt 42),.stmts (L2.defBody (tt 42)),L2.defScope (tt 42),3,[],.none,.none,.none,.str z105 510,.none,.ref 286,.none,0⟩,⟨[]⟩⟩
def o288 (P : Params) : Obj := ⟨.type t2,.none,.seq ⟨[]⟩ 0,⟨[]⟩⟩
def o289 (P : Params) : Obj := ⟨.none,.none,.fields ⟨[]⟩,⟨[]⟩⟩
def o290 (P : Params) : Obj := ⟨.none,.none,.func ⟨z47,z47,L2.defArgs (tt 43),.stmts (L2.defBody (tt 43)),L2.defScope (tt 43),0,[],.none,.none,.none,.none,.none,.none,.none,0⟩,⟨[]⟩⟩
def o291 (P : Params) : Obj := ⟨.type t3,.none,.fields ⟨[.str z47 572,.str z47 573,.str z9 574,.int 190 0,.int 5 0,.int 0 0,.int 0 0,.int 3 0,.ref 288,.bool true,.int 181 0,.ref 289,.none,.none,.none,.ref 290,.int 575 0,.int 190 0,.str z9 576]⟩,⟨[]⟩⟩
def o292 (P : Params) : Obj := ⟨.type t17,.none,.func ⟨z47,z47,L2.defArgs (tt 43),.stmts (L2.defBody (tt 43)),L2.defScope (tt 43),3,[],.none,.none,.none,.str z105 510,.none,.ref 291,.none,0⟩,⟨[]⟩⟩
def o293 (P : Params) : Obj := ⟨.type t2,.none,.seq ⟨[]⟩ 0,⟨[]⟩⟩
def o294 (P : Params) : Obj := ⟨.none,.none,.fields ⟨[]⟩,⟨[]⟩⟩
def o295 (P : Params) : Obj := ⟨.none,.none,.func ⟨z48,z48,L2.defArgs (tt 44),.stmts (L2.defBody (tt 44)),L2.defScope (tt 44),0,[],.none,.none,.none,.none,.none,.none,.none,0⟩,⟨[]⟩⟩
def o296 (P : Params) : Obj := ⟨.type t3,.none,.fields ⟨[.str z48 578,.str z48 579,.str z9 580,.int 197 0,.int 4 0,.int 0 0,.int 0 0,.int 3 0,.ref 293,.bool true,.int 181 0,.ref 294,.none,.none,.none,.ref 295,.int 581 0,.int 197 0,.str z9 582]⟩,⟨[]⟩⟩
def o297 (P : Params) : Obj := ⟨.type t17,.none,.func ⟨z48,z48,L2.defArgs (tt 44),.stmts (L2.defBody (tt 44)),L2.defScope (tt 44),3,[],.none,.none,.none,.str z105 510,.none,.ref 296,.none,0⟩,⟨[]⟩⟩
def o298 (P : Params) : Obj := ⟨.type t2,.none,.seq ⟨[]⟩ 0,⟨[]⟩⟩
def o299 (P : Params) : Obj := ⟨.none,.none,.fields ⟨[]⟩,⟨[]⟩⟩
def o300 (P : Params) : Obj := ⟨.none,.none,.func ⟨z49,z49,L2.defArgs (tt 45),.stmts (L2.defBody (tt 45)),L2.defScope (tt 45),0,[],.none,.none,.none,.none,.none,.none,.none,0⟩,⟨[]⟩⟩
def o301 (P : Params) : Obj := ⟨.type t3,.none,.fields ⟨[.str z49 584,.str z49 585,.str z9 586,.int 211 0,.int 2 0,.int 0 0,.int 0 0,.int 3 0,.ref 298,.bool true,.int 181 0,.ref 299,.none,.none,.none,.ref 300,.int 587 0,.int 211 0,.str z9 588]⟩,⟨[]⟩⟩
def o302 (P : Params) : Obj := ⟨.type t17,.none,.func ⟨z49,z49,L2.defArgs (tt 45),.stmts (L2.defBody (tt 45)),L2.defScope (tt 45),3,[],.none,.none,.none,.str z105 510,.none,.ref 301,.none,0⟩,⟨[]⟩⟩
def o303 (P : Params) : Obj := ⟨.type t2,.none,.seq ⟨[]⟩ 0,⟨[]⟩⟩
def o304 (P : Params) : Obj := ⟨.none,.none,.fields ⟨[]⟩,⟨[]⟩⟩
def o305 (P : Params) : Obj := ⟨.none,.none,.func ⟨z50,z50,L2.defArgs (tt 46),.stmts (L2.defBody (tt 46)),L2.defScope (tt 46),0,[],.none,.none,.none,.none,.none,.none,.none,0⟩,⟨[]⟩⟩
def o306 (P : Params) : Obj := ⟨.type t3,.none,.fields ⟨[.str z50 590,.str z50 591,.str z9 592,.int 213 0,.int 4 0,.int 0 0,.int 0 0,.int 3 0,.ref 303,.bool true,.int 181 0,.ref 304,.none,.none,.none,.ref 305,.int 593 0,.int 213 0,.str z9 594]⟩,⟨[]⟩⟩
def o307 (P : Params) : Obj := ⟨.type t17,.none,.func ⟨z50,z50,L2.defArgs (tt 46),.stmts (L2.defBody (tt 46)),L2.defScope (tt 46),3,[],.none,.none,.none,.str z105 510,.none,.ref 306,.none,0⟩,⟨[]⟩⟩
def o308 (P : Params) : Obj := ⟨.type t2,.none,.seq ⟨[]⟩ 0,⟨[]⟩⟩
def o309 (P : Params) : Obj := ⟨.none,.none,.fields ⟨[]⟩,⟨[]⟩⟩
def o310 (P : Params) : Obj := ⟨.type t2,.none,.seq ⟨[.str z79 599,.str z110 600,.str z114 601,.str z115 602,.str z97 603]⟩ 0,⟨[]⟩⟩
def o311 (P : Params) : Obj := ⟨.type t2,.none,.seq ⟨[]⟩ 0,⟨[]⟩⟩
def o312 (P : Params) : Obj := ⟨.none,.none,.func ⟨z51,z51,L2.defArgs (tt 47),.stmts (L2.defBody (tt 47)),L2.defScope (tt 47),0,[],.none,.none,.none,.none,.none,.none,.none,0⟩,⟨[]⟩⟩
def o313 (P : Params) : Obj := ⟨.type t3,.none,.fields ⟨[.str z51 596,.str z51 597,.str z9 598,.int 219 0,.int 4 0,.int 0 0,.int 0 0,.int 3 0,.ref 308,.bool true,.int 181 0,.ref 309,.none,.ref 310,.ref 311,.ref 312,.int 604 0,.int 219 0,.str z9 605]⟩,⟨[]⟩⟩
def o314 (P : Params) : Obj := ⟨.type t17,.none,.func ⟨z51,z51,L2.defArgs (tt 47),.stmts (L2.defBody (tt 47)),L2.defScope (tt 47),3,[],.none,.none,.none,.str z105 510,.none,.ref 313,.none,0⟩,⟨[]⟩⟩
def o315 (P : Params) : Obj := ⟨.type t2,.none,.seq ⟨[]⟩ 0,⟨[]⟩⟩
def o316 (P : Params) : Obj := ⟨.none,.none,.fields ⟨[]⟩,⟨[]⟩⟩
def o317 (P : Params) : Obj := ⟨.none,.none,.func ⟨z53,z53,L2.defArgs (tt 50),.stmts (L2.defBody (tt 50)),L2.defScope (tt 50),0,[],.none,.none,.none,.none,.none,.none,.none,0⟩,⟨[]⟩⟩
def o318 (P : Params) : Obj := ⟨.type t3,.none,.fields ⟨[.str z53 611,.str z53 612,.str z9 613,.int 226 0,.int 1 0,.int 0 0,.int 0 0,.int 3 0,.ref 315,.bool true,.int 181 0,.ref 316,.none,.none,.none,.ref 317,.int 614 0,.int 226 0,.str z9 615]⟩,⟨[]⟩⟩
def o319 (P : Params) : Obj := ⟨.type t17,.none,.func ⟨z53,z53,L2.defArgs (tt 50),.stmts (L2.defBody (tt 50)),L2.defScope (tt 50),3,[],.none,.none,.none,.str z116 607,.none,.ref 318,.none,0⟩,⟨[]⟩⟩
def o320 (P : Params) : Obj := ⟨.type t2,.none,.seq ⟨[]⟩ 0,⟨[]⟩⟩
def o321 (P : Params) : Obj := ⟨.none,.none,.fields ⟨[]⟩,⟨[]⟩⟩
def o322 (P : Params) : Obj := ⟨.type t2,.none,.seq ⟨[.str z76 620,.str z96 621,.str z95 622,.str z117 623]⟩ 0,⟨[]⟩⟩
def o323 (P : Params) : Obj := ⟨.type t2,.none,.seq ⟨[]⟩ 0,⟨[]⟩⟩
def o324 (P : Params) : Obj := ⟨.none,.none,.func ⟨z54,z54,L2.defArgs (tt 51),.stmts (L2.defBody (tt 51)),L2.defScope (tt 51),0,[],.none,.none,.none,.none,.none,.none,.none,0⟩,⟨[]⟩⟩
def o325 (P : Params) : Obj := ⟨.type t3,.none,.fields ⟨[.str z54 617,.str z54 618,.str z9 619,.int 229 0,.int 1 0,.int 0 0,.int 0 0,.int 3 0,.ref 320,.bool true,.int 181 0,.ref 321,.none,.ref 322,.ref 323,.ref 324,.int 624 0,.int 229 0,.str z9 625]⟩,⟨[]⟩⟩
def o326 (P : Params) : Obj := ⟨.type t17,.none,.func ⟨z54,z54,L2.defArgs (tt 51),.stmts (L2.defBody (tt 51)),L2.defScope (tt 51),3,[],.none,.none,.none,.str z116 607,.none,.ref 325,.none,0⟩,⟨[]⟩⟩
def o327 (P : Params) : Obj := ⟨.type t2,.none,.seq ⟨[]⟩ 0,⟨[]⟩⟩
def o328 (P : Params) : Obj := ⟨.none,.none,.fields ⟨[]⟩,⟨[]⟩⟩
def o329 (P : Params) : Obj := ⟨.none,.none,.func ⟨z55,z55,L2.defArgs (tt 52),.stmts (L2.defBody (tt 52)),L2.defScope (tt 52),0,[],.none,.none,.none,.none,.none,.none,.none,0⟩,⟨[]⟩⟩
def o330 (P : Params) : Obj := ⟨.type t3,.none,.fields ⟨[.str z55 627,.str z55 628,.str z9 629,.int 240 0,.int 1 0,.int 0 0,.int 0 0,.int 3 0,.ref 327,.bool true,.int 181 0,.ref 328,.none,.none,.none,.ref 329,.int 630 0,.int 240 0,.str z9 631]⟩,⟨[]⟩⟩
def o331 (P : Params) : Obj := ⟨.type t17,.none,.func ⟨z55,z55,L2.defArgs (tt 52),.stmts (L2.defBody (tt 52)),L2.defScope (tt 52),3,[],.none,.none,.none,.str z116 607,.none,.ref 330,.none,0⟩,⟨[]⟩⟩
def o332 (P : Params) : Obj := ⟨.type t2,.none,.seq ⟨[]⟩ 0,⟨[]⟩⟩
def o333 (P : Params) : Obj := ⟨.none,.none,.fields ⟨[]⟩,⟨[]⟩⟩
def o334 (P : Params) : Obj := ⟨.type t2,.none,.seq ⟨[.str z100 636,.str z118 637,.str z91 638,.str z82 639,.str z117 640]⟩ 0,⟨[]⟩⟩
def o335 (P : Params) : Obj := ⟨.type t2,.none,.seq ⟨[]⟩ 0,⟨[]⟩⟩
def o336 (P : Params) : Obj := ⟨.none,.none,.func ⟨z56,z56,L2.defArgs (tt 53),.stmts (L2.defBody (tt 53)),L2.defScope (tt 53),0,[],.none,.none,.none,.none,.none,.none,.none,0⟩,⟨[]⟩⟩
def o337 (P : Params) : Obj := ⟨.type t3,.none,.fields ⟨[.str z56 633,.str z56 634,.str z9 635,.int 245 0,.int 2 0,.int 0 0,.int 0 0,.int 3 0,.ref 332,.bool true,.int 181 0,.ref 333,.none,.ref 334,.ref 335,.ref 336,.int 641 0,.int 245 0,.str z9 642]⟩,⟨[]⟩⟩
def o338 (P : Params) : Obj := ⟨.type t17,.none,.func ⟨z56,z56,L2.defArgs (tt 53),.stmts (L2.defBody (tt 53)),L2.defScope (tt 53),3,[],.none,.none,.none,.str z116 607,.none,.ref 337,.none,0⟩,⟨[]⟩⟩
def o339 (P : Params) : Obj := ⟨.type t2,.none,.seq ⟨[]⟩ 0,⟨[]⟩⟩
def o340 (P : Params) : Obj := ⟨.none,.none,.fields ⟨[]⟩,⟨[]⟩⟩
def o341 (P : Params) : Obj := ⟨.type t2,.none,.seq ⟨[.str z100 647,.str z119 648,.str z82 649,.str z118 650,.str z97 651]⟩ 0,⟨[]⟩⟩
def o342 (P : Params) : Obj := ⟨.type t2,.none,.seq ⟨[]⟩ 0,⟨[]⟩⟩
def o343 (P : Params) : Obj := ⟨.none,.none,.func ⟨z57,z57,L2.defArgs (tt 54),.stmts (L2.defBody (tt 54)),L2.defScope (tt 54),0,[],.none,.none,.none,.none,.none,.none,.none,0⟩,⟨[]⟩⟩
def o344 (P : Params) : Obj := ⟨.type t3,.none,.fields ⟨[.str z57 644,.str z57 645,.str z9 646,.int 254 0,.int 1 0,.int 0 0,.int 0 0,.int 3 0,.ref 339,.bool true,.int 181 0,.ref 340,.none,.ref 341,.ref 342,.ref 343,.int 652 0,.int 254 0,.str z9 653]⟩,⟨[]⟩⟩
def o345 (P : Params) : Obj := ⟨.type t17,.none,.func ⟨z57,z57,L2.defArgs (tt 54),.stmts (L2.defBody (tt 54)),L2.defScope (tt 54),3,[],.none,.none,.none,.str z116 607,.none,.ref 344,.none,0⟩,⟨[]⟩⟩
def o346 (P : Params) : Obj := ⟨.type t2,.none,.seq ⟨[]⟩ 0,⟨[]⟩⟩
def o347 (P : Params) : Obj := ⟨.none,.none,.fields ⟨[]⟩,⟨[]⟩⟩
def o348 (P : Params) : Obj := ⟨.type t2,.none,.seq ⟨[.str z76 658,.str z120 659,.str z121 660,.str z122 661]⟩ 0,⟨[]⟩⟩
def o349 (P : Params) : Obj := ⟨.type t2,.none,.seq ⟨[]⟩ 0,⟨[]⟩⟩
def o350 (P : Params) : Obj := ⟨.none,.none,.func ⟨z58,z58,L2.defArgs (tt 55),.stmts (L2.defBody (tt 55)),L2.defScope (tt 55),0,[],.none,.none,.none,.none,.none,.none,.none,0⟩,⟨[]⟩⟩
def o351 (P : Params) : Obj := ⟨.type t3,.none,.fields ⟨[.str z58 655,.str z58 656,.str z9 657,.int 264 0,.int 2 0,.int 0 0,.int 0 0,.int 3 0,.ref 346,.bool true,.int 181 0,.ref 347,.none,.ref 348,.ref 349,.ref 350,.int 662 0,.int 264 0,.str z9 663]⟩,⟨[]⟩⟩
def o352 (P : Params) : Obj := ⟨.type t17,.none,.func ⟨z58,z58,L2.defArgs (tt 55),.stmts (L2.defBody (tt 55)),L2.defScope (tt 55),3,[],.none,.none,.none,.str z116 607,.none,.ref 351,.none,0⟩,⟨[]⟩⟩
def o353 (P : Params) : Obj := ⟨.type t2,.none,.seq ⟨[]⟩ 0,⟨[]⟩⟩
def o354 (P : Params) : Obj := ⟨.none,.none,.fields ⟨[]⟩,⟨[]⟩⟩
def o355 (P : Params) : Obj := ⟨.none,.none,.func ⟨z59,z59,L2.defArgs (tt 56),.stmts (L2.defBody (tt 56)),L2.defScope (tt 56),0,[],.none,.none,.none,.none,.none,.none,.none,0⟩,⟨[]⟩⟩
def o356 (P : Params) : Obj := ⟨.type t3,.none,.fields ⟨[.str z59 665,.str z59 666,.str z9 667,.int 269 0,.int 2 0,.int 0 0,.int 0 0,.int 3 0,.ref 353,.bool true,.int 181 0,.ref 354,.none,.none,.none,.ref 355,.int 668 0,.int 269 0,.str z9 669]⟩,⟨[]⟩⟩
def o357 (P : Params) : Obj := ⟨.type t17,.none,.func ⟨z59,z59,L2.defArgs (tt 56),.stmts (L2.defBody (tt 56)),L2.defScope (tt 56),3,[],.none,.none,.none,.str z116 607,.none,.ref 356,.none,0⟩,⟨[]⟩⟩
def o358 (P : Params) : Obj := ⟨.type t2,.none,.seq ⟨[]⟩ 0,⟨[]⟩⟩
def o359 (P : Params) : Obj := ⟨.none,.none,.fields ⟨[]⟩,⟨[]⟩⟩
def o360 (P : Params) : Obj := ⟨.type t2,.none,.seq ⟨[.str z119 674,.str z123 675,.str z124 676,.str z107 677,.str z125 678,.str z88 679]⟩ 0,⟨[]⟩⟩
def o361 (P : Params) : Obj := ⟨.type t2,.none,.seq ⟨[]⟩ 0,⟨[]⟩⟩
def o362 (P : Params) : Obj := ⟨.none,.none,.func ⟨z60,z60,L2.defArgs (tt 57),.stmts (L2.defBody (tt 57)),L2.defScope (tt 57),0,[],.none,.none,.none,.none,.none,.none,.none,0⟩,⟨[]⟩⟩
def o363 (P : Params) : Obj := ⟨.type t3,.none,.fields ⟨[.str z60 671,.str z60 672,.str z9 673,.int 274 0,.int 2 0,.int 0 0,.int 0 0,.int 3 0,.ref 358,.bool true,.int 181 0,.ref 359,.none,.ref 360,.ref 361,.ref 362,.int 680 0,.int 274 0,.str z9 681]⟩,⟨[]⟩⟩
def o364 (P : Params) : Obj := ⟨.type t17,.none,.func ⟨z60,z60,L2.defArgs (tt 57),.stmts (L2.defBody (tt 57)),L2.defScope (tt 57),3,[],.none,.none,.none,.str z116 607,.none,.ref 363,.none,0⟩,⟨[]⟩⟩
def o365 (P : Params) : Obj := ⟨.type t2,.none,.seq ⟨[]⟩ 0,⟨[]⟩⟩
def o366 (P : Params) : Obj := ⟨.none,.none,.fields ⟨[]⟩,⟨[]⟩⟩
def o367 (P : Params) : Obj := ⟨.none,.none,.func ⟨z61,z61,L2.defArgs (tt 58),.stmts (L2.defBody (tt 58)),L2.defScope (tt 58),0,[],.none,.none,.none,.none,.none,.none,.none,0⟩,⟨[]⟩⟩
def o368 (P : Params) : Obj := ⟨.type t3,.none,.fields ⟨[.str z61 683,.str z61 684,.str z9 685,.int 282 0,.int 1 0,.int 0 0,.int 0 0,.int 3 0,.ref 365,.bool true,.int 181 0,.ref 366,.none,.none,.none,.ref 367,.int 686 0,.int 282 0,.str z9 687]⟩,⟨[]⟩⟩
def o369 (P : Params) : Obj := ⟨.type t17,.none,.func ⟨z61,z61,L2.defArgs (tt 58),.stmts (L2.defBody (tt 58)),L2.defScope (tt 58),3,[],.none,.none,.none,.str z116 607,.none,.ref 368,.none,0⟩,⟨[]⟩⟩
def o370 (P : Params) : Obj := ⟨.type t2,.none,.seq ⟨[]⟩ 0,⟨[]⟩⟩
def o371 (P : Params) : Obj := ⟨.none,.none,.fields ⟨[]⟩,⟨[]⟩⟩
def o372 (P : Params) : Obj := ⟨.type t2,.none,.seq ⟨[.str z126 694,.str z127 695,.str z128 696]⟩ 0,⟨[]⟩⟩
def o373 (P : Params) : Obj := ⟨.type t2,.none,.seq ⟨[]⟩ 0,⟨[]⟩⟩
def o374 (P : Params) : Obj := ⟨.none,.none,.func ⟨z62,z62,L2.defArgs (tt 60),.stmts (L2.defBody (tt 60)),L2.defScope (tt 60),0,[],.none,.none,.none,.none,.none,.none,.none,0⟩,⟨[]⟩⟩
def o375 (P : Params) : Obj := ⟨.type t3,.none,.fields ⟨[.str z62 691,.str z62 692,.str z9 693,.int 293 0,.int 2 0,.int 0 0,.int 0 0,.int 3 0,.ref 370,.bool true,.int 181 0,.ref 371,.none,.ref 372,.ref 373,.ref 374,.int 697 0,.int 293 0,.str z9 698]⟩,⟨[]⟩⟩
def o376 (P : Params) : Obj := ⟨.type t17,.none,.func ⟨z62,z62,L2.defArgs (tt 60),.stmts (L2.defBody (tt 60)),L2.defScope (tt 60),3,[],.none,.none,.none,.str z1 689,.none,.ref 375,.none,0⟩,⟨[]⟩⟩
def o377 (P : Params) : Obj := ⟨.type t2,.none,.seq ⟨[]⟩ 0,⟨[]⟩⟩
def o378 (P : Params) : Obj := ⟨.none,.none,.fields ⟨[]⟩,⟨[]⟩⟩
def o379 (P : Params) : Obj := ⟨.type t2,.none,.seq ⟨[.str z129 703,.str z130 704,.str z131 705,.str z127 706,.str z132 707]⟩ 0,⟨[]⟩⟩
def o380 (P : Params) : Obj := ⟨.type t2,.none,.seq ⟨[]⟩ 0,⟨[]⟩⟩
def o381 (P : Params) : Obj := ⟨.none,.none,.func ⟨z63,z63,L2.defArgs (tt 61),.stmts (L2.defBody (tt 61)),L2.defScope (tt 61),0,[],.none,.none,.none,.none,.none,.none,.none,0⟩,⟨[]⟩⟩
def o382 (P : Params) : Obj := ⟨.type t3,.none,.fields ⟨[.str z63 700,.str z63 701,.str z9 702,.int 300 0,.int 2 0,.int 0 0,.int 0 0,.int 3 0,.ref 377,.bool true,.int 181 0,.ref 378,.none,.ref 379,.ref 380,.ref 381,.int 708 0,.int 300 0,.str z9 709]⟩,⟨[]⟩⟩
def o383 (P : Params) : Obj := ⟨.type t17,.none,.func ⟨z63,z63,L2.defArgs (tt 61),.stmts (L2.defBody (tt 61)),L2.defScope (tt 61),3,[],.none,.none,.none,.str z1 689,.none,.ref 382,.none,0⟩,⟨[]⟩⟩
def o384 (P : Params) : Obj := ⟨.type t2,.none,.seq ⟨[]⟩ 0,⟨[]⟩⟩
def o385 (P : Params) : Obj := ⟨.none,.none,.fields ⟨[]⟩,⟨[]⟩⟩
def o386 (P : Params) : Obj := ⟨.type t2,.none,.seq ⟨[.str z133 714,.str z134 715,.str z135 716,.str z127 717]⟩ 0,⟨[]⟩⟩
def o387 (P : Params) : Obj := ⟨.type t2,.none,.seq ⟨[]⟩ 0,⟨[]⟩⟩
def o388 (P : Params) : Obj := ⟨.none,.none,.func ⟨z64,z64,L2.defArgs (tt 62),.stmts (L2.defBody (tt 62)),L2.defScope (tt 62),0,[],.none,.none,.none,.none,.none,.none,.none,0⟩,⟨[]⟩⟩
def o389 (P : Params) : Obj := ⟨.type t3,.none,.fields ⟨[.str z64 711,.str z64 712,.str z9 713,.int 306 0,.int 2 0,.int 0 0,.int 0 0,.int 3 0,.ref 384,.bool true,.int 181 0,.ref 385,.none,.ref 386,.ref 387,.ref 388,.int 718 0,.int 306 0,.str z9 719]⟩,⟨[]⟩⟩
def o390 (P : Params) : Obj := ⟨.type t17,.none,.func ⟨z64,z64,L2.defArgs (tt 62),.stmts (L2.defBody (tt 62)),L2.defScope (tt 62),3,[],.none,.none,.none,.str z1 689,.none,.ref 389,.none,0⟩,⟨[]⟩⟩
def o391 (P : Params) : Obj := ⟨.type t2,.none,.seq ⟨[]⟩ 0,⟨[]⟩⟩
def o392 (P : Params) : Obj := ⟨.none,.none,.fields ⟨[]⟩,⟨[]⟩⟩
def o393 (P : Params) : Obj := ⟨.type t2,.none,.seq ⟨[.str z136 724,.str z137 725,.str z138 726,.str z139 727]⟩ 0,⟨[]⟩⟩
def o394 (P : Params) : Obj := ⟨.type t2,.none,.seq ⟨[]⟩ 0,⟨[]⟩⟩
def o395 (P : Params) : Obj := ⟨.none,.none,.func ⟨z65,z65,L2.defArgs (tt 63),.stmts (L2.defBody (tt 63)),L2.defScope (tt 63),0,[],.none,.none,.none,.none,.none,.none,.none,0⟩,⟨[]⟩⟩
def o396 (P : Params) : Obj := ⟨.type t3,.none,.fields ⟨[.str z65 721,.str z65 722,.str z9 723,.int 311 0,.int 1 0,.int 0 0,.int 0 0,.int 3 0,.ref 391,.bool true,.int 181 0,.ref 392,.none,.ref 393,.ref 394,.ref 395,.int 728 0,.int 311 0,.str z9 729]⟩,⟨[]⟩⟩
def o397 (P : Params) : Obj := ⟨.type t17,.none,.func ⟨z65,z65,L2.defArgs (tt 63),.stmts (L2.defBody (tt 63)),L2.defScope (tt 63),3,[],.none,.none,.none,.str z1 689,.none,.ref 396,.none,0⟩,⟨[]⟩⟩
def o398 (P : Params) : Obj := ⟨.type t2,.none,.seq ⟨[]⟩ 0,⟨[]⟩⟩
def o399 (P : Params) : Obj := ⟨.none,.none,.fields ⟨[]⟩,⟨[]⟩⟩
def o400 (P : Params) : Obj := ⟨.none,.none,.func ⟨z66,z66,L2.defArgs (tt 64),.stmts (L2.defBody (tt 64)),L2.defScope (tt 64),0,[],.none,.none,.none,.none,.none,.none,.none,0⟩,⟨[]⟩⟩
def o401 (P : Params) : Obj := ⟨.type t3,.none,.fields ⟨[.str z66 731,.str z66 732,.str z9 733,.int 321 0,.int 1 0,.int 0 0,.int 0 0,.int 3 0,.ref 398,.bool true,.int 181 0,.ref 399,.none,.none,.none,.ref 400,.int 734 0,.int 321 0,.str z9 735]⟩,⟨[]⟩⟩
def o402 (P : Params) : Obj := ⟨.type t17,.none,.func ⟨z66,z66,L2.defArgs (tt 64),.stmts (L2.defBody (tt 64)),L2.defScope (tt 64),3,[],.none,.none,.none,.str z1 689,.none,.ref 401,.none,0⟩,⟨[]⟩⟩
def o403 (P : Params) : Obj := ⟨.type t2,.none,.seq ⟨[]⟩ 0,⟨[]⟩⟩
def o404 (P : Params) : Obj := ⟨.none,.none,.fields ⟨[]⟩,⟨[]⟩⟩
def o405 (P : Params) : Obj := ⟨.none,.none,.func ⟨z67,z67,L2.defArgs (tt 65),.stmts (L2.defBody (tt 65)),L2.defScope (tt 65),0,[],.none,.none,.none,.none,.none,.none,.none,0⟩,⟨[]⟩⟩
def o406 (P : Params) : Obj := ⟨.type t3,.none,.fields ⟨[.str z67 737,.str z67 738,.str z9 739,.int 323 0,.int 1 0,.int 0 0,.int 0 0,.int 3 0,.ref 403,.bool true,.int 181 0,.ref 404,.none,.none,.none,.ref 405,.int 740 0,.int 323 0,.str z9 741]⟩,⟨[]⟩⟩
def o407 (P : Params) : Obj := ⟨.type t17,.none,.func ⟨z67,z67,L2.defArgs (tt 65),.stmts (L2.defBody (tt 65)),L2.defScope (tt 65),3,[],.none,.none,.none,.str z1 689,.none,.ref 406,.none,0⟩,⟨[]⟩⟩
def TF (P : Params) : BT := (nd (PySem.W.boot_o_0 P) (nd (PySem.W.boot_o_1 P) (nd (o3 P) (nd (PySem.W.boot_o_7 P) (nd (o15 P) (nd (o31 P) (nd (o63 P) (nd (o127 P) (nd (o255 P) e e) (nd (o383 P) e e)) (nd (o191 P) (nd (o319 P) e e) e)) (nd (o95 P) (nd (o159 P) (nd (o287 P) e e) e) (nd (o223 P) (nd (o351 P) e e) e))) (nd (o47 P) (nd (o79 P) (nd (o143 P) (nd (o271 P) e e) (nd (o399 P) e e)) (nd (o207 P) (nd (o335 P) e e) e)) (nd (o111 P) (nd (o175 P) (nd (o303 P) e e) e) (nd (o239 P) (nd (o367 P) e e) e)))) (nd (o23 P) (nd (o39 P) (nd (o71 P) (nd (o135 P) (nd (o263 P) e e) (nd (o391 P) e e)) (nd (o199 P) (nd (o327 P) e e) e)) (nd (o103 P) (nd (o167 P) (nd (o295 P) e e) e) (nd (o231 P) (nd (o359 P) e e) e))) (nd (o55 P) (nd (o87 P) (nd (o151 P) (nd (o279 P) e e) (nd (o407 P) e e)) (nd (o215 P) (nd (o343 P) e e) e)) (nd (o119 P) (nd (o183 P) (nd (o311 P) e e) e) (nd (o247 P) (nd (o375 P) e e) e))))) (nd (o11 P) (nd (o19 P) (nd (o35 P) (nd (o67 P) (nd (o131 P) (nd (o259 P) e e) (nd (o387 P) e e)) (nd (o195 P) (nd (o323 P) e e) e)) (nd (o99 P) (nd (o163 P) (nd (o291 P) e e) e) (nd (o227 P) (nd (o355 P) e e) e))) (nd (o51 P) (nd (o83 P) (nd (o147 P) (nd (o275 P) e e) (nd (o403 P) e e)) (nd (o211 P) (nd (o339 P) e e) e)) (nd (o115 P) (nd (o179 P) (nd (o307 P) e e) e) (nd (o243 P) (nd (o371 P) e e) e)))) (nd (o27 P) (nd (o43 P) (nd (o75 P) (nd (o139 P) (nd (o267 P) e e) (nd (o395 P) e e)) (nd (o203 P) (nd (o331 P) e e) e)) (nd (o107 P) (nd (o171 P) (nd (o299 P) e e) e) (nd (o235 P) (nd (o363 P) e e) e))) (nd (o59 P) (nd (o91 P) (nd (o155 P) (nd (o283 P) e e) e) (nd (o219 P) (nd (o347 P) e e) e)) (nd (o123 P) (nd (o187 P) (nd (o315 P) e e) e) (nd (o251 P) (nd (o379 P) e e) e)))))) (nd (PySem.W.boot_o_5 P) (nd (PySem.W.boot_o_9 P) (nd (o17 P) (nd (o33 P) (nd (o65 P) (nd (o129 P) (nd (o257 P) e e) (nd (o385 P) e e)) (nd (o193 P) (nd (o321 P) e e) e)) (nd (o97 P) (nd (o161 P) (nd (o289 P) e e) e) (nd (o225 P) (nd (o353 P) e e) e))) (nd (o49 P) (nd (o81 P) (nd (o145 P) (nd (o273 P) e e) (nd (o401 P) e e)) (nd (o209 P) (nd (o337 P) e e) e)) (nd (o113 P) (nd (o177 P) (nd (o305 P) e e) e) (nd (o241 P) (nd (o369 P) e e) e)))) (nd (o25 P) (nd (o41 P) (nd (o73 P) (nd (o137 P) (nd (o265 P) e e) (nd (o393 P) e e)) (nd (o201 P) (nd (o329 P) e e) e)) (nd (o105 P) (nd (o169 P) (nd (o297 P) e e) e) (nd (o233 P) (nd (o361 P) e e) e))) (nd (o57 P) (nd (o89 P) (nd (o153 P) (nd (o281 P) e e) e) (nd (o217 P) (nd (o345 P) e e) e)) (nd (o121 P) (nd (o185 P) (nd (o313 P) e e) e) (nd (o249 P) (nd (o377 P) e e) e))))) (nd (o13 P) (nd (o21 P) (nd (o37 P) (nd (o69 P) (nd (o133 P) (nd (o261 P) e e) (nd (o389 P) e e)) (nd (o197 P) (nd (o325 P) e e) e)) (nd (o101 P) (nd (o165 P) (nd (o293 P) e e) e) (nd (o229 P) (nd (o357 P) e e) e))) (nd (o53 P) (nd (o85 P) (nd (o149 P) (nd (o277 P) e e) (nd (o405 P) e e)) (nd (o213 P) (nd (o341 P) e e) e)) (nd (o117 P) (nd (o181 P) (nd (o309 P) e e) e) (nd (o245 P) (nd (o373 P) e e) e)))) (nd (o29 P) (nd (o45 P) (nd (o77 P) (nd (o141 P) (nd (o269 P) e e) (nd (o397 P) e e)) (nd (o205 P) (nd (o333 P) e e) e)) (nd (o109 P) (nd (o173 P) (nd (o301 P) e e) e) (nd (o237 P) (nd (o365 P) e e) e))) (nd (o61 P) (nd (o93 P) (nd (o157 P) (nd (o285 P) e e) e) (nd (o221 P) (nd (o349 P) e e) e)) (nd (o125 P) (nd (o189 P) (nd (o317 P) e e) e) (nd (o253 P) (nd (o381 P) e e) e))))))) (nd (PySem.W.boot_o_2 P) (nd (PySem.W.boot_o_4 P) (nd (PySem.W.boot_o_8 P) (nd (o16 P) (nd (o32 P) (nd (o64 P) (nd (o128 P) (nd (o256 P) e e) (nd (o384 P) e e)) (nd (o192 P) (nd (o320 P) e e) e)) (nd (o96 P) (nd (o160 P) (nd (o288 P) e e) e) (nd (o224 P) (nd (o352 P) e e) e))) (nd (o48 P) (nd (o80 P) (nd (o144 P) (nd (o272 P) e e) (nd (o400 P) e e)) (nd (o208 P) (nd (o336 P) e e) e)) (nd (o112 P) (nd (o176 P) (nd (o304 P) e e) e) (nd (o240 P) (nd (o368 P) e e) e)))) (nd (o24 P) (nd (o40 P) (nd (o72 P) (nd (o136 P) (nd (o264 P) e e) (nd (o392 P) e e)) (nd (o200 P) (nd (o328 P) e e) e)) (nd (o104 P) (nd (o168 P) (nd (o296 P) e e) e) (nd (o232 P) (nd (o360 P) e e) e))) (nd (o56 P) (nd (o88 P) (nd (o152 P) (nd (o280 P) e e) e) (nd (o216 P) (nd (o344 P) e e) e)) (nd (o120 P) (nd (o184 P) (nd (o312 P) e e) e) (nd (o248 P) (nd (o376 P) e e) e))))) (nd (o12 P) (nd (o20 P) (nd (o36 P) (nd (o68 P) (nd (o132 P) (nd (o260 P) e e) (nd (o388 P) e e)) (nd (o196 P) (nd (o324 P) e e) e)) (nd (o100 P) (nd (o164 P) (nd (o292 P) e e) e) (nd (o228 P) (nd (o356 P) e e) e))) (nd (o52 P) (nd (o84 P) (nd (o148 P) (nd (o276 P) e e) (nd (o404 P) e e)) (nd (o212 P) (nd (o340 P) e e) e)) (nd (o116 P) (nd (o180 P) (nd (o308 P) e e) e) (nd (o244 P) (nd (o372 P) e e) e)))) (nd (o28 P) (nd (o44 P) (nd (o76 P) (nd (o140 P) (nd (o268 P) e e) (nd (o396 P) e e)) (nd (o204 P) (nd (o332 P) e e) e)) (nd (o108 P) (nd (o172 P) (nd (o300 P) e e) e) (nd (o236 P) (nd (o364 P) e e) e))) (nd (o60 P) (nd (o92 P) (nd (o156 P) (nd (o284 P) e e) e) (nd (o220 P) (nd (o348 P) e e) e)) (nd (o124 P) (nd (o188 P) (nd (o316 P) e e) e) (nd (o252 P) (nd (o380 P) e e) e)))))) (nd (PySem.W.boot_o_6 P) (nd (PySem.W.boot_o_10 P) (nd (o18 P) (nd (o34 P) (nd (o66 P) (nd (o130 P) (nd (o258 P) e e) (nd (o386 P) e e)) (nd (o194 P) (nd (o322 P) e e) e)) (nd (o98 P) (nd (o162 P) (nd (o290 P) e e) e) (nd (o226 P) (nd (o354 P) e e) e))) (nd (o50 P) (nd (o82 P) (nd (o146 P) (nd (o274 P) e e) (nd (o402 P) e e)) (nd (o210 P) (nd (o338 P) e e) e)) (nd (o114 P) (nd (o178 P) (nd (o306 P) e e) e) (nd (o242 P) (nd (o370 P) e e) e)))) (nd (o26 P) (nd (o42 P) (nd (o74 P) (nd (o138 P) (nd (o266 P) e e) (nd (o394 P) e e)) (nd (o202 P) (nd (o330 P) e e) e)) (nd (o106 P) (nd (o170 P) (nd (o298 P) e e) e) (nd (o234 P) (nd (o362 P) e e) e))) (nd (o58 P) (nd (o90 P) (nd (o154 P) (nd (o282 P) e e) e) (nd (o218 P) (nd (o346 P) e e) e)) (nd (o122 P) (nd (o186 P) (nd (o314 P) e e) e) (nd (o250 P) (nd (o378 P) e e) e))))) (nd (o14 P) (nd (o22 P) (nd (o38 P) (nd (o70 P) (nd (o134 P) (nd (o262 P) e e) (nd (o390 P) e e)) (nd (o198 P) (nd (o326 P) e e) e)) (nd (o102 P) (nd (o166 P) (nd (o294 P) e e) e) (nd (o230 P) (nd (o358 P) e e) e))) (nd (o54 P) (nd (o86 P) (nd (o150 P) (nd (o278 P) e e) (nd (o406 P) e e)) (nd (o214 P) (nd (o342 P) e e) e)) (nd (o118 P) (nd (o182 P) (nd (o310 P) e e) e) (nd (o246 P) (nd (o374 P) e e) e)))) (nd (o30 P) (nd (o46 P) (nd (o78 P) (nd (o142 P) (nd (o270 P) e e) (nd (o398 P) e e)) (nd (o206 P) (nd (o334 P) e e) e)) (nd (o110 P) (nd (o174 P) (nd (o302 P) e e) e) (nd (o238 P) (nd (o366 P) e e) e))) (nd (o62 P) (nd (o94 P) (nd (o158 P) (nd (o286 P) e e) e) (nd (o222 P) (nd (o350 P) e e) e)) (nd (o126 P) (nd (o190 P) (nd (o318 P) e e) e) (nd (o254 P) (nd (o382 P) e e) e))))))))
def HF (P : Params) : Heap := ⟨⟨[PySem.W.boot_o_0 P,PySem.W.boot_o_1 P,PySem.W.boot_o_2 P,o3 P,PySem.W.boot_o_4 P,PySem.W.boot_o_5 P,PySem.W.boot_o_6 P,PySem.W.boot_o_7 P,PySem.W.boot_o_8 P,PySem.W.boot_o_9 P,PySem.W.boot_o_10 P,o11 P,o12 P,o13 P,o14 P,o15 P,o16 P,o17 P,o18 P,o19 P,o20 P,o21 P,o22 P,o23 P,o24 P,o25 P,o26 P,o27 P,o28 P,o29 P,o30 P,o31 P,o32 P,o33 P,o34 P,o35 P,o36 P,o37 P,o38 P,o39 P,o40 P,o41 P,o42 P,o43 P,o44 P,o45 P,o46 P,o47 P,o48 P,o49 P,o50 P,o51 P,o52 P,o53 P,o54 P,o55 P,o56 P,o57 P,o58 P,o59 P,o60 P,o61 P,o62 P,o63 P,o64 P,o65 P,o66 P,o67 P,o68 P,o69 P,o70 P,o71 P,o72 P,o73 P,o74 P,o75 P,o76 P,o77 P,o78 P,o79 P,o80 P,o81 P,o82 P,o83 P,o84 P,o85 P,o86 P,o87 P,o88 P,o89 P,o90 P,o91 P,o92 P,o93 P,o94 P,o95 P,o96 P,o97 P,o98 P,o99 P,o100 P,o101 P,o102 P,o103 P,o104 P,o105 P,o106 P,o107 P,o108 P,o109 P,o110 P,o111 P,o112 P,o113 P,o114 P,o115 P,o116 P,o117 P,o118 P,o119 P,o120 P,o121 P,o122 P,o123 P,o124 P,o125 P,o126 P,o127 P,o128 P,o129 P,o130 P,o131 P,o132 P,o133 P,o134 P,o135 P,o136 P,o137 P,o138 P,o139 P,o140 P,o141 P,o142 P,o143 P,o144 P,o145 P,o146 P,o147 P,o148 P,o149 P,o150 P,o151 P,o152 P,o153 P,o154 P,o155 P,o156 P,o157 P,o158 P,o159 P,o160 P,o161 P,o162 P,o163 P,o164 P,o165 P,o166 P,o167 P,o168 P,o169 P,o170 P,o171 P,o172 P,o173 P,o174 P,o175 P,o176 P,o177 P,o178 P,o179 P,o180 P,o181 P,o182 P,o183 P,o184 P,o185 P,o186 P,o187 P,o188 P,o189 P,o190 P,o191 P,o192 P,o193 P,o194 P,o195 P,o196 P,o197 P,o198 P,o199 P,o200 P,o201 P,o202 P,o203 P,o204 P,o205 P,o206 P,o207 P,o208 P,o209 P,o210 P,o211 P,o212 P,o213 P,o214 P,o215 P,o216 P,o217 P,o218 P,o219 P,o220 P,o221 P,o222 P,o223 P,o224 P,o225 P,o226 P,o227 P,o228 P,o229 P,o230 P,o231 P,o232 P,o233 P,o234 P,o235 P,o236 P,o237 P,o238 P,o239 P,o240 P,o241 P,o242 P,o243 P,o244 P,o245 P,o246 P,o247 P,o248 P,o249 P,o250 P,o251 P,o252 P,o253 P,o254 P,o255 P,o256 P,o257 P,o258 P,o259 P,o260 P,o261 P,o262 P,o263 P,o264 P,o265 P,o266 P,o267 P,o268 P,o269 P,o270 P,o271 P,o272 P,o273 P,o274 P,o275 P,o276 P,o277 P,o278 P,o279 P,o280 P,o281 P,o282 P,o283 P,o284 P,o285 P,o286 P,o287 P,o288 P,o289 P,o290 P,o291 P,o292 P,o293 P,o294 P,o295 P,o296 P,o297 P,o298 P,o299 P,o300 P,o301 P,o302 P,o303 P,o304 P,o305 P,o306 P,o307 P,o308 P,o309 P,o310 P,o311 P,o312 P,o313 P,o314 P,o315 P,o316 P,o317 P,o318 P,o319 P,o320 P,o321 P,o322 P,o323 P,o324 P,o325 P,o326 P,o327 P,o328 P,o329 P,o330 P,o331 P,o332 P,o333 P,o334 P,o335 P,o336 P,o337 P,o338 P,o339 P,o340 P,o341 P,o342 P,o343 P,o344 P,o345 P,o346 P,o347 P,o348 P,o349 P,o350 P,o351 P,o352 P,o353 P,o354 P,o355 P,o356 P,o357 P,o358 P,o359 P,o360 P,o361 P,o362 P,o363 P,o364 P,o365 P,o366 P,o367 P,o368 P,o369 P,o370 P,o371 P,o372 P,o373 P,o374 P,o375 P,o376 P,o377 P,o378 P,o379 P,o380 P,o381 P,o382 P,o383 P,o384 P,o385 P,o386 P,o387 P,o388 P,o389 P,o390 P,o391 P,o392 P,o393 P,o394 P,o395 P,o396 P,o397 P,o398 P,o399 P,o400 P,o401 P,o402 P,o403 P,o404 P,o405 P,o406 P,o407 P]⟩,{}⟩
def K (P : Params) : Frag := (nat_lit 0,PySem.W.boot_o_0 P)::(nat_lit 1,PySem.W.boot_o_1 P)::(nat_lit 2,PySem.W.boot_o_2 P)::(nat_lit 3,o3 P)::(nat_lit 4,PySem.W.boot_o_4 P)::(nat_lit 5,PySem.W.boot_o_5 P)::(nat_lit 6,PySem.W.boot_o_6 P)::(nat_lit 7,PySem.W.boot_o_7 P)::(nat_lit 8,PySem.W.boot_o_8 P)::(nat_lit 9,PySem.W.boot_o_9 P)::(nat_lit 10,PySem.W.boot_o_10 P)::(nat_lit 11,o11 P)::(nat_lit 12,o12 P)::(nat_lit 13,o13 P)::(nat_lit 14,o14 P)::(nat_lit 15,o15 P)::(nat_lit 22,o22 P)::(nat_lit 23,o23 P)::(nat_lit 24,o24 P)::(nat_lit 25,o25 P)::(nat_lit 28,o28 P)::(nat_lit 35,o35 P)::(nat_lit 36,o36 P)::(nat_lit 37,o37 P)::(nat_lit 40,o40 P)::(nat_lit 47,o47 P)::(nat_lit 48,o48 P)::(nat_lit 49,o49 P)::(nat_lit 52,o52 P)::(nat_lit 59,o59 P)::(nat_lit 60,o60 P)::(nat_lit 61,o61 P)::(nat_lit 64,o64 P)::(nat_lit 71,o71 P)::(nat_lit 72,o72 P)::(nat_lit 73,o73 P)::(nat_lit 76,o76 P)::(nat_lit 83,o83 P)::(nat_lit 84,o84 P)::(nat_lit 85,o85 P)::(nat_lit 88,o88 P)::(nat_lit 95,o95 P)::(nat_lit 96,o96 P)::(nat_lit 97,o97 P)::(nat_lit 100,o100 P)::(nat_lit 107,o107 P)::(nat_lit 108,o108 P)::(nat_lit 109,o109 P)::(nat_lit 112,o112 P)::(nat_lit 119,o119 P)::(nat_lit 120,o120 P)::(nat_lit 121,o121 P)::(nat_lit 124,o124 P)::(nat_lit 125,o125 P)::(nat_lit 126,o126 P)::(nat_lit 127,o127 P)::(nat_lit 128,o128 P)::(nat_lit 129,o129 P)::(nat_lit 130,o130 P)::(nat_lit 131,o131 P)::(nat_lit 132,o132 P)::(nat_lit 133,o133 P)::(nat_lit 134,o134 P)::(nat_lit 135,o135 P)::(nat_lit 136,o136 P)::(nat_lit 137,o137 P)::(nat_lit 138,o138 P)::(nat_lit 139,o139 P)::(nat_lit 140,o140 P)::(nat_lit 141,o141 P)::(nat_lit 142,o142 P)::(nat_lit 143,o143 P)::(nat_lit 144,o144 P)::(nat_lit 145,o145 P)::(nat_lit 146,o146 P)::(nat_lit 147,o147 P)::(nat_lit 148,o148 P)::(nat_lit 149,o149 P)::(nat_lit 150,o150 P)::(nat_lit 151,o151 P)::(nat_lit 152,o152 P)::(nat_lit 153,o153 P)::(nat_lit 154,o154 P)::(nat_lit 155,o155 P)::(nat_lit 156,o156 P)::(nat_lit 157,o157 P)::(nat_lit 158,o158 P)::(nat_lit 159,o159 P)::(nat_lit 160,o160 P)::(nat_lit 161,o161 P)::(nat_lit 162,o162 P)::(nat_lit 163,o163 P)::(nat_lit 164,o164 P)::(nat_lit 165,o165 P)::(nat_lit 166,o166 P)::(nat_lit 167,o167 P)::(nat_lit 168,o168 P)::(nat_lit 169,o169 P)::(nat_lit 170,o170 P)::(nat_lit 171,o171 P)::(nat_lit 172,o172 P)::(nat_lit 173,o173 P)::(nat_lit 174,o174 P)::(nat_lit 175,o175 P)::(nat_lit 176,o176 P)::(nat_lit 177,o177 P)::(nat_lit 178,o178 P)::(nat_lit 179,o179 P)::(nat_lit 180,o180 P)::(nat_lit 181,o181 P)::(nat_lit 182,o182 P)::(nat_lit 183,o183 P)::(nat_lit 184,o184 P)::(nat_lit 185,o185 P)::(nat_lit 186,o186 P)::(nat_lit 187,o187 P)::(nat_lit 188,o188 P)::(nat_lit 189,o189 P)::(nat_lit 190,o190 P)::(nat_lit 191,o191 P)::(nat_lit 192,o192 P)::(nat_lit 193,o193 P)::(nat_lit 194,o194 P)::(nat_lit 195,o195 P)::(nat_lit 196,o196 P)::(nat_lit 197,o197 P)::(nat_lit 198,o198 P)::(nat_lit 199,o199 P)::(nat_lit 200,o200 P)::(nat_lit 201,o201 P)::(nat_lit 202,o202 P)::(nat_lit 203,o203 P)::(nat_lit 204,o204 P)::(nat_lit 205,o205 P)::(nat_lit 206,o206 P)::(nat_lit 207,o207 P)::(nat_lit 208,o208 P)::(nat_lit 209,o209 P)::(nat_lit 210,o210 P)::(nat_lit 211,o211 P)::(nat_lit 212,o212 P)::(nat_lit 213,o213 P)::(nat_lit 214,o214 P)::(nat_lit 215,o215 P)::(nat_lit 216,o216 P)::(nat_lit 217,o217 P)::(nat_lit 218,o218 P)::(nat_lit 219,o219 P)::(nat_lit 220,o220 P)::(nat_lit 221,o221 P)::(nat_lit 222,o222 P)::(nat_lit 223,o223 P)::(nat_lit 224,o224 P)::(nat_lit 225,o225 P)::(nat_lit 226,o226 P)::(nat_lit 227,o227 P)::(nat_lit 228,o228 P)::(nat_lit 229,o229 P)::(nat_lit 230,o230 P)::(nat_lit 231,o231 P)::(nat_lit 232,o232 P)::(nat_lit 233,o233 P)::(nat_lit 234,o234 P)::(nat_lit 235,o235 P)::(nat_lit 236,o236 P)::(nat_lit 237,o237 P)::(nat_lit 238,o238 P)::(nat_lit 239,o239 P)::(nat_lit 240,o240 P)::(nat_lit 241,o241 P)::(nat_lit 242,o242 P)::(nat_lit 243,o243 P)::(nat_lit 244,o244 P)::(nat_lit 245,o245 P)::(nat_lit 246,o246 P)::(nat_lit 247,o247 P)::(nat_lit 248,o248 P)::(nat_lit 249,o249 P)::(nat_lit 250,o250 P)::(nat_lit 251,o251 P)::(nat_lit 252,o252 P)::(nat_lit 253,o253 P)::(nat_lit 254,o254 P)::(nat_lit 255,o255 P)::(nat_lit 256,o256 P)::(nat_lit 257,o257 P)::(nat_lit 258,o258 P)::(nat_lit 259,o259 P)::(nat_lit 260,o260 P)::(nat_lit 261,o261 P)::(nat_lit 262,o262 P)::(nat_lit 263,o263 P)::(nat_lit 264,o264 P)::(nat_lit 265,o265 P)::(nat_lit 266,o266 P)::(nat_lit 267,o267 P)::(nat_lit 268,o268 P)::(nat_lit 269,o269 P)::(nat_lit 270,o270 P)::(nat_lit 271,o271 P)::(nat_lit 272,o272 P)::(nat_lit 273,o273 P)::(nat_lit 274,o274 P)::(nat_lit 275,o275 P)::(nat_lit 276,o276 P)::(nat_lit 277,o277 P)::(nat_lit 278,o278 P)::(nat_lit 279,o279 P)::(nat_lit 280,o280 P)::(nat_lit 281,o281 P)::(nat_lit 282,o282 P)::(nat_lit 283,o283 P)::(nat_lit 284,o284 P)::(nat_lit 285,o285 P)::(nat_lit 286,o286 P)::(nat_lit 287,o287 P)::(nat_lit 288,o288 P)::(nat_lit 289,o289 P)::(nat_lit 290,o290 P)::(nat_lit 291,o291 P)::(nat_lit 292,o292 P)::(nat_lit 293,o293 P)::(nat_lit 294,o294 P)::(nat_lit 295,o295 P)::(nat_lit 296,o296 P)::(nat_lit 297,o297 P)::(nat_lit 298,o298 P)::(nat_lit 299,o299 P)::(nat_lit 300,o300 P)::(nat_lit 301,o301 P)::(nat_lit 302,o302 P)::(nat_lit 303,o303 P)::(nat_lit 304,o304 P)::(nat_lit 305,o305 P)::(nat_lit 306,o306 P)::(nat_lit 307,o307 P)::(nat_lit 308,o308 P)::(nat_lit 309,o309 P)::(nat_lit 310,o310 P)::(nat_lit 311,o311 P)::(nat_lit 312,o312 P)::(nat_lit 313,o313 P)::(nat_lit 314,o314 P)::(nat_lit 315,o315 P)::(nat_lit 316,o316 P)::(nat_lit 317,o317 P)::(nat_lit 318,o318 P)::(nat_lit 319,o319 P)::(nat_lit 320,o320 P)::(nat_lit 321,o321 P)::(nat_lit 322,o322 P)::(nat_lit 323,o323 P)::(nat_lit 324,o324 P)::(nat_lit 325,o325 P)::(nat_lit 326,o326 P)::(nat_lit 327,o327 P)::(nat_lit 328,o328 P)::(nat_lit 329,o329 P)::(nat_lit 330,o330 P)::(nat_lit 331,o331 P)::(nat_lit 332,o332 P)::(nat_lit 333,o333 P)::(nat_lit 334,o334 P)::(nat_lit 335,o335 P)::(nat_lit 336,o336 P)::(nat_lit 337,o337 P)::(nat_lit 338,o338 P)::(nat_lit 339,o339 P)::(nat_lit 340,o340 P)::(nat_lit 341,o341 P)::(nat_lit 342,o342 P)::(nat_lit 343,o343 P)::(nat_lit 344,o344 P)::(nat_lit 345,o345 P)::(nat_lit 346,o346 P)::(nat_lit 347,o347 P)::(nat_lit 348,o348 P)::(nat_lit 349,o349 P)::(nat_lit 350,o350 P)::(nat_lit 351,o351 P)::(nat_lit 352,o352 P)::(nat_lit 353,o353 P)::(nat_lit 354,o354 P)::(nat_lit 355,o355 P)::(nat_lit 356,o356 P)::(nat_lit 357,o357 P)::(nat_lit 358,o358 P)::(nat_lit 359,o359 P)::(nat_lit 360,o360 P)::(nat_lit 361,o361 P)::(nat_lit 362,o362 P)::(nat_lit 363,o363 P)::(nat_lit 364,o364 P)::(nat_lit 365,o365 P)::(nat_lit 366,o366 P)::(nat_lit 367,o367 P)::(nat_lit 368,o368 P)::(nat_lit 369,o369 P)::(nat_lit 370,o370 P)::(nat_lit 371,o371 P)::(nat_lit 372,o372 P)::(nat_lit 373,o373 P)::(nat_lit 374,o374 P)::(nat_lit 375,o375 P)::(nat_lit 376,o376 P)::(nat_lit 377,o377 P)::(nat_lit 378,o378 P)::(nat_lit 379,o379 P)::(nat_lit 380,o380 P)::(nat_lit 381,o381 P)::(nat_lit 382,o382 P)::(nat_lit 383,o383 P)::(nat_lit 391,o391 P)::(nat_lit 392,o392 P)::(nat_lit 393,o393 P)::(nat_lit 394,o394 P)::(nat_lit 395,o395 P)::(nat_lit 396,o396 P)::(nat_lit 397,o397 P)::(nat_lit 398,o398 P)::(nat_lit 399,o399 P)::(nat_lit 400,o400 P)::(nat_lit 401,o401 P)::(nat_lit 402,o402 P)::(nat_lit 403,o403 P)::(nat_lit 404,o404 P)::(nat_lit 405,o405 P)::(nat_lit 406,o406 P)::(nat_lit 407,o407 P)::[]
def as : List Nat := [nat_lit 0,nat_lit 1,nat_lit 2,nat_lit 3,nat_lit 4,nat_lit 5,nat_lit 6,nat_lit 7,nat_lit 8,nat_lit 9,nat_lit 10,nat_lit 11,nat_lit 12,nat_lit 13,nat_lit 14,nat_lit 15,nat_lit 22,nat_lit 23,nat_lit 24,nat_lit 25,nat_lit 28,nat_lit 35,nat_lit 36,nat_lit 37,nat_lit 40,nat_lit 47,nat_lit 48,nat_lit 49,nat_lit 52,nat_lit 59,nat_lit 60,nat_lit 61,nat_lit 64,nat_lit 71,nat_lit 72,nat_lit 73,nat_lit 76,nat_lit 83,nat_lit 84,nat_lit 85,nat_lit 88,nat_lit 95,nat_lit 96,nat_lit 97,nat_lit 100,nat_lit 107,nat_lit 108,nat_lit 109,nat_lit 112,nat_lit 119,nat_lit 120,nat_lit 121,nat_lit 124,nat_lit 125,nat_lit 126,nat_lit 127,nat_lit 128,nat_lit 129,nat_lit 130,nat_lit 131,nat_lit 132,nat_lit 133,nat_lit 134,nat_lit 135,nat_lit 136,nat_lit 137,nat_lit 138,nat_lit 139,nat_lit 140,nat_lit 141,nat_lit 142,nat_lit 143,nat_lit 144,nat_lit 145,nat_lit 146,nat_lit 147,nat_lit 148,nat_lit 149,nat_lit 150,nat_lit 151,nat_lit 152,nat_lit 153,nat_lit 154,nat_lit 155,nat_lit 156,nat_lit 157,nat_lit 158,nat_lit 159,nat_lit 160,nat_lit 161,nat_lit 162,nat_lit 163,nat_lit 164,nat_lit 165,nat_lit 166,nat_lit 167,nat_lit 168,nat_lit 169,nat_lit 170,nat_lit 171,nat_lit 172,nat_lit 173,nat_lit 174,nat_lit 175,nat_lit 176,nat_lit 177,nat_lit 178,nat_lit 179,nat_lit 180,nat_lit 181,nat_lit 182,nat_lit 183,nat_lit 184,nat_lit 185,nat_lit 186,nat_lit 187,nat_lit 188,nat_lit 189,nat_lit 190,nat_lit 191,nat_lit 192,nat_lit 193,nat_lit 194,nat_lit 195,nat_lit 196,nat_lit 197,nat_lit 198,nat_lit 199,nat_lit 200,nat_lit 201,nat_lit 202,nat_lit 203,nat_lit 204,nat_lit 205,nat_lit 206,nat_lit 207,nat_lit 208,nat_lit 209,nat_lit 210,nat_lit 211,nat_lit 212,nat_lit 213,nat_lit 214,nat_lit 215,nat_lit 216,nat_lit 217,nat_lit 218,nat_lit 219,nat_lit 220,nat_lit 221,nat_lit 222,nat_lit 223,nat_lit 224,nat_lit 225,nat_lit 226,nat_lit 227,nat_lit 228,nat_lit 229,nat_lit 230,nat_lit 231,nat_lit 232,nat_lit 233,nat_lit 234,nat_lit 235,nat_lit 236,nat_lit 237,nat_lit 238,nat_lit 239,nat_lit 240,nat_lit 241,nat_lit 242,nat_lit 243,nat_lit 244,nat_lit 245,nat_lit 246,nat_lit 247,nat_lit 248,nat_lit 249,nat_lit 250,nat_lit 251,nat_lit 252,nat_lit 253,nat_lit 254,nat_lit 255,nat_lit 256,nat_lit 257,nat_lit 258,nat_lit 259,nat_lit 260,nat_lit 261,nat_lit 262,nat_lit 263,nat_lit 264,nat_lit 265,nat_lit 266,nat_lit 267,nat_lit 268,nat_lit 269,nat_lit 270,nat_lit 271,nat_lit 272,nat_lit 273,nat_lit 274,nat_lit 275,nat_lit 276,nat_lit 277,nat_lit 278,nat_lit 279,nat_lit 280,nat_lit 281,nat_lit 282,nat_lit 283,nat_lit 284,nat_lit 285,nat_lit 286,nat_lit 287,nat_lit 288,nat_lit 289,nat_lit 290,nat_lit 291,nat_lit 292,nat_lit 293,nat_lit 294,nat_lit 295,nat_lit 296,nat_lit 297,nat_lit 298,nat_lit 299,nat_lit 300,nat_lit 301,nat_lit 302,nat_lit 303,nat_lit 304,nat_lit 305,nat_lit 306,nat_lit 307,nat_lit 308,nat_lit 309,nat_lit 310,nat_lit 311,nat_lit 312,nat_lit 313,nat_lit 314,nat_lit 315,nat_lit 316,nat_lit 317,nat_lit 318,nat_lit 319,nat_lit 320,nat_lit 321,nat_lit 322,nat_lit 323,nat_lit 324,nat_lit 325,nat_lit 326,nat_lit 327,nat_lit 328,nat_lit 329,nat_lit 330,nat_lit 331,nat_lit 332,nat_lit 333,nat_lit 334,nat_lit 335,nat_lit 336,nat_lit 337,nat_lit 338,nat_lit 339,nat_lit 340,nat_lit 341,nat_lit 342,nat_lit 343,nat_lit 344,nat_lit 345,nat_lit 346,nat_lit 347,nat_lit 348,nat_lit 349,nat_lit 350,nat_lit 351,nat_lit 352,nat_lit 353,nat_lit 354,nat_lit 355,nat_lit 356,nat_lit 357,nat_lit 358,nat_lit 359,nat_lit 360,nat_lit 361,nat_lit 362,nat_lit 363,nat_lit 364,nat_lit 365,nat_lit 366,nat_lit 367,nat_lit 368,nat_lit 369,nat_lit 370,nat_lit 371,nat_lit 372,nat_lit 373,nat_lit 374,nat_lit 375,nat_lit 376,nat_lit 377,nat_lit 378,nat_lit 379,nat_lit 380,nat_lit 381,nat_lit 382,nat_lit 383,nat_lit 391,nat_lit 392,nat_lit 393,nat_lit 394,nat_lit 395,nat_lit 396,nat_lit 397,nat_lit 398,nat_lit 399,nat_lit 400,nat_lit 401,nat_lit 402,nat_lit 403,nat_lit 404,nat_lit 405,nat_lit 406,nat_lit 407]
def cut (n : Nat) (t : BT) : Nat → Nat → BT := BT.rec (motive := fun _ => Nat → Nat → BT) (fun _ _ => .nil) (fun v _ _ l r a b => cond (Nat.blt b n) (.node v (l (Nat.mul 2 a) (Nat.add a b)) (r (Nat.mul 2 a) (Nat.add (Nat.mul 2 a) b))) .nil) t
def HA (P : Params) : Heap := ⟨⟨[PySem.W.boot_o_0 P,PySem.W.boot_o_1 P,PySem.W.boot_o_2 P,PySem.W.boot_o_3 P,PySem.W.boot_o_4 P,PySem.W.boot_o_5 P,PySem.W.boot_o_6 P,PySem.W.boot_o_7 P,PySem.W.boot_o_8 P,PySem.W.boot_o_9 P,PySem.W.boot_o_10 P,o11 P,v12_0 P,o13 P,o14 P]⟩,{}⟩
def SA (w : World) (os : OsState) : Shared := ⟨HA w.params,⟨[]⟩,{},187,os⟩
def T1 (P : Params) : BT := ((cut 15 (TF P) 1 0).set 3 fun _ => PySem.W.boot_o_3 P).set 12 fun _ => v12_0 P
def S1 (w : World) (os : OsState) : SharedT := ⟨T1 w.params,15,{},⟨[]⟩,{},187,os⟩
def T2 (P : Params) : BT := (((cut 28 (TF P) 1 0).set 3 fun _ => v3_1 P).set 12 fun _ => v12_2 P).set 24 fun _ => v24_3 P
def S2 (w : World) (os : OsState) : SharedT := ⟨T2 w.params,28,{},⟨[]⟩,{},207,os⟩
def T3 (P : Params) : BT := (((cut 40 (TF P) 1 0).set 3 fun _ => v3_4 P).set 12 fun _ => v12_5 P).set 24 fun _ => v24_6 P
def S3 (w : World) (os : OsState) : SharedT := ⟨T3 w.params,40,{},⟨[]⟩,{},223,os⟩
def T4 (P : Params) : BT := (((cut 52 (TF P) 1 0).set 3 fun _ => v3_7 P).set 12 fun _ => v12_8 P).set 24 fun _ => v24_9 P
def S4 (w : World) (os : OsState) : SharedT := ⟨T4 w.params,52,{},⟨[]⟩,{},239,os⟩
def T5 (P : Params) : BT := (((cut 64 (TF P) 1 0).set 3 fun _ => v3_10 P).set 12 fun _ => v12_11 P).set 24 fun _ => v24_12 P
def S5 (w : World) (os : OsState) : SharedT := ⟨T5 w.params,64,{},⟨[]⟩,{},255,os⟩
def T6 (P : Params) : BT := (((cut 76 (TF P) 1 0).set 3 fun _ => v3_13 P).set 12 fun _ => v12_14 P).set 24 fun _ => v24_15 P
def S6 (w : World) (os : OsState) : SharedT := ⟨T6 w.params,76,{},⟨[]⟩,{},271,os⟩
def T7 (P : Params) : BT := (((cut 88 (TF P) 1 0).set 3 fun _ => v3_16 P).set 12 fun _ => v12_17 P).set 24 fun _ => v24_18 P
def S7 (w : World) (os : OsState) : SharedT := ⟨T7 w.params,88,{},⟨[]⟩,{},287,os⟩
def T8 (P : Params) : BT := (((cut 100 (TF P) 1 0).set 3 fun _ => v3_19 P).set 12 fun _ => v12_20 P).set 24 fun _ => v24_21 P
def S8 (w : World) (os : OsState) : SharedT := ⟨T8 w.params,100,{},⟨[]⟩,{},303,os⟩
def T9 (P : Params) : BT := (((cut 112 (TF P) 1 0).set 3 fun _ => v3_22 P).set 12 fun _ => v12_23 P).set 24 fun _ => v24_24 P
def S9 (w : World) (os : OsState) : SharedT := ⟨T9 w.params,112,{},⟨[]⟩,{},319,os⟩
def T10 (P : Params) : BT := ((cut 159 (TF P) 1 0).set 3 fun _ => v3_25 P).set 12 fun _ => v12_26 P
def S10 (w : World) (os : OsState) : SharedT := ⟨T10 w.params,159,{},⟨[]⟩,{},384,os⟩
def T11 (P : Params) : BT := ((cut 235 (TF P) 1 0).set 3 fun _ => v3_27 P).set 12 fun _ => v12_28 P
def S11 (w : World) (os : OsState) : SharedT := ⟨T11 w.params,235,{},⟨[]⟩,{},494,os⟩
def T12 (P : Params) : BT := ((cut 308 (TF P) 1 0).set 3 fun _ => v3_29 P).set 12 fun _ => v12_30 P
def S12 (w : World) (os : OsState) : SharedT := ⟨T12 w.params,308,{},⟨[]⟩,{},596,os⟩
def T13 (P : Params) : BT := ((cut 384 (TF P) 1 0).set 3 fun _ => v3_31 P).set 12 fun _ => v12_32 P
def S13 (w : World) (os : OsState) : SharedT := ⟨T13 w.params,384,{},⟨[]⟩,{},711,os⟩
def T14 (P : Params) : BT := cut 408 (TF P) 1 0
def S14 (w : World) (os : OsState) : SharedT := ⟨T14 w.params,408,{},⟨[]⟩,{},743,os⟩
def SF (w : World) (os : OsState) : Shared := ⟨HF w.params,⟨[]⟩,{},743,os⟩
def ann : Option Value := some (.ref 6)
def env : Env := { scope := pwL.main.scope,locals := mainNs,globals := mainNs,cells := [],code := .ref 13,frame := some 14 }
def cE : Code := .body (behindTheImports pwL) env
abbrev BB : List Frame := [topFrame ⟨0,0,0,0⟩]
def q : Program := { pwL with main := { pwL.main with body := [topF 1,topF 2,topF 3,topF 4,topF 5,topF 6,topF 7,topF 8,topF 9,topF 11,topF 12,topF 13,topF 14,topF 16,topF 18,topF 19,topF 20,topF 21,topF 22,topF 24,topF 25,topF 26,topF 27,topF 28,topF 29,topF 30,topF 31,topF 33,topF 34,topF 36,topF 37,topF 38,topF 39,topF 40,topF 41,topF 42,topF 43,topF 44,topF 45,topF 46,topF 47,topF 49,topF 50,topF 51,topF 52,topF 53,topF 54,topF 55,topF 56,topF 57,topF 58,topF 60,topF 61,topF 62,topF 63,topF 64,topF 65] } }
theorem warm2 : ((fun (_ : Env) (_ : Code) (_ : Program) => true) env cE q) = true := by k_qdec
theorem a0 : @segRunT = PySem.W.Fast.tw10110043849684766642 := PySem.W.Fast.te10110043849684766642
theorem a1 : @treeTable = PySem.W.Fast.tw14364793385576792824 := PySem.W.Fast.te14364793385576792824
theorem a2 : @topGo = PySem.W.Fast.tw15667345088766844465 := PySem.W.Fast.te15667345088766844465
theorem a3 : @topRun = PySem.W.Fast.tw14082659384304107361 := PySem.W.Fast.te14082659384304107361
theorem a4 : @segRun = PySem.W.Fast.tw14374325043358763698 := PySem.W.Fast.te14374325043358763698
theorem a5 : @denote = PySem.W.Fast.tw11892475500146522536 := PySem.W.Fast.te11892475500146522536
theorem a6 : @cE = PySem.W.Fast.tw6310896464644056734 := PySem.W.Fast.te6310896464644056734
theorem a7 : @env = PySem.W.Fast.tw7524273617565637597 := PySem.W.Fast.te7524273617565637597
theorem a8 : @q = PySem.W.Fast.tw14790487306143927693 := PySem.W.Fast.te14790487306143927693
theorem a9 : @pwL = PySem.W.Fast.tw4563903502061632601 := PySem.W.Fast.te4563903502061632601
theorem a10 : @topF = PySem.W.Fast.tw8010311650938108691 := PySem.W.Fast.te8010311650938108691
theorem a11 : @importedModules = PySem.W.Fast.tw5923862056798008813 := PySem.W.Fast.te5923862056798008813
theorem a12 : @openSeen = PySem.W.Fast.tw4187177175401517315 := PySem.W.Fast.te4187177175401517315
theorem a13 : @Heap.nsMap = PySem.W.Fast.tw8920871248978507458 := PySem.W.Fast.te8920871248978507458
set_option maxHeartbeats 0
theorem pre (w : World) (os : OsState) : topGo treeTable pwL w 11 ann 12 ⟨boot_heap w.params,⟨[]⟩,boot_drawn,boot_toks,os⟩ (topStub pwL) = some (SA w os,⟨denote treeTable cE,cE,⟨0,0,0,0⟩,BB⟩) := by
  (try rw [a0]);(try rw [a1]);(try rw [a2]);(try rw [a3]);(try rw [a4]);(try rw [a5]);(try rw [a6]);(try rw [a7]);(try rw [a8]);(try rw [a9]);(try rw [a10]); kernel_rfl
theorem blk (w : World) (os : OsState) : segRun treeTable pwL w 11 ann 1 1 (SA w os) (blockOf (behindTheImports pwL) env cE ⟨0,0,0,0⟩ BB) = some (.next,(S1 w os).abs,cE,⟨0,0,0,0⟩) := by
  (try rw [a0]);(try rw [a1]);(try rw [a2]);(try rw [a3]);(try rw [a4]);(try rw [a5]);(try rw [a6]);(try rw [a7]);(try rw [a8]);(try rw [a9]);(try rw [a10]); kernel_rfl
abbrev c1 : List Stmt := [topF 0,topF 1]
theorem p1 (w : World) (os : OsState) : segRunT treeTable pwL w 11 ann 1 196 (S1 w os) (piecesOf c1 env cE ⟨0,0,0,0⟩ BB) = some (.next,S2 w os,cE,⟨2,0,3,8⟩) := by
  unfold c1; (try rw [a0]);(try rw [a1]);(try rw [a2]);(try rw [a3]);(try rw [a4]);(try rw [a5]);(try rw [a6]);(try rw [a7]);(try rw [a8]);(try rw [a9]);(try rw [a10]); kernel_rfl
abbrev c2 : List Stmt := [topF 2]
theorem p2 (w : World) (os : OsState) : segRunT treeTable pwL w 11 ann 1 214 (S2 w os) (piecesOf c2 env cE ⟨2,0,3,8⟩ BB) = some (.next,S3 w os,cE,⟨4,0,5,8⟩) := by
  unfold c2; (try rw [a0]);(try rw [a1]);(try rw [a2]);(try rw [a3]);(try rw [a4]);(try rw [a5]);(try rw [a6]);(try rw [a7]);(try rw [a8]);(try rw [a9]);(try rw [a10]); kernel_rfl
abbrev c3 : List Stmt := [topF 3]
theorem p3 (w : World) (os : OsState) : segRunT treeTable pwL w 11 ann 1 214 (S3 w os) (piecesOf c3 env cE ⟨4,0,5,8⟩ BB) = some (.next,S4 w os,cE,⟨6,0,7,8⟩) := by
  unfold c3; (try rw [a0]);(try rw [a1]);(try rw [a2]);(try rw [a3]);(try rw [a4]);(try rw [a5]);(try rw [a6]);(try rw [a7]);(try rw [a8]);(try rw [a9]);(try rw [a10]); kernel_rfl
abbrev c4 : List Stmt := [topF 4]
theorem p4 (w : World) (os : OsState) : segRunT treeTable pwL w 11 ann 1 214 (S4 w os) (piecesOf c4 env cE ⟨6,0,7,8⟩ BB) = some (.next,S5 w os,cE,⟨8,0,9,8⟩) := by
  unfold c4; (try rw [a0]);(try rw [a1]);(try rw [a2]);(try rw [a3]);(try rw [a4]);(try rw [a5]);(try rw [a6]);(try rw [a7]);(try rw [a8]);(try rw [a9]);(try rw [a10]); kernel_rfl
abbrev c5 : List Stmt := [topF 5]
theorem p5 (w : World) (os : OsState) : segRunT treeTable pwL w 11 ann 1 214 (S5 w os) (piecesOf c5 env cE ⟨8,0,9,8⟩ BB) = some (.next,S6 w os,cE,⟨10,0,11,8⟩) := by
  unfold c5; (try rw [a0]);(try rw [a1]);(try rw [a2]);(try rw [a3]);(try rw [a4]);(try rw [a5]);(try rw [a6]);(try rw [a7]);(try rw [a8]);(try rw [a9]);(try rw [a10]); kernel_rfl
abbrev c6 : List Stmt := [topF 6]
theorem p6 (w : World) (os : OsState) : segRunT treeTable pwL w 11 ann 1 214 (S6 w os) (piecesOf c6 env cE ⟨10,0,11,8⟩ BB) = some (.next,S7 w os,cE,⟨12,0,13,8⟩) := by
  unfold c6; (try rw [a0]);(try rw [a1]);(try rw [a2]);(try rw [a3]);(try rw [a4]);(try rw [a5]);(try rw [a6]);(try rw [a7]);(try rw [a8]);(try rw [a9]);(try rw [a10]); kernel_rfl
abbrev c7 : List Stmt := [topF 7]
theorem p7 (w : World) (os : OsState) : segRunT treeTable pwL w 11 ann 1 214 (S7 w os) (piecesOf c7 env cE ⟨12,0,13,8⟩ BB) = some (.next,S8 w os,cE,⟨14,0,15,8⟩) := by
  unfold c7; (try rw [a0]);(try rw [a1]);(try rw [a2]);(try rw [a3]);(try rw [a4]);(try rw [a5]);(try rw [a6]);(try rw [a7]);(try rw [a8]);(try rw [a9]);(try rw [a10]); kernel_rfl
abbrev c8 : List Stmt := [topF 8]
theorem p8 (w : World) (os : OsState) : segRunT treeTable pwL w 11 ann 1 214 (S8 w os) (piecesOf c8 env cE ⟨14,0,15,8⟩ BB) = some (.next,S9 w os,cE,⟨16,0,17,8⟩) := by
  unfold c8; (try rw [a0]);(try rw [a1]);(try rw [a2]);(try rw [a3]);(try rw [a4]);(try rw [a5]);(try rw [a6]);(try rw [a7]);(try rw [a8]);(try rw [a9]);(try rw [a10]); kernel_rfl
abbrev c9 : List Stmt := [topF 9,topF 10,topF 11,topF 12,topF 13,topF 14,topF 15,topF 16,topF 17]
theorem p9 (w : World) (os : OsState) : segRunT treeTable pwL w 11 ann 1 394 (S9 w os) (piecesOf c9 env cE ⟨16,0,17,8⟩ BB) = some (.next,S10 w os,cE,⟨54,0,54,8⟩) := by
  unfold c9; (try rw [a0]);(try rw [a1]);(try rw [a2]);(try rw [a3]);(try rw [a4]);(try rw [a5]);(try rw [a6]);(try rw [a7]);(try rw [a8]);(try rw [a9]);(try rw [a10]); kernel_rfl
abbrev c10 : List Stmt := [topF 18,topF 19,topF 20,topF 21,topF 22,topF 23,topF 24,topF 25,topF 26,topF 27,topF 28,topF 29,topF 30,topF 31,topF 32]
theorem p10 (w : World) (os : OsState) : segRunT treeTable pwL w 11 ann 1 388 (S10 w os) (piecesOf c10 env cE ⟨54,0,54,8⟩ BB) = some (.next,S11 w os,cE,⟨124,0,124,8⟩) := by
  unfold c10; (try rw [a0]);(try rw [a1]);(try rw [a2]);(try rw [a3]);(try rw [a4]);(try rw [a5]);(try rw [a6]);(try rw [a7]);(try rw [a8]);(try rw [a9]);(try rw [a10]); kernel_rfl
abbrev c11 : List Stmt := [topF 33,topF 34,topF 35,topF 36,topF 37,topF 38,topF 39,topF 40,topF 41,topF 42,topF 43,topF 44,topF 45,topF 46]
theorem p11 (w : World) (os : OsState) : segRunT treeTable pwL w 11 ann 1 378 (S11 w os) (piecesOf c11 env cE ⟨124,0,124,8⟩ BB) = some (.next,S12 w os,cE,⟨213,0,218,52⟩) := by
  unfold c11; (try rw [a0]);(try rw [a1]);(try rw [a2]);(try rw [a3]);(try rw [a4]);(try rw [a5]);(try rw [a6]);(try rw [a7]);(try rw [a8]);(try rw [a9]);(try rw [a10]); kernel_rfl
abbrev c12 : List Stmt := [topF 47,topF 48,topF 49,topF 50,topF 51,topF 52,topF 53,topF 54,topF 55,topF 56,topF 57,topF 58,topF 59,topF 60,topF 61]
theorem p12 (w : World) (os : OsState) : segRunT treeTable pwL w 11 ann 1 393 (S12 w os) (piecesOf c12 env cE ⟨213,0,218,52⟩ BB) = some (.next,S13 w os,cE,⟨300,0,305,21⟩) := by
  unfold c12; (try rw [a0]);(try rw [a1]);(try rw [a2]);(try rw [a3]);(try rw [a4]);(try rw [a5]);(try rw [a6]);(try rw [a7]);(try rw [a8]);(try rw [a9]);(try rw [a10]); kernel_rfl
abbrev c13 : List Stmt := [topF 62,topF 63,topF 64,topF 65]
theorem p13 (w : World) (os : OsState) : segRunT treeTable pwL w 11 ann 1 117 (S13 w os) (piecesOf c13 env cE ⟨300,0,305,21⟩ BB) = some (.next,S14 w os,cE,⟨323,0,343,80⟩) := by
  unfold c13; (try rw [a0]);(try rw [a1]);(try rw [a2]);(try rw [a3]);(try rw [a4]);(try rw [a5]);(try rw [a6]);(try rw [a7]);(try rw [a8]);(try rw [a9]);(try rw [a10]); kernel_rfl
theorem fin (w : World) (os : OsState) : topRun treeTable pwL w 11 ann 2 (S14 w os).abs ⟨doneF .next,cE,⟨323,0,343,80⟩,BB⟩ = some (SF w os) := by
  (try rw [a0]);(try rw [a1]);(try rw [a2]);(try rw [a3]);(try rw [a4]);(try rw [a5]);(try rw [a6]);(try rw [a7]);(try rw [a8]);(try rw [a9]);(try rw [a10]); kernel_rfl
theorem body : behindTheImports pwL = c1 ++ (c2 ++ (c3 ++ (c4 ++ (c5 ++ (c6 ++ (c7 ++ (c8 ++ (c9 ++ (c10 ++ (c11 ++ (c12 ++ (c13 ++ ([]))))))))))))) := by
  (try rw [a6]);(try rw [a7]);(try rw [a8]);(try rw [a9]);(try rw [a10]); kernel_rfl
theorem run (w : World) (os : OsState) : topRun treeTable pwL w 11 ann (12 + (1 + (196 + (214 + (214 + (214 + (214 + (214 + (214 + (214 + (394 + (388 + (378 + (393 + (117 + (2)))))))))))))))) ⟨boot_heap w.params,⟨[]⟩,boot_drawn,boot_toks,os⟩ (topStub pwL) = some (SF w os) :=
  go_top (pre w os) (piece_block (blk w os) (by rw [body]; exact piece_app (segRun_of (p1 w os)) (piece_app (segRun_of (p2 w os)) (piece_app (segRun_of (p3 w os)) (piece_app (segRun_of (p4 w os)) (piece_app (segRun_of (p5 w os)) (piece_app (segRun_of (p6 w os)) (piece_app (segRun_of (p7 w os)) (piece_app (segRun_of (p8 w os)) (piece_app (segRun_of (p9 w os)) (piece_app (segRun_of (p10 w os)) (piece_app (segRun_of (p11 w os)) (piece_app (segRun_of (p12 w os)) (piece_app (segRun_of (p13 w os)) (piece_nil (fin w os))))))))))))))))
theorem size (w : World) : ((boot_heap w.params).isNs mainGlobals && (Array.mk ([] : List GenState)).size == 0,(boot_heap w.params).objs.size,(boot_heap w.params).nsMap mainGlobals "__annotations__") = (true,11,ann) := by
  (try rw [a11]);(try rw [a12]);(try rw [a13]); kernel_rfl
abbrev Xt (s : Shared) : Bool := xlAt q [] s && recOk [] s
theorem lk1 (w : World) (os : OsState) : (staticsOk (importedModules pwL.main.body) (boot_heap w.params) (HF w.params) && namesBound pwL (HF w.params) && gensDone (SF w os) && laidKept (boot_heap w.params) (HF w.params)) = true := by
  (try rw [a11]);(try rw [a12]);(try rw [a13]);(try rw [a6]);(try rw [a7]);(try rw [a8]);(try rw [a9]);(try rw [a10]); kernel_rfl
theorem lk2 (w : World) (os : OsState) : openSeen q [] (importedModules pwL.main.body) Xt true (SF w os) = openGood q [] := by
  (try rw [a11]);(try rw [a12]);(try rw [a13]);(try rw [a6]);(try rw [a7]);(try rw [a8]);(try rw [a9]);(try rw [a10]); kernel_rfl
theorem lk3 (w : World) (os : OsState) : PySem.W.X.obsZ as (SF w os) = PySem.W.X.valZ K 408 743 w := by
  (try rw [a11]);(try rw [a12]);(try rw [a13]);(try rw [a6]);(try rw [a7]);(try rw [a8]);(try rw [a9]);(try rw [a10]); kernel_rfl
theorem imports : opening pwL = plainProg pwL.main.scope.names := by kernel_rfl
theorem left : LeftO pwL q [] Xt (PySem.W.X.obsZ as) (PySem.W.X.valZ K 408 743) 6828 :=
  LeftO.of_pieces (boot_open imports (by rfl) (fun s => by kernel_rfl)) size run (by rfl) fun w => funext fun os => looks_pair (lk1 w os) (looks_pair (lk2 w os) (lk3 w os))
end
end H
end K46
open PySem PySem.W PyProof.Rows
set_option maxRecDepth 100000 in
set_option maxHeartbeats 0 in
theorem PySem.Challenge.cw_nextbyrule_k46_no_closed_forms_holds : PySem.Challenge.rw_nextbyrule_k46_no_closed_forms.Holds := by
  change K46.rwL.Holds
  w_on; o_law; rename_i said
  refine holds_openX (d := ?d) (kwd := ?kwd) K46.H.left (fun s h => xl_of s (Bool.and_eq_true_iff.mp h).1) XL.keeps (by rfl) (by rfl) (by rfl) (fun s h => recFacts_of (Bool.and_eq_true_iff.mp h).2) (by rfl) said (by decide +kernel) ⟨rfl,rfl,rfl,rfl,rfl,by decide +kernel⟩ ?hw ?hc
  case hw => w_witness2
  k_fill
  refine L2.walkX_of (fun _ => by kernel_rfl) ?_
  refine L2.walk_of (l := K46.rwL) (n := 63) (k := K46.KLAW) (x := "_law_script") (CX := fun w => L2.Flown K46.rwL.prog w) (sp := fun _ => K46.spLaw _) rfl (by decide) rfl ⟨rfl,by decide,by decide⟩ (fun w h Y => Y) ?F (fun w H a ns hl _ hS => ⟨a,ns,rfl,hS,hl,fun _ => rfl⟩) (fun _ _ _ _ _ z => L2.flown_none z)
  case F =>
    intro w mg fa h KX G hmg
    refine' K46.all_mk KX G hmg ?F0 ?F1 ?F2 ?F3 ?F4 ?F5 ?F6 ?F7 ?F8 ?F9 ?F10 ?F11 ?F12 ?F13 ?F14 ?F15 ?F16 ?F17 ?F18 ?F19 ?F20 ?F21 ?F22 ?F23 ?F24 ?F25 ?F26 ?F27 ?F28 ?F29 ?F30 ?F31 ?F32 ?F33 ?F34 ?F35 ?F36 ?F37 ?F38 ?F39 ?F40 ?F41 ?FL ?z_ValueError ?z_abs ?z_any ?z_int ?z_isinstance ?z_len ?z_list ?z_max ?z_range ?z_reversed ?z_sum ?z_tuple ?g_ABOVE_ALL_NUMBERS ?g_BELOW_THE_PRIMES ?n_NoBy ?n_NoName ?n_NoNumber ?n_NoRow ?n_NoText ?n_RuleError ?n_TooBig ?n_TooFar ?n_TooLong ?q_NoBy ?u_NoBy_RuleError ?v_NoBy_RuleError ?w1_NoBy ?w2_NoBy ?w3_NoBy ?w4_NoBy ?w5_NoBy ?w6_NoBy ?k_NoBy_NoBy ?k_NoBy_NoName ?k_NoBy_NoNumber ?k_NoBy_NoRow ?k_NoBy_NoText ?k_NoBy_RuleError ?k_NoBy_TooBig ?k_NoBy_TooFar ?k_NoBy_TooLong ?k_NoBy_ValueError ?q_TooBig ?u_TooBig_RuleError ?v_TooBig_RuleError ?w1_TooBig ?w2_TooBig ?w3_TooBig ?w4_TooBig ?w5_TooBig ?w6_TooBig ?k_TooBig_NoBy ?k_TooBig_NoName ?k_TooBig_NoNumber ?k_TooBig_NoRow ?k_TooBig_NoText ?k_TooBig_RuleError ?k_TooBig_TooBig ?k_TooBig_TooFar ?k_TooBig_TooLong ?k_TooBig_ValueError
    (case F0 => (refine' L2.fnIn_mk ?a ?l ?c ?k; (case a => k_is); (case l => k_is); (case c => k_is); (case k => k_is)))
    (case F1 => (refine' L2.fnIn_mk ?a ?l ?c ?k; (case a => k_is); (case l => k_is); (case c => k_is); (case k => k_is)))
    (case F2 => (refine' L2.fnIn_mk ?a ?l ?c ?k; (case a => k_is); (case l => k_is); (case c => k_is); (case k => k_is)))
    (case F3 => (refine' L2.fnIn_mk ?a ?l ?c ?k; (case a => k_is); (case l => k_is); (case c => k_is); (case k => k_is)))
    (case F4 => (refine' L2.fnIn_mk ?a ?l ?c ?k; (case a => k_is); (case l => k_is); (case c => k_is); (case k => k_is)))
    (case F5 => (refine' L2.fnIn_mk ?a ?l ?c ?k; (case a => k_is); (case l => k_is); (case c => k_is); (case k => k_is)))
    (case F6 => (refine' L2.fnIn_mk ?a ?l ?c ?k; (case a => k_is); (case l => k_is); (case c => k_is); (case k => k_is)))
    (case F7 => (refine' L2.fnIn_mk ?a ?l ?c ?k; (case a => k_is); (case l => k_is); (case c => k_is); (case k => k_is)))
    (case F8 => (refine' L2.fnIn_mk ?a ?l ?c ?k; (case a => k_is); (case l => k_is); (case c => k_is); (case k => k_is)))
    (case F9 => (refine' L2.fnIn_mk ?a ?l ?c ?k; (case a => k_is); (case l => k_is); (case c => k_is); (case k => k_is)))
    (case F10 => (refine' L2.fnIn_mk ?a ?l ?c ?k; (case a => k_is); (case l => k_is); (case c => k_is); (case k => k_is)))
    (case F11 => (refine' L2.fnIn_mk ?a ?l ?c ?k; (case a => k_is); (case l => k_is); (case c => k_is); (case k => k_is)))
    (case F12 => (refine' L2.fnIn_mk ?a ?l ?c ?k; (case a => k_is); (case l => k_is); (case c => k_is); (case k => k_is)))
    (case F13 => (refine' L2.fnIn_mk ?a ?l ?c ?k; (case a => k_is); (case l => k_is); (case c => k_is); (case k => k_is)))
    (case F14 => (refine' L2.fnIn_mk ?a ?l ?c ?k; (case a => k_is); (case l => k_is); (case c => k_is); (case k => k_is)))
    (case F15 => (refine' L2.fnIn_mk ?a ?l ?c ?k; (case a => k_is); (case l => k_is); (case c => k_is); (case k => k_is)))
    (case F16 => (refine' L2.fnIn_mk ?a ?l ?c ?k; (case a => k_is); (case l => k_is); (case c => k_is); (case k => k_is)))
    (case F17 => (refine' L2.fnIn_mk ?a ?l ?c ?k; (case a => k_is); (case l => k_is); (case c => k_is); (case k => k_is)))
    (case F18 => (refine' L2.fnIn_mk ?a ?l ?c ?k; (case a => k_is); (case l => k_is); (case c => k_is); (case k => k_is)))
    (case F19 => (refine' L2.fnIn_mk ?a ?l ?c ?k; (case a => k_is); (case l => k_is); (case c => k_is); (case k => k_is)))
    (case F20 => (refine' L2.fnIn_mk ?a ?l ?c ?k; (case a => k_is); (case l => k_is); (case c => k_is); (case k => k_is)))
    (case F21 => (refine' L2.fnIn_mk ?a ?l ?c ?k; (case a => k_is); (case l => k_is); (case c => k_is); (case k => k_is)))
    (case F22 => (refine' L2.fnIn_mk ?a ?l ?c ?k; (case a => k_is); (case l => k_is); (case c => k_is); (case k => k_is)))
    (case F23 => (refine' L2.fnIn_mk ?a ?l ?c ?k; (case a => k_is); (case l => k_is); (case c => k_is); (case k => k_is)))
    (case F24 => (refine' L2.fnIn_mk ?a ?l ?c ?k; (case a => k_is); (case l => k_is); (case c => k_is); (case k => k_is)))
    (case F25 => (refine' L2.fnIn_mk ?a ?l ?c ?k; (case a => k_is); (case l => k_is); (case c => k_is); (case k => k_is)))
    (case F26 => (refine' L2.fnIn_mk ?a ?l ?c ?k; (case a => k_is); (case l => k_is); (case c => k_is); (case k => k_is)))
    (case F27 => (refine' L2.fnIn_mk ?a ?l ?c ?k; (case a => k_is); (case l => k_is); (case c => k_is); (case k => k_is)))
    (case F28 => (refine' L2.fnIn_mk ?a ?l ?c ?k; (case a => k_is); (case l => k_is); (case c => k_is); (case k => k_is)))
    (case F29 => (refine' L2.fnIn_mk ?a ?l ?c ?k; (case a => k_is); (case l => k_is); (case c => k_is); (case k => k_is)))
    (case F30 => (refine' L2.fnIn_mk ?a ?l ?c ?k; (case a => k_is); (case l => k_is); (case c => k_is); (case k => k_is)))
    (case F31 => (refine' L2.fnIn_mk ?a ?l ?c ?k; (case a => k_is); (case l => k_is); (case c => k_is); (case k => k_is)))
    (case F32 => (refine' L2.fnIn_mk ?a ?l ?c ?k; (case a => k_is); (case l => k_is); (case c => k_is); (case k => k_is)))
    (case F33 => (refine' L2.fnIn_mk ?a ?l ?c ?k; (case a => k_is); (case l => k_is); (case c => k_is); (case k => k_is)))
    (case F34 => (refine' L2.fnIn_mk ?a ?l ?c ?k; (case a => k_is); (case l => k_is); (case c => k_is); (case k => k_is)))
    (case F35 => (refine' L2.fnIn_mk ?a ?l ?c ?k; (case a => k_is); (case l => k_is); (case c => k_is); (case k => k_is)))
    (case F36 => (refine' L2.fnIn_mk ?a ?l ?c ?k; (case a => k_is); (case l => k_is); (case c => k_is); (case k => k_is)))
    (case F37 => (refine' L2.fnIn_mk ?a ?l ?c ?k; (case a => k_is); (case l => k_is); (case c => k_is); (case k => k_is)))
    (case F38 => (refine' L2.fnIn_mk ?a ?l ?c ?k; (case a => k_is); (case l => k_is); (case c => k_is); (case k => k_is)))
    (case F39 => (refine' L2.fnIn_mk ?a ?l ?c ?k; (case a => k_is); (case l => k_is); (case c => k_is); (case k => k_is)))
    (case F40 => (refine' L2.fnIn_mk ?a ?l ?c ?k; (case a => k_is); (case l => k_is); (case c => k_is); (case k => k_is)))
    (case F41 => (refine' L2.fnIn_mk ?a ?l ?c ?k; (case a => k_is); (case l => k_is); (case c => k_is); (case k => k_is)))
    (case FL => (refine' L2.fnIn_mk ?a ?l ?c ?k; (case a => k_is); (case l => k_is); (case c => k_is); (case k => k_is)))
    (case z_ValueError => k_is)
    (case z_abs => k_is)
    (case z_any => k_is)
    (case z_int => k_is)
    (case z_isinstance => k_is)
    (case z_len => k_is)
    (case z_list => k_is)
    (case z_max => k_is)
    (case z_range => k_is)
    (case z_reversed => k_is)
    (case z_sum => k_is)
    (case z_tuple => k_is)
    (case g_ABOVE_ALL_NUMBERS => exact ⟨_,by k_is⟩)
    (case g_BELOW_THE_PRIMES => exact ⟨_,by k_is⟩)
    (case n_NoBy => k_is)
    (case n_NoName => k_is)
    (case n_NoNumber => k_is)
    (case n_NoRow => k_is)
    (case n_NoText => k_is)
    (case n_RuleError => k_is)
    (case n_TooBig => k_is)
    (case n_TooFar => k_is)
    (case n_TooLong => k_is)
    (case q_NoBy => k_exc)
    (case u_NoBy_RuleError => kernel_rfl)
    (case v_NoBy_RuleError => kernel_rfl)
    (case w1_NoBy => k_is)
    (case w2_NoBy => k_is)
    (case w3_NoBy => k_is)
    (case w4_NoBy => k_is)
    (case w5_NoBy => k_is)
    (case w6_NoBy => kernel_rfl)
    (case k_NoBy_NoBy => kit_is)
    (case k_NoBy_NoName => kit_is)
    (case k_NoBy_NoNumber => kit_is)
    (case k_NoBy_NoRow => kit_is)
    (case k_NoBy_NoText => kit_is)
    (case k_NoBy_RuleError => kit_is)
    (case k_NoBy_TooBig => kit_is)
    (case k_NoBy_TooFar => kit_is)
    (case k_NoBy_TooLong => kit_is)
    (case k_NoBy_ValueError => kit_is)
    (case q_TooBig => k_exc)
    (case u_TooBig_RuleError => kernel_rfl)
    (case v_TooBig_RuleError => kernel_rfl)
    (case w1_TooBig => k_is)
    (case w2_TooBig => k_is)
    (case w3_TooBig => k_is)
    (case w4_TooBig => k_is)
    (case w5_TooBig => k_is)
    (case w6_TooBig => kernel_rfl)
    (case k_TooBig_NoBy => kit_is)
    (case k_TooBig_NoName => kit_is)
    (case k_TooBig_NoNumber => kit_is)
    (case k_TooBig_NoRow => kit_is)
    (case k_TooBig_NoText => kit_is)
    (case k_TooBig_RuleError => kit_is)
    (case k_TooBig_TooBig => kit_is)
    (case k_TooBig_TooFar => kit_is)
    (case k_TooBig_TooLong => kit_is)
    (case k_TooBig_ValueError => kit_is)
