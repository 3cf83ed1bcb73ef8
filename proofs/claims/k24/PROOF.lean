import PyProof.Rows.All
import Wide.All
import OpenK.AllK
import Wide.FinOn
import Lean
import PyProof.EqAt
import PyProof.EqKinds
import PyProof.TupleCall
import PySem.Challenge.RW_nextbyrule_k24_rules_found_again
local macro_rules | `(tactic| omega) => `(tactic| lia)
set_option Elab.async false
set_option linter.all false
set_option maxRecDepth 100000
namespace L2
open PySem PySem.Spec PyProof.Rows
noncomputable abbrev Key := Sum Int Str
noncomputable def keyIs : Key → Value → Bool
  | .inl k,v => Value.isInt k v
  | .inr x,v => Value.isStrOf x v
noncomputable def keyH (w : World) : Key → Int
  | .inl k => hashInt k
  | .inr x => hashStr w x
theorem keyIs_shape : ∀ {k : Key} {v : Value},keyIs k v = true → (∃ i t,k = Sum.inl i ∧ v = Value.int i t) ∨ (∃ x t,k = Sum.inr x ∧ v = Value.str x t)
  | .inl i,v,h => by
    obtain ⟨t,e⟩ := Value.isInt_shape (k := i) (v := v) h
    exact .inl ⟨i,t,rfl,e⟩
  | .inr x,v,h => by
    obtain ⟨t,e⟩ := Value.isStrOf_shape (x := x) (v := v) h
    exact .inr ⟨x,t,rfl,e⟩
theorem key_ll (a b : Int) : decide ((Sum.inl a : Key) = Sum.inl b) = (a == b) := by
  by_cases e : a = b
  · subst e; simp
  · have h : ¬ (Sum.inl a : Key) = Sum.inl b := fun q => e (Sum.inl.inj q)
    rw [decide_eq_false h]
    exact (beq_eq_false_iff_ne.mpr e).symm
theorem key_rr (a b : Str) : decide ((Sum.inr a : Key) = Sum.inr b) = decide (a = b) := by
  by_cases e : a = b
  · subst e; simp
  · have h : ¬ (Sum.inr a : Key) = Sum.inr b := fun q => e (Sum.inr.inj q)
    rw [decide_eq_false h,decide_eq_false e]
theorem key_lr (a : Int) (b : Str) : decide ((Sum.inl a : Key) = Sum.inr b) = false := decide_eq_false (fun q => nomatch q)
theorem key_rl (a : Str) (b : Int) : decide ((Sum.inr a : Key) = Sum.inl b) = false := decide_eq_false (fun q => nomatch q)
noncomputable def mixKind (prog : Program) (w : World) : PySem.KeyKind prog w Key where
  is := keyIs
  hash := keyH w
  inj := fun v a b ha hb => by
    rcases keyIs_shape ha with ⟨i,t,rfl,rfl⟩ | ⟨x,t,rfl,rfl⟩
    · rcases keyIs_shape hb with ⟨j,u,rfl,e⟩ | ⟨y,u,rfl,e⟩
      · injection e with e1 _; rw [e1]
      · exact nomatch e
    · rcases keyIs_shape hb with ⟨j,u,rfl,e⟩ | ⟨y,u,rfl,e⟩
      · exact nomatch e
      · injection e with e1 _; rw [e1]
  byValue := fun k v h => by
    rcases keyIs_shape h with ⟨i,t,rfl,rfl⟩ | ⟨x,t,rfl,rfl⟩ <;> rfl
  pyHash := fun hv h => by
    rcases keyIs_shape hv with ⟨i,t,rfl,rfl⟩ | ⟨x,t,rfl,rfl⟩
    · exact wpAny_pyHash_int h
    · exact wpAny_pyHash_str h
  eqBool := fun hu hv h => by
    rcases keyIs_shape hu with ⟨i,t,rfl,rfl⟩ | ⟨x,t,rfl,rfl⟩
    · rcases keyIs_shape hv with ⟨j,u,rfl,rfl⟩ | ⟨y,u,rfl,rfl⟩
      · rw [key_ll] at h; exact wpAny_eqBool_int h
      · rw [key_lr] at h; exact SeqAt.EqAt.int_str i t y u _ _ _ _ h
    · rcases keyIs_shape hv with ⟨j,u,rfl,rfl⟩ | ⟨y,u,rfl,rfl⟩
      · rw [key_rl] at h; exact SeqAt.EqAt.str_int x t j u _ _ _ _ h
      · rw [key_rr] at h; exact wpAny_eqBool_str h
  «strs» := fun k x t v h => by
    rcases keyIs_shape h with ⟨i,u,rfl,e⟩ | ⟨y,u,rfl,e⟩
    · exact nomatch e
    · injection e with e1 _
      subst e1
      cases v <;> rfl
end L2
namespace L2
open PySem PySem.Spec PyProof.Rows
inductive V where
  | non | bl (b : Bool) | int (i : Int) | str (x : Str) | byt (b : Array UInt8) | flt (b : UInt64) | ref (a : Addr) | ty (n : String)
  deriving DecidableEq
noncomputable def RelV : V → Value → Prop
  | .non,u => u = Value.none
  | .bl b,u => u = Value.bool b
  | .int i,u => ∃ t,u = Value.int i t
  | .str x,u => ∃ t,u = Value.str x t
  | .byt b,u => ∃ t,u = Value.bytes b t
  | .flt b,u => ∃ t,u = Value.float b t
  | .ref a,u => u = Value.ref a
  | .ty n,u => u = Value.type n
noncomputable abbrev Vals : List V → List Value → Prop := Paired RelV
theorem Vals.length {xs : List V} {us : List Value} (r : Vals xs us) : xs.length = us.length := Paired.length r
theorem Vals.get : ∀ {xs : List V} {us : List Value} {i : Nat} {x : V},Vals xs us → xs[i]? = some x → ∃ u,us[i]? = some u ∧ RelV x u
  | _,_,_,_,.nil,e => by simp at e
  | _,_,0,_,.cons r _,e => by simp at e; subst e; exact ⟨_,rfl,r⟩
  | _,_,i + 1,x,.cons _ t,e => by
    obtain ⟨u,h1,h2⟩ := Vals.get (i := i) (x := x) t (by simpa using e)
    exact ⟨u,by simpa using h1,h2⟩
theorem Vals.set {x : V} {u : Value} (r : RelV x u) : ∀ {xs : List V} {us : List Value} (i : Nat),Vals xs us → Vals (xs.set i x) (us.set i u)
  | _,_,_,.nil => .nil
  | _,_,0,.cons _ t => .cons r t
  | _,_,i + 1,.cons q t => .cons q (Vals.set r i t)
theorem Vals.append : ∀ {xs ys : List V} {us ws : List Value},Vals xs us → Vals ys ws → Vals (xs ++ ys) (us ++ ws)
  | _,_,_,_,.nil,s => s
  | _,_,_,_,.cons r t,s => .cons r (Vals.append t s)
theorem Vals.take : ∀ {xs : List V} {us : List Value} (n : Nat),Vals xs us → Vals (xs.take n) (us.take n)
  | _,_,0,_ => .nil
  | _,_,_ + 1,.nil => .nil
  | _,_,n + 1,.cons r t => .cons r (Vals.take n t)
theorem Vals.drop : ∀ {xs : List V} {us : List Value} (n : Nat),Vals xs us → Vals (xs.drop n) (us.drop n)
  | _,_,0,r => r
  | _,_,_ + 1,.nil => .nil
  | _,_,n + 1,.cons _ t => Vals.drop n t
noncomputable def RelO : Option V → Option Value → Prop
  | some v,some u => RelV v u
  | none,none => True
  | _,_ => False
noncomputable def KV {κ : Type} : List (κ × V) → List (κ × Value) → Prop := Paired fun (p : κ × V) (q : κ × Value) => p.1 = q.1 ∧ RelV p.2 q.2
noncomputable def kV : Key → V
  | .inl i => .int i
  | .inr x => .str x
inductive HO where
  /-- a list -/
  | lst (xs : List V)
  /-- a tuple (never changes) -/
  | tup (xs : List V)
  /-- a dict whose keys are ints and texts; one whose keys are tuples of ints and texts (the empty one is both) -/
  | dK (kvs : List (Key × V)) | dT (kvs : List (List Key × V))
  /-- a set of ints: its members,its size -/
  | set (S : Int → Bool) (n : Nat)
  /-- an instance of the class at C,its dict at dx,its attributes -/
  | ins (C dx : Addr) (fs : List (Str × V))
  /-- the dict of the instance at x -/
  | own (x : Addr)
  /-- the dict of an exception -/
  | xd (fs : List (Str × V))
  /-- a bound method,f of x -/
  | met (f x : Addr)
  /-- a range object lo,lo + 1,.. below hi -/
  | rng (lo hi : Int)
  /-- a thing that is known to the object (the script; a dict while a loop walks it): read,never written while it is so -/
  | frz (o : Obj) (u : HO)
  /-- a code object's table -/
  | tbl (ps : Array Value)
  /-- any other thing,by what is true of its one object (a def of one's own: SetO a S n := HO.ext fun h => ..) -/
  | ext (φ : Heap → Prop)
noncomputable abbrev Hp := Addr → Option HO
noncomputable def upd (H : Hp) (a : Addr) (o : HO) : Hp := fun b => if b = a then some o else H b
theorem upd_same {H : Hp} {a : Addr} {o : HO} : upd H a o a = some o := by unfold upd; rw [if_pos rfl]
theorem upd_ne {H : Hp} {a b : Addr} {o : HO} (h : b ≠ a) : upd H a o b = H b := by unfold upd; rw [if_neg h]
theorem upd_upd {H : Hp} {a : Addr} {o u : HO} : upd (upd H a o) a u = upd H a u := by
  funext b; unfold upd; split <;> rfl
theorem ne_of_none {H : Hp} {a b : Addr} {o : HO} (h : H a = some o) (h' : H b = none) : a ≠ b := by
  intro e; subst e; rw [h] at h'; cases h'
section
variable (P : Program) (w : World)
noncomputable def ObjOk (H : Hp) (h : Heap) (a : Addr) : HO → Prop
  | .lst xs => xs.length ≤ sizeLine ∧ ∃ (its : List Value) (n : Nat),Vals xs its ∧ h.get? a = some { cls := .type "list",data := .seq its.toArray n }
  | .tup xs => xs.length ≤ sizeLine ∧ ∃ its : List Value,Vals xs its ∧ IsTup h a its.toArray
  | .dK kvs => kvs.length ≤ sizeLine ∧ (a == sysModules) = false ∧ ∃ vs,KV kvs vs ∧ h.DictOf (mixKind P w) a vs
  | .dT kvs => kvs.length ≤ sizeLine ∧ (a == sysModules) = false ∧ ∃ xs : List (List Key × Addr × Value),
      Paired (fun (p : List Key × V) (q : List Key × Addr × Value) => p.1 = q.1 ∧ H q.2.1 = some (.tup (p.1.map kV)) ∧ RelV p.2 q.2.2) kvs xs ∧
      ∃ o es ep,h.get? a = some o ∧ o.ExactDict ∧ o.data = .dict es ep ∧ es.toList = xs.map (entryOfKey (tupleKind (mixKind P w))) ∧ (xs.map (·.1)).Nodup
  | .set S n => h.SetOf (intKind P w) a S n
  | .ins C dx fs => H dx = some (.own a) ∧ fs.length ≤ 1000 ∧ dx ≠ a ∧ h.get? a = some (PySem.W.instObj C dx) ∧
      ∃ mA,h.Ns1 dx mA ∧ (∀ f,RelO (fs.lookup f) (mA f)) ∧ PySem.Within mA (fs.map (·.1))
  | .own _ => ∃ o,h.get? a = some o
  | .xd fs => ∃ mA,h.Ns1 a mA ∧ ∀ f,RelO (fs.lookup f) (mA f)
  | .rng lo hi => ∃ t u v,h.get? a = some { cls := .type "range",data := .fields #[.int lo t,.int hi u,.int 1 v] }
  | .frz o u => h.get? a = some o ∧ ObjOk H h a u
  | .tbl ps => h.get? a = some { cls := .none,data := .fields ps }
  | .met f x => h.get? a = some (PySem.W.methodObj (.ref f) (.ref x))
  | .ext φ => φ h ∧ (∃ o,h.get? a = some o) ∧ ∀ h1 h2 : Heap,φ h1 → (∀ o,h1.get? a = some o → h2.get? a = some o) → φ h2
noncomputable def HOk (H : Hp) (h : Heap) : Prop := ∀ a o,H a = some o → ObjOk P w H h a o
end
section
variable {P : Program} {w : World} {H H' : Hp} {h h' : Heap} {a : Addr} {o : HO}
theorem ObjOk.lt (x : ObjOk P w H h a o) : a < h.objs.size := by
  cases o with
  | lst xs => obtain ⟨_,_,_,_,e⟩ := x; exact Heap.lt_size e
  | tup xs => obtain ⟨_,_,_,p⟩ := x; exact p.lt
  | dK kvs => obtain ⟨_,_,_,_,o,_,_,e,_⟩ := x; exact Heap.lt_size e
  | dT kvs => obtain ⟨_,_,_,_,o,_,_,e,_⟩ := x; exact Heap.lt_size e
  | set S n => obtain ⟨o,_,_,_,e,_⟩ := x; exact Heap.lt_size e
  | ins C dx fs => obtain ⟨_,_,_,e,_⟩ := x; exact Heap.lt_size e
  | own y => obtain ⟨_,e⟩ := x; exact Heap.lt_size e
  | xd fs => obtain ⟨_,⟨_,_,_,e,_⟩,_⟩ := x; exact Heap.lt_size e
  | rng lo hi => obtain ⟨_,_,_,e⟩ := x; exact Heap.lt_size e
  | frz ob u => obtain ⟨e,_⟩ := x; exact Heap.lt_size e
  | tbl ps => exact Heap.lt_size (show h.get? a = some _ from x)
  | met f y => exact Heap.lt_size (show h.get? a = some _ from x)
  | ext φ => obtain ⟨_,⟨_,e⟩,_⟩ := x; exact Heap.lt_size e
theorem Paired.mapP {α β : Type} {F G : α → β → Prop} : ∀ {l₁ : List α} {l₂ : List β},Paired F l₁ l₂ → (∀ a b,F a b → G a b) → Paired G l₁ l₂
  | _,_,.nil,_ => .nil
  | _,_,.cons r t,f => .cons (f _ _ r) (Paired.mapP t f)
theorem ObjOk.stay (x : ObjOk P w H h a o) (k : ∀ b u,(b = a ∨ H b = some (.own a)) → h.get? b = some u → h'.get? b = some u)
    (ho : ∀ b,H b = some (.own a) → H' b = some (.own a)) (ht : ∀ b xs,H b = some (.tup xs) → H' b = some (.tup xs)) : ObjOk P w H' h' a o := by
  induction o with
  | lst xs => obtain ⟨z,its,n,r,e⟩ := x; exact ⟨z,its,n,r,k _ _ (.inl rfl) e⟩
  | tup xs => obtain ⟨z,its,r,ob,e,c⟩ := x; exact ⟨z,its,r,ob,k _ _ (.inl rfl) e,c⟩
  | dK kvs => obtain ⟨z,y,vs,r,ob,es,ep,e,c⟩ := x; exact ⟨z,y,vs,r,ob,es,ep,k _ _ (.inl rfl) e,c⟩
  | dT kvs =>
    obtain ⟨z,y,xs,r,ob,es,ep,e,c⟩ := x
    exact ⟨z,y,xs,Paired.mapP r fun p q z => ⟨z.1,ht _ _ z.2.1,z.2.2⟩,ob,es,ep,k _ _ (.inl rfl) e,c⟩
  | set S n => obtain ⟨ob,es,ep,t,e,c⟩ := x; exact ⟨ob,es,ep,t,k _ _ (.inl rfl) e,c⟩
  | ins C dx fs =>
    obtain ⟨d,z,ne,e,mA,⟨od,es,ep,e2,c⟩,r⟩ := x
    exact ⟨ho _ d,z,ne,k _ _ (.inl rfl) e,mA,⟨od,es,ep,k _ _ (.inr d) e2,c⟩,r⟩
  | own y => obtain ⟨ob,e⟩ := x; exact ⟨ob,k _ _ (.inl rfl) e⟩
  | xd fs => obtain ⟨mA,⟨od,es,ep,e,c⟩,r⟩ := x; exact ⟨mA,⟨od,es,ep,k _ _ (.inl rfl) e,c⟩,r⟩
  | rng lo hi => obtain ⟨t,u,v,e⟩ := x; exact ⟨t,u,v,k _ _ (.inl rfl) e⟩
  | frz ob u ih => obtain ⟨e,q⟩ := x; exact ⟨k _ _ (.inl rfl) e,ih q⟩
  | tbl ps =>
    have e : h.get? a = some { cls := .none,data := .fields ps } := x
    show h'.get? a = some { cls := .none,data := .fields ps }
    exact k a _ (.inl rfl) e
  | met f y =>
    have e : h.get? a = some (PySem.W.methodObj (.ref f) (.ref y)) := x
    show h'.get? a = some (PySem.W.methodObj (.ref f) (.ref y))
    exact k a _ (.inl rfl) e
  | ext φ => obtain ⟨p,⟨o,e⟩,st⟩ := x; exact ⟨st _ _ p fun o q => k _ _ (.inl rfl) q,⟨o,k _ _ (.inl rfl) e⟩,st⟩
theorem HOk.lt (x : HOk P w H h) (e : H a = some o) : a < h.objs.size := (x a o e).lt
theorem HOk.fresh (x : HOk P w H h) (e : h.objs.size ≤ a) : H a = none := by
  cases q : H a with
  | none => rfl
  | some u => exact absurd (Nat.lt_of_lt_of_le (x.lt q) e) (Nat.lt_irrefl _)
theorem HOk.kept (x : HOk P w H h) (k : ∀ b u,h.get? b = some u → h'.get? b = some u) : HOk P w H h' := fun a o e =>
  (x a o e).stay (fun b u _ q => k b u q) (fun _ q => q) fun _ _ q => q
theorem HOk.laid (x : HOk P w H h) (k : ∀ b u,h.get? b = some u → h'.get? b = some u) (hp : h.objs.size ≤ a) (new : ObjOk P w (upd H a o) h' a o) : HOk P w (upd H a o) h' := fun b u e => by
  have hn := x.fresh hp
  by_cases hb : b = a
  · subst hb; rw [upd_same] at e; cases e; exact new
  · rw [upd_ne hb] at e
    exact (x b u e).stay (fun c v _ q => k c v q) (fun c q => by rw [upd_ne (ne_of_none q hn)]; exact q) fun c xs q => by rw [upd_ne (ne_of_none q hn)]; exact q
end
noncomputable def Rd (H : Hp) (a : Addr) (u : HO) : Prop := H a = some u ∨ ∃ o,H a = some (.frz o u)
theorem Rd.ok {P : Program} {w : World} {H : Hp} {h : Heap} {a : Addr} {u : HO} (r : Rd H a u) (x : HOk P w H h) : ObjOk P w H h a u := by
  rcases r with r | ⟨o,r⟩
  · exact x a u r
  · obtain ⟨_,q⟩ := x a _ r
    exact q
noncomputable def Mut : Option HO → Prop
  | some (.lst _) => True
  | some (.dK _) => True
  | some (.dT _) => True
  | some (.set _ _) => True
  | some (.ins _ _ _) => True
  | some (.ext _) => True
  | _ => False
section
variable {P : Program} {w : World} {H : Hp} {h h' : Heap} {x e : Addr} {o' : HO}
theorem HOk.write (ok : HOk P w H h) (mu : Mut (H x)) (he : e = x ∨ H e = some (.own x)) (k : ∀ b u,b ≠ e → h.get? b = some u → h'.get? b = some u) (heo : ∃ u,h'.get? e = some u)
    (new : ObjOk P w (upd H x o') h' x o') : HOk P w (upd H x o') h' := fun b u q => by
  have nown : ∀ c y,H c = some (.own y) → c ≠ x := fun c y r z => by subst z; rw [r] at mu; exact mu
  have ntup : ∀ c xs,H c = some (.tup xs) → c ≠ x := fun c xs r z => by subst z; rw [r] at mu; exact mu
  by_cases hb : b = x
  · subst hb; rw [upd_same] at q; cases q; exact new
  · rw [upd_ne hb] at q
    by_cases hbe : b = e
    · have q' : H b = some (.own x) := by
        rcases he with z | z
        · exact absurd (hbe.trans z) hb
        · rw [hbe]; exact z
      rw [q] at q'; cases q'
      obtain ⟨v,hv⟩ := heo
      exact ⟨v,by rw [hbe]; exact hv⟩
    · refine (ok b u q).stay (fun c v hc r => k c v ?_ r) (fun c r => by rw [upd_ne (nown c b r)]; exact r) fun c xs r => by rw [upd_ne (ntup c xs r)]; exact r
      rcases hc with rfl | hc
      · exact hbe
      · rintro rfl
        rcases he with z | z
        · exact nown c b hc z
        · rw [hc] at z; cases z; exact hb rfl
end
structure Un (fs ex : List Addr) (H H' : Hp) (h h' : Heap) : Prop where
  keep : ∀ b o,h.get? b = some o → H b = none → b ∉ fs → b ∉ ex → h'.get? b = some o
  slot : ∀ b o,h.get? b = some o → H b = none → b ∈ fs → b ∉ ex → ∃ sl,h'.get? b = some { o with slots := sl }
  free : ∀ b o,h.get? b = some o → H b = none → b ∉ ex → H' b = none
  there : ∀ b o,h.get? b = some o → b ∉ ex → ∃ o',h'.get? b = some o'
  tups : ∀ b xs,H b = some (.tup xs) → H' b = some (.tup xs)
  frzs : ∀ b o u,H b = some (.frz o u) → H' b = some (.frz o u)
  tbls : ∀ b ps,H b = some (.tbl ps) → ∃ more,H' b = some (.tbl (ps ++ more))
section
variable {fs fs' ex ex' : List Addr} {H H1 H2 : Hp} {h h1 h2 h' : Heap} {a x e : Addr} {o : HO}
theorem Un.any (u : Un fs ex H H1 h h1) {b : Addr} {ob : Obj} (q : h.get? b = some ob) (n : H b = none) (hx : b ∉ ex) : ∃ sl,h1.get? b = some { ob with slots := sl } := by
  by_cases hb : b ∈ fs
  · exact u.slot b ob q n hb hx
  · exact ⟨ob.slots,u.keep b ob q n hb hx⟩
theorem Un.kept (k : ∀ b u,h.get? b = some u → h'.get? b = some u) : Un fs ex H H h h' :=
  ⟨fun b ob q _ _ _ => k b ob q,fun b ob q _ _ _ => ⟨ob.slots,k b ob q⟩,fun _ _ _ n _ => n,fun b ob q _ => ⟨ob,k b ob q⟩,fun _ _ q => q,fun _ _ _ q => q,fun _ ps q => ⟨#[],by rw [q]; simp⟩⟩
theorem Un.refl : Un fs ex H H h h := Un.kept fun _ _ q => q
theorem Un.laid (k : ∀ b u,h.get? b = some u → h'.get? b = some u) (hp : h.objs.size ≤ a) (hn : H a = none) : Un fs ex H (upd H a o) h h' where
  keep := fun b u q _ _ _ => k b u q
  slot := fun b u q _ _ _ => ⟨u.slots,k b u q⟩
  free := fun b u q n _ => by rw [upd_ne (Nat.ne_of_lt (Nat.lt_of_lt_of_le (Heap.lt_size q) hp))]; exact n
  there := fun b u q _ => ⟨u,k b u q⟩
  tups := fun b xs q => by rw [upd_ne (ne_of_none q hn)]; exact q
  frzs := fun b u xs q => by rw [upd_ne (ne_of_none q hn)]; exact q
  tbls := fun b ps q => ⟨#[],by rw [upd_ne (ne_of_none q hn),q]; simp⟩
theorem Un.write (mu : Mut (H x)) (he : e = x ∨ H e = some (.own x)) (k : ∀ b u,b ≠ e → h.get? b = some u → h'.get? b = some u) (heo : ∃ u,h'.get? e = some u) : Un fs ex H (upd H x o) h h' := by
  have hx : ∀ b,H b = none → b ≠ x := fun b n z => by subst z; rw [n] at mu; exact mu
  have hb : ∀ b,H b = none → b ≠ e := fun b n z => by
    subst z
    rcases he with r | r
    · exact hx b n r
    · rw [n] at r; cases r
  have hm : ∀ b u,H b = some u → ¬ Mut (some u) → b ≠ x := fun b u q nm z => by subst z; rw [q] at mu; exact nm mu
  refine ⟨fun b u q n _ _ => k b u (hb b n) q,fun b u q n _ _ => ⟨u.slots,k b u (hb b n) q⟩,fun b u q n _ => by rw [upd_ne (hx b n)]; exact n,fun b u q _ => ?_,
    fun b xs q => by rw [upd_ne (hm b _ q fun z => z)]; exact q,fun b u xs q => by rw [upd_ne (hm b _ q fun z => z)]; exact q,fun b ps q => ⟨#[],by rw [upd_ne (hm b _ q fun z => z),q]; simp⟩⟩
  by_cases hbe : b = e
  · subst hbe; exact heo
  · exact ⟨u,k b u hbe q⟩
end
noncomputable def trk (h : Heap) (H : Hp) : List Addr := (List.range h.objs.size).filter fun a => (H a).isSome
noncomputable def hidT (h : Heap) (H : Hp) : Heap := PySem.W.hideAll h (trk h H)
theorem hidT_size (h : Heap) (H : Hp) : (hidT h H).objs.size = h.objs.size := PySem.W.hideAll_size _ _
theorem hidT_get {h : Heap} {H : Hp} {b : Addr} {o : Obj} (e : h.get? b = some o) (n : H b = none) : (hidT h H).get? b = some o :=
  PySem.W.hideAll_get _ e fun hm => by
    have q : (H b).isSome = true := (List.mem_filter.mp hm).2
    rw [n] at q; simp at q
theorem of_hidT {h : Heap} {H : Hp} {b : Addr} {o : Obj} (e : (hidT h H).get? b = some o) : h.get? b = some o ∧ H b = none := by
  have e' : h.get? b = some o := PySem.W.of_hideAll (trk h H) e
  refine ⟨e',?_⟩
  cases q : H b with
  | none => rfl
  | some x =>
    have hm : b ∈ trk h H := List.mem_filter.mpr ⟨List.mem_range.mpr (Heap.lt_size e'),by simp [q]⟩
    have z : (hidT h H).get? b = none := PySem.W.hideAll_none (trk h H) hm
    rw [z] at e; cases e
end L2
namespace L2
open PySem PySem.Spec PyProof.Rows
structure Mod (K : PySem.W.Frag) (mg : Str → Option Value) (base : Heap) : Prop where
  kin : K.In base
  glob : base.Ns mainGlobals mg
  blt : ∃ mb,base.Ns builtinsNs mb ∧ ∀ x : Str,x ≠ "__name__" → mb x = bootBuiltins x
  nolimit : base.NoLimit
  digits : base.NoDigits
structure Cx where
  prog : Program
  w : World
  K : PySem.W.Frag
  mg : Str → Option Value
  base : Heap
  A : Around
  N : List Str
  s₀ : Shared
  H₀ : Hp
  env : Env
  outer : List Env
  stack : List Env
  ex : List Addr
  fn : Str → Bool
  calm : Bool
  pn : List (Addr × Obj)
  xe : Value → Shared → Prop
noncomputable def frs (l : List Env) : List Addr := l.filterMap (·.frame)
noncomputable abbrev Cx.fs (X : Cx) : List Addr := frs X.outer
noncomputable def Vis (sc : Scope) (x : Str) : Prop := sc.names.lookup x = some .local ∨ sc.names.lookup x = some .cell ∨ sc.names.lookup x = some .free
noncomputable def Loc (sc : Scope) (x : Str) : Prop := sc.names.lookup x = some .local ∨ sc.names.lookup x = some .cell
noncomputable def Look (env : Env) (h : Heap) (m : Str → Option Value) (x : Str) (u : Value) : Prop :=
  (env.kindOf x = some .local ∧ m x = some u) ∨ ((env.kindOf x = some .cell ∨ env.kindOf x = some .free) ∧ ∃ c,env.cells.lookup x = some c ∧ h.IsCell c (some u))
structure Cx.Ok (X : Cx) : Prop where
  mod : Mod X.K X.mg X.base
  kind : X.env.scope.kind = .function
  glob : X.env.globals = mainGlobals
  blt : X.env.builtins = builtinsNs
  above : X.s₀.heap.objs.size ≤ X.env.locals
  inj : ∀ x y c,X.env.cells.lookup x = some c → X.env.cells.lookup y = some c → x = y
  has : ∀ x,(X.env.kindOf x = some .cell ∨ X.env.kindOf x = some .free) → ∃ c,X.env.cells.lookup x = some c
  cab : ∀ x c,X.fn x = true → X.env.cells.lookup x = some c → X.s₀.heap.objs.size ≤ c
  hd : X.calm = true → X.A.handled = none
  frames : X.A.frames = some X.stack
  stk : X.stack = X.outer ∨ (X.stack = X.env :: X.outer ∧ X.env.frame = some X.env.locals)
  exf : ∀ b ∈ X.ex,b ≠ X.env.locals ∧ ∀ x c,X.env.cells.lookup x = some c → c ≠ b
  bs : ∀ b o,X.base.get? b = some o → X.s₀.heap.get? b = some o ∧ X.H₀ b = none
  bsz : X.base.objs.size ≤ X.s₀.heap.objs.size
  noex : ∀ b o,X.base.get? b = some o → b ∉ X.ex
  exfs : ∀ b ∈ X.ex,b ∉ X.fs
  funs : X.s₀.heap.FunFrames X.base X.outer
  frf : ∀ b ∈ X.fs,X.H₀ b = none
structure Inv (X : Cx) (pins : List (Addr × Obj)) (σ : List (Option V)) (H : Hp) (s : Shared) : Prop where
  ok : X.Ok
  os : s.os = X.s₀.os
  bare : AllBare s.gens
  base : Un X.fs X.ex X.H₀ H X.s₀.heap s.heap
  loc : ∃ m,s.heap.Ns X.env.locals m ∧ ∀ (i : Nat) (x : Str) (v : V),X.N[i]? = some x → σ[i]? = some (some v) → Vis X.env.scope x → ∃ u,RelV v u ∧ Look X.env s.heap m x u
  cell : ∀ x c,X.env.cells.lookup x = some c → ∃ v,s.heap.IsCell c v
  free : H X.env.locals = none
  freeC : ∀ x c,X.env.cells.lookup x = some c → H c = none
  pin : ∀ p ∈ X.pn ++ pins,s.heap.get? p.1 = some p.2 ∧ H p.1 = none ∧ p.1 ≠ X.env.locals ∧ p.1 ∉ X.fs ∧ ∀ v,p.2.data ≠ .cell v
  hok : HOk X.prog X.w H s.heap
  len : σ.length = X.N.length
section
variable {X : Cx} {pins : List (Addr × Obj)} {σ : List (Option V)} {H H' : Hp} {s : Shared} {h' : Heap}
theorem Cx.Ok.nofr (ok : X.Ok) {b : Addr} {o : Obj} (e : X.base.get? b = some o) : b ∉ X.fs := fun hb => by
  have := (ok.funs.mem hb).1
  rw [e] at this; cases this
theorem Inv.bs (I : Inv X pins σ H s) : ∀ b o,X.base.get? b = some o → s.heap.get? b = some o ∧ H b = none := fun b o e =>
  ⟨I.base.keep b o (I.ok.bs b o e).1 (I.ok.bs b o e).2 (I.ok.nofr e) (I.ok.noex b o e),I.base.free b o (I.ok.bs b o e).1 (I.ok.bs b o e).2 (I.ok.noex b o e)⟩
theorem Inv.bk (I : Inv X pins σ H s) : ∀ b o,X.base.get? b = some o → s.heap.get? b = some o := fun b o e => (I.bs b o e).1
theorem Inv.mod (I : Inv X pins σ H s) : Mod X.K X.mg X.base := I.ok.mod
theorem Inv.kIn (I : Inv X pins σ H s) : X.K.In s.heap := I.ok.mod.kin.keeps I.bk
theorem Inv.lt (I : Inv X pins σ H s) : X.env.locals < s.heap.objs.size := let ⟨_,hn,_⟩ := I.loc; hn.lt
theorem Inv.sz (I : Inv X pins σ H s) : X.s₀.heap.objs.size ≤ s.heap.objs.size := Nat.le_trans I.ok.above (Nat.le_of_lt I.lt)
theorem Inv.nofs (I : Inv X pins σ H s) {a : Addr} (h : s.heap.objs.size ≤ a) : a ∉ X.fs := fun hb => by
  obtain ⟨_,o,ho,_⟩ := I.ok.funs.mem hb
  exact absurd (Nat.lt_of_lt_of_le (Heap.lt_size ho) (Nat.le_trans I.sz h)) (Nat.lt_irrefl _)
theorem Inv.cne (I : Inv X pins σ H s) : ∀ x c,X.env.cells.lookup x = some c → c ≠ X.env.locals := fun x c e z => by
  obtain ⟨v,o,ho,hd⟩ := I.cell x c e
  obtain ⟨m,⟨o',es,ep,ho',hd',_⟩,_⟩ := I.loc
  rw [z,ho'] at ho; cases ho; rw [hd'] at hd; cases hd
theorem Inv.funs (I : Inv X pins σ H s) : s.heap.FunFrames X.base X.outer := by
  have all : ∀ (l : List Env),(∀ b ∈ frs l,b ∈ X.fs) → X.s₀.heap.FunFrames X.base l → s.heap.FunFrames X.base l := by
    intro l
    induction l with
    | nil => intro _ _; trivial
    | cons env r ih =>
      intro hs hl
      obtain ⟨hk,⟨L,o,hf,hn,ho,hd⟩,hr⟩ := hl
      have hL : L ∈ X.fs := hs L (by unfold frs; rw [List.filterMap_cons,hf]; exact List.mem_cons_self)
      obtain ⟨sl,e⟩ := I.base.slot L o ho (I.ok.frf L hL) hL fun z => I.ok.exfs L z hL
      exact ⟨hk,⟨L,_,hf,hn,e,hd⟩,ih (fun b hb => hs b (by unfold frs; rw [List.filterMap_cons,hf]; exact List.mem_cons_of_mem _ hb)) hr⟩
  exact all X.outer (fun _ hb => hb) I.ok.funs
theorem Inv.stack (I : Inv X pins σ H s) : s.heap.FunFrames X.base X.stack := by
  rcases I.ok.stk with e | ⟨e,hf⟩
  · rw [e]; exact I.funs
  · rw [e]
    obtain ⟨m,hn,_⟩ := I.loc
    refine .cons (by rw [I.ok.kind]; decide) hf hn ?_ I.funs
    exact Heap.get?_none_of_le (Nat.le_trans I.ok.bsz I.ok.above)
theorem Inv.stkSub (I : Inv X pins σ H s) : ∀ b ∈ frs X.stack,b ∈ X.env.locals :: X.fs := fun b hb => by
  rcases I.ok.stk with e | ⟨e,hf⟩
  · rw [e] at hb; exact List.mem_cons_of_mem _ hb
  · rw [e] at hb
    unfold frs at hb
    rw [List.filterMap_cons,hf] at hb
    exact hb
theorem Inv.stkFree (I : Inv X pins σ H s) : ∀ b ∈ frs X.stack,H b = none := fun b hb => by
  rcases List.mem_cons.mp (I.stkSub b hb) with e | hb
  · rw [e]; exact I.free
  · obtain ⟨_,o,ho,_⟩ := I.ok.funs.mem hb
    exact I.base.free b o ho (I.ok.frf b hb) fun z => I.ok.exfs b z hb
theorem Inv.step {g' : Array GenState} {t' : Nat} {d' : Drawn} {ch : List Addr} (I : Inv X pins σ H s)
    (hch : ∀ b ∈ ch,(b ∈ X.ex ∨ X.s₀.heap.objs.size ≤ b) ∧ b ≠ X.env.locals ∧ (∀ x c,X.env.cells.lookup x = some c → c ≠ b) ∧ ∀ p ∈ X.pn ++ pins,p.1 ≠ b)
    (keep : ∀ b o,b ≠ X.env.locals → b ∉ X.fs → b ∉ ch → s.heap.get? b = some o → H b = none → h'.get? b = some o)
    (slot : ∀ b o,b ≠ X.env.locals → b ∈ X.fs → b ∉ ch → s.heap.get? b = some o → H b = none → ∃ sl,h'.get? b = some { o with slots := sl }) (free : ∀ b o,b ∉ ch → s.heap.get? b = some o → H b = none → H' b = none)
    (there : ∀ b o,b ∉ ch → s.heap.get? b = some o → ∃ o',h'.get? b = some o')
    (tups : ∀ b xs,H b = some (.tup xs) → H' b = some (.tup xs)) (frzs : ∀ b o u,H b = some (.frz o u) → H' b = some (.frz o u)) (tbls : ∀ b ps,H b = some (.tbl ps) → ∃ more,H' b = some (.tbl (ps ++ more)))
    (ns : ∀ m,s.heap.Ns X.env.locals m → h'.Ns X.env.locals m) (hok : HOk X.prog X.w H' h') (hg : AllBare g') :
    Inv X pins σ H' { s with heap := h',gens := g',drawn := d',toks := t' } := by
  have neL : ∀ b o,X.s₀.heap.get? b = some o → b ≠ X.env.locals := fun b o e => Nat.ne_of_lt (Nat.lt_of_lt_of_le (Heap.lt_size e) I.ok.above)
  have neC : ∀ b o,X.s₀.heap.get? b = some o → b ∉ X.ex → b ∉ ch := fun b o e hx hb => by
    rcases (hch b hb).1 with z | z
    · exact hx z
    · exact absurd (Nat.lt_of_lt_of_le (Heap.lt_size e) z) (Nat.lt_irrefl _)
  have cellK : ∀ x c,X.env.cells.lookup x = some c → ∀ v,s.heap.IsCell c v → h'.IsCell c v := fun x c e v ⟨o,ho,hd⟩ => by
    have nch : c ∉ ch := fun z => (hch c z).2.2.1 x c e rfl
    by_cases hc : c ∈ X.fs
    · obtain ⟨sl,q⟩ := slot c o (I.cne x c e) hc nch ho (I.freeC x c e)
      exact ⟨_,q,hd⟩
    · exact ⟨o,keep c o (I.cne x c e) hc nch ho (I.freeC x c e),hd⟩
  refine ⟨I.ok,I.os,hg,⟨fun b o e n hb hx => ?_,fun b o e n hb hx => ?_,fun b o e n hx => ?_,fun b o e hx => ?_,fun b xs e => tups b xs (I.base.tups b xs e),fun b o xs e => frzs b o xs (I.base.frzs b o xs e),fun b ps e => ?_⟩,?_,fun x c e => ?_,?_,fun x c e => ?_,fun p hp => ?_,hok,I.len⟩
  · exact keep b o (neL b o e) hb (neC b o e hx) (I.base.keep b o e n hb hx) (I.base.free b o e n hx)
  · obtain ⟨sl,e1⟩ := I.base.slot b o e n hb hx
    obtain ⟨sl',e2⟩ := slot b _ (neL b o e) hb (neC b o e hx) e1 (I.base.free b o e n hx)
    exact ⟨sl',e2⟩
  · obtain ⟨o',e1⟩ := I.base.there b o e hx
    exact free b o' (neC b o e hx) e1 (I.base.free b o e n hx)
  · obtain ⟨o',e1⟩ := I.base.there b o e hx
    exact there b o' (neC b o e hx) e1
  · obtain ⟨m1,e1⟩ := I.base.tbls b ps e
    obtain ⟨m2,e2⟩ := tbls b _ e1
    exact ⟨m1 ++ m2,by rw [e2,Array.append_assoc]⟩
  · obtain ⟨m,hn,hl⟩ := I.loc
    refine ⟨m,ns m hn,fun i x v e1 e2 e3 => ?_⟩
    obtain ⟨u,r,l⟩ := hl i x v e1 e2 e3
    refine ⟨u,r,?_⟩
    rcases l with l | ⟨k,c,e,z⟩
    · exact .inl l
    · exact .inr ⟨k,c,e,cellK x c e _ z⟩
  · obtain ⟨v,z⟩ := I.cell x c e
    exact ⟨v,cellK x c e v z⟩
  · obtain ⟨m,⟨o,_,_,ho,_⟩,_⟩ := I.loc
    exact free _ o (fun z => (hch _ z).2.1 rfl) ho I.free
  · obtain ⟨v,o,ho,hd⟩ := I.cell x c e
    exact free c o (fun z => (hch c z).2.2.1 x c e rfl) ho (I.freeC x c e)
  · obtain ⟨e,n,ne,nf,d⟩ := I.pin p hp
    have nch : p.1 ∉ ch := fun z => (hch p.1 z).2.2.2 p hp rfl
    exact ⟨keep p.1 p.2 ne nf nch e n,free p.1 p.2 nch e n,ne,nf,d⟩
theorem Inv.un {t' : Nat} (I : Inv X pins σ H s) (u : Un X.fs [] H H' s.heap h') (hok : HOk X.prog X.w H' h') : Inv X pins σ H' { s with heap := h',toks := t' } := by
  obtain ⟨m,⟨o,es,ep,ho,r⟩,_⟩ := id I.loc
  obtain ⟨sl,hL⟩ := u.any ho I.free (by simp)
  exact I.step (g' := s.gens) (d' := s.drawn) (ch := []) (fun _ z => nomatch z) (fun b o _ hb _ e n => u.keep b o e n hb (by simp)) (fun b o _ hb _ e n => u.slot b o e n hb (by simp)) (fun b o _ e n => u.free b o e n (by simp)) (fun b o _ e => u.there b o e (by simp)) u.tups u.frzs u.tbls (fun m' hm => by
    obtain ⟨o',es',ep',ho',r'⟩ := hm
    rw [ho] at ho'; cases ho'
    exact ⟨_,es',ep',hL,r'⟩) hok I.bare
theorem Inv.call {g' : Array GenState} {t' : Nat} {d' : Drawn} {ch : List Addr} (I : Inv X pins σ H s) (u : Un (frs X.stack) ch H H' s.heap h') (hok : HOk X.prog X.w H' h') (hg : AllBare g')
    (hch : ∀ b ∈ ch,(b ∈ X.ex ∨ X.s₀.heap.objs.size ≤ b) ∧ b ≠ X.env.locals ∧ (∀ x c,X.env.cells.lookup x = some c → c ≠ b) ∧ ∀ p ∈ X.pn ++ pins,p.1 ≠ b) :
    Inv X pins σ H' { s with heap := h',gens := g',drawn := d',toks := t' } := by
  obtain ⟨m,⟨o,es,ep,ho,r⟩,_⟩ := id I.loc
  obtain ⟨sl,hL⟩ := u.any ho I.free fun z => (hch _ z).2.1 rfl
  exact I.step (ch := ch) hch (fun b o hL hb hc e n => u.keep b o e n (fun z => (List.mem_cons.mp (I.stkSub b z)).elim hL hb) hc) (fun b o _ _ hc e n => u.any e n hc) (fun b o hc e n => u.free b o e n hc) (fun b o hc e => u.there b o e hc) u.tups u.frzs u.tbls (fun m' hm => by
    obtain ⟨o',es',ep',ho',r'⟩ := hm
    rw [ho] at ho'; cases ho'
    exact ⟨_,es',ep',hL,r'⟩) hok hg
theorem Inv.turned {t' : Nat} {it : Addr} (I : Inv X pins σ H s) (k : ∀ b o,b ≠ it → s.heap.get? b = some o → h'.get? b = some o) (hn : H it = none) (hL : it ≠ X.env.locals)
    (h1 : it ∈ X.ex ∨ X.s₀.heap.objs.size ≤ it) (h2 : ∀ x c,X.env.cells.lookup x = some c → c ≠ it) (h3 : ∀ p ∈ X.pn ++ pins,p.1 ≠ it) : Inv X pins σ H { s with heap := h',toks := t' } := by
  have nit : ∀ b u,H b = some u → b ≠ it := fun b u e z => by rw [z,hn] at e; cases e
  refine I.step (g' := s.gens) (d' := s.drawn) (ch := [it]) (fun b hb => ?_) (fun b o _ _ hc e _ => k b o (fun z => hc (by simp [z])) e) (fun b o _ _ hc e _ => ⟨o.slots,k b o (fun z => hc (by simp [z])) e⟩) (fun _ _ _ _ n => n)
    (fun b o hc e => ⟨o,k b o (fun z => hc (by simp [z])) e⟩) (fun _ _ e => e) (fun _ _ _ e => e) (fun b ps e => ⟨#[],by rw [e]; simp⟩) (fun m hm => ?_) (fun b u e => ?_) I.bare
  · have e : b = it := by simpa using hb
    subst e
    exact ⟨h1,hL,h2,h3⟩
  · obtain ⟨o,es,ep,ho,r⟩ := hm
    exact ⟨o,es,ep,k _ o (Ne.symm hL) ho,r⟩
  · refine (I.hok b u e).stay (fun c v hc q => k c v ?_ q) (fun _ q => q) fun _ _ q => q
    rcases hc with z | z
    · rw [z]; exact nit b u e
    · exact nit c _ z
theorem Inv.tok (I : Inv X pins σ H s) (t : Nat) : Inv X pins σ H { s with toks := t } := I.un (h' := s.heap) (t' := t) Un.refl I.hok
theorem Inv.kept {t' : Nat} (I : Inv X pins σ H s) (k : ∀ b u,s.heap.get? b = some u → h'.get? b = some u) : Inv X pins σ H { s with heap := h',toks := t' } := I.un (Un.kept k) (I.hok.kept k)
theorem Inv.laid {a : Addr} {o : HO} {t' : Nat} (I : Inv X pins σ H s) (k : ∀ b u,s.heap.get? b = some u → h'.get? b = some u) (hp : s.heap.objs.size ≤ a) (new : ObjOk X.prog X.w (upd H a o) h' a o) :
    Inv X pins σ (upd H a o) { s with heap := h',toks := t' } := I.un (Un.laid k hp (I.hok.fresh hp)) (I.hok.laid k hp new)
theorem Inv.write {x e : Addr} {o : HO} {t' : Nat} (I : Inv X pins σ H s) (mu : Mut (H x)) (he : e = x ∨ H e = some (.own x)) (k : ∀ b u,b ≠ e → s.heap.get? b = some u → h'.get? b = some u) (heo : ∃ u,h'.get? e = some u)
    (new : ObjOk X.prog X.w (upd H x o) h' x o) : Inv X pins σ (upd H x o) { s with heap := h',toks := t' } := I.un (Un.write mu he k heo) (I.hok.write mu he k heo new)
theorem Inv.pins_of {pins' : List (Addr × Obj)} (I : Inv X pins σ H s) (h : ∀ p ∈ pins',s.heap.get? p.1 = some p.2 ∧ H p.1 = none ∧ p.1 ≠ X.env.locals ∧ p.1 ∉ X.fs ∧ ∀ v,p.2.data ≠ .cell v) : Inv X pins' σ H s :=
  ⟨I.ok,I.os,I.bare,I.base,I.loc,I.cell,I.free,I.freeC,fun p hp => (List.mem_append.mp hp).elim (fun z => I.pin p (List.mem_append_left _ z)) (h p),I.hok,I.len⟩
theorem nodup_ix {N : List Str} (hN : N.Nodup) {i j : Nat} {x : Str} (a : N[i]? = some x) (b : N[j]? = some x) : i = j := by
  obtain ⟨h1,e1⟩ := List.getElem?_eq_some_iff.mp a
  obtain ⟨h2,e2⟩ := List.getElem?_eq_some_iff.mp b
  exact (List.getElem_inj hN).mp (e1.trans e2.symm)
theorem store_ok2 {M : Model} {A : Around} {E : Value → Shared → Prop} {i : Nat} {x : Str} {v : V} {u : Value} {Q : Unit → Shared → Prop} (I : Inv X pins σ H s) (hN : X.N.Nodup) (hi : X.N[i]? = some x) (hx : Loc X.env.scope x) (r : RelV v u)
    (h : ∀ s',Inv X pins (σ.set i (some v)) H s' → (∃ a,Heap.SameBut a s.heap s'.heap ∧ (a = X.env.locals ∨ X.env.cells.lookup x = some a)) → Q () s') (hf : X.fn x = true ∨ X.env.scope.names.lookup x = some .local := by first | exact .inl rfl | exact .inr rfl | assumption) : wpAny M A (storeName X.env x u) Q E s := by
  obtain ⟨m,hn,hl⟩ := id I.loc
  have hcls : (X.env.scope.kind == .class || (X.env.scope.kind == .module && X.env.locals != X.env.globals)) = false := by rw [I.ok.kind]; rfl
  have hiσ : i < σ.length := by rw [I.len]; exact (List.getElem?_eq_some_iff.mp hi).1
  have cne := I.cne
  have tracked : ∀ {a : Addr} {h' : Heap},(∃ o,s.heap.get? a = some o ∧ H a = none) → Heap.SameBut a s.heap h' → HOk X.prog X.w H h' := fun {a h'} ha hs b ob e => by
    obtain ⟨_,_,hfree⟩ := ha
    refine (I.hok b ob e).stay (fun c w' hc q => (hs.2 c ?_).trans q) (fun _ q => q) fun _ _ q => q
    rintro rfl
    rcases hc with rfl | hc
    · rw [hfree] at e; cases e
    · rw [hfree] at hc; cases hc
  rcases hx with hk | hk
  · refine wpAny_storeName_local hk hn (fun h' hn' hs => ?_) hcls
    obtain ⟨oL,_,_,hoL,_⟩ := id hn
    refine h _ ⟨I.ok,I.os,I.bare,⟨fun b o e n hb hx => ?_,fun b o e n hb hx => ?_,I.base.free,fun b o e hx => ?_,I.base.tups,I.base.frzs,I.base.tbls⟩,⟨_,hn',fun j y v' e1 e2 e3 => ?_⟩,fun y c e => ?_,I.free,I.freeC,fun p hp => ?_,tracked ⟨oL,hoL,I.free⟩ hs,by simpa using I.len⟩ ⟨_,hs,.inl rfl⟩
    · exact (hs.2 b (Nat.ne_of_lt (Nat.lt_of_lt_of_le (Heap.lt_size e) I.ok.above))).trans (I.base.keep b o e n hb hx)
    · obtain ⟨sl,e1⟩ := I.base.slot b o e n hb hx
      exact ⟨sl,(hs.2 b (Nat.ne_of_lt (Nat.lt_of_lt_of_le (Heap.lt_size e) I.ok.above))).trans e1⟩
    · obtain ⟨o',e1⟩ := I.base.there b o e hx
      exact ⟨o',(hs.2 b (Nat.ne_of_lt (Nat.lt_of_lt_of_le (Heap.lt_size e) I.ok.above))).trans e1⟩
    · by_cases hj : j = i
      · subst hj
        rw [hi] at e1; cases e1
        rw [List.getElem?_set_self hiσ] at e2
        cases e2
        exact ⟨u,r,.inl ⟨hk,by simp⟩⟩
      · rw [List.getElem?_set_ne (Ne.symm hj)] at e2
        obtain ⟨u',r',q⟩ := hl j y v' e1 e2 e3
        refine ⟨u',r',?_⟩
        rcases q with ⟨k,e⟩ | ⟨k,c,e,z⟩
        · refine .inl ⟨k,?_⟩
          have : y ≠ x := fun e => hj (nodup_ix hN e1 (e ▸ hi))
          simp [this,e]
        · exact .inr ⟨k,c,e,z.sameBut hs (cne y c e)⟩
    · obtain ⟨w',z⟩ := I.cell y c e
      exact ⟨w',z.sameBut hs (cne y c e)⟩
    · obtain ⟨e,n,ne,nf,d⟩ := I.pin p hp
      exact ⟨(hs.2 p.1 ne).trans e,n,ne,nf,d⟩
  · have hfn : X.fn x = true := by
      rcases hf with z | z
      · exact z
      · rw [z] at hk; cases hk
    obtain ⟨c,hc⟩ := I.ok.has x (.inl hk)
    obtain ⟨w',z⟩ := I.cell x c hc
    refine wpAny_storeName_cell I.ok.kind hk hc z (fun h' hc' hs => ?_)
    obtain ⟨oc,hoc,hocd⟩ := id z
    refine h { s with heap := h' } ⟨I.ok,I.os,I.bare,⟨fun b o e n hb hx => ?_,fun b o e n hb hx => ?_,I.base.free,fun b o e hx => ?_,I.base.tups,I.base.frzs,I.base.tbls⟩,⟨m,hn.sameBut hs (Ne.symm (cne x c hc)),fun j y v' e1 e2 e3 => ?_⟩,fun y c' e => ?_,I.free,I.freeC,fun p hp => ?_,tracked ⟨oc,hoc,I.freeC x c hc⟩ hs,by simpa using I.len⟩ ⟨c,hs,.inr hc⟩
    · exact (hs.2 b (Nat.ne_of_lt (Nat.lt_of_lt_of_le (Heap.lt_size e) (I.ok.cab x c hfn hc)))).trans (I.base.keep b o e n hb hx)
    · obtain ⟨sl,e1⟩ := I.base.slot b o e n hb hx
      exact ⟨sl,(hs.2 b (Nat.ne_of_lt (Nat.lt_of_lt_of_le (Heap.lt_size e) (I.ok.cab x c hfn hc)))).trans e1⟩
    · obtain ⟨o',e1⟩ := I.base.there b o e hx
      exact ⟨o',(hs.2 b (Nat.ne_of_lt (Nat.lt_of_lt_of_le (Heap.lt_size e) (I.ok.cab x c hfn hc)))).trans e1⟩
    · by_cases hj : j = i
      · subst hj
        rw [hi] at e1; cases e1
        rw [List.getElem?_set_self hiσ] at e2
        cases e2
        exact ⟨u,r,.inr ⟨.inl hk,c,hc,hc'⟩⟩
      · rw [List.getElem?_set_ne (Ne.symm hj)] at e2
        obtain ⟨u',r',q⟩ := hl j y v' e1 e2 e3
        refine ⟨u',r',?_⟩
        rcases q with q | ⟨k,c',e,z'⟩
        · exact .inl q
        · refine .inr ⟨k,c',e,z'.sameBut hs ?_⟩
          rintro rfl
          exact hj (nodup_ix hN e1 (I.ok.inj _ _ _ e hc ▸ hi))
    · by_cases hcc : c' = c
      · subst hcc; exact ⟨_,hc'⟩
      · obtain ⟨w2,z2⟩ := I.cell y c' e
        exact ⟨w2,z2.sameBut hs hcc⟩
    · obtain ⟨e,n,ne,nf,d⟩ := I.pin p hp
      refine ⟨(hs.2 p.1 ?_).trans e,n,ne,nf,d⟩
      intro q
      rw [q,hoc] at e
      have q' : oc = p.2 := Option.some.inj e
      exact d w' (by rw [← q']; exact hocd)
theorem store_ok {M : Model} {A : Around} {E : Value → Shared → Prop} {i : Nat} {x : Str} {v : V} {u : Value} {Q : Unit → Shared → Prop} (I : Inv X pins σ H s) (hN : X.N.Nodup) (hi : X.N[i]? = some x) (hx : Loc X.env.scope x) (r : RelV v u)
    (h : ∀ s',Inv X pins (σ.set i (some v)) H s' → Q () s') (hf : X.fn x = true ∨ X.env.scope.names.lookup x = some .local := by first | exact .inl rfl | exact .inr rfl | assumption) : wpAny M A (storeName X.env x u) Q E s :=
  store_ok2 I hN hi hx r (fun s' I' _ => h s' I') hf
theorem Inv.call' {s' : Shared} {ch : List Addr} (I : Inv X pins σ H s) (ho : s'.os = s.os) (u : Un (frs X.stack) ch H H' s.heap s'.heap) (hok : HOk X.prog X.w H' s'.heap) (hg : AllBare s'.gens)
    (hch : ∀ b ∈ ch,(b ∈ X.ex ∨ X.s₀.heap.objs.size ≤ b) ∧ b ≠ X.env.locals ∧ (∀ x c,X.env.cells.lookup x = some c → c ≠ b) ∧ ∀ p ∈ X.pn ++ pins,p.1 ≠ b) : Inv X pins σ H' s' := by
  obtain ⟨h',g',d',t',o'⟩ := s'
  have e : o' = s.os := ho
  subst e
  exact I.call (g' := g') (t' := t') (d' := d') u hok hg hch
end
noncomputable abbrev XK := Value → Option Addr → Hp → Prop
noncomputable abbrev St := List (Option V)
noncomputable abbrev VK := V → Hp → Prop
noncomputable abbrev TE := St → Hp → VK → Prop
noncomputable abbrev TT := St → Hp → (Bool → Hp → Prop) → Prop
noncomputable abbrev TA := St → Hp → (List V → Hp → Prop) → Prop
structure Ends where
  nx : St → Hp → Prop
  rt : VK
  bk : St → Hp → Prop := fun _ _ => False
  ct : St → Hp → Prop := fun _ _ => False
noncomputable abbrev TS := Ends → St → Hp → Prop
noncomputable def EP (X : Cx) (pins : List (Addr × Obj)) (σ : St) (Q : VK) (u : Value) (s' : Shared) : Prop := ∃ v H',Inv X pins σ H' s' ∧ RelV v u ∧ Q v H'
noncomputable def TP (X : Cx) (pins : List (Addr × Obj)) (σ : St) (Q : Bool → Hp → Prop) (b : Bool) (s' : Shared) : Prop := ∃ H',Inv X pins σ H' s' ∧ Q b H'
noncomputable def AP (X : Cx) (pins : List (Addr × Obj)) (σ : St) (Q : List V → Hp → Prop) (us : List Value) (s' : Shared) : Prop := ∃ vs H',Inv X pins σ H' s' ∧ Vals vs us ∧ Q vs H'
noncomputable def SP (X : Cx) (pins : List (Addr × Obj)) (D : Ends) (f : Flow) (s' : Shared) : Prop :=
  match f with
  | .next => ∃ σ' H',Inv X pins σ' H' s' ∧ D.nx σ' H'
  | .brk => ∃ σ' H',Inv X pins σ' H' s' ∧ D.bk σ' H'
  | .cont => ∃ σ' H',Inv X pins σ' H' s' ∧ D.ct σ' H'
  | .ret u => ∃ v σ' H',Inv X pins σ' H' s' ∧ RelV v u ∧ D.rt v H'
noncomputable def PE (X : Cx) (e : Expr) (t : TE) : Prop :=
  ∀ (pins : List (Addr × Obj)) (s : Shared) (σ : St) (H : Hp) (Q : VK),Inv X pins σ H s → t σ H Q → wpAny (model X.prog X.w) X.A (eval e X.env) (EP X pins σ Q) X.xe s
noncomputable def PT (X : Cx) (e : Expr) (t : TT) : Prop :=
  ∀ (pins : List (Addr × Obj)) (s : Shared) (σ : St) (H : Hp) (Q : Bool → Hp → Prop),Inv X pins σ H s → t σ H Q → wpAny (model X.prog X.w) X.A (isTrue e X.env (eval e X.env)) (TP X pins σ Q) X.xe s
noncomputable def PW (X : Cx) (e : Expr) (t : TT) : Prop :=
  ∀ (whole : Sem Value) (pins : List (Addr × Obj)) (s : Shared) (σ : St) (H : Hp) (Q : Bool → Hp → Prop),Inv X pins σ H s → t σ H Q → wpAny (model X.prog X.w) X.A (isTrue e X.env whole) (TP X pins σ Q) X.xe s
theorem PW.pt {X : Cx} {e : Expr} {t : TT} (h : PW X e t) : PT X e t := h _
noncomputable def PA (X : Cx) (es : List Expr) (t : TA) : Prop :=
  ∀ (pos : Pos) (pins : List (Addr × Obj)) (s : Shared) (σ : St) (H : Hp) (Q : List V → Hp → Prop),Inv X pins σ H s → t σ H Q → wpAny (model X.prog X.w) X.A (spliced (backTo pos (starEach es X.env))) (AP X pins σ Q) X.xe s
noncomputable def PS (X : Cx) (st : Stmt) (t : TS) : Prop :=
  ∀ (pins : List (Addr × Obj)) (s : Shared) (σ : St) (H : Hp) (D : Ends),Inv X pins σ H s → t D σ H → wpAny (model X.prog X.w) X.A (exec st X.env) (SP X pins D) X.xe s
noncomputable def PSs (X : Cx) (st : List Stmt) (t : TS) : Prop :=
  ∀ (pins : List (Addr × Obj)) (s : Shared) (σ : St) (H : Hp) (D : Ends),Inv X pins σ H s → t D σ H → wpAny (model X.prog X.w) X.A (execs st X.env) (SP X pins D) X.xe s
theorem thn {α : Type} {t : Sem α} {Q Q' : α → Shared → Prop} {M : Model} {A : Around} {E : Value → Shared → Prop} {s : Shared} (h : wpAny M A t Q E s) (hQ : ∀ a s,Q a s → Q' a s) : wpAny M A t Q' E s := wpAny_mono h hQ fun _ _ x => x
end L2
namespace L2
open PySem PySem.Spec PyProof.Rows
section
variable {X : Cx}
inductive SVar (i : Nat) (σ : St) (H : Hp) (Q : VK) : Prop | mk (v : V) (h : σ[i]? = some (some v)) (q : Q v H)
noncomputable def tVar (i : Nat) : TE := fun σ H Q => SVar i σ H Q
noncomputable def tC (v : V) : TE := fun _ H Q => Q v H
theorem pe_var {i : Nat} {x : Str} {pos : Pos} (hN : X.N[i]? = some x) (hv : Vis X.env.scope x) (hd : (x == ("__debug__" : Str)) = false := by decide) (hcd : (x == ("__classdict__" : Str)) = false := by decide) : PE X (.Name x pos) (tVar i) := by
  intro pins s σ H Q I h
  obtain ⟨v,e,h⟩ := h
  obtain ⟨m,hn,hl⟩ := I.loc
  obtain ⟨u,r,l⟩ := hl i x v hN e hv
  have fin : EP X pins σ Q u s := ⟨v,H,I,r,h⟩
  rcases l with ⟨hk,hm⟩ | ⟨hk,c,hc,hcell⟩
  · exact wpAny_Name (wpAny_loadName_local I.ok.kind hk hn hm fin) hd
  · rcases hk with hk | hk
    · exact wpAny_Name (wpAny_loadName_cell I.ok.kind hk hc hcell fin) hd
    · exact wpAny_Name (wpAny_loadName_free I.ok.kind hk hc hcell fin hcd) hd
theorem pe_int {i j pos} : PE X (.Constant (.int i) j pos) (tC (.int i)) := fun _ _ _ H _ I h => wpAny_Constant_int ⟨.int i,H,I.tok _,⟨_,rfl⟩,h⟩
theorem pe_bl {b j pos} : PE X (.Constant (.bool b) j pos) (tC (.bl b)) := fun _ _ _ H _ I h => Constant_bool ⟨.bl b,H,I,rfl,h⟩
theorem pe_non {j pos} : PE X (.Constant .none j pos) (tC .non) := fun _ _ _ H _ I h => Constant_none ⟨.non,H,I,rfl,h⟩
theorem pe_str {x j pos} : PE X (.Constant (.str x) j pos) (tC (.str x)) := fun _ _ _ H _ I h => Calls.Constant_str ⟨.str x,H,I.tok _,⟨_,rfl⟩,h⟩
noncomputable def Gl (X : Cx) (x : Str) : Prop := X.env.kindOf x = some .globalImplicit
theorem ld_glob {E : Value → Shared → Prop} {pins : List (Addr × Obj)} {s : Shared} {σ : St} {H : Hp} {x : Str} {u : Value} {pos : Pos} {Q : Value → Shared → Prop} (I : Inv X pins σ H s) (hg : Gl X x) (hm : X.mg x = some u) (h : Q u s)
    (hd : (x == ("__debug__" : Str)) = false := by decide) : wpAny (model X.prog X.w) X.A (eval (.Name x pos) X.env) Q E s :=
  Calls.Name_function_global I.ok.kind hg (Calls.loadGlobal_global (by rw [I.ok.glob]; exact I.mod.glob.keeps I.bk) hm h) hd
theorem ld_blt {E : Value → Shared → Prop} {pins : List (Addr × Obj)} {s : Shared} {σ : St} {H : Hp} {x : Str} {u : Value} {pos : Pos} {Q : Value → Shared → Prop} (I : Inv X pins σ H s) (hg : Gl X x) (hm : X.mg x = none) (hv : bootBuiltins x = some u) (h : Q u s)
    (hn : x ≠ "__name__" := by decide) (hd : (x == ("__debug__" : Str)) = false := by decide) : wpAny (model X.prog X.w) X.A (eval (.Name x pos) X.env) Q E s := by
  obtain ⟨mb,h1,h2⟩ := I.mod.blt
  exact Calls.Name_function_global I.ok.kind hg (Calls.loadGlobal_builtin (by rw [I.ok.glob]; exact I.mod.glob.keeps I.bk) hm (by rw [I.ok.blt]; exact h1.keeps I.bk) ((h2 x hn).trans hv) h) hd
theorem pe_glob {x : Str} {v : V} {u : Value} {pos : Pos} (hg : Gl X x) (hm : X.mg x = some u) (r : RelV v u) (hd : (x == ("__debug__" : Str)) = false := by decide) : PE X (.Name x pos) (tC v) :=
  fun _ _ _ H _ I h => ld_glob I hg hm ⟨v,H,I,r,h⟩ hd
variable {a b : Expr} {ta tb : TE} {pos : Pos}
noncomputable def PC (X : Cx) (op : CmpOp) (a b : Expr) (t : TE) : Prop :=
  ∀ (pins : List (Addr × Obj)) (s : Shared) (σ : St) (H : Hp) (Q : VK),Inv X pins σ H s → t σ H Q →
    wpAny (model X.prog X.w) X.A (eval a X.env) (fun v s₁ => wpAny (model X.prog X.w) X.A (eval b X.env) (fun u s₂ => wpAny (model X.prog X.w) X.A (compareOp op v u) (EP X pins σ Q) X.xe s₂) X.xe s₁) X.xe s
theorem nobehind (b : Expr) {op : CmpOp} (h : op ≠ .In) (h2 : op ≠ .NotIn) : behindInMarks op b = false := by
  have e1 : (op == CmpOp.In) = false := by cases op <;> first | rfl | exact absurd rfl h
  have e2 : (op == CmpOp.NotIn) = false := by cases op <;> first | rfl | exact absurd rfl h2
  cases b <;> simp [behindInMarks,e1,e2]
noncomputable def tIsN (ta : TE) : TE := fun σ H Q => ta σ H fun x H1 => Q (.bl (decide (x = .non))) H1
noncomputable def tNotN (ta : TE) : TE := fun σ H Q => ta σ H fun x H1 => Q (.bl (!decide (x = .non))) H1
theorem RelV.none_iff {x : V} {v : Value} (r : RelV x v) : (v == Value.none) = decide (x = .non) := by
  cases x with
  | non => cases r; rfl
  | bl _ => cases r; rfl
  | int _ => obtain ⟨t,rfl⟩ := r; rfl
  | str _ => obtain ⟨t,rfl⟩ := r; rfl
  | byt _ => obtain ⟨t,rfl⟩ := r; rfl
  | flt _ => obtain ⟨t,rfl⟩ := r; rfl
  | ref _ => cases r; rfl
  | ty _ => cases r; rfl
theorem pc_isN {j pos'} (ha : PE X a ta) : PC X .Is a (.Constant .none j pos') (tIsN ta) := by
  intro pins s σ H Q I h
  refine thn (ha pins s σ H _ I h) fun v s1 ⟨x,H1,I1,r1,q1⟩ => ?_
  exact Constant_none (is_none_gen ⟨.bl _,H1,I1,by rw [r1.none_iff]; rfl,q1⟩)
theorem pc_notN {j pos'} (ha : PE X a ta) : PC X .IsNot a (.Constant .none j pos') (tNotN ta) := by
  intro pins s σ H Q I h
  refine thn (ha pins s σ H _ I h) fun v s1 ⟨x,H1,I1,r1,q1⟩ => ?_
  exact Constant_none (isnot_none_gen ⟨.bl _,H1,I1,by rw [r1.none_iff]; rfl,q1⟩)
noncomputable def tB (t : TE) : TT := fun σ H Q => t σ H fun x H1 => ∃ c,x = .bl c ∧ Q c H1
theorem pt_cmp {op : CmpOp} {t : TE} (h : PC X op a b t) (h1 : behindInMarks op b = false := by first | exact nobehind _ (by decide) (by decide) | rfl) : PT X (.Compare a [op] [b] pos) (tB t) := by
  intro pins s σ H Q I hw
  refine wpAny_isTrue_Compare1 (thn (h pins s σ H _ I hw) fun v s1 h1 => thn h1 fun u s2 h2 => thn h2 fun c s3 ⟨x,H1,I1,r1,q1⟩ => ?_) h1
  obtain ⟨d,rfl,q⟩ := q1
  cases r1
  exact wpAny_truthy_bool ⟨H1,I1,q⟩
theorem pt_val {e : Expr} {t : TE} (h : PE X e t) (he : ∀ whole,isTrue e X.env whole = (do let v ← whole; standAt e.pos; holding [v] (truthy v)) := by intro _; rfl) : PT X e (tB t) := by
  intro pins s σ H Q I hw
  refine isTrue_plain (thn (h pins s σ H _ I hw) fun v s1 ⟨x,H1,I1,r1,q1⟩ => ?_) (he _)
  obtain ⟨d,rfl,q⟩ := q1
  cases r1
  exact wpAny_truthy_bool ⟨H1,I1,q⟩
variable {tA tB' : TT} {rest : List Expr}
noncomputable def tAnd (t u : TT) : TT := fun σ H Q => t σ H fun c H1 => if c = true then u σ H1 Q else Q false H1
noncomputable def tOr (t u : TT) : TT := fun σ H Q => t σ H fun c H1 => if c = true then Q true H1 else u σ H1 Q
noncomputable def tNot (t : TT) : TT := fun σ H Q => t σ H fun c H1 => Q (!c) H1
theorem pw_and1 (ha : PT X a tA) : PW X (.BoolOp .And [a] pos) tA := by
  intro wh pins s σ H Q I h
  refine isTrue_and (thn (ha pins s σ H Q I h) fun c s1 e => ?_)
  cases c with
  | true => exact isTrue_and_nil e
  | false => exact e
theorem pw_or1 (ha : PT X a tA) : PW X (.BoolOp .Or [a] pos) tA := by
  intro wh pins s σ H Q I h
  refine isTrue_or (thn (ha pins s σ H Q I h) fun c s1 e => ?_)
  cases c with
  | false => exact isTrue_or_nil e
  | true => exact e
theorem pw_and (ha : PT X a tA) (hb : PW X (.BoolOp .And (b :: rest) pos) tB') : PW X (.BoolOp .And (a :: b :: rest) pos) (tAnd tA tB') := by
  intro wh pins s σ H Q I h
  refine isTrue_and (thn (ha pins s σ H _ I h) fun c s1 ⟨H1,I1,q1⟩ => ?_)
  cases c with
  | true => exact hb wh pins s1 σ H1 Q I1 q1
  | false => exact ⟨H1,I1,q1⟩
theorem pw_or (ha : PT X a tA) (hb : PW X (.BoolOp .Or (b :: rest) pos) tB') : PW X (.BoolOp .Or (a :: b :: rest) pos) (tOr tA tB') := by
  intro wh pins s σ H Q I h
  refine isTrue_or (thn (ha pins s σ H _ I h) fun c s1 ⟨H1,I1,q1⟩ => ?_)
  cases c with
  | true => exact ⟨H1,I1,q1⟩
  | false => exact hb wh pins s1 σ H1 Q I1 q1
theorem pt_not (ha : PT X a tA) : PT X (.UnaryOp .Not a pos) (tNot tA) := by
  intro pins s σ H Q I h
  exact isTrue_not (ha pins s σ H (fun c H1 => Q (!c) H1) I h)
noncomputable def tAndV (ta tb : TE) : TE := fun σ H Q => ta σ H fun x H1 => ∃ c,x = .bl c ∧ if c = true then tb σ H1 Q else Q (.bl false) H1
noncomputable def tOrV (ta tb : TE) : TE := fun σ H Q => ta σ H fun x H1 => ∃ c,x = .bl c ∧ if c = true then Q (.bl true) H1 else tb σ H1 Q
theorem pe_one {op} {t : TE} (h : PE X a t) : PE X (.BoolOp op [a] pos) t := fun pins s σ H Q I hw => BoolOp_one (h pins s σ H Q I hw)
theorem pe_and (ha : PE X a ta) (hb : PE X (.BoolOp .And (b :: rest) pos) tb) : PE X (.BoolOp .And (a :: b :: rest) pos) (tAndV ta tb) := by
  intro pins s σ H Q I h
  refine BoolOp_and (thn (ha pins s σ H _ I h) fun v s1 ⟨x,H1,I1,r1,q1⟩ => ?_)
  obtain ⟨c,rfl,q1⟩ := q1
  cases r1
  refine wpAny_truthy_bool ?_
  cases c with
  | true => exact hb pins s1 σ H1 Q I1 q1
  | false => exact ⟨.bl false,H1,I1,rfl,q1⟩
theorem pe_or (ha : PE X a ta) (hb : PE X (.BoolOp .Or (b :: rest) pos) tb) : PE X (.BoolOp .Or (a :: b :: rest) pos) (tOrV ta tb) := by
  intro pins s σ H Q I h
  refine BoolOp_or (thn (ha pins s σ H _ I h) fun v s1 ⟨x,H1,I1,r1,q1⟩ => ?_)
  obtain ⟨c,rfl,q1⟩ := q1
  cases r1
  refine wpAny_truthy_bool ?_
  cases c with
  | false => exact hb pins s1 σ H1 Q I1 q1
  | true => exact ⟨.bl true,H1,I1,rfl,q1⟩
noncomputable def tIf (t : TT) (ta tb : TE) : TE := fun σ H Q => t σ H fun c H1 => if c = true then ta σ H1 Q else tb σ H1 Q
theorem pe_ifExp {c : Expr} (hc : PT X c tA) (ha : PE X a ta) (hb : PE X b tb) : PE X (.IfExp c a b pos) (tIf tA ta tb) := by
  intro pins s σ H Q I h
  refine wpAny_IfExp (thn (hc pins s σ H _ I h) fun d s1 ⟨H1,I1,q1⟩ => ?_)
  cases d with
  | true => exact ha pins s1 σ H1 Q I1 q1
  | false => exact hb pins s1 σ H1 Q I1 q1
end
end L2
namespace L2
open PySem PySem.Spec PyProof.Rows
noncomputable def SqL (K : PySem.W.Frag) (H : Hp) (a : Addr) (xs : List V) : Prop :=
  Rd H a (.lst xs) ∨
    ∃ (o : Obj) (its : Array Value) (n : Nat),K.lookup a = some o ∧ o.cls = .type "list" ∧ o.dict = none ∧ o.data = .seq its n ∧ its.size ≤ sizeLine ∧ Vals xs its.toList
noncomputable def SqT (K : PySem.W.Frag) (H : Hp) (a : Addr) (xs : List V) : Prop :=
  Rd H a (.tup xs) ∨
    ∃ (o : Obj) (its : Array Value) (n : Nat),K.lookup a = some o ∧ o.cls = .type "tuple" ∧ o.data = .seq its n ∧ its.size ≤ sizeLine ∧ Vals xs its.toList
noncomputable def absV : Value → Option V
  | .none => some .non
  | .bool b => some (.bl b)
  | .int i _ => some (.int i)
  | .str x _ => some (.str x)
  | .bytes b _ => some (.byt b)
  | .float b _ => some (.flt b)
  | .ref a => some (.ref a)
  | .type n => some (.ty n)
  | _ => none
theorem RelV.abs {x : V} {u : Value} (r : RelV x u) : absV u = some x := by
  cases x with
  | non => cases r; rfl
  | bl _ => cases r; rfl
  | int _ => obtain ⟨t,rfl⟩ := r; rfl
  | str _ => obtain ⟨t,rfl⟩ := r; rfl
  | byt _ => obtain ⟨t,rfl⟩ := r; rfl
  | flt _ => obtain ⟨t,rfl⟩ := r; rfl
  | ref _ => cases r; rfl
  | ty _ => cases r; rfl
theorem RelV.inj {x y : V} {u : Value} (r : RelV x u) (q : RelV y u) : x = y := Option.some.inj (r.abs.symm.trans q.abs)
theorem Vals.inj {xs ys : List V} {us : List Value} (h : Vals xs us) (h' : Vals ys us) : xs = ys := by
  induction h generalizing ys with
  | nil => cases h'; rfl
  | cons r t ih =>
    cases h' with
    | cons r' t' => rw [r.inj r',ih t']
section
variable {X : Cx} {pins : List (Addr × Obj)} {σ : St} {H : Hp} {s : Shared} {a : Addr} {xs ys : List V}
theorem SqL.of {K : PySem.W.Frag} (h : H a = some (.lst xs)) : SqL K H a xs := .inl (.inl h)
theorem SqT.of {K : PySem.W.Frag} (h : H a = some (.tup xs)) : SqT K H a xs := .inl (.inl h)
theorem Inv.list (I : Inv X pins σ H s) (h : SqL X.K H a xs) : ∃ its : List Value,Vals xs its ∧ PlainL s.heap a its.toArray ∧ xs.length ≤ sizeLine := by
  rcases h with h | ⟨o,its,n,hk,hc,hd,hs,hz,r⟩
  · obtain ⟨z,its,n,r,e⟩ := h.ok I.hok
    exact ⟨its,r,⟨_,n,e,rfl,rfl,rfl⟩,z⟩
  · refine ⟨its.toList,r,⟨o,n,I.kIn a o hk,hc,hd,by simpa using hs⟩,?_⟩
    have e := r.length
    simp only [Array.length_toList] at e
    omega
theorem Inv.tuple (I : Inv X pins σ H s) (h : SqT X.K H a xs) : ∃ its : List Value,Vals xs its ∧ IsTup s.heap a its.toArray ∧ xs.length ≤ sizeLine := by
  rcases h with h | ⟨o,its,n,hk,hc,hs,hz,r⟩
  · obtain ⟨z,its,r,p⟩ := h.ok I.hok
    exact ⟨its,r,p,z⟩
  · refine ⟨its.toList,r,⟨o,I.kIn a o hk,hc,n,by simpa using hs⟩,?_⟩
    have e := r.length
    simp only [Array.length_toList] at e
    omega
theorem Inv.list_inj (I : Inv X pins σ H s) (h : SqL X.K H a xs) (h' : SqL X.K H a ys) : xs = ys := by
  obtain ⟨its,r,⟨o,n,e,_,_,d⟩,_⟩ := I.list h
  obtain ⟨its',r',⟨o',n',e',_,_,d'⟩,_⟩ := I.list h'
  rw [e] at e'; cases e'
  rw [d] at d'
  injection d' with d1 _
  have : its = its' := by simpa using congrArg Array.toList d1
  subst this
  exact r.inj r'
theorem Inv.tuple_inj (I : Inv X pins σ H s) (h : SqT X.K H a xs) (h' : SqT X.K H a ys) : xs = ys := by
  obtain ⟨its,r,⟨o,e,_,n,d⟩,_⟩ := I.tuple h
  obtain ⟨its',r',⟨o',e',_,n',d'⟩,_⟩ := I.tuple h'
  rw [e] at e'; cases e'
  rw [d] at d'
  injection d' with d1 _
  have : its = its' := by simpa using congrArg Array.toList d1
  subst this
  exact r.inj r'
end
noncomputable abbrev Cx.wish (X : Cx) (E : Value → Shared → Prop) : Cx := { X with xe := E }
noncomputable abbrev Cx.nox (X : Cx) : Cx := X.wish fun _ _ => False
theorem Cx.Ok.wish {X : Cx} (ok : X.Ok) (E : Value → Shared → Prop) : (X.wish E).Ok :=
  ⟨ok.mod,ok.kind,ok.glob,ok.blt,ok.above,ok.inj,ok.has,ok.cab,ok.hd,ok.frames,ok.stk,ok.exf,ok.bs,ok.bsz,ok.noex,ok.exfs,ok.funs,ok.frf⟩
theorem Cx.Ok.unwish {X : Cx} {E : Value → Shared → Prop} (ok : (X.wish E).Ok) : X.Ok :=
  ⟨ok.mod,ok.kind,ok.glob,ok.blt,ok.above,ok.inj,ok.has,ok.cab,ok.hd,ok.frames,ok.stk,ok.exf,ok.bs,ok.bsz,ok.noex,ok.exfs,ok.funs,ok.frf⟩
section
variable {X : Cx} {pins : List (Addr × Obj)} {σ : St} {H : Hp} {s : Shared} {E : Value → Shared → Prop}
theorem Inv.wish (I : Inv X pins σ H s) (E : Value → Shared → Prop) : Inv (X.wish E) pins σ H s := ⟨I.ok.wish E,I.os,I.bare,I.base,I.loc,I.cell,I.free,I.freeC,I.pin,I.hok,I.len⟩
theorem Inv.unwish (I : Inv (X.wish E) pins σ H s) : Inv X pins σ H s := ⟨I.ok.unwish,I.os,I.bare,I.base,I.loc,I.cell,I.free,I.freeC,I.pin,I.hok,I.len⟩
theorem SP.unwish {D : Ends} {f : Flow} {s' : Shared} (h : SP (X.wish E) pins D f s') : SP X pins D f s' := by
  cases f with
  | next => obtain ⟨σ',H',I,q⟩ := h; exact ⟨σ',H',I.unwish,q⟩
  | brk => obtain ⟨σ',H',I,q⟩ := h; exact ⟨σ',H',I.unwish,q⟩
  | cont => obtain ⟨σ',H',I,q⟩ := h; exact ⟨σ',H',I.unwish,q⟩
  | ret u => obtain ⟨v,σ',H',I,r,q⟩ := h; exact ⟨v,σ',H',I.unwish,r,q⟩
theorem PSs.nox {st : List Stmt} {t : TS} (h : PSs X.nox st t) : PSs X st t := fun pins s σ H D I hw =>
  wpAny_mono (h pins s σ H D (I.wish _) hw) (fun _ _ q => q.unwish) fun _ _ z => False.elim z
end
section
variable {X : Cx} {st : Stmt} {rest : List Stmt} {t u : TS} {e : Expr} {te : TE} {pos : Pos}
noncomputable def tNext : TS := fun D σ H => D.nx σ H
noncomputable def tSeq (t u : TS) : TS := fun D σ H => t { D with nx := u D } σ H
theorem pss_nil : PSs X [] tNext := fun _ _ σ H _ I h => wpAny_execs_nil ⟨σ,H,I,h⟩
theorem pss_cons (h1 : PS X st t) (h2 : PSs X rest u) : PSs X (st :: rest) (tSeq t u) := by
  intro pins s σ H D I h
  refine wpAny_execs_cons (thn (h1 pins s σ H { D with nx := u D } I h) fun f s1 q => ?_)
  cases f with
  | next =>
    obtain ⟨σ',H',I',q⟩ := q
    exact h2 pins s1 σ' H' D I' q
  | ret v => exact q
  | brk => exact q
  | cont => exact q
theorem pss_one (h1 : PS X st t) : PSs X [st] t := by
  intro pins s σ H D I h
  refine wpAny_execs_cons (thn (h1 pins s σ H D I h) fun f s1 q => ?_)
  cases f with
  | next => exact wpAny_execs_nil q
  | ret v => exact q
  | brk => exact q
  | cont => exact q
theorem Inv.quiet {pins : List (Addr × Obj)} {σ : St} {H : Hp} {s : Shared} (I : Inv X pins σ H s) : interactive X.env = false := by simp [interactive,I.ok.kind]
noncomputable def tDrop (te : TE) : TS := fun D σ H => te σ H fun _ H1 => D.nx σ H1
theorem ps_expr (he : PE X e te) (hs : swapsWith e none pos.line X.env = pure false := by rfl) : PS X (.Expr e pos) (tDrop te) := by
  intro pins s σ H D I h
  exact wpAny_Expr_any (thn (he pins s σ H _ I h) fun v s1 ⟨x,H1,I1,r1,q1⟩ => ⟨σ,H1,I1,q1⟩) I.quiet hs
noncomputable def tRet (te : TE) : TS := fun D σ H => te σ H D.rt
theorem ps_ret (he : PE X e te) : PS X (.Return (some e) pos) (tRet te) := by
  intro pins s σ H D I h
  exact wpAny_Return_some (thn (he pins s σ H _ I h) fun v s1 ⟨x,H1,I1,r1,q1⟩ => ⟨x,σ,H1,I1,r1,q1⟩)
noncomputable def tIfS (c : TT) (t u : TS) : TS := fun D σ H => c σ H fun b H1 => if b = true then t D σ H1 else u D σ H1
theorem ps_if {c : Expr} {a b : List Stmt} {tc : TT} (hc : PT X c tc) (ha : PSs X a t) (hb : PSs X b u) : PS X (.If c a b pos) (tIfS tc t u) := by
  intro pins s σ H D I h
  refine wpAny_If (thn (hc pins s σ H _ I h) fun d s1 ⟨H1,I1,q1⟩ => ?_)
  cases d with
  | true => exact ha pins s1 σ H1 D I1 q1
  | false => exact hb pins s1 σ H1 D I1 q1
noncomputable def tNever : TS := fun _ _ _ => False
theorem ps_never : PS X st tNever := fun _ _ _ _ _ _ h => h.elim
end
noncomputable abbrev TG := V → St → Hp → (St → Hp → Prop) → Prop
noncomputable abbrev TGs := List V → St → Hp → (St → Hp → Prop) → Prop
noncomputable def PG (X : Cx) (target : Expr) (t : TG) : Prop :=
  ∀ (pins : List (Addr × Obj)) (s : Shared) (σ : St) (H : Hp) (v : V) (u : Value) (Q : St → Hp → Prop),Inv X pins σ H s → RelV v u → t v σ H Q →
    wpAny (model X.prog X.w) X.A (assign target X.env u) (fun _ s' => ∃ σ' H',Inv X pins σ' H' s' ∧ Q σ' H') X.xe s
noncomputable def PGs (X : Cx) (ts : List Expr) (t : TGs) : Prop :=
  ∀ (pins : List (Addr × Obj)) (s : Shared) (σ : St) (H : Hp) (vs : List V) (us : List Value) (Q : St → Hp → Prop),Inv X pins σ H s → Vals vs us → t vs σ H Q →
    wpAny (model X.prog X.w) X.A (assignInOrder ((assignEach ts X.env).map (·.2)) us) (fun _ s' => ∃ σ' H',Inv X pins σ' H' s' ∧ Q σ' H') X.xe s
noncomputable abbrev TSet := V → V → V → Hp → (Hp → Prop) → Prop
noncomputable def PSet (X : Cx) (t : TSet) : Prop :=
  ∀ (pins : List (Addr × Obj)) (s : Shared) (σ : St) (H : Hp) (o i v : V) (ov iv u : Value) (Q : Hp → Prop),Inv X pins σ H s → RelV o ov → RelV i iv → RelV v u → t o i v H Q →
    wpAny (model X.prog X.w) X.A (setItem ov iv u) (fun _ s' => ∃ H',Inv X pins σ H' s' ∧ Q H') X.xe s
section
variable {X : Cx} {pos : Pos}
noncomputable def gName (i : Nat) : TG := fun v σ H Q => Q (σ.set i (some v)) H
theorem pg_name {i : Nat} {x : Str} (hN : X.N.Nodup) (hi : X.N[i]? = some x) (hx : Loc X.env.scope x) (hf : X.fn x = true ∨ X.env.scope.names.lookup x = some .local := by first | exact .inl rfl | exact .inr rfl | assumption) : PG X (.Name x pos) (gName i) := by
  intro pins s σ H v u Q I r h
  exact wpAny_assign_Name (store_ok I hN hi hx r (fun s' I' => ⟨_,H,I',h⟩) hf)
noncomputable def gNil : TGs := fun vs σ H Q => vs = [] ∧ Q σ H
inductive SCons (t : TG) (u : TGs) (vs : List V) (σ : St) (H : Hp) (Q : St → Hp → Prop) : Prop | mk (v : V) (r : List V) (h : vs = v :: r) (q : t v σ H fun σ' H' => u r σ' H' Q)
noncomputable def gCons (t : TG) (u : TGs) : TGs := fun vs σ H Q => SCons t u vs σ H Q
theorem pgs_nil : PGs X [] gNil := by
  intro pins s σ H vs us Q I r h
  obtain ⟨e,h⟩ := h
  subst e
  cases r
  exact assignInOrder_nil ⟨σ,H,I,h⟩
theorem pgs_cons {e : Expr} {es : List Expr} {t : TG} {u : TGs} (h1 : PG X e t) (h2 : PGs X es u)
    (hs : (assignEach (e :: es) X.env).map (·.2) = assign e X.env :: (assignEach es X.env).map (·.2) := by rfl) : PGs X (e :: es) (gCons t u) := by
  intro pins s σ H vs us Q I r h
  obtain ⟨v,vr,e1,h⟩ := h
  subst e1
  cases r with
  | cons r rr =>
    rw [hs]
    refine assignInOrder_cons (thn (h1 pins s σ H _ _ _ I r h) fun _ s1 ⟨σ1,H1,I1,q1⟩ => ?_)
    exact h2 pins s1 σ1 H1 _ _ Q I1 rr q1
noncomputable def gTup (K : PySem.W.Frag) (n : Nat) (t : TGs) : TG := fun v σ H Q => ∃ a xs,v = .ref a ∧ SqT K H a xs ∧ xs.length = n ∧ t xs σ H Q
theorem pg_tup {es : List Expr} {k : Nat} {t : TGs} {n : Nat} (hc : X.calm = true) (h : PGs X es t)
    (hn : (assignEach es X.env).length = n := by rfl) (hst : (assignEach es X.env).findIdx? (·.1) = none := by rfl) : PG X (.Tuple es k pos) (gTup X.K n t) := by
  intro pins s σ H v u Q I r hw
  obtain ⟨a,xs,e1,hq,hl,hw⟩ := hw
  subst e1
  cases r
  obtain ⟨its,rv,ht,hz⟩ := I.tuple hq
  refine assign_Tuple_tuple (I.ok.hd hc) ht (by simp [hn,← hl,rv.length]) hst fun h' hx => ?_
  have I1 : Inv X pins σ H { s with heap := h' } := I.kept (t' := s.toks) fun b o e => hx b o (Nat.ne_of_lt (Heap.lt_size e)) e
  exact h pins _ σ H xs _ Q I1 (by simpa using rv) hw
noncomputable def gSub (to ti : TE) (t : TSet) : TG := fun v σ H Q => to σ H fun o H1 => ti σ H1 fun i H2 => t o i v H2 fun H3 => Q σ H3
theorem pg_sub {o i : Expr} {to ti : TE} {t : TSet} (ho : PE X o to) (hi : PE X i ti) (hs : PSet X t)
    (ha : ∀ v,assign (.Subscript o i pos) X.env v = (do
      let ov ← holding [v] (eval o X.env)
      let iv ← holding [v,ov] (eval i X.env)
      standAt pos
      holding [v,ov,iv] (setItem ov iv v)
      release [v,ov,iv] []) := by intro _; rfl) : PG X (.Subscript o i pos) (gSub to ti t) := by
  intro pins s σ H v u Q I r h
  rw [ha]
  refine wpAny_bind (wpAny_holding (thn (ho pins s σ H _ I h) fun ov s1 ⟨x,H1,I1,r1,q1⟩ => ?_))
  refine wpAny_bind (wpAny_holding (thn (hi pins s1 σ H1 _ I1 q1) fun iv s2 ⟨y,H2,I2,r2,q2⟩ => ?_))
  refine wpAny_bind (wpAny_standAt (wpAny_bind (wpAny_holding (thn (hs pins s2 σ H2 x y v ov iv u _ I2 r1 r2 r q2) fun _ s3 ⟨H3,I3,q3⟩ => ?_))))
  exact wpAny_release ⟨σ,H3,I3,q3⟩
noncomputable def tAsg (te : TE) (g : TG) : TS := fun D σ H => te σ H fun x H1 => g x σ H1 D.nx
theorem ps_asg {tg e : Expr} {te : TE} {g : TG} (he : PE X e te) (hg : PG X tg g) (hs : swapsWithSole [tg] e pos.line X.env = pure false := by rfl) (hw : swappedStores [tg] e X.env = pure none := by rfl)
    (h1 : (assignEach [tg] X.env).map (·.2) = [assign tg X.env] := by rfl) : PS X (.Assign [tg] e pos) (tAsg te g) := by
  intro pins s σ H D I h
  refine wpAny_Assign_stores (thn (he pins s σ H _ I h) fun v s1 ⟨x,H1,I1,r1,q1⟩ => ?_) hs hw
  rw [h1]
  exact thn (hg pins s1 σ H1 x v _ I1 r1 q1) fun _ s2 q => q
theorem ps_set {i : Nat} {x : Str} {e : Expr} {te : TE} {pos' : Pos} (hN : X.N.Nodup) (hi : X.N[i]? = some x) (hx : Loc X.env.scope x) (he : PE X e te) (hs : swapsWith e (some (.Name x pos')) pos.line X.env = pure false := by rfl) (hf : X.fn x = true ∨ X.env.scope.names.lookup x = some .local := by first | exact .inl rfl | exact .inr rfl | assumption) :
    PS X (.Assign [.Name x pos'] e pos) (tAsg te (gName i)) := by
  intro pins s σ H D I h
  refine wpAny_Assign_Name (thn (he pins s σ H _ I h) fun v s1 ⟨y,H1,I1,r1,q1⟩ => ?_) hs
  exact store_ok I1 hN hi hx r1 (fun s2 I2 => ⟨_,H1,I2,q1⟩) hf
end
section
variable {X : Cx} {pos : Pos}
noncomputable def tWhile (c : TT) (tb : TS) : TS := fun D σ H => ∃ W : Nat → St → Hp → Prop,(∃ m,W m σ H) ∧ ∀ m σ H,W m σ H →
  c σ H fun b H1 => if b = true then ∃ N : St → Hp → Prop,(∀ σ' H',N σ' H' → ∃ m',m' < m ∧ W m' σ' H') ∧ tb { D with nx := N,ct := N,bk := D.nx } σ H1 else D.nx σ H1
theorem ps_while {c : Expr} {body : List Stmt} {tc : TT} {tb : TS} (hp : PassesOwn (model X.prog X.w) X.A X.env X.xe) (hc : PT X c tc) (hb : PSs X body tb) : PS X (.While c body [] pos) (tWhile tc tb) := by
  intro pins s σ H D I h
  obtain ⟨W,⟨m0,w0⟩,turn⟩ := h
  refine wpAny_While (codeAny_whileLoop (fun n s' => ∃ σ' H',Inv X pins σ' H' s' ∧ W n σ' H') ?_ m0 ⟨σ,H,I,w0⟩)
  rintro n s1 ⟨σ1,H1,I1,w1⟩
  refine wpAny_passesOwn hp (thn (hc pins s1 σ1 H1 _ I1 (turn n σ1 H1 w1)) fun b s2 ⟨H2,I2,q2⟩ => ?_)
  cases b with
  | true =>
    obtain ⟨N,hN,q2⟩ := q2
    rw [if_pos rfl]
    refine wpAny_passesOwn hp (thn (hb pins s2 σ1 H2 _ I2 q2) fun f s3 q3 => ?_)
    cases f with
    | next =>
      obtain ⟨σ3,H3,I3,n3⟩ := q3
      obtain ⟨m',hm,w3⟩ := hN σ3 H3 n3
      exact ⟨m',hm,σ3,H3,I3,w3⟩
    | cont =>
      obtain ⟨σ3,H3,I3,n3⟩ := q3
      obtain ⟨m',hm,w3⟩ := hN σ3 H3 n3
      exact ⟨m',hm,σ3,H3,I3,w3⟩
    | brk => exact q3
    | ret v => exact q3
  | false =>
    rw [if_neg Bool.false_ne_true]
    exact wpAny_execs_nil ⟨σ1,H2,I2,q2⟩
end
structure It where
  go : Nat → Hp → Prop
  yld : Nat → Hp → V → Hp → Prop
  stop : Nat → Hp → Prop
noncomputable def FpOk (X : Cx) (pins : List (Addr × Obj)) (H : Hp) (b : Addr) : Prop :=
  H b = none ∧ b ≠ X.env.locals ∧ b ∉ X.fs ∧ (b ∈ X.ex ∨ X.s₀.heap.objs.size ≤ b) ∧ (∀ x c,X.env.cells.lookup x = some c → c ≠ b) ∧ ∀ p ∈ X.pn ++ pins,p.1 ≠ b
theorem Inv.fpOk {X : Cx} {pins : List (Addr × Obj)} {σ : St} {H H' : Hp} {s : Shared} {b : Addr} (I : Inv X pins σ H s) (hb : s.heap.objs.size ≤ b) (hn : H' b = none) : FpOk X pins H' b := by
  refine ⟨hn,Nat.ne_of_gt (Nat.lt_of_lt_of_le I.lt hb),I.nofs hb,.inr (Nat.le_trans I.sz hb),fun x c e z => ?_,fun p hp z => ?_⟩
  · obtain ⟨v,q⟩ := I.cell x c e
    exact absurd (Nat.lt_of_lt_of_le q.lt (by rw [z]; exact hb)) (Nat.lt_irrefl _)
  · exact absurd (Nat.lt_of_lt_of_le (Heap.lt_size (I.pin p hp).1) (by rw [z]; exact hb)) (Nat.lt_irrefl _)
structure Turn (P : Program) (w : World) (K : PySem.W.Frag) (tg : Expr) (J : It) (fp : List Addr) (it : Addr) (tn : Nat → Heap → Prop) : Prop where
  mem : it ∈ fp
  obj : ∀ i h,tn i h → ∀ b ∈ fp,∃ o,h.get? b = some o ∧ ∀ v,o.data ≠ .cell v
  keep : ∀ i h h',tn i h → (∀ b ∈ fp,∀ o,h.get? b = some o → h'.get? b = some o) → tn i h'
  item : ∀ (X : Cx),X.prog = P → X.w = w → X.K = K → X.calm = true → ∀ (i : Nat) (pins : List (Addr × Obj)) (s : Shared) (σ : St) (H : Hp) (E : Value → Shared → Prop),Inv X pins σ H s → (∀ b ∈ fp,FpOk X pins H b) → tn i s.heap → J.go i H →
    wpAny (model P w) X.A (pyNext (.ref it)) (fun r s1 => ∃ u,r = some u ∧
      wpAny (model P w) X.A (letOwnedTupleGo tg (.ref it) u) (fun _ s2 => ∃ x H',Inv X pins σ H' s2 ∧ RelV x u ∧ J.yld i H x H' ∧ tn (i + 1) s2.heap ∧ ∀ b ∈ fp,H' b = none) E s1) E s
  done : ∀ (X : Cx),X.prog = P → X.w = w → X.K = K → X.calm = true → ∀ (i : Nat) (pins : List (Addr × Obj)) (s : Shared) (σ : St) (H : Hp) (E : Value → Shared → Prop),Inv X pins σ H s → (∀ b ∈ fp,FpOk X pins H b) → tn i s.heap → J.stop i H →
    wpAny (model P w) X.A (pyNext (.ref it)) (fun r s1 => r = none ∧ Inv X pins σ H s1) E s
  self : ∀ (A : Around) (i : Nat) (s : Shared) (Q : Value → Shared → Prop) (E : Value → Shared → Prop),tn i s.heap → Q (.ref it) s → wpAny (model P w) A (pyIter (.ref it)) Q E s
noncomputable abbrev TI := St → Hp → (It → Hp → Prop) → Prop
noncomputable def PIE (X : Cx) (pins : List (Addr × Obj)) (σ : St) (tg : Expr) (R : It → Hp → Prop) (itv : Value) (s2 : Shared) : Prop :=
  ∃ (it : Addr) (fp : List Addr) (tn : Nat → Heap → Prop) (J : It) (H' : Hp),itv = .ref it ∧ Inv X pins σ H' s2 ∧ Turn X.prog X.w X.K tg J fp it tn ∧ tn 0 s2.heap ∧ (∀ b ∈ fp,FpOk X pins H' b) ∧ R J H'
noncomputable def PI (X : Cx) (tg iter : Expr) (wi : TI) : Prop :=
  ∀ (pins : List (Addr × Obj)) (s : Shared) (σ : St) (H : Hp) (R : It → Hp → Prop),Inv X pins σ H s → wi σ H R →
    wpAny (model X.prog X.w) X.A (eval iter X.env) (fun v s1 => wpAny (model X.prog X.w) X.A (pyIter v) (PIE X pins σ tg R) X.xe s1) X.xe s
theorem go_of {M : Model} {A : Around} {E : Value → Shared → Prop} {s : Shared} {tg : Expr} {it : Addr} {u : Value} {o : Obj} {n : String} {vs : Array Value} {Q : Unit → Shared → Prop} (ho : s.heap.get? it = some o) (hc : o.cls = .type n) (hd : o.data = .fields vs)
    (hn : ["enumerate","zip","dict_itemiterator","dict_reverseitemiterator","odict_iterator","itertools.zip_longest","itertools.pairwise"].contains n = false) (hQ : Q () s) : wpAny M A (letOwnedTupleGo tg (.ref it) u) Q E s := by
  unfold letOwnedTupleGo
  cases tg <;> first
    | exact wpAny_pure hQ
    | (cases u <;> first
        | exact wpAny_pure hQ
        | (refine wpAny_bind (wpAny_load ho ?_)
           rw [hc,hd]
           show wpAny M A (if (["enumerate","zip","dict_itemiterator","dict_reverseitemiterator","odict_iterator","itertools.zip_longest","itertools.pairwise"].contains n && vs[0]? == some (rawInt _)) = true then _ else _) Q E s
           rw [if_neg (by intro h; rw [hn,Bool.false_and] at h; cases h)]
           exact wpAny_pure hQ))
noncomputable def Itl (K : PySem.W.Frag) (a : Addr) : It :=
  ⟨fun i H => ∃ xs x,SqL K H a xs ∧ xs[i]? = some x,fun i H x H' => H' = H ∧ ∀ xs,SqL K H a xs → xs[i]? = some x,fun i H => ∃ xs,SqL K H a xs ∧ xs.length ≤ i⟩
noncomputable def Itt (K : PySem.W.Frag) (a : Addr) : It :=
  ⟨fun i H => ∃ xs x,SqT K H a xs ∧ xs[i]? = some x,fun i H x H' => H' = H ∧ ∀ xs,SqT K H a xs → xs[i]? = some x,fun i H => ∃ xs,SqT K H a xs ∧ xs.length ≤ i⟩
noncomputable def Itr (lo : Int) (n : Nat) : It := ⟨fun i _ => i < n,fun i H x H' => H' = H ∧ x = .int (lo + i),fun i _ => n ≤ i⟩
theorem turn_list {P : Program} {w : World} {K : PySem.W.Frag} {tg : Expr} (a it : Addr) : Turn P w K tg (Itl K a) [it] it (fun i h => h.IsListIter it a i) where
  mem := by simp
  obj := fun i h st b hb => by
    have e : b = it := by simpa using hb
    subst e
    obtain ⟨o,e,c,d⟩ := st
    exact ⟨o,e,fun v z => by rw [d] at z; cases z⟩
  keep := fun i h h' st k => st.at fun o e => k it (by simp) o e
  item := by
    intro X hP hw hK hc i pins s σ H E I hf st hg
    subst hP hw hK
    obtain ⟨xs,x,hq,hx⟩ := hg
    obtain ⟨its,rv,p,hz⟩ := I.list hq
    obtain ⟨u,hu,ru⟩ := rv.get hx
    obtain ⟨f0,f1,f2,f3,f4,f5⟩ := hf it (by simp)
    refine wpAny_pyNext_list_item st p.isList (x := u) (by simpa using hu) fun h' st' sb => ?_
    have I1 : Inv X pins σ H { s with heap := h' } := I.turned (t' := s.toks) (fun b o hb e => (sb.2 b hb).trans e) f0 f1 f3 f4 f5
    obtain ⟨o,e,c,d⟩ := id st'
    exact ⟨u,rfl,go_of (s := { s with heap := h' }) e c d (by decide) ⟨x,H,I1,ru,⟨rfl,fun ys hy => by rw [I.list_inj hy hq]; exact hx⟩,st',fun b hb => (hf b hb).1⟩⟩
  done := by
    intro X hP hw hK hc i pins s σ H E I hf st hg
    subst hP hw hK
    obtain ⟨xs,hq,hx⟩ := hg
    obtain ⟨its,rv,p,hz⟩ := I.list hq
    obtain ⟨f0,f1,f2,f3,f4,f5⟩ := hf it (by simp)
    have hl := rv.length
    exact wpAny_pyNext_list_end (I.ok.hd hc) st p.isList (by simp; omega) fun h' eb => ⟨rfl,I.turned (t' := s.toks) (fun b o hb e => eb b o hb e) f0 f1 f3 f4 f5⟩
  self := fun _ _ _ _ _ st h => wpAny_pyIter_listiter st h
theorem turn_tuple {P : Program} {w : World} {K : PySem.W.Frag} {tg : Expr} (a it : Addr) : Turn P w K tg (Itt K a) [it] it (fun i h => h.IsTupleIter it a i) where
  mem := by simp
  obj := fun i h st b hb => by
    have e : b = it := by simpa using hb
    subst e
    obtain ⟨o,e,c,d⟩ := st
    exact ⟨o,e,fun v z => by rw [d] at z; cases z⟩
  keep := fun i h h' st k => st.at fun o e => k it (by simp) o e
  item := by
    intro X hP hw hK hc i pins s σ H E I hf st hg
    subst hP hw hK
    obtain ⟨xs,x,hq,hx⟩ := hg
    obtain ⟨its,rv,p,hz⟩ := I.tuple hq
    obtain ⟨u,hu,ru⟩ := rv.get hx
    obtain ⟨f0,f1,f2,f3,f4,f5⟩ := hf it (by simp)
    refine wpAny_pyNext_tuple_item st (show s.heap.IsTuple a its.toArray from p) (x := u) (by simpa using hu) fun h' st' sb => ?_
    have I1 : Inv X pins σ H { s with heap := h' } := I.turned (t' := s.toks) (fun b o hb e => (sb.2 b hb).trans e) f0 f1 f3 f4 f5
    obtain ⟨o,e,c,d⟩ := id st'
    exact ⟨u,rfl,go_of (s := { s with heap := h' }) e c d (by decide) ⟨x,H,I1,ru,⟨rfl,fun ys hy => by rw [I.tuple_inj hy hq]; exact hx⟩,st',fun b hb => (hf b hb).1⟩⟩
  done := by
    intro X hP hw hK hc i pins s σ H E I hf st hg
    subst hP hw hK
    obtain ⟨xs,hq,hx⟩ := hg
    obtain ⟨its,rv,p,hz⟩ := I.tuple hq
    obtain ⟨f0,f1,f2,f3,f4,f5⟩ := hf it (by simp)
    have hl := rv.length
    exact wpAny_pyNext_tuple_end (I.ok.hd hc) st (show s.heap.IsTuple a its.toArray from p) (by simp; omega) fun h' eb => ⟨rfl,I.turned (t' := s.toks) (fun b o hb e => eb b o hb e) f0 f1 f3 f4 f5⟩
  self := fun _ _ _ _ _ st h => wpAny_pyIter_tupleiter st h
theorem turn_range {P : Program} {w : World} {K : PySem.W.Frag} {tg : Expr} (it : Addr) (lo : Int) (n : Nat) : Turn P w K tg (Itr lo n) [it] it (fun i h => IsRangeIter h it (lo + (i : Nat) * 1) ((n : Int) - (i : Nat)) 1) where
  mem := by simp
  obj := fun i h st b hb => by
    have e : b = it := by simpa using hb
    subst e
    exact ⟨_,st,fun v z => by
      have z' : Data.fields _ = Data.cell v := z
      cases z'⟩
  keep := fun i h h' st k => k it (by simp) _ st
  item := by
    intro X hP hw hK hc i pins s σ H E I hf st hg
    subst hP hw hK
    obtain ⟨f0,f1,f2,f3,f4,f5⟩ := hf it (by simp)
    have W := Walks.range (prog := X.prog) (w := X.w) (I.ok.hd hc) it lo 1 n
    refine W.item i s _ _ hg st fun v h' tk hv st' kk => ?_
    obtain ⟨t,rfl⟩ := hv
    have I1 : Inv X pins σ H { s with heap := h',toks := tk } := I.turned (fun b o hb e => kk b o (by simpa using hb) e) f0 f1 f3 f4 f5
    refine ⟨_,rfl,go_of (s := { s with heap := h',toks := tk }) (n := "range_iterator") st' rfl rfl (by decide) ⟨.int (lo + i),H,I1,⟨t,?_⟩,⟨rfl,rfl⟩,st',fun b hb => (hf b hb).1⟩⟩
    rw [Int.mul_one]
  done := by
    intro X hP hw hK hc i pins s σ H E I hf st hg
    subst hP hw hK
    obtain ⟨f0,f1,f2,f3,f4,f5⟩ := hf it (by simp)
    exact wpAny_pyNext_range_end (I.ok.hd hc) st (by have : n ≤ i := hg; omega) fun h' eb => ⟨rfl,I.turned (t' := s.toks) (fun b o hb e => eb b o hb e) f0 f1 f3 f4 f5⟩
  self := fun _ _ _ _ _ st h => wpAny_pyIter_rangeiter st h
end L2
namespace L2
open PySem PySem.Spec PyProof.Rows
section
variable {X : Cx} {tg : Expr}
noncomputable def iList (K : PySem.W.Frag) (tl : TE) : TI := fun σ H R => tl σ H fun x H1 => ∃ a,x = .ref a ∧ (∃ xs,SqL K H1 a xs) ∧ R (Itl K a) H1
theorem range_it {pins : List (Addr × Obj)} {σ : St} {H : Hp} {s : Shared} {R : It → Hp → Prop} {E : Value → Shared → Prop} {lo hi : Int} {t u v : Tok} {tk : Nat} (I : Inv X pins σ H s) (h1 : -(2 ^ 62) ≤ lo) (h2 : lo < 2 ^ 62) (h3 : -(2 ^ 62) ≤ hi) (h4 : hi < 2 ^ 62)
    (q : R (Itr lo (hi - lo).toNat) H) : wpAny (model X.prog X.w) X.A (pyIter (.ref s.heap.objs.size)) (PIE X pins σ tg R) E { s with heap := s.heap.push { cls := .type "range",data := .fields #[.int lo t,.int hi u,.int 1 v] },toks := tk } := by
  refine wpAny_pyIter_range (IsRange.new ..) (small_one h1 h2 h3 h4) ?_
  have I1 : Inv X pins σ H { s with heap := s.heap.push { cls := .type "range",data := .fields #[.int lo t,.int hi u,.int 1 v] },toks := tk } := I.kept fun b o e => Heap.get?_push_of_some _ e
  refine ⟨(s.heap.push { cls := .type "range",data := .fields #[.int lo t,.int hi u,.int 1 v] }).objs.size,[(s.heap.push { cls := .type "range",data := .fields #[.int lo t,.int hi u,.int 1 v] }).objs.size],_,_,H,rfl,
    I1.kept (t' := tk) fun b o e => Heap.get?_push_of_some _ e,turn_range _ lo (hi - lo).toNat,?_,fun b hb => ?_,q⟩
  · have e1 : lo + ((0 : Nat) : Int) * 1 = lo := by simp
    have e2 : (((hi - lo).toNat : Nat) : Int) - ((0 : Nat) : Int) = Builtin.Range.rangeSize lo hi 1 := by rw [rangeSize_one]; split <;> omega
    show IsRangeIter _ _ (lo + ((0 : Nat) : Int) * 1) ((((hi - lo).toNat : Nat) : Int) - ((0 : Nat) : Int)) 1
    rw [e1,e2]
    exact Heap.get?_push_size _ rfl
  · have e : b = (s.heap.push { cls := .type "range",data := .fields #[.int lo t,.int hi u,.int 1 v] }).objs.size := by simpa using hb
    subst e
    exact I1.fpOk (Nat.le_refl _) (I1.hok.fresh (Nat.le_refl _))
inductive SRng1 (vs : List V) (H : Hp) (R : It → Hp → Prop) : Prop | mk (j : Int) (h : vs = [.int j]) (h1 : -(2 ^ 62) ≤ j) (h2 : j < 2 ^ 62) (q : R (Itr 0 j.toNat) H)
noncomputable def iRng1 (ta : TA) : TI := fun σ H R => ta σ H fun vs H1 => SRng1 vs H1 R
noncomputable def iRng2 (ta : TA) : TI := fun σ H R => ta σ H fun vs H1 => ∃ i j : Int,vs = [.int i,.int j] ∧ (-(2 ^ 62) ≤ i ∧ i < 2 ^ 62 ∧ -(2 ^ 62) ≤ j ∧ j < 2 ^ 62) ∧ R (Itr i (j - i).toNat) H1
theorem pi_range1 {a : Expr} {ta : TA} {p pos : Pos} (hg : Gl X "range") (hm : X.mg "range" = none) (ha : PA X [a] ta) (hs : starEach [a] X.env = [(false,eval a X.env)] := by rfl) : PI X tg (.Call (.Name "range" p) [a] [] pos) (iRng1 ta) := by
  intro pins s σ H R I h
  refine Call_ (ld_blt I hg hm boot_range (PyProof.Rows.callWith_type1 (thn (ha pos pins s σ H _ I h) fun us s1 ⟨vs,H1,I1,r1,q1⟩ => ?_) hs rfl))
  obtain ⟨j,e,q1,q2,q⟩ := q1
  subst e
  cases r1 with
  | cons r rr =>
    cases rr
    obtain ⟨t,rfl⟩ := r
    exact call_range_1 (range_it I1 (by omega) (by omega) q1 q2 (by simpa using q))
theorem pi_range2 {a b : Expr} {ta : TA} {p pos : Pos} (hg : Gl X "range") (hm : X.mg "range" = none) (ha : PA X [a,b] ta) (hs : starEach [a,b] X.env = [(false,eval a X.env),(false,eval b X.env)] := by rfl) (hs2 : starEach [b] X.env = [(false,eval b X.env)] := by rfl) :
    PI X tg (.Call (.Name "range" p) [a,b] [] pos) (iRng2 ta) := by
  intro pins s σ H R I h
  refine Call_ (ld_blt I hg hm boot_range (PyProof.Rows.callWith_type1 (thn (ha pos pins s σ H _ I h) fun us s1 ⟨vs,H1,I1,r1,q1⟩ => ?_) (by rw [hs,hs2]) (by rw [hs2]; rfl)))
  obtain ⟨i,j,e,⟨q1,q2,q3,q4⟩,q⟩ := q1
  subst e
  cases r1 with
  | cons r rr =>
    cases rr with
    | cons r' rr =>
      cases rr
      obtain ⟨t,rfl⟩ := r
      obtain ⟨t',rfl⟩ := r'
      exact call_range_2 (range_it I1 q1 q2 q3 q4 q)
noncomputable def tFor (wi : TI) (g : TG) (tb : TS) : TS := fun D σ H => wi σ H fun J H1 => ∃ W : Nat → Nat → St → Hp → Prop,(∃ m,W 0 m σ H1) ∧ ∀ i m σ H,W i m σ H →
  (J.stop i H ∧ D.nx σ H) ∨ (J.go i H ∧ ∃ N : St → Hp → Prop,(∀ σ' H',N σ' H' → ∃ m',m' < m ∧ W (i + 1) m' σ' H') ∧ ∀ x H',J.yld i H x H' → g x σ H' fun σ2 H2 => tb { D with nx := N,ct := N,bk := D.nx } σ2 H2)
noncomputable def pinsAt (fp : List Addr) (h : Heap) : List (Addr × Obj) := fp.filterMap fun b => (h.get? b).map fun o => (b,o)
theorem mem_pinsAt {fp : List Addr} {h : Heap} {b : Addr} {o : Obj} (hb : b ∈ fp) (e : h.get? b = some o) : (b,o) ∈ pinsAt fp h := List.mem_filterMap.mpr ⟨b,hb,by rw [e]; rfl⟩
theorem of_pinsAt {fp : List Addr} {h : Heap} {p : Addr × Obj} (hp : p ∈ pinsAt fp h) : p.1 ∈ fp ∧ h.get? p.1 = some p.2 := by
  obtain ⟨b,hb,e⟩ := List.mem_filterMap.mp hp
  cases q : h.get? b with
  | none => rw [q] at e; cases e
  | some o =>
    rw [q] at e
    have e' : (b,o) = p := Option.some.inj e
    subst e'
    exact ⟨hb,q⟩
theorem Inv.pinned {pins : List (Addr × Obj)} {σ : St} {H : Hp} {s : Shared} {fp : List Addr} (I : Inv X pins σ H s) (hf : ∀ b ∈ fp,FpOk X pins H b) (ho : ∀ b ∈ fp,∃ o,s.heap.get? b = some o ∧ ∀ v,o.data ≠ .cell v) : Inv X (pins ++ pinsAt fp s.heap) σ H s :=
  I.pins_of fun p hp => (List.mem_append.mp hp).elim (fun z => I.pin p (List.mem_append_right _ z)) fun z => by
    obtain ⟨hb,e⟩ := of_pinsAt z
    obtain ⟨f0,f1,f2,_⟩ := hf p.1 hb
    obtain ⟨o,e',d⟩ := ho p.1 hb
    rw [e] at e'; cases e'
    exact ⟨e,f0,f1,f2,d⟩
theorem Inv.unpinned {pins pl : List (Addr × Obj)} {σ : St} {H : Hp} {s : Shared} (I : Inv X (pins ++ pl) σ H s) : Inv X pins σ H s := I.pins_of fun p hp => I.pin p (List.mem_append_right _ (List.mem_append_left _ hp))
theorem ps_for {iter : Expr} {body : List Stmt} {wi : TI} {g : TG} {tb : TS} {pos : Pos} (hp : PassesOwn (model X.prog X.w) X.A X.env X.xe) (hc : X.calm = true) (hi : PI X tg iter wi) (hg : PG X tg g) (hb : PSs X body tb)
    (hs : ∀ x,foldedSetIterable iter X.env x = pure x := by intro _; rfl) : PS X (.For tg iter body [] pos) (tFor wi g tb) := by
  intro pins s σ H D I h
  refine wpAny_For (thn (hi pins s σ H _ I h) fun v s1 h1 => thn h1 fun itv s2 h2 => ?_) hs
  obtain ⟨it,fp,tn,J,H2,e,I2,T,st2,f2,W,⟨m0,w0⟩,turn⟩ := h2
  subst e
  have stat : ∀ {H' : Hp},(∀ b ∈ fp,H' b = none) → ∀ b ∈ fp,FpOk X pins H' b := fun hn b hb => ⟨hn b hb,(f2 b hb).2⟩
  refine codeAny_forLoop_any (fun n s' => ∃ i σ' H',Inv X pins σ' H' s' ∧ tn i s'.heap ∧ (∀ b ∈ fp,H' b = none) ∧ W i n σ' H') ?_ m0 ⟨0,σ,H2,I2,st2,fun b hb => (f2 b hb).1,w0⟩
  rintro n s3 ⟨i,σ3,H3,I3,st3,fr3,w3⟩
  rcases turn i n σ3 H3 w3 with ⟨stop,qn⟩ | ⟨go,N,hN,step⟩
  · refine wpAny_passesOwn hp (thn (T.done X rfl rfl rfl hc i pins s3 σ3 H3 X.xe I3 (stat fr3) st3 stop) fun r s4 ⟨hr,I4⟩ => ?_)
    subst hr
    exact wpAny_execs_nil ⟨σ3,H3,I4,qn⟩
  · refine wpAny_passesOwn hp (thn (T.item X rfl rfl rfl hc i pins s3 σ3 H3 X.xe I3 (stat fr3) st3 go) fun r s4 ⟨u,hr,h4⟩ => ?_)
    subst hr
    refine wpAny_passesOwn hp (thn h4 fun _ s5 ⟨x,H5,I5,r5,y5,st5,fr5⟩ => ?_)
    have I5' := I5.pinned (stat fr5) (T.obj _ _ st5)
    refine wpAny_passesOwn hp (thn (hg _ s5 σ3 H5 x u _ I5' r5 (step x H5 y5)) fun _ s6 ⟨σ6,H6,I6,q6⟩ => ?_)
    refine wpAny_passesOwn hp (thn (hb _ s6 σ6 H6 _ I6 q6) fun f s7 q7 => ?_)
    have again : ∀ {σ7 : St} {H7 : Hp},Inv X (pins ++ pinsAt fp s5.heap) σ7 H7 s7 → N σ7 H7 → ∃ m,m < n ∧ ∃ i σ' H',Inv X pins σ' H' s7 ∧ tn i s7.heap ∧ (∀ b ∈ fp,H' b = none) ∧ W i m σ' H' := fun {σ7 H7} I7 n7 => by
      obtain ⟨m',hm,w7⟩ := hN σ7 H7 n7
      refine ⟨m',hm,i + 1,σ7,H7,I7.unpinned,T.keep _ _ _ st5 fun b hb o e => (I7.pin (b,o) (List.mem_append_right _ (List.mem_append_right _ (mem_pinsAt hb e)))).1,fun b hb => ?_,w7⟩
      obtain ⟨o,e,d⟩ := T.obj _ _ st5 b hb
      exact (I7.pin (b,o) (List.mem_append_right _ (List.mem_append_right _ (mem_pinsAt hb e)))).2.1
    cases f with
    | next => obtain ⟨σ7,H7,I7,n7⟩ := q7; exact again I7 n7
    | cont => obtain ⟨σ7,H7,I7,n7⟩ := q7; exact again I7 n7
    | brk => obtain ⟨σ7,H7,I7,q7⟩ := q7; exact ⟨σ7,H7,I7.unpinned,q7⟩
    | ret v => obtain ⟨x7,σ7,H7,I7,r7,q7⟩ := q7; exact ⟨x7,σ7,H7,I7.unpinned,r7,q7⟩
end
theorem for_range {lo : Int} {n : Nat} {g : TG} {tb : TS} {D : Ends} {σ : St} {H : Hp} (Pv : Nat → St → Hp → Prop) (h0 : Pv 0 σ H)
    (hs : ∀ i σ H,i < n → Pv i σ H → g (.int (lo + i)) σ H fun σ2 H2 => tb { D with nx := Pv (i + 1),ct := Pv (i + 1),bk := D.nx } σ2 H2) (hd : ∀ σ H,Pv n σ H → D.nx σ H) :
    ∃ W : Nat → Nat → St → Hp → Prop,(∃ m,W 0 m σ H) ∧ ∀ i m σ H,W i m σ H →
      ((Itr lo n).stop i H ∧ D.nx σ H) ∨ ((Itr lo n).go i H ∧ ∃ N : St → Hp → Prop,(∀ σ' H',N σ' H' → ∃ m',m' < m ∧ W (i + 1) m' σ' H') ∧ ∀ x H',(Itr lo n).yld i H x H' → g x σ H' fun σ2 H2 => tb { D with nx := N,ct := N,bk := D.nx } σ2 H2) := by
  refine ⟨fun i m σ H => m = n - i ∧ i ≤ n ∧ Pv i σ H,⟨n,by simp,Nat.zero_le _,h0⟩,?_⟩
  rintro i m σ H ⟨rfl,hi,p⟩
  by_cases hlt : i < n
  · refine .inr ⟨hlt,Pv (i + 1),fun σ' H' p' => ⟨n - (i + 1),by omega,rfl,hlt,p'⟩,fun x H' y => ?_⟩
    obtain ⟨e,y⟩ := y
    subst e y
    exact hs i σ _ hlt p
  · have e : i = n := by omega
    subst e
    exact .inl ⟨Nat.le_refl _,hd σ H p⟩
end L2
namespace L2
open PySem PySem.Spec PyProof.Rows
noncomputable abbrev R2 := V → V → Hp → VK → Prop
noncomputable def OpR (X : Cx) (f : Value → Value → Sem Value) (r : R2) : Prop :=
  ∀ (pins : List (Addr × Obj)) (s : Shared) (σ : St) (H : Hp) (x y : V) (v u : Value) (Q : VK),Inv X pins σ H s → RelV x v → RelV y u → r x y H Q →
    wpAny (model X.prog X.w) X.A (f v u) (EP X pins σ Q) X.xe s
noncomputable def UnR (X : Cx) (f : Value → Sem Value) (r : V → Hp → VK → Prop) : Prop :=
  ∀ (pins : List (Addr × Obj)) (s : Shared) (σ : St) (H : Hp) (x : V) (v : Value) (Q : VK),Inv X pins σ H s → RelV x v → r x H Q →
    wpAny (model X.prog X.w) X.A (f v) (EP X pins σ Q) X.xe s
noncomputable def CallR (X : Cx) (f : Value) (r : List V → Hp → VK → Prop) : Prop :=
  ∀ (pins : List (Addr × Obj)) (s : Shared) (σ : St) (H : Hp) (xs : List V) (us : List Value) (Q : VK),Inv X pins σ H s → Vals xs us → r xs H Q →
    wpAny (model X.prog X.w) X.A (call f us) (EP X pins σ Q) X.xe s
noncomputable def tOp (r : R2) (ta tb : TE) : TE := fun σ H Q => ta σ H fun x H1 => tb σ H1 fun y H2 => r x y H2 Q
noncomputable def tUn (r : V → Hp → VK → Prop) (ta : TE) : TE := fun σ H Q => ta σ H fun x H1 => r x H1 Q
inductive SII (C : Int → Int → Prop) (g : Int → Int → V) (x y : V) (H : Hp) (Q : VK) : Prop | mk (i j : Int) (hx : x = .int i) (hy : y = .int j) (c : C i j) (q : Q (g i j) H)
noncomputable def rI (C : Int → Int → Prop) (g : Int → Int → V) : R2 := fun x y H Q => SII C g x y H Q
inductive SI0 (g : Int → Int → V) (x y : V) (H : Hp) (Q : VK) : Prop | mk (i j : Int) (hx : x = .int i) (hy : y = .int j) (q : Q (g i j) H)
noncomputable def rI0 (g : Int → Int → V) : R2 := fun x y H Q => SI0 g x y H Q
inductive SU (g : Int → V) (x : V) (H : Hp) (Q : VK) : Prop | mk (i : Int) (hx : x = .int i) (q : Q (g i) H)
noncomputable def rU (g : Int → V) : V → Hp → VK → Prop := fun x H Q => SU g x H Q
section
variable {X : Cx} {a b c : Expr} {ta tb tc : TE} {pos : Pos}
theorem binT (ha : PE X a ta) (hb : PE X b tb) {pins : List (Addr × Obj)} {s : Shared} {σ : St} {H : Hp} {R : V → V → Hp → Prop} (I : Inv X pins σ H s)
    (h : ta σ H fun x H1 => tb σ H1 fun y H2 => R x y H2) {Q : Value → Shared → Prop} {f : Value → Value → Sem Value}
    (hf : ∀ v u s2 x y H2,Inv X pins σ H2 s2 → RelV x v → RelV y u → R x y H2 → wpAny (model X.prog X.w) X.A (f v u) Q X.xe s2) :
    wpAny (model X.prog X.w) X.A (eval a X.env) (fun v s₁ => wpAny (model X.prog X.w) X.A (eval b X.env) (fun u s₂ => wpAny (model X.prog X.w) X.A (f v u) Q X.xe s₂) X.xe s₁) X.xe s := by
  refine thn (ha pins s σ H _ I h) fun v s1 ⟨x,H1,I1,r1,q1⟩ => ?_
  refine thn (hb pins s1 σ H1 _ I1 q1) fun u s2 ⟨y,H2,I2,r2,q2⟩ => ?_
  exact hf v u s2 x y H2 I2 r1 r2 q2
theorem pe_op {op : Operator} {r : R2} (ho : OpR X (binaryOp op) r) (ha : PE X a ta) (hb : PE X b tb) : PE X (.BinOp a op b pos) (tOp r ta tb) := by
  intro pins s σ H Q I h
  exact wpAny_BinOp (binT ha hb I h fun v u s2 x y H2 I2 rx ry q => ho pins s2 σ H2 x y v u Q I2 rx ry q)
theorem pe_un {op : UnaryOp} {r : V → Hp → VK → Prop} (ho : UnR X (unaryOp op) r) (ha : PE X a ta) : PE X (.UnaryOp op a pos) (tUn r ta) := by
  intro pins s σ H Q I h
  exact UnaryOp_ (thn (ha pins s σ H _ I h) fun v s1 ⟨x,H1,I1,r1,q1⟩ => ho pins s1 σ H1 x v Q I1 r1 q1)
theorem opI {f : Value → Value → Sem Value} {C : Int → Int → Prop} {g : Int → Int → Int}
    (rule : ∀ (i j : Int) (t u : Tok) (s : Shared) (Q : Value → Shared → Prop) (E : Value → Shared → Prop),C i j → Q (.int (g i j) s.toks) { s with toks := s.toks + 1 } → wpAny (model X.prog X.w) X.A (f (.int i t) (.int j u)) Q E s) :
    OpR X f (rI C fun i j => .int (g i j)) := by
  intro pins s σ H x y v u Q I rx ry h
  obtain ⟨i,j,rfl,rfl,hc,q⟩ := h
  obtain ⟨t,rfl⟩ := rx
  obtain ⟨t',rfl⟩ := ry
  exact rule i j t t' s _ _ hc ⟨.int (g i j),H,I.tok _,⟨_,rfl⟩,q⟩
theorem opI0 {f : Value → Value → Sem Value} {g : Int → Int → Int}
    (rule : ∀ (i j : Int) (t u : Tok) (s : Shared) (Q : Value → Shared → Prop) (E : Value → Shared → Prop),Q (.int (g i j) s.toks) { s with toks := s.toks + 1 } → wpAny (model X.prog X.w) X.A (f (.int i t) (.int j u)) Q E s) :
    OpR X f (rI0 fun i j => .int (g i j)) := by
  intro pins s σ H x y v u Q I rx ry h
  obtain ⟨i,j,rfl,rfl,q⟩ := h
  obtain ⟨t,rfl⟩ := rx
  obtain ⟨t',rfl⟩ := ry
  exact rule i j t t' s _ _ ⟨.int (g i j),H,I.tok _,⟨_,rfl⟩,q⟩
theorem opB0 {f : Value → Value → Sem Value} {g : Int → Int → Bool}
    (rule : ∀ (i j : Int) (t u : Tok) (s : Shared) (Q : Value → Shared → Prop) (E : Value → Shared → Prop),Q (.bool (g i j)) s → wpAny (model X.prog X.w) X.A (f (.int i t) (.int j u)) Q E s) :
    OpR X f (rI0 fun i j => .bl (g i j)) := by
  intro pins s σ H x y v u Q I rx ry h
  obtain ⟨i,j,rfl,rfl,q⟩ := h
  obtain ⟨t,rfl⟩ := rx
  obtain ⟨t',rfl⟩ := ry
  exact rule i j t t' s _ _ ⟨.bl (g i j),H,I,rfl,q⟩
noncomputable def CDiv (i j : Int) : Prop := 0 < j ∧ j < 1073741824
noncomputable def CPow (i j : Int) : Prop := 0 ≤ j ∧ j ≤ 1000000 ∧ i.natAbs < 2 ^ 64
theorem op_add : OpR X (binaryOp .Add) (rI0 fun i j => .int (i + j)) := opI0 fun _ _ _ _ _ _ _ q => add_int q
theorem op_sub : OpR X (binaryOp .Sub) (rI0 fun i j => .int (i - j)) := opI0 fun _ _ _ _ _ _ _ q => sub_int q
theorem op_fdiv : OpR X (binaryOp .FloorDiv) (rI CDiv fun i j => .int (i / j)) := opI fun i j _ _ _ _ _ hc q => by
  have h1 : (0 : Int) < j := hc.1
  have h2 : j < 1073741824 := hc.2
  exact floordiv_int (by omega) (by rw [Int.fdiv_eq_ediv_of_nonneg i (by omega)]; exact q) (.inl (PyProof.noPylong_small (by omega)))
theorem op_mod : OpR X (binaryOp .Mod) (rI (fun _ j => 0 < j) fun i j => .int (i % j)) := opI fun i j _ _ _ _ _ hc q => by
  have h1 : (0 : Int) < j := hc
  exact mod_int' (by omega) (by rw [Int.fmod_eq_emod_of_nonneg i (by omega)]; exact q)
theorem op_pow : OpR X (binaryOp .Pow) (rI CPow fun i j => .int (i ^ j.toNat)) := opI fun _ _ _ _ _ _ _ hc q => pow_int_small hc.1 hc.2.1 hc.2.2 q
theorem unI {f : Value → Sem Value} {g : Int → Int}
    (rule : ∀ (i : Int) (t : Tok) (s : Shared) (Q : Value → Shared → Prop) (E : Value → Shared → Prop),Q (.int (g i) s.toks) { s with toks := s.toks + 1 } → wpAny (model X.prog X.w) X.A (f (.int i t)) Q E s) :
    UnR X f (rU fun i => .int (g i)) := by
  intro pins s σ H x v Q I rx h
  obtain ⟨i,rfl,q⟩ := h
  obtain ⟨t,rfl⟩ := rx
  exact rule i t s _ _ ⟨.int (g i),H,I.tok _,⟨_,rfl⟩,q⟩
theorem un_neg : UnR X (unaryOp .USub) (rU fun i => .int (-i)) := unI fun _ _ _ _ _ q => neg_int q
end
noncomputable def scal : V → V → Bool
  | .non,.non => true | .non,.int _ => true | .int _,.non => true | .non,.bl _ => true | .bl _,.non => true | .non,.str _ => true | .str _,.non => true
  | .int _,.int _ => true | .bl _,.bl _ => true | .str _,.str _ => true | .byt _,.byt _ => true
  | .int _,.str _ => true | .str _,.int _ => true | .bl _,.str _ => true | .str _,.bl _ => true
  | _,_ => false
noncomputable def rEq : R2 := fun x y H Q => scal x y = true ∧ Q (.bl (decide (x = y))) H
noncomputable def rNe : R2 := fun x y H Q => scal x y = true ∧ Q (.bl (!decide (x = y))) H
theorem dec_int {i j : Int} : decide (V.int i = V.int j) = (i == j) := by
  rw [Bool.eq_iff_iff]
  simp
theorem dec_bl {i j : Bool} : decide (V.bl i = V.bl j) = (i == j) := by
  rw [Bool.eq_iff_iff]
  simp
theorem dec_str {i j : Str} : decide (V.str i = V.str j) = (i == j) := by
  rw [Bool.eq_iff_iff]
  simp
theorem dec_byt {i j : Array UInt8} : decide (V.byt i = V.byt j) = (i.toList == j.toList) := by
  rw [Bool.eq_iff_iff]
  cases i
  cases j
  simp
section
variable {X : Cx} {a b c : Expr} {ta tb tc : TE} {pos : Pos}
theorem fin_bl {pins : List (Addr × Obj)} {σ : St} {H : Hp} {s : Shared} {Q : VK} {k k' : Bool} (I : Inv X pins σ H s) (q : Q (.bl k) H) (e : k = k') : EP X pins σ Q (.bool k') s := by
  subst e
  exact ⟨.bl k,H,I,rfl,q⟩
theorem op_eq : OpR X (compareOp .Eq) rEq := by
  intro pins s σ H x y v u Q I rx ry h
  obtain ⟨hs,q⟩ := h
  cases x with
  | non =>
    cases rx
    cases y with
    | non => cases ry; exact PySem.EqNone.eq_none_none (fin_bl I q (by simp))
    | bl j => cases ry; exact PySem.EqNone.eq_none_bool (fin_bl I q (by simp))
    | int j => obtain ⟨t',rfl⟩ := ry; exact PySem.EqNone.eq_none_int (fin_bl I q (by simp))
    | str j => obtain ⟨t',rfl⟩ := ry; exact PySem.EqNone.eq_none_str (fin_bl I q (by simp))
    | _ => exact absurd (show false = true from hs) Bool.false_ne_true
  | bl i =>
    cases rx
    cases y with
    | non => cases ry; exact PySem.EqNone.eq_bool_none (fin_bl I q (by simp))
    | bl j => cases ry; exact eq_bool (fin_bl I q dec_bl)
    | str j => obtain ⟨t',rfl⟩ := ry; exact PySem.EqMixed.eq_bool_str (fin_bl I q (by simp))
    | _ => exact absurd (show false = true from hs) Bool.false_ne_true
  | int i =>
    obtain ⟨t,rfl⟩ := rx
    cases y with
    | non => cases ry; exact PySem.EqNone.eq_int_none (fin_bl I q (by simp))
    | int j => obtain ⟨t',rfl⟩ := ry; exact eq_int (fin_bl I q dec_int)
    | str j => obtain ⟨t',rfl⟩ := ry; exact PySem.EqMixed.eq_int_str (fin_bl I q (by simp))
    | _ => exact absurd (show false = true from hs) Bool.false_ne_true
  | str i =>
    obtain ⟨t,rfl⟩ := rx
    cases y with
    | non => cases ry; exact PySem.EqNone.eq_str_none (fin_bl I q (by simp))
    | bl j => cases ry; exact PySem.EqMixed.eq_str_bool (fin_bl I q (by simp))
    | int j => obtain ⟨t',rfl⟩ := ry; exact PySem.EqMixed.eq_str_int (fin_bl I q (by simp))
    | str j => obtain ⟨t',rfl⟩ := ry; exact eq_str (fin_bl I q dec_str)
    | _ => exact absurd (show false = true from hs) Bool.false_ne_true
  | byt i =>
    obtain ⟨t,rfl⟩ := rx
    cases y with
    | byt j => obtain ⟨t',rfl⟩ := ry; exact PySem.W.eq_bytes (fin_bl I q dec_byt)
    | _ => exact absurd (show false = true from hs) Bool.false_ne_true
  | _ => cases y <;> exact absurd (show false = true from hs) Bool.false_ne_true
theorem op_ne : OpR X (compareOp .NotEq) rNe := by
  intro pins s σ H x y v u Q I rx ry h
  obtain ⟨hs,q⟩ := h
  cases x with
  | non =>
    cases rx
    cases y with
    | non => cases ry; exact PySem.EqNone.ne_none_none (fin_bl I q (by simp))
    | bl j => cases ry; exact PySem.EqNone.ne_none_bool (fin_bl I q (by simp))
    | int j => obtain ⟨t',rfl⟩ := ry; exact PySem.EqNone.ne_none_int (fin_bl I q (by simp))
    | str j => obtain ⟨t',rfl⟩ := ry; exact PySem.EqNone.ne_none_str (fin_bl I q (by simp))
    | _ => exact absurd (show false = true from hs) Bool.false_ne_true
  | bl i =>
    cases rx
    cases y with
    | non => cases ry; exact PySem.EqNone.ne_bool_none (fin_bl I q (by simp))
    | bl j => cases ry; exact ne_bool (fin_bl I q (congrArg not dec_bl))
    | str j => obtain ⟨t',rfl⟩ := ry; exact PySem.EqMixed.ne_bool_str (fin_bl I q (by simp))
    | _ => exact absurd (show false = true from hs) Bool.false_ne_true
  | int i =>
    obtain ⟨t,rfl⟩ := rx
    cases y with
    | non => cases ry; exact PySem.EqNone.ne_int_none (fin_bl I q (by simp))
    | int j => obtain ⟨t',rfl⟩ := ry; exact ne_int (fin_bl I q (congrArg not dec_int))
    | str j => obtain ⟨t',rfl⟩ := ry; exact PySem.EqMixed.ne_int_str (fin_bl I q (by simp))
    | _ => exact absurd (show false = true from hs) Bool.false_ne_true
  | str i =>
    obtain ⟨t,rfl⟩ := rx
    cases y with
    | non => cases ry; exact PySem.EqNone.ne_str_none (fin_bl I q (by simp))
    | bl j => cases ry; exact PySem.EqMixed.ne_str_bool (fin_bl I q (by simp))
    | int j => obtain ⟨t',rfl⟩ := ry; exact PySem.EqMixed.ne_str_int (fin_bl I q (by simp))
    | str j => obtain ⟨t',rfl⟩ := ry; exact ne_str (fin_bl I q (congrArg not dec_str))
    | _ => exact absurd (show false = true from hs) Bool.false_ne_true
  | byt i =>
    obtain ⟨t,rfl⟩ := rx
    cases y with
    | byt j => obtain ⟨t',rfl⟩ := ry; exact PySem.W.ne_bytes (fin_bl I q (congrArg not dec_byt))
    | _ => exact absurd (show false = true from hs) Bool.false_ne_true
  | _ => cases y <;> exact absurd (show false = true from hs) Bool.false_ne_true
theorem op_lt : OpR X (compareOp .Lt) (rI0 fun i j => .bl (decide (i < j))) := opB0 fun _ _ _ _ _ _ _ q => lt_int q
theorem op_le : OpR X (compareOp .LtE) (rI0 fun i j => .bl (decide (i ≤ j))) := opB0 fun _ _ _ _ _ _ _ q => le_int q
theorem op_gt : OpR X (compareOp .Gt) (rI0 fun i j => .bl (decide (j < i))) := opB0 fun _ _ _ _ _ _ _ q => gt_int q
theorem OpR.or {f : Value → Value → Sem Value} {r r' : R2} (h : OpR X f r) (h' : OpR X f r') : OpR X f (fun x y H Q => r x y H Q ∨ r' x y H Q) := by
  intro pins s σ H x y v u Q I rx ry q
  rcases q with q | q
  · exact h pins s σ H x y v u Q I rx ry q
  · exact h' pins s σ H x y v u Q I rx ry q
theorem nomark (b : Expr) {op : CmpOp} (h : op ≠ .In := by decide) (h2 : op ≠ .NotIn := by decide) : behindInMarks op b = false := by
  have e1 : (op == CmpOp.In) = false := by cases op <;> first | rfl | exact absurd rfl h
  have e2 : (op == CmpOp.NotIn) = false := by cases op <;> first | rfl | exact absurd rfl h2
  cases b <;> simp [behindInMarks,e1,e2]
theorem pe_cmpR {op : CmpOp} {r : R2} (ho : OpR X (compareOp op) r) (ha : PE X a ta) (hb : PE X b tb) (hm : behindInMarks op b = false) : PE X (.Compare a [op] [b] pos) (tOp r ta tb) := by
  intro pins s σ H Q I h
  exact wpAny_Compare1 (binT ha hb I h fun v u s2 x y H2 I2 rx ry q => ho pins s2 σ H2 x y v u Q I2 rx ry q) hm
inductive STst (x : V) (H : Hp) (Q : Bool → Hp → Prop) : Prop | mk (k : Bool) (hx : x = .bl k) (q : Q k H)
noncomputable def tTest (t : TE) : TT := fun σ H Q => t σ H fun x H' => STst x H' Q
theorem pt_cmpR {op : CmpOp} {r : R2} (ho : OpR X (compareOp op) r) (ha : PE X a ta) (hb : PE X b tb) (hm : behindInMarks op b = false) : PT X (.Compare a [op] [b] pos) (tTest (tOp r ta tb)) := by
  intro pins s σ H Q I h
  refine wpAny_isTrue_Compare1 (thn (ha pins s σ H _ I h) fun v s1 ⟨x,H1,I1,r1,q1⟩ => thn (hb pins s1 σ H1 _ I1 q1) fun u s2 ⟨y,H2,I2,r2,q2⟩ =>
    thn (ho pins s2 σ H2 x y v u _ I2 r1 r2 q2) fun c s3 ⟨z,H3,I3,r3,k,e,q3⟩ => ?_) hm
  subst e
  cases r3
  exact wpAny_truthy_bool ⟨H3,I3,q3⟩
theorem isEmpty_kv {κ : Type} {kvs : List (κ × V)} {vs : List (κ × Value)} (r : KV kvs vs) : (!vs.isEmpty) = !kvs.isEmpty := by
  cases r <;> rfl
theorem isEmpty_of {xs : List V} {its : List Value} (r : Vals xs its) : (!its.toArray.isEmpty) = !xs.isEmpty := by
  cases r <;> simp
theorem line63 : (sizeLine : Nat) < 2 ^ 63 := by rw [sizeLine_eq]; decide
theorem op_add_str : OpR X (binaryOp .Add) (fun x y H Q => ∃ i j,x = .str i ∧ y = .str j ∧ i.length + j.length ≤ sizeLine ∧ Q (.str (i ++ j)) H) := by
  intro pins s σ H x y v u Q I rx ry h
  obtain ⟨i,j,rfl,rfl,hz,q⟩ := h
  obtain ⟨t,rfl⟩ := rx
  obtain ⟨t',rfl⟩ := ry
  exact add_str (fun t' tk => ⟨.str (i ++ j),H,I.tok _,⟨_,rfl⟩,q⟩) hz
theorem vals1 {x : V} {us : List Value} (r : Vals [x] us) : ∃ u,us = [u] ∧ RelV x u := by
  cases r with
  | cons r1 r2 => cases r2; exact ⟨_,rfl,r1⟩
theorem vals2 {x y : V} {us : List Value} (r : Vals [x,y] us) : ∃ u w',us = [u,w'] ∧ RelV x u ∧ RelV y w' := by
  cases r with
  | cons r1 r2 =>
    cases r2 with
    | cons r3 r4 => cases r4; exact ⟨_,_,rfl,r1,r3⟩
theorem call_abs : CallR X (.builtin "abs") (fun xs H Q => ∃ i,xs = [.int i] ∧ Q (.int (if i < 0 then -i else i)) H) := by
  intro pins s σ H xs us Q I r h
  obtain ⟨i,rfl,q⟩ := h
  obtain ⟨u,rfl,t,rfl⟩ := vals1 r
  exact call_abs_int fun u tk => ⟨.int (if i < 0 then -i else i),H,I.tok _,⟨_,rfl⟩,q⟩
theorem call_max2 (hc : X.calm = true) : CallR X (.builtin "max") (fun xs H Q => ∃ i j,xs = [.int i,.int j] ∧ Q (.int (if j > i then j else i)) H) := by
  intro pins s σ H xs us Q I r h
  obtain ⟨i,j,rfl,q⟩ := h
  obtain ⟨u,w',rfl,⟨t,rfl⟩,⟨t',rfl⟩⟩ := vals2 r
  refine max_two_ints (I.ok.hd hc) fun h' tk k => ⟨_,H,I.kept k,?_,q⟩
  by_cases hj : j > i
  · rw [if_pos hj,if_pos hj]; exact ⟨_,rfl⟩
  · rw [if_neg hj,if_neg hj]; exact ⟨_,rfl⟩
theorem call_min2 (hc : X.calm = true) : CallR X (.builtin "min") (fun xs H Q => ∃ i j,xs = [.int i,.int j] ∧ Q (.int (if j < i then j else i)) H) := by
  intro pins s σ H xs us Q I r h
  obtain ⟨i,j,rfl,q⟩ := h
  obtain ⟨u,w',rfl,⟨t,rfl⟩,⟨t',rfl⟩⟩ := vals2 r
  refine min_two_ints (I.ok.hd hc) fun h' tk k => ⟨_,H,I.kept k,?_,q⟩
  by_cases hj : j < i
  · rw [if_pos hj,if_pos hj]; exact ⟨_,rfl⟩
  · rw [if_neg hj,if_neg hj]; exact ⟨_,rfl⟩
noncomputable def LenV (K : PySem.W.Frag) (x : V) (H : Hp) (n : Nat) : Prop :=
  match x with
  | .str y => y.length ≤ sizeLine ∧ n = y.length
  | .byt y => y.size ≤ sizeLine ∧ n = y.size
  | .ref p => (∃ xs,SqL K H p xs ∧ n = xs.length) ∨ ∃ xs,SqT K H p xs ∧ n = xs.length
  | _ => False
theorem call_len : CallR X (.builtin "len") (fun xs H Q => ∃ x n,xs = [x] ∧ LenV X.K x H n ∧ Q (.int n) H) := by
  intro pins s σ H xs us Q I r h
  obtain ⟨x,n,rfl,e,q⟩ := h
  obtain ⟨u,rfl,rx⟩ := vals1 r
  have hl := line63
  have hs : sizeLine = 16777216 := sizeLine_eq
  cases x with
  | str y =>
    obtain ⟨t,rfl⟩ := rx
    obtain ⟨hy,e'⟩ : y.length ≤ sizeLine ∧ n = y.length := e
    subst e'
    exact len_str (by omega) ⟨.int _,H,I.tok _,⟨_,rfl⟩,q⟩
  | byt y =>
    obtain ⟨t,rfl⟩ := rx
    obtain ⟨hy,e'⟩ : y.size ≤ sizeLine ∧ n = y.size := e
    subst e'
    exact PySem.W.len_bytes (by omega) ⟨.int _,H,I.tok _,⟨_,rfl⟩,q⟩
  | ref p =>
    cases rx
    have e' : (∃ xs,SqL X.K H p xs ∧ n = xs.length) ∨ ∃ xs,SqT X.K H p xs ∧ n = xs.length := e
    rcases e' with ⟨xs,hx,e'⟩ | ⟨xs,hx,e'⟩
    · subst e'
      obtain ⟨its,r',pl,hz⟩ := I.list hx
      have hlen := r'.length
      exact Calls.call_len_list pl.isList (by simp only [List.size_toArray]; omega) ⟨.int xs.length,H,I.tok _,⟨_,by simp only [List.size_toArray]; rw [hlen]⟩,q⟩
    · subst e'
      obtain ⟨its,r',pl,hz⟩ := I.tuple hx
      have hlen := r'.length
      exact len_tuple pl (by simp only [List.size_toArray]; omega) ⟨.int xs.length,H,I.tok _,⟨_,by simp only [List.size_toArray]; rw [hlen]⟩,q⟩
  | _ => exact (show False from e).elim
end
end L2
namespace L2
open PySem PySem.Spec PyProof.Rows
section
variable {prog : Program} {w : World} {A : Around} {E : Value → Shared → Prop} {s : Shared} {K : PySem.W.Frag} {x dx C f : Addr} {mA : Str → Option Value} {name : Str} {v : Value}
end
theorem RelO.some_of {v : V} {o : Option Value} (r : RelO (some v) o) : ∃ u,o = some u ∧ RelV v u := by
  cases o with
  | none => exact (show False from r).elim
  | some u => exact ⟨u,rfl,r⟩
theorem RelO.none_of {o : Option Value} (r : RelO none o) : o = none := by
  cases o with
  | none => rfl
  | some u => exact (show False from r).elim
section
variable {P : Program} {w : World} {H H' : Hp} {h h' : Heap} {a C dx : Addr} {fs fs' : List (Str × V)}
end
section
variable {X : Cx} {pins : List (Addr × Obj)} {σ : St} {H : Hp} {s : Shared} {a C dx : Addr} {fs : List (Str × V)} {f : Str} {v : V} {A : Around} {E : Value → Shared → Prop}
end
section
variable {X : Cx} {o e value : Expr} {f : Str} {pos pos' tpos : Pos} {ta tv : TE}
end
section
variable {X : Cx} {pins : List (Addr × Obj)} {σ : St} {H : Hp} {s : Shared} {A : Around} {E : Value → Shared → Prop} {Q : Value → Shared → Prop} {c : Value} {b : Bool}
end
end L2
namespace L2
open PySem PySem.Spec PyProof.Rows
structure Room (k : Nat) (A : Around) : Prop where
  hd : A.handled = none
  dp : A.depth + 3 * k + 5 < recursionLimit
  un : A.units + 16 * k + 200 < cLine
theorem Room.mono {j k : Nat} {A : Around} (r : Room k A) (h : j ≤ k) : Room j A := ⟨r.hd,by have := r.dp; omega,by have := r.un; omega⟩
theorem Room.deeper {k : Nat} {A : Around} (r : Room (k + 1) A) (env : Env) : Room k (A.deeper env) :=
  ⟨r.hd,by have := r.dp; show A.depth + 1 + 3 * k + 5 < _; omega,by have := r.un; show A.units + 3 + 16 * k + 200 < _; omega⟩
theorem Room.depth {k : Nat} {A : Around} (r : Room k A) : A.depth < recursionLimit := by have := r.dp; omega
theorem Room.units {k : Nat} {A : Around} (r : Room k A) : A.units + 64 < cLine := by have := r.un; omega
theorem Room.units0 {k : Nat} {A : Around} (r : Room k A) : A.units < cLine := by have := r.un; omega
noncomputable def tNil : TA := fun _ H Q => Q [] H
noncomputable def tCons (ta : TE) (tr : TA) : TA := fun σ H Q => ta σ H fun x H1 => tr σ H1 fun xs H2 => Q (x :: xs) H2
section
variable {X : Cx} {e : Expr} {es : List Expr} {te : TE} {t : TA} {pos : Pos}
theorem pa_nil : PA X [] tNil := fun _ _ _ _ H Q I h => Calls.spliced_nil ⟨[],H,I,.nil,h⟩
theorem pa_cons (ha : PE X e te) (hr : PA X es t) (hs : starEach (e :: es) X.env = (false,eval e X.env) :: starEach es X.env := by rfl) : PA X (e :: es) (tCons te t) := by
  intro pos pins s σ H Q I h
  rw [hs]
  show wpAny _ _ (spliced ((false,eval e X.env) :: backTo pos (starEach es X.env))) _ _ s
  refine Calls.spliced_cons (thn (ha pins s σ H _ I h) fun u s1 ⟨x,H1,I1,r1,q1⟩ => ?_)
  exact thn (hr pos pins s1 σ H1 _ I1 q1) fun us s2 ⟨xs,H2,I2,r2,q2⟩ => ⟨x :: xs,H2,I2,.cons r1 r2,q2⟩
inductive SNew (xs : List V) (o : HO) (H : Hp) (Q : VK) : Prop | mk (hz : xs.length ≤ sizeLine) (q : ∀ p,H p = none → Q (.ref p) (upd H p o))
noncomputable def tTup (t : TA) : TE := fun σ H Q => t σ H fun xs H1 => SNew xs (.tup xs) H1 Q
noncomputable def tLst (t : TA) : TE := fun σ H Q => t σ H fun xs H1 => SNew xs (.lst xs) H1 Q
theorem pe_tup {x1} (h : PA X es t) : PE X (.Tuple es x1 pos) (tTup t) := by
  intro pins s σ H Q I hq
  refine wpAny_Tuple_spliced (thn (h pos pins s σ H _ I hq) fun us s1 ⟨xs,H1,I1,r,z,q⟩ => ⟨by rw [← r.length]; exact z,?_⟩)
  have hf : H1 s1.heap.objs.size = none := I1.hok.fresh (Nat.le_refl _)
  refine ⟨.ref s1.heap.objs.size,upd H1 s1.heap.objs.size (.tup xs),I1.laid (t' := s1.toks) (fun b u e => Heap.get?_push_of_some _ e) (Nat.le_refl _) ?_,rfl,q _ hf⟩
  exact ⟨z,us,r,⟨_,Heap.get?_push_size _ rfl,rfl,_,rfl⟩⟩
theorem pe_lst (h : PA X es t) : PE X (.List es pos) (tLst t) := by
  intro pins s σ H Q I hq
  refine wpAny_List_spliced (thn (h pos pins s σ H _ I hq) fun us s1 ⟨xs,H1,I1,r,z,q⟩ => ⟨by rw [← r.length]; exact z,?_⟩)
  have hf : H1 s1.heap.objs.size = none := I1.hok.fresh (Nat.le_refl _)
  refine ⟨.ref s1.heap.objs.size,upd H1 s1.heap.objs.size (.lst xs),I1.laid (t' := s1.toks) (fun b u e => Heap.get?_push_of_some _ e) (Nat.le_refl _) ?_,rfl,q _ hf⟩
  exact ⟨z,us,0,r,Heap.get?_push_size _ rfl⟩
end
noncomputable abbrev Sp := List V → Hp → VK → XK → Prop
noncomputable abbrev CXT := List Env → Hp → Shared → XK → Value → Shared → Prop
structure Env0 (P : Program) (w : World) (K : PySem.W.Frag) (mg : Str → Option Value) (base : Heap) (A : Around) (outer : List Env) (s : Shared) (H : Hp) : Prop where
  frames : A.frames = some outer
  mod : Mod K mg base
  bs : ∀ b o,base.get? b = some o → s.heap.get? b = some o ∧ H b = none
  bsz : base.objs.size ≤ s.heap.objs.size
  funs : s.heap.FunFrames base outer
  frf : ∀ b ∈ frs outer,H b = none
  hok : HOk P w H s.heap
  bare : AllBare s.gens
noncomputable def CE (outer : List Env) (P : Program) (w : World) (H : Hp) (s : Shared) (Q : VK) (u : Value) (s' : Shared) : Prop :=
  ∃ v H',s'.os = s.os ∧ AllBare s'.gens ∧ Un (frs outer) [] H H' s.heap s'.heap ∧ HOk P w H' s'.heap ∧ RelV v u ∧ Q v H'
noncomputable def CR (CX : CXT) (outer : List Env) (P : Program) (w : World) (H : Hp) (s : Shared) (Q : VK) (E : XK) (r : Result) (s' : Shared) : Prop :=
  match r with
  | .ok (.ret u) => CE outer P w H s Q u s'
  | .ok _ => False
  | .error e => CX outer H s E e s'
structure FnOk (P : Program) (w : World) (K : PySem.W.Frag) (mg : Str → Option Value) (base : Heap) (CX : CXT) (k : Nat) (f : Addr) (fd : FuncData) (ps : List Str) (sp : Sp) : Prop where
  len : ∀ vs H Q E,sp vs H Q E → vs.length = ps.length
  run : ∀ (A : Around) (outer : List Env) (s : Shared) (H : Hp) (args : Args) (us : List Value) (vs : List V) (Q : VK) (E : XK),Room k A → Env0 P w K mg base A outer s H → BindsTo s fd args (ps.zip us) → Vals vs us → sp vs H Q E →
    codeAny (model P w) A (.call (.ref f) args) (CR CX outer P w H s Q E) s
section
variable {X : Cx} {pins : List (Addr × Obj)} {σ : St} {H : Hp} {s s' : Shared}
theorem Inv.env0 (I : Inv X pins σ H s) : Env0 X.prog X.w X.K X.mg X.base X.A X.stack s H :=
  ⟨I.ok.frames,I.ok.mod,I.bs,Nat.le_trans I.ok.bsz I.sz,I.stack,I.stkFree,I.hok,I.bare⟩
theorem Inv.after {Q : VK} {u : Value} (I : Inv X pins σ H s) (h : CE X.stack X.prog X.w H s Q u s') : EP X pins σ Q u s' := by
  obtain ⟨v,H',os,bare,un,hok,r,q⟩ := h
  obtain ⟨hh,g,d,t,os'⟩ := s'
  obtain rfl : os' = s.os := os
  exact ⟨v,H',I.call (h' := hh) (g' := g) (d' := d) (t' := t) (ch := []) un hok bare (fun b z => absurd z (by simp)),r,q⟩
end
noncomputable def tCall (sp : Sp) (dvs : List V) (E : XK) (t : TA) : TE := fun σ H Q => t σ H fun vs H1 => sp (vs ++ dvs) H1 Q E
noncomputable def Binds (K : PySem.W.Frag) (fd : FuncData) (ps : List Str) (ds : List Value) : Prop :=
  ∀ (s : Shared) (us : List Value),K.In s.heap → (us ++ ds).length = ps.length → BindsTo s fd ⟨us,[]⟩ (ps.zip (us ++ ds))
theorem Binds.all {K : PySem.W.Frag} {fd : FuncData} {ps : List Str} (h : ∀ us : List Value,us.length = ps.length → bindArgs fd ⟨us,[]⟩ = pure (ps.zip us)) : Binds K fd ps [] := fun s us _ hl => by
  rw [List.append_nil] at hl ⊢
  exact .of_eq (h us hl)
noncomputable def Passes (CX : CXT) (X : Cx) (E : XK) : Prop := ∀ (pins : List (Addr × Obj)) (σ : St) (H : Hp) (s : Shared) (e : Value) (s' : Shared),Inv X pins σ H s → CX X.stack H s E e s' → X.xe e s'
section
variable {X : Cx} {CX : CXT} {k : Nat} {f C : Addr} {fd : FuncData} {ps : List Str} {sp : Sp} {dvs : List V} {ds : List Value} {E : XK} {x m : Str} {p pos apos : Pos} {e o : Expr} {es : List Expr} {ta : TE} {t : TA}
theorem run_fn {pins : List (Addr × Obj)} {σ : St} {H : Hp} {s : Shared} {Q : VK} {us : List Value} {vs : List V} (F : FnOk X.prog X.w X.K X.mg X.base CX k f fd ps sp) (hr : Room k X.A) (hb : Binds X.K fd ps ds) (hd : Vals dvs ds) (hx : Passes CX X E)
    (I : Inv X pins σ H s) (r : Vals vs us) (h : sp (vs ++ dvs) H Q E) : wpAny (model X.prog X.w) X.A (call (.ref f) us) (EP X pins σ Q) X.xe s := by
  have r2 : Vals (vs ++ dvs) (us ++ ds) := r.append hd
  have hl : (us ++ ds).length = ps.length := by rw [← r2.length]; exact F.len _ _ _ _ h
  refine wpAny_call (codeAny_mono (F.run X.A X.stack s H ⟨us,[]⟩ (us ++ ds) (vs ++ dvs) Q E hr I.env0 (hb s us I.kIn hl) r2 h) fun r s' hq => ?_)
  cases r with
  | error e => exact hx pins σ H s e s' I hq
  | ok fl =>
    cases fl with
    | ret u => exact I.after hq
    | next => exact False.elim hq
    | brk => exact False.elim hq
    | cont => exact False.elim hq
theorem pe_call (F : FnOk X.prog X.w X.K X.mg X.base CX k f fd ps sp) (hr : Room k X.A) (hg : Gl X x) (hm : X.mg x = some (.ref f)) (hk : PySem.W.keepIn X.K (.ref f) = true) (hb : Binds X.K fd ps ds) (hd : Vals dvs ds) (hx : Passes CX X E)
    (ha : PA X (e :: es) t) (hdb : (x == ("__debug__" : Str)) = false := by decide) (he : starEach (e :: es) X.env = (false,eval e X.env) :: starEach es X.env := by rfl) (hpl : (backTo pos (starEach es X.env)).any (·.1) = false := by rfl) :
    PE X (.Call (.Name x p) (e :: es) [] pos) (tCall sp dvs E t) := by
  intro pins s σ H Q I h
  refine wpAny_Call_Name_kw (ld_glob I hg hm ?_ hdb)
  refine PySem.W.callWith_K (h₀ := X.base) I.ok.mod.kin hk (thn (ha pos pins s σ H _ I h) fun us s1 ⟨vs,H1,I1,r,q⟩ => ⟨I1.kIn,?_⟩) he hpl
  exact run_fn F hr hb hd hx I1 r q
end
section
variable {X : Cx} {CX : CXT} {k : Nat} {f C : Addr} {fd : FuncData} {ps ks : List Str} {sp : Sp} {E : XK} {x m : Str} {p pos apos kpos : Pos} {e o : Expr} {es : List Expr} {kws : List Keyword} {te ta : TE} {t tk : TA} {nm : Option Str}
variable {g : List Value → List Value → List Value} {gV : List V → List V → List V}
end
structure FnScope (N P : List Str) (sc : Scope) : Prop where
  kind : sc.kind = .function
  co : sc.isCoroutine = false
  gen : sc.isGenerator = false
  nd : N.Nodup
  pre : N.take P.length = P
  par : ∀ x ∈ P,sc.names.lookup x = some .local ∨ sc.names.lookup x = some .cell
  nofree : ∀ y ∈ sc.names,y.2 ≠ .free
theorem bindL_out {kindOf : Str → Option NameKind} {x : Str} : ∀ {binds : List (Str × Value)} {m : Str → Option Value},(∀ v,(x,v) ∉ binds) → bindL kindOf binds m x = m x
  | [],_,_ => rfl
  | (n,v) :: r,m,h => by
    unfold bindL
    rw [bindL_out fun w hw => h w (List.mem_cons_of_mem _ hw)]
    split
    · have : x ≠ n := by rintro rfl; exact h v List.mem_cons_self
      simp [this]
    · rfl
theorem bindC_out {kindOf : Str → Option NameKind} {x : Str} : ∀ {binds : List (Str × Value)} {m : Str → Option Value},(∀ v,(x,v) ∉ binds) → bindC kindOf binds m x = m x
  | [],_,_ => rfl
  | (n,v) :: r,m,h => by
    unfold bindC
    rw [bindC_out fun w hw => h w (List.mem_cons_of_mem _ hw)]
    split
    · rfl
    · have : x ≠ n := by rintro rfl; exact h v List.mem_cons_self
      simp [this]
theorem bindL_get {kindOf : Str → Option NameKind} {x : Str} {v : Value} : ∀ {P : List Str} {vs : List Value} {i : Nat} {m : Str → Option Value},P.Nodup → P[i]? = some x → vs[i]? = some v → kindOf x = some .local →
    bindL kindOf (P.zip vs) m x = some v
  | [],_,_,_,_,h,_,_ => by simp at h
  | _ :: _,[],_,_,_,_,h,_ => by simp at h
  | p :: P,w :: vs,0,m,nd,h1,h2,hk => by
    simp at h1 h2; subst h1; subst h2
    show bindL kindOf ((p,w) :: P.zip vs) m p = _
    unfold bindL
    rw [bindL_out fun v hv => (List.nodup_cons.mp nd).1 (List.of_mem_zip hv).1,if_pos hk]
    simp
  | p :: P,w :: vs,i + 1,m,nd,h1,h2,hk => by
    show bindL kindOf ((p,w) :: P.zip vs) m x = _
    unfold bindL
    exact bindL_get (i := i) (List.nodup_cons.mp nd).2 (by simpa using h1) (by simpa using h2) hk
theorem bindC_get {kindOf : Str → Option NameKind} {x : Str} {v : Value} : ∀ {P : List Str} {vs : List Value} {i : Nat} {m : Str → Option Value},P.Nodup → P[i]? = some x → vs[i]? = some v → kindOf x ≠ some .local →
    bindC kindOf (P.zip vs) m x = some v
  | [],_,_,_,_,h,_,_ => by simp at h
  | _ :: _,[],_,_,_,_,h,_ => by simp at h
  | p :: P,w :: vs,0,m,nd,h1,h2,hk => by
    simp at h1 h2; subst h1; subst h2
    show bindC kindOf ((p,w) :: P.zip vs) m p = _
    unfold bindC
    rw [bindC_out fun v hv => (List.nodup_cons.mp nd).1 (List.of_mem_zip hv).1,if_neg hk]
    simp
  | p :: P,w :: vs,i + 1,m,nd,h1,h2,hk => by
    show bindC kindOf ((p,w) :: P.zip vs) m x = _
    unfold bindC
    exact bindC_get (i := i) (List.nodup_cons.mp nd).2 (by simpa using h1) (by simpa using h2) hk
noncomputable def start (N : List Str) (vs : List V) : St := vs.map some ++ List.replicate (N.length - vs.length) none
noncomputable def cxOf (CX : CXT) (P : Program) (w : World) (K : PySem.W.Frag) (mg : Str → Option Value) (base : Heap) (N : List Str) (qual : Str) (scope : Scope) (f : Addr) (cd : Value) (A : Around) (outer : List Env) (s : Shared) (H : Hp) (E : XK) : Cx where
  prog := P
  w := w
  K := K
  mg := mg
  base := base
  A := A.deeper (envOfC qual scope s.heap.objs.size f cd)
  N := N
  s₀ := s
  H₀ := H
  env := envOfC qual scope s.heap.objs.size f cd
  outer := outer
  stack := envOfC qual scope s.heap.objs.size f cd :: outer
  ex := []
  calm := true
  fn := fun _ => true
  pn := []
  xe := fun e s' => wpAny (model P w) (A.deeper (envOfC qual scope s.heap.objs.size f cd)) (leaving (envOfC qual scope s.heap.objs.size f cd) e) (fun _ s'' => CX outer H s E e s'') (fun e' s'' => CX outer H s E e' s'') s'
theorem cell_has {sc : Scope} {n : Nat} {x : Str} (h : sc.names.lookup x = some .cell) : ∃ c,(cellsFrom n sc.names []).lookup x = some c := by
  have q := PySem.W.cellsFrom_some sc.names n [] (.inl h)
  exact Option.isSome_iff_exists.mp q
theorem inv_start {CX : CXT} {P : Program} {w : World} {K : PySem.W.Frag} {mg : Str → Option Value} {base : Heap} {N ps : List Str} {qual : Str} {scope : Scope} {f : Addr} {cd : Value} {A : Around} {outer : List Env} {s s1 : Shared} {H : Hp} {E : XK} {us : List Value} {vs : List V}
    (S : FnScope N ps scope) (hd : A.handled = none) (e0 : Env0 P w K mg base A outer s H) (hl : vs.length = ps.length) (r : Vals vs us)
    (x : InCallC s s.heap.objs.size (bindL (envOfC qual scope s.heap.objs.size f cd).kindOf (ps.zip us) fun _ => none) (cellsFrom (s.heap.objs.size + 1) scope.names []) (bindC (envOfC qual scope s.heap.objs.size f cd).kindOf (ps.zip us) fun _ => none) s1) :
    Inv (cxOf CX P w K mg base N qual scope f cd A outer s H E) [] (start N vs) H s1 := by
  have hpl : ps.length ≤ N.length := by have := congrArg List.length S.pre; rw [List.length_take] at this; omega
  obtain ⟨h1,tk,rfl,hk⟩ := x.done
  have noA : ∀ b : Addr,b ∉ (cxOf CX P w K mg base N qual scope f cd A outer s H E).ex := fun b z => absurd (show b ∈ ([] : List Addr) from z) (by simp)
  refine ⟨⟨e0.mod,S.kind,rfl,rfl,Nat.le_refl _,fun y z c h1 h2 => ?_,fun y hy => ?_,fun y c _ h => ?_,fun _ => hd,Around.frames_deeper e0.frames,.inr ⟨rfl,rfl⟩,fun b z => absurd z (noA b),e0.bs,e0.bsz,fun b _ _ => noA b,fun b z => absurd z (noA b),e0.funs,e0.frf⟩,
    rfl,e0.bare,Un.kept hk,⟨_,x.toInCall.ns,fun i y v h1 h2 h3 => ?_⟩,fun y c h => ⟨_,x.cell y c h⟩,e0.hok.fresh (Nat.le_refl _),fun y c h => ?_,fun p hp => absurd (show p ∈ ([] : List (Addr × Obj)) from hp) (by simp),e0.hok.kept hk,?_⟩
  · exact name_of_addr x.apart (PySem.mem_of_lookup h1) (PySem.mem_of_lookup h2)
  · have hy : scope.names.lookup y = some .cell ∨ scope.names.lookup y = some .free := hy
    rcases hy with hy | hy
    · exact cell_has hy
    · exact absurd rfl (S.nofree _ (PySem.mem_of_lookup hy))
  · exact Nat.le_of_lt (x.above y c (PySem.mem_of_lookup h))
  · have hi : i < vs.length := by
      unfold start at h2
      by_cases hi : i < vs.length
      · exact hi
      · rw [List.getElem?_append_right (by simpa using hi)] at h2
        rw [List.getElem?_replicate] at h2
        split at h2 <;> cases h2
    have ha : vs[i]? = some v := by
      unfold start at h2
      rw [List.getElem?_append_left (by simpa using hi),List.getElem?_map] at h2
      cases e : vs[i]? with
      | none => rw [e] at h2; cases h2
      | some a => rw [e] at h2; cases h2; rfl
    obtain ⟨u,hu,rv⟩ := r.get ha
    have hp : ps[i]? = some y := by
      rw [← S.pre,List.getElem?_take_of_lt (by omega)]; exact h1
    have ndP : ps.Nodup := by rw [← S.pre]; exact S.nd.sublist (List.take_sublist _ _)
    refine ⟨u,rv,?_⟩
    rcases S.par y (List.mem_of_getElem? hp) with k | k
    · exact .inl ⟨k,bindL_get ndP hp hu k⟩
    · obtain ⟨c,e⟩ := cell_has (n := s.heap.objs.size + 1) k
      refine .inr ⟨.inl k,c,e,?_⟩
      have q := x.cell y c e
      rw [bindC_get ndP hp hu (by show scope.names.lookup y ≠ _; rw [k]; decide)] at q
      exact q
  · exact e0.hok.fresh (Nat.le_of_lt (x.above y c (PySem.mem_of_lookup h)))
  · unfold start
    show _ = N.length
    rw [List.length_append,List.length_map,List.length_replicate]
    omega
theorem fn_of {CX : CXT} {P : Program} {w : World} {K : PySem.W.Frag} {mg : Str → Option Value} {base : Heap} {k : Nat} {f : Addr} {name qual : Str} {params : Arguments} {body : List Stmt} {scope : Scope} {dV kV doc pm cdv ct oc : Value} {an od : Option Addr}
    {osl : Array (Option Value)} {N ps : List Str} {sp : Sp} (lk : K.lookup f = some ⟨oc,od,.func (PySem.W.fnOf name qual params body scope dV kV doc pm an cdv ct),osl⟩) (hcd : PySem.W.codeIn K cdv qual = true) (S : FnScope N ps scope)
    (len : ∀ vs H Q E,sp vs H Q E → vs.length = ps.length)
    (hbody : ∀ (A : Around) (outer : List Env) (s : Shared) (H : Hp) (vs : List V) (Q : VK) (E : XK),Room k (A.deeper (envOfC qual scope s.heap.objs.size f cdv)) → sp vs H Q E →
      ∃ t,PSs (cxOf CX P w K mg base N qual scope f cdv A outer s H E) body t ∧ t { nx := fun _ H' => Q .non H',rt := Q } (start N vs) H) :
    FnOk P w K mg base CX (k + 1) f (PySem.W.fnOf name qual params body scope dV kV doc pm an cdv ct) ps sp := by
  refine ⟨len,fun A outer s H args us vs Q E hr e0 hb r hsp => ?_⟩
  have hl := len _ _ _ _ hsp
  have KX : K.In s.heap := e0.mod.kin.keeps fun b o e => (e0.bs b o e).1
  have lim : s.heap.NoLimit := e0.mod.nolimit.keeps fun b o e => (e0.bs b o e).1
  have hkind : ∀ y ∈ ps.zip us,scope.names.lookup y.1 = some .local ∨ (scope.names.lookup y.1 = some .cell ∧ ((cellsFrom (s.heap.objs.size + 1) scope.names []).lookup y.1).isSome = true) := fun ⟨n,v⟩ hy => by
    rcases S.par n (List.of_mem_zip hy).1 with q | q
    · exact .inl q
    · exact .inr ⟨q,PySem.W.cellsFrom_some _ _ _ (.inl q)⟩
  refine codeAny_call_function hr.depth (KX _ _ lk) rfl S.co S.gen rfl (PySem.W.codeRec_of KX hcd) (hb _ _ _ _ ?_)
  refine wpAny_newFunctionEnv_cells S.kind hkind fun env he s1 x => ?_
  subst he
  refine ⟨lim.keeps x.toInCall.keep,codeAny_func ?_⟩
  obtain ⟨t,ht,hq⟩ := hbody A outer s H vs Q E (hr.deeper _) hsp
  have I : Inv (cxOf CX P w K mg base N qual scope f cdv A outer s H E) [] (start N vs) H s1 := inv_start S hr.hd e0 hl r x
  refine wpAny_mono (ht [] s1 (start N vs) H _ I hq) (fun fl s' hs => ?_) fun e s' hs => hs
  have fin : ∀ {σ' : St} {H' : Hp} {v : V} {u : Value},Inv (cxOf CX P w K mg base N qual scope f cdv A outer s H E) [] σ' H' s' → RelV v u → Q v H' → CE outer P w H s Q u s' :=
    fun {σ' H' v u} J rv q => ⟨v,H',J.os,J.bare,J.base,J.hok,rv,q⟩
  cases fl with
  | ret u =>
    obtain ⟨v,σ',H',J,rv,q⟩ := hs
    exact fin J rv q
  | next =>
    obtain ⟨σ',H',J,q⟩ := hs
    exact fin (v := V.non) (u := Value.none) J rfl q
  | brk =>
    obtain ⟨_,_,_,q⟩ := hs
    exact False.elim q
  | cont =>
    obtain ⟨_,_,_,q⟩ := hs
    exact False.elim q
end L2
namespace L2
open PySem PySem.Spec PyProof.Rows
section
variable {X : Cx} {x : Str} {p pos : Pos} {e : Expr} {es : List Expr} {t : TA} {id T : String} {r : List V → Hp → VK → Prop}
noncomputable def tCB (r : List V → Hp → VK → Prop) (t : TA) : TE := fun σ H Q => t σ H fun vs H1 => r vs H1 Q
theorem pe_callB (hc : CallR X (.builtin id) r) (hg : Gl X x) (hm : X.mg x = none) (hv : bootBuiltins x = some (.builtin id)) (ha : PA X (e :: es) t) (hn : x ≠ "__name__" := by decide) (hdb : (x == ("__debug__" : Str)) = false := by decide)
    (he : starEach (e :: es) X.env = (false,eval e X.env) :: starEach es X.env := by rfl) (hpl : (backTo pos (starEach es X.env)).any (·.1) = false := by rfl) : PE X (.Call (.Name x p) (e :: es) [] pos) (tCB r t) := by
  intro pins s σ H Q I h
  refine wpAny_Call_Name_kw (ld_blt I hg hm hv ?_ hn hdb)
  exact PyProof.Rows.callWith_builtin1 (thn (ha pos pins s σ H _ I h) fun us s1 ⟨vs,H1,I1,r1,q1⟩ => hc pins s1 σ H1 vs us Q I1 r1 q1) he hpl
theorem pe_callTy (hc : CallR X (.type T) r) (hg : Gl X x) (hm : X.mg x = none) (hv : bootBuiltins x = some (.type T)) (ha : PA X (e :: es) t) (hn : x ≠ "__name__" := by decide) (hdb : (x == ("__debug__" : Str)) = false := by decide)
    (he : starEach (e :: es) X.env = (false,eval e X.env) :: starEach es X.env := by rfl) (hpl : (backTo pos (starEach es X.env)).any (·.1) = false := by rfl) : PE X (.Call (.Name x p) (e :: es) [] pos) (tCB r t) := by
  intro pins s σ H Q I h
  refine wpAny_Call_Name_kw (ld_blt I hg hm hv ?_ hn hdb)
  exact PyProof.Rows.callWith_type1 (thn (ha pos pins s σ H _ I h) fun us s1 ⟨vs,H1,I1,r1,q1⟩ => hc pins s1 σ H1 vs us Q I1 r1 q1) he hpl
end
end L2
namespace HT
open PySem PyProof.Rows
section
open PySem.SeqAt
open PySem.AutoSeq1 (wpAny_loadPart')
open PySem.MeetsSeq PySem.MeetsSeq2 PySem.MeetsSeq3
end
section
variable {prog : Program} {w : World} {A : Around} {E : Value → Shared → Prop} {s : Shared}
theorem cat_tup {t b : Addr} {vs ws : List Value} {Q : Value → Shared → Prop} (ht : IsTup s.heap t vs.toArray) (hb : IsTup s.heap b ws.toArray) (hv : vs ≠ [])
    (h1 : ws = [] → Q (.ref t) s) (h2 : ws ≠ [] → Q (.ref s.heap.objs.size) { s with heap := s.heap.push { cls := .type "tuple",data := .seq (vs ++ ws).toArray } })
    (hsz : vs.length + ws.length ≤ sizeLine) : wpAny (model prog w) A (binaryOp .Add (.ref t) (.ref b)) Q E s := by
  obtain ⟨⟨cls,dd,data,sl⟩,ho,hc,n,hd⟩ := id ht
  obtain ⟨⟨cls2,dd2,data2,sl2⟩,ho2,hc2,n2,hd2⟩ := id hb
  simp only at hc hd hc2 hd2
  subst hc hd hc2 hd2
  have e : vs.toArray ++ ws.toArray = (vs ++ ws).toArray := by simp
  by_cases hw : ws = []
  · exact concat_meets ⟨_,ho,rfl⟩ ⟨_,ho2,rfl⟩ noFill_tuple_add seq_tuple_add PySem.F.slot_tuple_add PySem.F.entry_tuple_add (PySem.F.args_tuple_add_2 _ _)
      (tuple_addW1 t b vs.toArray ws.toArray n n2 dd dd2 sl sl2 (by simpa using hv) (by simp [hw])) ⟨ho,ho2,h1 hw⟩
  · refine concat_meets ⟨_,ho,rfl⟩ ⟨_,ho2,rfl⟩ noFill_tuple_add seq_tuple_add PySem.F.slot_tuple_add PySem.F.entry_tuple_add (PySem.F.args_tuple_add_2 _ _)
      (tuple_addW2 t b vs.toArray ws.toArray n n2 dd dd2 sl sl2 (by simpa using hv) (by simpa using hw) (by rw [List.size_toArray,List.size_toArray]; exact hsz)) ⟨ho,ho2,?_⟩
    rw [e]
    exact h2 hw
noncomputable def sIx (n d : Nat) : Option Int → Nat
  | none => d
  | some v => if v < 0 then (v + (n : Int)).toNat else min v.toNat n
theorem sIx_none (n d : Nat) : sIx n d none = d := rfl
theorem sIx_nat (n d k : Nat) : sIx n d (some (k : Int)) = min k n := by
  show (if (k : Int) < 0 then ((k : Int) + (n : Int)).toNat else min (k : Int).toNat n) = min k n
  rw [if_neg (by omega),Int.toNat_natCast]
theorem sIx_le (n d : Nat) (hd : d ≤ n) (o : Option Int) : sIx n d o ≤ n := by
  cases o with
  | none => exact hd
  | some v =>
    show (if v < 0 then (v + (n : Int)).toNat else min v.toNat n) ≤ n
    by_cases hv : v < 0
    · rw [if_pos hv]; omega
    · rw [if_neg hv]; exact Nat.min_le_right _ _
theorem clip_eq (v : Int) (n d : Nat) : (if v < 0 then max (v + (n : Int)) 0 else min v (n : Int)) = ((sIx n d (some v) : Nat) : Int) := by
  show (if v < 0 then max (v + (n : Int)) 0 else min v (n : Int)) = (((if v < 0 then (v + (n : Int)).toNat else min v.toNat n) : Nat) : Int)
  by_cases hv : v < 0
  · simp only [if_pos hv]; omega
  · simp only [if_neg hv]; omega
theorem adjust_gen (lo hi : Option Int) (n : Nat) : Builtin.Slice.sliceAdjust lo hi 1 (n : Int) = (((sIx n 0 lo : Nat) : Int),((sIx n n hi : Nat) : Int)) := by
  have h1 : ¬ ((1 : Int) < 0) := by omega
  unfold Builtin.Slice.sliceAdjust
  simp only [h1,if_false]
  refine Prod.ext ?_ ?_
  · cases lo with
    | none => rfl
    | some v => exact clip_eq v n 0
  · cases hi with
    | none => rfl
    | some v => exact clip_eq v n n
theorem places_gen (i j : Nat) : Builtin.Slice.slicePlaces (i : Int) (j : Int) 1 = j - i := by
  unfold Builtin.Slice.slicePlaces
  have h1 : (1 : Int) > 0 := by omega
  simp only [h1,if_true,Int.ediv_one]
  split <;> omega
theorem slicePart_ {v : Value} {o : Option Int} {Q : Option Int → Shared → Prop} (p : IsPart v o) (h : Q o s) : wpAny (model prog w) A (Builtin.Slice.slicePartIndex v) Q E s := by
  cases p with
  | none => exact slicePart_none h
  | int i t => exact slicePart_int h
theorem sliceApplied_gen {sl : Addr} {vl vu : Value} {lo hi : Option Int} {n : Nat} {Q : Int × Int × Nat → Shared → Prop} (hs : s.heap.IsSliceOf sl vl vu .none) (pl : IsPart vl lo) (pu : IsPart vu hi)
    (h : Q (((sIx n 0 lo : Nat) : Int),1,sIx n n hi - sIx n 0 lo) s) : wpAny (model prog w) A (Builtin.Slice.sliceApplied (.ref sl) (pure (n : Int))) Q E s := by
  obtain ⟨os,hos,hcs,hds⟩ := id hs
  unfold Builtin.Slice.sliceApplied Builtin.Slice.sliceFields
  refine wpAny_bind (wpAny_bind (wpAny_field hos hds (x := vl) rfl (wpAny_bind (wpAny_field hos hds (x := vu) rfl (wpAny_bind (wpAny_field hos hds (x := .none) rfl (wpAny_pure ?_)))))))
  refine wpAny_bind (slicePart_none ?_)
  show wpAny _ _ (if ((1 : Int) == 0) = true then _ else _) _ _ s
  rw [if_neg (by decide)]
  refine wpAny_bind (slicePart_ pl (wpAny_bind (slicePart_ pu (wpAny_bind (wpAny_pure ?_)))))
  show wpAny _ _ (match Builtin.Slice.sliceAdjust lo hi 1 (n : Int) with | (lo,hi) => pure (lo,(1 : Int),Builtin.Slice.slicePlaces lo hi 1)) _ _ s
  rw [adjust_gen lo hi n]
  show wpAny _ _ (pure (((sIx n 0 lo : Nat) : Int),(1 : Int),Builtin.Slice.slicePlaces ((sIx n 0 lo : Nat) : Int) ((sIx n n hi : Nat) : Int) 1)) _ _ s
  rw [places_gen]
  exact wpAny_pure h
theorem pick_gen (xs : Array Value) (i k : Nat) : ((List.range k).filterMap fun (m : Nat) => xs[((i : Int) + (m : Int) * 1).toNat]?).toArray = ((xs.toList.drop i).take k).toArray := by
  have e : (fun (m : Nat) => xs[((i : Int) + (m : Int) * 1).toNat]?) = fun m => xs[i + m]? := by
    funext m
    have : ((i : Int) + (m : Int) * 1).toNat = i + m := by omega
    rw [this]
  rw [e]
  have := pick_run xs i k
  rw [List.filterMap_map] at this
  have e2 : ((fun x => xs[x]?) ∘ fun x => i + x) = fun m => xs[i + m]? := rfl
  rw [e2] at this
  rw [this]
theorem getItem_tuple_cut {t sl : Addr} {items : Array Value} {vl vu : Value} {lo hi : Option Int} {Q : Value → Shared → Prop} (ht : IsTup s.heap t items) (hs : s.heap.IsSliceOf sl vl vu .none) (pl : IsPart vl lo) (pu : IsPart vu hi)
    (hw : ¬ (sIx items.size 0 lo = 0 ∧ sIx items.size items.size hi = items.size))
    (h : Q (.ref s.heap.objs.size) { s with heap := s.heap.push { cls := .type "tuple",data := .seq ((items.toList.drop (sIx items.size 0 lo)).take (sIx items.size items.size hi - sIx items.size 0 lo)).toArray } })
    (hsz : items.size ≤ sizeLine) : wpAny (model prog w) A (getItem (.ref t) (.ref sl)) Q E s := by
  have htake : sizeOk (.seq ((items.toList.drop (sIx items.size 0 lo)).take (sIx items.size items.size hi - sIx items.size 0 lo)).toArray) := by
    show ((items.toList.drop (sIx items.size 0 lo)).take (sIx items.size items.size hi - sIx items.size 0 lo)).toArray.size ≤ sizeLine
    rw [List.size_toArray,List.length_take,List.length_drop,Array.length_toList]
    omega
  have hj : sIx items.size items.size hi ≤ items.size := sIx_le _ _ (Nat.le_refl _) hi
  obtain ⟨os,hos,hcs,hds⟩ := id hs
  have hTs : s.TypeIs (.ref sl) "slice" := ⟨os,hos,hcs⟩
  unfold getItem
  try with_reducible refine wpAny_holding ?_
  first | refine wpAny_bind (wpAny_pure ?_) | skip
  refine wpAny_bind (wpAny_sequenceKey ht.typeIs (by decide) ?_)
  refine wpAny_bind (wpAny_callSpecial?_slot (name := Str.ofString "__getitem__") ht.typeIs PyProof.Rows.slot_tuple_getitem
    (wpAny_call_entry PyProof.Rows.slot_tuple_getitem ht.typeIs entry_tuple_getitem ?_ (args_tuple_getitem _ _)))
  show wpAny _ _ (Builtin.Tuple.tupleItemsOf (.ref t) >>= _) _ _ s
  refine wpAny_bind (tupleItemsOf_ ht ?_)
  refine wpAny_bind (wpAny_typeOf hTs ?_)
  rw [if_pos (by decide)]
  refine wpAny_bind (sliceApplied_gen hs pl pu ?_)
  have hno : ¬ ((((sIx items.size 0 lo : Nat) : Int) == 0 && (1 : Int) == 1 && (sIx items.size items.size hi - sIx items.size 0 lo) == items.size) = true) := by
    intro q
    rw [Bool.and_eq_true,Bool.and_eq_true] at q
    have q1 : ((sIx items.size 0 lo : Nat) : Int) = 0 := eq_of_beq q.1.1
    have q2 : sIx items.size items.size hi - sIx items.size 0 lo = items.size := eq_of_beq q.2
    exact hw ⟨by omega,by omega⟩
  show wpAny _ _ (if (((sIx items.size 0 lo : Nat) : Int) == 0 && (1 : Int) == 1 && (sIx items.size items.size hi - sIx items.size 0 lo) == items.size) = true then _ else _) _ _ s
  rw [if_neg hno,pick_gen]
  first
    | exact wpAny_bind (m := Builtin.Tuple.tupleExact _) (wpAny_newObj_type (wpAny_pure ⟨_,rfl,wpAny_pure h⟩) htake)
    | exact wpAny_bind (m := Builtin.Tuple.tupleExact _) (wpAny_newObj_type (wpAny_bind (wpAny_pure (wpAny_pure ⟨_,rfl,wpAny_pure h⟩))) htake)
    | exact wpAny_bind (wpAny_bind (m := Builtin.Tuple.tupleExact _) (wpAny_newObj_type (wpAny_pure (wpAny_pure ⟨_,rfl,wpAny_pure h⟩)) htake))
    | exact wpAny_bind (wpAny_bind (m := Builtin.Tuple.tupleExact _) (wpAny_newObj_type (wpAny_pure ⟨_,rfl,wpAny_pure h⟩) htake))
end
end HT
namespace L2
open PySem PySem.Spec PyProof.Rows
noncomputable abbrev TO := St → Hp → (Option Int → Hp → Prop) → Prop
noncomputable def PO (X : Cx) (e : Option Expr) (t : TO) : Prop :=
  ∀ (pins : List (Addr × Obj)) (s : Shared) (σ : St) (H : Hp) (Q : Option Int → Hp → Prop),Inv X pins σ H s → t σ H Q →
    wpAny (model X.prog X.w) X.A (evalPart e X.env) (fun u s' => ∃ o H',Inv X pins σ H' s' ∧ IsPart u o ∧ Q o H') X.xe s
noncomputable def tNoPart : TO := fun _ H Q => Q none H
inductive SPart (x : V) (H : Hp) (Q : Option Int → Hp → Prop) : Prop | mk (i : Int) (hx : x = .int i) (q : Q (some i) H)
noncomputable def tPart (t : TE) : TO := fun σ H Q => t σ H fun x H1 => SPart x H1 Q
theorem intsAre_of {ns : List Int} : ∀ {us : List Value},Vals (ns.map V.int) us → IntsAre us ns := by
  induction ns with
  | nil => intro us r; rw [List.map_nil] at r; cases r; exact .nil
  | cons n ns ih =>
    intro us r
    rw [List.map_cons] at r
    cases r with
    | cons r1 r2 =>
      obtain ⟨t,e⟩ := r1
      subst e
      exact .cons n t (ih r2)
section
variable {X : Cx} {e : Expr} {te : TE} {lo hi : Option Expr} {tl th : TO} {pos p2 : Pos}
theorem po_none : PO X none tNoPart := by
  intro pins s σ H Q I h
  rw [evalPart_none]
  exact wpAny_pure ⟨none,H,I,.none,h⟩
theorem po_some (h : PE X e te) : PO X (some e) (tPart te) := by
  intro pins s σ H Q I hw
  rw [evalPart_some]
  refine thn (h pins s σ H _ I hw) fun u s1 ⟨x,H1,I1,r1,q1⟩ => ?_
  obtain ⟨i,rfl,q⟩ := q1
  obtain ⟨t,rfl⟩ := r1
  exact ⟨some i,H1,I1,.int i t,q⟩
noncomputable def SlR (X : Cx) (r : V → Option Int → Option Int → Hp → VK → Prop) : Prop :=
  ∀ (pins : List (Addr × Obj)) (s : Shared) (σ : St) (H : Hp) (x : V) (v vl vu : Value) (lo hi : Option Int) (sl : Addr) (Q : VK),Inv X pins σ H s → RelV x v → s.heap.IsSliceOf sl vl vu .none → IsPart vl lo → IsPart vu hi → r x lo hi H Q →
    ∃ T id,typeLookup (.type T) "__getitem__" = pure (some (.builtin id)) ∧ s.TypeIs v T ∧ wpAny (model X.prog X.w) X.A (getItem v (.ref sl)) (EP X pins σ Q) X.xe s
theorem SlR.or {r r' : V → Option Int → Option Int → Hp → VK → Prop} (h : SlR X r) (h' : SlR X r') : SlR X (fun x lo hi H Q => r x lo hi H Q ∨ r' x lo hi H Q) := by
  intro pins s σ H x v vl vu lo hi sl Q I rx hs pl pu q
  rcases q with q | q
  · exact h pins s σ H x v vl vu lo hi sl Q I rx hs pl pu q
  · exact h' pins s σ H x v vl vu lo hi sl Q I rx hs pl pu q
noncomputable def tSl (r : V → Option Int → Option Int → Hp → VK → Prop) (te : TE) (tl th : TO) : TE := fun σ H Q => te σ H fun x H1 => tl σ H1 fun l H2 => th σ H2 fun u H3 => r x l u H3 Q
theorem pe_slice {r : V → Option Int → Option Int → Hp → VK → Prop} (hr : SlR X r) (he : PE X e te) (hl : PO X lo tl) (hu : PO X hi th) : PE X (.Subscript e (.Slice lo hi none p2) pos) (tSl r te tl th) := by
  intro pins s σ H Q I h
  refine Subscript_ (thn (he pins s σ H _ I h) fun v s1 ⟨x,H1,I1,r1,q1⟩ => ?_)
  refine wpAny_Slice (thn (hl pins s1 σ H1 _ I1 q1) fun vl s2 ⟨l,H2,I2,pl,q2⟩ => thn (hu pins s2 σ H2 _ I2 q2) fun vu s3 ⟨u,H3,I3,pu,q3⟩ => ?_)
  rw [evalPart_none]
  refine wpAny_pure ?_
  have I4 : Inv X pins σ H3 { s3 with heap := s3.heap.push { cls := .type "slice",data := .fields #[vl,vu,.none] } } := I3.kept (t' := s3.toks) fun b ob q => Heap.get?_push_of_some _ q
  obtain ⟨T,id,hT,ht,hg⟩ := hr pins { s3 with heap := s3.heap.push { cls := .type "slice",data := .fields #[vl,vu,.none] } } σ H3 x v vl vu l u s3.heap.objs.size Q I4 r1 (Heap.IsSliceOf.new ..) pl pu q3
  show wpAny (model X.prog X.w) X.A (subscriptTail e (.Slice lo hi none p2) v (.ref s3.heap.objs.size)) (EP X pins σ Q) X.xe { s3 with heap := s3.heap.push { cls := .type "slice",data := .fields #[vl,vu,.none] } }
  exact tail_any (ops := [.ref s3.heap.objs.size,v]) ht hT hg (by with_unfolding_all rfl)
noncomputable def cutV (xs : List V) (lo hi : Option Int) : List V := (xs.drop (HT.sIx xs.length 0 lo)).take (HT.sIx xs.length xs.length hi - HT.sIx xs.length 0 lo)
theorem cutV_length (xs : List V) (lo hi : Option Int) : (cutV xs lo hi).length ≤ xs.length := by
  unfold cutV
  rw [List.length_take,List.length_drop]
  omega
noncomputable def rSlT (K : PySem.W.Frag) : V → Option Int → Option Int → Hp → VK → Prop := fun x lo hi H Q => ∃ a xs,x = .ref a ∧ SqT K H a xs ∧
  ¬ (HT.sIx xs.length 0 lo = 0 ∧ HT.sIx xs.length xs.length hi = xs.length) ∧ ∀ p,H p = none → Q (.ref p) (upd H p (.tup (cutV xs lo hi)))
theorem sl_tup : SlR X (rSlT X.K) := by
  intro pins s σ H x v vl vu lo hi sl Q I rx hs pl pu h
  obtain ⟨a,xs,rfl,hx,hw,q⟩ := h
  cases rx
  obtain ⟨its,r,ht,hz⟩ := I.tuple hx
  have hlen : its.toArray.size = xs.length := by rw [List.size_toArray]; exact r.length.symm
  refine ⟨"tuple",_,PyProof.Rows.slot_tuple_getitem.lookup,ht.typeIs,?_⟩
  refine HT.getItem_tuple_cut ht hs pl pu (by rw [hlen]; exact hw) ?_ (by rw [hlen]; exact hz)
  rw [hlen]
  refine ⟨.ref s.heap.objs.size,_,I.laid (t' := s.toks) (o := .tup (cutV xs lo hi)) (fun b ob q => Heap.get?_push_of_some _ q) (Nat.le_refl _) ?_,rfl,q _ (I.hok.fresh (Nat.le_refl _))⟩
  exact ⟨Nat.le_trans (cutV_length xs lo hi) hz,_,(r.drop (HT.sIx xs.length 0 lo)).take (HT.sIx xs.length xs.length hi - HT.sIx xs.length 0 lo),IsTup.new _ _⟩
noncomputable def rCatT (K : PySem.W.Frag) : R2 := fun x y H Q => ∃ a b xs ys,x = .ref a ∧ y = .ref b ∧ SqT K H a xs ∧ SqT K H b ys ∧ xs ≠ [] ∧ xs.length + ys.length ≤ sizeLine ∧
  (ys = [] → Q (.ref a) H) ∧ (ys ≠ [] → ∀ p,H p = none → Q (.ref p) (upd H p (.tup (xs ++ ys))))
theorem Vals.nil_iff {xs : List V} {us : List Value} (r : Vals xs us) : us = [] ↔ xs = [] := by
  cases r with
  | nil => simp
  | cons _ _ => simp
theorem op_catT : OpR X (binaryOp .Add) (rCatT X.K) := by
  intro pins s σ H x y v u Q I rx ry h
  obtain ⟨a,b,xs,ys,rfl,rfl,ha,hb,hx,hz,q1,q2⟩ := h
  cases rx
  cases ry
  obtain ⟨its,r1,p1,_⟩ := I.tuple ha
  obtain ⟨its2,r2,p2,_⟩ := I.tuple hb
  refine HT.cat_tup p1 p2 (fun z => hx (r1.nil_iff.mp z)) (fun z => ⟨.ref a,H,I,rfl,q1 (r2.nil_iff.mp z)⟩) (fun z => ?_) (by rw [← r1.length,← r2.length]; exact hz)
  refine ⟨.ref s.heap.objs.size,_,I.laid (t' := s.toks) (o := .tup (xs ++ ys)) (fun b ob q => Heap.get?_push_of_some _ q) (Nat.le_refl _) ?_,rfl,q2 (fun w => z (r2.nil_iff.mpr w)) _ (I.hok.fresh (Nat.le_refl _))⟩
  exact ⟨by rw [List.length_append]; exact hz,_,r1.append r2,IsTup.new _ _⟩
end
end L2
namespace L2
open PySem PySem.Spec PyProof.Rows
noncomputable def ixN (n : Nat) (i : Int) : Option Nat := if 0 ≤ i then (if i < n then some i.toNat else none) else if -(n : Int) ≤ i then some (i + n).toNat else none
noncomputable def atI {α : Type} (xs : List α) (i : Int) : Option α := (ixN xs.length i).bind fun j => xs[j]?
theorem ixN_seq {n : Nat} {i : Int} {j : Nat} (h : ixN n i = some j) : seqIndex? i n = some j ∧ j < n ∧ -(n : Int) ≤ i ∧ i < n := by
  unfold ixN at h
  by_cases h0 : 0 ≤ i
  · rw [if_pos h0] at h
    by_cases h1 : i < n
    · rw [if_pos h1] at h
      have e : i.toNat = j := Option.some.inj h
      exact ⟨by rw [seqIndex_of h0 h1,e],by omega,by omega,h1⟩
    · rw [if_neg h1] at h; cases h
  · rw [if_neg h0] at h
    by_cases h1 : -(n : Int) ≤ i
    · rw [if_pos h1] at h
      have e : (i + n).toNat = j := Option.some.inj h
      exact ⟨by rw [seqIndex_neg (by omega) h1,e],by omega,h1,by omega⟩
    · rw [if_neg h1] at h; cases h
theorem atI_get {α : Type} {xs : List α} {i : Int} {v : α} (h : atI xs i = some v) : ∃ j,seqIndex? i xs.length = some j ∧ xs[j]? = some v ∧ j < xs.length ∧ -(xs.length : Int) ≤ i ∧ i < xs.length := by
  unfold atI at h
  cases e : ixN xs.length i with
  | none => rw [e] at h; cases h
  | some j =>
    rw [e] at h
    obtain ⟨h1,h2,h3,h4⟩ := ixN_seq e
    exact ⟨j,h1,h,h2,h3,h4⟩
theorem atI_nat {α : Type} {xs : List α} {j : Nat} {v : α} (h : xs[j]? = some v) : atI xs (j : Int) = some v := by
  have hj : j < xs.length := (List.getElem?_eq_some_iff.mp h).1
  have e : ixN xs.length (j : Int) = some j := by
    unfold ixN
    rw [if_pos (by omega),if_pos (by omega)]; simp
  unfold atI; rw [e]; exact h
noncomputable def PlainIx (b : Expr) : Prop := ∀ o i,subscripted b false o i = operate [o,i] (getItem o i)
noncomputable def IxR (X : Cx) (r : R2) : Prop :=
  ∀ (value slice : Expr) (pins : List (Addr × Obj)) (s : Shared) (σ : St) (H : Hp) (x y : V) (v u : Value) (Q : VK),Inv X pins σ H s → RelV x v → RelV y u → r x y H Q →
    subscripted slice false v u = operate [v,u] (getItem v u) → wpAny (model X.prog X.w) X.A (subscriptTail value slice v u) (EP X pins σ Q) X.xe s
noncomputable def MtR (X : Cx) (id : String) (r : V → List V → Hp → VK → Prop) : Prop :=
  ∀ (pins : List (Addr × Obj)) (s : Shared) (σ : St) (H : Hp) (x : V) (xs : List V) (v : Value) (us : List Value) (Q : VK),Inv X pins σ H s → RelV x v → Vals xs us → r x xs H Q →
    wpAny (model X.prog X.w) X.A (call (.builtin id) (v :: us)) (EP X pins σ Q) X.xe s
section
variable {X : Cx} {a b : Expr} {ta tb : TE} {pos : Pos}
theorem IxR.or {r r' : R2} (h : IxR X r) (h' : IxR X r') : IxR X (fun x y H Q => r x y H Q ∨ r' x y H Q) := by
  intro value slice pins s σ H x y v u Q I rx ry q hs
  rcases q with q | q
  · exact h value slice pins s σ H x y v u Q I rx ry q hs
  · exact h' value slice pins s σ H x y v u Q I rx ry q hs
theorem pe_ix {r : R2} (hr : IxR X r) (ha : PE X a ta) (hb : PE X b tb) (hs : PlainIx b) : PE X (.Subscript a b pos) (tOp r ta tb) := by
  intro pins s σ H Q I h
  exact Subscript_ (binT ha hb I h fun v u s2 x y H2 I2 rx ry q => hr a b pins s2 σ H2 x y v u Q I2 rx ry q (hs _ _))
noncomputable def rIxL (K : PySem.W.Frag) : R2 := fun x y H Q => ∃ p xs i v,x = .ref p ∧ y = .int i ∧ SqL K H p xs ∧ atI xs i = some v ∧ Q v H
noncomputable def rIxT (K : PySem.W.Frag) : R2 := fun x y H Q => ∃ p xs i v,x = .ref p ∧ y = .int i ∧ SqT K H p xs ∧ atI xs i = some v ∧ Q v H
noncomputable def rIxS : R2 := fun x y H Q => ∃ z i c,x = .str z ∧ y = .int i ∧ z.length ≤ sizeLine ∧ atI z.cps.toList i = some c ∧ Q (.str ⟨#[c]⟩) H
theorem ix_list : IxR X (rIxL X.K) := by
  intro value slice pins s σ H x y v u Q I rx ry h hs
  obtain ⟨p,xs,i,z,rfl,rfl,hq,he,q⟩ := h
  cases rx
  obtain ⟨t,rfl⟩ := ry
  obtain ⟨its,r,pl,hz⟩ := I.list hq
  obtain ⟨j,h1,h2,h3,h4,h5⟩ := atI_get he
  obtain ⟨w,ew,rw'⟩ := r.get h2
  have hl := r.length
  have hn := line63
  have fin : EP X pins σ Q w s := ⟨z,H,I,rw',q⟩
  by_cases h0 : 0 ≤ i
  · have hj : i.toNat = j := by
      rw [seqIndex_of h0 h5] at h1
      exact Option.some.inj h1
    exact item_listR pl.isList h0 (by omega) (by rw [hj]; simpa using ew) fin hs
  · have hj : (i + (its.toArray.size : Int)).toNat = j := by
      rw [seqIndex_neg (by omega) h4] at h1
      rw [List.size_toArray,← hl]
      exact Option.some.inj h1
    exact subscriptTail_builtinR (x := w) pl.isList.typeIs slot_list_getitem.lookup
      (wpAny_getItem_list_neg (Q := fun r s' => r = w ∧ EP X pins σ Q r s') pl.isList (by omega) (by rw [List.size_toArray] <;> omega) (by omega) (by rw [hj]; simpa using ew) ⟨rfl,fin⟩) hs
theorem ix_tup : IxR X (rIxT X.K) := by
  intro value slice pins s σ H x y v u Q I rx ry h hs
  obtain ⟨p,xs,i,z,rfl,rfl,hq,he,q⟩ := h
  cases rx
  obtain ⟨t,rfl⟩ := ry
  obtain ⟨its,r,pl,hz⟩ := I.tuple hq
  obtain ⟨j,h1,h2,h3,h4,h5⟩ := atI_get he
  obtain ⟨w,ew,rw'⟩ := r.get h2
  have hl := r.length
  have hn := line63
  have fin : EP X pins σ Q w s := ⟨z,H,I,rw',q⟩
  exact subscriptTail_builtinR (x := w) pl.typeIs slot_tuple_getitem.lookup
    (getItem_tuple (j := j) (Q := fun r s' => r = w ∧ EP X pins σ Q r s') pl (by omega) (by omega) (by rw [List.size_toArray,← hl]; exact h1) (by simpa using ew) ⟨rfl,fin⟩) hs
theorem ix_str : IxR X rIxS := by
  intro value slice pins s σ H x y v u Q I rx ry h hs
  obtain ⟨z,i,c,rfl,rfl,hz,he,q⟩ := h
  obtain ⟨t,rfl⟩ := rx
  obtain ⟨t',rfl⟩ := ry
  obtain ⟨j,h1,h2,h3,h4,h5⟩ := atI_get he
  have hl : z.cps.toList.length = z.length := by simp [Str.length]
  rw [hl] at h1 h4 h5
  have hn := line63
  exact tail_any (typeIs_str s z t) slot_str_getitem.lookup (getItem_str (c := c) (by
    have e1 : decide (i < -(2 ^ 63 : Int)) = false := decide_eq_false (by omega)
    have e2 : decide (i ≥ 2 ^ 63) = false := decide_eq_false (by omega)
    rw [e1,e2,Bool.or_false]) (by rw [h1]; simpa using h2) ⟨.str ⟨#[c]⟩,H,I.tok _,⟨_,rfl⟩,q⟩) hs
noncomputable def rIx (K : PySem.W.Frag) : R2 := fun x y H Q => rIxL K x y H Q ∨ rIxT K x y H Q ∨ rIxS x y H Q
theorem ix_seq : IxR X (rIx X.K) := ix_list.or (ix_tup.or ix_str)
theorem mapSeq_set (its : List Value) (n j : Nat) (u : Value) : Obj.mapSeq (·.setIfInBounds j u) { cls := .type "list",data := .seq its.toArray n } = { cls := .type "list",data := .seq (its.set j u).toArray n } := by
  simp [Obj.mapSeq]
theorem Inv.lst {pins : List (Addr × Obj)} {σ : St} {H : Hp} {s : Shared} {p : Addr} {xs : List V} (I : Inv X pins σ H s) (h : H p = some (.lst xs)) :
    ∃ (its : List Value) (n : Nat),Vals xs its ∧ s.heap.get? p = some { cls := .type "list",data := .seq its.toArray n } ∧ xs.length ≤ sizeLine := by
  obtain ⟨z,its,n,r,e⟩ := I.hok p _ h
  exact ⟨its,n,r,e,z⟩
theorem Inv.lstUpd {pins : List (Addr × Obj)} {σ : St} {H : Hp} {s : Shared} {p : Addr} {xs ys : List V} {its its' : List Value} {n n' : Nat} {f : Obj → Obj} (I : Inv X pins σ H s) (h : H p = some (.lst xs))
    (ho : s.heap.get? p = some { cls := .type "list",data := .seq its.toArray n }) (hf : f { cls := .type "list",data := .seq its.toArray n } = { cls := .type "list",data := .seq its'.toArray n' }) (r : Vals ys its') (hz : ys.length ≤ sizeLine) (t : Nat) :
    Inv X pins σ (upd H p (.lst ys)) { s with heap := s.heap.update p f,toks := t } := by
  have e : (s.heap.update p f).get? p = some { cls := .type "list",data := .seq its'.toArray n' } := by
    rw [Heap.get?_update_self f ho (by rw [hf] <;> rfl),hf]
  refine I.write (x := p) (e := p) (by rw [h]; trivial) (.inl rfl) (fun b u hb q => (Heap.get?_update_other _ _ (Ne.symm hb)).trans q) ⟨_,e⟩ ?_
  exact ⟨hz,its',n',r,e⟩
inductive SSet (o i v : V) (H : Hp) (Q : Hp → Prop) : Prop | mk (p : Addr) (xs : List V) (k : Int) (j : Nat) (ho : o = .ref p) (hi : i = .int k) (hp : H p = some (.lst xs)) (hj : ixN xs.length k = some j) (q : Q (upd H p (.lst (xs.set j v))))
noncomputable def rSetL : V → V → V → Hp → (Hp → Prop) → Prop := fun o i v H Q => SSet o i v H Q
theorem set_list : PSet X rSetL := by
  intro pins s σ H o i v ov iv u Q I ro ri rv h
  obtain ⟨p,xs,k,j,rfl,rfl,hp,hj,q⟩ := h
  cases ro
  obtain ⟨t,rfl⟩ := ri
  obtain ⟨its,n,r,ho,hz⟩ := I.lst hp
  obtain ⟨h1,h2,h3,h4⟩ := ixN_seq hj
  have hl := r.length
  have hn := line63
  have I' : Inv X pins σ (upd H p (.lst (xs.set j v))) { s with heap := s.heap.update p (Obj.mapSeq (·.setIfInBounds j u)) } :=
    I.lstUpd hp ho (mapSeq_set its n j u) (r.set rv j) (by rw [List.length_set]; exact hz) s.toks
  by_cases h0 : 0 ≤ k
  · have hk : k.toNat = j := by
      rw [seqIndex_of h0 h4] at h1
      exact Option.some.inj h1
    exact PySem.W.ki_setAt ho h0 (by omega) (by rw [List.size_toArray,← hl]; exact h4) (by rw [hk]; exact ⟨_,I',q⟩)
  · have hk : (k + (its.toArray.size : Int)).toNat = j := by
      rw [seqIndex_neg (by omega) h3] at h1
      rw [List.size_toArray,← hl]
      exact Option.some.inj h1
    exact PySem.W.ki_setBack ho (by omega) (by rw [List.size_toArray,← hl]; exact h3) (by omega) (by rw [hk]; exact ⟨_,I',q⟩)
theorem slice_bounds (lo hi : Option Int) (n : Nat) : (sliceBounds lo hi none n).1 = ((HT.sIx n 0 lo : Nat) : Int) ∧ (sliceBounds lo hi none n).2.1 = ((HT.sIx n n hi : Nat) : Int) ∧ (sliceBounds lo hi none n).2.2 = 1 := by
  refine ⟨?_,?_,rfl⟩
  · cases lo with
    | none => simp [sliceBounds,HT.sIx]
    | some i =>
      simp only [sliceBounds,HT.sIx,Option.getD_none,show (1 : Int) > 0 by decide,if_true]
      by_cases h : i < 0
      · simp only [h,if_true] <;> omega
      · simp only [h,if_false] <;> omega
  · cases hi with
    | none => simp [sliceBounds,HT.sIx]
    | some i =>
      simp only [sliceBounds,HT.sIx,Option.getD_none,show (1 : Int) > 0 by decide,if_true]
      by_cases h : i < 0
      · simp only [h,if_true] <;> omega
      · simp only [h,if_false] <;> omega
theorem slicePick_cut (its : List Value) (lo hi : Option Int) : slicePick its.toArray lo hi none = ((its.drop (HT.sIx its.length 0 lo)).take (HT.sIx its.length its.length hi - HT.sIx its.length 0 lo)).toArray := by
  obtain ⟨h1,h2,h3⟩ := slice_bounds lo hi its.toArray.size
  unfold slicePick
  rw [h1,h2,h3]
  simp only [sliceRange_one,pick_run,List.size_toArray] <;> rfl
noncomputable def rSlL (K : PySem.W.Frag) : V → Option Int → Option Int → Hp → VK → Prop := fun x lo hi H Q => ∃ a xs,x = .ref a ∧ SqL K H a xs ∧ ∀ p,H p = none → Q (.ref p) (upd H p (.lst (cutV xs lo hi)))
theorem sl_list : SlR X (rSlL X.K) := by
  intro pins s σ H x v vl vu lo hi sl Q I rx hs pl pu h
  obtain ⟨a,xs,rfl,hx,q⟩ := h
  cases rx
  obtain ⟨its,r,ht,hz⟩ := I.list hx
  have hlen := r.length
  refine ⟨"list",_,slot_list_getitem.lookup,ht.isList.typeIs,?_⟩
  refine wpAny_getItem_list_slice ht.isList hs pl pu .none (by simp) ?_ (by rw [List.size_toArray] <;> omega)
  rw [slicePick_cut,← hlen]
  refine ⟨.ref s.heap.objs.size,_,I.laid (t' := s.toks) (o := .lst (cutV xs lo hi)) (fun b ob q => Heap.get?_push_of_some _ q) (Nat.le_refl _) ?_,rfl,q _ (I.hok.fresh (Nat.le_refl _))⟩
  exact ⟨Nat.le_trans (cutV_length xs lo hi) hz,_,0,(r.drop (HT.sIx xs.length 0 lo)).take (HT.sIx xs.length xs.length hi - HT.sIx xs.length 0 lo),Heap.get?_push_size _ rfl⟩
noncomputable def flatV : V → Bool
  | .non => true
  | .bl _ => true
  | .int _ => true
  | .str _ => true
  | _ => false
noncomputable def eqV : V → V → Bool
  | .non,.non => true
  | .bl a,.bl b => a == b
  | .bl a,.int b => (if a then 1 else 0) == b
  | .int a,.bl b => a == (if b then 1 else 0)
  | .int a,.int b => a == b
  | .str a,.str b => a == b
  | _,_ => false
theorem eqAt_V {A : Around} {s : Shared} {y x : V} {u v : Value} (ry : RelV y u) (rx : RelV x v) (fy : flatV y = true) (fx : flatV x = true) : SeqAt.EqAt A s u v (eqV y x) := by
  cases y with
  | non =>
    cases ry
    cases x with
    | non => cases rx; exact SeqAt.EqAt.same _
    | bl b => cases rx; exact SeqAt.EqAt.none_bool b
    | int b => obtain ⟨t,rfl⟩ := rx; exact SeqAt.EqAt.none_int b t
    | str b => obtain ⟨t,rfl⟩ := rx; exact SeqAt.EqAt.none_str b t
    | _ => exact absurd (show false = true from fx) Bool.false_ne_true
  | bl a =>
    cases ry
    cases x with
    | non => cases rx; exact SeqAt.EqAt.bool_none a
    | bl b => cases rx; exact SeqAt.EqAt.bool_bool a b
    | int b => obtain ⟨t,rfl⟩ := rx; exact SeqAt.EqAt.bool_int a b t
    | str b => obtain ⟨t,rfl⟩ := rx; exact SeqAt.EqAt.bool_str a b t
    | _ => exact absurd (show false = true from fx) Bool.false_ne_true
  | int a =>
    obtain ⟨t',rfl⟩ := ry
    cases x with
    | non => cases rx; exact SeqAt.EqAt.int_none a t'
    | bl b => cases rx; exact SeqAt.EqAt.int_bool a t' b
    | int b => obtain ⟨t,rfl⟩ := rx; exact SeqAt.EqAt.int_int a t' b t
    | str b => obtain ⟨t,rfl⟩ := rx; exact SeqAt.EqAt.int_str a t' b t
    | _ => exact absurd (show false = true from fx) Bool.false_ne_true
  | str a =>
    obtain ⟨t',rfl⟩ := ry
    cases x with
    | non => cases rx; exact SeqAt.EqAt.str_none a t'
    | bl b => cases rx; exact SeqAt.EqAt.str_bool a t' b
    | int b => obtain ⟨t,rfl⟩ := rx; exact SeqAt.EqAt.str_int a t' b t
    | str b => obtain ⟨t,rfl⟩ := rx; exact SeqAt.EqAt.str_str a t' b t
    | _ => exact absurd (show false = true from fx) Bool.false_ne_true
  | _ => exact absurd (show false = true from fy) Bool.false_ne_true
theorem call_list_of : CallR X (.type "list") (fun xs H Q => ∃ p ys,xs = [.ref p] ∧ (SqL X.K H p ys ∨ SqT X.K H p ys) ∧ ∀ l,H l = none → Q (.ref l) (upd H l (.lst ys))) := by
  intro pins s σ H xs us Q I r h
  obtain ⟨p,ys,rfl,hq,q⟩ := h
  obtain ⟨u,rfl,rx⟩ := vals1 r
  cases rx
  have fin : ∀ (its : List Value),Vals ys its → ys.length ≤ sizeLine → ∀ (h' : Heap) (c' : Nat),(∀ b o',s.heap.get? b = some o' → h'.get? b = some o') →
      h'.get? s.heap.objs.size = some { cls := .type "list",dict := none,data := .seq its.toArray c',slots := #[] } → EP X pins σ Q (.ref s.heap.objs.size) { s with heap := h' } := fun its r' hz h' c' kp e =>
    ⟨.ref s.heap.objs.size,_,I.laid (t' := s.toks) kp (Nat.le_refl _) (show ObjOk X.prog X.w _ h' _ (.lst ys) from ⟨hz,its,c',r',e⟩),rfl,q _ (I.hok.fresh (Nat.le_refl _))⟩
  rcases hq with hq | hq
  · obtain ⟨its,r',pl,hz⟩ := I.list hq
    have hlen := r'.length
    obtain ⟨o,ho,hc,n,hd⟩ := pl.isList
    exact call_list_seq p (.inl rfl) ho hc hd (fun h' c' kp e => fin its r' hz h' c' kp e) (by simp only [List.size_toArray] <;> omega)
  · obtain ⟨its,r',pl,hz⟩ := I.tuple hq
    have hlen := r'.length
    obtain ⟨o,ho,hc,n,hd⟩ := pl
    exact call_list_seq p (.inr rfl) ho hc hd (fun h' c' kp e => fin its r' hz h' c' kp e) (by simp only [List.size_toArray] <;> omega)
theorem call_tuple_of : CallR X (.type "tuple") (fun xs H Q => ∃ p ys,xs = [.ref p] ∧ ((SqL X.K H p ys ∧ ∀ l,H l = none → Q (.ref l) (upd H l (.tup ys))) ∨ (SqT X.K H p ys ∧ Q (.ref p) H))) := by
  intro pins s σ H xs us Q I r h
  obtain ⟨p,ys,rfl,h⟩ := h
  obtain ⟨u,rfl,rx⟩ := vals1 r
  cases rx
  rcases h with ⟨hq,q⟩ | ⟨hq,q⟩
  · obtain ⟨its,r',pl,hz⟩ := I.list hq
    have hlen := r'.length
    refine call_tuple_list pl.isList (fun h' kp => ?_) (by simp only [List.size_toArray] <;> omega)
    have I1 : Inv X pins σ H { s with heap := h' } := I.kept (t' := s.toks) kp
    have I2 : Inv X pins σ (upd H h'.objs.size (.tup ys)) { s with heap := h'.push { cls := .type "tuple",data := .seq its.toArray } } :=
      I1.laid (t' := s.toks) (fun b o e => Heap.get?_push_of_some _ e) (Nat.le_refl _) (show ObjOk X.prog X.w _ _ _ (.tup ys) from ⟨hz,its,r',IsTup.new _ _⟩)
    exact ⟨.ref h'.objs.size,_,I2,rfl,q _ (I1.hok.fresh (Nat.le_refl _))⟩
  · obtain ⟨its,r',pl,hz⟩ := I.tuple hq
    exact call_tuple_same pl ⟨.ref p,H,I,rfl,q⟩
noncomputable def tyV (K : PySem.W.Frag) (T : String) (x : V) (H : Hp) : Prop := match x with
  | .str _ => T = "str"
  | .int _ => T = "int"
  | .ref p => (T = "list" ∧ ∃ xs,SqL K H p xs) ∨ (T = "tuple" ∧ ∃ o,K.lookup p = some o ∧ o.cls = .type "tuple" ∧ o.dict = none) ∨
      (T = "dict" ∧ ((∃ kvs,H p = some (.dK kvs)) ∨ ∃ kvs,H p = some (.dT kvs))) ∨ (T = "set" ∧ ∃ S n,H p = some (.set S n))
  | _ => False
theorem tyV_is {pins : List (Addr × Obj)} {σ : St} {H : Hp} {s : Shared} {T : String} {x : V} {v : Value} (I : Inv X pins σ H s) (r : RelV x v) (ty : tyV X.K T x H) :
    s.TypeIs v T ∧ ∀ a,v = .ref a → ∃ ob,s.heap.get? a = some ob ∧ ob.dict = none := by
  cases x with
  | str z =>
    obtain ⟨t,rfl⟩ := r
    cases (show T = "str" from ty)
    exact ⟨typeIs_str s z t,fun _ e => nomatch e⟩
  | int i =>
    obtain ⟨t,rfl⟩ := r
    cases (show T = "int" from ty)
    exact ⟨typeIs_int s i t,fun _ e => nomatch e⟩
  | ref p =>
    cases r
    rcases ty with ⟨rfl,xs,hq⟩ | ⟨rfl,o,hk,hc,hd⟩ | ⟨rfl,hk⟩ | ⟨rfl,S,n,hk⟩
    · obtain ⟨its,_,pl,_⟩ := I.list hq
      refine ⟨pl.isList.typeIs,fun a e => ?_⟩
      cases e
      obtain ⟨o,n,e,c,hd,_⟩ := pl
      exact ⟨o,e,hd⟩
    · refine ⟨⟨o,I.kIn p o hk,hc⟩,fun a e => ?_⟩
      cases e
      exact ⟨o,I.kIn _ o hk,hd⟩
    · have z : ∃ o,s.heap.get? p = some o ∧ o.ExactDict := by
        rcases hk with ⟨kvs,hk⟩ | ⟨kvs,hk⟩
        · obtain ⟨_,_,_,_,o,_,_,e,ex,_⟩ := I.hok p _ hk
          exact ⟨o,e,ex⟩
        · obtain ⟨_,_,_,_,o,_,_,e,ex,_⟩ := I.hok p _ hk
          exact ⟨o,e,ex⟩
      obtain ⟨o,e,ex⟩ := z
      refine ⟨⟨o,e,ex.1⟩,fun a e2 => ?_⟩
      cases e2
      exact ⟨o,e,ex.2.1⟩
    · obtain ⟨o,_,_,_,e,ex,_⟩ := I.hok p _ hk
      refine ⟨⟨o,e,ex.1⟩,fun a e2 => ?_⟩
      cases e2
      exact ⟨o,e,ex.2.1⟩
  | _ => exact False.elim ty
noncomputable def tBM (K : PySem.W.Frag) (T : String) (r : V → List V → Hp → VK → Prop) (to : TE) (t : TA) : TE := fun σ H Q => to σ H fun x H1 => tyV K T x H1 ∧ t σ H1 fun xs H2 => r x xs H2 Q
variable {o e : Expr} {es : List Expr} {to : TE} {t : TA} {name : Str} {apos cpos : Pos} {T id : String} {r : V → List V → Hp → VK → Prop}
theorem pe_bm (pa : PlainAttrs T) (slot : Slot T name id) (hty : typeOf (.builtin id) = pure (.type "method_descriptor")) (hm : MtR X id r) (ho : PE X o to) (ha : PA X (e :: es) t)
    (hbase : attributeBase o name X.env (eval o X.env) = eval o X.env := by rfl)
    (hfew : ((backTo cpos (starEach (e :: es) X.env)).all (fun x => !x.1) && (backToKw cpos (keywordEach [] X.env)).all (fun x => x.1.isSome)
      && decide ((e :: es).length + ([] : List Keyword).length + (if ([] : List Keyword).isEmpty then 0 else 1) < 30)) = true := by rfl)
    (hline : (apos.endLine == cpos.line) = true := by rfl) (hs : starEach (e :: es) X.env = (false,eval e X.env) :: starEach es X.env := by rfl) (hplain : (backTo cpos (starEach es X.env)).any (·.1) = false := by rfl) :
    PE X (.Call (.Attribute o name apos) (e :: es) [] cpos) (tBM X.K T r to t) := by
  intro pins s σ H Q I h
  refine wpAny_Call_method_late hbase hfew hline rfl (thn (ho pins s σ H _ I h) fun v s1 ⟨x,H1,I1,r1,ty,q1⟩ => ?_)
  obtain ⟨h1,h2⟩ := tyV_is I1 r1 ty
  refine ⟨T,id,pa,slot,hty,h1,h2,?_⟩
  have hA := ha cpos pins s1 σ H1 _ I1 q1
  rw [hs] at hA ⊢
  refine Calls.callWith_builtin (by show (false || (backTo cpos (starEach es X.env)).any (·.1)) = false; rw [hplain] <;> rfl) (Calls.evalArgs_plain ?_)
  exact thn hA fun us s2 ⟨vs,H2,I2,r2,q2⟩ => hm pins s2 σ H2 x vs v us Q I2 r1 r2 q2
/- xs.append(e),list.index on a module's tuple .. are MtR facts of 06m -/
end
end L2
namespace L2
open PySem PySem.Spec PyProof.Rows
noncomputable def MtM (X : Cx) (id : String) (r : V → List V → Hp → VK → Prop) : Prop :=
  ∀ (pins : List (Addr × Obj)) (s : Shared) (σ : St) (H : Hp) (x : V) (xs : List V) (v : Value) (us : List Value) (Q : VK),Inv X pins σ H s → RelV x v → Vals xs us → r x xs H Q →
    wpAny (model X.prog X.w) X.A (call (.builtin id) (v :: us)) (EP X pins σ Q) X.xe s
theorem Vals.one {x : V} {us : List Value} (h : Vals [x] us) : ∃ u,us = [u] ∧ RelV x u := by
  cases h with
  | cons r h => cases h; exact ⟨_,rfl,r⟩
theorem Vals.rep {xs : List V} {us : List Value} (h : Vals xs us) : ∀ k : Nat,Vals (List.replicate k xs).flatten (List.replicate k us).flatten
  | 0 => .nil
  | k + 1 => by
    rw [List.replicate_succ,List.replicate_succ,List.flatten_cons,List.flatten_cons]
    exact Vals.append h (Vals.rep h k)
theorem foldl_rep (its : List Value) : ∀ (k : Nat) (acc : List Value),
    List.foldl (fun x1 x2 => x1 ++ x2) acc.toArray (List.replicate k its.toArray) = (acc ++ (List.replicate k its).flatten).toArray
  | 0,acc => by simp
  | k + 1,acc => by
    have e : acc.toArray ++ its.toArray = (acc ++ its).toArray := by simp
    have e2 : (acc ++ its) ++ (List.replicate k its).flatten = acc ++ (List.replicate (k + 1) its).flatten := by
      rw [List.replicate_succ,List.flatten_cons,List.append_assoc]
    rw [← e2,← foldl_rep its k (acc ++ its),← e,List.replicate_succ,List.foldl_cons]
section
variable {X : Cx} {pins : List (Addr × Obj)} {σ : St} {H : Hp} {s : Shared} {l b : Addr} {xs ys zs : List V}
theorem Inv.lset {its its' : List Value} {n : Nat} {f : Array Value → Array Value} {t' : Nat} (I : Inv X pins σ H s) (hH : H l = some (.lst xs))
    (e : s.heap.get? l = some { cls := .type "list",data := .seq its.toArray n }) (hf : f its.toArray = its'.toArray) (hv : Vals ys its') (hz : ys.length ≤ sizeLine) :
    Inv X pins σ (upd H l (.lst ys)) { s with heap := s.heap.update l (Obj.mapSeq f),toks := t' } := by
  have q := PySem.IsL.update e f
  rw [hf] at q
  refine I.write (x := l) (e := l) (by rw [hH]; exact trivial) (.inl rfl) (fun b' u hb hu => (Heap.get?_update_other s.heap (Obj.mapSeq f) (Ne.symm hb)).trans hu) ⟨_,q⟩ ?_
  exact ⟨hz,its',_,hv,q⟩
theorem Inv.lnew {its : List Value} {t' : Nat} (I : Inv X pins σ H s) (hv : Vals ys its) (hz : ys.length ≤ sizeLine) :
    Inv X pins σ (upd H s.heap.objs.size (.lst ys)) { s with heap := s.heap.push { cls := .type "list",data := .seq its.toArray },toks := t' } :=
  I.laid (fun _ _ q => Heap.get?_push_of_some _ q) (Nat.le_refl _) ⟨hz,its,0,hv,Heap.get?_push_size _ rfl⟩
theorem Inv.fresh (I : Inv X pins σ H s) : H s.heap.objs.size = none := I.hok.fresh (Nat.le_refl _)
theorem Inv.lstM (I : Inv X pins σ H s) (hH : H l = some (.lst xs)) : xs.length ≤ sizeLine ∧ ∃ (its : List Value) (n : Nat),Vals xs its ∧ xs.length = its.length ∧ s.heap.get? l = some { cls := .type "list",data := .seq its.toArray n } := by
  obtain ⟨z,its,n,r,e⟩ := I.hok l _ hH
  exact ⟨z,its,n,r,r.length,e⟩
theorem notLongL {n : Nat} (h : n ≤ sizeLine) : Builtin.List.listTooLong n = false := by
  unfold Builtin.List.listTooLong
  exact decide_eq_false (by omega)
end
section
variable {X : Cx}
inductive SApp (x : V) (vs : List V) (H : Hp) (Q : VK) : Prop | mk (l : Addr) (xs : List V) (y : V) (hx : x = .ref l) (hv : vs = [y]) (hl : H l = some (.lst xs)) (hz : xs.length < sizeLine) (q : Q .non (upd H l (.lst (xs ++ [y]))))
noncomputable def rAppend : V → List V → Hp → VK → Prop := fun x vs H Q => SApp x vs H Q
theorem mt_append : MtM X "list.append" rAppend := by
  intro pins s σ H x vs v us Q I rx rv h
  obtain ⟨l,xs,y,rfl,rfl,hH,hz,q⟩ := h
  cases rx
  obtain ⟨u,rfl,ru⟩ := rv.one
  obtain ⟨z,its,n,r,hl,e⟩ := I.lstM hH
  refine call_meets F.slot_list_append ⟨_,e,rfl⟩ F.entry_list_append (F.args_list_append_2 _ _) (PySem.list_append l its.toArray n u (by rw [List.size_toArray]; omega)) ⟨e,?_⟩
  refine ⟨.non,_,I.lset (its' := its ++ [u]) hH e (by simp) (r.append (.cons ru .nil)) ?_,rfl,q⟩
  rw [List.length_append,List.length_singleton]
  omega
noncomputable def rCat : R2 := fun x y H Q => ∃ l b xs zs,x = .ref l ∧ y = .ref b ∧ H l = some (.lst xs) ∧ H b = some (.lst zs) ∧ xs.length + zs.length ≤ sizeLine ∧ ∀ p,H p = none → Q (.ref p) (upd H p (.lst (xs ++ zs)))
theorem op_cat : OpR X (binaryOp .Add) rCat := by
  intro pins s σ H x y v u Q I rx ry h
  obtain ⟨l,b,xs,zs,rfl,rfl,hH,hB,hz,q⟩ := h
  cases rx
  cases ry
  obtain ⟨z,its,n,r,hl,e⟩ := I.lstM hH
  obtain ⟨z2,its2,n2,r2,hl2,e2⟩ := I.lstM hB
  refine PySem.P.add_list e e2 ?_ (by rw [List.size_toArray,List.size_toArray]; omega)
  have ea : its.toArray ++ its2.toArray = (its ++ its2).toArray := by simp
  rw [ea]
  exact ⟨.ref _,_,I.lnew (t' := s.toks) (r.append r2) (by rw [List.length_append]; omega),rfl,q _ I.fresh⟩
noncomputable def rRep : R2 := fun x y H Q => ∃ l k xs,x = .ref l ∧ y = .int k ∧ H l = some (.lst xs) ∧ -(2 ^ 63) ≤ k ∧ k < 2 ^ 63 ∧ xs.length * k.toNat ≤ sizeLine ∧
  ∀ p,H p = none → Q (.ref p) (upd H p (.lst (List.replicate k.toNat xs).flatten))
theorem len_rep {α : Type} (xs : List α) (k : Nat) : (List.replicate k xs).flatten.length = k * xs.length := by
  induction k with
  | zero => simp
  | succ k ih => rw [List.replicate_succ,List.flatten_cons,List.length_append,ih,Nat.succ_mul,Nat.add_comm]
theorem op_rep : OpR X (binaryOp .Mult) rRep := by
  intro pins s σ H x y v u Q I rx ry h
  obtain ⟨l,k,xs,rfl,rfl,hH,h1,h2,hz,q⟩ := h
  cases rx
  obtain ⟨t,rfl⟩ := ry
  obtain ⟨z,its,n,r,hl,e⟩ := I.lstM hH
  have hlen : its.toArray.size * k.toNat ≤ sizeLine := by rw [List.size_toArray,← hl]; exact hz
  have hcap : ¬ its.toArray.size * k.toNat > (2 ^ 63 - 1) / 8 := by
    have : (sizeLine : Nat) ≤ (2 ^ 63 - 1) / 8 := by decide
    omega
  have hfit : ¬ (!Builtin.List.listFitsIndex k) = true := by
    rw [fitsIndex_both h1 h2]
    exact Bool.false_ne_true
  have hlong : ¬ Builtin.List.listTooLong (its.toArray.size * k.toNat) = true := by
    rw [notLongL hlen]
    exact Bool.false_ne_true
  have hnew : List.foldl (fun x1 x2 => x1 ++ x2) #[] (List.replicate (if its.toArray.isEmpty = true then 0 else k.toNat) its.toArray) = (List.replicate k.toNat its).flatten.toArray := by
    have f0 : ∀ m : Nat,List.foldl (fun x1 x2 => x1 ++ x2) #[] (List.replicate m its.toArray) = (List.replicate m its).flatten.toArray := fun m => by
      have := foldl_rep its m []
      rw [List.nil_append] at this
      exact this
    rw [f0]
    cases its with
    | nil => simp
    | cons a r' => rw [if_neg (by simp)]
  refine wpAny_binaryOp_repeat_ref (T := "list") (U := "int") (by decide) ⟨_,e,rfl⟩ (fun s' => typeIs_int s' k t) noFill_list_mul F.fills_int_mul F.slot_int_rmul repeat_list F.slot_int_index.lookup
    (call_meets F.slot_int_rmul (typeIs_int s k t) F.entry_int_rmul (F.args_int_rmul_2 _ _) (int___rmul___int_list k t l its.toArray n)
      ⟨e,rfl,⟨_,e,rfl⟩,call_meets F.slot_list_mul ⟨_,e,rfl⟩ F.entry_list_mul (F.args_list_mul_2 _ _) (AutoListH.list___mul___list_int_3 l its.toArray n k t hfit hcap hlong) ⟨e,?_⟩⟩)
  rw [hnew]
  exact ⟨.ref _,_,I.lnew (t' := s.toks) (r.rep k.toNat) (by rw [len_rep,Nat.mul_comm]; exact hz),rfl,q _ I.fresh⟩
end
section
variable {prog : Program} {w : World} {A : Around} {E : Value → Shared → Prop} {s : Shared}
end
section
variable {X : Cx}
end
end L2
namespace L2
open PySem PySem.Spec PyProof.Rows
section
variable {κ : Type} [DecidableEq κ]
noncomputable def valV (kvs : List (κ × V)) (k : κ) : Option V := (kvs.find? fun kv => decide (kv.1 = k)).map (·.2)
theorem valV_pos {p : κ × V} {r : List (κ × V)} {k : κ} (e : p.1 = k) : valV (p :: r) k = some p.2 := by simp [valV,List.find?_cons,e]
theorem valV_neg {p : κ × V} {r : List (κ × V)} {k : κ} (e : ¬ p.1 = k) : valV (p :: r) k = valV r k := by simp [valV,List.find?_cons,e]
theorem KV.val {kvs : List (κ × V)} {vs : List (κ × Value)} (r : KV kvs vs) (k : κ) : RelO (valV kvs k) (valueAt vs k) := by
  unfold KV at r
  induction r with
  | nil => exact True.intro
  | @cons p q ps qs h t ih =>
    obtain ⟨h1,h2⟩ := h
    by_cases e : p.1 = k
    · have e' : q.1 = k := h1.symm.trans e
      have b : valueAt (q :: qs) k = some q.2 := by simp [valueAt,List.find?_cons,e']
      rw [valV_pos e,b]; exact h2
    · have e' : ¬ q.1 = k := fun z => e (h1.trans z)
      have b : valueAt (q :: qs) k = valueAt qs k := by simp [valueAt,List.find?_cons,e']
      rw [valV_neg e,b]; exact ih
end
section
variable {P : Program} {w : World} {H : Hp} {h : Heap} {a : Addr}
end
section
variable {X : Cx} {pins : List (Addr × Obj)} {σ : St} {H : Hp} {s : Shared} {a : Addr} {y v : V} {u r : Value} {o : Option V} {A : Around} {E : Value → Shared → Prop}
end
section
variable {X : Cx} {pins : List (Addr × Obj)} {σ : St} {H : Hp} {s : Shared} {a : Addr} {kvs : List (Key × V)} {k : Key} {u : Value} {A : Around} {E : Value → Shared → Prop}
end
section
variable {X : Cx} {o i e value : Expr} {pos pos' tpos : Pos} {td ty tv : TE}
end
section
variable {X : Cx} {pos : Pos}
end
section
variable {X : Cx} {pins : List (Addr × Obj)} {σ : St} {H : Hp} {s : Shared} {a : Addr} {y d : V} {u r : Value} {o : Option V} {A : Around} {E : Value → Shared → Prop}
end
section
variable {X : Cx} {o e f : Expr} {apos cpos : Pos} {td ty tx : TE}
end
section
variable {X : Cx} {pins : List (Addr × Obj)} {σ : St} {H : Hp} {s : Shared} {a : Addr} {kvs : List (Key × V)} {A : Around} {E : Value → Shared → Prop}
end
section
variable {X : Cx} {pins : List (Addr × Obj)} {σ : St} {H : Hp} {s : Shared} {a : Addr} {y : V} {u : Value} {A : Around} {E : Value → Shared → Prop}
end
end L2
namespace Att
open PySem PySem.W PySem.Calls PyProof.Rows
theorem ints_of_wellAll {P : Params} {h : Heap} : ∀ (ns : List Int) (vs : List Value),WellAll P h vs (ns.map WData.int) → IntsAre vs ns := by
  intro ns
  induction ns with
  | nil =>
    intro vs w
    rw [List.map_nil] at w
    cases w
    exact .nil
  | cons n ns ih =>
    intro vs w
    rw [List.map_cons] at w
    cases w with
    | cons a b =>
      cases a
      exact .cons _ _ (ih _ b)
theorem script_of {l : OpenLaw} {n : Nat} (hn : l.most = some n) {P : Params} {h : Heap} {args : List WData} {vals : List Value}
    (hpre : l.row.toRowW.claim.pre args = true) (hwl : WellAll P h vals args) :
    ∃ a vs ns,vals = [Value.ref a] ∧ args = [WData.list (ns.map WData.int)] ∧ h.get? a = some { cls := .type "list",data := .seq vs.toArray } ∧ IntsAre vs ns ∧ ns.length ≤ n := by
  have hsh : WShape.hasAll [] args [.list .int] = true := (pre_splitW hpre).1
  have hc : l.pre.holds [] { args := args } = true := (pre_splitW hpre).2
  obtain ⟨d,r,rfl,h1,h2⟩ := hasAllW_cons hsh
  obtain rfl := hasAllW_nil h2
  obtain ⟨xs,rfl,h3⟩ := hasW_list h1
  obtain ⟨ns,rfl⟩ := items_int h3
  have hlen : ns.length ≤ n := by
    unfold OpenLaw.pre at hc
    have h4 : (WTm.not (.lt (.lit (.int (n : Int))) (.len (.arg 0)))).holds [] { args := [.list (ns.map .int)] } = true := by
      have h4 := (holds_andW hc).1
      rw [hn] at h4
      exact h4
    have h5 := condW_of h4 (w_not (w_lt w_lit (w_len_list (w_arg rfl))))
    rw [List.length_map] at h5
    refine Nat.le_of_not_lt fun q => ?_
    have q' : (n : Int) < ((ns.length : Nat) : Int) := by omega
    first
      | (rw [decide_eq_true q'] at h5; exact absurd h5 (by decide))
      | (simp at h5; omega)
  cases hwl with
  | cons w1 w2 =>
    cases w2
    cases w1 with
    | list ho hall => exact ⟨_,_,ns,rfl,rfl,ho,ints_of_wellAll ns _ hall,hlen⟩
theorem post_true (l : OpenLaw) (args : List WData) : l.row.toRowW.claim.post args (.bool true) args = true :=
  postW_of (r := l.row.toRowW) (X := (true == true))
    (show WShape.has [] (.bool true) .bool = true by first | rfl | decide | simp [WShape.has,WShape.arms,WShape.armsAll])
    (show (WTm.eq .res (.lit (.bool true))).value [] { args := args,res := some (.bool true),after := args } = some (.bool (true == true)) from w_eq_bool (w_res rfl) w_lit) rfl
theorem attach_call {l : OpenLaw} {n : Nat} {q : Program} {loose : List Str} {XP : (Str → Option Value) → Heap → Prop} {YP : World → Heap → Prop} {d : DefRec}
    (hn : l.most = some n) (hdf : d.params.defaults = [])
    (call : ∀ (w : World) (s₀ s₁ : Shared) (mg mb : Str → Option Value) (fa : Addr) (o : Obj) (pm cd doc : Value) (a : Addr) (vs : List Value) (ns : List Int),
      Ground q loose [] XP w s₀ mg mb s₁.heap → YP w s₁.heap →
      s₁.heap.get? fa = some o → o.data = .func (docDef d.name d.params d.body d.scope pm cd doc) → s₁.heap.CodeRec cd d.name → mg d.name = some (.ref fa) →
      s₁.heap.get? a = some { cls := .type "list",data := .seq vs.toArray } → IntsAre vs ns → ns.length ≤ n → s₁.gens = #[] →
      codeAny (model l.prog w) callerA (.call (.ref fa) ⟨[.ref a],[]⟩) (fun r s' => r = .ok (.ret (.bool true)) ∧ OldK s₁.heap s'.heap ∧ s'.os = s₁.os ∧ AllBare s'.gens) s₁) :
    WalkO q loose XP YP l.row.toRowW d [] (fun f vs => PySem.call f vs) := by
  intro w s₀ s₁ mg mb G Y fa o pm cd doc dV kV ho hd hcd hD hmg hg args vals as hpre hlay hrd hwl hlo
  obtain rfl : dV = .none := Dflts.none hD hdf
  obtain rfl : kV = .none := Dflts.noKw hD
  obtain ⟨a,vs,ns,rfl,rfl,hobj,hints,hlen⟩ := script_of hn hpre hwl
  refine enter_call (codeAny_mono (call w s₀ s₁ mg mb fa o pm cd doc a vs ns G Y ho (fd_plain hd) hcd hmg hobj hints hlen hg) fun r s' hq => ?_)
  obtain ⟨rfl,h2,h3,h4⟩ := hq
  exact ⟨.inl ⟨.bool true,.bool true,[],rfl,fun _ => rfl,.bool true,post_true l _,fun _ => ⟨List.Pairwise.nil,fun _ hm => (nomatch hm)⟩⟩,h2,h3,h4⟩
section
variable {prog : Program} {w : World} {A : Around} {E : Value → Shared → Prop} {s : Shared} {K : Frag}
end
end Att
namespace L2
open PySem PySem.Spec PyProof.Rows
theorem vals_ints {vs : List Value} {ns : List Int} (h : IntsAre vs ns) : Vals (ns.map V.int) vs := by
  induction h with
  | nil => exact .nil
  | cons n t h ih => exact .cons ⟨t,rfl⟩ ih
noncomputable def Only (H : Hp) : Prop := ∀ b,H b = none ∨ ∃ o xs,H b = some (.frz o (.lst xs))
theorem law_call {P : Program} {w : World} {K : PySem.W.Frag} {mg mb : Str → Option Value} {CX : CXT} {k : Nat} {fa a : Addr} {fd : FuncData} {x : Str} {sp : Sp} {s₁ : Shared} {vs : List Value} {ns : List Int}
    (KX : K.In s₁.heap) (hns : s₁.heap.Ns mainGlobals mg) (hb : s₁.heap.Ns builtinsNs mb) (hbb : ∀ x : Str,x ≠ "__name__" → mb x = bootBuiltins x) (hlim : s₁.heap.NoLimit) (hdig : s₁.heap.NoDigits) (hg : s₁.gens = #[])
    (ha : s₁.heap.get? a = some { cls := .type "list",data := .seq vs.toArray }) (hi : IntsAre vs ns) (hl : ns.length ≤ sizeLine) (hr : Room k callerA)
    (F : ∀ base : Heap,K.In base → base.Ns mainGlobals mg → FnOk P w K mg base CX k fa fd [x] sp) (hbind : ∀ (s : Shared) (u : Value),BindsTo s fd ⟨[u],[]⟩ [(x,u)])
    (hsp : ∀ H : Hp,Only H → SqL K H a (ns.map V.int) → sp [.ref a] H (fun v _ => v = .bl true) fun _ _ _ => False)
    (hCX : ∀ H e s',CX [] H s₁ (fun _ _ _ => False) e s' → False) :
    codeAny (model P w) callerA (.call (.ref fa) ⟨[.ref a],[]⟩) (fun r s' => r = .ok (.ret (.bool true)) ∧ OldK s₁.heap s'.heap ∧ s'.os = s₁.os ∧ AllBare s'.gens) s₁ := by
  have rv := vals_ints hi
  have lenV := hi.length
  have core : ∀ H : Hp,Only H → SqL K H a (ns.map V.int) → HOk P w H s₁.heap → (∀ b,H b ≠ none → b = a) → (H a ≠ none → K.lookup a = none) →
      codeAny (model P w) callerA (.call (.ref fa) ⟨[.ref a],[]⟩) (fun r s' => r = .ok (.ret (.bool true)) ∧ OldK s₁.heap s'.heap ∧ s'.os = s₁.os ∧ AllBare s'.gens) s₁ := by
    intro H hO hS hok hA hK
    have base_of : ∀ {b : Addr} {o : Obj},s₁.heap.get? b = some o → H b = none → (hidT s₁.heap H).get? b = some o := fun e n => hidT_get e n
    have noA : ∀ {b : Addr} {o : Obj} {es : Array DictEntry} {ep : Nat},s₁.heap.get? b = some o → o.data = .dict es ep → H b = none := fun {b o es ep} e d => by
      cases q : H b with
      | none => rfl
      | some u =>
        have e' : b = a := hA b (by rw [q]; simp)
        subst e'
        rw [ha] at e; cases e
        have d' : Data.seq vs.toArray _ = Data.dict es ep := d
        cases d'
    have nsK : ∀ {b : Addr} {m : Str → Option Value},s₁.heap.Ns b m → (hidT s₁.heap H).Ns b m := fun {b m} ⟨o,es,ep,e,d,r⟩ => ⟨o,es,ep,base_of e (noA e d),d,r⟩
    have hKb : K.In (hidT s₁.heap H) := fun b o e => base_of (KX b o e) (by
      cases q : H b with
      | none => rfl
      | some u =>
        have e' : b = a := hA b (by rw [q]; simp)
        subst e'
        rw [hK (by rw [q]; simp)] at e; cases e)
    have hM : Mod K mg (hidT s₁.heap H) := ⟨hKb,nsK hns,⟨mb,nsK hb,hbb⟩,let ⟨mc,h1,h2⟩ := hlim; ⟨mc,nsK h1,h2⟩,let ⟨mc,h1,h2⟩ := hdig; ⟨mc,nsK h1,h2⟩⟩
    have e0 : Env0 P w K mg (hidT s₁.heap H) callerA [] s₁ H := ⟨rfl,hM,fun b o e => of_hidT e,Nat.le_of_eq (hidT_size _ _),trivial,fun b hb => absurd (show b ∈ ([] : List Addr) from hb) (by simp),hok,.of_eq hg⟩
    refine codeAny_mono ((F _ hKb (nsK hns)).run callerA [] s₁ H ⟨[.ref a],[]⟩ [.ref a] [.ref a] _ _ hr e0 (hbind s₁ (.ref a)) (.cons rfl .nil) (hsp H hO hS)) fun r s' h => ?_
    cases r with
    | error e => exact (hCX H e s' h).elim
    | ok fl =>
      cases fl with
      | next => exact False.elim h
      | brk => exact False.elim h
      | cont => exact False.elim h
      | ret u =>
        obtain ⟨v,H',os,bare,un,hok',r',q⟩ := h
        have q' : v = .bl true := q
        subst q'
        obtain rfl : u = Value.bool true := r'
        refine ⟨rfl,OldK.of_keep fun b o e => ?_,os,bare⟩
        cases q : H b with
        | none => exact un.keep b o e q (by intro z; exact absurd (show b ∈ ([] : List Addr) from z) (by simp)) (by simp)
        | some u =>
          rcases hO b with z | ⟨ob,xs,z⟩
          · rw [q] at z; cases z
          · have z2 := un.frzs b ob _ z
            obtain ⟨e1,_⟩ := hok b _ z
            obtain ⟨e2,_⟩ := hok' b _ z2
            rw [e] at e1; cases e1
            exact e2
  cases hk : K.lookup a with
  | some o =>
    have e := KX a o hk
    rw [ha] at e
    cases e
    refine core (fun _ => none) (fun _ => .inl rfl) (.inr ⟨_,vs.toArray,_,hk,rfl,rfl,rfl,by rw [List.size_toArray,lenV]; exact hl,by simpa using rv⟩) (fun b u z => by have z' : (none : Option HO) = some u := z; cases z') (fun b z => absurd rfl z) fun z => absurd rfl z
  | none =>
    refine core (fun b => if b = a then some (.frz { cls := .type "list",data := .seq vs.toArray } (.lst (ns.map V.int))) else none) (fun b => ?_) (.inl (.inr ⟨{ cls := .type "list",data := .seq vs.toArray },if_pos rfl⟩)) (fun b u z => ?_) (fun b z => ?_) fun _ => hk
    · by_cases hb : b = a
      · exact .inr ⟨_,_,if_pos hb⟩
      · exact .inl (if_neg hb)
    · by_cases hb : b = a
      · have z' := (if_pos hb).symm.trans z
        cases z'
        subst hb
        exact ⟨ha,by rw [List.length_map]; exact hl,vs,_,rv,ha⟩
      · have z' := (if_neg hb).symm.trans z
        cases z'
    · by_cases hb : b = a
      · exact hb
      · exact absurd (if_neg hb) z
end L2
namespace L2
open PySem PySem.Spec PyProof.Rows
theorem walk_of {l : PySem.W.OpenLaw} {n k : Nat} {q : Program} {loose : List Str} {XP : (Str → Option Value) → Heap → Prop} {YP : World → Heap → Prop} {d : DefRec} {K : Params → PySem.W.Frag} {CX : World → CXT} {sp : World → Sp} {x : Str}
    (hn : l.most = some n) (hn2 : n ≤ sizeLine) (hdf : d.params.defaults = []) (hr : Room k callerA)
    (hY : ∀ (w : World) (h : Heap),YP w h → (K w.params).In h)
    (F : ∀ (w : World) (mg : Str → Option Value) (fa : Addr) (h : Heap),(K w.params).In h → h.Ns mainGlobals mg → mg d.name = some (.ref fa) →
      ∃ fd : FuncData,(∀ (s : Shared) (u : Value),BindsTo s fd ⟨[u],[]⟩ [(x,u)]) ∧
        ∀ base : Heap,(K w.params).In base → base.Ns mainGlobals mg → FnOk l.prog w (K w.params) mg base (CX w) k fa fd [x] (sp w))
    (hsp : ∀ (w : World) (H : Hp) (a : Addr) (ns : List Int),ns.length ≤ n → Only H → SqL (K w.params) H a (ns.map V.int) → sp w [.ref a] H (fun v _ => v = .bl true) fun _ _ _ => False)
    (hCX : ∀ (w : World) (H : Hp) (s : Shared) (e : Value) (s' : Shared),CX w [] H s (fun _ _ _ => False) e s' → False) :
    PySem.W.WalkO q loose XP YP l.row.toRowW d [] (fun f vs => PySem.call f vs) := by
  refine Att.attach_call hn hdf fun w s₀ s₁ mg mb fa o pm cd doc a vs ns G Y ho hd hcd hmg hobj hints hlen hg => ?_
  have KX := hY w _ Y
  obtain ⟨fd,hb,hF⟩ := F w mg fa _ KX G.T.g hmg
  exact law_call KX G.T.g G.T.b G.T.builtins G.T.nolimit G.T.nodigits hg hobj hints (Nat.le_trans hlen hn2) hr hF hb (fun H hO hS => hsp w H a ns hlen hO hS) fun H e s' => hCX w H s₁ e s'
end L2
/- THE LAST THEOREM (shape; LID,My.* are yours):
   My.Adr: a structure of the addresses that your layer names (classes,functions); My.Txt K t: a structure (Prop) of the equations over K;
   My.txt_mk : {K} {implicit addresses ..} (e1 : nsIn K mainGlobals "law" = some (some (.ref f))) (e2 : K.lookup f = some ⟨oc,od,.func (fnOf "law" "law" params body scope dV kV doc pm an cdv ct),sl⟩) (e3 : codeIn K cdv "law" = true) .. : ∃ t,My.Txt K t
set_option maxRecDepth 100000 in
set_option maxHeartbeats 0 in
theorem PySem.Challenge.cw_LID_holds : PySem.Challenge.rw_LID.Holds := by
  w_on; o_law; k_head; (case hw => w_witness2)
  k_fill
  refine L2.walk_of (l := PySem.Challenge.rw_LID) (n := 63) (k := 40) (x := "script") (CX := fun w => ..) (sp := fun _ => My.sp_law) rfl (by decide) rfl ⟨rfl,by decide,by decide⟩ (fun w h Y => PySem.W.kIn_of Y) ?F ?S ?C
  case F =>
    intro w mg fa h KX G hmg
    have T : ∃ t,My.Txt (L2.KOf KX) t := by
      dsimp only [L2.KOf]                          -- K must stand as «<heap const> w.params» for k_is
      refine' My.txt_mk ?e1 ?e2 ?e3 ..
      (case e1 => PySem.W.k_is)                    -- in the order: a name -> its address -> its object -> its parts
      (case e2 => PySem.W.k_is)
      ..
    obtain ⟨t,T⟩ := T
    have e0 := hmg.symm.trans (PySem.W.mg_of KX G T.law)
    cases e0                                       -- fa is the law's own address
    exact ⟨_,fun s u => .of_eq rfl,fun base kb nb => My.law_fn T kb nb⟩     -- if «.of_eq rfl» comes too early: refine' ⟨_,?b,fun base kb nb => My.law_fn T kb nb⟩; exact fun s u => .of_eq rfl
  case S => exact fun w H a ns hl hO hS => ..
  case C => exact ..
(the tactic k_is has no namespace: write k_is) -/
namespace L2
open PySem PySem.Spec PyProof.Rows
noncomputable def defArgs (s : Stmt) : Arguments := match s with
  | .FunctionDef _ a _ _ _ _ _ _ _ _ => a
  | _ => { posonlyargs := [],args := [],vararg := none,kwonlyargs := [],kw_defaults := [],kwarg := none,defaults := [] }
noncomputable def defBody (s : Stmt) : List Stmt := match s with
  | .FunctionDef _ _ b _ _ _ _ _ _ _ => b
  | _ => []
noncomputable def defScope (s : Stmt) : Scope := match s with
  | .FunctionDef _ _ _ _ _ _ sc _ _ _ => sc
  | _ => { kind := .function,names := [],isGenerator := false,isCoroutine := false }
noncomputable abbrev E0 : XK := fun _ _ _ => False
structure Fun (K : PySem.W.Frag) (x qual : Str) (st : Stmt) (f : Addr) (fd : FuncData) : Prop where
  ex : ∃ (oc : Value) (od : Option Addr) (kV doc pm : Value) (an : Option Addr) (cdv ct : Value) (osl : Array (Option Value)),
    fd = PySem.W.fnOf x qual (defArgs st) (defBody st) (defScope st) .none kV doc pm an cdv ct ∧ K.lookup f = some ⟨oc,od,.func fd,osl⟩ ∧ PySem.W.codeIn K cdv qual = true
  kp : PySem.W.keepIn K (.ref f) = true
section
variable {P : Program} {w : World} {K : PySem.W.Frag} {mg : Str → Option Value} {base : Heap}
theorem Fun.binds {x qual : Str} {st : Stmt} {f : Addr} {fd : FuncData} {ps : List Str} (F : Fun K x qual st f fd)
    (h : ∀ (kV doc pm : Value) (an : Option Addr) (cdv ct : Value) (us : List Value),us.length = ps.length → bindArgs (PySem.W.fnOf x qual (defArgs st) (defBody st) (defScope st) .none kV doc pm an cdv ct) ⟨us,[]⟩ = pure (ps.zip us)) : Binds K fd ps [] := by
  obtain ⟨oc,od,kV,doc,pm,an,cdv,ct,osl,rfl,lk,hcd⟩ := F.ex
  exact .all (h kV doc pm an cdv ct)
theorem fun_mk {x qual : Str} {st : Stmt} {f : Addr} {oc : Value} {od an : Option Addr} {osl : Array (Option Value)} {kV doc pm cdv ct : Value} (l : K.lookup f = some ⟨oc,od,.func (PySem.W.fnOf x qual (defArgs st) (defBody st) (defScope st) .none kV doc pm an cdv ct),osl⟩)
    (c : PySem.W.codeIn K cdv qual = true) (k : PySem.W.keepIn K (.ref f) = true) : Fun K x qual st f (PySem.W.fnOf x qual (defArgs st) (defBody st) (defScope st) .none kV doc pm an cdv ct) := ⟨⟨oc,od,kV,doc,pm,an,cdv,ct,osl,rfl,l,c⟩,k⟩
end
theorem small1000 {n : Nat} (h : n ≤ 1000) : n < sizeLine := Nat.lt_of_le_of_lt h (by decide)
section
variable {X : Cx}
theorem pv (i : Nat) {x : Str} {pos : Pos} (hN : X.N[i]? = some x := by rfl) (hv : Vis X.env.scope x := by first | exact Or.inl rfl | exact Or.inr (Or.inl rfl) | exact Or.inr (Or.inr rfl)) (hd : (x == ("__debug__" : Str)) = false := by decide)
    (hcd : (x == ("__classdict__" : Str)) = false := by decide) : PE X (.Name x pos) (tVar i) := pe_var hN hv hd hcd
end
theorem iteF {A B : Prop} (h : B) : if false = true then A else B := by
  rw [if_neg Bool.false_ne_true]
  exact h
theorem iteT {A B : Prop} (h : A) : if true = true then A else B := by
  rw [if_pos rfl]
  exact h
theorem ite2 {c A B : Prop} [Decidable c] (h1 : c → A) (h2 : ¬ c → B) : if c then A else B := by
  by_cases h : c
  · rw [if_pos h]
    exact h1 h
  · rw [if_neg h]
    exact h2 h
theorem iteNS {c A B : Prop} [Decidable c] (hc : c) (h : B) : if (!decide c) = true then A else B := by
  rw [decide_eq_true hc]
  exact iteF h
noncomputable def Same (H H' : Hp) : Prop := ∀ b o,H b = some o → H' b = some o
theorem Same.refl (H : Hp) : Same H H := fun _ _ h => h
theorem Same.trans {H H1 H2 : Hp} (a : Same H H1) (b : Same H1 H2) : Same H H2 := fun c o h => b c o (a c o h)
theorem Same.free {H H' : Hp} (e : Same H H') {l : Addr} (h : H' l = Option.none) : H l = Option.none := by
  cases q : H l with
  | none => rfl
  | some o =>
    rw [e l o q] at h
    cases h
theorem Same.seq {K : PySem.W.Frag} {H H' : Hp} {a : Addr} {xs : List V} (e : Same H H') (h : SqL K H a xs) : SqL K H' a xs := by
  rcases h with (h | ⟨o,h⟩) | h
  · exact .inl (.inl (e _ _ h))
  · exact .inl (.inr ⟨o,e _ _ h⟩)
  · exact .inr h
section
variable {κ : Type} [DecidableEq κ]
end
end L2
namespace L2
open PySem PySem.Spec PyProof.Rows
theorem us0 {us : List Value} (h : us.length = 0) : us = [] := List.eq_nil_of_length_eq_zero h
theorem usS {us : List Value} {n : Nat} (h : us.length = n + 1) : ∃ a r,us = a :: r ∧ r.length = n := by
  cases us with
  | nil => cases h
  | cons a r => exact ⟨a,r,rfl,Nat.succ.inj h⟩
theorem us1 {us : List Value} (h : us.length = 1) : ∃ a,us = [a] := by
  obtain ⟨a,r,rfl,k⟩ := usS h
  obtain rfl := us0 k
  exact ⟨a,rfl⟩
theorem us2 {us : List Value} (h : us.length = 2) : ∃ a b,us = [a,b] := by
  obtain ⟨a,r,rfl,k⟩ := usS h
  obtain ⟨b,rfl⟩ := us1 k
  exact ⟨a,b,rfl⟩
theorem us3 {us : List Value} (h : us.length = 3) : ∃ a b c,us = [a,b,c] := by
  obtain ⟨a,r,rfl,k⟩ := usS h
  obtain ⟨b,c,rfl⟩ := us2 k
  exact ⟨a,b,c,rfl⟩
theorem us4 {us : List Value} (h : us.length = 4) : ∃ a b c d,us = [a,b,c,d] := by
  obtain ⟨a,r,rfl,k⟩ := usS h
  obtain ⟨b,c,d,rfl⟩ := us3 k
  exact ⟨a,b,c,d,rfl⟩
theorem us5 {us : List Value} (h : us.length = 5) : ∃ a b c d e,us = [a,b,c,d,e] := by
  obtain ⟨a,r,rfl,k⟩ := usS h
  obtain ⟨b,c,d,e,rfl⟩ := us4 k
  exact ⟨a,b,c,d,e,rfl⟩
structure Flown (P : Program) (w : World) (outer : List Env) (H : Hp) (s : Shared) (E : XK) (e : Value) (s' : Shared) : Prop where
  ex : ∃ (ea C : Addr) (a0 : Value) (B : Heap) (H' : Hp),e = .ref ea ∧ s'.os = s.os ∧ AllBare s'.gens ∧ Heap.FlyingW B outer ea (.ref C) a0 s'.heap ∧ HOk P w H' B ∧ Un (frs outer) [] H H' s.heap s'.heap ∧
    (∀ b o,s.heap.get? b = some o → b ∈ frs outer ∨ ∃ o',B.get? b = some o') ∧ E (.ref C) none H'
theorem flown_none {P : Program} {w : World} {outer : List Env} {H : Hp} {s s' : Shared} {e : Value} (h : Flown P w outer H s E0 e s') : False := by
  obtain ⟨_,_,_,_,_,_,_,_,_,_,_,_,q⟩ := h.ex
  exact q
theorem passF0 {X : Cx} : Passes (Flown X.prog X.w) X E0 := fun _ _ _ _ _ _ _ h => (flown_none h).elim
section
variable {X : Cx} {pins : List (Addr × Obj)} {σ : St} {H : Hp} {s : Shared}
end
noncomputable abbrev cxF (P : Program) (w : World) (K : PySem.W.Frag) (mg : Str → Option Value) (base : Heap) (N : List Str) (qual : Str) (scope : Scope) (f : Addr) (cdv : Value) (A : Around) (outer : List Env) (s : Shared) (H : Hp) (E : XK) : Cx :=
  cxOf (Flown P w) P w K mg base N qual scope f cdv A outer s H E
section
variable {P : Program} {w : World} {K : PySem.W.Frag} {mg : Str → Option Value} {base : Heap} {N : List Str} {qual : Str} {scope : Scope} {f : Addr} {cdv : Value} {A : Around} {outer : List Env} {s₀ : Shared} {H₀ : Hp} {E : XK}
end
theorem Fun.okF {P : Program} {w : World} {K : PySem.W.Frag} {mg : Str → Option Value} {base : Heap} {x qual : Str} {st : Stmt} {f : Addr} {fd : FuncData} {N ps : List Str} {k : Nat} {sp : Sp} (F : Fun K x qual st f fd) (S : FnScope N ps (defScope st)) (len : ∀ vs H Q E,sp vs H Q E → vs.length = ps.length)
    (hbody : ∀ (cdv : Value) (A : Around) (outer : List Env) (s : Shared) (H : Hp) (vs : List V) (Q : VK) (E : XK),Room k (A.deeper (envOfC qual (defScope st) s.heap.objs.size f cdv)) → sp vs H Q E →
      ∃ t,PSs (cxF P w K mg base N qual (defScope st) f cdv A outer s H E) (defBody st) t ∧ t { nx := fun _ H' => Q .non H',rt := Q } (start N vs) H) : FnOk P w K mg base (Flown P w) (k + 1) f fd ps sp := by
  obtain ⟨oc,od,kV,doc,pm,an,cdv,ct,osl,rfl,lk,hcd⟩ := F.ex
  exact fn_of lk hcd S len fun A outer s H vs Q E hr hsp => hbody cdv A outer s H vs Q E hr hsp
theorem Fun.okN {P : Program} {w : World} {K : PySem.W.Frag} {mg : Str → Option Value} {base : Heap} {x qual : Str} {st : Stmt} {f : Addr} {fd : FuncData} {N ps : List Str} {k : Nat} {sp : Sp} (F : Fun K x qual st f fd) (S : FnScope N ps (defScope st)) (len : ∀ vs H Q E,sp vs H Q E → vs.length = ps.length)
    (hbody : ∀ (cdv : Value) (A : Around) (outer : List Env) (s : Shared) (H : Hp) (vs : List V) (Q : VK) (E : XK),Room k (A.deeper (envOfC qual (defScope st) s.heap.objs.size f cdv)) → sp vs H Q E →
      ∃ t,PSs (cxF P w K mg base N qual (defScope st) f cdv A outer s H E).nox (defBody st) t ∧ t { nx := fun _ H' => Q .non H',rt := Q } (start N vs) H) : FnOk P w K mg base (Flown P w) (k + 1) f fd ps sp :=
  F.okF S len fun cdv A outer s H vs Q E hr h => let ⟨t,a,b⟩ := hbody cdv A outer s H vs Q E hr h; ⟨t,a.nox,b⟩
end L2
namespace L2
open PySem PySem.Spec PyProof.Rows
section
variable {X : Cx}
theorem OpR.imp {f : Value → Value → Sem Value} {r r' : R2} (h : OpR X f r) (i : ∀ x y H Q,r' x y H Q → r x y H Q) : OpR X f r' := fun pins s σ H x y v u Q I rx ry q => h pins s σ H x y v u Q I rx ry (i _ _ _ _ q)
theorem IxR.imp {r r' : R2} (h : IxR X r) (i : ∀ x y H Q,r' x y H Q → r x y H Q) : IxR X r' := fun value slice pins s σ H x y v u Q I rx ry q hs => h value slice pins s σ H x y v u Q I rx ry (i _ _ _ _ q) hs
theorem pe_globI {x : Str} {i : Int} {pos : Pos} (hg : Gl X x) (hm : ∃ t,X.mg x = some (.int i t)) (hd : (x == ("__debug__" : Str)) = false := by decide) : PE X (.Name x pos) (tC (.int i)) := by
  obtain ⟨t,e⟩ := hm
  exact pe_glob hg e ⟨t,rfl⟩ hd
structure Cal (P : Program) (w : World) (K : PySem.W.Frag) (mg : Str → Option Value) (base : Heap) (x : Str) (k : Nat) (ps : List Str) (sp : Sp) : Prop where
  ex : ∃ (g : Addr) (gd : FuncData),mg x = some (.ref g) ∧ PySem.W.keepIn K (.ref g) = true ∧ Binds K gd ps [] ∧ FnOk P w K mg base (Flown P w) k g gd ps sp
theorem pe_callC {x : Str} {k k' : Nat} {ps : List Str} {sp : Sp} {p pos : Pos} {e : Expr} {es : List Expr} {t : TA} (C : Cal X.prog X.w X.K X.mg X.base x k ps sp) (hr : Room k' X.A) (hg : Gl X x) (ha : PA X (e :: es) t)
    (hk : k ≤ k' := by decide) (hd : (x == ("__debug__" : Str)) = false := by decide)
    (he : starEach (e :: es) X.env = (false,eval e X.env) :: starEach es X.env := by rfl) (hpl : (backTo pos (starEach es X.env)).any (·.1) = false := by rfl) : PE X (.Call (.Name x p) (e :: es) [] pos) (tCall sp [] E0 t) := by
  obtain ⟨g,gd,hm,hkp,hb,F⟩ := C.ex
  exact pe_call F (hr.mono hk) hg hm hkp hb .nil passF0 ha hd he hpl
theorem cat_tup0 {prog : Program} {w : World} {A : Around} {E : Value → Shared → Prop} {s : Shared} {t b : Addr} {vs ws : List Value} {Q : Value → Shared → Prop} (ht : IsTup s.heap t vs.toArray) (hb : IsTup s.heap b ws.toArray) (hv : vs = [])
    (h1 : Q (.ref b) s) : wpAny (model prog w) A (binaryOp .Add (.ref t) (.ref b)) Q E s := by
  obtain ⟨⟨cls,dd,data,sl⟩,ho,hc,n,hd⟩ := id ht
  obtain ⟨⟨cls2,dd2,data2,sl2⟩,ho2,hc2,n2,hd2⟩ := id hb
  simp only at hc hd hc2 hd2
  subst hc hd hc2 hd2
  exact concat_meets ⟨_,ho,rfl⟩ ⟨_,ho2,rfl⟩ noFill_tuple_add seq_tuple_add PySem.F.slot_tuple_add PySem.F.entry_tuple_add (PySem.F.args_tuple_add_2 _ _)
      (tuple_addW0 t b vs.toArray ws.toArray n n2 dd dd2 sl sl2 (by simp [hv])) ⟨ho,ho2,h1⟩
noncomputable def rCat0 (K : PySem.W.Frag) : R2 := fun x y H Q => ∃ a b ys,x = .ref a ∧ y = .ref b ∧ SqT K H a [] ∧ SqT K H b ys ∧ Q (.ref b) H
theorem op_cat0 : OpR X (binaryOp .Add) (rCat0 X.K) := by
  intro pins s σ H x y v u Q I rx ry h
  obtain ⟨a,b,ys,rfl,rfl,ha,hb,q⟩ := h
  cases rx
  cases ry
  obtain ⟨its,r1,p1,_⟩ := I.tuple ha
  obtain ⟨its2,r2,p2,_⟩ := I.tuple hb
  exact cat_tup0 p1 p2 (r1.nil_iff.mpr rfl) ⟨.ref b,H,I,rfl,q⟩
noncomputable def rAddV (K : PySem.W.Frag) : R2 := fun x y H Q => match x,y with
  | .int i,.int j => Q (.int (i + j)) H
  | .str i,.str j => i.length + j.length ≤ sizeLine ∧ Q (.str (i ++ j)) H
  | .ref a,.ref b => (∃ xs ys,H a = some (.lst xs) ∧ H b = some (.lst ys) ∧ xs.length + ys.length ≤ sizeLine ∧ ∀ p,H p = none → Q (.ref p) (upd H p (.lst (xs ++ ys)))) ∨
      (∃ xs ys,SqT K H a xs ∧ SqT K H b ys ∧ xs.length + ys.length ≤ sizeLine ∧ (xs = [] → Q (.ref b) H) ∧ (xs ≠ [] → ys = [] → Q (.ref a) H) ∧ (xs ≠ [] → ys ≠ [] → ∀ p,H p = none → Q (.ref p) (upd H p (.tup (xs ++ ys)))))
  | _,_ => False
theorem v_add : OpR X (binaryOp .Add) (rAddV X.K) := by
  refine ((op_add.or op_add_str).or (op_cat.or (op_catT.or op_cat0))).imp fun x y H Q h => ?_
  unfold rAddV at h
  split at h
  · exact .inl (.inl ⟨_,_,rfl,rfl,h⟩)
  · exact .inl (.inr ⟨_,_,rfl,rfl,h⟩)
  · rcases h with ⟨xs,ys,h1,h2,h3,h4⟩ | ⟨xs,ys,h1,h2,h3,h4,h5,h6⟩
    · exact .inr (.inl ⟨_,_,xs,ys,rfl,rfl,h1,h2,h3,h4⟩)
    · by_cases hx : xs = []
      · subst hx
        exact .inr (.inr (.inr ⟨_,_,ys,rfl,rfl,h1,h2,h4 rfl⟩))
      · exact .inr (.inr (.inl ⟨_,_,xs,ys,rfl,rfl,h1,h2,hx,h3,h5 hx,h6 hx⟩))
  · exact h.elim
noncomputable def rMulV : R2 := fun x y H Q => match x,y with
  | .int i,.int j => IntMulOk i j ∧ Q (.int (i * j)) H
  | .ref l,.int k => ∃ xs,H l = some (.lst xs) ∧ -(2 ^ 63) ≤ k ∧ k < 2 ^ 63 ∧ xs.length * k.toNat ≤ sizeLine ∧ ∀ p,H p = none → Q (.ref p) (upd H p (.lst (List.replicate k.toNat xs).flatten))
  | _,_ => False
theorem op_mulG : OpR X (binaryOp .Mult) (rI IntMulOk fun i j => .int (i * j)) := opI fun _ _ _ _ _ _ _ hc q => mul_int q hc
theorem v_mul : OpR X (binaryOp .Mult) rMulV := by
  refine (op_mulG.or op_rep).imp fun x y H Q h => ?_
  unfold rMulV at h
  split at h
  · exact .inl ⟨_,_,rfl,rfl,h.1,h.2⟩
  · obtain ⟨xs,h1,h2,h3,h4,h5⟩ := h
    exact .inr ⟨_,_,xs,rfl,rfl,h1,h2,h3,h4,h5⟩
  · exact h.elim
inductive SIx (K : PySem.W.Frag) (p : Addr) (i : Int) (H : Hp) (Q : VK) : Prop | mk (xs : List V) (v : V) (hs : SqL K H p xs ∨ SqT K H p xs) (ha : atI xs i = some v) (q : Q v H)
noncomputable def rIxV (K : PySem.W.Frag) : R2 := fun x y H Q => match x,y with
  | .ref p,.int i => SIx K p i H Q
  | .str z,.int i => ∃ c,z.length ≤ sizeLine ∧ atI z.cps.toList i = some c ∧ Q (.str ⟨#[c]⟩) H
  | _,_ => False
theorem v_ix : IxR X (rIxV X.K) := by
  refine ix_seq.imp fun x y H Q h => ?_
  unfold rIxV at h
  split at h
  · obtain ⟨xs,v,h1 | h1,h2,h3⟩ := h
    · exact .inl ⟨_,xs,_,v,rfl,rfl,h1,h2,h3⟩
    · exact .inr (.inl ⟨_,xs,_,v,rfl,rfl,h1,h2,h3⟩)
  · obtain ⟨c,h1,h2,h3⟩ := h
    exact .inr (.inr ⟨_,_,c,rfl,rfl,h1,h2,h3⟩)
  · exact h.elim
noncomputable def tyNm (H : Hp) : V → Option String
  | .non => some "NoneType"
  | .bl _ => some "bool"
  | .int _ => some "int"
  | .str _ => some "str"
  | .ref a => match H a with
    | some (.lst _) => some "list"
    | some (.frz _ (.lst _)) => some "list"
    | some (.tup _) => some "tuple"
    | some (.dK _) => some "dict"
    | _ => none
  | _ => none
theorem bools_of : ∀ {bs : List Bool} {us : List Value},Vals (bs.map V.bl) us → us = bs.map Value.bool
  | [],_,.nil => rfl
  | b :: bs,_,.cons r t => by
    have e := bools_of (bs := bs) t
    cases (show _ = Value.bool b from r)
    rw [e]; rfl
theorem kept_iter' {s : Shared} {h' : Heap} {o : Obj} (hk : ∀ b x,b ∉ [s.heap.objs.size] → (s.heap.push o).get? b = some x → h'.get? b = some x) : ∀ b x,s.heap.get? b = some x → h'.get? b = some x :=
  fun b x e => hk b x (fun hm => by rw [List.mem_singleton.mp hm] at e; exact Nat.lt_irrefl _ (Heap.lt_size e)) (Heap.get?_push_of_some _ e)
theorem v_sum (hc : X.calm = true) : CallR X (.builtin "sum") (fun xs H Q => ∃ (l : Addr) (ns : List Int),xs = [.ref l] ∧ SqL X.K H l (ns.map V.int) ∧ Q (.int ns.sum) H) := by
  intro pins s σ H xs us Q I r h
  obtain ⟨l,ns,rfl,hl,q⟩ := h
  obtain ⟨u,rfl,ru⟩ := r.one
  cases ru
  obtain ⟨its,rv,pl,hz⟩ := I.list hl
  have hi := intsAre_of rv
  obtain ⟨xs,hx⟩ := hi.allInts.items
  have hl' : s.heap.IsList l (intItems xs) := hx ▸ pl.isList
  refine sum_intListG (I.ok.hd hc) hl' fun h' tk t' hk => ?_
  have e1 : ns = xs.toList.map (·.1) := by
    rw [← nums_intItems,← hx]
    exact (show numsOf its.toArray.toList = ns from hi.numsOf).symm
  have e2 : preSum (numAt xs) xs.size = ns.sum := by
    rw [preSum_eq,List.take_of_length_le (by simp),e1]
  rw [e2]
  exact ⟨.int _,H,I.kept hk,⟨_,rfl⟩,q⟩
noncomputable def iSeq (K : PySem.W.Frag) (tl : TE) : TI := fun σ H R => tl σ H fun x H1 => ∃ a,x = .ref a ∧ (((∃ xs,SqL K H1 a xs) ∧ R (Itl K a) H1) ∨ ((∃ xs,SqT K H1 a xs) ∧ R (Itt K a) H1))
theorem pi_seq {tg l : Expr} {tl : TE} (hl : PE X l tl) : PI X tg l (iSeq X.K tl) := by
  intro pins s σ H R I h
  refine thn (hl pins s σ H _ I h) fun v s1 ⟨x,H1,I1,r1,a,e,q⟩ => ?_
  subst e
  cases r1
  rcases q with ⟨⟨xs,hq⟩,q⟩ | ⟨⟨xs,hq⟩,q⟩
  · have hh : PI X tg l (iList X.K fun σ' H' Q => Q (.ref a) H') → True := fun _ => trivial
    obtain ⟨its,rv,p,hz⟩ := I1.list hq
    refine wpAny_pyIter_list p.isList ?_
    refine ⟨s1.heap.objs.size,[s1.heap.objs.size],_,_,H1,rfl,I1.kept (t' := s1.toks) fun b o e => Heap.get?_push_of_some _ e,turn_list a _,⟨_,Heap.get?_push_size _ rfl,rfl,rfl⟩,fun b hb => ?_,q⟩
    have e : b = s1.heap.objs.size := by simpa using hb
    subst e
    exact I1.fpOk (Nat.le_refl _) (I1.hok.fresh (Nat.le_refl _))
  · obtain ⟨its,rv,p,hz⟩ := I1.tuple hq
    refine wpAny_pyIter_tuple (show s1.heap.IsTuple a its.toArray from p) ?_
    refine ⟨s1.heap.objs.size,[s1.heap.objs.size],_,_,H1,rfl,I1.kept (t' := s1.toks) fun b o e => Heap.get?_push_of_some _ e,turn_tuple a _,⟨_,Heap.get?_push_size _ rfl,rfl,rfl⟩,fun b hb => ?_,q⟩
    have e : b = s1.heap.objs.size := by simpa using hb
    subst e
    exact I1.fpOk (Nat.le_refl _) (I1.hok.fresh (Nat.le_refl _))
end
end L2
namespace L2
open PySem PySem.Spec PyProof.Rows
theorem closure_go {env : Env} : ∀ (names : List (Str × NameKind)) (acc : List (Str × Addr)),(∀ y ∈ names,y.2 = .free → ∃ c,env.cells.lookup y.1 = some c) → (∀ p ∈ acc,env.cells.lookup p.1 = some p.2) →
   ∃ cl,(forIn names acc fun (y : Str × NameKind) (cs : List (Str × Addr)) => match y with | (name,kind) => if (kind == .free) = true then do let a ← cellOf env name; pure (ForInStep.yield ((name,a) :: cs)) else pure (ForInStep.yield cs)) = (pure cl : Sem _) ∧ (∀ p ∈ cl,env.cells.lookup p.1 = some p.2) ∧ (∀ p ∈ acc,p ∈ cl) ∧ ∀ y ∈ names,y.2 = .free → ∃ c,(y.1,c) ∈ cl
  | [],acc,_,ha => ⟨acc,rfl,ha,fun _ h => h,fun _ h => nomatch h⟩
  | (n,k) :: r,acc,hf,ha => by
    have hr : ∀ y ∈ r,y.2 = .free → ∃ c,env.cells.lookup y.1 = some c := fun y hy => hf y (List.mem_cons_of_mem _ hy)
    by_cases hk : k = .free
    · subst hk
      obtain ⟨c,hc⟩ := hf (n,.free) List.mem_cons_self rfl
      obtain ⟨cl,e,h1,h2,h3⟩ := closure_go r ((n,c) :: acc) hr (fun p hp => by
        rcases List.mem_cons.mp hp with rfl | hp
        · exact hc
        · exact ha p hp)
      refine ⟨cl,?_,h1,fun p hp => h2 p (List.mem_cons_of_mem _ hp),fun y hy hyf => ?_⟩
      · rw [List.forIn_cons]
        simp only [beq_self_eq_true,if_true,cellOf,hc,pure_bind]
        exact e
      · rcases List.mem_cons.mp hy with rfl | hy
        · exact ⟨c,h2 _ List.mem_cons_self⟩
        · exact h3 y hy hyf
    · have hb : (k == NameKind.free) = false := by simpa using hk
      obtain ⟨cl,e,h1,h2,h3⟩ := closure_go r acc hr ha
      refine ⟨cl,?_,h1,h2,fun y hy hyf => ?_⟩
      · rw [List.forIn_cons]
        simp only [hb,Bool.false_eq_true,if_false,pure_bind]
        exact e
      · rcases List.mem_cons.mp hy with rfl | hy
        · exact absurd hyf hk
        · exact h3 y hy hyf
theorem closure_ok {env : Env} {scope : Scope} (hf : ∀ y ∈ scope.names,y.2 = .free → ∃ c,env.cells.lookup y.1 = some c) :
    ∃ cl,closureFor scope env = pure cl ∧ (∀ x c,cl.lookup x = some c → env.cells.lookup x = some c) ∧ ∀ y ∈ scope.names,y.2 = .free → ∃ c,cl.lookup y.1 = some c := by
  obtain ⟨cl,e,h1,_,h3⟩ := closure_go (env := env) scope.names [] hf (fun _ h => nomatch h)
  refine ⟨cl,?_,fun x c h => h1 (x,c) (PySem.mem_of_lookup h),fun y hy hyf => ?_⟩
  · unfold closureFor
    simp only [bind_pure_comp] at e ⊢
    rw [e]
    rfl
  · obtain ⟨c,hc⟩ := h3 y hy hyf
    cases q : cl.lookup y.1 with
    | some d => exact ⟨d,rfl⟩
    | none =>
      have z := List.lookup_eq_none_iff.mp q (y.1,c) hc
      simp at z
noncomputable def cEnv (sc : Scope) (cl : List (Str × Addr)) (C : Addr) (env : Env) : Env :=
  { scope := sc,locals := C,globals := env.globals,cells := cl,qual := env.qual,func := none,code := env.code,frame := env.frame,builtins := env.builtins }
noncomputable def cCx (X : Cx) (sc : Scope) (N : List Str) (cl : List (Str × Addr)) (C : Addr) (s₀ : Shared) (H₀ : Hp) (ex : List Addr) : Cx :=
  { X with env := cEnv sc cl C X.env,N := N,s₀ := s₀,H₀ := H₀,outer := X.stack,ex := ex,fn := fun _ => false,pn := [],xe := fun _ _ => False }
noncomputable def cst (ix : List (Option Nat)) (σ : St) : St := ix.map fun o => match o with
  | none => none
  | some i => match σ[i]? with
    | some v => v
    | none => none
noncomputable def PIf (X : Cx) (ifs : List Expr) (t : TT) : Prop :=
  ∀ (pins : List (Addr × Obj)) (s : Shared) (σ : St) (H : Hp) (Q : Bool → Hp → Prop),Inv X pins σ H s → t σ H Q →
    wpAny (model X.prog X.w) X.A (forIn ifs true fun c r => if r = true then do let ok ← isTrue c X.env (eval c X.env); pure (ForInStep.yield ok) else pure (ForInStep.yield r)) (TP X pins σ Q) X.xe s
noncomputable def tYes : TT := fun _ H Q => Q true H
theorem pif_nil {X : Cx} : PIf X [] tYes := fun _ _ _ H _ I h => wpAny_tests_nil ⟨H,I,h⟩
theorem pif_one {X : Cx} {c : Expr} {t : TT} (h : PT X c t) : PIf X [c] t := fun pins s σ H Q I q => wpAny_tests_one (h pins s σ H Q I q)
theorem codeAny_compLoop_any {prog : Program} {w : World} {A : Around} {R : Result → Shared → Prop} {s : Shared} {elt target iter : Expr} {ifs : List Expr} {scope : Scope} {pos : Pos} {it acc : Value} {env : Env} (I : Nat → Shared → Prop)
    (turn : ∀ n s,I n s → wpAny (model prog w) A (pyNext it) (fun r s₁ => match r with
      | none => R (.ok .next) s₁
      | some v => wpAny (model prog w) A (letOwnedTupleGo target it v) (fun _ s₀ => wpAny (model prog w) A (assign target env v) (fun _ s₂ =>
          wpAny (model prog w) A (forIn ifs true fun c r => if r = true then do let ok ← isTrue c env (eval c env); pure (ForInStep.yield ok) else pure (ForInStep.yield r)) (fun ok s₃ =>
            if ok = true then wpAny (model prog w) A (eval elt env) (fun x s₄ =>
              wpAny (model prog w) A (call (.builtin "list.append") [acc,x]) (fun _ s₅ => ∃ m,m < n ∧ I m s₅) (fun _ _ => False) s₄) (fun _ _ => False) s₃
            else ∃ m,m < n ∧ I m s₃) (fun _ _ => False) s₂) (fun _ _ => False) s₀) (fun _ _ => False) s₁) (fun _ _ => False) s)
    (n : Nat) (h : I n s) :
    codeAny (model prog w) A (.compLoop (.ListComp elt [⟨target,iter,ifs,0⟩] scope pos) 0 it acc env) R s := by
  refine codeAny_loop rfl I (fun n s hI => ?_) n h
  show wpAny _ A ((compTurn (.ListComp elt [⟨target,iter,ifs,0⟩] scope pos) 0 it acc env).onRaise (fun x => do noteFrame x env; theTreesLotGoes x)) _ _ s
  refine wpAny_noted ?_
  rw [compTurn_list]
  refine wpAny_bind (wpAny_standAt (wpAny_bind (wpAny_mono (turn n s hI) (fun r s₁ h₁ => ?_) fun _ _ h' => h'.elim)))
  cases r with
  | none => exact wpAny_pure h₁
  | some v =>
    refine wpAny_bind (wpAny_mono h₁ (fun _ s₀ h₀ => ?_) fun _ _ h' => h'.elim)
    refine wpAny_bind (wpAny_mono h₀ (fun _ s₂ h₂ => wpAny_bind (wpAny_mono h₂ (fun ok s₃ h₃ => ?_) fun _ _ h' => h'.elim)) fun _ _ h' => h'.elim)
    cases ok with
    | false => exact wpAny_pure ⟨rfl,h₃⟩
    | true =>
      exact wpAny_bind (wpAny_bind (wpAny_mono h₃ (fun x s₄ h₄ => wpAny_bind (wpAny_mono h₄ (fun _ s₅ h₅ => wpAny_pure (wpAny_pure ⟨rfl,h₅⟩)) fun _ _ h' => h'.elim)) fun _ _ h' => h'.elim))
structure CompK (ix : List (Option Nat)) (g : TG) (tc : TT) (te : TE) (σ : St) (Q : VK) (J : It) (H1 : Hp) : Prop where
  go : ∀ D,H1 D = none → ∃ W : Nat → Nat → St → Hp → Prop,(∃ m,W 0 m (cst ix σ) (upd H1 D (.lst []))) ∧
    ∀ i m σ' H',W i m σ' H' → (J.stop i H' ∧ Q (.ref D) H') ∨ (J.go i H' ∧ ∀ x H2,J.yld i H' x H2 → g x σ' H2 fun σ3 H3 => tc σ3 H3 fun b H4 =>
      if b = true then te σ3 H4 fun y H5 => ∃ ys,H5 D = some (.lst ys) ∧ ys.length < sizeLine ∧ ∃ m',m' < m ∧ W (i + 1) m' σ3 (upd H5 D (.lst (ys ++ [y])))
      else ∃ m',m' < m ∧ W (i + 1) m' σ3 H4)
noncomputable def tComp (ix : List (Option Nat)) (wi : TI) (g : TG) (tc : TT) (te : TE) : TE := fun σ H Q => wi σ H fun J H1 => CompK ix g tc te σ Q J H1
structure CompOk (X : Cx) (scope sc : Scope) (N : List Str) (ix : List (Option Nat)) : Prop where
  rel : relabel scope X.env = sc
  kind : scope.kind = .function
  cell : ∀ y ∈ scope.names,y.2 ≠ .cell
  names : ∀ x ∈ scope.names,x.2 = .local → scope.names.lookup x.1 = some .local
  free : ∀ y ∈ scope.names,y.2 = .free → X.env.kindOf y.1 = some .cell ∨ X.env.kindOf y.1 = some .free
  len : N.length = ix.length
  ix : ∀ (j : Nat) (x : Str) (i : Nat),N[j]? = some x → ix[j]? = some (some i) → X.N[i]? = some x ∧ (x,NameKind.free) ∈ scope.names ∧ (sc.names.lookup x = some .cell ∨ sc.names.lookup x = some .free)
  has : ∀ x,(sc.names.lookup x = some .cell ∨ sc.names.lookup x = some .free) → (x,NameKind.free) ∈ scope.names
theorem comp_core {X : Cx} {tg iter elt : Expr} {ifs : List Expr} {scope sc : Scope} {pos ip : Pos} {wi : TI} {g : TG} {tc : TT} {te : TE} {N : List Str} {ix : List (Option Nat)} (O : CompOk X scope sc N ix) (hc : X.calm = true) (hi : PI X tg iter wi)
    (hb : ∀ cl C s₀ H₀ ex,PG (cCx X sc N cl C s₀ H₀ ex) tg g ∧ PIf (cCx X sc N cl C s₀ H₀ ex) ifs tc ∧ PE (cCx X sc N cl C s₀ H₀ ex) elt te) (hs : ∀ x,foldedSetIterable iter X.env x = pure x)
    {use : Option (Value → Sem Unit)} {QQ : Value → Shared → Prop} {pins : List (Addr × Obj)} {s : Shared} {σ : St} {H : Hp} {Q : VK} (I : Inv X pins σ H s) (h : tComp ix wi g tc te σ H Q)
    (fin : ∀ (D C : Addr) (s6 : Shared) (H5 : Hp) (m : Str → Option Value),Inv X pins σ H5 s6 → s6.heap.Ns C m → FpOk X pins H5 C → Q (.ref D) H5 → compPost (model X.prog X.w) X.A X.xe use QQ (.ref D) C (.ok .next) s6) :
    wpAny (model X.prog X.w) X.A (comprehension (.ListComp elt [⟨tg,iter,ifs,0⟩] scope pos) scope X.env ip (newList []) false (eval iter X.env) use) QQ X.xe s := by
  have hcl : ∃ cl,closureFor scope X.env = pure cl ∧ (∀ x c,cl.lookup x = some c → X.env.cells.lookup x = some c) ∧ ∀ y ∈ scope.names,y.2 = .free → ∃ c,cl.lookup y.1 = some c :=
    closure_ok fun y hy hf => I.ok.has y.1 (O.free y hy hf)
  obtain ⟨cl,ecl,hcl1,hcl2⟩ := hcl
  refine wpAny_comprehension_free (use := use) rfl hs ecl O.kind O.names (thn (hi pins s σ H _ I h) fun v s1 h1 => thn h1 fun itv s2 h2 => ?_)
  obtain ⟨it,fp,tn,J,H2,e,I2,T,st2,f2,q2⟩ := h2
  subst e
  obtain ⟨W,⟨m0,w0⟩,turn⟩ := q2.go s2.heap.objs.size I2.fresh
  refine wpAny_newObj_type ?_
  have I3 := I2.lnew (its := []) (t' := s2.toks) (ys := []) .nil (Nat.zero_le _)
  generalize eH3 : upd H2 s2.heap.objs.size (.lst []) = H3 at I3 w0
  have eD : H3 s2.heap.objs.size = some (.lst []) := by rw [← eH3]; exact upd_same
  have hfp2 : ∀ b ∈ fp,b ≠ s2.heap.objs.size := fun b hb z => by
    obtain ⟨o,ho,_⟩ := T.obj _ _ st2 b hb
    exact absurd (Heap.lt_size ho) (by rw [z]; exact Nat.lt_irrefl _)
  have st3 : tn 0 (s2.heap.push { cls := .type "list",dict := none,data := .seq ([] : List Value).toArray }) := T.keep _ _ _ st2 fun b _ o e => Heap.get?_push_of_some _ e
  have f3 : ∀ b ∈ fp,FpOk X pins H3 b := fun b hb => ⟨by rw [← eH3,upd_ne (hfp2 b hb)]; exact (f2 b hb).1,(f2 b hb).2⟩
  generalize es3 : ({ s2 with heap := s2.heap.push { cls := .type "list",dict := none,data := .seq ([] : List Value).toArray },toks := s2.toks } : Shared) = s3 at I3
  have st3' : tn 0 s3.heap := by rw [← es3]; exact st3
  refine wpAny_newFunctionEnv O.cell (fun y hy => nomatch hy) (fun h4 hns4 hsb4 => ?_) O.kind
  have keep4 : ∀ b o,s3.heap.get? b = some o → h4.get? b = some o := fun b o e => (hsb4.2 b (Nat.ne_of_lt (Heap.lt_size e))).trans (Heap.get?_push_of_some _ e)
  have I4 : Inv X pins σ H3 { s3 with heap := h4,toks := s3.toks + ([] : List (Str × Value)).length } := I3.kept keep4
  have eenv : ({ newEnv scope s3.heap.objs.size X.env.globals cl X.env.qual none .none (some X.env) builtinsNs with scope := relabel scope X.env } : Env) = cEnv sc cl s3.heap.objs.size X.env := by rw [O.rel]; rfl
  rw [eenv]
  show codeAny _ _ _ (compPost (model X.prog X.w) X.A X.xe use QQ (.ref s2.heap.objs.size) s3.heap.objs.size) _
  generalize eC : s3.heap.objs.size = C
  generalize es4 : ({ s3 with heap := h4,toks := s3.toks + ([] : List (Str × Value)).length } : Shared) = s4 at I4
  have h4s : s4.heap = h4 := by rw [← es4]
  have o4s : s4.os = s3.os := by rw [← es4]
  have fC : ∀ b ∈ fp,b ≠ C := fun b hb z => by
    obtain ⟨o,ho,_⟩ := T.obj _ _ st3' b hb
    exact absurd (Heap.lt_size ho) (by rw [z,eC]; exact Nat.lt_irrefl _)
  have okC : (cCx X sc N cl C s3 H3 fp).Ok := by
    refine ⟨I3.ok.mod,?_,I3.ok.glob,I3.ok.blt,Nat.le_of_eq eC,fun x y c h1 h2 => I3.ok.inj x y c (hcl1 x c h1) (hcl1 y c h2),fun x hx => ?_,fun x c z _ => (nomatch z),I3.ok.hd,I3.ok.frames,.inl rfl,fun b hb => ⟨fC b hb,fun x c e => (f3 b hb).2.2.2.2.1 x c (hcl1 x c e)⟩,
      I3.bs,Nat.le_trans I3.ok.bsz I3.sz,fun b o e hb => ?_,fun b hb z => ?_,I3.stack,I3.stkFree⟩
    · show sc.kind = .function
      rw [← O.rel]; exact O.kind
    · exact hcl2 (x,.free) (O.has x hx) rfl
    · rcases (f3 b hb).2.2.2.1 with z | z
      · exact I3.ok.noex b o e z
      · exact absurd (Nat.lt_of_lt_of_le (Heap.lt_size e) (Nat.le_trans I3.ok.bsz z)) (Nat.lt_irrefl _)
    · rcases List.mem_cons.mp (I3.stkSub b z) with z | z
      · exact (f3 b hb).2.1 z
      · exact (f3 b hb).2.2.1 z
  have IC : Inv (cCx X sc N cl C s3 H3 fp) [] (cst ix σ) H3 s4 := by
    refine ⟨okC,o4s,I4.bare,?_,?_,fun x c e => I4.cell x c (hcl1 x c e),?_,fun x c e => I4.freeC x c (hcl1 x c e),fun p hp => (nomatch hp),I4.hok,?_⟩
    · rw [h4s]
      exact Un.kept keep4
    · refine ⟨_,by rw [h4s,← eC]; exact hns4,fun j x v e1 e2 e3 => ?_⟩
      have e2' : (cst ix σ)[j]? = some (some v) := e2
      unfold cst at e2'
      rw [List.getElem?_map] at e2'
      cases q : ix[j]? with
      | none => rw [q] at e2'; cases e2'
      | some o =>
        rw [q] at e2'
        cases o with
        | none => cases e2'
        | some i =>
          obtain ⟨hx,hm,hsc⟩ := O.ix j x i e1 q
          cases q2 : σ[i]? with
          | none => simp [q2] at e2'
          | some w' =>
            simp [q2] at e2'
            subst e2'
            obtain ⟨m,hn,hl⟩ := I4.loc
            have kf := O.free (x,.free) hm rfl
            have vis : Vis X.env.scope x := by
              rcases kf with k | k
              · exact .inr (.inl k)
              · exact .inr (.inr k)
            obtain ⟨u,r,l⟩ := hl i x v hx q2 vis
            refine ⟨u,r,?_⟩
            rcases l with ⟨k,_⟩ | ⟨_,c,e,z⟩
            · rcases kf with k' | k'
              · rw [k] at k'; cases k'
              · rw [k] at k'; cases k'
            · obtain ⟨c',e'⟩ := hcl2 (x,.free) hm rfl
              have := hcl1 x c' e'
              rw [e] at this; cases this
              exact .inr ⟨hsc,c,e',z⟩
    · rw [← eC]
      exact I3.fresh
    · show (cst ix σ).length = N.length
      rw [O.len]; simp [cst]
  have st4 : tn 0 s4.heap := T.keep _ _ _ st3' fun b _ o e => by rw [h4s]; exact keep4 b o e
  have stat : ∀ {H' : Hp},(∀ b ∈ fp,H' b = none) → ∀ b ∈ fp,FpOk (cCx X sc N cl C s3 H3 fp) [] H' b := fun hn b hb =>
    ⟨hn b hb,fC b hb,okC.exfs b hb,.inl hb,fun x c e => (f3 b hb).2.2.2.2.1 x c (hcl1 x c e),fun p hp => (nomatch hp)⟩
  obtain ⟨hg,ht,he⟩ := hb cl C s3 H3 fp
  have loop : codeAny (model X.prog X.w) X.A (.compLoop (.ListComp elt [⟨tg,iter,ifs,0⟩] scope pos) 0 (.ref it) (.ref s2.heap.objs.size) (cEnv sc cl C X.env))
      (compPost (model X.prog X.w) X.A X.xe use QQ (.ref s2.heap.objs.size) C) s4 := by
    refine codeAny_compLoop_any (fun n s' => ∃ i σ' H',Inv (cCx X sc N cl C s3 H3 fp) [] σ' H' s' ∧ tn i s'.heap ∧ (∀ b ∈ fp,H' b = none) ∧ W i n σ' H') ?_ m0 ⟨0,cst ix σ,H3,IC,st4,fun b hb => (f3 b hb).1,w0⟩
    rintro n s5 ⟨i,σ5,H5,I5,st5,fr5,w5⟩
    rcases turn i n σ5 H5 w5 with ⟨stop,qn⟩ | ⟨go,step⟩
    · refine thn (T.done (cCx X sc N cl C s3 H3 fp) rfl rfl rfl hc i [] s5 σ5 H5 (fun _ _ => False) I5 (stat fr5) st5 stop) fun r s6 ⟨hr,I6⟩ => ?_
      subst hr
      obtain ⟨m,hn,_⟩ := id I6.loc
      have I7 : Inv X pins σ H5 s6 := I3.call' (ch := fp) I6.os I6.base I6.hok I6.bare fun b hb => ⟨(f3 b hb).2.2.2.1,(f3 b hb).2.1,(f3 b hb).2.2.2.2.1,(f3 b hb).2.2.2.2.2⟩
      exact fin _ C s6 H5 m I7 hn (I3.fpOk (Nat.le_of_eq eC) I6.free) qn
    · refine thn (T.item (cCx X sc N cl C s3 H3 fp) rfl rfl rfl hc i [] s5 σ5 H5 (fun _ _ => False) I5 (stat fr5) st5 go) fun r s6 ⟨u,hr,h6⟩ => ?_
      subst hr
      refine thn h6 fun _ s7 ⟨x,H7,I7,r7,y7,st7,fr7⟩ => ?_
      have I7' := I7.pinned (stat fr7) (T.obj _ _ st7)
      have again : ∀ {σ9 : St} {H9 : Hp} {s9 : Shared} {m' : Nat},Inv (cCx X sc N cl C s3 H3 fp) ([] ++ pinsAt fp s7.heap) σ9 H9 s9 → m' < n → W (i + 1) m' σ9 H9 →
          ∃ m,m < n ∧ ∃ i σ' H',Inv (cCx X sc N cl C s3 H3 fp) [] σ' H' s9 ∧ tn i s9.heap ∧ (∀ b ∈ fp,H' b = none) ∧ W i m σ' H' := fun {σ9 H9 s9 m'} I9 hm w9 => by
        refine ⟨m',hm,i + 1,σ9,H9,I9.unpinned,T.keep _ _ _ st7 fun b hb o e => (I9.pin (b,o) (List.mem_append_right _ (List.mem_append_right _ (mem_pinsAt hb e)))).1,fun b hb => ?_,w9⟩
        obtain ⟨o,e,d⟩ := T.obj _ _ st7 b hb
        exact (I9.pin (b,o) (List.mem_append_right _ (List.mem_append_right _ (mem_pinsAt hb e)))).2.1
      refine thn (hg _ s7 σ5 H7 x u _ I7' r7 (step x H7 y7)) fun _ s8 ⟨σ8,H8,I8,q8⟩ => ?_
      refine thn (ht _ s8 σ8 H8 _ I8 q8) fun b s9 ⟨H9,I9,q9⟩ => ?_
      cases b with
      | false =>
        rw [if_neg Bool.false_ne_true] at q9
        obtain ⟨m',hm,w9⟩ := q9
        rw [if_neg Bool.false_ne_true]
        exact again I9 hm w9
      | true =>
        rw [if_pos rfl] at q9
        rw [if_pos rfl]
        refine thn (he _ s9 σ8 H9 _ I9 q9) fun y s10 ⟨yv,H10,I10,r10,ys,e10,z10,m',hm,w10⟩ => ?_
        refine thn (mt_append _ s10 σ8 H10 (.ref s2.heap.objs.size) [yv] (.ref s2.heap.objs.size) [y] (fun _ H' => W (i + 1) m' σ8 H') I10 rfl (.cons r10 .nil) ⟨_,ys,yv,rfl,rfl,e10,z10,w10⟩) fun _ s11 ⟨_,H11,I11,_,w11⟩ => ?_
        exact again I11 hm w11
  exact codeAny_compStart_list loop (T.self _ _ _ _ _ st4 loop)
theorem pe_comp {X : Cx} {tg iter elt : Expr} {ifs : List Expr} {scope sc : Scope} {pos : Pos} {wi : TI} {g : TG} {tc : TT} {te : TE} {N : List Str} {ix : List (Option Nat)} (O : CompOk X scope sc N ix) (hc : X.calm = true) (hi : PI X tg iter wi)
    (hb : ∀ cl C s₀ H₀ ex,PG (cCx X sc N cl C s₀ H₀ ex) tg g ∧ PIf (cCx X sc N cl C s₀ H₀ ex) ifs tc ∧ PE (cCx X sc N cl C s₀ H₀ ex) elt te)
    (hs : ∀ x,foldedSetIterable iter X.env x = pure x := by intro _; rfl) : PE X (.ListComp elt [⟨tg,iter,ifs,0⟩] scope pos) (tComp ix wi g tc te) := by
  intro pins s σ H Q I h
  rw [eval_ListComp]
  exact comp_core (use := none) (QQ := EP X pins σ Q) O hc hi hb hs I h fun D C s6 H5 m I7 hn f q => ⟨m,hn,fun h' hs' => ⟨.ref D,H5,I7.turned (it := C) (t' := s6.toks) (fun b o hb e => (hs'.2 b hb).trans e) f.1 f.2.1 f.2.2.2.1 f.2.2.2.2.1 f.2.2.2.2.2,rfl,q⟩⟩
theorem ps_setC {X : Cx} {i : Nat} {y : Str} {py spos : Pos} {tg iter elt : Expr} {ifs : List Expr} {scope sc : Scope} {pos : Pos} {wi : TI} {g : TG} {tc : TT} {te : TE} {N : List Str} {ix : List (Option Nat)} (hN : X.N.Nodup) (hi' : X.N[i]? = some y) (hx : Loc X.env.scope y)
    (O : CompOk X scope sc N ix) (hc : X.calm = true) (hi : PI X tg iter wi)
    (hb : ∀ cl C s₀ H₀ ex,PG (cCx X sc N cl C s₀ H₀ ex) tg g ∧ PIf (cCx X sc N cl C s₀ H₀ ex) ifs tc ∧ PE (cCx X sc N cl C s₀ H₀ ex) elt te)
    (hs : ∀ x,foldedSetIterable iter X.env x = pure x := by intro _; rfl) (hsw : swapsWith (.ListComp elt [⟨tg,iter,ifs,0⟩] scope pos) (some (.Name y py)) spos.line X.env = pure true := by rfl)
    (hf : X.fn y = true ∨ X.env.scope.names.lookup y = some .local := by first | exact .inl rfl | exact .inr rfl | assumption) :
    PS X (.Assign [.Name y py] (.ListComp elt [⟨tg,iter,ifs,0⟩] scope pos) spos) (tAsg (tComp ix wi g tc te) (gName i)) := by
  intro pins s σ H D I h
  rw [exec_Assign_Name_used _ _ _ _ hsw]
  refine wpAny_bind (wpAny_standAt (wpAny_bind ?_))
  show wpAny _ X.A (do let _ ← comprehension (.ListComp elt [⟨tg,iter,ifs,0⟩] scope pos) scope X.env _ (newList []) false (eval iter X.env) (some (assign (.Name y py) X.env))) _ _ s
  refine wpAny_bind (wpAny_mono (comp_core (use := some (assign (.Name y py) X.env)) (QQ := fun _ s' => ∃ σ' H',Inv X pins σ' H' s' ∧ D.nx σ' H') O hc hi hb hs I h fun D1 C s6 H5 m I7 hn f q => ?_) (fun _ s' ⟨σ',H',I',q'⟩ => wpAny_pure (wpAny_pure ⟨σ',H',I',q'⟩)) fun _ _ e => e)
  obtain ⟨o,es,ep,ho,hc1,hc2⟩ := id hn
  have I8 := I7.pinned (fp := [C]) (fun b hb => by
    have e : b = C := by simpa using hb
    subst e; exact f) (fun b hb => by
    have e : b = C := by simpa using hb
    subst e; exact ⟨o,ho,fun v z => by first | (rw [hc1.2] at z; cases z) | (rw [hc2.1] at z; cases z) | (rw [hc1] at z; cases z) | (simp_all)⟩)
  show wpAny _ X.A (assign (.Name y py) X.env (.ref D1)) _ _ _
  refine wpAny_assign_Name (store_ok I8 hN hi' hx (v := .ref D1) rfl (fun s7 I9 => ?_) hf)
  have hC := (I9.pin (C,o) (List.mem_append_right _ (List.mem_append_right _ (mem_pinsAt (by simp) ho)))).1
  refine ⟨m,⟨o,es,ep,hC,hc1,hc2⟩,fun h' hs' => ⟨_,H5,I9.unpinned.turned (it := C) (t' := s7.toks) (fun b o hb e => (hs'.2 b hb).trans e) f.1 f.2.1 f.2.2.2.1 f.2.2.2.2.1 f.2.2.2.2.2,q⟩⟩
end L2
namespace L2
open PySem PySem.Spec PyProof.Rows
mutual
inductive RdD (K : PySem.W.Frag) (H : Hp) : V → PyData → Prop
  | non : RdD K H .non .none
  | bl (b : Bool) : RdD K H (.bl b) (.bool b)
  | int (i : Int) : RdD K H (.int i) (.int i)
  | str (x : Str) : RdD K H (.str x) (.str x)
  | lst {a : Addr} {xs : List V} {ds : List PyData} : SqL K H a xs → RdDs K H xs ds → RdD K H (.ref a) (.list ds)
  | tup {a : Addr} {xs : List V} {ds : List PyData} : SqT K H a xs → RdDs K H xs ds → RdD K H (.ref a) (.tuple ds)
inductive RdDs (K : PySem.W.Frag) (H : Hp) : List V → List PyData → Prop
  | nil : RdDs K H [] []
  | cons {x : V} {d : PyData} {xs : List V} {ds : List PyData} : RdD K H x d → RdDs K H xs ds → RdDs K H (x :: xs) (d :: ds)
end
section
variable {X : Cx} {pins : List (Addr × Obj)} {σ : St} {H : Hp} {s : Shared}
mutual
theorem Inv.reads (I : Inv X pins σ H s) : ∀ {x : V} {d : PyData} {u : Value},RdD X.K H x d → RelV x u → ∃ as,Reads s.heap u d as
  | _,_,_,.non,r => by cases r; exact ⟨_,.none⟩
  | _,_,_,.bl b,r => by cases r; exact ⟨_,.bool b⟩
  | _,_,_,.int i,r => by obtain ⟨t,rfl⟩ := r; exact ⟨_,.int i t⟩
  | _,_,_,.str x,r => by obtain ⟨t,rfl⟩ := r; exact ⟨_,.str x t⟩
  | _,_,_,.lst hq hs,r => by
    cases r
    obtain ⟨its,rv,pl,_⟩ := I.list hq
    obtain ⟨as,ra⟩ := Inv.readsAll I hs rv
    obtain ⟨o,ho,hc,n,hd⟩ := pl.isList
    exact ⟨_,.list ho hc hd (by simpa using ra)⟩
  | _,_,_,.tup hq hs,r => by
    cases r
    obtain ⟨its,rv,pl,_⟩ := I.tuple hq
    obtain ⟨as,ra⟩ := Inv.readsAll I hs rv
    obtain ⟨o,ho,hc,n,hd⟩ := pl
    exact ⟨_,.tuple ho hc hd (by simpa using ra)⟩
theorem Inv.readsAll (I : Inv X pins σ H s) : ∀ {xs : List V} {ds : List PyData} {us : List Value},RdDs X.K H xs ds → Vals xs us → ∃ as,ReadsAll s.heap us ds as
  | _,_,_,.nil,.nil => ⟨_,.nil⟩
  | _,_,_,.cons h1 h2,.cons r1 r2 => by
    obtain ⟨as,a⟩ := Inv.reads I h1 r1
    obtain ⟨bs,b⟩ := Inv.readsAll I h2 r2
    exact ⟨_,.cons a b⟩
end
theorem RdDs.ints {K : PySem.W.Frag} {H : Hp} : ∀ ns : List Int,RdDs K H (ns.map V.int) (ns.map PyData.int)
  | [] => .nil
  | n :: r => .cons (.int n) (RdDs.ints r)
noncomputable def dictHits (kb : List (Key × V)) : List (Key × V) → Bool
  | [] => true
  | (k,v) :: r => match valV kb k with
    | none => false
    | some y => eqV v y && dictHits kb r
theorem hits_of {A : Around} {kb : List (Key × V)} {vb : List (Key × Value)} (hb : KV kb vb) (fb : kb.all (fun p => flatV p.2) = true) : ∀ {ka : List (Key × V)} {va : List (Key × Value)},KV ka va → ka.all (fun p => flatV p.2) = true →
    PySem.W.KeqHits A s vb va (dictHits kb ka)
  | [],_,.nil,_ => .nil
  | (k,v) :: r,(k',v') :: r',.cons ⟨e,rv⟩ t,f => by
    cases (show k = k' from e)
    rw [List.all_cons,Bool.and_eq_true] at f
    have hv := KV.val hb k
    cases q : valV kb k with
    | none =>
      have hn : valueAt vb k = none := RelO.none_of (by rw [q] at hv; exact hv)
      have e2 : dictHits kb ((k,v) :: r) = false := by simp [dictHits,q]
      rw [e2]
      exact .miss hn
    | some y =>
      rw [q] at hv
      obtain ⟨u,hu,ru⟩ := RelO.some_of hv
      have fy : flatV y = true := by
        unfold valV at q
        cases q2 : kb.find? (fun kv => decide (kv.1 = k)) with
        | none => rw [q2] at q; cases q
        | some p =>
          rw [q2] at q; cases q
          exact List.all_eq_true.mp fb p (List.mem_of_find?_eq_some q2)
      have e2 : dictHits kb ((k,v) :: r) = (eqV v y && dictHits kb r) := by simp [dictHits,q]
      rw [e2]
      exact .hit hu (eqAt_V rv ru f.1 fy) (hits_of hb fb t f.2)
end
section
variable {X : Cx}
noncomputable def rEqV (K : PySem.W.Frag) (g : Bool → Bool) : R2 := fun x y H Q => match x,y with
  | .int i,.int j => Q (.bl (g (decide (i = j)))) H
  | .bl i,.bl j => Q (.bl (g (decide (i = j)))) H
  | .str i,.str j => Q (.bl (g (decide (i = j)))) H
  | .non,.non => Q (.bl (g true)) H
  | .ref a,.ref b => (∃ d e,RdD K H (.ref a) d ∧ RdD K H (.ref b) e ∧ SeqAt.shaped d = true ∧ SeqAt.shaped e = true ∧ Q (.bl (g (PyData.eqv d e))) H) ∨
      (∃ ka kb,H a = some (.dK ka) ∧ H b = some (.dK kb) ∧ ka.all (fun p => flatV p.2) = true ∧ kb.all (fun p => flatV p.2) = true ∧ Q (.bl (g (ka.length == kb.length && dictHits kb ka))) H)
  | .non,.ref _ => False
  | .ref _,.non => False
  | x,y => scal x y = true ∧ Q (.bl (g (decide (x = y)))) H
theorem op_eqD {k : Nat} (hr : Room k X.A) : OpR X (compareOp .Eq) (fun x y H Q => ∃ d e,RdD X.K H x d ∧ RdD X.K H y e ∧ SeqAt.shaped d = true ∧ SeqAt.shaped e = true ∧ Q (.bl (PyData.eqv d e)) H) := by
  intro pins s σ H x y v u Q I rx ry h
  obtain ⟨d,e,h1,h2,h3,h4,q⟩ := h
  obtain ⟨as,ra⟩ := I.reads h1 rx
  obtain ⟨bs,rb⟩ := I.reads h2 ry
  exact eq_dataH ra rb h3 h4 hr.units ⟨.bl _,H,I,rfl,q⟩
theorem op_neD {k : Nat} (hr : Room k X.A) : OpR X (compareOp .NotEq) (fun x y H Q => ∃ d e,RdD X.K H x d ∧ RdD X.K H y e ∧ SeqAt.shaped d = true ∧ SeqAt.shaped e = true ∧ Q (.bl (!PyData.eqv d e)) H) := by
  intro pins s σ H x y v u Q I rx ry h
  obtain ⟨d,e,h1,h2,h3,h4,q⟩ := h
  obtain ⟨as,ra⟩ := I.reads h1 rx
  obtain ⟨bs,rb⟩ := I.reads h2 ry
  exact ne_dataH ra rb h3 h4 hr.units ⟨.bl _,H,I,rfl,q⟩
theorem op_eqK {k : Nat} (hr : Room k X.A) : OpR X (compareOp .Eq) (fun x y H Q => ∃ a b ka kb,x = .ref a ∧ y = .ref b ∧ H a = some (.dK ka) ∧ H b = some (.dK kb) ∧ ka.all (fun p => flatV p.2) = true ∧ kb.all (fun p => flatV p.2) = true ∧ Q (.bl (ka.length == kb.length && dictHits kb ka)) H) := by
  intro pins s σ H x y v u Q I rx ry h
  obtain ⟨a,b,ka,kb,rfl,rfl,h1,h2,h3,h4,q⟩ := h
  cases rx; cases ry
  obtain ⟨_,ea,va,ra,da⟩ : ka.length ≤ sizeLine ∧ (a == sysModules) = false ∧ ∃ vs,KV ka vs ∧ s.heap.DictOf (mixKind X.prog X.w) a vs := I.hok a _ h1
  obtain ⟨_,eb,vb,rb,db⟩ : kb.length ≤ sizeLine ∧ (b == sysModules) = false ∧ ∃ vs,KV kb vs ∧ s.heap.DictOf (mixKind X.prog X.w) b vs := I.hok b _ h2
  refine PySem.W.keq_eq ea eb da db hr.units0 (fun _ => hits_of rb h4 ra h3) ⟨.bl _,H,I,?_,q⟩
  show _ = Value.bool _
  rw [Paired.length ra,Paired.length rb]
theorem op_neK {k : Nat} (hr : Room k X.A) : OpR X (compareOp .NotEq) (fun x y H Q => ∃ a b ka kb,x = .ref a ∧ y = .ref b ∧ H a = some (.dK ka) ∧ H b = some (.dK kb) ∧ ka.all (fun p => flatV p.2) = true ∧ kb.all (fun p => flatV p.2) = true ∧ Q (.bl (!(ka.length == kb.length && dictHits kb ka))) H) := by
  intro pins s σ H x y v u Q I rx ry h
  obtain ⟨a,b,ka,kb,rfl,rfl,h1,h2,h3,h4,q⟩ := h
  cases rx; cases ry
  obtain ⟨_,ea,va,ra,da⟩ : ka.length ≤ sizeLine ∧ (a == sysModules) = false ∧ ∃ vs,KV ka vs ∧ s.heap.DictOf (mixKind X.prog X.w) a vs := I.hok a _ h1
  obtain ⟨_,eb,vb,rb,db⟩ : kb.length ≤ sizeLine ∧ (b == sysModules) = false ∧ ∃ vs,KV kb vs ∧ s.heap.DictOf (mixKind X.prog X.w) b vs := I.hok b _ h2
  refine PySem.W.keq_ne ea eb da db hr.units0 (fun _ => hits_of rb h4 ra h3) ⟨.bl _,H,I,?_,q⟩
  show _ = Value.bool _
  rw [Paired.length ra,Paired.length rb]
theorem dec_i {i j : Int} : decide (V.int i = V.int j) = decide (i = j) := by simp
theorem dec_b {i j : Bool} : decide (V.bl i = V.bl j) = decide (i = j) := by simp
theorem dec_s {i j : Str} : decide (V.str i = V.str j) = decide (i = j) := by simp
theorem v_eq {k : Nat} (hr : Room k X.A) : OpR X (compareOp .Eq) (rEqV X.K id) := by
  refine (op_eq.or ((op_eqD hr).or (op_eqK hr))).imp fun x y H Q h => ?_
  unfold rEqV at h
  split at h
  · exact .inl ⟨rfl,by rw [dec_i]; exact h⟩
  · exact .inl ⟨rfl,by rw [dec_b]; exact h⟩
  · exact .inl ⟨rfl,by rw [dec_s]; exact h⟩
  · exact .inl ⟨rfl,by rw [decide_eq_true rfl]; exact h⟩
  · rcases h with ⟨d,e,h⟩ | ⟨ka,kb,h⟩
    · exact .inr (.inl ⟨d,e,h⟩)
    · exact .inr (.inr ⟨_,_,ka,kb,rfl,rfl,h⟩)
  · exact h.elim
  · exact h.elim
  · exact .inl h
theorem v_ne {k : Nat} (hr : Room k X.A) : OpR X (compareOp .NotEq) (rEqV X.K not) := by
  refine (op_ne.or ((op_neD hr).or (op_neK hr))).imp fun x y H Q h => ?_
  unfold rEqV at h
  split at h
  · exact .inl ⟨rfl,by rw [dec_i]; exact h⟩
  · exact .inl ⟨rfl,by rw [dec_b]; exact h⟩
  · exact .inl ⟨rfl,by rw [dec_s]; exact h⟩
  · exact .inl ⟨rfl,by rw [decide_eq_true rfl]; exact h⟩
  · rcases h with ⟨d,e,h⟩ | ⟨ka,kb,h⟩
    · exact .inr (.inl ⟨d,e,h⟩)
    · exact .inr (.inr ⟨_,_,ka,kb,rfl,rfl,h⟩)
  · exact h.elim
  · exact h.elim
  · exact .inl h
end
end L2
namespace PySem.SeqAt
open AutoSeq1 (wpAny_loadPart')
open MeetsSeq MeetsSeq2 MeetsSeq3 SeqRoads2
theorem int_eq_declines_dict (b : Int) (u : Tok) (l : Addr) (c : Value) (dd : Option Addr) (es : Array DictEntry) (n : Nat) (sl : Array (Option Value)) :
    Meets (Builtin.«int.__eq__» ⟨[.int b u,.ref l],[]⟩) (fun _ R s => s.heap.get? l = some { cls := c,dict := dd,data := .dict es n,slots := sl } ∧ R (.ok (.ret .notImplemented)) s) :=
  .of_wp fun prog w A R s h => by obtain ⟨hp,g,d,tk,os⟩ := s; obtain ⟨hl,h⟩ := h; wp_walk using wpAny_loadPart' hl,wpAny_load hl; exact ⟨_,rfl,h⟩
section
variable {A : Around} {s : Shared}
theorem RcAt.int_dict {l : Addr} {o : Obj} (b : Int) (u : Tok) (ho : s.heap.get? l = some o) (hc : o.cls = .type "dict") {es : Array DictEntry} {ep : Nat} (hd : o.data = .dict es ep) (hu : A.units < cLine) : RcAt A s (.int b u) (.ref l) false := fun prog w E Q h => by
  have ty : s.TypeIs (.ref l) "dict" := ⟨o,ho,hc⟩
  obtain ⟨cls,dd,data,sl⟩ := o
  simp only at hc hd
  subst hc hd
  refine rc_eq_decline_or (k := false) (typeIs_int s b u) ty (by decide) F.sub_dict_int F.slot_int_eq F.slot_dict_eq_refl
    (fun _ hq => call_meets F.slot_int_eq (typeIs_int s b u) F.entry_int_eq (F.args_int_eq_2 _ _) (int_eq_declines_dict b u l (.type "dict") dd es ep sl) ⟨ho,hq⟩)
    (fun _ hq => wpAny_call_entry F.slot_dict_eq_refl ty F.entry_dict_eq ?_ (F.args_dict_eq_2 _ _))
    (fun _ hq => wpAny_of_eq (rfl : isSame (.int b u) (.ref l) = pure false) hq) (.inr hu) h
  show wpAny _ _ (Builtin.Dict.dictSlotArgs "__eq__" ⟨[.ref l,.int b u],[]⟩ >>= _) _ _ s
  refine wpAny_bind ?_
  unfold Builtin.Dict.dictSlotArgs
  refine wpAny_bind (wpAny_notOrdered_dict ty ?_)
  show wpAny _ _ (pure (Value.ref l,Value.int b u)) _ _ s
  refine wpAny_pure ?_
  refine wpAny_bind (wpAny_isInstance (T := "int") (typeIs_int s b u) PySem.F.sub_int_dict ?_)
  simp only [Bool.not_false,if_true]
  exact wpAny_bind (wpAny_rule (wpAny_pure ⟨_,rfl,hq⟩))
theorem EqAt.int_dict {l : Addr} {o : Obj} (b : Int) (u : Tok) (ho : s.heap.get? l = some o) (hc : o.cls = .type "dict") {es : Array DictEntry} {ep : Nat} (hd : o.data = .dict es ep) (hu : A.units < cLine) : EqAt A s (.int b u) (.ref l) false := fun prog w E Q h => by
  unfold eqBool
  refine wpAny_holding ?_
  refine wpAny_ite_split (fun hab => absurd (eq_of_beq hab) nofun) (fun _ => ?_)
  exact wpAny_bind (RcAt.int_dict b u ho hc hd hu prog w E _ (wpAny_truthy_bool h))
end
end PySem.SeqAt
namespace L2
open PySem PySem.Spec PyProof.Rows
section
variable {X : Cx}
noncomputable def eqI (x : V) (n : Int) : Bool := match x with
  | .int i => n == i
  | .bl b => n == (if b then 1 else 0)
  | _ => false
theorem eqAt_I {pins : List (Addr × Obj)} {σ : St} {H : Hp} {s : Shared} {x : V} {v : Value} {t : String} {k : Nat} (I : Inv X pins σ H s) (hr : Room k X.A) (rx : RelV x v) (ty : tyNm H x = some t) (n : Int) (u : Tok) : SeqAt.EqAt X.A.in1 s (.int n u) v (eqI x n) := by
  have hu : X.A.in1.units < cLine := by
    have h1 := hr.units
    have h2 : X.A.in1.units ≤ X.A.units + 1 := by first | exact Nat.le_refl _ | (simp [Around.in1]; done) | exact Nat.le_succ _
    omega
  cases x with
  | non => cases rx; exact SeqAt.EqAt.int_none n u
  | bl b => cases rx; exact SeqAt.EqAt.int_bool n u b
  | int i => obtain ⟨t',rfl⟩ := rx; exact SeqAt.EqAt.int_int n u i t'
  | str x => obtain ⟨t',rfl⟩ := rx; exact SeqAt.EqAt.int_str n u x t'
  | ref a =>
    cases rx
    have ty' : (match H a with
      | some (.lst _) => some "list"
      | some (.frz _ (.lst _)) => some "list"
      | some (.tup _) => some "tuple"
      | some (.dK _) => some "dict"
      | _ => none) = some t := ty
    split at ty'
    · rename_i xs e
      obtain ⟨its,_,pl,_⟩ := I.list (SqL.of e)
      exact SeqAt.EqAt.int_list n u pl.isList hu
    · rename_i o xs e
      obtain ⟨its,_,pl,_⟩ := I.list (a := a) (xs := xs) (.inl (.inr ⟨o,e⟩))
      exact SeqAt.EqAt.int_list n u pl.isList hu
    · rename_i xs e
      obtain ⟨its,_,pl,_⟩ := I.tuple (SqT.of e)
      exact SeqAt.EqAt.int_tuple n u pl hu
    · rename_i kvs e
      obtain ⟨_,_,vs,_,o,es,ep,h1,h2,h3,_⟩ : kvs.length ≤ sizeLine ∧ (a == sysModules) = false ∧ ∃ vs,KV kvs vs ∧ s.heap.DictOf (mixKind X.prog X.w) a vs := I.hok a _ e
      exact SeqAt.EqAt.int_dict n u h1 h2.1 h3 hu
    · cases ty'
  | _ => cases ty
noncomputable def eqIU (x : V) (u : Value) : Bool := match u with
  | .int n _ => eqI x n
  | _ => false
noncomputable def rInV (K : PySem.W.Frag) (g : Bool → Bool) : R2 := fun x y H Q => ∃ (p : Addr) (ns : List Int) (t : String),y = .ref p ∧ SqL K H p (ns.map V.int) ∧ tyNm H x = some t ∧ Q (.bl (g (ns.any (eqI x)))) H
theorem any_ints {x : V} : ∀ {ns : List Int} {us : List Value},IntsAre us ns → us.any (eqIU x) = ns.any (eqI x)
  | _,_,.nil => rfl
  | _,_,.cons n t r => by rw [List.any_cons,List.any_cons,any_ints r]; rfl
theorem mem_ints {us : List Value} {ns : List Int} (h : IntsAre us ns) : ∀ u ∈ us,∃ n t,u = .int n t := by
  induction h with
  | nil => intro u hu; cases hu
  | cons n t r ih =>
    intro u hu
    rcases List.mem_cons.mp hu with rfl | hu
    · exact ⟨n,t,rfl⟩
    · exact ih u hu
end
theorem boot_abs : bootBuiltins "abs" = some (.builtin "abs") := by decide +kernel
theorem boot_sum : bootBuiltins "sum" = some (.builtin "sum") := by decide +kernel
theorem boot_max : bootBuiltins "max" = some (.builtin "max") := by decide +kernel
theorem boot_tuple : bootBuiltins "tuple" = some (.type "tuple") := by decide +kernel
theorem boot_list : bootBuiltins "list" = some (.type "list") := by decide +kernel
structure Fn (K : PySem.W.Frag) (mg : Str → Option Value) (x : Str) (st : Stmt) (ps : List Str) : Prop where
  ex : ∃ (f : Addr) (fd : FuncData),Fun K x x st f fd ∧ mg x = some (.ref f) ∧ Binds K fd ps []
theorem Fn.cal {P : Program} {w : World} {K : PySem.W.Frag} {mg : Str → Option Value} {base : Heap} {x : Str} {st : Stmt} {N ps : List Str} {k : Nat} {sp : Sp} (F : Fn K mg x st ps) (S : FnScope N ps (defScope st)) (len : ∀ vs H Q E,sp vs H Q E → vs.length = ps.length)
    (hbody : ∀ (f : Addr) (cdv : Value) (A : Around) (outer : List Env) (s : Shared) (H : Hp) (vs : List V) (Q : VK) (E : XK),Room k (A.deeper (envOfC x (defScope st) s.heap.objs.size f cdv)) → sp vs H Q E →
      ∃ t,PSs (cxF P w K mg base N x (defScope st) f cdv A outer s H E).nox (defBody st) t ∧ t { nx := fun _ H' => Q .non H',rt := Q } (start N vs) H) : Cal P w K mg base x (k + 1) ps sp := by
  obtain ⟨f,fd,F,m,b⟩ := F.ex
  exact ⟨f,fd,m,F.kp,b,F.okN S len fun cdv A outer s H vs Q E hr h => hbody f cdv A outer s H vs Q E hr h⟩
theorem Same.new {H : Hp} {p : Addr} (h : H p = none) (o : HO) : Same H (upd H p o) := fun b u q => by rw [upd_ne (ne_of_none q h)]; exact q
theorem Same.upd {H H' : Hp} {p : Addr} (g : Same H H') (h : H p = none) (o : HO) : Same H (L2.upd H' p o) := fun b u q => by rw [upd_ne (ne_of_none q h)]; exact g b u q
theorem Same.seqT {K : PySem.W.Frag} {H H' : Hp} {a : Addr} {xs : List V} (e : Same H H') (h : SqT K H a xs) : SqT K H' a xs := by
  rcases h with (h | ⟨o,h⟩) | h
  · exact .inl (.inl (e _ _ h))
  · exact .inl (.inr ⟨o,e _ _ h⟩)
  · exact .inr h
theorem mulL {i j : Int} (h1 : -(2 ^ 64) < i) (h2 : i < 2 ^ 64) : IntMulOk i j := .of_left (intBits_le_64 h1 h2)
theorem mulR {i j : Int} (h1 : -(2 ^ 64) < j) (h2 : j < 2 ^ 64) : IntMulOk i j := .of_right (intBits_le_64 h1 h2)
theorem comp_mk {X : Cx} {scope sc : Scope} {N : List Str} {ix : List (Option Nat)} (sc' : relabel scope X.env = sc) (kind : scope.kind = .function) (cell : scope.names.all (fun y => y.2 != .cell) = true)
    (names : scope.names.all (fun x => x.2 != .local || scope.names.lookup x.1 == some .local) = true)
    (free : scope.names.all (fun y => y.2 != .free || (X.env.scope.names.lookup y.1 == some .cell || X.env.scope.names.lookup y.1 == some .free)) = true)
    (len : N.length = ix.length)
    (hix : (N.zip ix).all (fun p => match p.2 with
      | none => true
      | some i => X.N[i]? == some p.1 && scope.names.any (fun y => y.1 == p.1 && y.2 == .free) && (sc.names.lookup p.1 == some .cell || sc.names.lookup p.1 == some .free)) = true)
    (has : sc.names.all (fun y => (y.2 != .cell && y.2 != .free) || scope.names.any (fun z => z.1 == y.1 && z.2 == .free)) = true) : CompOk X scope sc N ix := by
  have mem : ∀ x : Str,scope.names.any (fun y => y.1 == x && y.2 == .free) = true → (x,NameKind.free) ∈ scope.names := fun x h => by
    obtain ⟨y,hy,e⟩ := List.any_eq_true.mp h
    rw [Bool.and_eq_true] at e
    obtain ⟨a,b⟩ := y
    have e1 : a = x := eq_of_beq e.1
    have e2 : b = .free := eq_of_beq e.2
    subst e1; subst e2
    exact hy
  refine ⟨sc',kind,fun y hy e => ?_,fun x hx e => ?_,fun y hy e => ?_,len,fun j x i h1 h2 => ?_,fun x hx => ?_⟩
  · have := List.all_eq_true.mp cell y hy
    rw [e] at this; cases this
  · have := List.all_eq_true.mp names x hx
    rw [e] at this
    simpa using this
  · have := List.all_eq_true.mp free y hy
    rw [e] at this
    simpa [Env.kindOf] using this
  · have hm : (x,some i) ∈ N.zip ix := by
      have : (N.zip ix)[j]? = some (x,some i) := by
        rw [List.getElem?_zip_eq_some]
        exact ⟨h1,h2⟩
      exact List.mem_of_getElem? this
    have := List.all_eq_true.mp hix _ hm
    simp only [Bool.and_eq_true] at this
    obtain ⟨⟨a1,a2⟩,a3⟩ := this
    refine ⟨eq_of_beq a1,mem x a2,?_⟩
    rw [Bool.or_eq_true] at a3
    rcases a3 with z | z
    · exact .inl (eq_of_beq z)
    · exact .inr (eq_of_beq z)
  · have hm : ∃ k,(x,k) ∈ sc.names ∧ (k = .cell ∨ k = .free) := by
      rcases hx with z | z
      · exact ⟨_,PySem.mem_of_lookup z,.inl rfl⟩
      · exact ⟨_,PySem.mem_of_lookup z,.inr rfl⟩
    obtain ⟨k,hk,e⟩ := hm
    have := List.all_eq_true.mp has _ hk
    rw [Bool.or_eq_true] at this
    rcases this with z | z
    · rcases e with e | e <;> (subst e; simp at z)
    · exact mem x z
end L2
namespace L2
open PySem PySem.Spec PyProof.Rows
structure FnIn (K : PySem.W.Frag) (x : Str) (st : Stmt) : Prop where
  ex : ∃ (f : Addr) (oc : Value) (od : Option Addr) (kV doc pm : Value) (an : Option Addr) (cdv ct : Value) (sl : Array (Option Value)),PySem.W.nsIn K mainGlobals x = some (some (.ref f)) ∧
    K.lookup f = some ⟨oc,od,.func (PySem.W.fnOf x x (defArgs st) (defBody st) (defScope st) .none kV doc pm an cdv ct),sl⟩ ∧ PySem.W.codeIn K cdv x = true ∧ PySem.W.keepIn K (.ref f) = true
theorem fnIn_mk {K : PySem.W.Frag} {x : Str} {st : Stmt} {f : Addr} {oc : Value} {od : Option Addr} {kV doc pm : Value} {an : Option Addr} {cdv ct : Value} {sl : Array (Option Value)} (a : PySem.W.nsIn K mainGlobals x = some (some (.ref f)))
    (l : K.lookup f = some ⟨oc,od,.func (PySem.W.fnOf x x (defArgs st) (defBody st) (defScope st) .none kV doc pm an cdv ct),sl⟩) (c : PySem.W.codeIn K cdv x = true) (k : PySem.W.keepIn K (.ref f) = true) : FnIn K x st :=
  ⟨f,oc,od,kV,doc,pm,an,cdv,ct,sl,a,l,c,k⟩
theorem FnIn.fn {K : PySem.W.Frag} {h : Heap} {mg : Str → Option Value} {x : Str} {st : Stmt} {ps : List Str} (F : FnIn K x st) (X : K.In h) (G : h.Ns mainGlobals mg)
    (hb : ∀ (kV doc pm : Value) (an : Option Addr) (cdv ct : Value) (us : List Value),us.length = ps.length → bindArgs (PySem.W.fnOf x x (defArgs st) (defBody st) (defScope st) .none kV doc pm an cdv ct) ⟨us,[]⟩ = pure (ps.zip us)) : Fn K mg x st ps := by
  obtain ⟨f,oc,od,kV,doc,pm,an,cdv,ct,sl,a,l,c,k⟩ := F.ex
  have FF := fun_mk (st := st) l c k
  exact ⟨f,_,FF,PySem.W.mg_of X G a,FF.binds hb⟩
end L2
namespace L2
open PySem PySem.Spec PyProof.Rows
structure ItS (J : It) (xs : List V) (H1 : Hp) : Prop where
  go : ∀ i H',Same H1 H' → i < xs.length → J.go i H'
  yld : ∀ i H' x H2,Same H1 H' → J.yld i H' x H2 → H2 = H' ∧ (i < xs.length → xs[i]? = some x)
  stop : ∀ i H',Same H1 H' → xs.length ≤ i → J.stop i H'
theorem its_list {K : PySem.W.Frag} {a : Addr} {xs : List V} {H1 : Hp} (hq : SqL K H1 a xs) : ItS (Itl K a) xs H1 :=
  ⟨fun i H' g h => ⟨xs,xs[i],g.seq hq,by simp [h]⟩,fun i H' x H2 g y => ⟨y.1,fun _ => y.2 xs (g.seq hq)⟩,fun i H' g h => ⟨xs,g.seq hq,h⟩⟩
theorem its_tup {K : PySem.W.Frag} {a : Addr} {xs : List V} {H1 : Hp} (hq : SqT K H1 a xs) : ItS (Itt K a) xs H1 :=
  ⟨fun i H' g h => ⟨xs,xs[i],g.seqT hq,by simp [h]⟩,fun i H' x H2 g y => ⟨y.1,fun _ => y.2 xs (g.seqT hq)⟩,fun i H' g h => ⟨xs,g.seqT hq,h⟩⟩
theorem its_range {lo : Int} {n : Nat} {H1 : Hp} : ItS (Itr lo n) ((List.range n).map fun i => V.int (lo + (i : Nat))) H1 :=
  ⟨fun i H' g h => show i < n by simpa using h,fun i H' x H2 g y => ⟨y.1,fun h => by
    have h' : i < n := by simpa using h
    rw [List.getElem?_map,List.getElem?_range h',y.2]; rfl⟩,fun i H' g h => show n ≤ i by simpa using h⟩
theorem comp_pure {J : It} {xs : List V} {ix : List (Option Nat)} {tc : TT} {te : TE} {σ : St} {H1 : Hp} {Q : VK} (I : ItS J xs H1) (hz : xs.length ≤ sizeLine) {rest : St} (hst : cst ix σ = none :: rest) (p : V → Bool) (F : V → V)
    (ht : ∀ H' x,Same H1 H' → x ∈ xs → ∀ k : Bool → Hp → Prop,k (p x) H' → tc (some x :: rest) H' k)
    (he : ∀ H' x,Same H1 H' → x ∈ xs → p x = true → ∀ k : VK,k (F x) H' → te (some x :: rest) H' k)
    (hQ : ∀ D,H1 D = none → Q (.ref D) (upd H1 D (.lst ((xs.filter p).map F)))) :
    CompK ix (gName 0) tc te σ Q J H1 := by
  constructor
  intro D hD
  refine ⟨fun i m σ' H' => m = xs.length - i ∧ i ≤ xs.length ∧ (∃ o,σ' = o :: rest) ∧ H' = upd H1 D (.lst (((xs.take i).filter p).map F)),⟨xs.length,by simp,Nat.zero_le _,⟨none,hst⟩,by simp⟩,?_⟩
  rintro i m σ' H' ⟨rfl,hi,⟨o,rfl⟩,rfl⟩
  have g : Same H1 (upd H1 D (.lst (((xs.take i).filter p).map F))) := Same.new hD _
  by_cases hlt : i < xs.length
  · refine .inr ⟨I.go i _ g hlt,fun x H2 y => ?_⟩
    obtain ⟨rfl,hx⟩ := I.yld i _ x H2 g y
    have hx := hx hlt
    have hm : x ∈ xs := List.mem_of_getElem? hx
    have et : xs.take (i + 1) = xs.take i ++ [x] := by
      rw [List.take_add_one,hx]; rfl
    show tc (some x :: rest) _ _
    refine ht _ x g hm _ ?_
    cases hp : p x with
    | true =>
      rw [if_pos rfl]
      refine he _ x g hm hp _ ⟨_,upd_same,?_,xs.length - (i + 1),by omega,rfl,hlt,⟨_,rfl⟩,?_⟩
      · have h1 : (((xs.take i).filter p).map F).length ≤ i := by
          rw [List.length_map]
          exact Nat.le_trans (List.length_filter_le _ _) (by rw [List.length_take]; omega)
        omega
      · rw [upd_upd,et,List.filter_append,List.map_append]
        simp [hp]
    | false =>
      rw [if_neg Bool.false_ne_true]
      refine ⟨xs.length - (i + 1),by omega,rfl,hlt,⟨_,rfl⟩,?_⟩
      rw [et,List.filter_append]
      simp [hp]
  · have e : i = xs.length := by omega
    subst e
    refine .inl ⟨I.stop _ _ g (Nat.le_refl _),?_⟩
    rw [List.take_length]
    exact hQ D hD
theorem for_its {J : It} {xs : List V} {g : TG} {tb : TS} {D : Ends} {σ : St} {H : Hp} (I : ItS J xs H) (Pv : Nat → St → Hp → Prop) (h0 : Pv 0 σ H) (hsame : ∀ i σ' H',Pv i σ' H' → Same H H')
    (hs : ∀ i x σ' H',xs[i]? = some x → Pv i σ' H' → g x σ' H' fun σ2 H2 => tb { D with nx := Pv (i + 1),ct := Pv (i + 1),bk := D.nx } σ2 H2) (hd : ∀ σ' H',Pv xs.length σ' H' → D.nx σ' H') :
    ∃ W : Nat → Nat → St → Hp → Prop,(∃ m,W 0 m σ H) ∧ ∀ i m σ H,W i m σ H →
      (J.stop i H ∧ D.nx σ H) ∨ (J.go i H ∧ ∃ N : St → Hp → Prop,(∀ σ' H',N σ' H' → ∃ m',m' < m ∧ W (i + 1) m' σ' H') ∧ ∀ x H',J.yld i H x H' → g x σ H' fun σ2 H2 => tb { D with nx := N,ct := N,bk := D.nx } σ2 H2) := by
  refine ⟨fun i m σ' H' => m = xs.length - i ∧ i ≤ xs.length ∧ Pv i σ' H',⟨xs.length,by simp,Nat.zero_le _,h0⟩,?_⟩
  rintro i m σ' H' ⟨rfl,hi,p⟩
  have gs := hsame i σ' H' p
  by_cases hlt : i < xs.length
  · refine .inr ⟨I.go i _ gs hlt,Pv (i + 1),fun σ2 H2 p' => ⟨xs.length - (i + 1),by omega,rfl,hlt,p'⟩,fun x H2 y => ?_⟩
    obtain ⟨rfl,hx⟩ := I.yld i _ x H2 gs y
    exact hs i x σ' _ (hx hlt) p
  · have e : i = xs.length := by omega
    subst e
    exact .inl ⟨I.stop _ _ gs (Nat.le_refl _),hd σ' H' p⟩
end L2
namespace L2
open PySem PySem.Spec PyProof.Rows
structure Bar (t : TE) (σ : St) (H : Hp) (Q : VK) : Prop where
  go : t σ H Q
noncomputable def tBar (t : TE) : TE := fun σ H Q => Bar t σ H Q
theorem Bar.by {t : TE} {σ : St} {H : Hp} {Q : VK} (R : V → Hp → Prop) (h : ∀ k : VK,(∀ v H1,R v H1 → k v H1) → t σ H k) (q : ∀ v H1,R v H1 → Q v H1) : Bar t σ H Q := ⟨h Q q⟩
theorem pe_bar {X : Cx} {e : Expr} {t : TE} (h : PE X e t) : PE X e (tBar t) := fun pins s σ H Q I q => h pins s σ H Q I q.go
structure BarS (t : TS) (D : Ends) (σ : St) (H : Hp) : Prop where
  go : t D σ H
noncomputable def tBarS (t : TS) : TS := fun D σ H => BarS t D σ H
theorem ps_bar {X : Cx} {st : Stmt} {t : TS} (h : PS X st t) : PS X st (tBarS t) := fun pins s σ H D I q => h pins s σ H D I q.go
theorem BarS.by {t : TS} {D : Ends} {σ : St} {H : Hp} (R : St → Hp → Prop) (h : ∀ N : St → Hp → Prop,(∀ σ' H',R σ' H' → N σ' H') → t { D with nx := N } σ H) (q : ∀ σ' H',R σ' H' → D.nx σ' H') : BarS t D σ H := by
  constructor
  exact h D.nx q
end L2
namespace HT
open PySem PyProof.Rows
section
variable {prog : Program} {w : World} {A : Around} {E : Value → Shared → Prop} {s : Shared}
theorem getItem_tuple_all {t sl : Addr} {items : Array Value} {vl vu : Value} {lo hi : Option Int} {Q : Value → Shared → Prop} (ht : IsTup s.heap t items) (hs : s.heap.IsSliceOf sl vl vu .none) (pl : IsPart vl lo) (pu : IsPart vu hi)
    (hw : sIx items.size 0 lo = 0 ∧ sIx items.size items.size hi = items.size) (h : Q (.ref t) s) : wpAny (model prog w) A (getItem (.ref t) (.ref sl)) Q E s := by
  obtain ⟨os,hos,hcs,hds⟩ := id hs
  have hTs : s.TypeIs (.ref sl) "slice" := ⟨os,hos,hcs⟩
  unfold getItem
  try with_reducible refine wpAny_holding ?_
  first | refine wpAny_bind (wpAny_pure ?_) | skip
  refine wpAny_bind (wpAny_sequenceKey ht.typeIs (by decide) ?_)
  refine wpAny_bind (wpAny_callSpecial?_slot (name := Str.ofString "__getitem__") ht.typeIs PyProof.Rows.slot_tuple_getitem
    (wpAny_call_entry PyProof.Rows.slot_tuple_getitem ht.typeIs entry_tuple_getitem ?_ (args_tuple_getitem _ _)))
  show wpAny _ _ (Builtin.Tuple.tupleItemsOf (.ref t) >>= _) _ _ s
  refine wpAny_bind (tupleItemsOf_ ht ?_)
  refine wpAny_bind (wpAny_typeOf hTs ?_)
  rw [if_pos (by decide)]
  refine wpAny_bind (sliceApplied_gen hs pl pu ?_)
  have hyes : (((sIx items.size 0 lo : Nat) : Int) == 0 && (1 : Int) == 1 && (sIx items.size items.size hi - sIx items.size 0 lo) == items.size) = true := by
    rw [hw.1,hw.2]; simp
  show wpAny _ _ (if (((sIx items.size 0 lo : Nat) : Int) == 0 && (1 : Int) == 1 && (sIx items.size items.size hi - sIx items.size 0 lo) == items.size) = true then _ else _) _ _ s
  rw [if_pos hyes]
  unfold Builtin.Tuple.tupleIsExact
  refine wpAny_bind (wpAny_bind (wpAny_typeOf ht.typeIs (wpAny_pure ?_)))
  rw [if_pos (by decide)]
  exact wpAny_bind (wpAny_rule (wpAny_pure ⟨_,rfl,wpAny_pure h⟩))
end
end HT
namespace L2
open PySem PySem.Spec PyProof.Rows
section
variable {X : Cx}
theorem sl_tupAll : SlR X (fun x lo hi H Q => ∃ a xs,x = .ref a ∧ SqT X.K H a xs ∧ (HT.sIx xs.length 0 lo = 0 ∧ HT.sIx xs.length xs.length hi = xs.length) ∧ Q (.ref a) H) := by
  intro pins s σ H x v vl vu lo hi sl Q I rx hs pl pu h
  obtain ⟨a,xs,rfl,hx,hw,q⟩ := h
  cases rx
  obtain ⟨its,r,ht,hz⟩ := I.tuple hx
  have hlen : its.toArray.size = xs.length := by rw [List.size_toArray]; exact r.length.symm
  refine ⟨"tuple",_,PyProof.Rows.slot_tuple_getitem.lookup,ht.typeIs,?_⟩
  exact HT.getItem_tuple_all ht hs pl pu (by rw [hlen]; exact hw) ⟨.ref a,H,I,rfl,q⟩
end
end L2
namespace L2
open PySem PySem.Spec PyProof.Rows
theorem boot_zip : bootBuiltins "zip" = some (.type "zip") := by decide +kernel
theorem boot_min : bootBuiltins "min" = some (.builtin "min") := by decide +kernel
section
variable {X : Cx} (K : PySem.W.Frag)
theorem SlR.imp {r r' : V → Option Int → Option Int → Hp → VK → Prop} (h : SlR X r) (i : ∀ x lo hi H Q,r' x lo hi H Q → r x lo hi H Q) : SlR X r' := fun pins s σ H x v vl vu lo hi sl Q I rx hs pl pu q => h pins s σ H x v vl vu lo hi sl Q I rx hs pl pu (i _ _ _ _ _ q)
theorem xadd (hK : X.K = K := by rfl) : OpR X (binaryOp .Add) (rAddV K) := by subst hK; exact v_add
theorem xix (hK : X.K = K := by rfl) : IxR X (rIxV K) := by subst hK; exact v_ix
theorem xeq {k : Nat} (hr : Room k X.A) (hK : X.K = K := by rfl) : OpR X (compareOp .Eq) (rEqV K id) := by subst hK; exact v_eq hr
theorem xne {k : Nat} (hr : Room k X.A) (hK : X.K = K := by rfl) : OpR X (compareOp .NotEq) (rEqV K not) := by subst hK; exact v_ne hr
theorem xlen (hK : X.K = K := by rfl) : CallR X (.builtin "len") (fun xs H Q => ∃ x n,xs = [x] ∧ LenV K x H n ∧ Q (.int n) H) := by subst hK; exact call_len
theorem xsum (hc : X.calm = true) (hK : X.K = K := by rfl) : CallR X (.builtin "sum") (fun xs H Q => ∃ (l : Addr) (ns : List Int),xs = [.ref l] ∧ SqL K H l (ns.map V.int) ∧ Q (.int ns.sum) H) := by subst hK; exact v_sum hc
theorem xlist (hK : X.K = K := by rfl) : CallR X (.type "list") (fun xs H Q => ∃ p ys,xs = [.ref p] ∧ (SqL K H p ys ∨ SqT K H p ys) ∧ ∀ l,H l = none → Q (.ref l) (upd H l (.lst ys))) := by subst hK; exact call_list_of
theorem xtuple (hK : X.K = K := by rfl) : CallR X (.type "tuple") (fun xs H Q => ∃ p ys,xs = [.ref p] ∧ ((SqL K H p ys ∧ ∀ l,H l = none → Q (.ref l) (upd H l (.tup ys))) ∨ (SqT K H p ys ∧ Q (.ref p) H))) := by subst hK; exact call_tuple_of
noncomputable def rSlV (K : PySem.W.Frag) : V → Option Int → Option Int → Hp → VK → Prop := fun x lo hi H Q => match x with
  | .ref a => (∃ xs,SqL K H a xs ∧ ∀ p,H p = none → Q (.ref p) (upd H p (.lst (cutV xs lo hi)))) ∨
      (∃ xs,SqT K H a xs ∧ ¬ (HT.sIx xs.length 0 lo = 0 ∧ HT.sIx xs.length xs.length hi = xs.length) ∧ ∀ p,H p = none → Q (.ref p) (upd H p (.tup (cutV xs lo hi)))) ∨
      (∃ xs,SqT K H a xs ∧ (HT.sIx xs.length 0 lo = 0 ∧ HT.sIx xs.length xs.length hi = xs.length) ∧ Q (.ref a) H)
  | _ => False
theorem xsl (hK : X.K = K := by rfl) : SlR X (rSlV K) := by
  subst hK
  refine (sl_list.or (sl_tup.or sl_tupAll)).imp fun x lo hi H Q h => ?_
  unfold rSlV at h
  split at h
  · rcases h with ⟨xs,h⟩ | ⟨xs,h⟩ | ⟨xs,h⟩
    · exact .inl ⟨_,xs,rfl,h⟩
    · exact .inr (.inl ⟨_,xs,rfl,h⟩)
    · exact .inr (.inr ⟨_,xs,rfl,h⟩)
  · exact h.elim
theorem xseq {tg l : Expr} {tl : TE} (hl : PE X l tl) (hK : X.K = K := by rfl) : PI X tg l (iSeq K tl) := by subst hK; exact pi_seq hl
theorem xgtup {es : List Expr} {k : Nat} {t : TGs} {n : Nat} {pos : Pos} (hc : X.calm = true) (h : PGs X es t) (hK : X.K = K := by rfl)
    (hn : (assignEach es X.env).length = n := by rfl) (hst : (assignEach es X.env).findIdx? (·.1) = none := by rfl) : PG X (.Tuple es k pos) (gTup K n t) := by subst hK; exact pg_tup hc h hn hst
theorem xappend {o e : Expr} {to : TE} {te : TE} {apos cpos : Pos} (ho : PE X o to) (he : PE X e te) (hK : X.K = K := by rfl)
    (hbase : attributeBase o "append" X.env (eval o X.env) = eval o X.env := by rfl)
    (hfew : ((backTo cpos (starEach [e] X.env)).all (fun x => !x.1) && (backToKw cpos (keywordEach [] X.env)).all (fun x => x.1.isSome)
      && decide ([e].length + ([] : List Keyword).length + (if ([] : List Keyword).isEmpty then 0 else 1) < 30)) = true := by rfl)
    (hline : (apos.endLine == cpos.line) = true := by rfl) (hs : starEach [e] X.env = (false,eval e X.env) :: starEach [] X.env := by rfl) :
    PE X (.Call (.Attribute o "append" apos) [e] [] cpos) (tBM K "list" rAppend to (tCons te tNil)) := by
  subst hK
  exact pe_bm PySem.F.plainAttrs_list PySem.F.slot_list_append PySem.F.type_list_append mt_append ho (pa_cons he pa_nil hs) hbase hfew hline hs rfl
end
section
variable {X : Cx} {es : List Expr} {te : TE} {t : TA}
theorem pa_k {c : Const} {j} {p : Pos} (h : PE X (.Constant c j p) te) (hr : PA X es t) : PA X ((.Constant c j p) :: es) (tCons te t) := pa_cons h hr rfl
theorem pa_n {x : Str} {p : Pos} (h : PE X (.Name x p) te) (hr : PA X es t) : PA X ((.Name x p) :: es) (tCons te t) := pa_cons h hr rfl
theorem pa_b {a : Expr} {o : Operator} {b : Expr} {p : Pos} (h : PE X (.BinOp a o b p) te) (hr : PA X es t) : PA X ((.BinOp a o b p) :: es) (tCons te t) := pa_cons h hr rfl
theorem pa_u {o : UnaryOp} {a : Expr} {p : Pos} (h : PE X (.UnaryOp o a p) te) (hr : PA X es t) : PA X ((.UnaryOp o a p) :: es) (tCons te t) := pa_cons h hr rfl
end
end L2
namespace L2
open PySem PySem.Spec PyProof.Rows
section
variable {X : Cx} {pins : List (Addr × Obj)} {σ : St} {H : Hp} {s : Shared}
end
end L2
namespace L2
open PySem PySem.Spec PyProof.Rows
section
variable {prog : Program} {w : World} {A : Around} {E : Value → Shared → Prop} {h : Heap} {g : Array GenState} {d : Drawn} {t : Nat} {os : OsState} {a C : Addr} {o : Obj} {K : PySem.W.Frag}
end
end L2
namespace L2
open PySem PySem.Spec PyProof.Rows
end L2
namespace L2
open PySem PySem.Spec PyProof.Rows
section
variable {X : Cx} {a : Expr} {ta : TE}
end
end L2
namespace L2
open PySem
theorem canLay_ints : ∀ ns : List Int,PyData.canLayAll0 (ns.map PyData.int) = true
  | [] => rfl
  | n :: r => by
    have := canLay_ints r
    simp [PyData.canLayAll0,PyData.canLay0,this]
theorem depth_ints : ∀ ns : List Int,PyData.depthAll (ns.map PyData.int) ≤ 1
  | [] => by simp [PyData.depthAll]
  | n :: r => by
    have := depth_ints r
    simp [PyData.depthAll,PyData.depth]
    omega
theorem shaped_tup (ns : List Int) : SeqAt.shaped (.tuple (ns.map .int)) = true := by
  have h1 := canLay_ints ns
  have h2 := depth_ints ns
  simp only [SeqAt.shaped,PyData.canLay0,PyData.depth,h1,Bool.true_and]
  exact decide_eq_true (by omega)
theorem eqv_list (ns ms : List Int) : PyData.eqv (.list (ns.map .int)) (.list (ms.map .int)) = decide (ns = ms) := by
  rw [PyData.eqv]; exact PySem.W.ked_eqvAll ns ms
theorem eqv_tup (ns ms : List Int) : PyData.eqv (.tuple (ns.map .int)) (.tuple (ms.map .int)) = decide (ns = ms) := by
  rw [PyData.eqv]; exact PySem.W.ked_eqvAll ns ms
theorem eqTT {K : PySem.W.Frag} {g : Bool → Bool} {H : Hp} {a b : Addr} {ns ms : List Int} {Q : VK} (ha : SqT K H a (ns.map V.int)) (hb : SqT K H b (ms.map V.int)) (q : Q (.bl (g (decide (ns = ms)))) H) : rEqV K g (.ref a) (.ref b) H Q :=
  .inl ⟨_,_,.tup ha (RdDs.ints ns),.tup hb (RdDs.ints ms),shaped_tup ns,shaped_tup ms,by rw [eqv_tup]; exact q⟩
end L2
set_option maxHeartbeats 4000000
namespace L2
open PySem PySem.Spec PyProof.Rows
noncomputable def ItA (t : Bool) (h : Heap) (it l : Addr) (i : Nat) : Prop := ∃ o,h.get? it = some o ∧ o.cls = .type (if t then "tuple_iterator" else "list_iterator") ∧ o.data = .fields #[.ref l,.int i 0]
noncomputable def SqA (t : Bool) (h : Heap) (l : Addr) (items : Array Value) : Prop := ∃ o,h.get? l = some o ∧ o.cls = .type (if t then "tuple" else "list") ∧ ∃ n,o.data = .seq items n
theorem ItA.at {t : Bool} {h h' : Heap} {it l : Addr} {i : Nat} (x : ItA t h it l i) (e : ∀ o,h.get? it = some o → h'.get? it = some o) : ItA t h' it l i := let ⟨o,ho,r⟩ := x; ⟨o,e o ho,r⟩
theorem SqA.at {t : Bool} {h h' : Heap} {l : Addr} {xs : Array Value} (x : SqA t h l xs) (e : ∀ o,h.get? l = some o → h'.get? l = some o) : SqA t h' l xs := let ⟨o,ho,r⟩ := x; ⟨o,e o ho,r⟩
section
variable {prog : Program} {w : World} {A : Around} {E : Value → Shared → Prop} {s : Shared}
theorem nx_item {t : Bool} {it l : Addr} {i : Nat} {items : Array Value} {x : Value} {Q : Value → Shared → Prop} (h1 : ItA t s.heap it l i) (h2 : SqA t s.heap l items) (hx : items[i]? = some x)
    (k : ∀ h',ItA t h' it l (i + 1) → Heap.SameBut it s.heap h' → Q x { s with heap := h' }) : wpAny (model prog w) A (Builtin.SmallTypes.nextOf (.ref it)) Q E s := by
  cases t with
  | false => exact wpAny_nextOf_list_item h1 h2 hx k
  | true =>
    obtain ⟨o,ho,hc,hd⟩ := id h1
    obtain ⟨ol,hol,_,nl,hdl⟩ := id h2
    have ty : s.TypeIs (.ref it) "tuple_iterator" := ⟨o,ho,hc⟩
    unfold Builtin.SmallTypes.nextOf
    refine wpAny_bind (wpAny_callSpecial?_slot (name := Str.ofString "__next__") ty F.slot_tuple_iterator_next (wpAny_call_entry F.slot_tuple_iterator_next ty F.entry_tuple_iterator_next ?_ (F.args_tuple_iterator_next_1 _)))
    show wpAny _ _ (field (.ref it) 0 >>= _) _ _ s
    refine wpAny_bind (wpAny_field ho hd (x := Value.ref l) rfl ?_)
    show wpAny _ _ (if (Value.ref l == Value.none) = true then _ else _) _ _ s
    rw [if_neg (show ¬ ((Value.ref l == Value.none) = true) from fun q => Bool.false_ne_true q)]
    refine wpAny_bind (wpAny_field ho hd (x := Value.int i 0) rfl ?_)
    refine wpAny_bind (wpAny_seqItems hol hdl (Q := _) ?_)
    simp only [hx,Int.toNat_natCast]
    refine wpAny_bind (wpAny_setField ho hd (by simp) (wpAny_pure ⟨x,rfl,wpAny_pure (k _ ⟨_,Heap.get?_update_self _ ho (Obj.isFreed_of_fields (Obj.data_mapFields hd _)),?_,?_⟩ (Heap.SameBut.update ..))⟩))
    · exact (Obj.cls_mapFields ..).trans hc
    · rw [Obj.data_mapFields hd]; simp [rawInt]
theorem nx_end {t : Bool} {it l : Addr} {i : Nat} {items : Array Value} {Q : Value → Shared → Prop} (hh : A.handled = none) (h1 : ItA t s.heap it l i) (h2 : SqA t s.heap l items) (hx : items[i]? = none)
    (k : ∀ h' e,Heap.ExtBut it s.heap h' → (∃ o,h'.get? e = some o ∧ o.cls = .type "StopIteration") → E (.ref e) { s with heap := h' }) : wpAny (model prog w) A (Builtin.SmallTypes.nextOf (.ref it)) Q E s := by
  cases t with
  | false => exact wpAny_nextOf_list_end hh h1 h2 hx k
  | true =>
    obtain ⟨o,ho,hc,hd⟩ := id h1
    obtain ⟨ol,hol,_,nl,hdl⟩ := id h2
    have ty : s.TypeIs (.ref it) "tuple_iterator" := ⟨o,ho,hc⟩
    unfold Builtin.SmallTypes.nextOf
    refine wpAny_bind (wpAny_callSpecial?_slot (name := Str.ofString "__next__") ty F.slot_tuple_iterator_next (wpAny_call_entry F.slot_tuple_iterator_next ty F.entry_tuple_iterator_next ?_ (F.args_tuple_iterator_next_1 _)))
    show wpAny _ _ (field (.ref it) 0 >>= _) _ _ s
    refine wpAny_bind (wpAny_field ho hd (x := Value.ref l) rfl ?_)
    show wpAny _ _ (if (Value.ref l == Value.none) = true then _ else _) _ _ s
    rw [if_neg (show ¬ ((Value.ref l == Value.none) = true) from fun q => Bool.false_ne_true q)]
    refine wpAny_bind (wpAny_field ho hd (x := Value.int i 0) rfl ?_)
    refine wpAny_bind (wpAny_seqItems hol hdl (Q := _) ?_)
    simp only [hx,Int.toNat_natCast]
    refine wpAny_bind (wpAny_rule (wpAny_bind (wpAny_setField ho hd (by simp) (Q := _) ?_)))
    show wpAny _ _ (newExc (.type "StopIteration") [] >>= _) _ _ _
    refine wpAny_bind ?_
    simp only [newTuple,newExc]
    refine wpAny_bind (wpAny_newObj_type (Q := _) ?_ (by size_fits))
    refine wpAny_bind (m := firstArgMember _ _) (wpAny_of_eq (a := Value.none) (by first | rfl | (simp only [firstArgMember]; done)) ?_)
    refine wpAny_newObj_type (Q := _) ?_ (by size_fits)
    simp only [raiseNew]
    refine wpAny_bind (wpAny_handled (Q := _) ?_)
    first | rw [hh] | rw [show A.in1.handled = Option.none from hh]
    refine wpAny_bind (wpAny_pure (wpAny_throw (k _ _ (((Heap.SameBut.update ..).extBut.push _).push _) ⟨_,Heap.get?_push_size _ rfl,rfl⟩)))
structure Apart (z TI TO i1 i2 l1 l2 : Addr) : Prop where
  own : [z,TI,TO,i1,i2].Nodup
  far1 : l1 ∉ [z,TI,TO,i1,i2]
  far2 : l2 ∉ [z,TI,TO,i1,i2]
theorem Apart.ne {z TI TO i1 i2 l1 l2 : Addr} (D : Apart z TI TO i1 i2 l1 l2) :
    (TI ≠ z ∧ TO ≠ z ∧ i1 ≠ z ∧ i2 ≠ z) ∧ (TI ≠ TO ∧ TI ≠ i1 ∧ TI ≠ i2) ∧ (TO ≠ i1 ∧ TO ≠ i2 ∧ i1 ≠ i2) ∧ (l1 ≠ z ∧ l1 ≠ TO ∧ l1 ≠ i1 ∧ l1 ≠ i2) ∧ (l2 ≠ z ∧ l2 ≠ TO ∧ l2 ≠ i1 ∧ l2 ≠ i2) := by
  obtain ⟨a,b,c⟩ := D
  simp only [List.nodup_cons,List.mem_cons,List.not_mem_nil,or_false,not_or,List.nodup_nil,and_true,not_false_eq_true] at a b c
  obtain ⟨⟨a1,a2,a3,a4⟩,⟨a5,a6,a7⟩,⟨a8,a9⟩,a10⟩ := a
  exact ⟨⟨Ne.symm a1,Ne.symm a2,Ne.symm a3,Ne.symm a4⟩,⟨a5,a6,a7⟩,⟨a8,a9,a10⟩,⟨b.1,b.2.2.1,b.2.2.2.1,b.2.2.2.2⟩,⟨c.1,c.2.2.1,c.2.2.2.1,c.2.2.2.2⟩⟩
theorem zn_item {t1 t2 : Bool} {z TI TO i1 i2 l1 l2 : Addr} {k1 k2 : Nat} {xs ys : Array Value} {x y a b : Value} {Q : Value → Shared → Prop} (D : Apart z TI TO i1 i2 l1 l2)
    (hz : IsZip s.heap z TI TO .none) (hI : IsPair s.heap TI (.ref i1) (.ref i2)) (hO : IsPair s.heap TO a b)
    (h1 : ItA t1 s.heap i1 l1 k1) (h2 : ItA t2 s.heap i2 l2 k2) (q1 : SqA t1 s.heap l1 xs) (q2 : SqA t2 s.heap l2 ys) (hx : xs[k1]? = some x) (hy : ys[k2]? = some y)
    (k : ∀ h',IsZip h' z TI TO (rawInt s.heap.objs.size) → IsPair h' TO x y → ItA t1 h' i1 l1 (k1 + 1) → ItA t2 h' i2 l2 (k2 + 1) → IsPair h' s.heap.objs.size x y →
      (∀ c o,c ∉ [z,TO,i1,i2] → s.heap.get? c = some o → h'.get? c = some o) → Q (.ref s.heap.objs.size) { s with heap := h' }) :
    wpAny (model prog w) A (Builtin.«zip.__next__» ⟨[.ref z],[]⟩) (fun fin s' => ∃ v,fin = .done (.ret v) ∧ Q v s') E s := by
  obtain ⟨⟨dTIz,dTOz,d1z,d2z⟩,⟨dTITO,dTI1,dTI2⟩,⟨dTO1,dTO2,d12⟩,⟨e1z,e1TO,e11,e12⟩,⟨e2z,e2TO,e21,e22⟩⟩ := D.ne
  show wpAny _ _ (field (.ref z) 2 >>= _) _ _ _
  refine wpAny_bind (wpAny_field hz rfl (x := Value.bool false) rfl ?_)
  show wpAny _ _ (field (.ref z) 3 >>= _) _ _ _
  refine wpAny_bind (wpAny_field hz rfl (x := Value.ref TI) rfl ?_)
  refine wpAny_bind (wpAny_seqItems hI rfl (Q := _) ?_)
  show wpAny _ _ (Builtin.SmallTypes.ownedTupleIsFree (.ref z) >>= _) _ _ _
  refine wpAny_bind ?_
  unfold Builtin.SmallTypes.ownedTupleIsFree
  refine wpAny_bind (wpAny_field hz rfl (x := Value.none) rfl (wpAny_pure (Q := _) ?_))
  simp only [if_true]
  refine wpAny_bind (wpAny_rule (Q := _) ?_)
  refine wpAny_bind (wpAny_field hz rfl (x := Value.ref TO) rfl ?_)
  refine wpAny_bind (wpAny_setField_rec hz (by simp) fun g1 z1 m1 => ?_)
  replace z1 : IsZip g1 z TI TO .ellipsis := z1
  refine wpAny_bind ?_
  simp only [List.forIn_cons,List.forIn_nil,List.zipIdx_cons,List.zipIdx_nil]
  refine wpAny_bind (wpAny_bind (wpAny_onRaise (Q := _) ?_))
  show wpAny _ _ (Builtin.SmallTypes.nextOf (.ref i1) >>= _) _ _ _
  refine wpAny_bind (nx_item (h1.at fun o e => m1.extBut _ _ d1z e) (q1.at fun o e => m1.extBut _ _ e1z e) hx fun g2 n2 m2 => wpAny_pure (Q := _) ?_)
  have O2 : IsPair g2 TO a b := m2.extBut _ _ dTO1 (m1.extBut _ _ dTOz hO)
  refine wpAny_bind (wpAny_seqItems O2 rfl (Q := _) ?_)
  refine wpAny_bind (wpAny_updateSeq_pair O2 fun g3 O3 m3 => ?_)
  replace O3 : IsPair g3 TO x b := O3
  refine wpAny_bind (wpAny_letGo (wpAny_pure (Q := _) ?_))
  refine wpAny_bind (wpAny_bind (wpAny_onRaise (Q := _) ?_))
  show wpAny _ _ (Builtin.SmallTypes.nextOf (.ref i2) >>= _) _ _ _
  refine wpAny_bind (nx_item (h2.at fun o e => m3.extBut _ _ (Ne.symm dTO2) (m2.extBut _ _ (Ne.symm d12) (m1.extBut _ _ d2z e))) (q2.at fun o e => m3.extBut _ _ e2TO (m2.extBut _ _ e21 (m1.extBut _ _ e2z e))) hy fun g4 n4 m4 => wpAny_pure (Q := _) ?_)
  have O4 : IsPair g4 TO x b := m4.extBut _ _ dTO2 O3
  refine wpAny_bind (wpAny_seqItems O4 rfl (Q := _) ?_)
  refine wpAny_bind (wpAny_updateSeq_pair O4 fun g5 O5 m5 => ?_)
  replace O5 : IsPair g5 TO x y := O5
  refine wpAny_bind (wpAny_letGo (wpAny_pure (wpAny_pure (Q := _) ?_)))
  refine wpAny_bind (wpAny_seqItems O5 rfl (Q := _) ?_)
  refine wpAny_bind (wpAny_newTuple (Q := _) ?_)
  have sz : g5.objs.size = s.heap.objs.size := by rw [m5.1,m4.1,m3.1,m2.1,m1.1]
  have Z5 : IsZip g5 z TI TO .ellipsis := m5.extBut _ _ (Ne.symm dTOz) (m4.extBut _ _ (Ne.symm d2z) (m3.extBut _ _ (Ne.symm dTOz) (m2.extBut _ _ (Ne.symm d1z) z1)))
  have N1 : ItA t1 g5 i1 l1 (k1 + 1) := n2.at fun o e => m5.extBut _ _ (Ne.symm dTO1) (m4.extBut _ _ d12 (m3.extBut _ _ (Ne.symm dTO1) e))
  have N2 : ItA t2 g5 i2 l2 (k2 + 1) := n4.at fun o e => m5.extBut _ _ (Ne.symm dTO2) e
  have K5 : ∀ c o,c ∉ [z,TO,i1,i2] → s.heap.get? c = some o → g5.get? c = some o := fun c o hc e => by
    simp only [List.mem_cons,List.not_mem_nil,or_false,not_or] at hc
    obtain ⟨c1,c2,c3,c4⟩ := hc
    exact m5.extBut _ _ c2 (m4.extBut _ _ c4 (m3.extBut _ _ c2 (m2.extBut _ _ c3 (m1.extBut _ _ c1 e))))
  have zl : z < g5.objs.size := Heap.lt_size Z5
  show wpAny _ _ (Builtin.SmallTypes.ownedTupleHandOut (.ref z) (.ref g5.objs.size) >>= _) _ _ _
  refine wpAny_bind ?_
  unfold Builtin.SmallTypes.ownedTupleHandOut
  have Z6 : IsZip (g5.push { cls := .type "tuple",data := .seq #[x,y] }) z TI TO .ellipsis := Heap.get?_push_of_some _ Z5
  refine wpAny_bind (wpAny_setField_rec Z6 (by simp) fun g7 Z7 m7 => ?_)
  replace Z7 : IsZip g7 z TI TO (rawInt g5.objs.size) := Z7
  refine wpAny_setField_rec Z7 (by simp) fun g8 Z8 m8 => ?_
  replace Z8 : IsZip g8 z TI TO (rawInt g5.objs.size) := Z8
  have up : ∀ c o,c ≠ z → g5.get? c = some o → g8.get? c = some o := fun c o c1 e => m8.extBut _ _ c1 (m7.extBut _ _ c1 (Heap.get?_push_of_some _ e))
  have T8 : IsPair g8 g5.objs.size x y := m8.extBut _ _ (Nat.ne_of_gt zl) (m7.extBut _ _ (Nat.ne_of_gt zl) (Heap.get?_push_size _ rfl))
  rw [sz] at Z8 T8
  refine wpAny_pure ⟨_,rfl,?_⟩
  show Q (.ref g5.objs.size) _
  rw [sz]
  exact k g8 Z8 (up _ _ dTOz O5) (N1.at fun o e => up _ o d1z e) (N2.at fun o e => up _ o d2z e) T8 fun c o hc e => up c o (fun q => hc (by simp [q])) (K5 c o hc e)
theorem zn_end {t1 t2 : Bool} {z TI TO i1 i2 l1 l2 : Addr} {k1 k2 : Nat} {xs ys : Array Value} {a b : Value} {Q : Fin → Shared → Prop} (hh : A.handled = none) (D : Apart z TI TO i1 i2 l1 l2)
    (hz : IsZip s.heap z TI TO .none) (hI : IsPair s.heap TI (.ref i1) (.ref i2)) (hO : IsPair s.heap TO a b)
    (h1 : ItA t1 s.heap i1 l1 k1) (h2 : ItA t2 s.heap i2 l2 k2) (q1 : SqA t1 s.heap l1 xs) (q2 : SqA t2 s.heap l2 ys) (he : ys[k2]? = none ∨ xs[k1]? = none)
    (k : ∀ h' e,(∀ c o,c ∉ [z,TO,i1,i2] → s.heap.get? c = some o → h'.get? c = some o) → (∃ o,h'.get? e = some o ∧ o.cls = .type "StopIteration") → E (.ref e) { s with heap := h' }) :
    wpAny (model prog w) A (Builtin.«zip.__next__» ⟨[.ref z],[]⟩) Q E s := by
  obtain ⟨⟨dTIz,dTOz,d1z,d2z⟩,⟨dTITO,dTI1,dTI2⟩,⟨dTO1,dTO2,d12⟩,⟨e1z,e1TO,e11,e12⟩,⟨e2z,e2TO,e21,e22⟩⟩ := D.ne
  have far : ∀ {c : Addr},c ∉ [z,TO,i1,i2] → c ≠ z ∧ c ≠ TO ∧ c ≠ i1 ∧ c ≠ i2 := fun hc => by simpa only [List.mem_cons,List.not_mem_nil,or_false,not_or] using hc
  show wpAny _ _ (field (.ref z) 2 >>= _) _ _ _
  refine wpAny_bind (wpAny_field hz rfl (x := Value.bool false) rfl ?_)
  show wpAny _ _ (field (.ref z) 3 >>= _) _ _ _
  refine wpAny_bind (wpAny_field hz rfl (x := Value.ref TI) rfl ?_)
  refine wpAny_bind (wpAny_seqItems hI rfl (Q := _) ?_)
  show wpAny _ _ (Builtin.SmallTypes.ownedTupleIsFree (.ref z) >>= _) _ _ _
  refine wpAny_bind ?_
  unfold Builtin.SmallTypes.ownedTupleIsFree
  refine wpAny_bind (wpAny_field hz rfl (x := Value.none) rfl (wpAny_pure (Q := _) ?_))
  simp only [if_true]
  refine wpAny_bind (wpAny_rule (Q := _) ?_)
  refine wpAny_bind (wpAny_field hz rfl (x := Value.ref TO) rfl ?_)
  refine wpAny_bind (wpAny_setField_rec hz (by simp) fun g1 z1 m1 => ?_)
  replace z1 : IsZip g1 z TI TO .ellipsis := z1
  refine wpAny_bind ?_
  simp only [List.forIn_cons,List.forIn_nil,List.zipIdx_cons,List.zipIdx_nil]
  refine wpAny_bind (wpAny_bind (wpAny_onRaise (Q := _) ?_))
  show wpAny _ _ (Builtin.SmallTypes.nextOf (.ref i1) >>= _) _ _ _
  cases hx : xs[k1]? with
  | none =>
    refine wpAny_bind (nx_end hh (h1.at fun o e => m1.extBut _ _ d1z e) (q1.at fun o e => m1.extBut _ _ e1z e) hx fun g2 e m2 ⟨u,hu,cu⟩ => ?_)
    have z2 : IsZip g2 z TI TO .ellipsis := m2 _ _ (Ne.symm d1z) z1
    have ez : e ≠ z := fun q => by subst q; rw [z2] at hu; cases hu; simp at cu
    exact wpAny_setField_rec z2 (by simp) fun g3 _ m3 => k g3 e (fun c o hc q => let ⟨c1,_,c3,_⟩ := far hc; m3.extBut _ _ c1 (m2 _ _ c3 (m1.extBut _ _ c1 q))) ⟨u,m3.extBut _ _ ez hu,cu⟩
  | some x =>
    have hy : ys[k2]? = none := he.elim id fun q => by rw [hx] at q; cases q
    refine wpAny_bind (nx_item (h1.at fun o e => m1.extBut _ _ d1z e) (q1.at fun o e => m1.extBut _ _ e1z e) hx fun g2 n2 m2 => wpAny_pure (Q := _) ?_)
    have O2 : IsPair g2 TO a b := m2.extBut _ _ dTO1 (m1.extBut _ _ dTOz hO)
    refine wpAny_bind (wpAny_seqItems O2 rfl (Q := _) ?_)
    refine wpAny_bind (wpAny_updateSeq_pair O2 fun g3 O3 m3 => ?_)
    refine wpAny_bind (wpAny_letGo (wpAny_pure (Q := _) ?_))
    refine wpAny_bind (wpAny_bind (wpAny_onRaise (Q := _) ?_))
    show wpAny _ _ (Builtin.SmallTypes.nextOf (.ref i2) >>= _) _ _ _
    refine wpAny_bind (nx_end hh (h2.at fun o e => m3.extBut _ _ (Ne.symm dTO2) (m2.extBut _ _ (Ne.symm d12) (m1.extBut _ _ d2z e))) (q2.at fun o e => m3.extBut _ _ e2TO (m2.extBut _ _ e21 (m1.extBut _ _ e2z e))) hy fun g4 e m4 ⟨u,hu,cu⟩ => ?_)
    have z4 : IsZip g4 z TI TO .ellipsis := m4 _ _ (Ne.symm d2z) (m3.extBut _ _ (Ne.symm dTOz) (m2.extBut _ _ (Ne.symm d1z) z1))
    have ez : e ≠ z := fun q => by subst q; rw [z4] at hu; cases hu; simp at cu
    exact wpAny_setField_rec z4 (by simp) fun g5 _ m5 => k g5 e (fun c o hc q => let ⟨c1,c2,c3,c4⟩ := far hc; m5.extBut _ _ c1 (m4 _ _ c4 (m3.extBut _ _ c2 (m2.extBut _ _ c3 (m1.extBut _ _ c1 q))))) ⟨u,m5.extBut _ _ ez hu,cu⟩
structure ZAt (t1 t2 : Bool) (z TI TO i1 i2 l1 l2 : Addr) (i : Nat) (h : Heap) (f0 : Value) : Prop where
  zz : IsZip h z TI TO f0
  ti : IsPair h TI (.ref i1) (.ref i2)
  to : ∃ a b,IsPair h TO a b
  w1 : ItA t1 h i1 l1 i
  w2 : ItA t2 h i2 l2 i
theorem pn_item {t1 t2 : Bool} {z TI TO i1 i2 l1 l2 : Addr} {i : Nat} {xs ys : Array Value} {x y : Value} {Q : Option Value → Shared → Prop} (D : Apart z TI TO i1 i2 l1 l2) (Z : ZAt t1 t2 z TI TO i1 i2 l1 l2 i s.heap .none)
    (q1 : SqA t1 s.heap l1 xs) (q2 : SqA t2 s.heap l2 ys) (hx : xs[i]? = some x) (hy : ys[i]? = some y)
    (k : ∀ h',ZAt t1 t2 z TI TO i1 i2 l1 l2 (i + 1) h' (rawInt s.heap.objs.size) → IsPair h' s.heap.objs.size x y → (∀ c o,c ∉ [z,TO,i1,i2] → s.heap.get? c = some o → h'.get? c = some o) → Q (some (.ref s.heap.objs.size)) { s with heap := h' }) :
    wpAny (model prog w) A (pyNext (.ref z)) Q E s := by
  obtain ⟨zz,ti,⟨a,b,to⟩,w1,w2⟩ := Z
  have ty : s.TypeIs (.ref z) "zip" := ⟨_,zz,rfl⟩
  obtain ⟨⟨dTIz,_,_,_⟩,⟨dTITO,dTI1,dTI2⟩,_⟩ := D.ne
  unfold pyNext
  refine wpAny_bind (wpAny_attempt (wpAny_callSpecial?_slot (name := Str.ofString "__next__") ty F.slot_zip_next (wpAny_call_entry F.slot_zip_next ty F.entry_zip_next ?_ (F.args_zip_next_1 _))))
  exact zn_item D zz ti to w1 w2 q1 q2 hx hy fun h' b1 b2 b3 b4 b5 b6 => wpAny_pure (k h' ⟨b1,b6 _ _ (by simp [dTIz,dTITO,dTI1,dTI2]) ti,⟨_,_,b2⟩,b3,b4⟩ b5 b6)
theorem pn_end {t1 t2 : Bool} {z TI TO i1 i2 l1 l2 : Addr} {i : Nat} {xs ys : Array Value} {Q : Option Value → Shared → Prop} (hh : A.handled = none) (D : Apart z TI TO i1 i2 l1 l2) (Z : ZAt t1 t2 z TI TO i1 i2 l1 l2 i s.heap .none)
    (q1 : SqA t1 s.heap l1 xs) (q2 : SqA t2 s.heap l2 ys) (he : ys[i]? = none ∨ xs[i]? = none)
    (k : ∀ h',(∀ c o,c ∉ [z,TO,i1,i2] → s.heap.get? c = some o → h'.get? c = some o) → Q none { s with heap := h' }) : wpAny (model prog w) A (pyNext (.ref z)) Q E s := by
  obtain ⟨zz,ti,⟨a,b,to⟩,w1,w2⟩ := Z
  have ty : s.TypeIs (.ref z) "zip" := ⟨_,zz,rfl⟩
  unfold pyNext
  refine wpAny_bind (wpAny_attempt (wpAny_callSpecial?_slot (name := Str.ofString "__next__") ty F.slot_zip_next (wpAny_call_entry F.slot_zip_next ty F.entry_zip_next ?_ (F.args_zip_next_1 _))))
  refine zn_end hh D zz ti to w1 w2 q1 q2 he fun h' e b1 ⟨u,hu,cu⟩ => ?_
  exact wpAny_bind (wpAny_isInstance (T := "StopIteration") (b := true) ⟨u,hu,cu⟩ isSubtype_stop (wpAny_pure (k _ b1)))
noncomputable abbrev zA (t1 : Bool) (h : Heap) (l1 : Addr) : Heap := h.push { cls := .type (if t1 then "tuple_iterator" else "list_iterator"),data := .fields #[.ref l1,.int 0 0] }
noncomputable abbrev zB (t1 t2 : Bool) (h : Heap) (l1 l2 : Addr) : Heap := zA t2 (zA t1 h l1) l2
noncomputable abbrev zC (t1 t2 : Bool) (h : Heap) (l1 l2 : Addr) : Heap := (zB t1 t2 h l1 l2).push { cls := .type "tuple",data := .seq #[.ref h.objs.size,.ref (zA t1 h l1).objs.size] }
noncomputable abbrev zD (t1 t2 : Bool) (h : Heap) (l1 l2 : Addr) : Heap := (zC t1 t2 h l1 l2).push { cls := .type "tuple",data := .seq #[.none,.none] }
noncomputable abbrev zE (t1 t2 : Bool) (h : Heap) (l1 l2 : Addr) : Heap := (zD t1 t2 h l1 l2).push { cls := .type "zip",data := .fields #[.none,.bool false,.bool false,.ref (zB t1 t2 h l1 l2).objs.size,.ref (zC t1 t2 h l1 l2).objs.size] }
theorem zmade00 (l1 l2 : Addr) (xs ys : Array Value) :
    Meets (Builtin.«zip.__new__» ⟨[.type "zip",.ref l1,.ref l2],[]⟩) (fun _ R s => s.heap.IsList l1 xs ∧ s.heap.IsList l2 ys ∧
      R (.ok (.ret (.ref (zD false false s.heap l1 l2).objs.size))) { s with heap := zE false false s.heap l1 l2 }) :=
  .of_wp fun prog w A R s h => by
    obtain ⟨hp,g,d,tk,os⟩ := s
    obtain ⟨m1,m2,h⟩ := h
    have sub := sub_zip
    have c1 : Heap.IsList (Shared.heap ⟨hp,g,d,tk,os⟩) l1 xs := m1
    have c2 : Heap.IsList (Shared.heap ⟨hp.push { cls := .type "list_iterator",data := .fields #[.ref l1,.int 0 0] },g,d,tk,os⟩) l2 ys := by
      obtain ⟨o,ho,r⟩ := m2
      exact ⟨o,Heap.get?_push_of_some _ ho,r⟩
    wp_walk using wpAny_pyIter_list c1,wpAny_pyIter_list c2
    exact ⟨_,rfl,h⟩
theorem zmade01 (l1 l2 : Addr) (xs ys : Array Value) :
    Meets (Builtin.«zip.__new__» ⟨[.type "zip",.ref l1,.ref l2],[]⟩) (fun _ R s => s.heap.IsList l1 xs ∧ s.heap.IsTuple l2 ys ∧
      R (.ok (.ret (.ref (zD false true s.heap l1 l2).objs.size))) { s with heap := zE false true s.heap l1 l2 }) :=
  .of_wp fun prog w A R s h => by
    obtain ⟨hp,g,d,tk,os⟩ := s
    obtain ⟨m1,m2,h⟩ := h
    have sub := sub_zip
    have c1 : Heap.IsList (Shared.heap ⟨hp,g,d,tk,os⟩) l1 xs := m1
    have c2 : Heap.IsTuple (Shared.heap ⟨hp.push { cls := .type "list_iterator",data := .fields #[.ref l1,.int 0 0] },g,d,tk,os⟩) l2 ys := by
      obtain ⟨o,ho,r⟩ := m2
      exact ⟨o,Heap.get?_push_of_some _ ho,r⟩
    wp_walk using wpAny_pyIter_list c1,wpAny_pyIter_tuple c2
    exact ⟨_,rfl,h⟩
theorem zmade10 (l1 l2 : Addr) (xs ys : Array Value) :
    Meets (Builtin.«zip.__new__» ⟨[.type "zip",.ref l1,.ref l2],[]⟩) (fun _ R s => s.heap.IsTuple l1 xs ∧ s.heap.IsList l2 ys ∧
      R (.ok (.ret (.ref (zD true false s.heap l1 l2).objs.size))) { s with heap := zE true false s.heap l1 l2 }) :=
  .of_wp fun prog w A R s h => by
    obtain ⟨hp,g,d,tk,os⟩ := s
    obtain ⟨m1,m2,h⟩ := h
    have sub := sub_zip
    have c1 : Heap.IsTuple (Shared.heap ⟨hp,g,d,tk,os⟩) l1 xs := m1
    have c2 : Heap.IsList (Shared.heap ⟨hp.push { cls := .type "tuple_iterator",data := .fields #[.ref l1,.int 0 0] },g,d,tk,os⟩) l2 ys := by
      obtain ⟨o,ho,r⟩ := m2
      exact ⟨o,Heap.get?_push_of_some _ ho,r⟩
    wp_walk using wpAny_pyIter_tuple c1,wpAny_pyIter_list c2
    exact ⟨_,rfl,h⟩
theorem zmade11 (l1 l2 : Addr) (xs ys : Array Value) :
    Meets (Builtin.«zip.__new__» ⟨[.type "zip",.ref l1,.ref l2],[]⟩) (fun _ R s => s.heap.IsTuple l1 xs ∧ s.heap.IsTuple l2 ys ∧
      R (.ok (.ret (.ref (zD true true s.heap l1 l2).objs.size))) { s with heap := zE true true s.heap l1 l2 }) :=
  .of_wp fun prog w A R s h => by
    obtain ⟨hp,g,d,tk,os⟩ := s
    obtain ⟨m1,m2,h⟩ := h
    have sub := sub_zip
    have c1 : Heap.IsTuple (Shared.heap ⟨hp,g,d,tk,os⟩) l1 xs := m1
    have c2 : Heap.IsTuple (Shared.heap ⟨hp.push { cls := .type "tuple_iterator",data := .fields #[.ref l1,.int 0 0] },g,d,tk,os⟩) l2 ys := by
      obtain ⟨o,ho,r⟩ := m2
      exact ⟨o,Heap.get?_push_of_some _ ho,r⟩
    wp_walk using wpAny_pyIter_tuple c1,wpAny_pyIter_tuple c2
    exact ⟨_,rfl,h⟩
theorem zmade (t1 t2 : Bool) (l1 l2 : Addr) (xs ys : Array Value) :
    Meets (Builtin.«zip.__new__» ⟨[.type "zip",.ref l1,.ref l2],[]⟩) (fun _ R s => SqA t1 s.heap l1 xs ∧ SqA t2 s.heap l2 ys ∧
      R (.ok (.ret (.ref (zD t1 t2 s.heap l1 l2).objs.size))) { s with heap := zE t1 t2 s.heap l1 l2 }) :=
  match t1,t2 with
  | false,false => zmade00 l1 l2 xs ys
  | false,true => zmade01 l1 l2 xs ys
  | true,false => zmade10 l1 l2 xs ys
  | true,true => zmade11 l1 l2 xs ys
theorem call_zz {t1 t2 : Bool} {l1 l2 : Addr} {xs ys : Array Value} {Q : Value → Shared → Prop} (m1 : SqA t1 s.heap l1 xs) (m2 : SqA t2 s.heap l2 ys)
    (k : ∀ h',ZAt t1 t2 (s.heap.objs.size + 4) (s.heap.objs.size + 2) (s.heap.objs.size + 3) s.heap.objs.size (s.heap.objs.size + 1) l1 l2 0 h' .none →
      (∀ c o,s.heap.get? c = some o → h'.get? c = some o) → Q (.ref (s.heap.objs.size + 4)) { s with heap := h' }) :
    wpAny (model prog w) A (call (.type "zip") [.ref l1,.ref l2]) Q E s := by
  refine callType_new F.called_zip (by decide) (F.typeCall_zip_2 _ _) (F.newCall_zip_2 _ _) (fun obj => F.args_object_init_3 obj _ _) F.entry_zip_new (zmade t1 t2 l1 l2 xs ys) ⟨m1,m2,?_⟩
  have y1 : (zA t1 s.heap l1).objs.size = s.heap.objs.size + 1 := Heap.size_push ..
  have y2 : (zB t1 t2 s.heap l1 l2).objs.size = s.heap.objs.size + 2 := by rw [Heap.size_push,y1]
  have y3 : (zC t1 t2 s.heap l1 l2).objs.size = s.heap.objs.size + 3 := by rw [Heap.size_push,y2]
  have y4 : (zD t1 t2 s.heap l1 l2).objs.size = s.heap.objs.size + 4 := by rw [Heap.size_push,y3]
  have up : ∀ {h : Heap} {o1 : Obj} {c : Addr} {o : Obj},h.get? c = some o → (h.push o1).get? c = some o := fun e => Heap.get?_push_of_some _ e
  have o5 : (zE t1 t2 s.heap l1 l2).get? (zD t1 t2 s.heap l1 l2).objs.size = some _ := Heap.get?_push_size _ rfl
  have o4 : (zE t1 t2 s.heap l1 l2).get? (zC t1 t2 s.heap l1 l2).objs.size = some _ := up (Heap.get?_push_size _ rfl)
  have o3 : (zE t1 t2 s.heap l1 l2).get? (zB t1 t2 s.heap l1 l2).objs.size = some _ := up (up (Heap.get?_push_size _ rfl))
  have o2 : (zE t1 t2 s.heap l1 l2).get? (zA t1 s.heap l1).objs.size = some _ := up (up (up (Heap.get?_push_size _ rfl)))
  have o1 : (zE t1 t2 s.heap l1 l2).get? s.heap.objs.size = some _ := up (up (up (up (Heap.get?_push_size _ rfl))))
  show _ ∧ _
  rw [y2,y3,y4] at o5
  rw [y3] at o4
  rw [y1,y2] at o3
  rw [y1] at o2
  rw [y4]
  exact ⟨⟨_,o5,rfl⟩,k _ ⟨o5,o3,⟨_,_,o4⟩,⟨_,o1,rfl,rfl⟩,⟨_,o2,rfl,rfl⟩⟩ fun c o e => up (up (up (up (up e))))⟩
end
section
variable {X : Cx} {pins : List (Addr × Obj)} {σ : St} {H : Hp} {s : Shared} {h' : Heap}
theorem Inv.turnedM {t' : Nat} {ch : List Addr} (I : Inv X pins σ H s) (hf : ∀ b ∈ ch,FpOk X pins H b) (k : ∀ b o,b ∉ ch → s.heap.get? b = some o → h'.get? b = some o) : Inv X pins σ H { s with heap := h',toks := t' } := by
  have far : ∀ b u,H b = some u → b ∉ ch := fun b u e z => by rw [(hf b z).1] at e; cases e
  refine I.step (g' := s.gens) (d' := s.drawn) (ch := ch) (fun b hb => ?_) (fun b o _ _ hc e _ => k b o hc e) (fun b o _ _ hc e _ => ⟨o.slots,k b o hc e⟩) (fun _ _ _ _ n => n)
    (fun b o hc e => ⟨o,k b o hc e⟩) (fun _ _ e => e) (fun _ _ _ e => e) (fun b ps e => ⟨#[],by rw [e]; simp⟩) (fun m hm => ?_) (fun b u e => ?_) I.bare
  · obtain ⟨_,f1,_,f3,f4,f5⟩ := hf b hb
    exact ⟨f3,f1,f4,f5⟩
  · obtain ⟨o,es,ep,ho,r⟩ := hm
    exact ⟨o,es,ep,k _ o (fun z => (hf _ z).2.1 rfl) ho,r⟩
  · refine (I.hok b u e).stay (fun c v hc q => k c v ?_ q) (fun _ q => q) fun _ _ q => q
    rcases hc with z | z
    · rw [z]; exact far b u e
    · exact far c _ z
theorem Inv.adopt {p : Addr} {o : HO} (I : Inv X pins σ H s) (f : FpOk X pins H p) (new : ObjOk X.prog X.w (upd H p o) s.heap p o) : Inv X pins σ (upd H p o) s := by
  obtain ⟨f0,f1,_,f3,f4,f5⟩ := f
  refine I.step (g' := s.gens) (d' := s.drawn) (t' := s.toks) (h' := s.heap) (ch := [p]) (fun b hb => ?_) (fun b o _ _ hc e _ => e) (fun b o _ _ hc e _ => ⟨o.slots,e⟩) (fun b _ hc _ n => ?_)
    (fun b o hc e => ⟨o,e⟩) (fun b xs e => ?_) (fun b xs _ e => ?_) (fun b ps e => ⟨#[],?_⟩) (fun m hm => hm) (fun b u e => ?_) I.bare
  · have e : b = p := by simpa using hb
    subst e
    exact ⟨f3,f1,f4,f5⟩
  · rw [upd_ne fun z => hc (by simp [z])]; exact n
  · rw [upd_ne (ne_of_none e f0)]; exact e
  · rw [upd_ne (ne_of_none e f0)]; exact e
  · rw [upd_ne (ne_of_none e f0),e]; simp
  · by_cases hb : b = p
    · subst hb; rw [upd_same] at e; cases e; exact new
    · rw [upd_ne hb] at e
      exact (I.hok b u e).stay (fun c v _ q => q) (fun c q => by rw [upd_ne (ne_of_none q f0)]; exact q) fun c xs q => by rw [upd_ne (ne_of_none q f0)]; exact q
noncomputable def SqX (K : PySem.W.Frag) (t : Bool) (H : Hp) (a : Addr) (xs : List V) : Prop := match t with
  | true => SqT K H a xs
  | false => SqL K H a xs
theorem Inv.seqX {t : Bool} {a : Addr} {xs : List V} (I : Inv X pins σ H s) (q : SqX X.K t H a xs) : ∃ its : List Value,Vals xs its ∧ SqA t s.heap a its.toArray ∧ xs.length ≤ sizeLine := by
  cases t with
  | false => obtain ⟨its,r,p,z⟩ := I.list q; exact ⟨its,r,p.isList,z⟩
  | true => obtain ⟨its,r,p,z⟩ := I.tuple q; exact ⟨its,r,p,z⟩
theorem Inv.seqX_inj {t : Bool} {a : Addr} {xs ys : List V} (I : Inv X pins σ H s) (q : SqX X.K t H a xs) (q' : SqX X.K t H a ys) : xs = ys := by
  cases t with
  | false => exact I.list_inj q q'
  | true => exact I.tuple_inj q q'
theorem Same.seqX {K : PySem.W.Frag} {t : Bool} {H H' : Hp} {a : Addr} {xs : List V} (g : Same H H') (q : SqX K t H a xs) : SqX K t H' a xs := by
  cases t with
  | false => exact g.seq q
  | true => exact g.seqT q
noncomputable def Itz (K : PySem.W.Frag) (t1 t2 : Bool) (a b : Addr) : It :=
  ⟨fun i H => ∃ xs ys x y,SqX K t1 H a xs ∧ SqX K t2 H b ys ∧ xs[i]? = some x ∧ ys[i]? = some y,
   fun i H v H' => ∃ p x y,v = .ref p ∧ H p = none ∧ H' = upd H p (.tup [x,y]) ∧ (∀ xs,SqX K t1 H a xs → xs[i]? = some x) ∧ ∀ ys,SqX K t2 H b ys → ys[i]? = some y,
   fun i H => ∃ xs ys,SqX K t1 H a xs ∧ SqX K t2 H b ys ∧ (ys.length ≤ i ∨ xs.length ≤ i)⟩
theorem turn_zip {P : Program} {w : World} {K : PySem.W.Frag} {es : List Expr} {x1 : Nat} {pos : Pos} {t1 t2 : Bool} {z TI TO i1 i2 a b : Addr} (D : Apart z TI TO i1 i2 a b) :
    Turn P w K (.Tuple es x1 pos) (Itz K t1 t2 a b) [z,TI,TO,i1,i2] z (fun i h => ZAt t1 t2 z TI TO i1 i2 a b i h .none) where
  mem := by simp
  obj := fun i h Z c hc => by
    obtain ⟨zz,ti,⟨u,v,to⟩,⟨o1,h1,_,d1⟩,⟨o2,h2,_,d2⟩⟩ := Z
    simp only [List.mem_cons,List.not_mem_nil,or_false] at hc
    rcases hc with rfl | rfl | rfl | rfl | rfl
    · exact ⟨_,zz,fun v q => by cases q⟩
    · exact ⟨_,ti,fun v q => by cases q⟩
    · exact ⟨_,to,fun v q => by cases q⟩
    · exact ⟨_,h1,fun v q => by rw [d1] at q; cases q⟩
    · exact ⟨_,h2,fun v q => by rw [d2] at q; cases q⟩
  keep := fun i h h' Z k => by
    obtain ⟨zz,ti,⟨u,v,to⟩,w1,w2⟩ := Z
    exact ⟨k _ (by simp) _ zz,k _ (by simp) _ ti,⟨u,v,k _ (by simp) _ to⟩,w1.at fun o e => k _ (by simp) o e,w2.at fun o e => k _ (by simp) o e⟩
  item := by
    intro X hP hw hK hc i pins s σ H E I hf Z hg
    subst hP hw hK
    obtain ⟨xs,ys,x,y,hq1,hq2,hx,hy⟩ := hg
    obtain ⟨its1,r1,p1,_⟩ := I.seqX hq1
    obtain ⟨its2,r2,p2,_⟩ := I.seqX hq2
    obtain ⟨u1,hu1,ru1⟩ := r1.get hx
    obtain ⟨u2,hu2,ru2⟩ := r2.get hy
    refine pn_item D Z p1 p2 (x := u1) (y := u2) (by simpa using hu1) (by simpa using hu2) fun g Z1 T1 k1 => ⟨_,rfl,?_⟩
    have zl : z ≠ s.heap.objs.size := Nat.ne_of_lt (Heap.lt_size Z.zz)
    obtain ⟨zz,ti,⟨v1,v2,to⟩,w1,w2⟩ := Z1
    obtain ⟨⟨dTIz,dTOz,d1z,d2z⟩,_⟩ := D.ne
    refine wpAny_letOwnedTupleGo_zip zz fun g' zz' m' => ?_
    have T2 : IsPair g' s.heap.objs.size u1 u2 := m'.extBut _ _ (Ne.symm zl) T1
    have I1 : Inv X pins σ H { s with heap := g' } := I.turnedM (t' := s.toks) (ch := [z,TI,TO,i1,i2]) hf fun c o hc e =>
      m'.extBut _ _ (fun q => hc (by simp [q])) (k1 c o (fun q => hc (by
        simp only [List.mem_cons,List.not_mem_nil,or_false] at q ⊢
        rcases q with q | q | q | q <;> simp [q])) e)
    have I2 : Inv X pins σ (upd H s.heap.objs.size (.tup [x,y])) { s with heap := g' } := I1.adopt (I.fpOk (Nat.le_refl _) I.fresh)
      ⟨by simp [sizeLine],[u1,u2],.cons ru1 (.cons ru2 .nil),⟨_,T2,rfl,_,rfl⟩⟩
    refine ⟨.ref s.heap.objs.size,_,I2,rfl,⟨_,x,y,rfl,I.fresh,rfl,fun xs' q => by rw [I.seqX_inj q hq1]; exact hx,fun ys' q => by rw [I.seqX_inj q hq2]; exact hy⟩,
      ⟨zz',m'.extBut _ _ dTIz ti,⟨v1,v2,m'.extBut _ _ dTOz to⟩,w1.at fun o e => m'.extBut _ _ d1z e,w2.at fun o e => m'.extBut _ _ d2z e⟩,fun c hc => ?_⟩
    rw [upd_ne]
    · exact (hf c hc).1
    · intro q
      obtain ⟨o,ho,_⟩ : ∃ o,s.heap.get? c = some o ∧ True := by
        obtain ⟨zz,ti,⟨u,v,to⟩,⟨o1,h1,_,d1⟩,⟨o2,h2,_,d2⟩⟩ := Z
        simp only [List.mem_cons,List.not_mem_nil,or_false] at hc
        rcases hc with rfl | rfl | rfl | rfl | rfl
        · exact ⟨_,zz,trivial⟩
        · exact ⟨_,ti,trivial⟩
        · exact ⟨_,to,trivial⟩
        · exact ⟨_,h1,trivial⟩
        · exact ⟨_,h2,trivial⟩
      exact absurd (Heap.lt_size ho) (by rw [q]; exact Nat.lt_irrefl _)
  done := by
    intro X hP hw hK hc i pins s σ H E I hf Z hg
    subst hP hw hK
    obtain ⟨xs,ys,hq1,hq2,hend⟩ := hg
    obtain ⟨its1,r1,p1,_⟩ := I.seqX hq1
    obtain ⟨its2,r2,p2,_⟩ := I.seqX hq2
    have n1 := r1.length
    have n2 := r2.length
    refine pn_end (I.ok.hd hc) D Z p1 p2 (hend.imp (fun q => by simp; omega) (fun q => by simp; omega)) fun g k1 => ⟨rfl,I.turnedM (t' := s.toks) (ch := [z,TI,TO,i1,i2]) hf fun c o hc e => k1 c o (fun q => hc (by
        simp only [List.mem_cons,List.not_mem_nil,or_false] at q ⊢
        rcases q with q | q | q | q <;> simp [q])) e⟩
  self := fun _ _ _ _ _ Z h => wpAny_pyIter_zip Z.zz h
noncomputable def iZip (K : PySem.W.Frag) (ta : TA) : TI := fun σ H R => ta σ H fun vs H1 => ∃ t1 t2 a b xs ys,vs = [.ref a,.ref b] ∧ SqX K t1 H1 a xs ∧ SqX K t2 H1 b ys ∧ R (Itz K t1 t2 a b) H1
theorem pi_zip (K : PySem.W.Frag) {e1 e2 : Expr} {es : List Expr} {x1 : Nat} {pos' : Pos} {ta : TA} {p pos : Pos} (hg : Gl X "zip") (hm : X.mg "zip" = none) (ha : PA X [e1,e2] ta) (hK : X.K = K := by rfl)
    (hs : starEach [e1,e2] X.env = [(false,eval e1 X.env),(false,eval e2 X.env)] := by rfl) (hs2 : starEach [e2] X.env = [(false,eval e2 X.env)] := by rfl) :
    PI X (.Tuple es x1 pos') (.Call (.Name "zip" p) [e1,e2] [] pos) (iZip K ta) := by
  subst hK
  intro pins s σ H R I h
  refine Call_ (ld_blt I hg hm boot_zip (PyProof.Rows.callWith_type1 (thn (ha pos pins s σ H _ I h) fun us s1 ⟨vs,H1,I1,r1,q1⟩ => ?_) (by rw [hs,hs2]) (by rw [hs2]; rfl)))
  obtain ⟨t1,t2,a,b,xs,ys,e,hq1,hq2,q⟩ := q1
  subst e
  cases r1 with
  | cons r rr =>
    cases rr with
    | cons r' rr =>
      cases rr
      cases r
      cases r'
      obtain ⟨its1,v1,p1,_⟩ := I1.seqX hq1
      obtain ⟨its2,v2,p2,_⟩ := I1.seqX hq2
      refine call_zz p1 p2 fun h' Z k => ?_
      have I2 : Inv X pins σ H1 { s1 with heap := h' } := I1.kept (t' := s1.toks) k
      have lt1 : a < s1.heap.objs.size := by obtain ⟨o,ho,_⟩ := p1; exact Heap.lt_size ho
      have lt2 : b < s1.heap.objs.size := by obtain ⟨o,ho,_⟩ := p2; exact Heap.lt_size ho
      have D : Apart (s1.heap.objs.size + 4) (s1.heap.objs.size + 2) (s1.heap.objs.size + 3) s1.heap.objs.size (s1.heap.objs.size + 1) a b := by
        have bad : ∀ {c : Addr} (n : Nat),c < s1.heap.objs.size → c ≠ s1.heap.objs.size + n := fun n h q => absurd (Nat.lt_of_lt_of_le h (Nat.le_add_right _ n)) (by rw [q]; exact Nat.lt_irrefl _)
        exact ⟨by simp,by simp [bad _ lt1,show a ≠ s1.heap.objs.size from bad 0 lt1],by simp [bad _ lt2,show b ≠ s1.heap.objs.size from bad 0 lt2]⟩
      refine wpAny_pyIter_zip Z.zz ⟨_,_,_,_,H1,rfl,I2,turn_zip D,Z,fun c hc => ?_,q⟩
      have hc' : s1.heap.objs.size ≤ c := by
        simp only [List.mem_cons,List.not_mem_nil,or_false] at hc
        rcases hc with rfl | rfl | rfl | rfl | rfl
        · exact Nat.le_add_right _ _
        · exact Nat.le_add_right _ _
        · exact Nat.le_add_right _ _
        · exact Nat.le_refl _
        · exact Nat.le_add_right _ _
      exact I1.fpOk hc' (I1.hok.fresh hc')
theorem comp_zip {K : PySem.W.Frag} {t1 t2 : Bool} {a b : Addr} {xs ys : List V} {ix : List (Option Nat)} {te : TE} {σ : St} {H1 : Hp} {Q : VK} (q1 : SqX K t1 H1 a xs) (q2 : SqX K t2 H1 b ys) (hz : xs.length ≤ sizeLine) {rest : St} (hst : cst ix σ = none :: none :: rest) (F : V → V → V)
    (he : ∀ (H' : Hp) (i : Nat) (x y : V),Same H1 H' → xs[i]? = some x → ys[i]? = some y → ∀ k : VK,k (F x y) H' → te (some x :: some y :: rest) H' k)
    (hQ : ∀ D H',H1 D = none → Same H1 H' → H' D = some (.lst (List.zipWith F xs ys)) → Q (.ref D) H') :
    CompK ix (gTup K 2 (gCons (gName 0) (gCons (gName 1) gNil))) tYes te σ Q (Itz K t1 t2 a b) H1 := by
  constructor
  intro D hD
  refine ⟨fun i m σ' H' => m = xs.length - i ∧ i ≤ min xs.length ys.length ∧ (∃ o o',σ' = o :: o' :: rest) ∧ Same H1 H' ∧ H' D = some (.lst ((List.zipWith F xs ys).take i)),⟨xs.length,by simp,Nat.zero_le _,⟨none,none,hst⟩,Same.new hD _,by rw [upd_same]; simp⟩,?_⟩
  rintro i m σ' H' ⟨rfl,hi,⟨o,o',rfl⟩,g,hl⟩
  by_cases hlt : i < xs.length ∧ i < ys.length
  · have hx : xs[i]? = some xs[i] := List.getElem?_eq_getElem hlt.1
    have hy : ys[i]? = some ys[i] := List.getElem?_eq_getElem hlt.2
    refine .inr ⟨⟨xs,ys,_,_,g.seqX q1,g.seqX q2,hx,hy⟩,?_⟩
    rintro v H2 ⟨p,x,y,rfl,hp,rfl,y1,y2⟩
    have ex := y1 xs (g.seqX q1)
    have ey := y2 ys (g.seqX q2)
    have g2 : Same H' (upd H' p (.tup [x,y])) := Same.new hp _
    have pD : D ≠ p := fun q => by rw [q,hp] at hl; cases hl
    refine ⟨p,[x,y],rfl,.inl (.inl upd_same),rfl,x,[y],rfl,y,[],rfl,rfl,?_⟩
    change te (some x :: some y :: rest) (upd H' p (.tup [x,y])) _
    refine he _ i x y (g.trans g2) ex ey _ ⟨_,g2 _ _ hl,?_,xs.length - (i + 1),by omega,rfl,by omega,⟨_,_,rfl⟩,?_,?_⟩
    · rw [List.length_take]; omega
    · exact Same.upd (g.trans g2) hD _
    · rw [upd_same,List.take_add_one]
      have e : (List.zipWith F xs ys)[i]? = some (F x y) := by rw [List.getElem?_zipWith,ex,ey]
      rw [e]; rfl
  · refine .inl ⟨⟨xs,ys,g.seqX q1,g.seqX q2,by omega⟩,hQ D H' hD g ?_⟩
    rw [hl,List.take_of_length_le]
    rw [List.length_zipWith]
    omega
end
end L2
namespace L2
open PySem PySem.Spec PyProof.Rows
theorem boot_enum : bootBuiltins "enumerate" = some (.type "enumerate") := by decide +kernel
section
variable {prog : Program} {w : World} {A : Around} {E : Value → Shared → Prop} {s : Shared}
theorem en_item {t : Bool} {e it l : Addr} {i : Nat} {items : Array Value} {x old : Value} {Q : Option Value → Shared → Prop} (he : IsEnum s.heap e it i old) (h1 : ItA t s.heap it l i) (h2 : SqA t s.heap l items) (hx : items[i]? = some x) (hne : e ≠ it)
    (k : ∀ h',IsEnumOut h' e it ((i : Int) + 1) x s.heap.objs.size → ItA t h' it l (i + 1) → h'.get? s.heap.objs.size = some { cls := .type "tuple",data := .seq #[.int i s.toks,x] } →
      (∀ b o,b ∉ [e,it] → s.heap.get? b = some o → h'.get? b = some o) → Q (some (.ref s.heap.objs.size)) { s with heap := h',toks := s.toks + 1 }) : wpAny (model prog w) A (pyNext (.ref e)) Q E s := by
  have ty : s.TypeIs (.ref e) "enumerate" := ⟨_,he,rfl⟩
  unfold pyNext
  refine wpAny_bind (wpAny_attempt (wpAny_callSpecial?_slot (name := Str.ofString "__next__") ty F.slot_enumerate_next (wpAny_call_entry F.slot_enumerate_next ty F.entry_enumerate_next ?_ (F.args_enumerate_next_1 _))))
  obtain ⟨hp,g,d,tk,os⟩ := s
  have el : e < hp.objs.size := Heap.lt_size he
  show wpAny _ _ (field (.ref e) 2 >>= _) _ _ _
  refine wpAny_bind (wpAny_field he rfl (x := Value.ref it) rfl ?_)
  refine wpAny_bind (nx_item h1 h2 hx fun g1 n1 m1 => ?_)
  replace m1 : Heap.SameBut it hp g1 := m1
  have e1 : IsEnum g1 e it i old := m1.extBut _ _ hne he
  show wpAny _ _ (field (.ref e) 3 >>= _) _ _ ⟨g1,g,d,tk,os⟩
  refine wpAny_bind (wpAny_field e1 rfl (x := rawInt i) rfl ?_)
  show wpAny _ _ (field (.ref e) 4 >>= _) _ _ ⟨g1,g,d,tk,os⟩
  refine wpAny_bind (wpAny_field e1 rfl (x := Value.none) rfl ?_)
  show wpAny _ _ (mkInt i >>= _) _ _ ⟨g1,g,d,tk,os⟩
  refine wpAny_bind (wpAny_mkInt (Q := _) ?_)
  show wpAny _ _ (setField (.ref e) 3 (rawInt ((i : Int) + 1)) >>= _) _ _ ⟨g1,g,d,tk + 1,os⟩
  refine wpAny_bind (wpAny_setField_rec e1 (by simp) fun g2 e2 m2 => ?_)
  replace m2 : Heap.SameBut e g1 g2 := m2
  replace e2 : IsEnum g2 e it ((i : Int) + 1) old := e2
  show wpAny _ _ (setField (.ref e) 4 .none >>= _) _ _ ⟨g2,g,d,tk + 1,os⟩
  refine wpAny_bind (wpAny_setField_rec e2 (by simp) fun g3 e3 m3 => ?_)
  replace m3 : Heap.SameBut e g2 g3 := m3
  replace e3 : IsEnum g3 e it ((i : Int) + 1) old := e3
  show wpAny _ _ (newTuple [.int i tk,x] >>= _) _ _ ⟨g3,g,d,tk + 1,os⟩
  refine wpAny_bind (wpAny_newTuple (Q := _) ?_)
  have sz : g3.objs.size = hp.objs.size := by rw [m3.1,m2.1,m1.1]
  have e4 : IsEnum (g3.push { cls := .type "tuple",data := .seq #[.int i tk,x] }) e it ((i : Int) + 1) old := Heap.get?_push_of_some _ e3
  have t4 : (g3.push { cls := .type "tuple",data := .seq #[.int i tk,x] }).get? hp.objs.size = some { cls := .type "tuple",data := .seq #[.int i tk,x] } := by rw [← sz]; exact Heap.get?_push_size _ rfl
  have up4 : ∀ b o,b ≠ e → b ≠ it → hp.get? b = some o → (g3.push { cls := .type "tuple",data := .seq #[.int i tk,x] }).get? b = some o := fun b o c1 c2 q => Heap.get?_push_of_some _ (m3.extBut _ _ c1 (m2.extBut _ _ c1 (m1.extBut _ _ c2 q)))
  have n4 : ItA t (g3.push { cls := .type "tuple",data := .seq #[.int i tk,x] }) it l (i + 1) := n1.at fun o q => Heap.get?_push_of_some _ (m3.extBut _ _ (Ne.symm hne) (m2.extBut _ _ (Ne.symm hne) q))
  rw [sz]
  generalize g3.push { cls := .type "tuple",data := .seq #[.int i tk,x] } = g4 at e4 t4 up4 n4
  show wpAny _ _ (Builtin.SmallTypes.ownedTupleIsFree (.ref e) >>= _) _ _ ⟨g4,g,d,tk + 1,os⟩
  refine wpAny_bind ?_
  unfold Builtin.SmallTypes.ownedTupleIsFree
  refine wpAny_bind (wpAny_field e4 rfl (x := Value.none) rfl (wpAny_pure (Q := _) ?_))
  simp only [if_true]
  refine wpAny_bind (wpAny_rule (Q := _) ?_)
  refine wpAny_bind (wpAny_field e4 rfl (x := old) rfl ?_)
  refine wpAny_bind (wpAny_setField_rec e4 (by simp) fun g5 e5 m5 => ?_)
  replace m5 : Heap.SameBut e g4 g5 := m5
  replace e5 : IsEnum g5 e it ((i : Int) + 1) x := e5
  show wpAny _ _ (Builtin.SmallTypes.ownedTupleHandOut (.ref e) (.ref hp.objs.size) >>= _) _ _ ⟨g5,g,d,tk + 1,os⟩
  refine wpAny_bind ?_
  unfold Builtin.SmallTypes.ownedTupleHandOut
  refine wpAny_bind (wpAny_setField_rec e5 (by simp) fun g6 e6 m6 => ?_)
  replace m6 : Heap.SameBut e g5 g6 := m6
  replace e6 : IsEnumOut g6 e it ((i : Int) + 1) x hp.objs.size := e6
  refine wpAny_setField_rec e6 (by simp) fun g7 e7 m7 => ?_
  replace m7 : Heap.SameBut e g6 g7 := m7
  replace e7 : IsEnumOut g7 e it ((i : Int) + 1) x hp.objs.size := e7
  have up : ∀ b o,b ≠ e → g4.get? b = some o → g7.get? b = some o := fun b o c1 q => m7.extBut _ _ c1 (m6.extBut _ _ c1 (m5.extBut _ _ c1 q))
  refine wpAny_bind (wpAny_letGo (wpAny_pure ⟨_,rfl,wpAny_pure (k g7 e7 (n4.at fun o q => up _ o (Ne.symm hne) q) (up _ _ (Nat.ne_of_gt el) t4) fun b o hb q => ?_)⟩))
  simp only [List.mem_cons,List.not_mem_nil,or_false,not_or] at hb
  exact up b o hb.1 (up4 b o hb.1 hb.2 q)
theorem en_end {t : Bool} {e it l : Addr} {i : Nat} {items : Array Value} {old : Value} {Q : Option Value → Shared → Prop} (hh : A.handled = none) (he : IsEnum s.heap e it i old) (h1 : ItA t s.heap it l i) (h2 : SqA t s.heap l items) (hx : items[i]? = none)
    (k : ∀ h',(∀ b o,b ∉ [e,it] → s.heap.get? b = some o → h'.get? b = some o) → Q none { s with heap := h' }) : wpAny (model prog w) A (pyNext (.ref e)) Q E s := by
  have ty : s.TypeIs (.ref e) "enumerate" := ⟨_,he,rfl⟩
  unfold pyNext
  refine wpAny_bind (wpAny_attempt (wpAny_callSpecial?_slot (name := Str.ofString "__next__") ty F.slot_enumerate_next (wpAny_call_entry F.slot_enumerate_next ty F.entry_enumerate_next ?_ (F.args_enumerate_next_1 _))))
  show wpAny _ _ (field (.ref e) 2 >>= _) _ _ _
  refine wpAny_bind (wpAny_field he rfl (x := Value.ref it) rfl ?_)
  refine wpAny_bind (nx_end hh h1 h2 hx fun h' x m ⟨u,hu,cu⟩ => ?_)
  refine wpAny_bind (wpAny_isInstance (T := "StopIteration") (b := true) ⟨u,hu,cu⟩ isSubtype_stop (wpAny_pure (k _ fun b o hb q => m b o (fun z => hb (by simp [z])) q)))
noncomputable abbrev eA (t : Bool) (h : Heap) (l : Addr) : Heap := h.push { cls := .type (if t then "tuple_iterator" else "list_iterator"),data := .fields #[.ref l,.int 0 0] }
noncomputable abbrev eB (t : Bool) (h : Heap) (l : Addr) : Heap := (eA t h l).push { cls := .type "enumerate",data := .fields #[.none,.bool false,.ref h.objs.size,rawInt 0,.none,.none] }
set_option maxRecDepth 100000 in
theorem emade1 (l : Addr) (items : Array Value) (n : Nat) (dct : Option Addr) (sl : Array (Option Value)) :
    Meets (Builtin.«enumerate.__new__» ⟨[.type "enumerate",.ref l],[]⟩) (fun _ R s => s.heap.get? l = some { cls := .type "tuple",dict := dct,data := .seq items n,slots := sl } ∧
      R (.ok (.ret (.ref (eA true s.heap l).objs.size))) { s with heap := eB true s.heap l }) :=
  .of_wp fun prog w A R s h => by
    obtain ⟨hp,g,d,tk,os⟩ := s
    obtain ⟨hl,h⟩ := h
    have hsub := sub_enumerate
    have hL : Heap.IsTuple (Shared.heap ⟨hp,g,d,tk,os⟩) l items := ⟨_,hl,rfl,n,rfl⟩
    wp_walk using AutoSeq1.wpAny_loadPart' hl
    refine wpAny_stack_any fun st => wpAny_pure ?_
    split
    · rename_i c _ _ _ _ _
      cases (c == Value.type "enumerate")
      · wp_walk using AutoSeq1.wpAny_loadPart' hl,wpAny_pyIter_tuple hL
        exact ⟨_,rfl,h⟩
      · wp_walk using AutoSeq1.wpAny_loadPart' hl,wpAny_pyIter_tuple hL
        exact ⟨_,rfl,h⟩
    · wp_walk using AutoSeq1.wpAny_loadPart' hl,wpAny_pyIter_tuple hL
      exact ⟨_,rfl,h⟩
theorem emade (t : Bool) (l : Addr) (items : Array Value) (n : Nat) (dct : Option Addr) (sl : Array (Option Value)) :
    Meets (Builtin.«enumerate.__new__» ⟨[.type "enumerate",.ref l],[]⟩) (fun _ R s => s.heap.get? l = some { cls := .type (if t then "tuple" else "list"),dict := dct,data := .seq items n,slots := sl } ∧
      R (.ok (.ret (.ref (eA t s.heap l).objs.size))) { s with heap := eB t s.heap l }) :=
  match t with
  | false => meets_enumerate_newL l items n dct sl
  | true => emade1 l items n dct sl
theorem call_en {t : Bool} {l : Addr} {items : Array Value} {Q : Value → Shared → Prop} (m : SqA t s.heap l items)
    (k : ∀ h',IsEnum h' (s.heap.objs.size + 1) s.heap.objs.size 0 .none → ItA t h' s.heap.objs.size l 0 → (∀ c o,s.heap.get? c = some o → h'.get? c = some o) → Q (.ref (s.heap.objs.size + 1)) { s with heap := h' }) :
    wpAny (model prog w) A (call (.type "enumerate") [.ref l]) Q E s := by
  obtain ⟨⟨c,dct,dt,sl⟩,hl,hc,n,hd⟩ := m
  replace hc : c = .type (if t then "tuple" else "list") := hc
  replace hd : dt = .seq items n := hd
  subst hc hd
  refine callType_new F.called_enumerate (by decide) (F.typeCall_enumerate_1 _) (F.newCall_enumerate_1 _) (fun obj => F.args_object_init_2 obj _) F.entry_enumerate_new (emade t l items n dct sl) ⟨hl,?_⟩
  have y1 : (eA t s.heap l).objs.size = s.heap.objs.size + 1 := Heap.size_push ..
  have o2 : (eB t s.heap l).get? (eA t s.heap l).objs.size = some _ := Heap.get?_push_size _ rfl
  have o1 : (eB t s.heap l).get? s.heap.objs.size = some _ := Heap.get?_push_of_some _ (Heap.get?_push_size _ rfl)
  show _ ∧ _
  rw [y1] at o2 ⊢
  exact ⟨⟨_,o2,rfl⟩,k _ o2 ⟨_,o1,rfl,rfl⟩ fun c o q => Heap.get?_push_of_some _ (Heap.get?_push_of_some _ q)⟩
end
section
variable {X : Cx} {pins : List (Addr × Obj)} {σ : St} {H : Hp} {s : Shared} {h' : Heap}
structure EAt (t : Bool) (e it l : Addr) (i : Nat) (h : Heap) : Prop where
  ee : ∃ old,IsEnum h e it (i : Int) old
  w1 : ItA t h it l i
noncomputable def Ite (K : PySem.W.Frag) (t : Bool) (a : Addr) : It :=
  ⟨fun i H => ∃ xs x,SqX K t H a xs ∧ xs[i]? = some x,
   fun i H v H' => ∃ p x,v = .ref p ∧ H p = none ∧ H' = upd H p (.tup [.int (i : Int),x]) ∧ ∀ xs,SqX K t H a xs → xs[i]? = some x,
   fun i H => ∃ xs,SqX K t H a xs ∧ xs.length ≤ i⟩
theorem turn_enum {P : Program} {w : World} {K : PySem.W.Frag} {es : List Expr} {x1 : Nat} {pos : Pos} {t : Bool} {e it a : Addr} (hne : e ≠ it) :
    Turn P w K (.Tuple es x1 pos) (Ite K t a) [e,it] e (fun i h => EAt t e it a i h) where
  mem := by simp
  obj := fun i h Z c hc => by
    obtain ⟨⟨old,ee⟩,⟨o1,h1,_,d1⟩⟩ := Z
    simp only [List.mem_cons,List.not_mem_nil,or_false] at hc
    rcases hc with rfl | rfl
    · exact ⟨_,ee,fun v q => by cases q⟩
    · exact ⟨_,h1,fun v q => by rw [d1] at q; cases q⟩
  keep := fun i h h' Z k => by
    obtain ⟨⟨old,ee⟩,w1⟩ := Z
    exact ⟨⟨old,k _ (by simp) _ ee⟩,w1.at fun o q => k _ (by simp) o q⟩
  item := by
    intro X hP hw hK hc i pins s σ H E I hf Z hg
    subst hP hw hK
    obtain ⟨xs,x,hq,hx⟩ := hg
    obtain ⟨its,r,p,_⟩ := I.seqX hq
    obtain ⟨u,hu,ru⟩ := r.get hx
    obtain ⟨⟨old,ee⟩,w1⟩ := Z
    refine en_item ee w1 p (x := u) (by simpa using hu) hne fun g e1 n1 t1 k1 => ⟨_,rfl,?_⟩
    have el : e ≠ s.heap.objs.size := Nat.ne_of_lt (Heap.lt_size ee)
    refine wpAny_letOwnedTupleGo_enum e1 fun g' e2 m' => ?_
    have t2 : g'.get? s.heap.objs.size = some { cls := .type "tuple",data := .seq #[.int i s.toks,u] } := m'.extBut _ _ (Ne.symm el) t1
    have I1 : Inv X pins σ H { s with heap := g',toks := s.toks + 1 } := I.turnedM (t' := s.toks + 1) (ch := [e,it]) hf fun c o hc q => m'.extBut _ _ (fun z => hc (by simp [z])) (k1 c o hc q)
    have I2 : Inv X pins σ (upd H s.heap.objs.size (.tup [.int (i : Int),x])) { s with heap := g',toks := s.toks + 1 } := I1.adopt (I.fpOk (Nat.le_refl _) I.fresh)
      ⟨by simp [sizeLine],[.int i s.toks,u],.cons ⟨_,rfl⟩ (.cons ru .nil),⟨_,t2,rfl,_,rfl⟩⟩
    refine ⟨.ref s.heap.objs.size,_,I2,rfl,⟨_,x,rfl,I.fresh,rfl,fun xs' q => by rw [I.seqX_inj q hq]; exact hx⟩,⟨⟨_,e2⟩,n1.at fun o q => m'.extBut _ _ (Ne.symm hne) q⟩,fun c hc => ?_⟩
    rw [upd_ne]
    · exact (hf c hc).1
    · intro q
      obtain ⟨o,ho⟩ : ∃ o,s.heap.get? c = some o := by
        obtain ⟨o1,h1,_,d1⟩ := w1
        simp only [List.mem_cons,List.not_mem_nil,or_false] at hc
        rcases hc with rfl | rfl
        · exact ⟨_,ee⟩
        · exact ⟨_,h1⟩
      exact absurd (Heap.lt_size ho) (by rw [q]; exact Nat.lt_irrefl _)
  done := by
    intro X hP hw hK hc i pins s σ H E I hf Z hg
    subst hP hw hK
    obtain ⟨xs,hq,hend⟩ := hg
    obtain ⟨its,r,p,_⟩ := I.seqX hq
    have n1 := r.length
    obtain ⟨⟨old,ee⟩,w1⟩ := Z
    exact en_end (I.ok.hd hc) ee w1 p (by simp; omega) fun g k1 => ⟨rfl,I.turnedM (t' := s.toks) (ch := [e,it]) hf fun c o hc q => k1 c o hc q⟩
  self := fun _ _ _ _ _ Z h => by
    obtain ⟨⟨old,ee⟩,_⟩ := Z
    exact wpAny_pyIter_enum ee h
noncomputable def iEnum (K : PySem.W.Frag) (ta : TA) : TI := fun σ H R => ta σ H fun vs H1 => ∃ t a xs,vs = [.ref a] ∧ SqX K t H1 a xs ∧ R (Ite K t a) H1
theorem pi_enum (K : PySem.W.Frag) {e1 : Expr} {es : List Expr} {x1 : Nat} {pos' : Pos} {ta : TA} {p pos : Pos} (hg : Gl X "enumerate") (hm : X.mg "enumerate" = none) (ha : PA X [e1] ta) (hK : X.K = K := by rfl)
    (hs : starEach [e1] X.env = [(false,eval e1 X.env)] := by rfl) : PI X (.Tuple es x1 pos') (.Call (.Name "enumerate" p) [e1] [] pos) (iEnum K ta) := by
  subst hK
  intro pins s σ H R I h
  refine Call_ (ld_blt I hg hm boot_enum (PyProof.Rows.callWith_type1 (thn (ha pos pins s σ H _ I h) fun us s1 ⟨vs,H1,I1,r1,q1⟩ => ?_) hs rfl))
  obtain ⟨t,a,xs,e,hq,q⟩ := q1
  subst e
  cases r1 with
  | cons r rr =>
    cases rr
    cases r
    obtain ⟨its,v1,p1,_⟩ := I1.seqX hq
    refine call_en p1 fun h' ee w1 k => ?_
    have I2 : Inv X pins σ H1 { s1 with heap := h' } := I1.kept (t' := s1.toks) k
    refine wpAny_pyIter_enum ee ⟨_,_,_,_,H1,rfl,I2,turn_enum (Nat.succ_ne_self _),⟨⟨_,ee⟩,w1⟩,fun c hc => ?_,q⟩
    have hc' : s1.heap.objs.size ≤ c := by
      simp only [List.mem_cons,List.not_mem_nil,or_false] at hc
      rcases hc with rfl | rfl
      · exact Nat.le_add_right _ _
      · exact Nat.le_refl _
    exact I1.fpOk hc' (I1.hok.fresh hc')
theorem comp_enum {K : PySem.W.Frag} {t : Bool} {a : Addr} {xs : List V} {ix : List (Option Nat)} {te : TE} {σ : St} {H1 : Hp} {Q : VK} (q1 : SqX K t H1 a xs) (hz : xs.length ≤ sizeLine) {rest : St} (hst : cst ix σ = none :: none :: rest) (F : Nat → V → V)
    (he : ∀ (H' : Hp) (i : Nat) (x : V),Same H1 H' → xs[i]? = some x → ∀ k : VK,(∀ H2,Same H' H2 → k (F i x) H2) → te (some (.int (i : Int)) :: some x :: rest) H' k)
    (hQ : ∀ D H',H1 D = none → Same H1 H' → H' D = some (.lst (xs.mapIdx F)) → Q (.ref D) H') :
    CompK ix (gTup K 2 (gCons (gName 0) (gCons (gName 1) gNil))) tYes te σ Q (Ite K t a) H1 := by
  constructor
  intro D hD
  refine ⟨fun i m σ' H' => m = xs.length - i ∧ i ≤ xs.length ∧ (∃ o o',σ' = o :: o' :: rest) ∧ Same H1 H' ∧ H' D = some (.lst ((xs.mapIdx F).take i)),⟨xs.length,by simp,Nat.zero_le _,⟨none,none,hst⟩,Same.new hD _,by rw [upd_same]; simp⟩,?_⟩
  rintro i m σ' H' ⟨rfl,hi,⟨o,o',rfl⟩,g,hl⟩
  by_cases hlt : i < xs.length
  · have hx : xs[i]? = some xs[i] := List.getElem?_eq_getElem hlt
    refine .inr ⟨⟨xs,_,g.seqX q1,hx⟩,?_⟩
    rintro v H2 ⟨p,x,rfl,hp,rfl,y1⟩
    have ex := y1 xs (g.seqX q1)
    have g2 : Same H' (upd H' p (.tup [.int (i : Int),x])) := Same.new hp _
    refine ⟨p,[.int (i : Int),x],rfl,.inl (.inl upd_same),rfl,_,[x],rfl,x,[],rfl,rfl,?_⟩
    change te (some (.int (i : Int)) :: some x :: rest) (upd H' p (.tup [.int (i : Int),x])) _
    refine he _ i x (g.trans g2) ex _ fun H3 g3 => ⟨_,g3 _ _ (g2 _ _ hl),?_,xs.length - (i + 1),by omega,rfl,by omega,⟨_,_,rfl⟩,?_,?_⟩
    · rw [List.length_take,List.length_mapIdx]; omega
    · exact Same.upd ((g.trans g2).trans g3) hD _
    · rw [upd_same,List.take_add_one]
      have e : (xs.mapIdx F)[i]? = some (F i x) := by rw [List.getElem?_mapIdx,ex]; rfl
      rw [e]; rfl
  · refine .inl ⟨⟨xs,g.seqX q1,by omega⟩,hQ D H' hD g ?_⟩
    rw [hl,List.take_of_length_le]
    rw [List.length_mapIdx]
    omega
theorem for_enum {K : PySem.W.Frag} {t : Bool} {a : Addr} {xs : List V} {g : TG} {tb : TS} {D : Ends} {σ : St} {H : Hp} (Pv : Nat → St → Hp → Prop) (h0 : Pv 0 σ H) (hsq : ∀ i σ' H',Pv i σ' H' → SqX K t H' a xs)
    (hs : ∀ (i : Nat) (x : V) (σ' : St) (H' : Hp) (p : Addr),xs[i]? = some x → Pv i σ' H' → H' p = none → g (.ref p) σ' (upd H' p (.tup [.int (i : Int),x])) fun σ2 H2 => tb { D with nx := Pv (i + 1),ct := Pv (i + 1),bk := D.nx } σ2 H2)
    (hd : ∀ σ' H',Pv xs.length σ' H' → D.nx σ' H') :
    ∃ W : Nat → Nat → St → Hp → Prop,(∃ m,W 0 m σ H) ∧ ∀ i m σ H,W i m σ H →
      ((Ite K t a).stop i H ∧ D.nx σ H) ∨ ((Ite K t a).go i H ∧ ∃ N : St → Hp → Prop,(∀ σ' H',N σ' H' → ∃ m',m' < m ∧ W (i + 1) m' σ' H') ∧ ∀ x H',(Ite K t a).yld i H x H' → g x σ H' fun σ2 H2 => tb { D with nx := N,ct := N,bk := D.nx } σ2 H2) := by
  refine ⟨fun i m σ' H' => m = xs.length - i ∧ i ≤ xs.length ∧ Pv i σ' H',⟨xs.length,by simp,Nat.zero_le _,h0⟩,?_⟩
  rintro i m σ' H' ⟨rfl,hi,pv⟩
  have q1 := hsq i σ' H' pv
  by_cases hlt : i < xs.length
  · have hx : xs[i]? = some xs[i] := List.getElem?_eq_getElem hlt
    refine .inr ⟨⟨xs,_,q1,hx⟩,Pv (i + 1),fun σ2 H2 p' => ⟨xs.length - (i + 1),by omega,rfl,by omega,p'⟩,?_⟩
    rintro v H2 ⟨p,x,rfl,hp,rfl,y1⟩
    exact hs i x σ' H' p (y1 xs q1) pv hp
  · have e : i = xs.length := by omega
    refine .inl ⟨⟨xs,q1,by omega⟩,hd σ' H' ?_⟩
    rw [← e]; exact pv
end
end L2
namespace L2
open PySem PySem.Spec PyProof.Rows
noncomputable def Itd (lo : Int) (n : Nat) : It := ⟨fun i _ => i < n,fun i H x H' => H' = H ∧ x = .int (lo - i),fun i _ => n ≤ i⟩
theorem turn_down {P : Program} {w : World} {K : PySem.W.Frag} {tg : Expr} (it : Addr) (lo : Int) (n : Nat) : Turn P w K tg (Itd lo n) [it] it (fun i h => IsRangeIter h it (lo + (i : Nat) * (-1)) ((n : Int) - (i : Nat)) (-1)) where
  mem := by simp
  obj := fun i h st b hb => by
    have e : b = it := by simpa using hb
    subst e
    exact ⟨_,st,fun v z => by
      have z' : Data.fields _ = Data.cell v := z
      cases z'⟩
  keep := fun i h h' st k => k it (by simp) _ st
  item := by
    intro X hP hw hK hc i pins s σ H E I hf st hg
    subst hP hw hK
    obtain ⟨f0,f1,f2,f3,f4,f5⟩ := hf it (by simp)
    have W := Walks.range (prog := X.prog) (w := X.w) (I.ok.hd hc) it lo (-1) n
    refine W.item i s _ _ hg st fun v h' tk hv st' kk => ?_
    obtain ⟨t,rfl⟩ := hv
    have I1 : Inv X pins σ H { s with heap := h',toks := tk } := I.turned (fun b o hb e => kk b o (by simpa using hb) e) f0 f1 f3 f4 f5
    refine ⟨_,rfl,go_of (s := { s with heap := h',toks := tk }) (n := "range_iterator") st' rfl rfl (by decide) ⟨.int (lo - i),H,I1,⟨t,?_⟩,⟨rfl,rfl⟩,st',fun b hb => (hf b hb).1⟩⟩
    rw [Int.mul_neg_one]; rfl
  done := by
    intro X hP hw hK hc i pins s σ H E I hf st hg
    subst hP hw hK
    obtain ⟨f0,f1,f2,f3,f4,f5⟩ := hf it (by simp)
    exact wpAny_pyNext_range_end (I.ok.hd hc) st (by have : n ≤ i := hg; omega) fun h' eb => ⟨rfl,I.turned (t' := s.toks) (fun b o hb e => eb b o hb e) f0 f1 f3 f4 f5⟩
  self := fun _ _ _ _ _ st h => wpAny_pyIter_rangeiter st h
theorem rangeSize_down (a b : Int) : Builtin.Range.rangeSize a b (-1) = if b < a then a - b else 0 := by
  unfold Builtin.Range.rangeSize
  simp only [show ¬ (-1 : Int) > 0 by decide,if_false,Int.neg_neg,Int.ediv_one]
  split <;> omega
theorem small_down {a b : Int} (ha : -(2 ^ 62) ≤ a) (ha' : a < 2 ^ 62) (hb : -(2 ^ 62) ≤ b) (hb' : b < 2 ^ 62) : Builtin.Range.small a b (-1) = true := by
  unfold Builtin.Range.small
  rw [rangeSize_down]
  simp only [Builtin.Range.rangeFitsLong,Bool.and_eq_true,Bool.or_eq_true,decide_eq_true_eq,beq_iff_eq,show ¬ (-1 : Int) > 0 by decide,if_false]
  split <;> omega
section
variable {X : Cx} {tg : Expr}
theorem down_it {pins : List (Addr × Obj)} {σ : St} {H : Hp} {s : Shared} {R : It → Hp → Prop} {E : Value → Shared → Prop} {lo hi : Int} {t u v : Tok} {tk : Nat} (I : Inv X pins σ H s) (h1 : -(2 ^ 62) ≤ lo) (h2 : lo < 2 ^ 62) (h3 : -(2 ^ 62) ≤ hi) (h4 : hi < 2 ^ 62)
    (q : R (Itd lo (lo - hi).toNat) H) : wpAny (model X.prog X.w) X.A (pyIter (.ref s.heap.objs.size)) (PIE X pins σ tg R) E { s with heap := s.heap.push { cls := .type "range",data := .fields #[.int lo t,.int hi u,.int (-1) v] },toks := tk } := by
  refine wpAny_pyIter_range (IsRange.new ..) (small_down h1 h2 h3 h4) ?_
  have I1 : Inv X pins σ H { s with heap := s.heap.push { cls := .type "range",data := .fields #[.int lo t,.int hi u,.int (-1) v] },toks := tk } := I.kept fun b o e => Heap.get?_push_of_some _ e
  refine ⟨(s.heap.push { cls := .type "range",data := .fields #[.int lo t,.int hi u,.int (-1) v] }).objs.size,[(s.heap.push { cls := .type "range",data := .fields #[.int lo t,.int hi u,.int (-1) v] }).objs.size],_,_,H,rfl,
    I1.kept (t' := tk) fun b o e => Heap.get?_push_of_some _ e,turn_down _ lo (lo - hi).toNat,?_,fun b hb => ?_,q⟩
  · have e1 : lo + ((0 : Nat) : Int) * (-1) = lo := by simp
    have e2 : (((lo - hi).toNat : Nat) : Int) - ((0 : Nat) : Int) = Builtin.Range.rangeSize lo hi (-1) := by rw [rangeSize_down]; split <;> omega
    show IsRangeIter _ _ (lo + ((0 : Nat) : Int) * (-1)) ((((lo - hi).toNat : Nat) : Int) - ((0 : Nat) : Int)) (-1)
    rw [e1,e2]
    exact Heap.get?_push_size _ rfl
  · have e : b = (s.heap.push { cls := .type "range",data := .fields #[.int lo t,.int hi u,.int (-1) v] }).objs.size := by simpa using hb
    subst e
    exact I1.fpOk (Nat.le_refl _) (I1.hok.fresh (Nat.le_refl _))
noncomputable def iRngD (ta : TA) : TI := fun σ H R => ta σ H fun vs H1 => ∃ i j : Int,vs = [.int i,.int j,.int (-1)] ∧ (-(2 ^ 62) ≤ i ∧ i < 2 ^ 62 ∧ -(2 ^ 62) ≤ j ∧ j < 2 ^ 62) ∧ R (Itd i (i - j).toNat) H1
theorem pi_rangeD {a b c : Expr} {ta : TA} {p pos : Pos} (hg : Gl X "range") (hm : X.mg "range" = none) (ha : PA X [a,b,c] ta) (hs : starEach [a,b,c] X.env = (false,eval a X.env) :: starEach [b,c] X.env := by rfl) (hs2 : (backTo pos (starEach [b,c] X.env)).any (·.1) = false := by rfl) :
    PI X tg (.Call (.Name "range" p) [a,b,c] [] pos) (iRngD ta) := by
  intro pins s σ H R I h
  refine Call_ (ld_blt I hg hm boot_range (PyProof.Rows.callWith_type1 (thn (ha pos pins s σ H _ I h) fun us s1 ⟨vs,H1,I1,r1,q1⟩ => ?_) hs hs2))
  obtain ⟨i,j,e,⟨q1,q2,q3,q4⟩,q⟩ := q1
  subst e
  cases r1 with
  | cons r rr =>
    cases rr with
    | cons r' rr =>
      cases rr with
      | cons r'' rr =>
        cases rr
        obtain ⟨t,rfl⟩ := r
        obtain ⟨t',rfl⟩ := r'
        obtain ⟨t'',rfl⟩ := r''
        exact call_range_3 (by decide) (down_it (tk := s1.toks) I1 q1 q2 q3 q4 q) (.inl (PyProof.noPylong_small (by omega)))
end
theorem for_down {lo : Int} {n : Nat} {g : TG} {tb : TS} {D : Ends} {σ : St} {H : Hp} (Pv : Nat → St → Hp → Prop) (h0 : Pv 0 σ H)
    (hs : ∀ i σ H,i < n → Pv i σ H → g (.int (lo - i)) σ H fun σ2 H2 => tb { D with nx := Pv (i + 1),ct := Pv (i + 1),bk := D.nx } σ2 H2) (hd : ∀ σ H,Pv n σ H → D.nx σ H) :
    ∃ W : Nat → Nat → St → Hp → Prop,(∃ m,W 0 m σ H) ∧ ∀ i m σ H,W i m σ H →
      ((Itd lo n).stop i H ∧ D.nx σ H) ∨ ((Itd lo n).go i H ∧ ∃ N : St → Hp → Prop,(∀ σ' H',N σ' H' → ∃ m',m' < m ∧ W (i + 1) m' σ' H') ∧ ∀ x H',(Itd lo n).yld i H x H' → g x σ H' fun σ2 H2 => tb { D with nx := N,ct := N,bk := D.nx } σ2 H2) := by
  refine ⟨fun i m σ H => m = n - i ∧ i ≤ n ∧ Pv i σ H,⟨n,by simp,Nat.zero_le _,h0⟩,?_⟩
  rintro i m σ H ⟨rfl,hi,p⟩
  by_cases hlt : i < n
  · refine .inr ⟨hlt,Pv (i + 1),fun σ' H' p' => ⟨n - (i + 1),by omega,rfl,hlt,p'⟩,fun x H' y => ?_⟩
    obtain ⟨e,y⟩ := y
    subst e y
    exact hs i σ _ hlt p
  · have e : i = n := by omega
    subst e
    exact .inl ⟨Nat.le_refl _,hd σ H p⟩
end L2
namespace L2
open PySem PySem.Spec PyProof.Rows
section
variable {X : Cx}
noncomputable def rMulW (K : PySem.W.Frag) : R2 := fun x y H Q => match x,y with
  | .int i,.int j => IntMulOk i j ∧ Q (.int (i * j)) H
  | .ref l,.int k => ∃ xs,SqT K H l xs ∧ 0 ≤ k ∧ k < 1000 ∧ xs.length * k.toNat ≤ 10000 ∧ (xs = [] ∨ k = 1 → Q (.ref l) H) ∧ (xs ≠ [] → k ≠ 1 → ∀ p,H p = none → Q (.ref p) (upd H p (.tup (List.replicate k.toNat xs).flatten)))
  | _,_ => False
end
end L2
namespace L2
open PySem PySem.Spec PyProof.Rows
theorem op_fdivB {X : Cx} : OpR X (binaryOp .FloorDiv) (rI (fun _ j => j ≠ 0 ∧ j.natAbs.log2 < 9000) fun i j => .int (i.fdiv j)) := opI fun _ _ _ _ _ _ _ hc q => floordiv_int hc.1 q (.inl (PyProof.noPylong_of_log2 hc.2))
section
variable {X : Cx}
end
end L2
namespace L2
open PySem PySem.Spec PyProof.Rows
end L2
namespace L2
open PySem PySem.Spec PyProof.Rows
section
variable {X : Cx}
theorem boot_any : bootBuiltins "any" = some (.builtin "any") := by decide +kernel
theorem v_any (hc : X.calm = true) : CallR X (.builtin "any") (fun xs H Q => ∃ (l : Addr) (bs : List Bool),xs = [.ref l] ∧ SqL X.K H l (bs.map V.bl) ∧ Q (.bl (bs.any id)) H) := by
  intro pins s σ H xs us Q I r h
  obtain ⟨l,bs,rfl,hl,q⟩ := h
  obtain ⟨u,rfl,ru⟩ := r.one
  cases ru
  obtain ⟨its,rv,pl,hz⟩ := I.list hl
  have eb := bools_of rv
  subst eb
  have hl' := pl.isList
  have hlt : l < s.heap.objs.size := by obtain ⟨_,e,_⟩ := hl'; exact Heap.lt_size e
  refine call_any_walk (wpAny_pyIter_list hl' ?_)
  refine ⟨s.heap.objs.size,[s.heap.objs.size,l],[s.heap.objs.size],(bs.map Value.bool).toArray.size,_,_,fun i => (bs[i]?).getD false,rfl,Walks.list (A := X.A.in1) (I.ok.hd hc) _ l (Nat.ne_of_lt hlt) (bs.map Value.bool).toArray,
    ⟨⟨_,Heap.get?_push_size _ rfl,rfl,rfl⟩,hl'.push _⟩,fun i v s' Q' E' hP hQ => ?_,fun h' tk hk => ?_⟩
  · have hP' : (bs.map Value.bool)[i]? = some v := by simpa using hP
    rw [List.getElem?_map] at hP'
    cases e : bs[i]? with
    | none => rw [e] at hP'; cases hP'
    | some b =>
      rw [e] at hP'
      cases hP'
      dsimp only at hQ
      rw [e] at hQ
      exact wpAny_truthy_bool hQ
  · have e2 : ((List.range (bs.map Value.bool).toArray.size).any fun i => (bs[i]?).getD false) = bs.any id := by
      rw [List.size_toArray,List.length_map]
      rw [Bool.eq_iff_iff,List.any_eq_true,List.any_eq_true]
      constructor
      · rintro ⟨i,hi,e⟩
        have hi' := List.mem_range.mp hi
        rw [List.getElem?_eq_getElem hi'] at e
        exact ⟨_,List.getElem_mem hi',e⟩
      · rintro ⟨x,hx,e⟩
        obtain ⟨i,hi,e'⟩ := List.mem_iff_getElem.mp hx
        exact ⟨i,List.mem_range.mpr hi,by rw [List.getElem?_eq_getElem hi,e']; exact e⟩
    have fin : EP X pins σ Q (.bool (bs.any id)) { s with heap := h',toks := tk } := ⟨.bl _,H,I.kept (kept_iter' hk),rfl,q⟩
    first | (rw [e2]; exact fin) | (simpa [e2] using fin)
theorem xany (K : PySem.W.Frag) (hc : X.calm = true) (hK : X.K = K := by rfl) : CallR X (.builtin "any") (fun xs H Q => ∃ (l : Addr) (bs : List Bool),xs = [.ref l] ∧ SqL K H l (bs.map V.bl) ∧ Q (.bl (bs.any id)) H) := by subst hK; exact v_any hc
theorem v_notin {k : Nat} (hr : Room k X.A) : OpR X (compareOp .NotIn) (rInV X.K not) := by
  intro pins s σ H x y v u Q I rx ry h
  obtain ⟨p,ns,t,rfl,hq,ty,q⟩ := h
  cases ry
  obtain ⟨its,r,pl,hz⟩ := I.list hq
  have hi := intsAre_of r
  refine SeqAt.notIn_listAt (eqIU x) pl.isList (fun w hw => ?_) ⟨.bl _,H,I,rfl,?_⟩
  · obtain ⟨n,t',rfl⟩ := mem_ints hi w (by simpa using hw)
    exact eqAt_I I hr rx ty n t'
  · rw [show its.toArray.any (eqIU x) = its.any (eqIU x) by simp,any_ints hi]
    exact q
theorem xnotin (K : PySem.W.Frag) {k : Nat} (hr : Room k X.A) (hK : X.K = K := by rfl) : OpR X (compareOp .NotIn) (rInV K not) := by subst hK; exact v_notin hr
end
end L2
namespace Rm
noncomputable def tk (b n : Int) : Int := if b = 0 then n else n % b
theorem tk_zero (n : Int) : tk 0 n = n := if_pos rfl
theorem tk_pos {b : Int} (h : b ≠ 0) (n : Int) : tk b n = n % b := if_neg h
theorem tk_tk (b n : Int) : tk b (tk b n) = tk b n := by
  unfold tk; split
  · rfl
  · exact Int.emod_emod_of_dvd _ (Int.dvd_refl b)
theorem tk_add_l (b x y : Int) : tk b (tk b x + y) = tk b (x + y) := by
  unfold tk; split
  · rfl
  · exact Int.emod_add_emod ..
theorem tk_add_r (b x y : Int) : tk b (x + tk b y) = tk b (x + y) := by
  rw [Int.add_comm,tk_add_l,Int.add_comm]
theorem tk_mul_r (b x y : Int) : tk b (x * tk b y) = tk b (x * y) := by
  unfold tk; split
  · rfl
  · rw [Int.mul_emod,Int.emod_emod_of_dvd _ (Int.dvd_refl b),← Int.mul_emod]
theorem tk_mul_l (b x y : Int) : tk b (tk b x * y) = tk b (x * y) := by
  rw [Int.mul_comm,tk_mul_r,Int.mul_comm]
theorem tk_congr_add {b x x' y y' : Int} (h : tk b x = tk b x') (h' : tk b y = tk b y') : tk b (x + y) = tk b (x' + y') := by
  rw [← tk_add_l,← tk_add_r,h,h',tk_add_r,tk_add_l]
noncomputable def S (rule : List Int) (f : Nat → Int) (n : Nat) : Nat → Int
  | 0 => 0
  | m + 1 => S rule f n m + rule.getD m 0 * f (n - 1 - m)
theorem S_congr {rule : List Int} {f g : Nat → Int} {n : Nat} : ∀ {m : Nat},(∀ k,k < m → f (n - 1 - k) = g (n - 1 - k)) → S rule f n m = S rule g n m
  | 0,_ => rfl
  | m + 1,h => by
    unfold S
    rw [S_congr fun k hk => h k (by omega),h m (by omega)]
theorem getD_map {f : Int → Int} (h0 : f 0 = 0) : ∀ (l : List Int) (k : Nat),(l.map f).getD k 0 = f (l.getD k 0)
  | [],k => by simp [h0]
  | x :: r,0 => by simp
  | x :: r,k + 1 => by
    have := getD_map h0 r k
    simpa using this
noncomputable def row (b : Int) (rule starts : List Int) : Nat → List Int
  | 0 => []
  | n + 1 => row b rule starts n ++ [if n < starts.length then starts.getD n 0 else tk b (S rule (fun i => (row b rule starts n).getD i 0) n rule.length)]
theorem row_len (b : Int) (rule starts : List Int) : ∀ n,(row b rule starts n).length = n
  | 0 => rfl
  | n + 1 => by simp [row,row_len b rule starts n]
noncomputable def at_ (b : Int) (rule starts : List Int) (n : Nat) : Int := (row b rule starts (n + 1)).getD n 0
theorem row_get (b : Int) (rule starts : List Int) : ∀ {n i : Nat},i < n → (row b rule starts n).getD i 0 = at_ b rule starts i
  | n + 1,i,h => by
    by_cases e : i = n
    · subst e; rfl
    · have hi : i < n := by omega
      have hl := row_len b rule starts n
      have := row_get b rule starts (n := n) (i := i) hi
      rw [← this]
      show (row b rule starts n ++ _).getD i 0 = _
      rw [List.getD_eq_getElem?_getD,List.getElem?_append_left (by omega),← List.getD_eq_getElem?_getD]
theorem at_val (b : Int) (rule starts : List Int) (n : Nat) : at_ b rule starts n = if n < starts.length then starts.getD n 0 else tk b (S rule (fun i => (row b rule starts n).getD i 0) n rule.length) := by
  unfold at_
  have hl := row_len b rule starts n
  show (row b rule starts n ++ _).getD n 0 = _
  rw [List.getD_eq_getElem?_getD,List.getElem?_append_right (by omega),hl]
  simp
theorem at_lt {b : Int} {rule starts : List Int} {n : Nat} (h : n < starts.length) : at_ b rule starts n = starts.getD n 0 := by
  rw [at_val,if_pos h]
theorem at_ge {b : Int} {rule starts : List Int} {n : Nat} (hl : rule.length = starts.length) (h : starts.length ≤ n) : at_ b rule starts n = tk b (S rule (at_ b rule starts) n rule.length) := by
  rw [at_val,if_neg (by omega)]
  congr 1
  refine S_congr fun k hk => row_get b rule starts (by omega)
theorem row_eq (b : Int) (rule starts : List Int) : ∀ n,row b rule starts n = (List.range n).map (at_ b rule starts)
  | 0 => rfl
  | n + 1 => by
    rw [List.range_succ,List.map_append,← row_eq b rule starts n]
    show _ ++ [_] = _ ++ [at_ b rule starts n]
    rw [at_val]
theorem row_succ (b : Int) (rule starts : List Int) (n : Nat) : row b rule starts (n + 1) = row b rule starts n ++ [at_ b rule starts n] := by
  rw [at_val]; rfl
theorem at_uniq {b : Int} {rule starts : List Int} (hl : rule.length = starts.length) {g : Nat → Int} (h1 : ∀ i,i < starts.length → g i = starts.getD i 0)
    (h2 : ∀ i,starts.length ≤ i → g i = tk b (S rule g i rule.length)) : ∀ n,at_ b rule starts n = g n := by
  intro n
  induction n using Nat.strongRecOn with
  | ind n ih =>
    by_cases h : n < starts.length
    · rw [at_lt h,h1 n h]
    · rw [at_ge hl (by omega),h2 n (by omega)]
      congr 1
      exact S_congr fun k hk => ih _ (by omega)
theorem row_starts {b : Int} {rule starts : List Int} : ∀ {n : Nat},n ≤ starts.length → row b rule starts n = starts.take n
  | 0,_ => by simp [row]
  | n + 1,h => by
    rw [row_succ,row_starts (by omega),at_lt (by omega),List.take_add_one,List.getD_eq_getElem?_getD,List.getElem?_eq_getElem (by omega)]
    rfl
noncomputable def Bd (n : Nat) (x : Int) : Prop := x.natAbs < 2 ^ n
theorem Bd.mono {m n : Nat} {x : Int} (h : Bd m x) (hmn : m ≤ n) : Bd n x := Nat.lt_of_lt_of_le h (Nat.pow_le_pow_right (by decide) hmn)
theorem Bd.mul {m n : Nat} {x y : Int} (h : Bd m x) (h' : Bd n y) : Bd (m + n) (x * y) := by
  unfold Bd at *
  rw [Int.natAbs_mul,Nat.pow_add]
  exact Nat.mul_lt_mul'' h h'
theorem Bd.add {n : Nat} {x y : Int} (h : Bd n x) (h' : Bd n y) : Bd (n + 1) (x + y) := by
  unfold Bd at *
  have := Int.natAbs_add_le x y
  rw [Nat.pow_succ]
  omega
theorem Bd.zero (n : Nat) : Bd n 0 := Nat.pow_pos (by decide)
theorem Bd.of {n : Nat} {x : Int} (h1 : -(2 ^ n) < x) (h2 : x < 2 ^ n) : Bd n x := by
  unfold Bd
  have e : ((2 ^ n : Nat) : Int) = (2 : Int) ^ n := by simp
  omega
theorem Bd.emod {n : Nat} {x b : Int} (hb : 0 < b) (h : Bd n b) : Bd n (x % b) := by
  unfold Bd at *
  have := Int.emod_nonneg x (show b ≠ 0 by omega)
  have := Int.emod_lt_of_pos x hb
  omega
theorem Bd.S {rule : List Int} {f : Nat → Int} {n a c : Nat} (hr : ∀ k,Bd a (rule.getD k 0)) : ∀ m : Nat,(∀ k,k < m → Bd c (f (n - 1 - k))) → Bd (a + c + m) (Rm.S rule f n m)
  | 0,_ => Bd.zero _
  | m + 1,h => by
    unfold Rm.S
    refine Bd.add (n := a + c + m) (Bd.S hr m fun k hk => h k (by omega)) (((hr m).mul (h m (by omega))).mono (by omega))
theorem getD_mem_or (l : List Int) (k : Nat) : l.getD k 0 = 0 ∨ l.getD k 0 ∈ l := by
  by_cases h : k < l.length
  · right
    rw [List.getD_eq_getElem?_getD,List.getElem?_eq_getElem h]
    exact List.getElem_mem h
  · left
    rw [List.getD_eq_getElem?_getD,List.getElem?_eq_none (by omega)]
    rfl
theorem Bd.getD {l : List Int} {n : Nat} (h : ∀ x ∈ l,Bd n x) (k : Nat) : Bd n (l.getD k 0) := by
  rcases getD_mem_or l k with e | e
  · rw [e]; exact .zero n
  · exact h _ e
theorem tk_bd {b x : Int} {n : Nat} (hb : 0 ≤ b) (hb' : Bd n b) (h : Bd n x) : Bd n (tk b x) := by
  unfold tk
  split
  · exact h
  · exact Bd.emod (by omega) hb'
theorem at_bd {b : Int} {rule starts : List Int} {a c : Nat} (hl : rule.length = starts.length) (hb : 0 ≤ b) (hb' : Bd c b) (hr : ∀ x ∈ rule,Bd a x) (hs : ∀ x ∈ starts,Bd c x) :
    ∀ n,Bd (c + n * (a + rule.length)) (at_ b rule starts n) := by
  intro n
  induction n using Nat.strongRecOn with
  | ind n ih =>
    by_cases h : n < starts.length
    · rw [at_lt h]
      exact (Bd.getD hs n).mono (by omega)
    · rw [at_ge hl (by omega)]
      by_cases h0 : rule.length = 0
      · rw [h0]
        exact tk_bd hb (hb'.mono (by omega)) (.zero _)
      · have hn : 0 < n := by omega
        have q := Bd.S (rule := rule) (f := at_ b rule starts) (n := n) (a := a) (c := c + (n - 1) * (a + rule.length)) (fun k => Bd.getD hr k) rule.length fun k hk => by
          refine (ih (n - 1 - k) (by omega)).mono ?_
          have : (n - 1 - k) * (a + rule.length) ≤ (n - 1) * (a + rule.length) := Nat.mul_le_mul_right _ (by omega)
          omega
        have e : n * (a + rule.length) = (n - 1) * (a + rule.length) + (a + rule.length) := by
          obtain ⟨m,rfl⟩ : ∃ m,n = m + 1 := ⟨n - 1,by omega⟩
          rw [Nat.add_sub_cancel,Nat.succ_mul]
        exact tk_bd hb (hb'.mono (by omega)) (q.mono (by omega))
theorem at_range {b : Int} {rule starts : List Int} (hl : rule.length = starts.length) (hb : 0 < b) (hs : ∀ x ∈ starts,0 ≤ x ∧ x < b) (n : Nat) : 0 ≤ at_ b rule starts n ∧ at_ b rule starts n < b := by
  by_cases h : n < starts.length
  · rw [at_lt h,List.getD_eq_getElem?_getD,List.getElem?_eq_getElem h]
    exact hs _ (List.getElem_mem h)
  · rw [at_ge hl (by omega),tk_pos (by omega)]
    exact ⟨Int.emod_nonneg _ (by omega),Int.emod_lt_of_pos _ hb⟩
end Rm
namespace Om
noncomputable def primesN : List Nat := [2,3,5,7,11,13,17,19,23,29,31,37,41,43,47,53,59,61,67,71,73,79,83,89,97,101,103,107,109,113,127,131,137,139,149,151,157,163,167,173,179,181,191,193,197,199,211,223,227,229,233,239,241,251,257,263,269,271,277,281,283,293,307,311,313,317,331,337,347,349,353,359,367,373,379,383,389,397,401,409,419,421,431,433,439,443,449,457,461,463,467,479,487,491,499,503,509,521,523,541,547,557,563,569,571,577,587,593,599,601,607,613,617,619,631,641,643,647,653,659,661,673,677,683,691,701,709,719,727,733,739,743,751,757,761,769,773,787,797,809,811,821,823,827,829,839,853,857,859,863,877,881,883,887,907,911,919,929,937,941,947,953,967,971,977,983,991,997]
noncomputable def chk (p : Nat) : Nat → Bool
  | 0 => true
  | a + 1 => (Nat.beq a 0 || Nat.beq ((Nat.pow a (p - 1)) % p) 1) && chk p a
set_option maxRecDepth 100000 in
theorem fermat_tab : (primesN.all fun p => chk p p) = true := by decide +kernel
theorem chk_of {p : Nat} : ∀ {n : Nat},chk p n = true → ∀ a,a < n → a ≠ 0 → a ^ (p - 1) % p = 1
  | n + 1,h,a,ha,h0 => by
    unfold chk at h
    rw [Bool.and_eq_true] at h
    by_cases e : a = n
    · subst e
      have h1 := h.1
      rw [Bool.or_eq_true] at h1
      rcases h1 with h1 | h1
      · exact absurd (Nat.eq_of_beq_eq_true h1) h0
      · exact Nat.eq_of_beq_eq_true h1
    · exact chk_of h.2 a (by omega) h0
theorem fermatN {p a : Nat} (hp : p ∈ primesN) (h0 : a ≠ 0) (h : a < p) : a ^ (p - 1) % p = 1 :=
  chk_of (List.all_eq_true.mp fermat_tab p hp) a h h0
theorem fermatI {p a : Int} {P : Nat} (hP : p = (P : Int)) (hp : P ∈ primesN) (h0 : 0 < a) (h : a < p) : a ^ (P - 1) % p = 1 := by
  obtain ⟨n,rfl⟩ : ∃ n : Nat,a = (n : Int) := ⟨a.toNat,by omega⟩
  subst hP
  have := fermatN hp (a := n) (by omega) (by omega)
  have e : ((n : Int) ^ (P - 1)) = ((n ^ (P - 1) : Nat) : Int) := by simp
  rw [e,← Int.natCast_emod,this]; rfl
theorem mod_mul {x y x' y' p : Int} (h : x % p = x' % p) (h' : y % p = y' % p) : (x * y) % p = (x' * y') % p := by
  rw [Int.mul_emod,h,h',← Int.mul_emod]
theorem mod_pow {x x' p : Int} (h : x % p = x' % p) : ∀ n : Nat,(x ^ n) % p = (x' ^ n) % p
  | 0 => by simp
  | n + 1 => by rw [Int.pow_succ,Int.pow_succ]; exact mod_mul (mod_pow h n) h
noncomputable def Keeps (p a : Int) (e : Nat) (power square : Int) (left : Nat) : Prop := (power * square ^ left) % p = (a ^ e) % p
theorem keeps_start (p a : Int) (e : Nat) : Keeps p a e 1 a e := by unfold Keeps; rw [Int.one_mul]
theorem pow_two_mul (x : Int) : ∀ n : Nat,(x * x) ^ n = x ^ (2 * n)
  | 0 => by simp
  | n + 1 => by
    rw [Int.pow_succ,pow_two_mul x n,show 2 * (n + 1) = 2 * n + 1 + 1 by omega,Int.pow_succ,Int.pow_succ,Int.mul_assoc]
theorem keeps_odd {p a : Int} {e : Nat} {power square : Int} {left : Nat} (h : Keeps p a e power square left) (ho : left % 2 = 1) : Keeps p a e (power * square % p) (square * square % p) (left / 2) := by
  unfold Keeps at *
  have h1 : (power * square % p) % p = (power * square) % p := Int.emod_emod_of_dvd _ (Int.dvd_refl p)
  have h2 := mod_pow (p := p) (x := square * square % p) (x' := square * square) (Int.emod_emod_of_dvd _ (Int.dvd_refl p)) (left / 2)
  rw [mod_mul h1 h2,← h,pow_two_mul,Int.mul_assoc]
  have e2 : left = 2 * (left / 2) + 1 := by omega
  conv => rhs; rw [e2,Int.pow_succ]
  rw [Int.mul_comm square]
theorem keeps_even {p a : Int} {e : Nat} {power square : Int} {left : Nat} (h : Keeps p a e power square left) (ho : ¬ left % 2 = 1) : Keeps p a e power (square * square % p) (left / 2) := by
  unfold Keeps at *
  have h2 := mod_pow (p := p) (x := square * square % p) (x' := square * square) (Int.emod_emod_of_dvd _ (Int.dvd_refl p)) (left / 2)
  rw [mod_mul rfl h2,← h,pow_two_mul]
  have e2 : left = 2 * (left / 2) := by omega
  conv => rhs; rw [e2]
theorem keeps_end {p a : Int} {e : Nat} {power square : Int} (h : Keeps p a e power square 0) : power % p = a ^ e % p := by
  unfold Keeps at h
  rwa [Int.pow_zero,Int.mul_one] at h
end Om
namespace Pm
open Rm
noncomputable def sm : Nat → (Nat → Int) → Int
  | 0,_ => 0
  | n + 1,f => sm n f + f n
theorem sm_congr {f g : Nat → Int} : ∀ {n : Nat},(∀ k,k < n → f k = g k) → sm n f = sm n g
  | 0,_ => rfl
  | n + 1,h => by rw [sm,sm,sm_congr fun k hk => h k (by omega),h n (by omega)]
theorem sm_zero : ∀ n : Nat,sm n (fun _ => 0) = 0
  | 0 => rfl
  | n + 1 => by rw [sm,sm_zero n]; rfl
theorem sm_none {f : Nat → Int} {n : Nat} (h : ∀ k,k < n → f k = 0) : sm n f = 0 := by rw [sm_congr h,sm_zero]
theorem sm_head (f : Nat → Int) : ∀ n : Nat,sm (n + 1) f = f 0 + sm n (fun i => f (i + 1))
  | 0 => by simp [sm]
  | n + 1 => by
    rw [sm,sm_head f n,sm,Int.add_assoc]
theorem sm_add (f g : Nat → Int) : ∀ n : Nat,sm n (fun k => f k + g k) = sm n f + sm n g
  | 0 => rfl
  | n + 1 => by rw [sm,sm,sm,sm_add f g n]; omega
theorem sm_mul (c : Int) (f : Nat → Int) : ∀ n : Nat,sm n (fun k => c * f k) = c * sm n f
  | 0 => by simp [sm]
  | n + 1 => by rw [sm,sm,sm_mul c f n,Int.mul_add]
theorem sm_more {f : Nat → Int} {m : Nat} : ∀ {n : Nat},m ≤ n → (∀ k,m ≤ k → k < n → f k = 0) → sm n f = sm m f
  | 0,h,_ => by rw [show m = 0 by omega]
  | n + 1,h,h0 => by
    by_cases e : m = n + 1
    · rw [e]
    · rw [sm,sm_more (n := n) (by omega) (fun k h1 h2 => h0 k h1 (by omega)),h0 n (by omega) (by omega),Int.add_zero]
theorem tk0 (b : Int) : tk b 0 = 0 := by unfold tk; split <;> simp
theorem tk_sm {b : Int} {f g : Nat → Int} : ∀ {n : Nat},(∀ k,k < n → tk b (f k) = tk b (g k)) → tk b (sm n f) = tk b (sm n g)
  | 0,_ => rfl
  | n + 1,h => by
    rw [sm,sm]
    exact tk_congr_add (tk_sm fun k hk => h k (by omega)) (h n (by omega))
theorem list_sum (f : Nat → Int) : ∀ n : Nat,((List.range n).map f).sum = sm n f
  | 0 => rfl
  | n + 1 => by rw [List.range_succ,List.map_append,List.sum_append,list_sum f n]; simp [sm]
noncomputable def cv : (Nat → Int) → (Nat → Int) → Nat → Int
  | f,g,0 => f 0 * g 0
  | f,g,k + 1 => f 0 * g (k + 1) + cv (fun i => f (i + 1)) g k
theorem cv_sm : ∀ (f g : Nat → Int) (k : Nat),cv f g k = sm (k + 1) (fun j => f j * g (k - j))
  | f,g,0 => by simp [cv,sm]
  | f,g,k + 1 => by
    rw [cv,cv_sm _ g k,sm_head (fun j => f j * g (k + 1 - j))]
    refine congrArg (_ + ·) (sm_congr fun j hj => ?_)
    rw [show k + 1 - (j + 1) = k - j by omega]
theorem cv_last : ∀ (f g : Nat → Int) (k : Nat),cv f g (k + 1) = cv f (fun i => g (i + 1)) k + f (k + 1) * g 0
  | f,g,0 => rfl
  | f,g,k + 1 => by
    rw [cv,cv_last (fun i => f (i + 1)) g k,cv,Int.add_assoc]
theorem cv_comm : ∀ (f g : Nat → Int) (k : Nat),cv f g k = cv g f k
  | f,g,0 => Int.mul_comm _ _
  | f,g,k + 1 => by
    rw [cv,cv_last,cv_comm (fun i => f (i + 1)) g k,Int.add_comm,Int.mul_comm]
theorem cv_congr {f f' g g' : Nat → Int} {k : Nat} (h : ∀ i,i ≤ k → f i = f' i) (h' : ∀ i,i ≤ k → g i = g' i) : cv f g k = cv f' g' k := by
  rw [cv_sm,cv_sm]
  exact sm_congr fun j hj => by rw [h j (by omega),h' _ (by omega)]
theorem cv_tk {b : Int} {f f' g g' : Nat → Int} {k : Nat} (h : ∀ i,i ≤ k → tk b (f i) = tk b (f' i)) (h' : ∀ i,i ≤ k → tk b (g i) = tk b (g' i)) : tk b (cv f g k) = tk b (cv f' g' k) := by
  rw [cv_sm,cv_sm]
  exact tk_sm fun j hj => by rw [← tk_mul_l,← tk_mul_r,h j (by omega),h' _ (by omega),tk_mul_r,tk_mul_l]
theorem cv_addl (f f' g : Nat → Int) (k : Nat) : cv (fun i => f i + f' i) g k = cv f g k + cv f' g k := by
  rw [cv_sm,cv_sm,cv_sm,← sm_add]
  exact sm_congr fun j _ => Int.add_mul ..
theorem cv_addr (f g g' : Nat → Int) (k : Nat) : cv f (fun i => g i + g' i) k = cv f g k + cv f g' k := by
  rw [cv_comm,cv_addl,cv_comm,cv_comm g']
theorem cv_mull (c : Int) (f g : Nat → Int) (k : Nat) : cv (fun i => c * f i) g k = c * cv f g k := by
  rw [cv_sm,cv_sm,← sm_mul]
  exact sm_congr fun j _ => Int.mul_assoc ..
theorem cv_assoc : ∀ (f g h : Nat → Int) (k : Nat),cv (cv f g) h k = cv f (cv g h) k
  | f,g,h,0 => by simp [cv,Int.mul_assoc]
  | f,g,h,k + 1 => by
    have e : (fun i => cv f g (i + 1)) = fun i => f 0 * (fun i => g (i + 1)) i + cv (fun i => f (i + 1)) g i := rfl
    rw [cv,e,cv_addl (fun i => f 0 * (fun i => g (i + 1)) i),cv_mull,cv_assoc (fun i => f (i + 1)) g h k,cv,cv,cv]
    rw [Int.mul_add,Int.mul_assoc]
    omega
theorem cv_zero {f g : Nat → Int} {k : Nat} (h : ∀ i,i ≤ k → f i = 0 ∨ g (k - i) = 0) : cv f g k = 0 := by
  rw [cv_sm]
  exact sm_none fun j hj => by rcases h j (by omega) with e | e <;> rw [e] <;> simp
noncomputable def co (p : List Int) (k : Nat) : Int := p.getD k 0
theorem co_nil (k : Nat) : co [] k = 0 := by simp [co]
theorem co_zero (x : Int) (r : List Int) : co (x :: r) 0 = x := by simp [co]
theorem co_succ (x : Int) (r : List Int) (k : Nat) : co (x :: r) (k + 1) = co r k := by simp [co]
theorem co_ge {p : List Int} {k : Nat} (h : p.length ≤ k) : co p k = 0 := by
  rw [co,List.getD_eq_getElem?_getD,List.getElem?_eq_none h]; rfl
theorem co_lt {p : List Int} {k : Nat} (h : k < p.length) : co p k = p[k] := by
  rw [co,List.getD_eq_getElem?_getD,List.getElem?_eq_getElem h]; rfl
theorem co_mem {p : List Int} {k : Nat} (h : k < p.length) : co p k ∈ p := by rw [co_lt h]; exact List.getElem_mem h
noncomputable def ofF (n : Nat) (f : Nat → Int) : List Int := (List.range n).map f
theorem ofF_len (n : Nat) (f : Nat → Int) : (ofF n f).length = n := by simp [ofF]
theorem co_ofF (n : Nat) (f : Nat → Int) (k : Nat) : co (ofF n f) k = if k < n then f k else 0 := by
  by_cases h : k < n
  · rw [if_pos h,co,ofF,List.getD_eq_getElem?_getD,List.getElem?_map,List.getElem?_range h]; rfl
  · rw [if_neg h,co_ge (by rw [ofF_len]; omega)]
theorem ofF_succ (n : Nat) (f : Nat → Int) : ofF (n + 1) f = ofF n f ++ [f n] := by
  rw [ofF,List.range_succ,List.map_append]; rfl
theorem ofF_co (p : List Int) : ofF p.length (co p) = p := by
  apply List.ext_getElem (by rw [ofF_len])
  intro i h1 h2
  simp only [ofF,List.getElem_map,List.getElem_range]
  exact co_lt h2
theorem co_ext {p q : List Int} (hl : p.length = q.length) (h : ∀ k,co p k = co q k) : p = q := by
  rw [← ofF_co p,← ofF_co q,hl]
  exact List.map_congr_left fun k _ => h k
theorem co_set (p : List Int) (i : Nat) (x : Int) (k : Nat) (hi : i < p.length) : co (p.set i x) k = if k = i then x else co p k := by
  unfold co
  rw [List.getD_eq_getElem?_getD,List.getElem?_set,List.getD_eq_getElem?_getD]
  by_cases e : i = k
  · subst e; simp [hi]
  · rw [if_neg e,if_neg (fun z => e z.symm)]
theorem co_map {f : Int → Int} (h : f 0 = 0) (p : List Int) (k : Nat) : co (p.map f) k = f (co p k) := getD_map h p k
theorem co_append (p q : List Int) (k : Nat) : co (p ++ q) k = if k < p.length then co p k else co q (k - p.length) := by
  unfold co
  by_cases h : k < p.length
  · rw [if_pos h,List.getD_eq_getElem?_getD,List.getElem?_append_left h,← List.getD_eq_getElem?_getD]
  · rw [if_neg h,List.getD_eq_getElem?_getD,List.getElem?_append_right (by omega),← List.getD_eq_getElem?_getD]
noncomputable def trim : List Int → List Int
  | [] => []
  | x :: r => if x = 0 ∧ trim r = [] then [] else x :: trim r
theorem co_trim : ∀ (p : List Int) (k : Nat),co (trim p) k = co p k
  | [],k => rfl
  | x :: r,k => by
    rw [trim]
    have ih := co_trim r
    by_cases h : x = 0 ∧ trim r = []
    · rw [if_pos h]
      rw [h.2] at ih
      cases k with
      | zero => rw [co_nil,co_zero,h.1]
      | succ k => rw [co_succ,← ih k,co_nil,co_nil]
    · rw [if_neg h]
      cases k with
      | zero => rw [co_zero,co_zero]
      | succ k => rw [co_succ,co_succ,ih k]
theorem trim_nil {p : List Int} : trim p = [] ↔ ∀ k,co p k = 0 := by
  constructor
  · intro h k; rw [← co_trim,h,co_nil]
  · intro h
    induction p with
    | nil => rfl
    | cons x r ih =>
      rw [trim,if_pos ⟨by have := h 0; rwa [co_zero] at this,ih fun k => by have := h (k + 1); rwa [co_succ] at this⟩]
theorem trim_ext : ∀ {p q : List Int},(∀ k,co p k = co q k) → trim p = trim q
  | [],q,h => by rw [show trim q = [] from trim_nil.mpr fun k => by rw [← h k,co_nil]]; rfl
  | x :: r,[],h => by rw [show trim (x :: r) = [] from trim_nil.mpr fun k => by rw [h k,co_nil]]; rfl
  | x :: r,y :: s,h => by
    have e1 := h 0
    rw [co_zero,co_zero] at e1
    have e2 : trim r = trim s := trim_ext fun k => by have := h (k + 1); rwa [co_succ,co_succ] at this
    rw [trim,trim,e1,e2]
theorem trim_trim (p : List Int) : trim (trim p) = trim p := trim_ext (co_trim p)
theorem trim_len_le : ∀ p : List Int,(trim p).length ≤ p.length
  | [] => Nat.le_refl _
  | x :: r => by
    have := trim_len_le r
    rw [trim]; split
    · simp
    · simp; omega
theorem trim_len_of : ∀ {p : List Int} {n : Nat},(∀ k,n ≤ k → co p k = 0) → (trim p).length ≤ n
  | [],n,_ => Nat.zero_le _
  | x :: r,0,h => by rw [trim_nil.mpr fun k => h k (Nat.zero_le _)]; exact Nat.le_refl 0
  | x :: r,n + 1,h => by
    have := trim_len_of (p := r) (n := n) fun k hk => by have := h (k + 1) (by omega); rwa [co_succ] at this
    rw [trim]; split
    · simp
    · simp; omega
theorem trim_zero (p : List Int) : trim (p ++ [0]) = trim p := trim_ext fun k => by
  rw [co_append]
  by_cases h : k < p.length
  · rw [if_pos h]
  · rw [if_neg h,co_ge (p := p) (by omega)]
    cases k - p.length with
    | zero => rfl
    | succ j => rw [co_succ,co_nil]
theorem trim_last : ∀ (p : List Int) {x : Int},x ≠ 0 → trim (p ++ [x]) = p ++ [x]
  | [],x,h => by simp [trim,h]
  | y :: r,x,h => by
    show trim (y :: (r ++ [x])) = _
    rw [trim,trim_last r h,if_neg (by simp)]; rfl
theorem trim_mem {p : List Int} {x : Int} (h : x ∈ trim p) : x ∈ p := by
  induction p with
  | nil => exact h
  | cons y r ih =>
    rw [trim] at h
    split at h
    · cases h
    · rcases List.mem_cons.mp h with rfl | h
      · exact List.mem_cons_self
      · exact List.mem_cons_of_mem _ (ih h)
structure Py (b : Int) (p : List Int) : Prop where
  tr : trim p = p
  nu : ∀ x ∈ p,tk b x = x
theorem Py.co {b : Int} {p : List Int} (h : Py b p) (k : Nat) : tk b (co p k) = co p k := by
  by_cases hk : k < p.length
  · exact h.nu _ (co_mem hk)
  · rw [co_ge (by omega),tk0]
theorem Py.ext {b : Int} {p q : List Int} (h : Py b p) (h' : Py b q) (e : ∀ k,tk b (Pm.co p k) = tk b (Pm.co q k)) : p = q := by
  rw [← h.tr,← h'.tr]
  exact trim_ext fun k => by rw [← h.co k,← h'.co k]; exact e k
theorem Py.of {b : Int} {p : List Int} (h : ∀ x ∈ p,tk b x = x) : Py b (trim p) := ⟨trim_trim p,fun x hx => h x (trim_mem hx)⟩
theorem Py.nil (b : Int) : Py b [] := ⟨rfl,fun _ h => nomatch h⟩
theorem mem_ofF {n : Nat} {f : Nat → Int} {x : Int} (h : x ∈ ofF n f) : ∃ k,k < n ∧ x = f k := by
  obtain ⟨k,hk,e⟩ := List.mem_map.mp h
  exact ⟨k,List.mem_range.mp hk,e.symm⟩
theorem Py.ofF (b : Int) (n : Nat) (f : Nat → Int) : Py b (trim (Pm.ofF n fun k => tk b (f k))) := Py.of fun x hx => by
  obtain ⟨k,_,rfl⟩ := mem_ofF hx
  exact tk_tk ..
noncomputable def add (b : Int) (p q : List Int) : List Int := trim (ofF (max p.length q.length) fun k => tk b (co p k + co q k))
noncomputable def mul (b : Int) (p q : List Int) : List Int := trim (ofF (p.length + q.length) fun k => tk b (cv (co p) (co q) k))
theorem add_co (b : Int) (p q : List Int) (k : Nat) : co (add b p q) k = tk b (co p k + co q k) := by
  rw [add,co_trim,co_ofF]
  split
  · rfl
  · rw [co_ge (p := p) (by omega),co_ge (p := q) (by omega),Int.add_zero,tk0]
theorem mul_co (b : Int) (p q : List Int) (k : Nat) : co (mul b p q) k = tk b (cv (co p) (co q) k) := by
  rw [mul,co_trim,co_ofF]
  split
  · rfl
  · rw [cv_zero,tk0]
    intro i hi
    by_cases h : i < p.length
    · exact .inr (co_ge (by omega))
    · exact .inl (co_ge (by omega))
noncomputable def W (f g : Nat → Int) (i k c : Nat) : Int := sm i (fun j => if j ≤ c then f j * g (c - j) else 0) + (if i ≤ c ∧ c - i < k then f i * g (c - i) else 0)
theorem W_end {f g : Nat → Int} {m c : Nat} (hf : ∀ k,m ≤ k → f k = 0) : W f g m 0 c = cv f g c := by
  unfold W
  rw [if_neg (by omega),Int.add_zero,cv_sm]
  by_cases h : m ≤ c + 1
  · rw [sm_more (n := c + 1) h fun k h1 _ => by rw [hf k h1,Int.zero_mul]]
    exact sm_congr fun j hj => if_pos (by omega)
  · rw [sm_more (m := c + 1) (n := m) (by omega) fun k h1 _ => if_neg (by omega)]
    exact sm_congr fun j hj => if_pos (by omega)
end Pm
namespace Pm
open Rm
theorem sm_swap (F : Nat → Nat → Int) (m : Nat) : ∀ n : Nat,sm m (fun k => sm n (fun j => F k j)) = sm n (fun j => sm m (fun k => F k j))
  | 0 => by simp only [sm]; exact sm_zero m
  | n + 1 => by
    simp only [sm]
    rw [sm_add,sm_swap F m n]
theorem S_sm (rule : List Int) (f : Nat → Int) (n : Nat) : ∀ m : Nat,S rule f n m = sm m (fun k => co rule k * f (n - 1 - k))
  | 0 => rfl
  | m + 1 => by rw [S,sm,S_sm rule f n m]; rfl
noncomputable def ks (p : List Int) (a : Nat → Int) (n : Nat) : Int := sm p.length (fun k => co p k * a (n + k))
theorem ks_rec {b : Int} {rule p : List Int} {a : Nat → Int} (ha : ∀ n,rule.length ≤ n → tk b (a n) = tk b (S rule a n rule.length)) {n : Nat} (hn : rule.length ≤ n) :
    tk b (ks p a n) = tk b (S rule (ks p a) n rule.length) := by
  have e1 : tk b (ks p a n) = tk b (sm p.length (fun k => co p k * sm rule.length (fun j => co rule j * a (n + k - 1 - j)))) := by
    refine tk_sm fun k _ => ?_
    rw [← tk_mul_r,ha (n + k) (by omega),tk_mul_r,S_sm]
  rw [e1,S_sm]
  congr 1
  have e2 : (fun k => co p k * sm rule.length (fun j => co rule j * a (n + k - 1 - j))) = fun k => sm rule.length (fun j => co rule j * (co p k * a (n + k - 1 - j))) := by
    funext k
    rw [← sm_mul]
    exact sm_congr fun j _ => Int.mul_left_comm ..
  rw [e2,sm_swap]
  refine sm_congr fun j hj => ?_
  rw [sm_mul]
  congr 1
  refine sm_congr fun k _ => ?_
  rw [show n - 1 - j + k = n + k - 1 - j by omega]
theorem ks_all {b : Int} {rule p : List Int} {a : Nat → Int} (ha : ∀ n,rule.length ≤ n → tk b (a n) = tk b (S rule a n rule.length)) (h0 : ∀ n,n < rule.length → tk b (ks p a n) = 0) :
    ∀ n,tk b (ks p a n) = 0 := by
  intro n
  induction n using Nat.strongRecOn with
  | ind n ih =>
    by_cases h : n < rule.length
    · exact h0 n h
    · rw [ks_rec ha (by omega),S_sm]
      have : tk b (sm rule.length fun k => co rule k * ks p a (n - 1 - k)) = tk b (sm rule.length fun _ => 0) := tk_sm fun k hk => by
        rw [← tk_mul_r,ih (n - 1 - k) (by omega),Int.mul_zero]
      rw [this,sm_zero,tk0]
noncomputable def ofRule (b : Int) (c : List Int) : List Int := ofF c.length (fun k => tk b (0 - co c (c.length - 1 - k))) ++ [1]
noncomputable def ruleOf (b : Int) (p : List Int) : List Int := ofF (p.length - 1) (fun k => tk b (0 - co p (p.length - 1 - 1 - k)))
theorem ofRule_len (b : Int) (c : List Int) : (ofRule b c).length = c.length + 1 := by simp [ofRule,ofF_len]
theorem neg_neg_tk (b x : Int) : tk b (0 - tk b (0 - x)) = tk b x := by
  have h : tk b (tk b (0 - x) + (0 - tk b (0 - x))) = tk b ((0 - x) + (0 - tk b (0 - x))) := tk_add_l ..
  have e1 : tk b (0 - x) + (0 - tk b (0 - x)) = 0 := by omega
  rw [e1] at h
  have h2 : tk b (tk b (0 - tk b (0 - x)) + (0 - x)) = tk b 0 := by rw [tk_add_l,Int.add_comm]; exact h.symm
  have h3 : tk b (tk b (0 - tk b (0 - x))) = tk b x := by
    have := tk_congr_add h2 (rfl : tk b x = tk b x)
    rw [show tk b (0 - tk b (0 - x)) + (0 - x) + x = tk b (0 - tk b (0 - x)) by omega,Int.zero_add] at this
    exact this
  rwa [tk_tk] at h3
theorem at_rec {b : Int} {rule starts : List Int} (hl : rule.length = starts.length) : ∀ n,rule.length ≤ n → tk b (at_ b rule starts n) = tk b (S rule (at_ b rule starts) n rule.length) := fun n hn => by
  rw [at_ge hl (by omega),tk_tk]
theorem Bd_sm {f : Nat → Int} {c : Nat} : ∀ n : Nat,(∀ k,k < n → Bd c (f k)) → Bd (c + n) (sm n f)
  | 0,_ => Bd.zero _
  | n + 1,h => by
    rw [sm]
    exact Bd.add (n := c + n) (Bd_sm n fun k hk => h k (by omega)) ((h n (by omega)).mono (by omega))
theorem Bd_co {p : List Int} {u : Nat} (h : ∀ x ∈ p,Bd u x) (k : Nat) : Bd u (co p k) := Bd.getD h k
theorem ofRule_bd {b : Int} {c : List Int} {u : Nat} (hb : 0 ≤ b) (hb1 : b < 1000) (hu : 10 ≤ u) (h : ∀ x ∈ c,Bd u x) : ∀ x ∈ ofRule b c,Bd u x := by
  intro x hx
  rcases List.mem_append.mp hx with hx | hx
  · obtain ⟨k,_,rfl⟩ := mem_ofF hx
    refine tk_bd hb ((Bd.of (n := 10) (by omega) (by omega)).mono (by omega)) ?_
    have := Bd_co h (c.length - 1 - k)
    unfold Bd at this ⊢
    rw [Int.zero_sub,Int.natAbs_neg]; exact this
  · rw [List.mem_singleton.mp hx]
    exact (Bd.of (n := 10) (by decide) (by decide)).mono hu
end Pm
namespace Pm
open Rm
theorem sm_single (x : Int) (j : Nat) : ∀ n : Nat,sm n (fun i => if i = j then x else 0) = if j < n then x else 0
  | 0 => by simp [sm]
  | n + 1 => by
    rw [sm,sm_single x j n]
    by_cases h : n = j
    · rw [if_pos h,if_neg (by omega),if_pos (by omega)]; omega
    · rw [if_neg h]
      by_cases h2 : j < n
      · rw [if_pos h2,if_pos (by omega)]; omega
      · rw [if_neg h2,if_neg (by omega)]; omega
theorem tk_sub_zero {b x y : Int} : tk b (x - y) = 0 ↔ tk b x = tk b y := by
  constructor
  · intro h
    have := tk_congr_add (b := b) (x := x - y) (x' := 0) (y := y) (y' := y) (by rw [h,tk0]) rfl
    rwa [show x - y + y = x by omega,Int.zero_add] at this
  · intro h
    have := tk_congr_add (b := b) (x := x) (x' := y) (y := -y) (y' := -y) h rfl
    rw [show x + -y = x - y by omega,show y + -y = 0 by omega,tk0] at this
    exact this
theorem cv_point (f : Int) (s : Nat) (g : Nat → Int) (k : Nat) : cv (fun i => if i = s then f else 0) g k = if s ≤ k then f * g (k - s) else 0 := by
  rw [cv_sm]
  have e : sm (k + 1) (fun j => (if j = s then f else 0) * g (k - j)) = sm (k + 1) (fun j => if j = s then f * g (k - s) else 0) := sm_congr fun j _ => by
    by_cases h : j = s
    · rw [if_pos h,if_pos h,h]
    · rw [if_neg h,if_neg h,Int.zero_mul]
  rw [e,sm_single]
  by_cases h : s ≤ k
  · rw [if_pos h,if_pos (by omega)]
  · rw [if_neg h,if_neg (by omega)]
structure Mon (m : List Int) : Prop where
  pos : 0 < m.length
  one : co m (m.length - 1) = 1
structure Div (b : Int) (p m q r : List Int) : Prop where
  qy : Py b q
  ry : Py b r
  short : r.length < m.length
  eq : ∀ k,tk b (cv (co q) (co m) k + co r k) = tk b (co p k)
theorem Div.uniq {b : Int} {p m q r q' r' : List Int} (hm : Mon m) (h : Div b p m q r) (h' : Div b p m q' r') : q = q' ∧ r = r' := by
  have hp := hm.pos
  have e1 : ∀ k,tk b (cv (fun i => co q i - co q' i) (co m) k + (co r k - co r' k)) = 0 := by
    intro k
    have e2 : cv (fun i => co q i - co q' i) (co m) k = cv (co q) (co m) k - cv (co q') (co m) k := by
      have := cv_addl (co q) (fun i => -1 * co q' i) (co m) k
      rw [cv_mull] at this
      have e3 : (fun i => co q i + -1 * co q' i) = fun i => co q i - co q' i := by funext i; omega
      rw [e3] at this
      omega
    rw [e2,show cv (co q) (co m) k - cv (co q') (co m) k + (co r k - co r' k) = (cv (co q) (co m) k + co r k) - (cv (co q') (co m) k + co r' k) by omega,tk_sub_zero,h.eq,h'.eq]
  have e4 : ∀ d j,q.length + q'.length ≤ j + d → tk b (co q j - co q' j) = 0 := by
    intro d
    induction d with
    | zero => intro j hj; rw [co_ge (by omega),co_ge (by omega)]; exact tk0 b
    | succ d ih =>
      intro j hj
      have e5 := e1 (j + (m.length - 1))
      have hs := h.short
      have hs' := h'.short
      rw [co_ge (p := r) (by omega),co_ge (p := r') (by omega),Int.sub_zero,Int.add_zero,cv_sm] at e5
      rw [← e5]
      have e6 : tk b (sm (j + (m.length - 1) + 1) fun i => (co q i - co q' i) * co m (j + (m.length - 1) - i)) = tk b (sm (j + (m.length - 1) + 1) fun i => if i = j then co q j - co q' j else 0) := tk_sm fun i hi => by
        by_cases c : i = j
        · rw [if_pos c,c,show j + (m.length - 1) - j = m.length - 1 by omega,hm.one,Int.mul_one]
        · rw [if_neg c]
          by_cases c2 : i < j
          · rw [co_ge (p := m) (by omega),Int.mul_zero]
          · rw [← tk_mul_l,ih i (by omega),Int.zero_mul]
      rw [e6,sm_single,if_pos (by omega)]
  have eq : q = q' := h.qy.ext h'.qy fun k => tk_sub_zero.mp (e4 (q.length + q'.length) k (by omega))
  refine ⟨eq,h.ry.ext h'.ry fun k => ?_⟩
  have e7 := e1 k
  rw [eq] at e7
  have e8 : (fun i => co q' i - co q' i) = fun _ => 0 := by funext i; omega
  rw [e8,cv_zero (fun _ _ => .inl rfl),Int.zero_add] at e7
  exact tk_sub_zero.mp e7
structure DivI (b : Int) (p m : List Int) (s : Nat) (o l : List Int) : Prop where
  eq : ∀ k,tk b (cv (co o) (co m) k + co l k) = tk b (co p k)
  zero : ∀ k,s + (m.length - 1) ≤ k → co l k = 0
  low : ∀ k,k < s → co o k = 0
  ol : o.length = p.length - (m.length - 1)
  ll : l.length = p.length
  on : ∀ k,tk b (co o k) = co o k
  ln : ∀ k,tk b (co l k) = co l k
theorem DivI.start {b : Int} {p m : List Int} (hp : ∀ k,tk b (co p k) = co p k) : DivI b p m (p.length - (m.length - 1)) (ofF (p.length - (m.length - 1)) fun _ => 0) p := by
  have z : ∀ k,co (ofF (p.length - (m.length - 1)) fun _ => 0) k = 0 := fun k => by rw [co_ofF]; split <;> rfl
  exact ⟨fun k => by rw [cv_zero fun i _ => .inl (z i),Int.zero_add],fun k hk => co_ge (by omega),fun k _ => z k,ofF_len _ _,rfl,fun k => by rw [z,tk0],hp⟩
noncomputable def lf (b f : Int) (s t : Nat) (l m : List Int) (k : Nat) : Int := if s ≤ k ∧ k < s + t then tk b (co l k - f * co m (k - s)) else co l k
theorem lf_zero (b f : Int) (s : Nat) (l m : List Int) (k : Nat) : lf b f s 0 l m k = co l k := if_neg (by omega)
theorem lf_step (b f : Int) (s t : Nat) (l m : List Int) (k : Nat) : lf b f s (t + 1) l m k = if k = s + t then tk b (lf b f s t l m k - f * co m t) else lf b f s t l m k := by
  unfold lf
  by_cases h : k = s + t
  · rw [if_pos h,if_pos (by omega),if_neg (by omega),show k - s = t by omega]
  · rw [if_neg h]
    by_cases h2 : s ≤ k ∧ k < s + t
    · rw [if_pos h2,if_pos (by omega)]
    · rw [if_neg h2,if_neg (by omega)]
theorem lf_all {b f : Int} {s : Nat} {l m : List Int} (hl : ∀ k,tk b (co l k) = co l k) (k : Nat) : lf b f s m.length l m k = tk b (co l k - (if s ≤ k then f * co m (k - s) else 0)) := by
  unfold lf
  by_cases h : s ≤ k
  · rw [if_pos h]
    by_cases h2 : k < s + m.length
    · rw [if_pos ⟨h,h2⟩]
    · rw [if_neg (by omega),co_ge (p := m) (by omega),Int.mul_zero,Int.sub_zero,hl]
  · rw [if_neg (by omega),if_neg h,Int.sub_zero,hl]
theorem DivI.step {b : Int} {p m o l l' : List Int} {s : Nat} (hm : Mon m) (h : DivI b p m (s + 1) o l) (hs : s < p.length - (m.length - 1)) (hl : l'.length = l.length) (e : ∀ k,co l' k = lf b (co l (s + (m.length - 1))) s m.length l m k) :
    DivI b p m s (o.set s (co l (s + (m.length - 1)))) l' := by
  have hp := hm.pos
  have ho := h.ol
  have eo : co (o.set s (co l (s + (m.length - 1)))) = fun k => co o k + (if k = s then co l (s + (m.length - 1)) else 0) := by
    funext k
    rw [co_set _ _ _ _ (by omega)]
    by_cases c : k = s
    · rw [if_pos c,if_pos c,c,h.low s (by omega),Int.zero_add]
    · rw [if_neg c,if_neg c,Int.add_zero]
  have el : ∀ k,co l' k = tk b (co l k - (if s ≤ k then co l (s + (m.length - 1)) * co m (k - s) else 0)) := fun k => by rw [e,lf_all h.ln]
  refine ⟨fun k => ?_,fun k hk => ?_,fun k hk => ?_,by rw [List.length_set,ho],by rw [hl,h.ll],fun k => ?_,fun k => by rw [el,tk_tk]⟩
  · rw [eo,cv_addl (co o),cv_point,el,tk_add_r,← h.eq k]
    congr 1; omega
  · rw [el,if_pos (by omega)]
    by_cases c : k = s + (m.length - 1)
    · rw [c,show s + (m.length - 1) - s = m.length - 1 by omega,hm.one,Int.mul_one,Int.sub_self,tk0]
    · rw [h.zero k (by omega),co_ge (p := m) (by omega),Int.mul_zero,Int.sub_zero,tk0]
  · rw [eo]; simp only; rw [h.low k (by omega),if_neg (by omega),Int.add_zero]
  · rw [co_set _ _ _ _ (by omega)]
    split
    · exact h.ln _
    · exact h.on _
theorem DivI.stop {b : Int} {p m o l : List Int} (hm : Mon m) (h : DivI b p m 0 o l) : Div b p m (trim o) (trim l) := by
  have hp := hm.pos
  have y : ∀ {x : List Int},(∀ k,tk b (co x k) = co x k) → Py b (trim x) := fun hx => Py.of fun z hz => by
    obtain ⟨k,hk,e⟩ := List.mem_iff_getElem.mp hz
    rw [← e,← co_lt hk]; exact hx k
  refine ⟨y h.on,y h.ln,?_,fun k => ?_⟩
  · have := trim_len_of (p := l) (n := m.length - 1) fun k hk => h.zero k (by omega)
    omega
  · rw [co_trim,← h.eq k]
    congr 2
    exact cv_congr (fun i _ => co_trim _ _) (fun _ _ => rfl)
end Pm
namespace Pm
open Rm
theorem sm_shift (g : Nat → Int) (j : Nat) : ∀ m : Nat,sm (j + m) (fun k => if j ≤ k then g (k - j) else 0) = sm m g
  | 0 => by
    rw [Nat.add_zero]
    exact sm_none fun k hk => if_neg (by omega)
  | m + 1 => by
    rw [← Nat.add_assoc,sm,sm,sm_shift g j m,if_pos (by omega),Nat.add_sub_cancel_left]
theorem ks_more (p : List Int) (a : Nat → Int) (n : Nat) {N : Nat} (h : p.length ≤ N) : sm N (fun k => co p k * a (n + k)) = ks p a n :=
  sm_more h fun k h1 _ => by rw [co_ge h1,Int.zero_mul]
theorem ks_tk {b : Int} {p q : List Int} {a : Nat → Int} (h : ∀ k,tk b (co p k) = tk b (co q k)) (n : Nat) : tk b (ks p a n) = tk b (ks q a n) := by
  rw [← ks_more p a n (Nat.le_max_left p.length q.length),← ks_more q a n (Nat.le_max_right p.length q.length)]
  exact tk_sm fun k _ => by rw [← tk_mul_l,h k,tk_mul_l]
theorem ks_add {b : Int} (p q : List Int) (a : Nat → Int) (n : Nat) : tk b (ks (add b p q) a n) = tk b (ks p a n + ks q a n) := by
  have hl : (add b p q).length ≤ max p.length q.length := by
    have := trim_len_le (ofF (max p.length q.length) fun k => tk b (co p k + co q k))
    rwa [ofF_len] at this
  rw [← ks_more _ a n hl,← ks_more p a n (Nat.le_max_left p.length q.length),← ks_more q a n (Nat.le_max_right p.length q.length),← sm_add]
  exact tk_sm fun k _ => by rw [add_co,tk_mul_l,Int.add_mul]
theorem ks_mul {b : Int} (p q : List Int) (a : Nat → Int) (n : Nat) : tk b (ks (mul b p q) a n) = tk b (ks p (ks q a) n) := by
  have hl : (mul b p q).length ≤ p.length + q.length := by
    have := trim_len_le (ofF (p.length + q.length) fun k => tk b (cv (co p) (co q) k))
    rwa [ofF_len] at this
  rw [← ks_more _ a n hl]
  have e1 : tk b (sm (p.length + q.length) fun k => co (mul b p q) k * a (n + k)) = tk b (sm (p.length + q.length) fun k => sm p.length fun j => co p j * (if j ≤ k then co q (k - j) * a (n + k) else 0)) := tk_sm fun k _ => by
    rw [mul_co,tk_mul_l,← W_end (m := p.length) fun j hj => co_ge hj,W,if_neg (by omega),Int.add_zero,Int.mul_comm,← sm_mul]
    congr 1
    refine sm_congr fun j _ => ?_
    by_cases h : j ≤ k
    · rw [if_pos h,if_pos h,Int.mul_comm,Int.mul_assoc]
    · rw [if_neg h,if_neg h,Int.mul_zero,Int.mul_zero]
  rw [e1,sm_swap]
  congr 1
  refine sm_congr fun j hj => ?_
  rw [sm_mul]
  congr 1
  have e2 : (fun k => if j ≤ k then co q (k - j) * a (n + k) else 0) = fun k => if j ≤ k then (fun i => co q i * a (n + j + i)) (k - j) else 0 := by
    funext k
    by_cases h : j ≤ k
    · rw [if_pos h,if_pos h]
      show _ = co q (k - j) * a (n + j + (k - j))
      rw [show n + j + (k - j) = n + k by omega]
    · rw [if_neg h,if_neg h]
  rw [e2,show p.length + q.length = j + (p.length - j + q.length) by omega]
  refine (sm_shift (fun i => co q i * a (n + j + i)) j _).trans ?_
  exact ks_more q a (n + j) (by omega)
theorem ks_zero {b : Int} {p : List Int} {a : Nat → Int} (h : ∀ n,tk b (a n) = 0) (n : Nat) : tk b (ks p a n) = 0 := by
  have : tk b (ks p a n) = tk b (sm p.length fun _ => 0) := tk_sm fun k _ => by rw [← tk_mul_r,h,Int.mul_zero]
  rw [this,sm_zero,tk0]
noncomputable def Kp (b : Int) (p : List Int) (a : Nat → Int) : Prop := ∀ n,tk b (ks p a n) = 0
theorem Kp.mulr {b : Int} {q : List Int} {a : Nat → Int} (h : Kp b q a) (p : List Int) : Kp b (mul b p q) a := fun n => by rw [ks_mul]; exact ks_zero h n
theorem Kp.congr {b : Int} {p q : List Int} {a : Nat → Int} (e : ∀ k,tk b (co p k) = tk b (co q k)) (h : Kp b p a) : Kp b q a := fun n => by rw [← ks_tk e]; exact h n
theorem Kp.ofRule {b : Int} {rule : List Int} {a : Nat → Int} (ha : ∀ n,rule.length ≤ n → tk b (a n) = tk b (S rule a n rule.length)) : Kp b (ofRule b rule) a := fun n => by
  unfold ks
  rw [ofRule_len,sm]
  have e1 : co (Pm.ofRule b rule) rule.length = 1 := by
    rw [Pm.ofRule,co_append,ofF_len,if_neg (by omega),Nat.sub_self]; rfl
  have e2 : tk b (sm rule.length fun k => co (Pm.ofRule b rule) k * a (n + k)) = tk b (sm rule.length fun k => -1 * (co rule (rule.length - 1 - k) * a (n + k))) := tk_sm fun k hk => by
    rw [Pm.ofRule,co_append,ofF_len,if_pos hk,co_ofF,if_pos hk,tk_mul_l,Int.zero_sub,Int.neg_mul,Int.neg_one_mul]
  have e3 : S rule a (n + rule.length) rule.length = sm rule.length fun k => co rule (rule.length - 1 - k) * a (n + k) := by
    rw [S_sm]
    have rev : ∀ (m : Nat) (f : Nat → Int),sm m f = sm m fun k => f (m - 1 - k) := by
      intro m
      induction m with
      | zero => intro f; rfl
      | succ m ih =>
        intro f
        rw [sm_head,sm,ih fun i => f (i + 1),Int.add_comm]
        have : m + 1 - 1 - m = 0 := by omega
        rw [this]
        congr 1
        exact sm_congr fun k hk => by rw [show m - 1 - k + 1 = m + 1 - 1 - k by omega]
    rw [rev]
    exact sm_congr fun k hk => by rw [show n + rule.length - 1 - (rule.length - 1 - k) = n + k by omega]
  rw [e1,Int.one_mul,← tk_add_l,e2,tk_add_l,sm_mul,← e3,← tk_add_r,ha (n + rule.length) (by omega),tk_add_r,Int.neg_one_mul,Int.add_left_neg,tk0]
theorem Div.kp {b : Int} {p m q r : List Int} {a : Nat → Int} (h : Div b p m q r) (hm : Kp b m a) : Kp b p a ↔ Kp b r a := by
  have e : ∀ n,tk b (ks p a n) = tk b (ks r a n) := fun n => by
    have e1 : ∀ k,tk b (co (Pm.add b (mul b q m) r) k) = tk b (co p k) := fun k => by rw [add_co,mul_co,tk_tk,tk_add_l]; exact h.eq k
    rw [← ks_tk e1,ks_add,← tk_add_l,hm.mulr q n,Int.zero_add]
  exact ⟨fun z n => by rw [← e]; exact z n,fun z n => by rw [e]; exact z n⟩
noncomputable def In2 (b : Int) (p q x : List Int) : Prop := ∃ u v,∀ k,tk b (co x k) = tk b (cv (co u) (co p) k + cv (co v) (co q) k)
theorem co_add0 (p q : List Int) (k : Nat) : co (add 0 p q) k = co p k + co q k := by rw [add_co,tk_zero]
theorem co_mul0 (p q : List Int) (k : Nat) : co (mul 0 p q) k = cv (co p) (co q) k := by rw [mul_co,tk_zero]
theorem In2.left (b : Int) (p q : List Int) : In2 b p q p := ⟨[1],[],fun k => by
  rw [cv_zero (f := co []) fun i _ => .inl (co_nil _),Int.add_zero,cv_sm,sm_more (m := 1) (by omega) fun j h1 _ => by rw [show co [1] j = 0 from co_ge (by simpa using h1),Int.zero_mul]]
  simp [sm,co_zero]⟩
theorem In2.swap {b : Int} {p q x : List Int} (h : In2 b p q x) : In2 b q p x := by
  obtain ⟨u,v,e⟩ := h
  exact ⟨v,u,fun k => by rw [e,Int.add_comm]⟩
theorem In2.trans {b : Int} {p q g s x : List Int} (hg : In2 b p q g) (hs : In2 b p q s) (h : In2 b g s x) : In2 b p q x := by
  obtain ⟨a,c,eg⟩ := hg
  obtain ⟨a',c',es⟩ := hs
  obtain ⟨u,v,e⟩ := h
  refine ⟨add 0 (mul 0 u a) (mul 0 v a'),add 0 (mul 0 u c) (mul 0 v c'),fun k => ?_⟩
  have e1 : tk b (cv (co u) (co g) k) = tk b (cv (co u) (fun i => cv (co a) (co p) i + cv (co c) (co q) i) k) := cv_tk (fun _ _ => rfl) fun i _ => eg i
  have e2 : tk b (cv (co v) (co s) k) = tk b (cv (co v) (fun i => cv (co a') (co p) i + cv (co c') (co q) i) k) := cv_tk (fun _ _ => rfl) fun i _ => es i
  rw [e,tk_congr_add e1 e2]
  congr 1
  have f1 : ∀ y z : List Int,co (add 0 (mul 0 u y) (mul 0 v z)) = fun i => cv (co u) (co y) i + cv (co v) (co z) i := fun y z => by
    funext i; rw [co_add0,co_mul0,co_mul0]
  rw [f1,f1,cv_addl (cv (co u) (co a)),cv_addl (cv (co u) (co c)),cv_addr,cv_addr,cv_assoc,cv_assoc,cv_assoc,cv_assoc]
  omega
theorem Div.in1 {b : Int} {p m q r : List Int} (h : Div b p m q r) : In2 b m r p := by
  refine ⟨q,[1],fun k => ?_⟩
  obtain ⟨u,v,e⟩ := In2.left b r []
  rw [← h.eq k]
  have : cv (co [1]) (co r) k = co r k := by
    rw [cv_sm,sm_more (m := 1) (by omega) fun j h1 _ => by rw [show co [1] j = 0 from co_ge (by simpa using h1),Int.zero_mul]]
    simp [sm,co_zero]
  rw [this]
theorem Div.in2 {b : Int} {p m q r : List Int} (h : Div b p m q r) : In2 b p m r := by
  refine ⟨[1],q.map (-1 * ·),fun k => ?_⟩
  have e1 : cv (co [1]) (co p) k = co p k := by
    rw [cv_sm,sm_more (m := 1) (by omega) fun j h1 _ => by rw [show co [1] j = 0 from co_ge (by simpa using h1),Int.zero_mul]]
    simp [sm,co_zero]
  have e2 : co (q.map (-1 * ·)) = fun i => -1 * co q i := by funext i; rw [co_map (by simp)]
  rw [e1,e2,cv_mull]
  have := tk_congr_add (h.eq k) (rfl : tk b (-1 * cv (co q) (co m) k) = tk b (-1 * cv (co q) (co m) k))
  rw [← this]
  congr 1; omega
structure Gcd (b : Int) (p q g : List Int) : Prop where
  py : Py b g
  mon : Mon g
  sum : In2 b p q g
  one : In2 b g [] p
  two : In2 b g [] q
theorem In2.dv {b : Int} {g p : List Int} (h : In2 b g [] p) : ∃ u,∀ k,tk b (co p k) = tk b (cv (co u) (co g) k) := by
  obtain ⟨u,v,e⟩ := h
  exact ⟨u,fun k => by rw [e,cv_zero (g := co []) fun i _ => .inr (co_nil _),Int.add_zero]⟩
end Pm
namespace Pm
open Rm
theorem last_split {p : List Int} (h : p ≠ []) : p = p.dropLast ++ [co p (p.length - 1)] := by
  have hp : 0 < p.length := List.length_pos_iff.mpr h
  conv => lhs; rw [← List.dropLast_concat_getLast h]
  congr 2
  rw [co_lt (by omega),List.getLast_eq_getElem]
theorem trim_of_last {p : List Int} (h : p ≠ []) (h0 : co p (p.length - 1) ≠ 0) : trim p = p := by
  have e := last_split h
  rw [e,trim_last _ h0]
theorem last_ne {p : List Int} (h : p ≠ []) (ht : trim p = p) : co p (p.length - 1) ≠ 0 := by
  intro z
  have e := last_split h
  rw [z] at e
  have e2 : trim p = trim p.dropLast := by
    conv => lhs; rw [e]
    exact trim_zero _
  have := trim_len_le p.dropLast
  rw [← e2,ht,List.length_dropLast] at this
  have hp : 0 < p.length := List.length_pos_iff.mpr h
  omega
structure MonOf (b : Int) (p m : List Int) : Prop where
  py : Py b m
  len : m.length = p.length
  mon : p ≠ [] → Mon m
  to : ∃ c,∀ k,tk b (co m k) = tk b (c * co p k)
  of : ∃ c,∀ k,tk b (co p k) = tk b (c * co m k)
theorem In2.scale {b : Int} {p m : List Int} (h : ∃ c,∀ k,tk b (co m k) = tk b (c * co p k)) (q : List Int) : In2 b p q m := by
  obtain ⟨c,e⟩ := h
  refine ⟨[c],[],fun k => ?_⟩
  rw [cv_zero (f := co []) fun i _ => .inl (co_nil _),Int.add_zero,e,cv_sm,sm_more (m := 1) (by omega) fun j h1 _ => by rw [show co [c] j = 0 from co_ge (by simpa using h1),Int.zero_mul]]
  simp [sm,co_zero]
theorem MonOf.nil (b : Int) : MonOf b [] [] := ⟨Py.nil b,rfl,fun h => absurd rfl h,⟨0,fun k => by rw [co_nil,Int.zero_mul]⟩,⟨0,fun k => by rw [co_nil,Int.zero_mul]⟩⟩
noncomputable def monicN (P : Nat) (p : List Int) : List Int := p.map fun x => x * (co p (p.length - 1)) ^ (P - 2) % (P : Int)
structure GcdI (b : Int) (p q g s : List Int) : Prop where
  gy : Py b g
  sy : Py b s
  gm : g ≠ [] → Mon g
  sm_ : s ≠ [] → Mon s
  some : s = [] → g ≠ []
  gi : In2 b p q g
  si : In2 b p q s
  pi : In2 b g s p
  qi : In2 b g s q
theorem GcdI.start {b : Int} {p q g s : List Int} (hg : MonOf b p g) (hs : MonOf b q s) (h : q = [] → p ≠ []) : GcdI b p q g s := by
  have lg := hg.len
  have ls := hs.len
  have pn : g ≠ [] → p ≠ [] := fun z e => z (List.eq_nil_of_length_eq_zero (by rw [lg,e]; rfl))
  have qn : s ≠ [] → q ≠ [] := fun z e => z (List.eq_nil_of_length_eq_zero (by rw [ls,e]; rfl))
  refine ⟨hg.py,hs.py,fun z => hg.mon (pn z),fun z => hs.mon (qn z),fun z e => ?_,In2.scale hg.to q,(In2.scale hs.to p).swap,In2.scale hg.of s,(In2.scale hs.of g).swap⟩
  have q0 : q = [] := List.eq_nil_of_length_eq_zero (by rw [← ls,z]; rfl)
  exact h q0 (List.eq_nil_of_length_eq_zero (by rw [← lg,e]; rfl))
theorem GcdI.step {b : Int} {p q g s o l m : List Int} (h : GcdI b p q g s) (hs : s ≠ []) (d : Div b g s o l) (hm : MonOf b l m) : GcdI b p q s m := by
  have lm := hm.len
  have ln : m ≠ [] → l ≠ [] := fun z e => z (List.eq_nil_of_length_eq_zero (by rw [lm,e]; rfl))
  have li : In2 b p q l := h.gi.trans h.si d.in2
  have gs : In2 b s m g := (In2.left b s m).trans (In2.scale hm.of s).swap d.in1
  refine ⟨h.sy,hm.py,h.sm_,fun z => hm.mon (ln z),fun _ => hs,h.si,li.trans li (In2.scale hm.to l),?_,?_⟩
  · exact gs.trans (In2.left b s m) h.pi
  · exact gs.trans (In2.left b s m) h.qi
theorem GcdI.stop {b : Int} {p q g s : List Int} (h : GcdI b p q g s) (hs : s = []) : Gcd b p q g := by
  subst hs
  exact ⟨h.gy,h.gm (h.some rfl),h.gi,h.pi,h.qi⟩
end Pm
namespace Pm
open Rm
theorem len_gt_of {p : List Int} {k : Nat} (h : co p k ≠ 0) : k < p.length := by
  by_cases c : k < p.length
  · exact c
  · exact absurd (co_ge (by omega)) h
theorem ofRule_mon (b : Int) (c : List Int) : Mon (ofRule b c) := ⟨by rw [ofRule_len]; omega,by
  rw [ofRule_len,ofRule,co_append,ofF_len,if_neg (by omega),show c.length + 1 - 1 - c.length = 0 by omega]; rfl⟩
theorem ruleOf_len (b : Int) (p : List Int) : (ruleOf b p).length = p.length - 1 := by rw [ruleOf,ofF_len]
theorem ofRule_ruleOf {b : Int} {w : List Int} (hw : ∀ k,tk b (co w k) = co w k) (hm : Mon w) : ofRule b (ruleOf b w) = w := by
  have hp := hm.pos
  refine co_ext (by rw [ofRule_len,ruleOf_len]; omega) fun k => ?_
  rw [ofRule,co_append,ofF_len,ruleOf_len]
  by_cases h : k < w.length - 1
  · rw [if_pos h,co_ofF,if_pos h,ruleOf,co_ofF,if_pos (by omega),neg_neg_tk,show w.length - 1 - 1 - (w.length - 1 - 1 - k) = k by omega,hw]
  · rw [if_neg h]
    by_cases c : k = w.length - 1
    · rw [c,Nat.sub_self,hm.one]; rfl
    · rw [co_ge (p := w) (by omega),co_ge]
      simp; omega
theorem ks_ofRule {b : Int} {rule : List Int} {a : Nat → Int} (n : Nat) : tk b (ks (ofRule b rule) a n) = tk b (a (n + rule.length) - S rule a (n + rule.length) rule.length) := by
  unfold ks
  rw [ofRule_len,sm]
  have e1 : co (ofRule b rule) rule.length = 1 := by
    rw [ofRule,co_append,ofF_len,if_neg (by omega),Nat.sub_self]; rfl
  have e2 : tk b (sm rule.length fun k => co (ofRule b rule) k * a (n + k)) = tk b (sm rule.length fun k => -1 * (co rule (rule.length - 1 - k) * a (n + k))) := tk_sm fun k hk => by
    rw [ofRule,co_append,ofF_len,if_pos hk,co_ofF,if_pos hk,tk_mul_l,Int.zero_sub,Int.neg_mul,Int.neg_one_mul]
  have e3 : S rule a (n + rule.length) rule.length = sm rule.length fun k => co rule (rule.length - 1 - k) * a (n + k) := by
    rw [S_sm]
    have rev : ∀ (m : Nat) (f : Nat → Int),sm m f = sm m fun k => f (m - 1 - k) := by
      intro m
      induction m with
      | zero => intro f; rfl
      | succ m ih =>
        intro f
        rw [sm_head,sm,ih fun i => f (i + 1),Int.add_comm]
        have : m + 1 - 1 - m = 0 := by omega
        rw [this]
        congr 1
        exact sm_congr fun k hk => by rw [show m - 1 - k + 1 = m + 1 - 1 - k by omega]
    rw [rev]
    exact sm_congr fun k hk => by rw [show n + rule.length - 1 - (rule.length - 1 - k) = n + k by omega]
  rw [e1,Int.one_mul,← tk_add_l,e2,tk_add_l,sm_mul,← e3]
  congr 1; omega
theorem Kp.rec {b : Int} {rule : List Int} {a : Nat → Int} (h : Kp b (Pm.ofRule b rule) a) : ∀ n,rule.length ≤ n → tk b (a n) = tk b (S rule a n rule.length) := fun n hn => by
  have := h (n - rule.length)
  rw [ks_ofRule,show n - rule.length + rule.length = n by omega] at this
  exact tk_sub_zero.mp this
theorem at_longer {b : Int} {w : List Int} {a : Nat → Int} (hw : ∀ k,tk b (co w k) = co w k) (hm : Mon w) (hk : Kp b w a) (ha : ∀ n,tk b (a n) = a n) {starts : List Int} (hl : starts.length = w.length - 1) (hs : ∀ i,i < starts.length → starts.getD i 0 = a i) (n : Nat) :
    at_ b (ruleOf b w) starts n = a n := by
  have lr := ruleOf_len b w
  rw [← ofRule_ruleOf hw hm] at hk
  refine at_uniq (by omega) (g := a) (fun i hi => (hs i hi).symm) (fun i hi => ?_) n
  rw [← ha i]
  exact hk.rec i (by omega)
end Pm
namespace Dm
open Pm
noncomputable def sg (m : Nat) : Int := if m % 2 = 0 then 1 else -1
theorem sg_succ (m : Nat) : sg (m + 1) = -sg m := by
  unfold sg
  by_cases h : m % 2 = 0
  · rw [if_pos h,if_neg (by omega)]
  · rw [if_neg h,if_pos (by omega)]; rfl
theorem sg_add (m n : Nat) : sg (m + n) = sg m * sg n := by
  induction n with
  | zero => simp [sg]
  | succ n ih => rw [← Nat.add_assoc,sg_succ,sg_succ,ih,Int.mul_neg]
theorem sg_sq (m : Nat) : sg m * sg m = 1 := by
  unfold sg; split <;> rfl
noncomputable def sk (c k : Nat) : Nat := if k < c then k else k + 1
theorem sk_ne (c k : Nat) : sk c k ≠ c := by unfold sk; split <;> omega
noncomputable def det : Nat → (Nat → Nat → Int) → Int
  | 0,_ => 1
  | n + 1,f => sm (n + 1) fun c => sg (n + c) * f n c * det n fun i k => f i (sk c k)
theorem det_congr : ∀ {n : Nat} {f g : Nat → Nat → Int},(∀ i k,i < n → k < n → f i k = g i k) → det n f = det n g
  | 0,_,_,_ => rfl
  | n + 1,f,g,h => by
    unfold det
    refine sm_congr fun c hc => ?_
    rw [h n c (by omega) hc,det_congr fun i k hi hk => h i (sk c k) (by omega) (by unfold sk; split <;> omega)]
noncomputable def setc (f : Nat → Nat → Int) (j : Nat) (u : Nat → Int) : Nat → Nat → Int := fun i k => if k = j then u i else f i k
noncomputable def setr (f : Nat → Nat → Int) (j : Nat) (u : Nat → Int) : Nat → Nat → Int := fun i k => if i = j then u k else f i k
theorem setc_self (f : Nat → Nat → Int) (j : Nat) (u : Nat → Int) (i : Nat) : setc f j u i j = u i := if_pos rfl
theorem setc_ne {f : Nat → Nat → Int} {j k : Nat} {u : Nat → Int} {i : Nat} (h : k ≠ j) : setc f j u i k = f i k := if_neg h
theorem sk_find {c j : Nat} (h : c ≠ j) : ∃ j',sk c j' = j ∧ (∀ k,sk c k = j → k = j') := by
  refine ⟨if j < c then j else j - 1,?_,fun k hk => ?_⟩
  · unfold sk; split <;> (try split) <;> omega
  · unfold sk at hk; split at hk <;> split <;> omega
theorem det_minor_setc {n c j : Nat} (f : Nat → Nat → Int) (u : Nat → Int) (h : c ≠ j) (hc : c < n + 1) (hj : j < n + 1) : ∃ j',j' < n ∧ ∀ u,(fun i k => setc f j u i (sk c k)) = setc (fun i k => f i (sk c k)) j' u := by
  obtain ⟨j',e1,e2⟩ := sk_find h
  refine ⟨j',?_,fun u => ?_⟩
  · unfold sk at e1; split at e1 <;> omega
  · funext i k
    unfold setc
    by_cases z : k = j'
    · rw [if_pos z,if_pos (by rw [z,e1])]
    · rw [if_neg z,if_neg fun w => z (e2 k w)]
theorem det_colLin : ∀ {n : Nat} (f : Nat → Nat → Int) {j : Nat} (_ : j < n) (a : Int) (u v : Nat → Int),det n (setc f j fun i => a * u i + v i) = a * det n (setc f j u) + det n (setc f j v)
  | 0,_,_,h,_,_,_ => absurd h (Nat.not_lt_zero _)
  | n + 1,f,j,hj,a,u,v => by
    unfold det
    rw [← sm_mul,← sm_add]
    refine sm_congr fun c hc => ?_
    by_cases e : c = j
    · subst e
      have m : ∀ w,(fun i k => setc f c w i (sk c k)) = fun i k => f i (sk c k) := fun w => by funext i k; exact setc_ne (sk_ne c k)
      rw [m,m,m,setc_self,setc_self,setc_self]
      rw [Int.mul_add,Int.add_mul]
      congr 1
      rw [show sg (n + c) * (a * u n) = a * (sg (n + c) * u n) from Int.mul_left_comm ..,Int.mul_assoc a]
    · obtain ⟨j',hj',m⟩ := det_minor_setc f u e hc hj
      rw [m,m,m,det_colLin _ hj',setc_ne e,setc_ne e,setc_ne e,Int.mul_add]
      congr 1
      exact Int.mul_left_comm ..
theorem det_colAdj : ∀ {n : Nat} {f : Nat → Nat → Int} {j : Nat},j + 1 < n → (∀ i,i < n → f i j = f i (j + 1)) → det n f = 0
  | 0,_,_,h,_ => absurd h (Nat.not_lt_zero _)
  | n + 1,f,j,hj,h => by
    unfold det
    have e : sm (n + 1) (fun c => sg (n + c) * f n c * det n fun i k => f i (sk c k)) = sm (n + 1) (fun c => (if c = j then sg (n + j) * f n j * det n (fun i k => f i (sk j k)) else 0) + (if c = j + 1 then -(sg (n + j) * f n j * det n (fun i k => f i (sk j k))) else 0)) := sm_congr fun c hc => by
      by_cases e1 : c = j
      · rw [if_pos e1,if_neg (by omega),e1,Int.add_zero]
      · by_cases e2 : c = j + 1
        · rw [if_neg e1,if_pos e2,e2,Int.zero_add,← h n (by omega),show n + (j + 1) = n + j + 1 by omega,sg_succ]
          have : det n (fun i k => f i (sk (j + 1) k)) = det n (fun i k => f i (sk j k)) := det_congr fun i k hi hk => by
            by_cases z : k = j
            · subst z
              rw [show sk (k + 1) k = k by unfold sk; rw [if_pos (by omega)],show sk k k = k + 1 by unfold sk; rw [if_neg (by omega)],h i (by omega)]
            · rw [show sk (j + 1) k = sk j k by unfold sk; split <;> split <;> omega]
          rw [this,Int.neg_mul,Int.neg_mul]
        · rw [if_neg e1,if_neg e2,Int.add_zero]
          have : det n (fun i k => f i (sk c k)) = 0 := by
            by_cases z : j + 1 < c
            · exact det_colAdj (j := j) (by omega) fun i hi => by rw [show sk c j = j by unfold sk; rw [if_pos (by omega)],show sk c (j + 1) = j + 1 by unfold sk; rw [if_pos (by omega)]]; exact h i (by omega)
            · exact det_colAdj (j := j - 1) (by omega) fun i hi => by rw [show sk c (j - 1) = j by unfold sk; rw [if_neg (by omega)]; omega,show sk c (j - 1 + 1) = j + 1 by unfold sk; rw [if_neg (by omega)]; omega]; exact h i (by omega)
          rw [this,Int.mul_zero]
    rw [e,sm_add]
    have s1 : ∀ (x : Int) (t N : Nat),t < N → sm N (fun c => if c = t then x else 0) = x := fun x t N ht => by rw [sm_single,if_pos ht]
    rw [s1 _ _ _ (by omega),s1 _ _ _ hj]; omega
noncomputable def sw (j i : Nat) : Nat := if i = j then j + 1 else if i = j + 1 then j else i
theorem setc_same (f : Nat → Nat → Int) (j : Nat) : setc f j (fun i => f i j) = f := by
  funext i k; unfold setc; split
  · rename_i h; rw [h]
  · rfl
theorem det_colSwap {n : Nat} (f : Nat → Nat → Int) {j : Nat} (hj : j + 1 < n) : det n (fun i k => f i (sw j k)) = -det n f := by
  let D := fun (x y : Nat → Int) => det n (setc (setc f j x) (j + 1) y)
  have z : ∀ x,D x x = 0 := fun x => det_colAdj hj fun i _ => by
    rw [setc_ne (by omega),setc_self,setc_self]
  have l2 : ∀ x y y',D x (fun i => 1 * y i + y' i) = 1 * D x y + D x y' := fun x y y' => det_colLin _ hj 1 y y'
  have cm : ∀ x y,setc (setc f j x) (j + 1) y = setc (setc f (j + 1) y) j x := fun x y => by
    funext i k; unfold setc; split <;> (try split) <;> first | rfl | omega
  have l1 : ∀ x x' y,D (fun i => 1 * x i + x' i) y = 1 * D x y + D x' y := fun x x' y => by
    show det n _ = 1 * det n _ + det n _
    rw [cm,cm,cm]; exact det_colLin _ (by omega) 1 x x'
  have a := z fun i => 1 * f i j + f i (j + 1)
  rw [l1,l2,l2,z,z] at a
  have e1 : D (fun i => f i j) (fun i => f i (j + 1)) = det n f := by
    show det n _ = _
    rw [setc_same f j,setc_same]
  have e2 : D (fun i => f i (j + 1)) (fun i => f i j) = det n (fun i k => f i (sw j k)) := det_congr fun i k _ _ => by
    unfold setc sw
    by_cases c1 : k = j + 1
    · rw [if_pos c1,if_neg (by omega),if_pos c1]
    · rw [if_neg c1]
      by_cases c2 : k = j
      · rw [if_pos c2,if_pos c2]
      · rw [if_neg c2,if_neg c2,if_neg c1]
  rw [e1,e2] at a
  omega
noncomputable def mv (h m k : Nat) : Nat := if k < h then k else if k < m then k + 1 else if k = m then h else k
theorem mv_step {h m : Nat} (hm : h < m) (k : Nat) : mv h m k = sw h (mv (h + 1) m k) := by
  unfold mv sw
  repeat' split
  all_goals omega
theorem det_colMove {n : Nat} : ∀ (d : Nat) (f : Nat → Nat → Int) {h m : Nat},m = h + d → m < n → det n (fun i k => f i (mv h m k)) = sg d * det n f
  | 0,f,h,m,e,hm => by
    have : det n (fun i k => f i (mv h m k)) = det n f := det_congr fun i k _ _ => by
      rw [show mv h m k = k by unfold mv; split <;> (try split) <;> (try split) <;> omega]
    rw [this]; simp [sg]
  | d + 1,f,h,m,e,hm => by
    have e1 : (fun i k => f i (mv h m k)) = fun i k => (fun i k => f i (sw h k)) i (mv (h + 1) m k) := by
      funext i k; rw [mv_step (by omega)]
    rw [e1,det_colMove d (fun i k => f i (sw h k)) (by omega) hm,det_colSwap f (by omega),sg_succ,Int.mul_neg,Int.neg_mul]
theorem det_colEq {n : Nat} {f : Nat → Nat → Int} {a b : Nat} (hab : a < b) (hb : b < n) (h : ∀ i,i < n → f i a = f i b) : det n f = 0 := by
  have e := det_colMove (n := n) (b - 1 - a) f (h := a) (m := b - 1) (by omega) (by omega)
  have z : det n (fun i k => f i (mv a (b - 1) k)) = 0 := det_colAdj (j := b - 1) (by omega) fun i hi => by
    rw [show mv a (b - 1) (b - 1) = a by unfold mv; rw [if_neg (by omega),if_neg (by omega),if_pos rfl],show mv a (b - 1) (b - 1 + 1) = b by unfold mv; rw [if_neg (by omega),if_neg (by omega),if_neg (by omega)]; omega]
    exact h i hi
  rw [z] at e
  have s := sg_sq (b - 1 - a)
  have : sg (b - 1 - a) * (sg (b - 1 - a) * det n f) = det n f := by rw [← Int.mul_assoc,s,Int.one_mul]
  rw [← e,Int.mul_zero] at this
  exact this.symm
theorem det_rowLin : ∀ {n : Nat} (f : Nat → Nat → Int) {j : Nat} (_ : j < n) (a : Int) (u v : Nat → Int),det n (setr f j fun i => a * u i + v i) = a * det n (setr f j u) + det n (setr f j v)
  | 0,_,_,h,_,_,_ => absurd h (Nat.not_lt_zero _)
  | n + 1,f,j,hj,a,u,v => by
    unfold det
    rw [← sm_mul,← sm_add]
    refine sm_congr fun c hc => ?_
    by_cases e : j = n
    · subst e
      have m : ∀ w,det j (fun i k => setr f j w i (sk c k)) = det j (fun i k => f i (sk c k)) := fun w => det_congr fun i k hi _ => if_neg (by omega)
      rw [m,m,m]
      show sg (j + c) * (if j = j then _ else _) * _ = a * (sg (j + c) * (if j = j then _ else _) * _) + sg (j + c) * (if j = j then _ else _) * _
      rw [if_pos rfl,if_pos rfl,if_pos rfl,Int.mul_add,Int.add_mul]
      congr 1
      rw [show sg (j + c) * (a * u c) = a * (sg (j + c) * u c) from Int.mul_left_comm ..,Int.mul_assoc a]
    · have m : ∀ w : Nat → Int,(fun i k => setr f j w i (sk c k)) = setr (fun i k => f i (sk c k)) j fun k => w (sk c k) := fun w => by funext i k; rfl
      have r : ∀ w : Nat → Int,setr f j w n c = f n c := fun w => if_neg (fun z => e z.symm)
      rw [m,m,m,r,r,r,det_rowLin (fun i k => f i (sk c k)) (by omega) a (fun k => u (sk c k)) (fun k => v (sk c k)),Int.mul_add]
      congr 1
      exact Int.mul_left_comm ..
theorem tri (T : Nat → Nat → Int) : ∀ N : Nat,sm (N + 1) (fun c => sm N (fun c' => T c c')) = sm (N + 1) (fun b => sm b (fun a => T b a + T a (b - 1)))
  | 0 => by simp [sm]
  | N + 1 => by
    have ih := tri T N
    rw [sm,show (fun c => sm (N + 1) fun c' => T c c') = fun c => sm N (fun c' => T c c') + T c N from rfl,sm_add,ih]
    conv => rhs; rw [sm]
    rw [sm_add,Nat.add_sub_cancel]
    have e : (fun c' => T (N + 1) c') = T (N + 1) := rfl
    rw [e]
    omega
theorem sk_sk {a b : Nat} (h : a < b) (k : Nat) : sk b (sk a k) = sk a (sk (b - 1) k) := by
  unfold sk
  repeat' split
  all_goals omega
theorem det_rowAdj : ∀ {n : Nat} {f : Nat → Nat → Int} {j : Nat},j + 1 < n → (∀ k,k < n → f j k = f (j + 1) k) → det n f = 0
  | 0,_,_,h,_ => absurd h (Nat.not_lt_zero _)
  | 1,_,_,h,_ => absurd h (by omega)
  | n + 2,f,j,hj,h => by
    by_cases e : j = n
    · subst e
      have e1 : det (j + 2) f = sm (j + 1 + 1) fun c => sm (j + 1) fun c' => sg (j + 1 + c) * f (j + 1) c * (sg (j + c') * f j (sk c c') * det j fun i k => f i (sk c (sk c' k))) := by
        show sm (j + 1 + 1) _ = _
        refine sm_congr fun c _ => ?_
        rw [show det (j + 1) (fun i k => f i (sk c k)) = sm (j + 1) fun c' => sg (j + c') * f j (sk c c') * det j fun i k => f i (sk c (sk c' k)) from rfl,← sm_mul]
      rw [e1,tri]
      refine sm_none fun b hb => sm_none fun a ha => ?_
      have f1 : sk b a = a := by unfold sk; rw [if_pos ha]
      have f2 : sk a (b - 1) = b := by unfold sk; rw [if_neg (by omega)]; omega
      have f3 : (fun i k => f i (sk b (sk a k))) = fun i k => f i (sk a (sk (b - 1) k)) := by funext i k; rw [sk_sk ha]
      rw [f1,f2,f3,← h b (by omega),← h a (by omega)]
      have s1 : sg (j + 1 + b) * sg (j + a) = -(sg (j + 1 + a) * sg (j + (b - 1))) := by
        rw [← sg_add,← sg_add,← sg_succ]
        unfold sg
        rw [show (j + 1 + b + (j + a)) % 2 = (j + 1 + a + (j + (b - 1)) + 1) % 2 by omega]
      generalize det j (fun i k => f i (sk a (sk (b - 1) k))) = M
      have t1 : sg (j + 1 + b) * f j b * (sg (j + a) * f j a * M) = (sg (j + 1 + b) * sg (j + a)) * (f j b * f j a * M) := by
        simp only [Int.mul_assoc,Int.mul_left_comm]
      have t2 : sg (j + 1 + a) * f j a * (sg (j + (b - 1)) * f j b * M) = (sg (j + 1 + a) * sg (j + (b - 1))) * (f j b * f j a * M) := by
        simp only [Int.mul_assoc,Int.mul_left_comm]
      rw [t1,t2,s1,Int.neg_mul]; omega
    · unfold det
      refine sm_none fun c hc => ?_
      rw [det_rowAdj (n := n + 1) (j := j) (by omega) fun k hk => h (sk c k) (by unfold sk; split <;> omega),Int.mul_zero]
theorem setr_same (f : Nat → Nat → Int) (j : Nat) : setr f j (f j) = f := by
  funext i k; unfold setr; split
  · rename_i h; rw [h]
  · rfl
theorem det_rowSwap {n : Nat} (f : Nat → Nat → Int) {j : Nat} (hj : j + 1 < n) : det n (fun i k => f (sw j i) k) = -det n f := by
  let D := fun (x y : Nat → Int) => det n (setr (setr f j x) (j + 1) y)
  have z : ∀ x,D x x = 0 := fun x => det_rowAdj hj fun k _ => by
    show (if j = j + 1 then x k else if j = j then x k else f j k) = (if j + 1 = j + 1 then x k else _)
    rw [if_neg (by omega),if_pos rfl,if_pos rfl]
  have l2 : ∀ x y y',D x (fun i => 1 * y i + y' i) = 1 * D x y + D x y' := fun x y y' => det_rowLin _ hj 1 y y'
  have cm : ∀ x y,setr (setr f j x) (j + 1) y = setr (setr f (j + 1) y) j x := fun x y => by
    funext i k; unfold setr; split <;> (try split) <;> first | rfl | omega
  have l1 : ∀ x x' y,D (fun i => 1 * x i + x' i) y = 1 * D x y + D x' y := fun x x' y => by
    show det n _ = 1 * det n _ + det n _
    rw [cm,cm,cm]; exact det_rowLin _ (by omega) 1 x x'
  have a := z fun i => 1 * f j i + f (j + 1) i
  rw [l1,l2,l2,z,z] at a
  have e1 : D (fun i => f j i) (fun i => f (j + 1) i) = det n f := by
    show det n _ = _
    rw [setr_same f j,setr_same]
  have e2 : D (fun i => f (j + 1) i) (fun i => f j i) = det n (fun i k => f (sw j i) k) := det_congr fun i k _ _ => by
    unfold setr sw
    by_cases c1 : i = j + 1
    · rw [if_pos c1,if_neg (by omega),if_pos c1]
    · rw [if_neg c1]
      by_cases c2 : i = j
      · rw [if_pos c2,if_pos c2]
      · rw [if_neg c2,if_neg c2,if_neg c1]
  rw [e1,e2] at a
  omega
theorem det_rowMove {n : Nat} : ∀ (d : Nat) (f : Nat → Nat → Int) {h m : Nat},m = h + d → m < n → det n (fun i k => f (mv h m i) k) = sg d * det n f
  | 0,f,h,m,e,hm => by
    have : det n (fun i k => f (mv h m i) k) = det n f := det_congr fun i k _ _ => by
      rw [show mv h m i = i by unfold mv; split <;> (try split) <;> (try split) <;> omega]
    rw [this]; simp [sg]
  | d + 1,f,h,m,e,hm => by
    have e1 : (fun i k => f (mv h m i) k) = fun i k => (fun i k => f (sw h i) k) (mv (h + 1) m i) k := by
      funext i k; rw [mv_step (by omega)]
    rw [e1,det_rowMove d (fun i k => f (sw h i) k) (by omega) hm,det_rowSwap f (by omega),sg_succ,Int.mul_neg,Int.neg_mul]
theorem det_rowEq {n : Nat} {f : Nat → Nat → Int} {a b : Nat} (hab : a < b) (hb : b < n) (h : ∀ k,k < n → f a k = f b k) : det n f = 0 := by
  have e := det_rowMove (n := n) (b - 1 - a) f (h := a) (m := b - 1) (by omega) (by omega)
  have z : det n (fun i k => f (mv a (b - 1) i) k) = 0 := det_rowAdj (j := b - 1) (by omega) fun k hk => by
    rw [show mv a (b - 1) (b - 1) = a by unfold mv; rw [if_neg (by omega),if_neg (by omega),if_pos rfl],show mv a (b - 1) (b - 1 + 1) = b by unfold mv; rw [if_neg (by omega),if_neg (by omega),if_neg (by omega)]; omega]
    exact h k hk
  rw [z] at e
  have s := sg_sq (b - 1 - a)
  have : sg (b - 1 - a) * (sg (b - 1 - a) * det n f) = det n f := by rw [← Int.mul_assoc,s,Int.one_mul]
  rw [← e,Int.mul_zero] at this
  exact this.symm
theorem det_first (n : Nat) (f : Nat → Nat → Int) : det (n + 1) f = sm (n + 1) fun c => sg c * f 0 c * det n fun i k => f (i + 1) (sk c k) := by
  have e := det_rowMove (n := n + 1) n f (h := 0) (m := n) (by omega) (by omega)
  have e1 : det (n + 1) (fun i k => f (mv 0 n i) k) = sg n * sm (n + 1) fun c => sg c * f 0 c * det n fun i k => f (i + 1) (sk c k) := by
    rw [← sm_mul]
    show sm (n + 1) _ = _
    refine sm_congr fun c _ => ?_
    have m : det n (fun i k => f (mv 0 n i) (sk c k)) = det n fun i k => f (i + 1) (sk c k) := det_congr fun i k hi _ => by
      rw [show mv 0 n i = i + 1 by unfold mv; rw [if_neg (by omega),if_pos hi]]
    have z0 : mv 0 n n = 0 := by unfold mv; rw [if_neg (by omega),if_neg (by omega),if_pos rfl]
    show sg (n + c) * f (mv 0 n n) c * det n (fun i k => f (mv 0 n i) (sk c k)) = _
    rw [m,z0,sg_add]
    simp only [Int.mul_assoc]
  have s := sg_sq n
  have : sg n * (sg n * det (n + 1) f) = det (n + 1) f := by rw [← Int.mul_assoc,s,Int.one_mul]
  rw [← e,e1,← Int.mul_assoc,s,Int.one_mul] at this
  exact this.symm
theorem det_rowPair {n : Nat} (f : Nat → Nat → Int) {a b : Nat} (hab : a < b) (hb : b < n) : det n (setr (setr f a (f b)) b fun k => -1 * f a k + 0) = det n f := by
  let D := fun (x y : Nat → Int) => det n (setr (setr f a x) b y)
  have z : ∀ x,D x x = 0 := fun x => det_rowEq hab hb fun k _ => by
    show (if a = b then x k else if a = a then x k else f a k) = (if b = b then x k else _)
    rw [if_neg (by omega),if_pos rfl,if_pos rfl]
  have l2 : ∀ (c : Int) x y y',D x (fun i => c * y i + y' i) = c * D x y + D x y' := fun c x y y' => det_rowLin _ hb c y y'
  have cm : ∀ x y,setr (setr f a x) b y = setr (setr f b y) a x := fun x y => by
    funext i k; unfold setr; split <;> (try split) <;> first | rfl | omega
  have l1 : ∀ x x' y,D (fun i => 1 * x i + x' i) y = 1 * D x y + D x' y := fun x x' y => by
    show det n _ = 1 * det n _ + det n _
    rw [cm,cm,cm]; exact det_rowLin _ (by omega) 1 x x'
  have q := z fun i => 1 * f a i + f b i
  rw [l1,l2,l2,z,z] at q
  have e1 : D (f a) (f b) = det n f := by
    show det n _ = _
    rw [setr_same f a,setr_same]
  have e3 : D (f b) (fun k => -1 * f a k + 0) = -1 * D (f b) (f a) + D (f b) (fun _ => 0) := l2 (-1) (f b) (f a) (fun _ => 0)
  have e4 : D (f b) (fun _ => 0) = 0 := by
    have := l2 0 (f b) (fun _ => 0) (fun _ => 0)
    have e5 := l2 (-1) (f b) (fun _ => 0) (fun _ => 0)
    simp only [Int.mul_zero,Int.add_zero] at e5
    omega
  show D (f b) (fun k => -1 * f a k + 0) = _
  rw [e3,e4]
  have e6 : D (fun i => f a i) (fun i => f b i) = det n f := e1
  have e7 : D (fun i => f b i) (fun i => f a i) = D (f b) (f a) := rfl
  rw [e6,e7] at q
  omega
end Dm
namespace Dm
open Pm
theorem det_colZero {n : Nat} (f : Nat → Nat → Int) {j : Nat} (hj : j < n) : det n (setc f j fun _ => 0) = 0 := by
  have e := det_colLin f hj (-1) (fun _ => 0) (fun _ => 0)
  simp only [Int.mul_zero,Int.add_zero] at e
  omega
theorem det_colSum {n : Nat} (f : Nat → Nat → Int) {j : Nat} (hj : j < n) (x : Nat → Int) (u : Nat → Nat → Int) : ∀ m : Nat,det n (setc f j fun i => sm m fun h => x h * u h i) = sm m fun h => x h * det n (setc f j (u h))
  | 0 => det_colZero f hj
  | m + 1 => by
    rw [sm,← det_colSum f hj x u m]
    have e := det_colLin f hj (x m) (u m) (fun i => sm m fun h => x h * u h i)
    rw [Int.add_comm,← e]
    congr 2
    funext i
    rw [sm,Int.add_comm]
theorem det_ker {n : Nat} {f : Nat → Nat → Int} {x : Nat → Int} (h : ∀ i,i < n → sm n (fun k => f i k * x k) = 0) {j : Nat} (hj : j < n) : x j * det n f = 0 := by
  have e1 : det n (setc f j fun i => sm n fun k => x k * f i k) = 0 := by
    rw [← det_colZero f hj]
    refine det_congr fun i k hi _ => ?_
    unfold setc
    split
    · rw [← h i hi]
      exact sm_congr fun k _ => Int.mul_comm ..
    · rfl
  rw [det_colSum f hj x (fun k i => f i k)] at e1
  have e2 : sm n (fun k => x k * det n (setc f j fun i => f i k)) = sm n (fun k => if k = j then x j * det n f else 0) := sm_congr fun k hk => by
    by_cases c : k = j
    · rw [if_pos c,c,setc_same]
    · rw [if_neg c]
      have z : det n (setc f j fun i => f i k) = 0 := by
        rcases Nat.lt_or_gt_of_ne c with l | l
        · exact det_colEq l hj fun i _ => by rw [setc_self,setc_ne (by omega)]
        · exact det_colEq l hk fun i _ => by rw [setc_self,setc_ne (by omega)]
      rw [z,Int.mul_zero]
  rw [e2,sm_single,if_pos hj] at e1
  exact e1
noncomputable def Bk (A : Nat → Nat → Int) (hd : Nat → Nat) : Nat → Nat → Int := fun i h => A i (hd h)
noncomputable def dt (A : Nat → Nat → Int) (hd : Nat → Nat) (r : Nat) : Int := det r (Bk A hd)
noncomputable def cr (A : Nat → Nat → Int) (hd : Nat → Nat) (r h k : Nat) : Int := det r (setc (Bk A hd) h fun i => A i k)
noncomputable def bd (A : Nat → Nat → Int) (hd : Nat → Nat) (r i k : Nat) : Int := det (r + 1) fun i' k' => A (if i' = r then i else i') (if k' = r then k else hd k')
theorem bd_exp (A : Nat → Nat → Int) (hd : Nat → Nat) (r i k : Nat) : bd A hd r i k = A i k * dt A hd r - sm r fun h => A i (hd h) * cr A hd r h k := by
  unfold bd
  rw [det,sm]
  have e1 : sg (r + r) * A (if r = r then i else r) (if r = r then k else hd r) * det r (fun i' k' => A (if i' = r then i else i') (if sk r k' = r then k else hd (sk r k'))) = A i k * dt A hd r := by
    rw [if_pos rfl,if_pos rfl,show sg (r + r) = 1 by unfold sg; rw [if_pos (by omega)],Int.one_mul]
    congr 1
    exact det_congr fun i' k' hi hk => by
      rw [if_neg (by omega),show sk r k' = k' by unfold sk; rw [if_pos hk],if_neg (by omega)]; rfl
  rw [e1]
  have e2 : sm r (fun c => sg (r + c) * A (if r = r then i else r) (if c = r then k else hd c) * det r (fun i' k' => A (if i' = r then i else i') (if sk c k' = r then k else hd (sk c k')))) = sm r fun h => -1 * (A i (hd h) * cr A hd r h k) := sm_congr fun c hc => by
    rw [if_pos rfl,if_neg (by omega)]
    have m : det r (fun i' k' => A (if i' = r then i else i') (if sk c k' = r then k else hd (sk c k'))) = sg (r - 1 - c) * cr A hd r c k := by
      rw [cr,← det_colMove (n := r) (r - 1 - c) (setc (Bk A hd) c fun i => A i k) (h := c) (m := r - 1) (by omega) (by omega)]
      refine det_congr fun i' k' hi hk => ?_
      rw [if_neg (by omega)]
      unfold sk mv setc Bk
      by_cases c1 : k' < c
      · rw [if_pos c1,if_pos c1,if_neg (by omega),if_neg (by omega)]
      · rw [if_neg c1,if_neg c1]
        by_cases c2 : k' < r - 1
        · rw [if_pos c2,if_neg (by omega),if_neg (by omega)]
        · rw [if_neg c2,if_pos (show k' + 1 = r by omega),if_pos (show k' = r - 1 by omega),if_pos rfl]
    rw [m]
    have s : sg (r + c) * sg (r - 1 - c) = -1 := by
      rw [← sg_add]; unfold sg; rw [if_neg (by omega)]
    have t : sg (r + c) * A i (hd c) * (sg (r - 1 - c) * cr A hd r c k) = (sg (r + c) * sg (r - 1 - c)) * (A i (hd c) * cr A hd r c k) := by simp only [Int.mul_assoc,Int.mul_left_comm]
    rw [t,s]
  rw [e2,sm_mul]
  omega
theorem bd_low {A : Nat → Nat → Int} {hd : Nat → Nat} {r i : Nat} (k : Nat) (h : i < r) : bd A hd r i k = 0 := det_rowEq h (Nat.lt_succ_self r) fun k' _ => by
  rw [if_neg (by omega),if_pos rfl]
theorem cramer {A : Nat → Nat → Int} {hd : Nat → Nat} {r i : Nat} (k : Nat) (h : i < r) : sm r (fun h => A i (hd h) * cr A hd r h k) = A i k * dt A hd r := by
  have := bd_exp A hd r i k
  rw [bd_low k h] at this
  omega
theorem sum_bd (A : Nat → Nat → Int) (hd : Nat → Nat) (r i k : Nat) : sm r (fun h => A i (hd h) * cr A hd r h k) = A i k * dt A hd r - bd A hd r i k := by
  have := bd_exp A hd r i k
  omega
noncomputable def more (hd : Nat → Nat) (r c : Nat) : Nat → Nat := fun h => if h = r then c else hd h
theorem dt_more (A : Nat → Nat → Int) (hd : Nat → Nat) (r c : Nat) : dt A (more hd r c) (r + 1) = bd A hd r r c := det_congr fun i k _ _ => by
  unfold Bk more
  by_cases h : i = r
  · rw [if_pos h,h]
  · rw [if_neg h]
theorem cr_more (A : Nat → Nat → Int) (hd : Nat → Nat) (r c k : Nat) : cr A (more hd r c) (r + 1) r k = bd A hd r r k := det_congr fun i k' _ _ => by
  unfold setc Bk more
  by_cases h : i = r
  · rw [if_pos h,h]
    by_cases h2 : k' = r
    · rw [if_pos h2,if_pos h2]
    · rw [if_neg h2,if_neg h2,if_neg h2]
  · rw [if_neg h]
    by_cases h2 : k' = r
    · rw [if_pos h2,if_pos h2]
    · rw [if_neg h2,if_neg h2,if_neg h2]
theorem step_sum (A : Nat → Nat → Int) (hd : Nat → Nat) (r c i k : Nat) :
    sm r (fun h => A i (hd h) * (bd A hd r r c * cr A hd r h k - cr A hd r h c * bd A hd r r k)) + A i c * (dt A hd r * bd A hd r r k) = bd A hd r r c * (A i k * dt A hd r - bd A hd r i k) + bd A hd r r k * bd A hd r i c := by
  have e1 : sm r (fun h => A i (hd h) * (bd A hd r r c * cr A hd r h k - cr A hd r h c * bd A hd r r k)) = bd A hd r r c * sm r (fun h => A i (hd h) * cr A hd r h k) + -(bd A hd r r k) * sm r (fun h => A i (hd h) * cr A hd r h c) := by
    rw [← sm_mul,← sm_mul,← sm_add]
    refine sm_congr fun h _ => ?_
    rw [Int.mul_sub,Int.neg_mul,Int.mul_left_comm,← Int.mul_assoc (A i (hd h)),Int.mul_comm (A i (hd h) * cr A hd r h c)]
    omega
  rw [e1,sum_bd,sum_bd,Int.mul_sub (-bd A hd r r k),Int.neg_mul,Int.neg_mul]
  have e2 : A i c * (dt A hd r * bd A hd r r k) = bd A hd r r k * (A i c * dt A hd r) := by simp only [Int.mul_assoc,Int.mul_left_comm,Int.mul_comm]
  rw [e2]; omega
theorem step_cr {A : Nat → Nat → Int} {hd : Nat → Nat} {r c : Nat} (hp : bd A hd r r c ≠ 0) {h : Nat} (hh : h < r) (k : Nat) : dt A hd r * cr A (more hd r c) (r + 1) h k = bd A hd r r c * cr A hd r h k - cr A hd r h c * bd A hd r r k := by
  let x := fun h => dt A hd r * cr A (more hd r c) (r + 1) h k - (if h = r then dt A hd r * bd A hd r r k else bd A hd r r c * cr A hd r h k - cr A hd r h c * bd A hd r r k)
  have key := det_ker (n := r + 1) (f := Bk A (more hd r c)) (x := x) (fun i hi => ?_) (j := h) (by omega)
  · have e : det (r + 1) (Bk A (more hd r c)) = bd A hd r r c := dt_more A hd r c
    rw [e] at key
    rcases Int.mul_eq_zero.mp key with z | z
    · have z' : dt A hd r * cr A (more hd r c) (r + 1) h k - (if h = r then dt A hd r * bd A hd r r k else bd A hd r r c * cr A hd r h k - cr A hd r h c * bd A hd r r k) = 0 := z
      rw [if_neg (by omega)] at z'
      omega
    · exact absurd z hp
  · have e1 : sm (r + 1) (fun h => Bk A (more hd r c) i h * x h) = dt A hd r * sm (r + 1) (fun h => A i (more hd r c h) * cr A (more hd r c) (r + 1) h k) + -1 * sm (r + 1) (fun h => A i (more hd r c h) * (if h = r then dt A hd r * bd A hd r r k else bd A hd r r c * cr A hd r h k - cr A hd r h c * bd A hd r r k)) := by
      rw [← sm_mul,← sm_mul,← sm_add]
      refine sm_congr fun h _ => ?_
      show A i (more hd r c h) * (dt A hd r * cr A (more hd r c) (r + 1) h k - _) = _
      rw [Int.mul_sub,Int.mul_left_comm]
      omega
    rw [e1,cramer k hi,dt_more,sm,if_pos rfl,show more hd r c r = c from if_pos rfl]
    have e2 : sm r (fun h => A i (more hd r c h) * (if h = r then dt A hd r * bd A hd r r k else bd A hd r r c * cr A hd r h k - cr A hd r h c * bd A hd r r k)) = sm r (fun h => A i (hd h) * (bd A hd r r c * cr A hd r h k - cr A hd r h c * bd A hd r r k)) := sm_congr fun h hh => by
      rw [if_neg (by omega),show more hd r c h = hd h from if_neg (by omega)]
    rw [e2,step_sum]
    have e3 : dt A hd r * (A i k * bd A hd r r c) = bd A hd r r c * (A i k * dt A hd r) := by simp only [Int.mul_assoc,Int.mul_left_comm,Int.mul_comm]
    rw [e3,Int.mul_sub]
    have e4 : bd A hd r r c * bd A hd r i k = bd A hd r r k * bd A hd r i c := by
      by_cases z : i < r
      · rw [bd_low k z,bd_low c z,Int.mul_zero,Int.mul_zero]
      · rw [show i = r by omega,Int.mul_comm]
    rw [e4]; omega
theorem step_bd {A : Nat → Nat → Int} {hd : Nat → Nat} {r c : Nat} (hp : bd A hd r r c ≠ 0) (i k : Nat) : dt A hd r * bd A (more hd r c) (r + 1) i k = bd A hd r r c * bd A hd r i k - bd A hd r i c * bd A hd r r k := by
  rw [bd_exp A (more hd r c) (r + 1),dt_more,Int.mul_sub,← sm_mul,sm,cr_more,show more hd r c r = c from if_pos rfl]
  have e2 : sm r (fun h => dt A hd r * (A i (more hd r c h) * cr A (more hd r c) (r + 1) h k)) = sm r (fun h => A i (hd h) * (bd A hd r r c * cr A hd r h k - cr A hd r h c * bd A hd r r k)) := sm_congr fun h hh => by
    rw [Int.mul_left_comm,step_cr hp hh,show more hd r c h = hd h from if_neg (by omega)]
  have e5 := step_sum A hd r c i k
  rw [e2,show dt A hd r * (A i c * bd A hd r r k) = A i c * (dt A hd r * bd A hd r r k) from Int.mul_left_comm ..,e5,Int.mul_sub]
  have e3 : dt A hd r * (A i k * bd A hd r r c) = bd A hd r r c * (A i k * dt A hd r) := by simp only [Int.mul_assoc,Int.mul_left_comm,Int.mul_comm]
  rw [e3,Int.mul_comm (bd A hd r i c)]; omega
noncomputable def En (A : Nat → Nat → Int) (hd : Nat → Nat) (r i k : Nat) : Int := if i < r then cr A hd r i k else bd A hd r i k
theorem En_zero (A : Nat → Nat → Int) (hd : Nat → Nat) (i k : Nat) : En A hd 0 i k = A i k := by
  unfold En
  rw [if_neg (by omega),bd_exp]
  simp [sm,dt,det]
theorem En_step {A : Nat → Nat → Int} {hd : Nat → Nat} {r c : Nat} (hp : En A hd r r c ≠ 0) {i : Nat} (hi : i ≠ r) (k : Nat) : dt A hd r * En A (more hd r c) (r + 1) i k = En A hd r r c * En A hd r i k - En A hd r i c * En A hd r r k := by
  have er : ∀ k,En A hd r r k = bd A hd r r k := fun k => if_neg (by omega)
  rw [er] at hp ⊢
  rw [er]
  unfold En
  by_cases h : i < r
  · rw [if_pos (by omega),if_pos h,if_pos h]; exact step_cr hp h k
  · rw [if_neg (by omega),if_neg h,if_neg h]; exact step_bd hp i k
theorem En_top (A : Nat → Nat → Int) (hd : Nat → Nat) (r c k : Nat) : En A (more hd r c) (r + 1) r k = En A hd r r k := by
  unfold En
  rw [if_pos (by omega),if_neg (by omega)]; exact cr_more A hd r c k
theorem dt_step (A : Nat → Nat → Int) (hd : Nat → Nat) (r c : Nat) : dt A (more hd r c) (r + 1) = En A hd r r c := by
  rw [dt_more]; exact (if_neg (by omega)).symm
theorem dt_zero (A : Nat → Nat → Int) (hd : Nat → Nat) : dt A hd 0 = 1 := rfl
theorem En_head {A : Nat → Nat → Int} {hd : Nat → Nat} {r i h : Nat} (hh : h < r) : En A hd r i (hd h) = if i = h then dt A hd r else 0 := by
  unfold En
  by_cases c : i < r
  · rw [if_pos c]
    by_cases e : i = h
    · rw [if_pos e,e]
      show det r (setc (Bk A hd) h fun i => Bk A hd i h) = _
      rw [setc_same]; rfl
    · rw [if_neg e]
      show det r (setc (Bk A hd) i fun i' => A i' (hd h)) = 0
      rcases Nat.lt_or_gt_of_ne e with l | l
      · exact det_colEq l hh fun i' _ => by rw [setc_self,setc_ne (by omega)]; rfl
      · exact det_colEq l c fun i' _ => by rw [setc_self,setc_ne (by omega)]; rfl
  · rw [if_neg c,if_neg (by omega)]
    exact det_colEq (a := h) (b := r) hh (Nat.lt_succ_self r) fun i' _ => by rw [if_neg (show ¬ h = r by omega),if_pos (show r = r from rfl)]
theorem En_sum (A : Nat → Nat → Int) (hd : Nat → Nat) (r i k : Nat) : A i k * dt A hd r = sm r (fun h => A i (hd h) * En A hd r h k) + (if i < r then 0 else En A hd r i k) := by
  have e : sm r (fun h => A i (hd h) * En A hd r h k) = sm r (fun h => A i (hd h) * cr A hd r h k) := sm_congr fun h hh => by
    unfold En; rw [if_pos hh]
  rw [e]
  by_cases c : i < r
  · rw [if_pos c,cramer k c,Int.add_zero]
  · rw [if_neg c,sum_bd]; unfold En; rw [if_neg c]; omega
theorem det_none {A : Nat → Nat → Int} {hd : Nat → Nat} {n r c : Nat} {p : Int} (hc : c < n) (hn : ∀ h,h < r → hd h < n ∧ hd h ≠ c) (hz : ∀ i,r ≤ i → i < n → ∃ e,En A hd r i c = p * e) : ∃ e,dt A hd r * det n A = p * e := by
  have hz' : ∀ i,i < n → ∃ e,(if i < r then 0 else En A hd r i c) = p * e := fun i hi => by
    by_cases z : i < r
    · exact ⟨0,by rw [if_pos z,Int.mul_zero]⟩
    · obtain ⟨e,he⟩ := hz i (by omega) hi
      exact ⟨e,by rw [if_neg z,he]⟩
  let y := fun i => if h : i < n then Classical.choose (hz' i h) else 0
  have hy : ∀ i,i < n → (if i < r then 0 else En A hd r i c) = p * y i := fun i hi => by
    show _ = p * (if h : i < n then Classical.choose (hz' i h) else 0)
    rw [dif_pos hi]; exact Classical.choose_spec (hz' i hi)
  refine ⟨det n (setc A c y),?_⟩
  have e1 : dt A hd r * det n A = det n (setc A c fun i => dt A hd r * A i c + 0) := by
    have := det_colLin A hc (dt A hd r) (fun i => A i c) (fun _ => 0)
    rw [setc_same,det_colZero A hc,Int.add_zero] at this
    exact this.symm
  have e2 : det n (setc A c fun i => dt A hd r * A i c + 0) = det n (setc A c fun i => p * y i + sm r fun h => En A hd r h c * A i (hd h)) := det_congr fun i k hi _ => by
    unfold setc
    split
    · have := En_sum A hd r i c
      rw [hy i hi] at this
      have e3 : sm r (fun h => A i (hd h) * En A hd r h c) = sm r (fun h => En A hd r h c * A i (hd h)) := sm_congr fun h _ => Int.mul_comm ..
      rw [e3] at this
      show dt A hd r * A i c + 0 = p * y i + sm r fun h => En A hd r h c * A i (hd h)
      rw [Int.mul_comm (dt A hd r),this]; omega
    · rfl
  rw [e1,e2,det_colLin A hc p y,det_colSum A hc (fun h => En A hd r h c) (fun h i => A i (hd h))]
  have e4 : sm r (fun h => En A hd r h c * det n (setc A c fun i => A i (hd h))) = 0 := sm_none fun h hh => by
    obtain ⟨h1,h2⟩ := hn h hh
    have z : det n (setc A c fun i => A i (hd h)) = 0 := by
      rcases Nat.lt_or_gt_of_ne h2 with l | l
      · exact det_colEq l hc fun i _ => by rw [setc_self,setc_ne (by omega)]
      · exact det_colEq l h1 fun i _ => by rw [setc_self,setc_ne (by omega)]
    rw [z,Int.mul_zero]
  rw [e4,Int.add_zero]
end Dm
namespace Dm
open Pm Rm
noncomputable def Dom (b : Int) : Prop := ∀ x y,tk b x ≠ 0 → tk b (x * y) = 0 → tk b y = 0
theorem Dom.zero : Dom 0 := fun x y hx h => by
  rw [tk_zero] at *
  rcases Int.mul_eq_zero.mp h with z | z
  · exact absurd z hx
  · exact z
theorem Dom.prime {P : Nat} (hP : P ∈ Om.primesN) (h2 : 2 ≤ P) : Dom (P : Int) := fun x y hx h => by
  have hP0 : (P : Int) ≠ 0 := by omega
  have tkP : ∀ n,tk (P : Int) n = n % (P : Int) := fun n => tk_pos hP0 n
  rw [tkP] at *
  have r0 := Int.emod_nonneg x hP0
  have r1 := Int.emod_lt_of_pos x (show (0 : Int) < P by omega)
  have hinv : ((x % P) ^ (P - 2) * (x % P)) % (P : Int) = 1 := by
    rw [← Int.pow_succ,show (P - 2).succ = P - 1 by omega]
    exact Om.fermatI rfl hP (by omega) r1
  have e1 : ((x % P) ^ (P - 2) * (x * y)) % (P : Int) = 0 := by rw [Int.mul_emod,h,Int.mul_zero]; exact Int.zero_emod _
  have e2 : ((x % P) ^ (P - 2) * (x * y)) % (P : Int) = y % (P : Int) := by
    have e3 : ((x % P) ^ (P - 2) * x) % (P : Int) = 1 := by rw [Int.mul_emod,← hinv,Int.mul_emod ((x % P) ^ (P - 2)) (x % P),Int.emod_emod_of_dvd _ (Int.dvd_refl _)]
    rw [← Int.mul_assoc,Int.mul_emod,e3,Int.one_mul,Int.emod_emod_of_dvd _ (Int.dvd_refl _)]
  rw [← e2,e1]
theorem tk_zero_iff {b x : Int} : tk b x = 0 ↔ ∃ e,x = b * e := by
  unfold tk
  split
  · rename_i h
    constructor
    · intro z; exact ⟨0,by rw [z,Int.mul_zero]⟩
    · rintro ⟨e,he⟩; rw [he,h,Int.zero_mul]
  · constructor
    · intro z; exact ⟨x / b,(Int.mul_ediv_cancel' (Int.dvd_of_emod_eq_zero z)).symm⟩
    · rintro ⟨e,he⟩; rw [he]; exact Int.mul_emod_right b e
noncomputable def turn (A : Nat → Nat → Int) (a c : Nat) : Nat → Nat → Int := setr (setr A a (A c)) c fun k => -1 * A a k + 0
inductive Swp (n : Nat) (A0 : Nat → Nat → Int) : (Nat → Nat → Int) → Prop
  | refl : Swp n A0 A0
  | step {A : Nat → Nat → Int} {a c : Nat} : Swp n A0 A → a < c → c < n → Swp n A0 (turn A a c)
theorem Swp.det {n : Nat} {A0 A : Nat → Nat → Int} (h : Swp n A0 A) : Dm.det n A = Dm.det n A0 := by
  induction h with
  | refl => rfl
  | step _ h1 h2 ih => rw [← ih]; exact det_rowPair _ h1 h2
theorem turn_low {A : Nat → Nat → Int} {a c i : Nat} (h1 : i ≠ a) (h2 : i ≠ c) (k : Nat) : turn A a c i k = A i k := by
  unfold turn setr; rw [if_neg h2,if_neg h1]
theorem turn_up {A : Nat → Nat → Int} {a c : Nat} (h : a ≠ c) (k : Nat) : turn A a c a k = A c k := by
  unfold turn setr; rw [if_neg h,if_pos rfl]
theorem turn_down (A : Nat → Nat → Int) (a c k : Nat) : turn A a c c k = -A a k := by
  unfold turn setr; rw [if_pos rfl]
  show -1 * A a k + 0 = -A a k
  omega
theorem dt_turn {A : Nat → Nat → Int} {hd : Nat → Nat} {r a c : Nat} (ha : r ≤ a) (hc : r ≤ c) : dt (turn A a c) hd r = dt A hd r := det_congr fun i k hi _ => turn_low (by omega) (by omega) _
theorem cr_turn {A : Nat → Nat → Int} {hd : Nat → Nat} {r a c : Nat} (ha : r ≤ a) (hc : r ≤ c) (h k : Nat) : cr (turn A a c) hd r h k = cr A hd r h k := det_congr fun i k' hi _ => by
  show (if k' = h then turn A a c i k else turn A a c i (hd k')) = if k' = h then A i k else A i (hd k')
  rw [turn_low (by omega) (by omega),turn_low (by omega) (by omega)]
theorem En_turn {A : Nat → Nat → Int} {hd : Nat → Nat} {r a c : Nat} (ha : r ≤ a) (hac : a < c) (i k : Nat) : En (turn A a c) hd r i k = if i = a then En A hd r c k else if i = c then -En A hd r a k else En A hd r i k := by
  have hc : r ≤ c := by omega
  unfold En
  by_cases h : i < r
  · rw [if_pos h,if_neg (by omega),if_neg (by omega),if_pos h]; exact cr_turn ha hc i k
  · rw [if_neg h,bd_exp,dt_turn ha hc]
    have e : ∀ j,sm r (fun h => turn A a c j (hd h) * cr (turn A a c) hd r h k) = sm r (fun h => turn A a c j (hd h) * cr A hd r h k) := fun j => sm_congr fun h _ => by rw [cr_turn ha hc]
    rw [e]
    by_cases h1 : i = a
    · rw [if_pos h1,if_neg (by omega),bd_exp,h1,turn_up (by omega)]
      congr 1
      exact sm_congr fun h _ => by rw [turn_up (by omega)]
    · rw [if_neg h1]
      by_cases h2 : i = c
      · rw [if_pos h2,if_neg (by omega),bd_exp,h2,turn_down]
        have : sm r (fun h => turn A a c c (hd h) * cr A hd r h k) = -1 * sm r (fun h => A a (hd h) * cr A hd r h k) := by
          rw [← sm_mul]
          exact sm_congr fun h _ => by rw [turn_down,Int.neg_mul]; omega
        rw [this,Int.neg_mul]; omega
      · rw [if_neg h2,if_neg h,bd_exp,turn_low h1 h2]
        congr 1
        exact sm_congr fun h _ => by rw [turn_low h1 h2]
noncomputable def ln (L : List (List Int)) (i : Nat) : List Int := L.getD i []
structure ClI (b : Int) (n W u : Nat) (A0 : Nat → Nat → Int) (c : Nat) (A : Nat → Nat → Int) (hd : Nat → Nat) (r : Nat) (L : List (List Int)) (last : Int) : Prop where
  sw : Swp n A0 A
  len : L.length = n
  wd : ∀ i,i < n → (ln L i).length = W
  en : ∀ i k,i < n → k < W → co (ln L i) k = tk b (En A hd r i k)
  la : last = tk b (dt A hd r)
  nz : tk b (dt A hd r) ≠ 0
  rn : r ≤ n
  hc : ∀ h,h < r → hd h < c
  up : ∀ h h',h < h' → h' < r → hd h < hd h'
  zero : ∀ k,k < c → (∀ h,h < r → hd h ≠ k) → ∀ i,r ≤ i → i < n → tk b (En A hd r i k) = 0
  full : c ≤ n → (r = c ∧ ∀ h,h < r → hd h = h) ∨ tk b (det n A) = 0
  bdd : ∀ i k,Bd u (A i k)
  ge : ∀ h,h < r → ∀ k,k < hd h → (∀ h',h' < r → hd h' ≠ k) → tk b (En A hd r h k) = 0
theorem ClI.start {b : Int} {W u : Nat} {L : List (List Int)} (hb : tk b 1 = 1) (hw : ∀ i,i < L.length → (ln L i).length = W) (hn : ∀ i k,tk b (co (ln L i) k) = co (ln L i) k) (hu : ∀ i k,Bd u (co (ln L i) k)) :
    ClI b L.length W u (fun i k => co (ln L i) k) 0 (fun i k => co (ln L i) k) (fun _ => 0) 0 L 1 :=
  ⟨.refl,rfl,hw,fun i k _ _ => by rw [En_zero,hn],by rw [dt_zero,hb],by rw [dt_zero,hb]; decide,Nat.zero_le _,fun h hh => absurd hh (Nat.not_lt_zero _),fun _ _ _ h => absurd h (Nat.not_lt_zero _),fun k hk => absurd hk (Nat.not_lt_zero _),fun _ => .inl ⟨rfl,fun h hh => absurd hh (Nat.not_lt_zero _)⟩,hu,fun h hh => absurd hh (Nat.not_lt_zero _)⟩
theorem ClI.skip {b : Int} {n W u : Nat} {A0 : Nat → Nat → Int} {c : Nat} {A : Nat → Nat → Int} {hd : Nat → Nat} {r : Nat} {L : List (List Int)} {last : Int} (h : ClI b n W u A0 c A hd r L last) (hD : Dom b) (hcW : c < W)
    (hz : ∀ i,r ≤ i → i < n → co (ln L i) c = 0) : ClI b n W u A0 (c + 1) A hd r L last := by
  have hz' : ∀ i,r ≤ i → i < n → tk b (En A hd r i c) = 0 := fun i h1 h2 => by rw [← h.en i c h2 hcW]; exact hz i h1 h2
  refine ⟨h.sw,h.len,h.wd,h.en,h.la,h.nz,h.rn,fun k hk => by have := h.hc k hk; omega,h.up,fun k hk hn i h1 h2 => ?_,fun hcn => .inr ?_,h.bdd,h.ge⟩
  · by_cases e : k = c
    · rw [e]; exact hz' i h1 h2
    · exact h.zero k (by omega) hn i h1 h2
  · obtain ⟨e,he⟩ := det_none (A := A) (hd := hd) (n := n) (r := r) (c := c) (p := b) (by omega) (fun k hk => by have := h.hc k hk; omega) fun i h1 h2 => tk_zero_iff.mp (hz' i h1 h2)
    exact hD _ _ h.nz (tk_zero_iff.mpr ⟨e,he⟩)
theorem ClI.bring {b : Int} {n W u : Nat} {A0 : Nat → Nat → Int} {c : Nat} {A : Nat → Nat → Int} {hd : Nat → Nat} {r : Nat} {L L' : List (List Int)} {last : Int} (h : ClI b n W u A0 c A hd r L last) {a : Nat} (hra : r < a) (han : a < n)
    (hl : L'.length = n) (e1 : ln L' r = ln L a) (e2 : ln L' a = (ln L r).map fun x => tk b (0 - x)) (e3 : ∀ i,i ≠ r → i ≠ a → ln L' i = ln L i) : ClI b n W u A0 c (turn A r a) hd r L' last := by
  have hrn : r < n := by omega
  refine ⟨.step h.sw hra han,hl,fun i hi => ?_,fun i k hi hk => ?_,by rw [dt_turn (Nat.le_refl _) (by omega)]; exact h.la,by rw [dt_turn (Nat.le_refl _) (by omega)]; exact h.nz,h.rn,h.hc,h.up,fun k hk hn i h1 h2 => ?_,fun hcn => ?_,fun i k => ?_,fun j hj k hk hn => by rw [En_turn (Nat.le_refl _) hra,if_neg (by omega),if_neg (by omega)]; exact h.ge j hj k hk hn⟩
  · by_cases c1 : i = r
    · rw [c1,e1]; exact h.wd a han
    · by_cases c2 : i = a
      · rw [c2,e2,List.length_map]; exact h.wd r hrn
      · rw [e3 i c1 c2]; exact h.wd i hi
  · rw [En_turn (Nat.le_refl _) hra]
    by_cases c1 : i = r
    · rw [if_pos c1,c1,e1]; exact h.en a k han hk
    · rw [if_neg c1]
      by_cases c2 : i = a
      · rw [if_pos c2,c2,e2,co_map (by simp [tk0]),h.en r k hrn hk]
        rw [show 0 - tk b (En A hd r r k) = -1 * tk b (En A hd r r k) by omega,tk_mul_r]
        congr 1; omega
      · rw [if_neg c2,e3 i c1 c2]; exact h.en i k hi hk
  · rw [En_turn (Nat.le_refl _) hra]
    by_cases c1 : i = r
    · rw [if_pos c1]; exact h.zero k hk hn a (by omega) han
    · rw [if_neg c1]
      by_cases c2 : i = a
      · rw [if_pos c2]
        have := h.zero k hk hn r (Nat.le_refl _) hrn
        rw [← Int.neg_one_mul,← tk_mul_r,this,Int.mul_zero]; exact tk0 b
      · rw [if_neg c2]; exact h.zero k hk hn i h1 h2
  · have e : det n (turn A r a) = det n A := det_rowPair A hra han
    rw [e]; exact h.full hcn
  · by_cases c2 : i = a
    · rw [c2,turn_down]
      have := h.bdd r k
      unfold Bd at this ⊢
      rw [Int.natAbs_neg]; exact this
    · by_cases c1 : i = r
      · rw [c1,turn_up (by omega)]; exact h.bdd a k
      · rw [turn_low c1 c2]; exact h.bdd i k
theorem ClI.free {b : Int} {n W u : Nat} {A0 : Nat → Nat → Int} {c : Nat} {A : Nat → Nat → Int} {hd : Nat → Nat} {r : Nat} {L L' : List (List Int)} {last : Int} (h : ClI b n W u A0 c A hd r L last) (hD : Dom b) (hcW : c < W) (hrn : r < n)
    (hp : co (ln L r) c ≠ 0) (hl : L'.length = n) (e1 : ln L' r = ln L r) (e2 : ∀ i,i < n → i ≠ r → (ln L' i).length = W ∧ ∀ k,k < W → co (ln L' i) k = tk b (co (ln L' i) k) ∧ tk b (last * co (ln L' i) k) = tk b (co (ln L r) c * co (ln L i) k - co (ln L i) c * co (ln L r) k)) :
    ClI b n W u A0 (c + 1) A (more hd r c) (r + 1) L' (co (ln L r) c) := by
  have hpe : tk b (En A hd r r c) ≠ 0 := by rw [← h.en r c hrn hcW]; exact hp
  have hpi : En A hd r r c ≠ 0 := fun z => hpe (by rw [z]; exact tk0 b)
  have hen : ∀ i k,i < n → k < W → co (ln L' i) k = tk b (En A (more hd r c) (r + 1) i k) := fun i k hi hk => by
    by_cases c1 : i = r
    · rw [c1,e1,En_top]; exact h.en r k hrn hk
    · obtain ⟨_,q⟩ := e2 i hi c1
      obtain ⟨q1,q2⟩ := q k hk
      have s := En_step hpi c1 k
      have e3 : tk b (dt A hd r * co (ln L' i) k) = tk b (dt A hd r * En A (more hd r c) (r + 1) i k) := by
        rw [s,← tk_mul_l,← h.la,q2,h.en r c hrn hcW,h.en i k hi hk,h.en i c hi hcW,h.en r k hrn hk]
        have t1 : tk b (tk b (En A hd r r c) * tk b (En A hd r i k)) = tk b (En A hd r r c * En A hd r i k) := by rw [tk_mul_l,tk_mul_r]
        have t2 : tk b (-1 * (tk b (En A hd r i c) * tk b (En A hd r r k))) = tk b (-1 * (En A hd r i c * En A hd r r k)) := by rw [← tk_mul_r,tk_mul_l,tk_mul_r b (En A hd r i c),tk_mul_r]
        have := tk_congr_add t1 t2
        rw [show tk b (En A hd r r c) * tk b (En A hd r i k) - tk b (En A hd r i c) * tk b (En A hd r r k) = tk b (En A hd r r c) * tk b (En A hd r i k) + -1 * (tk b (En A hd r i c) * tk b (En A hd r r k)) by omega,this]
        congr 1; omega
      have e4 : tk b (dt A hd r * (co (ln L' i) k - En A (more hd r c) (r + 1) i k)) = 0 := by
        rw [Int.mul_sub]; exact tk_sub_zero.mpr e3
      have e5 := tk_sub_zero.mp (hD _ _ h.nz e4)
      rw [q1]; exact e5
  refine ⟨h.sw,hl,fun i hi => ?_,hen,?_,?_,by omega,fun k hk => ?_,fun k k' h1 h2 => ?_,fun k hk hn i h1 h2 => ?_,fun hcn => ?_,h.bdd,fun j hj k hk hn => ?_⟩
  · by_cases c1 : i = r
    · rw [c1,e1]; exact h.wd r hrn
    · exact (e2 i hi c1).1
  · rw [dt_step]; exact h.en r c hrn hcW
  · rw [dt_step]; exact hpe
  · unfold more
    split
    · omega
    · have := h.hc k (by omega); omega
  · unfold more
    rw [if_neg (by omega)]
    split
    · exact h.hc k (by omega)
    · exact h.up k k' h1 (by omega)
  · -- columns without a head stay nought
    by_cases e : k = c
    · exact absurd (show more hd r c r = k by unfold more; rw [if_pos rfl,e]) (hn r (by omega))
    · have hn' : ∀ h',h' < r → hd h' ≠ k := fun h' hh => by
        have := hn h' (by omega)
        unfold more at this
        rwa [if_neg (by omega)] at this
      have z1 := h.zero k (by omega) hn' i (by omega) h2
      have z2 := h.zero k (by omega) hn' r (Nat.le_refl _) hrn
      have s := En_step hpi (show i ≠ r by omega) k
      refine hD _ _ h.nz ?_
      rw [s]
      refine tk_sub_zero.mpr ?_
      rw [← tk_mul_r,z1,Int.mul_zero,← tk_mul_r b (En A hd r i c),z2,Int.mul_zero]
  · rcases h.full (by omega) with ⟨f1,f2⟩ | f
    · refine .inl ⟨by omega,fun k hk => ?_⟩
      unfold more
      split
      · omega
      · exact f2 k (by omega)
    · exact .inr f
  · -- ahead of a line's head there is nothing but heads
    have hn' : ∀ h',h' < r → hd h' ≠ k := fun h' hh => by
      have := hn h' (by omega)
      unfold more at this
      rwa [if_neg (by omega)] at this
    have hkc : k < c := by
      unfold more at hk
      split at hk
      · exact hk
      · have := h.hc j (by omega); omega
    have z2 := h.zero k hkc hn' r (Nat.le_refl _) hrn
    by_cases e : j = r
    · rw [e,En_top]; exact z2
    · have hk' : k < hd j := by unfold more at hk; rwa [if_neg e] at hk
      have z1 := h.ge j (by omega) k hk' hn'
      have s := En_step hpi e k
      refine hD _ _ h.nz ?_
      rw [s]
      refine tk_sub_zero.mpr ?_
      rw [← tk_mul_r,z1,Int.mul_zero,← tk_mul_r b (En A hd r j c),z2,Int.mul_zero]
theorem Bd_det {u : Nat} : ∀ {n : Nat} {f : Nat → Nat → Int},(∀ i k,i < n → k < n → Bd u (f i k)) → Bd (n * (u + n) + 1) (det n f)
  | 0,_,_ => by
    show Bd (0 * (u + 0) + 1) 1
    rw [Nat.zero_mul]; exact Bd.of (by decide) (by decide)
  | n + 1,f,h => by
    unfold det
    have e : Bd (u + (n * (u + n) + 1) + (n + 1)) (sm (n + 1) fun c => sg (n + c) * f n c * det n fun i k => f i (sk c k)) := Bd_sm _ fun c hc => by
      have b1 := h n c (by omega) hc
      have b2 := Bd_det (u := u) (n := n) (f := fun i k => f i (sk c k)) fun i k hi hk => h i (sk c k) (by omega) (by unfold sk; split <;> omega)
      have b3 := b1.mul b2
      unfold Bd at b3 ⊢
      rw [Int.mul_assoc,Int.natAbs_mul]
      have : (sg (n + c)).natAbs = 1 := by unfold sg; split <;> rfl
      rw [this,Nat.one_mul]; exact b3
    refine e.mono ?_
    have : (n + 1) * (u + (n + 1)) = n * (u + n) + n + u + (n + 1) := by
      rw [Nat.succ_mul,show u + (n + 1) = u + n + 1 by omega,Nat.mul_add n (u + n) 1]; omega
    omega
theorem ClI.bdE {b : Int} {n W u : Nat} {A0 : Nat → Nat → Int} {c : Nat} {A : Nat → Nat → Int} {hd : Nat → Nat} {r : Nat} {L : List (List Int)} {last : Int} (h : ClI b n W u A0 c A hd r L last) (i k : Nat) : Bd ((r + 1) * (u + (r + 1)) + 1) (En A hd r i k) := by
  unfold En
  split
  · refine (Bd_det (u := u) fun i' k' _ _ => ?_).mono ?_
    · unfold setc Bk; split <;> exact h.bdd _ _
    · have : r * (u + r) ≤ (r + 1) * (u + (r + 1)) := Nat.mul_le_mul (by omega) (by omega)
      omega
  · exact Bd_det (u := u) fun i' k' _ _ => h.bdd _ _
end Dm
namespace Dm
open Rm Pm
theorem tk_neg0 {b x : Int} (h : tk b x = 0) : tk b (-x) = 0 := by
  have := tk_mul_r b (-1) x
  rw [h,Int.mul_zero,tk0] at this
  rw [show -x = -1 * x by omega,← this]
theorem tk_mul0 {b x : Int} (y : Int) (h : tk b x = 0) : tk b (y * x) = 0 := by rw [← tk_mul_r,h,Int.mul_zero,tk0]
theorem tk_add0 {b x y : Int} (h : tk b x = 0) (h' : tk b y = 0) : tk b (x + y) = 0 := by rw [← tk_add_l,h,Int.zero_add,h']
theorem tk_sub0 {b x y : Int} (h : tk b x = 0) (h' : tk b y = 0) : tk b (x - y) = 0 := by rw [Int.sub_eq_add_neg]; exact tk_add0 h (tk_neg0 h')
theorem sm_neg (f : Nat → Int) (n : Nat) : sm n (fun k => -f k) = -sm n f := by
  have e : (fun k => -f k) = fun k => -1 * f k := funext fun k => by omega
  rw [e,sm_mul]; omega
theorem sm_sub (f g : Nat → Int) (n : Nat) : sm n (fun k => f k - g k) = sm n f - sm n g := by
  have e : (fun k => f k - g k) = fun k => f k + -g k := funext fun k => by omega
  rw [e,sm_add,sm_neg]; omega
theorem tk_sm0 {b : Int} {f : Nat → Int} {n : Nat} (h : ∀ k,k < n → tk b (f k) = 0) : tk b (sm n f) = 0 := by
  have := tk_sm (b := b) (f := f) (g := fun _ => 0) (n := n) fun k hk => by rw [h k hk,tk0]
  rw [this,sm_zero,tk0]
noncomputable def Rel (b : Int) (n m : Nat) (A : Nat → Nat → Int) (x : Nat → Int) : Prop := ∀ i,i < n → tk b (sm m fun k => A i k * x k) = 0
theorem neg_row (A : Nat → Nat → Int) (x : Nat → Int) (i m : Nat) : sm m (fun k => -A i k * x k) = -sm m fun k => A i k * x k := by
  rw [← sm_neg]
  exact sm_congr fun k _ => Int.neg_mul ..
theorem Rel.turn {b : Int} {n m : Nat} {A : Nat → Nat → Int} {x : Nat → Int} {a c : Nat} (hac : a < c) (hc : c < n) : Rel b n m A x ↔ Rel b n m (turn A a c) x := by
  have ha : a < n := by omega
  constructor
  · intro h i hi
    by_cases c1 : i = c
    · rw [c1,sm_congr (g := fun k => -A a k * x k) fun k _ => by rw [turn_down],neg_row]
      exact tk_neg0 (h a ha)
    · by_cases c2 : i = a
      · rw [c2,sm_congr (g := fun k => A c k * x k) fun k _ => by rw [turn_up (by omega)]]
        exact h c hc
      · rw [sm_congr (g := fun k => A i k * x k) fun k _ => by rw [turn_low c2 c1]]
        exact h i hi
  · intro h i hi
    by_cases c1 : i = c
    · have := h a ha
      rw [sm_congr (g := fun k => A c k * x k) fun k _ => by rw [turn_up (by omega)]] at this
      rw [c1]; exact this
    · by_cases c2 : i = a
      · have := h c hc
        rw [sm_congr (g := fun k => -A a k * x k) fun k _ => by rw [turn_down],neg_row] at this
        rw [c2]
        have := tk_neg0 this
        rwa [Int.neg_neg] at this
      · have := h i hi
        rw [sm_congr (g := fun k => A i k * x k) fun k _ => by rw [turn_low c2 c1]] at this
        exact this
theorem Swp.rel {b : Int} {n m : Nat} {A0 A : Nat → Nat → Int} {x : Nat → Int} (h : Swp n A0 A) : Rel b n m A0 x ↔ Rel b n m A x := by
  induction h with
  | refl => exact Iff.rfl
  | step _ h1 h2 ih => exact ih.trans (Rel.turn h1 h2)
theorem det_tk0 {b : Int} : ∀ {n : Nat} {f g : Nat → Nat → Int},(∀ i k,i < n → k < n → tk b (f i k) = tk b (g i k)) → tk b (det n f) = tk b (det n g)
  | 0,_,_,_ => rfl
  | n + 1,f,g,h => by
    unfold det
    refine tk_sm fun c hc => ?_
    have e1 : tk b (det n fun i k => f i (sk c k)) = tk b (det n fun i k => g i (sk c k)) := det_tk0 fun i k hi hk => h i _ (by omega) (by unfold sk; split <;> omega)
    rw [← tk_mul_r,e1,tk_mul_r,Int.mul_assoc,← tk_mul_r,← tk_mul_l b (f n c),h n c (by omega) hc,tk_mul_l,tk_mul_r,Int.mul_assoc]
theorem Rel.en {b : Int} {n m : Nat} {A : Nat → Nat → Int} {x : Nat → Int} (hx : Rel b n m A x) (hd : Nat → Nat) {r : Nat} (hr : r ≤ n) : Rel b n m (En A hd r) x := by
  have low : ∀ i,i < r → tk b (sm m fun k => cr A hd r i k * x k) = 0 := fun i hi => by
    have e := det_colSum (n := r) (Bk A hd) hi x (fun k i' => A i' k) m
    have e2 : sm m (fun k => cr A hd r i k * x k) = sm m fun k => x k * det r (setc (Bk A hd) i fun i' => A i' k) := sm_congr fun k _ => Int.mul_comm ..
    rw [e2,← e,det_tk0 (g := setc (Bk A hd) i fun _ => 0) (fun i' k' hi' _ => ?_),det_colZero _ hi,tk0]
    unfold setc
    split
    · have := hx i' (by omega)
      rw [tk0,← this]
      exact congrArg (tk b) (sm_congr fun k _ => Int.mul_comm ..)
    · rfl
  intro i hi
  by_cases c : i < r
  · rw [sm_congr (g := fun k => cr A hd r i k * x k) fun k _ => by unfold En; rw [if_pos c]]
    exact low i c
  · have e : sm m (fun k => En A hd r i k * x k) = dt A hd r * sm m (fun k => A i k * x k) - sm r fun h => A i (hd h) * sm m fun k => cr A hd r h k * x k := by
      rw [← sm_mul]
      have e2 : sm r (fun h => A i (hd h) * sm m fun k => cr A hd r h k * x k) = sm m fun k => sm r fun h => A i (hd h) * (cr A hd r h k * x k) := by
        rw [sm_swap]
        exact sm_congr fun h _ => (sm_mul ..).symm
      rw [e2,← sm_sub]
      refine sm_congr fun k _ => ?_
      unfold En
      rw [if_neg c,bd_exp,Int.sub_mul]
      congr 1
      · rw [Int.mul_comm (A i k),Int.mul_assoc]
      · rw [Int.mul_comm,← sm_mul]
        exact sm_congr fun h _ => by rw [Int.mul_comm,Int.mul_assoc]
    rw [e]
    exact tk_sub0 (tk_mul0 _ (hx i hi)) (tk_sm0 fun h hh => tk_mul0 _ (low h hh))
noncomputable def Ind (b : Int) (n m : Nat) (A : Nat → Nat → Int) : Prop := ∀ x,Rel b n m A x → ∀ k,k < m → tk b (x k) = 0
theorem told_rel {A : Nat → Nat → Int} {hd : Nat → Nat} {r m k : Nat} {b : Int} {n : Nat} (hm : ∀ h,h < r → hd h < m) (hk : k < m) (hz : ∀ i,r ≤ i → i < n → tk b (En A hd r i k) = 0) :
    Rel b n m A fun j => sm r (fun h => if j = hd h then En A hd r h k else 0) - if j = k then dt A hd r else 0 := fun i hi => by
  have e : sm m (fun j => A i j * (sm r (fun h => if j = hd h then En A hd r h k else 0) - if j = k then dt A hd r else 0)) = sm r (fun h => A i (hd h) * En A hd r h k) - A i k * dt A hd r := by
    rw [sm_congr (g := fun j => sm r (fun h => if j = hd h then A i (hd h) * En A hd r h k else 0) - if j = k then A i k * dt A hd r else 0) fun j _ => ?_,sm_sub,sm_single,if_pos hk,sm_swap]
    · congr 1
      exact sm_congr fun h hh => by rw [sm_single,if_pos (hm h hh)]
    · rw [Int.mul_sub,← sm_mul]
      congr 1
      · refine sm_congr fun h _ => ?_
        by_cases c : j = hd h
        · rw [if_pos c,if_pos c,c]
        · rw [if_neg c,if_neg c,Int.mul_zero]
      · by_cases c : j = k
        · rw [if_pos c,if_pos c,c]
        · rw [if_neg c,if_neg c,Int.mul_zero]
  rw [e]
  have q := En_sum A hd r i k
  by_cases c : i < r
  · rw [if_pos c,Int.add_zero] at q
    rw [q,Int.sub_self,tk0]
  · rw [if_neg c] at q
    rw [q,show sm r (fun h => A i (hd h) * En A hd r h k) - (sm r (fun h => A i (hd h) * En A hd r h k) + En A hd r i k) = -En A hd r i k by omega]
    exact tk_neg0 (hz i (by omega) hi)
theorem ClI.ge_heads {b : Int} {n W u m : Nat} {A0 A : Nat → Nat → Int} {hd : Nat → Nat} {r : Nat} {L : List (List Int)} {last : Int} (h : ClI b n W u A0 m A hd r L last) : ∀ j,j < r → j ≤ hd j := fun j => by
  induction j with
  | zero => intro _; exact Nat.zero_le _
  | succ j ih =>
    intro hj
    have := ih (by omega)
    have := h.up j (j + 1) (by omega) hj
    omega
theorem ClI.sur_heads {b : Int} {n W u m : Nat} {A0 A : Nat → Nat → Int} {hd : Nat → Nat} {r : Nat} {L : List (List Int)} {last : Int} (h : ClI b n W u A0 m A hd r L last) (sur : ∀ k,k < m → ∃ j,j < r ∧ hd j = k) : r = m ∧ ∀ k,k < m → hd k = k := by
  have ge := h.ge_heads
  have all : ∀ k,k < m → k < r ∧ hd k = k := fun k => by
    induction k using Nat.strongRecOn with
    | ind k ih =>
      intro hk
      obtain ⟨j,hj,e⟩ := sur k hk
      have g := ge j hj
      by_cases c : j = k
      · rw [← c]; exact ⟨hj,by rw [e,c]⟩
      · have := (ih j (by omega) (by omega)).2
        omega
  refine ⟨?_,fun k hk => (all k hk).2⟩
  by_cases c : r ≤ m
  · by_cases c2 : r = m
    · exact c2
    · have := (all r (by omega)).1; omega
  · have := h.hc m (by omega)
    have := ge m (by omega)
    omega
theorem ClI.a_free {b : Int} {n W u m : Nat} {A0 A : Nat → Nat → Int} {hd : Nat → Nat} {r : Nat} {L : List (List Int)} {last : Int} (h : ClI b n W u A0 m A hd r L last) (hr : r ≠ m) : ∃ k,k < m ∧ ∀ j,j < r → hd j ≠ k := by
  by_cases c : ∃ k,k < m ∧ ∀ j,j < r → hd j ≠ k
  · exact c
  · refine absurd (h.sur_heads fun k hk => ?_).1 hr
    by_cases d : ∃ j,j < r ∧ hd j = k
    · exact d
    · exact absurd ⟨k,hk,fun j hj e => d ⟨j,hj,e⟩⟩ c
noncomputable def Sums (b : Int) (n m : Nat) (A : Nat → Nat → Int) (x : Nat → Int) (bot : Int) : Prop := ∀ i,i < n → tk b (sm m fun k => A i k * x k) = tk b (bot * A i m)
theorem Sums.rel {b : Int} {n m : Nat} {A : Nat → Nat → Int} {x : Nat → Int} {bot : Int} : Sums b n m A x bot ↔ Rel b n (m + 1) A fun k => if k = m then -bot else x k := by
  have e : ∀ i,sm (m + 1) (fun k => A i k * if k = m then -bot else x k) = sm m (fun k => A i k * x k) - bot * A i m := fun i => by
    rw [sm,if_pos rfl,sm_congr (g := fun k => A i k * x k) fun k hk => by rw [if_neg (by omega)],Int.mul_neg,Int.mul_comm bot]
    omega
  constructor
  · intro h i hi
    show tk b (sm (m + 1) fun k => A i k * if k = m then -bot else x k) = 0
    rw [e]
    exact tk_sub_zero.mpr (h i hi)
  · intro h i hi
    have q : tk b (sm (m + 1) fun k => A i k * if k = m then -bot else x k) = 0 := h i hi
    rw [e] at q
    exact tk_sub_zero.mp q
theorem ClI.sums {b : Int} {n W u m : Nat} {A0 A : Nat → Nat → Int} {hd : Nat → Nat} {r : Nat} {L : List (List Int)} {last : Int} (h : ClI b n W u A0 m A hd r L last) {x : Nat → Int} {bot : Int} (hx : Sums b n m A0 x bot) : Sums b n m (En A hd r) x bot :=
  Sums.rel.mpr ((h.sw.rel.mp (Sums.rel.mp hx)).en hd h.rn)
theorem ClI.none_left {b : Int} {n W u m : Nat} {A0 A : Nat → Nat → Int} {hd : Nat → Nat} {r : Nat} {L : List (List Int)} {last : Int} (h : ClI b n W u A0 m A hd r L last) {x : Nat → Int} {bot : Int} (hD : Dom b) (hb : tk b bot ≠ 0) (hx : Sums b n m A0 x bot) :
    ∀ i,r ≤ i → i < n → tk b (En A hd r i m) = 0 := fun i h1 h2 => by
  have q := h.sums hx i h2
  refine hD bot _ hb ?_
  rw [← q]
  refine tk_sm0 fun k hk => ?_
  rw [Int.mul_comm]
  refine tk_mul0 _ ?_
  by_cases c : ∃ j,j < r ∧ hd j = k
  · obtain ⟨j,hj,e⟩ := c
    rw [← e,En_head hj,if_neg (by omega),tk0]
  · exact h.zero k hk (fun j hj e => c ⟨j,hj,e⟩) i h1 h2
noncomputable def augL (b : Int) (L : List (List Int)) (ws : List Int) : List (List Int) := (List.range L.length).map fun i => (ln L i ++ [co ws i]).map (tk b)
theorem augL_len (b : Int) (L : List (List Int)) (ws : List Int) : (augL b L ws).length = L.length := by rw [augL,List.length_map,List.length_range]
theorem ln_aug {b : Int} {L : List (List Int)} {ws : List Int} {i : Nat} (hi : i < L.length) : ln (augL b L ws) i = (ln L i ++ [co ws i]).map (tk b) := by
  show (augL b L ws).getD i [] = _
  rw [augL,List.getD_eq_getElem?_getD,List.getElem?_map,List.getElem?_range hi]; rfl
noncomputable def aug (b : Int) (L : List (List Int)) (ws : List Int) : Nat → Nat → Int := fun i k => co (ln (augL b L ws) i) k
theorem aug_in {b : Int} {L : List (List Int)} {ws : List Int} {i k m : Nat} (hi : i < L.length) (hm : (ln L i).length = m) (hk : k < m) : aug b L ws i k = tk b (co (ln L i) k) := by
  unfold aug
  rw [ln_aug hi,co_map (tk0 b),co_append,if_pos (by omega)]
theorem aug_end {b : Int} {L : List (List Int)} {ws : List Int} {i m : Nat} (hi : i < L.length) (hm : (ln L i).length = m) : aug b L ws i m = tk b (co ws i) := by
  unfold aug
  rw [ln_aug hi,co_map (tk0 b),co_append,if_neg (by omega),hm,Nat.sub_self,co_zero]
theorem aug_tk {b : Int} {L : List (List Int)} {ws : List Int} (i k : Nat) : tk b (aug b L ws i k) = aug b L ws i k := by
  unfold aug
  by_cases hi : i < L.length
  · rw [ln_aug hi,co_map (tk0 b),tk_tk]
  · have e : ln (augL b L ws) i = [] := by
      unfold ln
      rw [List.getD_eq_getElem?_getD,List.getElem?_eq_none (by rw [augL_len]; omega)]; rfl
    rw [e,co_nil,tk0]
noncomputable def topsL (E : Nat → Int) (hd : Nat → Nat) (wide i : Nat) : List Int := ofF wide fun k => sm i fun h => if k = hd h then E h else 0
theorem topsL_len (E : Nat → Int) (hd : Nat → Nat) (wide i : Nat) : (topsL E hd wide i).length = wide := ofF_len ..
theorem topsL_zero (E : Nat → Int) (hd : Nat → Nat) (wide : Nat) : topsL E hd wide 0 = ofF wide fun _ => 0 := rfl
theorem topsL_step {E : Nat → Int} {hd : Nat → Nat} {wide i : Nat} (hi : hd i < wide) (hu : ∀ h,h < i → hd h ≠ hd i) : (topsL E hd wide i).set (hd i) (E i) = topsL E hd wide (i + 1) := by
  refine co_ext (by rw [List.length_set,topsL_len,topsL_len]) fun k => ?_
  rw [co_set _ _ _ _ (by rw [topsL_len]; exact hi),topsL,topsL,co_ofF,co_ofF]
  by_cases hk : k < wide
  · rw [if_pos hk,if_pos hk,sm]
    by_cases c : k = hd i
    · rw [if_pos c,if_pos c,c,sm_none fun h hh => if_neg fun e => hu h hh e.symm,Int.zero_add]
    · rw [if_neg c,if_neg c,Int.add_zero]
  · rw [if_neg hk,if_neg hk,if_neg (by omega)]
end Dm
namespace Pm
open Rm
noncomputable def Fs (f : Nat → Int) (n : Nat) : Prop := ∀ k,n ≤ k → f k = 0
theorem Fs.co (p : List Int) : Fs (co p) p.length := fun _ h => co_ge h
theorem Fs.mono {f : Nat → Int} {m n : Nat} (h : Fs f m) (hmn : m ≤ n) : Fs f n := fun k hk => h k (by omega)
theorem Fs.add {f g : Nat → Int} {n : Nat} (h : Fs f n) (h' : Fs g n) : Fs (fun k => f k + g k) n := fun k hk => by show f k + g k = 0; rw [h k hk,h' k hk]; rfl
theorem Fs.mul {f : Nat → Int} {n : Nat} (c : Int) (h : Fs f n) : Fs (fun k => c * f k) n := fun k hk => by show c * f k = 0; rw [h k hk,Int.mul_zero]
theorem Fs.cv {f g : Nat → Int} {m n : Nat} (h : Fs f m) (h' : Fs g n) : Fs (Pm.cv f g) (m + n) := fun k hk => cv_zero fun i _ => by
  by_cases c : m ≤ i
  · exact .inl (h i c)
  · exact .inr (h' _ (by omega))
theorem tkz_mul {b x : Int} (y : Int) (h : tk b x = 0) : tk b (y * x) = 0 := by rw [← tk_mul_r,h,Int.mul_zero,tk0]
theorem mon_cancel {b : Int} {m : List Int} (hm : Mon m) {f : Nat → Int} {n : Nat} (hf : Fs f n) (h : ∀ k,m.length - 1 ≤ k → tk b (cv f (co m) k) = 0) : ∀ k,tk b (f k) = 0 := by
  have q : ∀ d j,n ≤ j + d → tk b (f j) = 0 := fun d => by
    induction d with
    | zero => intro j hj; rw [hf j hj,tk0]
    | succ d ih =>
      intro j hj
      have e := h (j + (m.length - 1)) (by omega)
      rw [cv_sm] at e
      have e2 : tk b (sm (j + (m.length - 1) + 1) fun i => f i * co m (j + (m.length - 1) - i)) = tk b (sm (j + (m.length - 1) + 1) fun i => if i = j then f j else 0) := tk_sm fun i hi => by
        by_cases c : i = j
        · rw [if_pos c,c,Nat.add_sub_cancel_left,hm.one,Int.mul_one]
        · rw [if_neg c,tk0]
          by_cases d2 : i < j
          · rw [co_ge (by have := hm.pos; omega),Int.mul_zero,tk0]
          · rw [Int.mul_comm]; exact tkz_mul _ (ih i (by omega))
      rw [e2,sm_single,if_pos (by omega)] at e
      exact e
  exact fun k => q n k (by omega)
noncomputable def Dv (b : Int) (m : List Int) (f : Nat → Int) : Prop := ∃ s n,Fs s n ∧ ∀ k,tk b (f k) = tk b (cv s (co m) k)
theorem Dv.congr {b : Int} {m : List Int} {f g : Nat → Int} (e : ∀ k,tk b (f k) = tk b (g k)) (h : Dv b m f) : Dv b m g := by
  obtain ⟨s,n,hs,h⟩ := h
  exact ⟨s,n,hs,fun k => by rw [← e,h]⟩
theorem Dv.zero (b : Int) (m : List Int) : Dv b m fun _ => 0 := ⟨fun _ => 0,0,fun _ _ => rfl,fun k => by rw [cv_zero fun i _ => .inl rfl]⟩
theorem Dv.add {b : Int} {m : List Int} {f g : Nat → Int} (h : Dv b m f) (h' : Dv b m g) : Dv b m fun k => f k + g k := by
  obtain ⟨s,n,hs,h⟩ := h
  obtain ⟨s',n',hs',h'⟩ := h'
  exact ⟨fun k => s k + s' k,n + n',(hs.mono (by omega)).add (hs'.mono (by omega)),fun k => by rw [cv_addl]; exact tk_congr_add (h k) (h' k)⟩
theorem Dv.smul {b : Int} {m : List Int} {f : Nat → Int} (c : Int) (h : Dv b m f) : Dv b m fun k => c * f k := by
  obtain ⟨s,n,hs,h⟩ := h
  exact ⟨fun k => c * s k,n,hs.mul c,fun k => by rw [cv_mull,← tk_mul_r,h,tk_mul_r]⟩
theorem Dv.sub {b : Int} {m : List Int} {f g : Nat → Int} (h : Dv b m f) (h' : Dv b m g) : Dv b m fun k => f k - g k :=
  (h.add (h'.smul (-1))).congr fun k => by rw [show f k + -1 * g k = f k - g k by omega]
theorem Dv.mul {b : Int} {m : List Int} {f g : Nat → Int} {n : Nat} (hg : Fs g n) (h : Dv b m f) : Dv b m (cv g f) := by
  obtain ⟨s,n',hs,h⟩ := h
  exact ⟨cv g s,n + n',hg.cv hs,fun k => by rw [cv_assoc]; exact cv_tk (fun i _ => rfl) fun i _ => h i⟩
theorem Dv.self {b : Int} {m : List Int} {g : Nat → Int} {n : Nat} (hg : Fs g n) : Dv b m (cv g (co m)) := ⟨g,n,hg,fun _ => rfl⟩
theorem Dv.short {b : Int} {m : List Int} (hm : Mon m) {f : Nat → Int} (hf : Fs f (m.length - 1)) (h : Dv b m f) : ∀ k,tk b (f k) = 0 := by
  obtain ⟨s,n,hs,h⟩ := h
  have z := mon_cancel (b := b) hm hs fun k hk => by rw [← h,hf k hk,tk0]
  intro k
  rw [h,← tk0 b,← cv_zero (f := fun _ => (0 : Int)) (g := co m) (k := k) fun i _ => .inl rfl]
  exact cv_tk (fun i _ => by rw [z,tk0]) fun i _ => rfl
noncomputable def tp (P : List Int) (a : Nat → Int) (k : Nat) : Int := sm (P.length - 1 - k) fun i => co P (k + 1 + i) * a i
theorem tp_fs (P : List Int) (a : Nat → Int) : Fs (tp P a) (P.length - 1) := fun k hk => by unfold tp; rw [show P.length - 1 - k = 0 by omega]; rfl
theorem tp_tk {b : Int} {P : List Int} {a a' : Nat → Int} (h : ∀ n,tk b (a n) = tk b (a' n)) (k : Nat) : tk b (tp P a k) = tk b (tp P a' k) := tk_sm fun i _ => by rw [← tk_mul_r,h,tk_mul_r]
theorem tp_lin (P : List Int) (c : Int) (a a' : Nat → Int) (k : Nat) : tp P (fun n => c * a n + a' n) k = c * tp P a k + tp P a' k := by
  unfold tp
  rw [← sm_mul,← sm_add]
  refine sm_congr fun i _ => ?_
  rw [Int.mul_add,Int.mul_left_comm]
theorem tp_shift {b : Int} {P : List Int} (hP : 0 < P.length) {a : Nat → Int} (h0 : tk b (ks P a 0) = 0) (k : Nat) : tk b (if k = 0 then 0 else tp P a (k - 1)) = tk b (tp P (fun n => a (n + 1)) k + a 0 * co P k) := by
  by_cases c : k = 0
  · rw [if_pos c,c,tk0,← h0]
    refine congrArg (tk b) ?_
    unfold ks tp
    obtain ⟨N,hN⟩ : ∃ N,P.length = N + 1 := ⟨P.length - 1,by omega⟩
    rw [hN,sm_head,Nat.add_sub_cancel,Nat.sub_zero,Int.add_comm,Int.mul_comm (co P 0)]
    congr 1
    exact sm_congr fun i _ => by rw [Nat.zero_add,Nat.zero_add,Nat.add_comm 1 i]
  · rw [if_neg c]
    by_cases d : k < P.length
    · refine congrArg (tk b) ?_
      unfold tp
      rw [show P.length - 1 - (k - 1) = (P.length - 1 - k) + 1 by omega,sm_head,Int.add_comm]
      congr 1
      · exact sm_congr fun i _ => by rw [show k - 1 + 1 + (i + 1) = k + 1 + i by omega]
      · rw [show k - 1 + 1 + 0 = k by omega,Int.mul_comm]
    · rw [tp_fs P a (k - 1) (by omega),tp_fs P _ k (by omega),co_ge (by omega),Int.mul_zero]; rfl
theorem cv_cons (x : Int) (q : List Int) (f : Nat → Int) (k : Nat) : cv (co (x :: q)) f k = x * f k + (if k = 0 then 0 else cv (co q) f (k - 1)) := by
  cases k with
  | zero => rw [cv,co_zero,if_pos rfl,Int.add_zero]
  | succ k =>
    rw [cv,co_zero,if_neg (by omega),Nat.add_sub_cancel]
    congr 1
theorem cv_x (q f : Nat → Int) (k : Nat) : (if k = 0 then 0 else cv q f (k - 1)) = cv q (fun i => if i = 0 then 0 else f (i - 1)) k := by
  cases k with
  | zero => rw [if_pos rfl,cv,if_pos rfl,Int.mul_zero]
  | succ k => rw [if_neg (by omega),Nat.add_sub_cancel,cv_last,if_pos rfl,Int.mul_zero,Int.add_zero]; rfl
theorem ks_cons (x : Int) (q : List Int) (a : Nat → Int) (n : Nat) : ks (x :: q) a n = x * a n + ks q (fun n => a (n + 1)) n := by
  unfold ks
  rw [List.length_cons,sm_head,co_zero,Nat.add_zero]
  congr 1
theorem top_acts {b : Int} {P : List Int} (hP : 0 < P.length) : ∀ (q : List Int) {a : Nat → Int},Kp b P a → Dv b P fun k => cv (co q) (tp P a) k - tp P (ks q a) k
  | [],a,_ => (Dv.zero b P).congr fun k => by
    rw [cv_zero fun i _ => .inl (co_nil i)]
    have : tp P (ks [] a) k = 0 := sm_none fun i _ => by show co P (k + 1 + i) * 0 = 0; exact Int.mul_zero _
    rw [this]; rfl
  | x :: q,a,h => by
    have h1 : Kp b P fun n => a (n + 1) := fun n => by
      have e : ks P (fun n => a (n + 1)) n = ks P a (n + 1) := sm_congr fun k _ => by show _ * a (n + k + 1) = _ * a (n + 1 + k); rw [show n + k + 1 = n + 1 + k by omega]
      rw [e]; exact h (n + 1)
    have ih := top_acts hP q h1
    have d := Dv.self (b := b) (m := P) ((Fs.co q).mul (a 0))
    refine (ih.add d).congr fun k => ?_
    have e1 : tk b (if k = 0 then 0 else cv (co q) (tp P a) (k - 1)) = tk b (cv (co q) (tp P fun n => a (n + 1)) k + a 0 * cv (co q) (co P) k) := by
      rw [cv_x,← cv_mull,cv_tk (fun i _ => rfl) fun i _ => tp_shift hP (h 0) i,cv_addr]
      congr 2
      rw [cv_comm,cv_mull,cv_mull,cv_comm]
    have e2 : tp P (ks (x :: q) a) k = x * tp P a k + tp P (ks q fun n => a (n + 1)) k := by
      rw [← tp_lin]
      unfold tp
      exact sm_congr fun i _ => by rw [ks_cons]
    rw [cv_cons,e2,cv_mull]
    have e3 := tk_congr_add e1 (rfl : tk b (-(tp P (ks q fun n => a (n + 1)) k)) = _)
    rw [show x * tp P a k + (if k = 0 then 0 else cv (co q) (tp P a) (k - 1)) - (x * tp P a k + tp P (ks q fun n => a (n + 1)) k) = (if k = 0 then 0 else cv (co q) (tp P a) (k - 1)) + -(tp P (ks q fun n => a (n + 1)) k) by omega,e3]
    refine congrArg (tk b) ?_
    omega
theorem top_none {b : Int} {P : List Int} (hm : Mon P) {e : Nat → Int} (h : ∀ k,tk b (tp P e k) = 0) : ∀ n,n < P.length - 1 → tk b (e n) = 0 := fun n => by
  induction n using Nat.strongRecOn with
  | ind n ih =>
    intro hn
    have q := h (P.length - 1 - 1 - n)
    unfold tp at q
    rw [show P.length - 1 - (P.length - 1 - 1 - n) = n + 1 by omega,sm] at q
    have z : tk b (sm n fun i => co P (P.length - 1 - 1 - n + 1 + i) * e i) = 0 := by
      have := tk_sm (b := b) (n := n) (f := fun i => co P (P.length - 1 - 1 - n + 1 + i) * e i) (g := fun _ => 0) fun i hi => by rw [tk0]; exact tkz_mul _ (ih i hi (by omega))
      rw [this,sm_zero,tk0]
    rw [← tk_add_l,z,Int.zero_add,show P.length - 1 - 1 - n + 1 + n = P.length - 1 by omega,hm.one,Int.one_mul] at q
    exact q
theorem keeps_iff {b : Int} {rule : List Int} {a : Nat → Int} (ha : ∀ n,rule.length ≤ n → tk b (a n) = tk b (S rule a n rule.length)) (q : List Int) :
    Kp b q a ↔ Dv b (ofRule b rule) (cv (co q) (tp (ofRule b rule) a)) := by
  have hm := ofRule_mon b rule
  have hK : Kp b (ofRule b rule) a := Kp.ofRule ha
  have A := top_acts hm.pos q hK
  constructor
  · intro h
    have z : Dv b (ofRule b rule) (tp (ofRule b rule) (ks q a)) := (Dv.zero b _).congr fun k => by
      have := tp_tk (b := b) (P := ofRule b rule) (a := ks q a) (a' := fun _ => 0) (fun n => by rw [h n,tk0]) k
      rw [this]
      exact (congrArg (tk b) (show tp (ofRule b rule) (fun _ => 0) k = 0 from sm_none fun i _ => Int.mul_zero _)).symm
    exact (A.add z).congr fun k => by rw [Int.sub_add_cancel]
  · intro h
    have z : Dv b (ofRule b rule) (tp (ofRule b rule) (ks q a)) := (h.sub A).congr fun k => by
      rw [show cv (co q) (tp (ofRule b rule) a) k - (cv (co q) (tp (ofRule b rule) a) k - tp (ofRule b rule) (ks q a) k) = tp (ofRule b rule) (ks q a) k by omega]
    have n0 := top_none hm (z.short hm (tp_fs _ _))
    rw [ofRule_len,Nat.add_sub_cancel] at n0
    exact ks_all ha n0
structure GcdW (b : Int) (p : List Int) (t : Nat → Int) (g : List Int) : Prop where
  mon : Mon g
  one : Dv b g (co p)
  two : Dv b g t
  sum : ∃ (N : Int) (u v : Nat → Int) (n : Nat),tk b N ≠ 0 ∧ Fs u n ∧ Fs v n ∧ ∀ k,tk b (N * co g k) = tk b (cv u (co p) k + cv v t k)
theorem div_ex {b : Int} {m : List Int} (hm : Mon m) {p : List Int} (hp : ∀ k,tk b (co p k) = co p k) : ∃ q r,Div b p m q r := by
  have go : ∀ d,d ≤ p.length - (m.length - 1) → ∃ o l,DivI b p m (p.length - (m.length - 1) - d) o l := fun d => by
    induction d with
    | zero => intro _; exact ⟨_,_,DivI.start hp⟩
    | succ d ih =>
      intro hd
      obtain ⟨o,l,I⟩ := ih (by omega)
      obtain ⟨s,hs⟩ : ∃ s,p.length - (m.length - 1) - d = s + 1 := ⟨p.length - (m.length - 1) - d - 1,by omega⟩
      rw [hs] at I
      refine ⟨o.set s (co l (s + (m.length - 1))),ofF l.length fun k => lf b (co l (s + (m.length - 1))) s m.length l m k,?_⟩
      rw [show p.length - (m.length - 1) - (d + 1) = s by omega]
      refine I.step hm (by omega) (ofF_len ..) fun k => ?_
      rw [co_ofF]
      by_cases c : k < l.length
      · rw [if_pos c]
      · rw [if_neg c]
        have hl := I.ll
        have hmp := hm.pos
        unfold lf
        rw [if_neg (by omega),co_ge (by omega)]
  obtain ⟨o,l,I⟩ := go _ (Nat.le_refl _)
  rw [Nat.sub_self] at I
  exact ⟨_,_,I.stop hm⟩
theorem dv_of_times {b : Int} (hD : ∀ x y,tk b x ≠ 0 → tk b (x * y) = 0 → tk b y = 0) {L : List Int} (hL : Mon L) {N : Int} (hN : tk b N ≠ 0) {f : Nat → Int} {n : Nat} (hf : Fs f n) (h : Dv b L fun k => N * f k) : Dv b L f := by
  obtain ⟨o,r,D⟩ := div_ex (b := b) hL (p := ofF n fun k => tk b (f k)) fun k => by
    rw [co_ofF]; split
    · exact tk_tk ..
    · exact tk0 b
  have ef : ∀ k,tk b (co (ofF n fun k => tk b (f k)) k) = tk b (f k) := fun k => by
    rw [co_ofF]
    by_cases c : k < n
    · rw [if_pos c,tk_tk]
    · rw [if_neg c,hf k (by omega)]
  have e : ∀ k,tk b (f k) = tk b (cv (co o) (co L) k + co r k) := fun k => by rw [D.eq,ef]
  have z : Dv b L fun k => N * co r k := (h.sub ((Dv.self (b := b) (m := L) (Fs.co o)).smul N)).congr fun k => by
    rw [show N * f k - N * cv (co o) (co L) k = N * (f k - cv (co o) (co L) k) by rw [Int.mul_sub],← tk_mul_r,← tk_mul_r b N (co r k)]
    congr 2
    have := e k
    have q := tk_congr_add this (rfl : tk b (-cv (co o) (co L) k) = _)
    rw [show f k - cv (co o) (co L) k = f k + -cv (co o) (co L) k by omega,q]
    exact congrArg (tk b) (by omega)
  have hr : Fs (fun k => N * co r k) (L.length - 1) := ((Fs.co r).mono (by have := D.short; omega)).mul N
  have z0 := z.short hL hr
  refine ⟨co o,o.length,Fs.co o,fun k => ?_⟩
  rw [e,← tk_add_r,hD N _ hN (z0 k),Int.add_zero]
theorem GcdW.keeps {b : Int} (hD : ∀ x y,tk b x ≠ 0 → tk b (x * y) = 0 → tk b y = 0) {rule : List Int} {a : Nat → Int} (ha : ∀ n,rule.length ≤ n → tk b (a n) = tk b (S rule a n rule.length)) {g L : List Int} (h : GcdW b (ofRule b rule) (tp (ofRule b rule) a) g) (hL : Mon L)
    (hP : ∀ k,tk b (co (ofRule b rule) k) = tk b (cv (co L) (co g) k)) (q : List Int) : Kp b q a ↔ Dv b L (co q) := by
  rw [keeps_iff ha q]
  generalize ofRule b rule = P at h hP
  obtain ⟨t,nt,ht,hT⟩ := h.two
  obtain ⟨N,u,v,n,hN,hu,hv,hs⟩ := h.sum
  generalize tp P a = T at h hT hs
  have bez : ∀ k,tk b ((if k = 0 then N else 0) - (cv u (co L) k + cv v t k)) = 0 := by
    refine mon_cancel (b := b) h.mon (n := 1 + (n + L.length) + (n + nt)) (fun k hk => ?_) fun k _ => ?_
    · show (if k = 0 then N else 0) - (cv u (co L) k + cv v t k) = 0
      rw [if_neg (by omega),hu.cv (Fs.co L) k (by omega),hv.cv ht k (by omega)]; rfl
    · have e : cv (fun k => (if k = 0 then N else 0) - (cv u (co L) k + cv v t k)) (co g) k = N * co g k + -1 * (cv u (cv (co L) (co g)) k + cv v (cv t (co g)) k) := by
        rw [← cv_assoc,← cv_assoc,← cv_addl,← cv_mull]
        have e2 : N * co g k = cv (fun k => if k = 0 then N else 0) (co g) k := by rw [cv_point,if_pos (Nat.zero_le _),Nat.sub_zero]
        rw [e2,← cv_addl]
        refine cv_congr (fun i _ => ?_) fun i _ => rfl
        omega
      rw [e,← tk_add_l,hs,tk_add_l]
      have e3 : tk b (cv u (co P) k + cv v T k) = tk b (cv u (cv (co L) (co g)) k + cv v (cv t (co g)) k) := tk_congr_add (cv_tk (fun i _ => rfl) fun i _ => hP i) (cv_tk (fun i _ => rfl) fun i _ => hT i)
      have e4 := tk_congr_add e3 (rfl : tk b (-1 * (cv u (cv (co L) (co g)) k + cv v (cv t (co g)) k)) = _)
      rw [e4,show ∀ x : Int,x + -1 * x = 0 from fun x => by omega,tk0]
  constructor
  · rintro ⟨s,ns,hs',e⟩
    have qt : ∀ k,tk b (cv (co q) t k - cv s (co L) k) = 0 := by
      refine mon_cancel (b := b) h.mon (n := (q.length + nt) + (ns + L.length)) (fun k hk => ?_) fun k _ => ?_
      · show cv (co q) t k - cv s (co L) k = 0
        rw [(Fs.co q).cv ht k (by omega),hs'.cv (Fs.co L) k (by omega)]; rfl
      · have e1 : cv (fun k => cv (co q) t k - cv s (co L) k) (co g) k = cv (co q) (cv t (co g)) k + -1 * cv s (cv (co L) (co g)) k := by
          rw [← cv_assoc,← cv_assoc,← cv_mull,← cv_addl]
          exact cv_congr (fun i _ => by omega) fun i _ => rfl
        have e2 : tk b (cv (co q) (cv t (co g)) k) = tk b (cv s (cv (co L) (co g)) k) := by
          rw [← cv_tk (fun i _ => rfl) (fun i _ => hT i),e,cv_tk (fun i _ => rfl) fun i _ => hP i]
        have e3 := tk_congr_add e2 (rfl : tk b (-1 * cv s (cv (co L) (co g)) k) = _)
        rw [e1,e3,show ∀ x : Int,x + -1 * x = 0 from fun x => by omega,tk0]
    refine dv_of_times hD hL hN (Fs.co q) ?_
    refine ⟨fun k => cv (co q) u k + cv v s k,(q.length + n) + (n + ns),((((Fs.co q).cv hu)).mono (by omega)).add ((hv.cv hs').mono (by omega)),fun k => ?_⟩
    have e1 : tk b (N * co q k) = tk b (cv (fun k => cv u (co L) k + cv v t k) (co q) k) := by
      have e2 : N * co q k = cv (fun k => if k = 0 then N else 0) (co q) k := by rw [cv_point,if_pos (Nat.zero_le _),Nat.sub_zero]
      rw [e2]
      exact cv_tk (fun i _ => tk_sub_zero.mp (bez i)) fun i _ => rfl
    rw [e1,cv_addl,cv_addl]
    refine tk_congr_add ?_ ?_
    · exact congrArg (tk b) ((cv_comm ..).trans (cv_assoc ..).symm)
    · rw [cv_assoc,cv_assoc]
      refine cv_tk (fun i _ => rfl) fun i _ => ?_
      rw [cv_comm]
      exact tk_sub_zero.mp (qt i)
  · rintro ⟨s,ns,hs',e⟩
    refine ⟨cv s t,ns + nt,hs'.cv ht,fun k => ?_⟩
    rw [cv_tk (fun i _ => e i) (fun i _ => hT i),cv_tk (f := cv s t) (fun i _ => rfl) (fun i _ => hP i)]
    refine congrArg (tk b) ?_
    rw [cv_assoc,cv_assoc]
    refine cv_congr (fun i _ => rfl) fun i _ => ?_
    rw [← cv_assoc,← cv_assoc]
    exact cv_congr (fun j _ => cv_comm ..) fun j _ => rfl
end Pm
namespace Om
noncomputable def Prime (p : Nat) : Prop := 2 ≤ p ∧ ∀ d,d ∣ p → d = 1 ∨ d = p
theorem Prime.cop {p x : Nat} (h : Prime p) (hx : ¬ p ∣ x) : Nat.Coprime p x := by
  rcases h.2 _ (Nat.gcd_dvd_left p x) with e | e
  · exact e
  · exact absurd (e ▸ Nat.gcd_dvd_right p x) hx
theorem Prime.dvd {p x y : Nat} (h : Prime p) (hd : p ∣ x * y) : p ∣ x ∨ p ∣ y := by
  by_cases c : p ∣ x
  · exact .inl c
  · exact .inr ((h.cop c).dvd_of_dvd_mul_left hd)
noncomputable def ch : Nat → Nat → Nat
  | _,0 => 1
  | 0,_ + 1 => 0
  | n + 1,k + 1 => ch n k + ch n (k + 1)
theorem ch_zero (n : Nat) : ch n 0 = 1 := by cases n <;> rfl
theorem ch_out : ∀ (n k : Nat),n < k → ch n k = 0
  | 0,k + 1,_ => rfl
  | n + 1,k + 1,h => by rw [ch,ch_out n k (by omega),ch_out n (k + 1) (by omega)]
theorem ch_self : ∀ n,ch n n = 1
  | 0 => rfl
  | n + 1 => by rw [ch,ch_self n,ch_out n (n + 1) (by omega)]
theorem ch_absorb : ∀ n k : Nat,(k + 1) * ch (n + 1) (k + 1) = (n + 1) * ch n k
  | 0,0 => rfl
  | 0,k + 1 => by
    have e : ch (0 + 1) (k + 1 + 1) = ch 0 (k + 1) + ch 0 (k + 1 + 1) := rfl
    rw [e,ch_out 0 (k + 1) (by omega),ch_out 0 (k + 1 + 1) (by omega)]; simp
  | n + 1,0 => by
    have := ch_absorb n 0
    have e : ch (n + 1 + 1) (0 + 1) = ch (n + 1) 0 + ch (n + 1) (0 + 1) := rfl
    simp only [ch_zero] at e ⊢
    rw [e]
    rw [ch_zero] at this
    omega
  | n + 1,k + 1 => by
    have h1 := ch_absorb n k
    have h2 := ch_absorb n (k + 1)
    rw [ch,Nat.mul_add]
    have e1 : (k + 1 + 1) * ch (n + 1) (k + 1) = (n + 1) * ch n k + ch (n + 1) (k + 1) := by rw [Nat.succ_mul,h1]
    rw [e1,h2]
    have e2 : ch (n + 1) (k + 1) = ch n k + ch n (k + 1) := rfl
    rw [e2,Nat.succ_mul (n + 1),Nat.mul_add]
    omega
theorem Prime.dch {p k : Nat} (h : Prime p) (h0 : 0 < k) (hk : k < p) : p ∣ ch p k := by
  obtain ⟨n,rfl⟩ : ∃ n,p = n + 1 := ⟨p - 1,by have := h.1; omega⟩
  obtain ⟨j,rfl⟩ : ∃ j,k = j + 1 := ⟨k - 1,by omega⟩
  have e := ch_absorb n j
  rcases h.dvd (x := j + 1) (y := Om.ch (n + 1) (j + 1)) (by rw [e]; exact Nat.dvd_mul_right ..) with d | d
  · exact absurd (Nat.le_of_dvd (by omega) d) (by omega)
  · exact d
noncomputable def sN (f : Nat → Nat) : Nat → Nat
  | 0 => 0
  | n + 1 => sN f n + f n
theorem sN_congr {f g : Nat → Nat} : ∀ {n : Nat},(∀ k,k < n → f k = g k) → sN f n = sN g n
  | 0,_ => rfl
  | n + 1,h => by rw [sN,sN,sN_congr fun k hk => h k (by omega),h n (by omega)]
theorem sN_add (f g : Nat → Nat) : ∀ n,sN (fun k => f k + g k) n = sN f n + sN g n
  | 0 => rfl
  | n + 1 => by rw [sN,sN,sN,sN_add f g n]; omega
theorem sN_mul (c : Nat) (f : Nat → Nat) : ∀ n,sN (fun k => c * f k) n = c * sN f n
  | 0 => rfl
  | n + 1 => by rw [sN,sN,sN_mul c f n,Nat.mul_add]
theorem sN_head (f : Nat → Nat) : ∀ n,sN f (n + 1) = f 0 + sN (fun k => f (k + 1)) n
  | 0 => by rw [sN,sN,sN]; omega
  | n + 1 => by rw [sN,sN_head f n,sN]; omega
theorem sN_dvd {p : Nat} {f : Nat → Nat} : ∀ {n : Nat},(∀ k,k < n → p ∣ f k) → p ∣ sN f n
  | 0,_ => Nat.dvd_zero _
  | n + 1,h => Nat.dvd_add (sN_dvd fun k hk => h k (by omega)) (h n (by omega))
theorem binom (a : Nat) : ∀ n,(a + 1) ^ n = sN (fun k => ch n k * a ^ k) (n + 1)
  | 0 => by simp [sN,ch]
  | n + 1 => by
    rw [Nat.pow_succ,binom a n,sN_head (fun k => ch (n + 1) k * a ^ k) (n + 1)]
    have e1 : sN (fun k => ch (n + 1) (k + 1) * a ^ (k + 1)) (n + 1) = sN (fun k => a * (ch n k * a ^ k)) (n + 1) + sN (fun k => ch n (k + 1) * a ^ (k + 1)) (n + 1) := by
      rw [← sN_add]
      refine sN_congr fun k _ => ?_
      rw [ch,Nat.add_mul,Nat.pow_succ]
      congr 1
      rw [Nat.mul_comm a,Nat.mul_assoc]
    have e2 : sN (fun k => ch n k * a ^ k) (n + 1) = 1 + sN (fun k => ch n (k + 1) * a ^ (k + 1)) (n + 1) := by
      have e3 : sN (fun k => ch n k * a ^ k) (n + 1 + 1) = sN (fun k => ch n k * a ^ k) (n + 1) := by rw [sN,ch_out n (n + 1) (by omega),Nat.zero_mul,Nat.add_zero]
      rw [← e3,sN_head]
      rw [ch_zero,Nat.pow_zero]
    rw [e1,sN_mul,ch_zero,Nat.pow_zero,Nat.mul_add,Nat.mul_one,Nat.mul_comm]
    omega
theorem Prime.pow {p : Nat} (h : Prime p) : ∀ a : Nat,a ^ p % p = a % p
  | 0 => by rw [Nat.zero_pow (by have := h.1; omega)]
  | a + 1 => by
    obtain ⟨n,rfl⟩ : ∃ n,p = n + 1 := ⟨p - 1,by have := h.1; omega⟩
    have e : (a + 1) ^ (n + 1) = 1 + sN (fun k => ch (n + 1) (k + 1) * a ^ (k + 1)) n + a ^ (n + 1) := by
      rw [binom,sN,sN_head,ch_zero,Nat.pow_zero,ch_self,Nat.one_mul,Nat.one_mul]
    obtain ⟨c,hc⟩ : (n + 1) ∣ sN (fun k => ch (n + 1) (k + 1) * a ^ (k + 1)) n := sN_dvd fun k hk => Nat.dvd_trans (h.dch (by omega) (by omega)) (Nat.dvd_mul_right ..)
    rw [e,hc,show 1 + (n + 1) * c + a ^ (n + 1) = (a ^ (n + 1) + 1) + (n + 1) * c by omega,Nat.add_mul_mod_self_left,Nat.add_mod,Prime.pow h a,← Nat.add_mod]
theorem Prime.fermat {p a : Nat} (h : Prime p) (h0 : a ≠ 0) (ha : a < p) : a ^ (p - 1) % p = 1 := by
  have hp := h.1
  have e := h.pow a
  obtain ⟨n,rfl⟩ : ∃ n,p = n + 1 := ⟨p - 1,by omega⟩
  rw [Nat.add_sub_cancel]
  have one : 1 ≤ a ^ n := Nat.pow_pos (by omega)
  have d : (n + 1) ∣ a * (a ^ n - 1) := by
    have e2 : a * (a ^ n - 1) = a ^ (n + 1) - a := by rw [Nat.mul_sub,Nat.mul_one,Nat.pow_succ,Nat.mul_comm]
    rw [e2]
    exact Nat.dvd_of_mod_eq_zero (Nat.sub_mod_eq_zero_of_mod_eq e)
  rcases h.dvd d with d | ⟨c,hc⟩
  · exact absurd (Nat.le_of_dvd (by omega) d) (by omega)
  · rw [show a ^ n = 1 + (n + 1) * c by omega,Nat.add_mul_mod_self_left]
    exact Nat.mod_eq_of_lt (by omega)
end Om
namespace Pm
open Rm
noncomputable def Kf (f : Nat → Int) (n : Nat) (a : Nat → Int) : Prop := ∀ m,sm n (fun k => f k * a (m + k)) = 0
theorem Kf.less {f : Nat → Int} {n m : Nat} {a : Nat → Int} (h : Kf f m a) (hf : Fs f n) (hm : n ≤ m) : Kf f n a := fun i => by
  rw [← sm_more (n := m) hm fun k h1 _ => by rw [hf k h1,Int.zero_mul]]; exact h i
theorem Kf.lin {f g : Nat → Int} {n : Nat} {a : Nat → Int} (c d : Int) (h : Kf f n a) (h' : Kf g n a) : Kf (fun k => c * f k + d * g k) n a := fun i => by
  have e : sm n (fun k => (c * f k + d * g k) * a (i + k)) = c * sm n (fun k => f k * a (i + k)) + d * sm n (fun k => g k * a (i + k)) := by
    rw [← sm_mul,← sm_mul,← sm_add]
    exact sm_congr fun k _ => by rw [Int.add_mul,Int.mul_assoc,Int.mul_assoc]
  rw [e,h i,h' i]; simp
theorem Kf.shift {f : Nat → Int} {n : Nat} {a : Nat → Int} (s : Nat) (h : Kf f n a) : Kf (fun k => if s ≤ k then f (k - s) else 0) (s + n) a := fun i => by
  have e : ∀ s,sm (s + n) (fun k => (if s ≤ k then f (k - s) else 0) * a (i + k)) = sm n (fun k => f k * a (i + s + k)) := fun s => by
    induction s generalizing i with
    | zero => rw [Nat.zero_add]; exact sm_congr fun k _ => by rw [if_pos (Nat.zero_le _)]; rfl
    | succ s ih =>
      rw [show s + 1 + n = (s + n) + 1 by omega,sm_head,if_neg (by omega),Int.zero_mul,Int.zero_add]
      rw [show i + (s + 1) = (i + 1) + s by omega,← ih (i + 1)]
      refine sm_congr fun k _ => ?_
      rw [show i + (k + 1) = i + 1 + k by omega]
      by_cases c : s ≤ k
      · rw [if_pos c,if_pos (by omega),show k + 1 - (s + 1) = k - s by omega]
      · rw [if_neg c,if_neg (by omega)]
  rw [e]; exact h _
theorem Kf.div {f : Nat → Int} {n : Nat} {a : Nat → Int} {c : Int} (hc : c ≠ 0) (h : Kf (fun k => c * f k) n a) : Kf f n a := fun i => by
  have e := h i
  rw [show (fun k => c * f k * a (i + k)) = fun k => c * (f k * a (i + k)) from funext fun k => Int.mul_assoc ..,sm_mul] at e
  exact (Int.mul_eq_zero.mp e).resolve_left hc
theorem Kf.of {p : List Int} {a : Nat → Int} (h : Kp 0 p a) : Kf (co p) p.length a := fun i => by
  have := h i; rw [tk_zero] at this; exact this
theorem prime_in : ∀ n : Nat,2 ≤ n → ∃ p,Om.Prime p ∧ p ∣ n := fun n => by
  induction n using Nat.strongRecOn with
  | ind n ih =>
    intro hn
    by_cases h : ∀ d,d ∣ n → d = 1 ∨ d = n
    · exact ⟨n,⟨hn,h⟩,Nat.dvd_refl n⟩
    · obtain ⟨d,hd⟩ := Classical.not_forall.mp h
      obtain ⟨hd,hn1⟩ := Classical.not_imp.mp hd
      have h0 : d ≠ 0 := fun e => by rw [e] at hd; have := Nat.eq_zero_of_zero_dvd hd; omega
      have hl := Nat.le_of_dvd (by omega) hd
      have h1 : d ≠ 1 := fun e => hn1 (.inl e)
      have h2 : d ≠ n := fun e => hn1 (.inr e)
      obtain ⟨p,hp,hq⟩ := ih d (by omega) (by omega)
      exact ⟨p,hp,Nat.dvd_trans hq hd⟩
theorem least_of {Q : Nat → Prop} (h : ∃ n,Q n) : ∃ n,Q n ∧ ∀ m,Q m → n ≤ m := by
  obtain ⟨n,hn⟩ := h
  induction n using Nat.strongRecOn with
  | ind n ih =>
    by_cases c : ∃ m,m < n ∧ Q m
    · obtain ⟨m,h1,h2⟩ := c; exact ih m h1 h2
    · exact ⟨n,hn,fun m hm => by
        by_cases d : m < n
        · exact absurd ⟨m,d,hm⟩ c
        · omega⟩
theorem nat_dvd {p : Nat} {x : Int} : (p : Int) ∣ x ↔ p ∣ x.natAbs := Int.ofNat_dvd_left
theorem prime_mul {p : Nat} (hp : Om.Prime p) {x y : Int} (h : (p : Int) ∣ x * y) : (p : Int) ∣ x ∨ (p : Int) ∣ y := by
  rw [nat_dvd,Int.natAbs_mul] at h
  rcases hp.dvd h with h | h
  · exact .inl (nat_dvd.mpr h)
  · exact .inr (nat_dvd.mpr h)
theorem dvd_sm {d : Int} {f : Nat → Int} : ∀ {n : Nat},(∀ k,k < n → d ∣ f k) → d ∣ sm n f
  | 0,_ => ⟨0,by rw [Int.mul_zero]; rfl⟩
  | n + 1,h => Int.dvd_add (dvd_sm fun k hk => h k (by omega)) (h n (by omega))
theorem dvd_term {d : Int} {f : Nat → Int} {n j : Nat} (hj : j < n) (h : d ∣ sm n f) (ho : ∀ k,k < n → k ≠ j → d ∣ f k) : d ∣ f j := by
  have e : sm n f = sm n (fun k => if k = j then f j else 0) + sm n (fun k => if k = j then 0 else f k) := by
    rw [← sm_add]
    refine sm_congr fun k _ => ?_
    by_cases c : k = j
    · rw [if_pos c,if_pos c,c,Int.add_zero]
    · rw [if_neg c,if_neg c,Int.zero_add]
  rw [sm_single,if_pos hj] at e
  have h2 : d ∣ sm n (fun k => if k = j then 0 else f k) := dvd_sm fun k hk => by
    by_cases c : k = j
    · rw [if_pos c]; exact ⟨0,by rw [Int.mul_zero]⟩
    · rw [if_neg c]; exact ho k hk c
  have : f j = sm n f - sm n (fun k => if k = j then 0 else f k) := by omega
  rw [this]; exact Int.dvd_sub h h2
theorem gauss {p : Nat} (hp : Om.Prime p) {f g : Nat → Int} (h : ∀ k,(p : Int) ∣ cv f g k) : (∀ k,(p : Int) ∣ f k) ∨ ∀ k,(p : Int) ∣ g k := by
  by_cases hf : ∀ k,(p : Int) ∣ f k
  · exact .inl hf
  by_cases hg : ∀ k,(p : Int) ∣ g k
  · exact .inr hg
  obtain ⟨i,hi,hi'⟩ := least_of (Classical.not_forall.mp hf)
  obtain ⟨j,hj,hj'⟩ := least_of (Classical.not_forall.mp hg)
  have e := h (i + j)
  rw [cv_sm] at e
  have t := dvd_term (j := i) (by omega) e fun k hk hne => by
    by_cases c : k < i
    · have : (p : Int) ∣ f k := Classical.byContradiction fun z => by have := hi' k z; omega
      exact Int.dvd_trans this (Int.dvd_mul_right ..)
    · have : (p : Int) ∣ g (i + j - k) := Classical.byContradiction fun z => by have := hj' _ z; omega
      exact Int.dvd_trans this (Int.dvd_mul_left ..)
  rw [Nat.add_sub_cancel_left] at t
  rcases prime_mul hp t with t | t
  · exact absurd t hi
  · exact absurd t hj
theorem Fs.top {f : Nat → Int} : ∀ {n : Nat},Fs f n → (∀ k,f k = 0) ∨ ∃ d,d < n ∧ f d ≠ 0 ∧ Fs f (d + 1)
  | 0,h => .inl fun k => h k (Nat.zero_le _)
  | n + 1,h => by
    by_cases c : f n = 0
    · have h' : Fs f n := fun k hk => by
        by_cases e : k = n
        · rw [e]; exact c
        · exact h k (by omega)
      rcases Fs.top h' with z | ⟨d,h1,h2,h3⟩
      · exact .inl z
      · exact .inr ⟨d,by omega,h2,h3⟩
    · exact .inr ⟨n,by omega,c,h⟩
structure Lk (a : Nat → Int) (d : Nat) (f : Nat → Int) : Prop where
  fs : Fs f (d + 1)
  ne : f d ≠ 0
  kf : Kf f (d + 1) a
theorem times_least {a f : Nat → Int} {d : Nat} (hf : Lk a d f) (hd : ∀ e g,Lk a e g → d ≤ e) : ∀ (n : Nat) (q : Nat → Int),Fs q n → Kf q n a → ∃ (m : Int) (G : Nat → Int) (N : Nat),m ≠ 0 ∧ Fs G N ∧ ∀ k,m * q k = cv G f k := fun n => by
  induction n using Nat.strongRecOn with
  | ind n ih =>
    intro q hq hk
    rcases hq.top with z | ⟨e,hen,hne,hfe⟩
    · exact ⟨1,fun _ => 0,0,by decide,fun _ _ => rfl,fun k => by rw [z k,cv_zero fun i _ => .inl rfl]; rfl⟩
    · have hke : Kf q (e + 1) a := hk.less hfe (by omega)
      have hde := hd e q ⟨hfe,hne,hke⟩
      have ks := hf.kf.shift (e - d)
      rw [show e - d + (d + 1) = e + 1 by omega] at ks
      have kl := hke.lin (f d) (-(q e)) ks
      have fl : Fs (fun k => f d * q k + -(q e) * (if e - d ≤ k then f (k - (e - d)) else 0)) e := fun k hk => by
        show f d * q k + -(q e) * (if e - d ≤ k then f (k - (e - d)) else 0) = 0
        rw [if_pos (by omega)]
        by_cases c : k = e
        · rw [c,show e - (e - d) = d by omega,Int.neg_mul,Int.mul_comm (q e),Int.add_right_neg]
        · rw [hfe k (by omega),hf.fs (k - (e - d)) (by omega),Int.mul_zero,Int.mul_zero]; rfl
      obtain ⟨m,G,N,hm,hG,hE⟩ := ih e hen _ fl (kl.less fl (by omega))
      refine ⟨m * f d,fun k => G k + m * q e * (if k = e - d then 1 else 0),N + (e - d + 1),Int.mul_ne_zero hm hf.ne,fun k hk => ?_,fun k => ?_⟩
      · show G k + m * q e * (if k = e - d then 1 else 0) = 0
        rw [hG k (by omega),if_neg (by omega),Int.mul_zero]; rfl
      · rw [cv_addl,cv_mull,cv_point,← hE k]
        by_cases c : e - d ≤ k
        · rw [if_pos c,if_pos c,Int.mul_add,Int.one_mul,Int.neg_mul,Int.mul_neg,Int.mul_assoc,Int.mul_assoc,Int.neg_add_cancel_right]
        · rw [if_neg c,if_neg c,Int.mul_add]; simp [Int.mul_assoc]
theorem fatou {a : Nat → Int} {P : List Int} (hP : Mon P) (hk : Kp 0 P a) : ∃ L,Mon L ∧ Py 0 L ∧ Kp 0 L a ∧ L.length ≤ P.length ∧ (∀ q,Kp 0 q a → Dv 0 L (co q)) ∧ ∀ e g,Lk a e g → L.length - 1 ≤ e := by
  have hp := hP.pos
  have p0 : Lk a (P.length - 1) (co P) := ⟨by rw [show P.length - 1 + 1 = P.length by omega]; exact Fs.co P,by rw [hP.one]; decide,by rw [show P.length - 1 + 1 = P.length by omega]; exact Kf.of hk⟩
  obtain ⟨d,⟨f0,hf0⟩,hd⟩ := least_of (Q := fun d => ∃ f,Lk a d f) ⟨_,_,p0⟩
  have hd' : ∀ e g,Lk a e g → d ≤ e := fun e g h => hd e ⟨g,h⟩
  obtain ⟨c,⟨f,hf,hc⟩,hc'⟩ := least_of (Q := fun c => ∃ f,Lk a d f ∧ (f d).natAbs = c) ⟨_,f0,hf0,rfl⟩
  obtain ⟨m0,G0,N0,hm0,hG0,hE0⟩ := times_least hf hd' P.length (co P) (Fs.co P) (Kf.of hk)
  obtain ⟨n,⟨m,G,N,hm,hG,hE,hn⟩,hn'⟩ := least_of (Q := fun n => ∃ (m : Int) (G : Nat → Int) (N : Nat),m ≠ 0 ∧ Fs G N ∧ (∀ k,m * co P k = cv G f k) ∧ m.natAbs = n) ⟨_,m0,G0,N0,hm0,hG0,hE0,rfl⟩
  have h1 : m.natAbs = 1 := by
    by_cases c2 : m.natAbs = 1
    · exact c2
    · have h0 : m.natAbs ≠ 0 := by omega
      obtain ⟨p,hp,hd⟩ := prime_in m.natAbs (by omega)
      have hpp := hp.1
      have hp0 : (p : Int) ≠ 0 := by omega
      obtain ⟨m',em⟩ := nat_dvd.mpr hd
      have hm' : m' ≠ 0 := fun z => hm (by rw [em,z,Int.mul_zero])
      rcases gauss hp (f := G) (g := f) fun k => by rw [← hE k,em,Int.mul_assoc]; exact Int.dvd_mul_right .. with z | z
      · exfalso
        obtain ⟨G',hg⟩ := Classical.skolem.mp z
        refine absurd (hn' m'.natAbs ⟨m',G',N,hm',fun k hk => ?_,fun k => ?_,rfl⟩) ?_
        · have := hg k
          rw [hG k hk] at this
          exact (Int.mul_eq_zero.mp this.symm).resolve_left hp0
        · refine Int.eq_of_mul_eq_mul_left hp0 ?_
          rw [← cv_mull,← Int.mul_assoc,← em,hE k]
          exact cv_congr (fun i _ => hg i) fun _ _ => rfl
        · rw [← hn,em,Int.natAbs_mul,Int.natAbs_natCast]
          have : 0 < m'.natAbs := by omega
          have : 2 * m'.natAbs ≤ p * m'.natAbs := Nat.mul_le_mul_right _ hpp
          omega
      · exfalso
        obtain ⟨f',hg⟩ := Classical.skolem.mp z
        have e : f = fun k => p * f' k := funext fun k => hg k
        have q : Lk a d f' := ⟨fun k hk => by
          have := hg k
          rw [hf.fs k hk] at this
          exact (Int.mul_eq_zero.mp this.symm).resolve_left hp0,fun z => hf.ne (by rw [hg d,z,Int.mul_zero]),by
          have := hf.kf
          rw [e] at this
          exact this.div hp0⟩
        refine absurd (hc' _ ⟨_,q,rfl⟩) ?_
        have e2 := congrArg Int.natAbs (hg d)
        rw [Int.natAbs_mul,Int.natAbs_natCast,hc] at e2
        have hne := q.ne
        have : 0 < (f' d).natAbs := by omega
        have : 2 * (f' d).natAbs ≤ p * (f' d).natAbs := Nat.mul_le_mul_right _ hpp
        rw [e2]
        show ¬ p * (f' d).natAbs ≤ (f' d).natAbs
        omega
  have hu : (f d).natAbs = 1 := by
    rcases hG.top with z | ⟨e,_,hne,hfe⟩
    · exfalso
      have := hE (P.length - 1)
      rw [hP.one,Int.mul_one,cv_zero fun i _ => .inl (z i)] at this
      exact hm this
    · have t : cv G f (e + d) = G e * f d := by
        rw [cv_sm,sm_congr (g := fun i => if i = e then G e * f d else 0) fun i _ => by
          by_cases c3 : i = e
          · rw [if_pos c3,c3,Nat.add_sub_cancel_left]
          · rw [if_neg c3]
            by_cases c4 : i < e
            · rw [hf.fs _ (by omega),Int.mul_zero]
            · rw [hfe i (by omega),Int.zero_mul],sm_single,if_pos (by omega)]
      have hx : G e * f d ≠ 0 := Int.mul_ne_zero hne hf.ne
      have e1 := hE (e + d)
      rw [t] at e1
      have hl : e + d = P.length - 1 := by
        by_cases c3 : P.length ≤ e + d
        · rw [co_ge c3,Int.mul_zero] at e1; exact absurd e1.symm hx
        · by_cases c4 : e + d = P.length - 1
          · exact c4
          · exfalso
            have e2 := hE (P.length - 1)
            rw [hP.one,Int.mul_one,cv_zero fun i hi => by
              by_cases c5 : e + 1 ≤ i
              · exact .inl (hfe i c5)
              · exact .inr (hf.fs _ (by omega))] at e2
            exact hm e2
      rw [hl,hP.one,Int.mul_one] at e1
      have e3 := congrArg Int.natAbs e1
      rw [Int.natAbs_mul,h1] at e3
      exact Nat.eq_one_of_mul_eq_one_left e3.symm
  have hs : f d * f d = 1 := by
    rcases Int.natAbs_eq (f d) with h | h <;> rw [h,hu] <;> rfl
  have hLc : ∀ k,co (ofF (d + 1) fun k => f d * f k) k = f d * f k := fun k => by
    rw [co_ofF]
    by_cases c3 : k < d + 1
    · rw [if_pos c3]
    · rw [if_neg c3,hf.fs k (by omega),Int.mul_zero]
  have hM : Mon (ofF (d + 1) fun k => f d * f k) := ⟨by rw [ofF_len]; omega,by rw [ofF_len,Nat.add_sub_cancel,hLc,hs]⟩
  have hK : Kp 0 (ofF (d + 1) fun k => f d * f k) a := fun i => by
    rw [tk_zero]
    unfold ks
    rw [ofF_len,sm_congr (g := fun k => f d * (f k * a (i + k))) fun k _ => by rw [hLc,Int.mul_assoc],sm_mul,hf.kf i,Int.mul_zero]
  refine ⟨ofF (d + 1) fun k => f d * f k,hM,⟨?_,fun x _ => tk_zero x⟩,hK,?_,fun q hq => ?_,fun e g h => by rw [ofF_len]; exact hd' e g h⟩
  · refine trim_of_last (fun z => ?_) (by rw [hM.one]; decide)
    have := hM.pos; rw [z] at this; exact absurd this (by decide)
  · rw [ofF_len]; have := hd' _ _ p0; omega
  · obtain ⟨o,r,D⟩ := div_ex (b := 0) hM (p := q) fun k => tk_zero _
    have kr := (D.kp hK).mp hq
    have rn : r = [] := by
      by_cases c3 : r = []
      · exact c3
      · exfalso
        have hl : 0 < r.length := List.length_pos_iff.mpr c3
        have hne := last_ne c3 D.ry.tr
        have := hd' (r.length - 1) (co r) ⟨by rw [show r.length - 1 + 1 = r.length by omega]; exact Fs.co r,hne,by rw [show r.length - 1 + 1 = r.length by omega]; exact Kf.of kr⟩
        have hsh := D.short
        rw [ofF_len] at hsh
        omega
    refine ⟨co o,o.length,Fs.co o,fun k => ?_⟩
    rw [← D.eq k,rn,co_nil,Int.add_zero]
end Pm
namespace Dm
open Pm Rm
theorem cramer_col {n : Nat} (f : Nat → Nat → Int) (x : Nat → Int) {j : Nat} (hj : j < n) : det n (setc f j fun i => sm n fun k => f i k * x k) = x j * det n f := by
  have e0 : (fun i => sm n fun k => f i k * x k) = fun i => sm n fun k => x k * f i k := funext fun i => sm_congr fun k _ => Int.mul_comm ..
  rw [e0,det_colSum f hj x (fun k i => f i k)]
  have e2 : sm n (fun k => x k * det n (setc f j fun i => f i k)) = sm n (fun k => if k = j then x j * det n f else 0) := sm_congr fun k hk => by
    by_cases c : k = j
    · rw [if_pos c,c,setc_same]
    · rw [if_neg c]
      have z : det n (setc f j fun i => f i k) = 0 := by
        rcases Nat.lt_or_gt_of_ne c with l | l
        · exact det_colEq l hj fun i _ => by rw [setc_self,setc_ne (by omega)]
        · exact det_colEq l hk fun i _ => by rw [setc_self,setc_ne (by omega)]
      rw [z,Int.mul_zero]
  rw [e2,sm_single,if_pos hj]
theorem ker_tk {b : Int} {n : Nat} {f : Nat → Nat → Int} {x : Nat → Int} (h : Rel b n n f x) {j : Nat} (hj : j < n) : tk b (x j * det n f) = 0 := by
  have hx : ∀ i,∃ e,i < n → (sm n fun k => f i k * x k) = b * e := fun i => by
    by_cases c : i < n
    · obtain ⟨e,he⟩ := tk_zero_iff.mp (h i c); exact ⟨e,fun _ => he⟩
    · exact ⟨0,fun z => absurd z c⟩
  obtain ⟨e,he⟩ := Classical.skolem.mp hx
  rw [← cramer_col f x hj]
  have e1 : det n (setc f j fun i => sm n fun k => f i k * x k) = det n (setc f j fun i => b * e i + 0) := det_congr fun i k hi _ => by
    unfold setc; split
    · show (sm n fun k => f i k * x k) = b * e i + 0
      rw [he i hi,Int.add_zero]
    · rfl
  rw [e1,det_colLin f hj b e (fun _ => 0),det_colZero f hj,Int.add_zero]
  exact tk_zero_iff.mpr ⟨_,rfl⟩
theorem ind_of_det {b : Int} {n : Nat} {f : Nat → Nat → Int} (hD : Dom b) (h : tk b (det n f) ≠ 0) : Ind b n n f := fun x hx k hk =>
  hD (det n f) (x k) h (by rw [Int.mul_comm]; exact ker_tk hx hk)
structure Cp (b : Int) (n : Nat) (A0 : Nat → Nat → Int) (c : Nat) (A : Nat → Nat → Int) (hd : Nat → Nat) (r : Nat) : Prop where
  sw : Swp n A0 A
  nz : tk b (dt A hd r) ≠ 0
  rn : r ≤ n
  hc : ∀ h,h < r → hd h < c
  up : ∀ h h',h < h' → h' < r → hd h < hd h'
  zero : ∀ k,k < c → (∀ h,h < r → hd h ≠ k) → ∀ i,r ≤ i → i < n → tk b (En A hd r i k) = 0
theorem Cp.bring {b : Int} {n : Nat} {A0 : Nat → Nat → Int} {c : Nat} {A : Nat → Nat → Int} {hd : Nat → Nat} {r : Nat} (h : Cp b n A0 c A hd r) {a : Nat} (hra : r < a) (han : a < n) : Cp b n A0 c (turn A r a) hd r :=
  ⟨.step h.sw hra han,by rw [dt_turn (Nat.le_refl _) (by omega)]; exact h.nz,h.rn,h.hc,h.up,fun k hk hn i h1 h2 => by
    rw [En_turn (Nat.le_refl _) hra]
    split
    · exact h.zero k hk hn a (by omega) han
    · split
      · exact tk_neg0 (h.zero k hk hn r (Nat.le_refl _) (by omega))
      · exact h.zero k hk hn i h1 h2⟩
theorem Cp.free {b : Int} {n : Nat} {A0 : Nat → Nat → Int} {c : Nat} {A : Nat → Nat → Int} {hd : Nat → Nat} {r : Nat} (h : Cp b n A0 c A hd r) (hD : Dom b) (hrn : r < n) (hp : tk b (En A hd r r c) ≠ 0) : Cp b n A0 (c + 1) A (more hd r c) (r + 1) := by
  have hpi : En A hd r r c ≠ 0 := fun z => hp (by rw [z]; exact tk0 b)
  have ml : ∀ j,j < r → more hd r c j = hd j := fun j hj => if_neg (by omega)
  have me : more hd r c r = c := if_pos rfl
  refine ⟨h.sw,by rw [dt_step]; exact hp,by omega,fun j hj => ?_,fun j j' h1 h2 => ?_,fun k hk hn i h1 h2 => ?_⟩
  · by_cases e : j = r
    · rw [e,me]; omega
    · rw [ml j (by omega)]; have := h.hc j (by omega); omega
  · by_cases e : j' = r
    · rw [e,me,ml j (by omega)]; exact h.hc j (by omega)
    · rw [ml j' (by omega),ml j (by omega)]; exact h.up j j' h1 (by omega)
  · have hkc : k ≠ c := fun e => hn r (by omega) (by rw [me,e])
    have hn' : ∀ j,j < r → hd j ≠ k := fun j hj => by rw [← ml j hj]; exact hn j (by omega)
    refine hD _ _ h.nz ?_
    rw [En_step hpi (by omega)]
    exact tk_sub0 (tk_mul0 _ (h.zero k (by omega) hn' i (by omega) h2)) (tk_mul0 _ (h.zero k (by omega) hn' r (Nat.le_refl _) hrn))
theorem Cp.step {b : Int} {n : Nat} {A0 : Nat → Nat → Int} {c : Nat} {A : Nat → Nat → Int} {hd : Nat → Nat} {r : Nat} (h : Cp b n A0 c A hd r) (hD : Dom b) : ∃ A hd r,Cp b n A0 (c + 1) A hd r := by
  by_cases z : ∀ i,r ≤ i → i < n → tk b (En A hd r i c) = 0
  · refine ⟨A,hd,r,h.sw,h.nz,h.rn,fun j hj => by have := h.hc j hj; omega,h.up,fun k hk hn i h1 h2 => ?_⟩
    by_cases e : k = c
    · rw [e]; exact z i h1 h2
    · exact h.zero k (by omega) hn i h1 h2
  · obtain ⟨i,hi⟩ := Classical.not_forall.mp z
    obtain ⟨h1,hi⟩ := Classical.not_imp.mp hi
    obtain ⟨h2,hi⟩ := Classical.not_imp.mp hi
    by_cases e : i = r
    · rw [e] at hi; exact ⟨_,_,_,h.free hD (by omega) hi⟩
    · refine ⟨_,_,_,(h.bring (a := i) (by omega) h2).free hD (by omega) ?_⟩
      rw [En_turn (Nat.le_refl _) (by omega),if_pos rfl]; exact hi
theorem Cp.ex {b : Int} (hD : Dom b) (h1 : tk b 1 ≠ 0) (n : Nat) (A0 : Nat → Nat → Int) : ∀ c,∃ A hd r,Cp b n A0 c A hd r
  | 0 => ⟨A0,fun _ => 0,0,.refl,by rw [dt_zero]; exact h1,Nat.zero_le _,fun h hh => absurd hh (Nat.not_lt_zero _),fun _ _ _ h => absurd h (Nat.not_lt_zero _),fun k hk => absurd hk (Nat.not_lt_zero _)⟩
  | c + 1 => by
    obtain ⟨A,hd,r,h⟩ := Cp.ex hD h1 n A0 c
    exact h.step hD
theorem heads_all {hd : Nat → Nat} {r m : Nat} (hc : ∀ h,h < r → hd h < m) (up : ∀ h h',h < h' → h' < r → hd h < hd h') (sur : ∀ k,k < m → ∃ j,j < r ∧ hd j = k) : r = m ∧ ∀ k,k < m → hd k = k := by
  have ge : ∀ j,j < r → j ≤ hd j := fun j => by
    induction j with
    | zero => intro _; exact Nat.zero_le _
    | succ j ih =>
      intro hj
      have := ih (by omega)
      have := up j (j + 1) (by omega) hj
      omega
  have all : ∀ k,k < m → k < r ∧ hd k = k := fun k => by
    induction k using Nat.strongRecOn with
    | ind k ih =>
      intro hk
      obtain ⟨j,hj,e⟩ := sur k hk
      have g := ge j hj
      by_cases c : j = k
      · rw [← c]; exact ⟨hj,by rw [e,c]⟩
      · have := (ih j (by omega) (by omega)).2
        omega
  refine ⟨?_,fun k hk => (all k hk).2⟩
  by_cases c : r ≤ m
  · by_cases c2 : r = m
    · exact c2
    · have := (all r (by omega)).1; omega
  · have := hc m (by omega)
    have := ge m (by omega)
    omega
theorem det_of_ind {b : Int} {n : Nat} {A0 : Nat → Nat → Int} (hD : Dom b) (h1 : tk b 1 ≠ 0) (hI : Ind b n n A0) : tk b (det n A0) ≠ 0 := by
  obtain ⟨A,hd,r,h⟩ := Cp.ex hD h1 n A0 n
  have H := heads_all h.hc h.up fun k hk => by
    by_cases c : ∃ j,j < r ∧ hd j = k
    · exact c
    · exfalso
      have hn : ∀ j,j < r → hd j ≠ k := fun j hj e => c ⟨j,hj,e⟩
      have R := told_rel (A := A) (hd := hd) (r := r) (m := n) (k := k) (b := b) (n := n) h.hc hk (h.zero k hk hn)
      have z := hI _ (h.sw.rel.mpr R) k hk
      rw [if_pos rfl,sm_none (fun j hj => by rw [if_neg (fun e => hn j hj e.symm)]),Int.zero_sub] at z
      have := tk_neg0 z
      rw [Int.neg_neg] at this
      exact h.nz this
  obtain ⟨e,H⟩ := H
  subst e
  rw [← h.sw.det]
  have := h.nz
  have q : dt A hd r = det r A := det_congr fun i k _ hk => by unfold Bk; rw [H k hk]
  rwa [q] at this
end Dm
namespace Dm
open Pm Rm
noncomputable def hk (a : Nat → Int) : Nat → Nat → Int := fun i j => a (i + j)
theorem ks_hk (x a : Nat → Int) (l i : Nat) : sm l (fun k => hk a i k * x k) = ks (ofF l x) a i := by
  unfold ks
  rw [ofF_len]
  refine sm_congr fun k hk' => ?_
  rw [co_ofF,if_pos hk',Int.mul_comm]; rfl
theorem hank_ne {b : Int} (hD : Dom b) (h1 : tk b 1 ≠ 0) {L : List Int} {a : Nat → Int} (hL : Mon L) (hw : ∀ k,tk b (co L k) = co L k) (hK : Kp b L a) (hm : ∀ q,Kp b q a → Dv b L (co q)) : tk b (det (L.length - 1) (hk a)) ≠ 0 := by
  refine det_of_ind hD h1 fun x hx k hk' => ?_
  have e := ofRule_ruleOf hw hL
  have ha : ∀ n,(ruleOf b L).length ≤ n → tk b (a n) = tk b (S (ruleOf b L) a n (ruleOf b L).length) := Kp.rec (by rw [e]; exact hK)
  have hq : Kp b (ofF (L.length - 1) x) a := ks_all ha fun n hn => by
    rw [ruleOf_len] at hn
    rw [← ks_hk]; exact hx n hn
  have z := (hm _ hq).short hL (by have := Fs.co (ofF (L.length - 1) x); rwa [ofF_len] at this) k
  rwa [co_ofF,if_pos hk'] at z
theorem hank_short {b : Int} (hD : Dom b) {l : Nat} {a : Nat → Int} (h : tk b (det l (hk a)) ≠ 0) {q : List Int} (hq : q.length ≤ l) (hK : Kp b q a) : ∀ k,tk b (co q k) = 0 := fun k => by
  have hI := ind_of_det hD h (co q) fun i hi => by
    rw [ks_hk]
    have e : ks (ofF l (co q)) a i = ks q a i := by
      rw [← ks_more q a i hq]
      unfold ks
      rw [ofF_len]
      exact sm_congr fun k hk' => by rw [co_ofF,if_pos hk']
    rw [e]; exact hK i
  by_cases c : k < l
  · exact hI k c
  · rw [co_ge (by omega),tk0]
theorem Dom.pr {p : Nat} (hp : Om.Prime p) : Dom (p : Int) := fun x y hx h => by
  have h2 := hp.1
  obtain ⟨e,he⟩ := tk_zero_iff.mp h
  rcases prime_mul hp (x := x) (y := y) ⟨e,he⟩ with ⟨z,hz⟩ | ⟨z,hz⟩
  · exact absurd (tk_zero_iff.mpr ⟨z,hz⟩) hx
  · exact tk_zero_iff.mpr ⟨z,hz⟩
end Dm
namespace Pm
open Rm Dm
structure GcZ (P : List Int) (T : Nat → Int) (g : List Int) (N : Int) : Prop where
  mon : Mon g
  py : Py 0 g
  ne : N ≠ 0
  one : Dv 0 g (co P)
  two : Dv 0 g T
  all : ∀ h : List Int,Mon h → Dv 0 h (co P) → Dv 0 h T → Dv 0 h (co g)
  good : ∀ (p : Nat) (s : List Int),Om.Prime p → ¬ (p : Int) ∣ N → Mon s → Dv p s (co P) → Dv p s T → s.length ≤ g.length
theorem Dv.by {b : Int} {m : List Int} {f : Nat → Int} (h : Dv 0 m f) : Dv b m f := by
  obtain ⟨s,n,hs,h⟩ := h
  exact ⟨s,n,hs,fun k => by have := h k; rw [tk_zero,tk_zero] at this; rw [this]⟩
theorem Dv.len {b : Int} (h1 : tk b 1 = 1) {m p : List Int} (hm : Mon m) (hp : Mon p) (h : Dv b m (co p)) : m.length ≤ p.length := by
  by_cases c : m.length ≤ p.length
  · exact c
  · exfalso
    have := h.short hm ((Fs.co p).mono (by omega)) (p.length - 1)
    rw [hp.one,h1] at this
    exact absurd this (by decide)
theorem mon_left {b : Int} (h1 : tk b 1 = 1) {P g : List Int} (hP : Mon P) (hg : Mon g) (h : Dv b g (co P)) : ∃ L : List Int,Mon L ∧ (∀ k,tk b (co L k) = co L k) ∧ L.length + g.length = P.length + 1 ∧ ∀ k,tk b (co P k) = tk b (cv (co L) (co g) k) := by
  have hl := h.len h1 hg hP
  have hp := hP.pos
  have hgp := hg.pos
  obtain ⟨s,n,hs,h⟩ := h
  have key : ∀ d j,n ≤ j + d → P.length - g.length < j → tk b (s j) = 0 := fun d => by
    induction d with
    | zero => intro j hj _; rw [hs j hj,tk0]
    | succ d ih =>
      intro j hj hj2
      have e := h (j + (g.length - 1))
      rw [co_ge (by omega),tk0,cv_sm] at e
      have e2 : tk b (sm (j + (g.length - 1) + 1) fun i => s i * co g (j + (g.length - 1) - i)) = tk b (sm (j + (g.length - 1) + 1) fun i => if i = j then s j else 0) := tk_sm fun i hi => by
        by_cases c : i = j
        · rw [if_pos c,c,Nat.add_sub_cancel_left,hg.one,Int.mul_one]
        · rw [if_neg c,tk0]
          by_cases d2 : i < j
          · rw [co_ge (by omega),Int.mul_zero,tk0]
          · rw [Int.mul_comm]; exact tkz_mul _ (ih i (by omega) (by omega))
      rw [e2,sm_single,if_pos (by omega)] at e
      exact e.symm
  have z : ∀ k,P.length - g.length < k → tk b (s k) = 0 := fun k hk => key n k (by omega) hk
  have t1 : tk b (s (P.length - g.length)) = 1 := by
    have e := h (P.length - 1)
    rw [hP.one,h1,cv_sm] at e
    have e2 : tk b (sm (P.length - 1 + 1) fun i => s i * co g (P.length - 1 - i)) = tk b (sm (P.length - 1 + 1) fun i => if i = P.length - g.length then s (P.length - g.length) else 0) := tk_sm fun i hi => by
      by_cases c : i = P.length - g.length
      · rw [if_pos c,c,show P.length - 1 - (P.length - g.length) = g.length - 1 by omega,hg.one,Int.mul_one]
      · rw [if_neg c,tk0]
        by_cases d2 : i < P.length - g.length
        · rw [co_ge (by omega),Int.mul_zero,tk0]
        · rw [Int.mul_comm]; exact tkz_mul _ (z i (by omega))
    rw [e2,sm_single,if_pos (by omega)] at e
    exact e.symm
  have hc : ∀ k,co (ofF (P.length - g.length + 1) fun k => tk b (s k)) k = tk b (s k) := fun k => by
    rw [co_ofF]
    by_cases c : k < P.length - g.length + 1
    · rw [if_pos c]
    · rw [if_neg c,z k (by omega)]
  refine ⟨ofF (P.length - g.length + 1) fun k => tk b (s k),⟨by rw [ofF_len]; omega,?_⟩,fun k => ?_,by rw [ofF_len]; omega,fun k => ?_⟩
  · rw [ofF_len,Nat.add_sub_cancel,hc,t1]
  · rw [hc,tk_tk]
  · rw [h k]
    exact cv_tk (fun i _ => by rw [hc,tk_tk]) fun i _ => rfl
theorem ofRule_ruleOf_tk {b : Int} {P : List Int} (hP : Mon P) (k : Nat) : tk b (co P k) = tk b (co (ofRule b (ruleOf b P)) k) := by
  have hp := hP.pos
  rw [ofRule,co_append,ofF_len,ruleOf_len]
  by_cases c : k < P.length - 1
  · rw [if_pos c,co_ofF,if_pos c,ruleOf,co_ofF,if_pos (by omega),neg_neg_tk,tk_tk]
    rw [show P.length - 1 - 1 - (P.length - 1 - 1 - k) = k by omega]
  · rw [if_neg c]
    by_cases d : k = P.length - 1
    · rw [d,hP.one,Nat.sub_self]; rfl
    · rw [co_ge (by omega),co_ge (by simp; omega)]
theorem keepsP {b : Int} {P : List Int} {a : Nat → Int} (hm : Mon P) (hK : Kp b P a) (q : List Int) : Kp b q a ↔ Dv b P (cv (co q) (tp P a)) := by
  have A := top_acts hm.pos q hK
  constructor
  · intro h
    have z : Dv b P (tp P (ks q a)) := (Dv.zero b _).congr fun k => by
      have := tp_tk (b := b) (P := P) (a := ks q a) (a' := fun _ => 0) (fun n => by rw [h n,tk0]) k
      rw [this]
      exact (congrArg (tk b) (show tp P (fun _ => 0) k = 0 from sm_none fun i _ => Int.mul_zero _)).symm
    exact (A.add z).congr fun k => by rw [Int.sub_add_cancel]
  · intro h
    have z : Dv b P (tp P (ks q a)) := (h.sub A).congr fun k => by
      rw [show cv (co q) (tp P a) k - (cv (co q) (tp P a) k - tp P (ks q a) k) = tp P (ks q a) k by omega]
    have n0 := top_none hm (z.short hm (tp_fs _ _))
    have ha : ∀ n,(ruleOf b P).length ≤ n → tk b (a n) = tk b (S (ruleOf b P) a n (ruleOf b P).length) := Kp.rec (hK.congr (ofRule_ruleOf_tk hm))
    exact ks_all ha fun n hn => n0 n (by rw [ruleOf_len] at hn; exact hn)
theorem mon_same {b : Int} {m : List Int} (hm : Mon m) {f g : Nat → Int} {n n' : Nat} (hf : Fs f n) (hg : Fs g n') (h : ∀ k,tk b (cv f (co m) k) = tk b (cv g (co m) k)) : ∀ k,tk b (f k) = tk b (g k) := fun k => by
  refine tk_sub_zero.mp (mon_cancel (b := b) hm (f := fun k => f k - g k) (n := n + n') (fun k hk => ?_) (fun k _ => ?_) k)
  · show f k - g k = 0
    rw [hf k (by omega),hg k (by omega)]; rfl
  · have e : cv (fun k => f k - g k) (co m) k = cv f (co m) k + -1 * cv g (co m) k := by
      rw [← cv_mull,← cv_addl]
      exact cv_congr (fun i _ => by omega) fun i _ => rfl
    rw [e,tk_congr_add (h k) rfl,show ∀ x : Int,x + -1 * x = 0 from fun x => by omega,tk0]
theorem gcz_ex {P : List Int} {a : Nat → Int} (hP : Mon P) (hK : Kp 0 P a) : ∃ g L,Mon L ∧ Py 0 L ∧ Kp 0 L a ∧ (∀ q,Kp 0 q a → Dv 0 L (co q)) ∧ L.length + g.length = P.length + 1 ∧ (∀ k,co P k = cv (co L) (co g) k) ∧ GcZ P (tp P a) g (det (L.length - 1) (hk a)) := by
  obtain ⟨L,hL,hLy,hKL,hLP,hall,_⟩ := fatou hP hK
  obtain ⟨g,hg,hgy,hlen,hE⟩ := mon_left (b := 0) rfl hP hL (hall P hK)
  have hE' : ∀ k,co P k = cv (co g) (co L) k := fun k => by have := hE k; rwa [tk_zero,tk_zero] at this
  have hgP : Py 0 g := ⟨trim_of_last (fun z => by have := hg.pos; rw [z] at this; exact absurd this (by decide)) (by rw [hg.one]; decide),fun x _ => tk_zero x⟩
  have hLp := hL.pos
  have hgp := hg.pos
  refine ⟨g,L,hL,hLy,hKL,hall,by omega,fun k => by rw [hE',cv_comm],hg,hgP,?_,⟨co L,L.length,Fs.co L,fun k => by rw [hE',cv_comm]⟩,?_,fun h hh h1 h2 => ?_,fun p s hp hN hs h1 h2 => ?_⟩
  · have := hank_ne Dom.zero (by decide) hL (fun k => tk_zero _) hKL hall
    rwa [tk_zero] at this
  · obtain ⟨s,n,hs,e⟩ := (keepsP hP hK L).mp hKL
    refine ⟨s,n,hs,mon_same hL (tp_fs P a) (hs.cv (Fs.co g)) fun k => ?_⟩
    rw [cv_comm,e k,cv_assoc]
    exact congrArg (tk 0) (cv_congr (fun _ _ => rfl) fun i _ => hE' i)
  · obtain ⟨A,hA,hAy,hAl,hAe⟩ := mon_left (b := 0) rfl hP hh h1
    obtain ⟨B,nB,hB,hBe⟩ := h2
    have hKA : Kp 0 A a := (keepsP hP hK A).mpr ⟨B,nB,hB,fun k => by
      have e1 : tk 0 (cv (co A) (tp P a) k) = tk 0 (cv (co A) (cv B (co h)) k) := cv_tk (fun _ _ => rfl) fun i _ => hBe i
      have e2 : tk 0 (cv B (co P) k) = tk 0 (cv B (cv (co A) (co h)) k) := cv_tk (fun _ _ => rfl) fun i _ => hAe i
      rw [e1,e2,← cv_assoc,← cv_assoc]
      exact congrArg (tk 0) (cv_congr (fun i _ => cv_comm ..) fun _ _ => rfl)⟩
    obtain ⟨C,nC,hC,hCe⟩ := hall A hKA
    refine ⟨C,nC,hC,mon_same hL (Fs.co g) (hC.cv (Fs.co h)) fun k => ?_⟩
    rw [← hE',hAe k,cv_tk (fun i _ => hCe i) fun _ _ => rfl,cv_assoc,cv_assoc]
    exact congrArg (tk 0) (cv_congr (fun _ _ => rfl) fun i _ => cv_comm ..)
  · have hp2 := hp.1
    have hp1 : tk (p : Int) 1 = 1 := by rw [tk_pos (by omega)]; exact Int.emod_eq_of_lt (by decide) (by omega)
    obtain ⟨A,hA,hAy,hAl,hAe⟩ := mon_left (b := p) hp1 hP hs h1
    obtain ⟨B,nB,hB,hBe⟩ := h2
    have hKp : Kp p P a := fun n => by have := hK n; rw [tk_zero] at this; rw [this,tk0]
    have hKA : Kp p A a := (keepsP hP hKp A).mpr ⟨B,nB,hB,fun k => by
      have e1 : tk p (cv (co A) (tp P a) k) = tk p (cv (co A) (cv B (co s)) k) := cv_tk (fun _ _ => rfl) fun i _ => hBe i
      have e2 : tk p (cv B (co P) k) = tk p (cv B (cv (co A) (co s)) k) := cv_tk (fun _ _ => rfl) fun i _ => hAe i
      rw [e1,e2,← cv_assoc,← cv_assoc]
      exact congrArg (tk p) (cv_congr (fun i _ => cv_comm ..) fun _ _ => rfl)⟩
    by_cases c : A.length ≤ L.length - 1
    · exfalso
      have z := hank_short (Dom.pr hp) (fun z => hN (tk_zero_iff.mp z)) c hKA (A.length - 1)
      rw [hA.one,hp1] at z
      exact absurd z (by decide)
    · omega
end Pm
namespace Dm
open Rm Pm
theorem ClI.no_head {b : Int} {n W u m : Nat} {A0 A : Nat → Nat → Int} {hd : Nat → Nat} {r : Nat} {L : List (List Int)} {last : Int} (h : ClI b n W u A0 m A hd r L last) (hD : Dom b) {x : Nat → Int} (hx : Rel b n m A0 x) {k : Nat} (hk : k < m) (h0 : ∀ j,k < j → j < m → x j = 0) (hne : tk b (x k) ≠ 0) : ∀ i,i < r → hd i ≠ k := fun i hi e => by
  have hrn := h.rn
  have q : tk b (sm m fun j => En A hd r i j * x j) = 0 := (h.sw.rel.mp hx).en hd hrn i (by omega)
  have e2 : tk b (sm m fun j => En A hd r i j * x j) = tk b (sm m fun j => if j = k then dt A hd r * x k else 0) := tk_sm fun j hj => by
    by_cases c : j = k
    · rw [if_pos c,c,← e,En_head hi,if_pos rfl]
    · rw [if_neg c]
      by_cases g : k < j
      · rw [h0 j g hj,Int.mul_zero]
      · by_cases z : ∃ i',i' < r ∧ hd i' = j
        · obtain ⟨i',hi',e'⟩ := z
          rw [← e',En_head hi',if_neg,Int.zero_mul]
          intro y
          rw [y] at e
          exact c (by rw [← e',← e])
        · rw [← tk_mul_l,h.ge i hi j (by omega) (fun i' hi' y => z ⟨i',hi',y⟩),Int.zero_mul]
  rw [e2,sm_single,if_pos hk] at q
  exact hne (hD _ _ h.nz q)
end Dm
namespace Pm
open Rm Dm
theorem tk_dvd {p : Int} (hp : p ≠ 0) {x y : Int} : tk p x = tk p y ↔ p ∣ x - y := by
  rw [← tk_sub_zero,tk_zero_iff]
  exact ⟨fun ⟨e,h⟩ => ⟨e,h⟩,fun ⟨e,h⟩ => ⟨e,h⟩⟩
theorem one_tk {p : Nat} (hp : Om.Prime p) : tk (p : Int) 1 = 1 := by
  have := hp.1
  rw [tk_pos (by omega)]; exact Int.emod_eq_of_lt (by decide) (by omega)
theorem Dv.same {b : Int} (h1 : tk b 1 = 1) {m p : List Int} (hm : Mon m) (hp : Mon p) (h : Dv b m (co p)) (hl : m.length = p.length) (k : Nat) : tk b (co p k) = tk b (co m k) := by
  obtain ⟨L,hL,_,hlen,e⟩ := mon_left h1 hp hm h
  have hm0 := hm.pos
  have h2 : L.length = 1 := by omega
  have e0 : co L 0 = 1 := by have := hL.one; rwa [h2] at this
  rw [e k]
  refine congrArg (tk b) ?_
  rw [cv_sm,sm_more (m := 1) (by omega) fun j h3 _ => by rw [co_ge (p := L) (by omega),Int.zero_mul]]
  simp [sm,e0]
structure Seen (g : List Int) (N : Int) (p : Nat) (s : List Int) : Prop where
  mon : Mon s
  nu : ∀ k,tk (p : Int) (co s k) = co s k
  ge : g.length ≤ s.length
  eq : s.length = g.length → ∀ k,(p : Int) ∣ co s k - co g k
  good : ¬ (p : Int) ∣ N → s.length = g.length
theorem In2.to {b : Int} {g p q : List Int} (h : In2 b g [] p) (e : ∀ k,tk b (co p k) = tk b (co q k)) : Dv b g (co q) := by
  obtain ⟨u,h⟩ := h.dv
  exact ⟨co u,u.length,Fs.co u,fun k => by rw [← e,h]⟩
theorem GcZ.seen {P t g : List Int} {N : Int} (h : GcZ P (co t) g N) {p : Nat} (hp : Om.Prime p) {P' t' s : List Int} (eP : ∀ k,tk (p : Int) (co P' k) = tk p (co P k)) (et : ∀ k,tk (p : Int) (co t' k) = tk p (co t k)) (hs : Gcd p P' t' s) : Seen g N p s := by
  have h2 := hp.1
  have h1 := one_tk hp
  have d1 : Dv p s (co P) := hs.one.to eP
  have d2 : Dv p s (co t) := hs.two.to et
  have d3 : Dv p g (co s) := by
    obtain ⟨u,v,e⟩ := hs.sum
    refine ((((h.one.by (b := p))).mul (Fs.co u)).add ((h.two.by (b := p)).mul (Fs.co v))).congr fun k => ?_
    rw [e]
    exact tk_congr_add (cv_tk (fun _ _ => rfl) fun i _ => (eP i).symm) (cv_tk (fun _ _ => rfl) fun i _ => (et i).symm)
  have hge := d3.len h1 h.mon hs.mon
  exact ⟨hs.mon,hs.py.co,hge,fun e k => (tk_dvd (by omega)).mp (d3.same h1 h.mon hs.mon e.symm k),fun z => by
    have := h.good p s hp z hs.mon d1 d2
    omega⟩
theorem GcZ.told {P t g h : List Int} {N : Int} (H : GcZ P (co t) g N) (hh : Mon h) (h1 : Dv 0 h (co P)) (h2 : Dv 0 h (co t)) (hl : g.length ≤ h.length) : h = g := by
  have d := H.all h hh h1 h2
  have := d.len rfl hh H.mon
  exact co_ext (by omega) fun k => by have := d.same rfl hh H.mon (by omega) k; rw [tk_zero,tk_zero] at this; exact this.symm
noncomputable def nr (M x : Int) : Int := if 2 * (x % M) > M then x % M - M else x % M
noncomputable def Nr (M x : Int) : Prop := -M < 2 * x ∧ 2 * x ≤ M
theorem nr_dvd (M x : Int) : M ∣ nr M x - x := by
  have e := Int.emod_add_mul_ediv x M
  unfold nr
  split
  · exact ⟨-(x / M) - 1,by rw [Int.mul_sub,Int.mul_neg]; omega⟩
  · exact ⟨-(x / M),by rw [Int.mul_neg]; omega⟩
theorem nr_near {M : Int} (hM : 0 < M) (x : Int) : Nr M (nr M x) := by
  have h0 := Int.emod_nonneg x (show M ≠ 0 by omega)
  have h1 := Int.emod_lt_of_pos x hM
  unfold nr Nr
  split <;> omega
theorem Nr.eq {M x y : Int} (hM : 0 < M) (hx : Nr M x) (hy : Nr M y) (h : M ∣ x - y) : x = y := by
  obtain ⟨c,hc⟩ := h
  unfold Nr at hx hy
  by_cases c0 : c = 0
  · rw [c0,Int.mul_zero] at hc; omega
  · exfalso
    rcases Int.lt_or_gt_of_ne c0 with l | l
    · have : M * c ≤ M * (-1) := Int.mul_le_mul_of_nonneg_left (by omega) (by omega)
      omega
    · have : M * 1 ≤ M * c := Int.mul_le_mul_of_nonneg_left (by omega) (by omega)
      omega
theorem nr_one {M : Int} (hM : 2 ≤ M) {x : Int} (h : M ∣ x - 1) : nr M x = 1 := Nr.eq (M := M) (by omega) (nr_near (by omega) x) (by unfold Nr; omega) (by
  have := Int.dvd_add (nr_dvd M x) h
  rwa [show nr M x - x + (x - 1) = nr M x - 1 by omega] at this)
theorem dvd_both {M : Int} {p : Nat} (hp : Om.Prime p) (hM : ¬ (p : Int) ∣ M) {x : Int} (h1 : M ∣ x) (h2 : (p : Int) ∣ x) : M * p ∣ x := by
  obtain ⟨y,rfl⟩ := h1
  rcases prime_mul hp h2 with z | ⟨e,he⟩
  · exact absurd z hM
  · exact ⟨e,by rw [he,Int.mul_assoc]⟩
structure WgI (P g : List Int) (N : Int) (told : List Int) (M : Int) (prime : Nat) (ripe : Bool) (bad good : Nat) : Prop where
  mon : Mon told
  ge : g.length ≤ told.length
  le : told.length ≤ P.length
  pos : 0 < M
  div : ∀ q : Nat,Om.Prime q → (q : Int) ∣ M → q ≤ prime
  cong : told.length = g.length → ∀ k,M ∣ co told k - co g k
  near : M ≠ 1 → ∀ k,Nr M (co told k)
  bads : ∃ X : Nat,(X : Int) ∣ N ∧ 2 ^ (19 * bad) ≤ X ∧ ∀ q : Nat,Om.Prime q → q ∣ X → q ≤ prime
  goods : 0 < good → told.length = g.length ∧ 2 ^ (19 * good) ≤ M
  ripes : 2 ≤ good → (∀ k,2 * (co g k).natAbs < 2 ^ (19 * (good - 1))) → ripe = true ∧ told = g
  hi : M ≤ 2 ^ (21 * (bad + good))
  first : M = 1 → told = P
theorem WgI.start {P g : List Int} {N : Int} (hP : Mon P) (hl : g.length ≤ P.length) (prime : Nat) : WgI P g N P 1 prime true 0 0 :=
  ⟨hP,hl,Nat.le_refl _,by decide,fun q hq h => by
    have := hq.1
    have h3 := Int.le_of_dvd (by decide) h
    omega,fun _ k => ⟨_,(Int.one_mul _).symm⟩,fun h => absurd rfl h,⟨1,⟨N,(Int.one_mul N).symm⟩,by decide,fun q hq h => by
    have := hq.1
    have h3 := Nat.le_of_dvd (by decide) h
    omega⟩,fun h => absurd h (by decide),fun h => absurd h (by decide),by decide,fun _ => rfl⟩
theorem bads_step {N : Int} {prime p bad : Nat} (hp : Om.Prime p) (hlt : prime < p) (hbig : 2 ^ 19 ≤ p) (hN : (p : Int) ∣ N) (h : ∃ X : Nat,(X : Int) ∣ N ∧ 2 ^ (19 * bad) ≤ X ∧ ∀ q : Nat,Om.Prime q → q ∣ X → q ≤ prime) :
    ∃ X : Nat,(X : Int) ∣ N ∧ 2 ^ (19 * (bad + 1)) ≤ X ∧ ∀ q : Nat,Om.Prime q → q ∣ X → q ≤ p := by
  obtain ⟨X,h1,h2,h3⟩ := h
  refine ⟨X * p,?_,?_,fun q hq hd => ?_⟩
  · have := dvd_both (M := (X : Int)) hp (fun z => by have := h3 p hp (Int.ofNat_dvd.mp z); omega) h1 hN
    rwa [Int.natCast_mul]
  · rw [Nat.mul_add,Nat.pow_add]
    exact Nat.mul_le_mul h2 hbig
  · rcases hq.dvd hd with z | z
    · have := h3 q hq z; omega
    · exact Nat.le_of_dvd (by omega) z
theorem WgI.stay {P g told s : List Int} {N M : Int} {prime p bad good : Nat} {ripe : Bool} (h : WgI P g N told M prime ripe bad good) (hp : Om.Prime p) (hlt : prime < p) (hbig : 2 ^ 19 ≤ p) (hs : Seen g N p s) (hl : told.length < s.length) : WgI P g N told M p ripe (bad + 1) good := by
  have hN : (p : Int) ∣ N := Classical.byContradiction fun z => by have := hs.good z; have := h.ge; omega
  exact ⟨h.mon,h.ge,h.le,h.pos,fun q hq hd => by have := h.div q hq hd; omega,h.cong,h.near,bads_step hp hlt hbig hN h.bads,h.goods,h.ripes,Int.le_trans h.hi (by
    have : (2 : Nat) ^ (21 * (bad + good)) ≤ 2 ^ (21 * (bad + 1 + good)) := Nat.pow_le_pow_right (by decide) (by omega)
    exact_mod_cast this),h.first⟩
theorem WgI.anew {P g told s : List Int} {N M : Int} {prime p bad good : Nat} {ripe : Bool} (h : WgI P g N told M prime ripe bad good) (hp : Om.Prime p) (hlt : prime < p) (hbig : 2 ^ 19 ≤ p) (hhi : p ≤ 2 ^ 21) (hs : Seen g N p s) (hl : s.length < told.length) :
    ∃ bad' good',bad' + good' = bad + good + 1 ∧ WgI P g N (s.map (nr p)) p p true bad' good' := by
  have hp2 := hp.1
  have hg0 : good = 0 := by
    by_cases c : good = 0
    · exact c
    · have := (h.goods (by omega)).1
      have := hs.ge
      omega
  have hle := h.le
  have hsp := hs.mon.pos
  have hpp : (2 : Int) ≤ p := by omega
  have hc : ∀ k,co (s.map (nr p)) k = nr p (co s k) := fun k => co_map (by unfold nr; rw [Int.zero_emod]; split <;> omega) s k
  have hm : Mon (s.map (nr p)) := ⟨by rw [List.length_map]; exact hsp,by rw [List.length_map,hc,hs.mon.one]; exact nr_one hpp ⟨0,by rw [Int.mul_zero]; rfl⟩⟩
  have hcong : (s.map (nr p)).length = g.length → ∀ k,(p : Int) ∣ co (s.map (nr p)) k - co g k := fun e k => by
    rw [hc]
    have := Int.dvd_add (nr_dvd p (co s k)) (hs.eq (by rwa [List.length_map] at e) k)
    rwa [show nr p (co s k) - co s k + (co s k - co g k) = nr p (co s k) - co g k by omega] at this
  have hnear : (p : Int) ≠ 1 → ∀ k,Nr p (co (s.map (nr p)) k) := fun _ k => by rw [hc]; exact nr_near (by omega) _
  have hdiv : ∀ q : Nat,Om.Prime q → (q : Int) ∣ p → q ≤ p := fun q _ hd => Nat.le_of_dvd (by omega) (Int.ofNat_dvd.mp hd)
  by_cases c : s.length = g.length
  · refine ⟨bad,1,by omega,hm,by rw [List.length_map]; exact hs.ge,by rw [List.length_map]; omega,by omega,hdiv,hcong,hnear,?_,fun _ => ⟨by rw [List.length_map]; exact c,by exact_mod_cast hbig⟩,fun z => absurd z (by decide),?_,fun z => by omega⟩
    · obtain ⟨X,h1,h2,h3⟩ := h.bads
      exact ⟨X,h1,h2,fun q hq hd => by have := h3 q hq hd; omega⟩
    · have : (2 : Nat) ^ 21 ≤ 2 ^ (21 * (bad + 1)) := Nat.pow_le_pow_right (by decide) (by omega)
      exact_mod_cast Nat.le_trans hhi this
  · have hN : (p : Int) ∣ N := Classical.byContradiction fun z => c (hs.good z)
    refine ⟨bad + 1,0,by omega,hm,by rw [List.length_map]; exact hs.ge,by rw [List.length_map]; omega,by omega,hdiv,hcong,hnear,bads_step hp hlt hbig hN h.bads,fun z => absurd z (by decide),fun z => absurd z (by decide),?_,fun z => by omega⟩
    have : (2 : Nat) ^ 21 ≤ 2 ^ (21 * (bad + 1 + 0)) := Nat.pow_le_pow_right (by decide) (by omega)
    exact_mod_cast Nat.le_trans hhi this
theorem WgI.join {P g told s told' : List Int} {N M : Int} {prime p bad good : Nat} {ripe ripe' : Bool} (h : WgI P g N told M prime ripe bad good) (hp : Om.Prime p) (hlt : prime < p) (hbig : 2 ^ 19 ≤ p) (hhi : p ≤ 2 ^ 21) (hs : Seen g N p s) (hl : s.length = told.length)
    (hl' : told'.length = told.length) (ht : ∀ k,k < told.length → ∃ w : Int,(p : Int) ∣ M * w - (co s k - co told k) ∧ co told' k = nr (M * p) (co told k + M * w)) (hr : ripe' = true ↔ told' = told) :
    ∃ bad' good',bad' + good' = bad + good + 1 ∧ WgI P g N told' (M * p) p ripe' bad' good' := by
  have hp2 := hp.1
  have hM := h.pos
  have hpM : ¬ (p : Int) ∣ M := fun z => by have := h.div p hp z; omega
  have hpp : (2 : Int) ≤ p := by omega
  have hMp : (2 : Int) ≤ M * p := by
    have : 1 * (2 : Int) ≤ M * p := Int.mul_le_mul (by omega) hpp (by decide) (by omega)
    omega
  have hle := h.le
  have hge := h.ge
  have htp := h.mon.pos
  have a1 : ∀ k,M ∣ co told' k - co told k := fun k => by
    by_cases c : k < told.length
    · obtain ⟨w,_,e⟩ := ht k c
      rw [e]
      have e1 : M ∣ nr (M * p) (co told k + M * w) - (co told k + M * w) := Int.dvd_trans (Int.dvd_mul_right M p) (nr_dvd _ _)
      have e2 : M ∣ M * w := Int.dvd_mul_right ..
      have := Int.dvd_add e1 e2
      rwa [show nr (M * ↑p) (co told k + M * w) - (co told k + M * w) + M * w = nr (M * ↑p) (co told k + M * w) - co told k by omega] at this
    · rw [co_ge (by omega),co_ge (by omega)]; exact ⟨0,by rw [Int.mul_zero]; rfl⟩
  have a2 : ∀ k,(p : Int) ∣ co told' k - co s k := fun k => by
    by_cases c : k < told.length
    · obtain ⟨w,h1,e⟩ := ht k c
      rw [e]
      have e1 : (p : Int) ∣ nr (M * p) (co told k + M * w) - (co told k + M * w) := Int.dvd_trans (Int.dvd_mul_left M p) (nr_dvd _ _)
      have := Int.dvd_add e1 h1
      rwa [show nr (M * ↑p) (co told k + M * w) - (co told k + M * w) + (M * w - (co s k - co told k)) = nr (M * ↑p) (co told k + M * w) - co s k by omega] at this
    · rw [co_ge (by omega),co_ge (by omega)]; exact ⟨0,by rw [Int.mul_zero]; rfl⟩
  have hnear : M * p ≠ 1 → ∀ k,Nr (M * p) (co told' k) := fun _ k => by
    by_cases c : k < told.length
    · obtain ⟨w,_,e⟩ := ht k c
      rw [e]; exact nr_near (by omega) _
    · rw [co_ge (by omega)]; unfold Nr; omega
  have hlast : co told' (told'.length - 1) = 1 := by
    rw [hl']
    refine Nr.eq (M := M * p) (by omega) (hnear (by omega) _) (by unfold Nr; omega) (dvd_both hp hpM ?_ ?_)
    · have := a1 (told.length - 1)
      rwa [h.mon.one] at this
    · have := a2 (told.length - 1)
      have e := hs.mon.one
      rw [hl] at e
      rwa [e] at this
  have hm : Mon told' := ⟨by omega,hlast⟩
  have hdiv : ∀ q : Nat,Om.Prime q → (q : Int) ∣ M * p → q ≤ p := fun q hq hd => by
    rcases prime_mul hq hd with z | z
    · have := h.div q hq z; omega
    · exact Nat.le_of_dvd (by omega) (Int.ofNat_dvd.mp z)
  have hcong : told'.length = g.length → ∀ k,M * p ∣ co told' k - co g k := fun e k => by
    refine dvd_both hp hpM ?_ ?_
    · have := Int.dvd_add (a1 k) (h.cong (by omega) k)
      rwa [show co told' k - co told k + (co told k - co g k) = co told' k - co g k by omega] at this
    · have := Int.dvd_add (a2 k) (hs.eq (by omega) k)
      rwa [show co told' k - co s k + (co s k - co g k) = co told' k - co g k by omega] at this
  have hhi' : ∀ x,x = bad + good + 1 → M * p ≤ 2 ^ (21 * x) := fun x hx => by
    rw [hx,show 21 * (bad + good + 1) = 21 * (bad + good) + 21 by omega,Int.pow_add]
    exact Int.mul_le_mul h.hi (by exact_mod_cast hhi) (by omega) (Int.le_of_lt (Int.pow_pos (by decide)))
  by_cases c : s.length = g.length
  · refine ⟨bad,good + 1,by omega,hm,by omega,by omega,by omega,hdiv,hcong,hnear,?_,fun _ => ⟨by omega,?_⟩,fun h2 hb => ?_,hhi' _ (by omega),fun z => by omega⟩
    · obtain ⟨X,h1,h2,h3⟩ := h.bads
      exact ⟨X,h1,h2,fun q hq hd => by have := h3 q hq hd; omega⟩
    · rw [show 19 * (good + 1) = 19 * good + 19 by omega,Int.pow_add]
      refine Int.mul_le_mul ?_ (by exact_mod_cast hbig) (by decide) (by omega)
      by_cases c0 : good = 0
      · rw [c0]; show (1 : Int) ≤ M; omega
      · exact (h.goods (by omega)).2
    · rw [Nat.add_sub_cancel] at hb
      have hgo := h.goods (by omega)
      have hM1 : M ≠ 1 := fun z => by
        rw [z] at hgo
        have h3 := hgo.2
        have : (2 : Int) ^ (19 * 1) ≤ 2 ^ (19 * good) := by exact_mod_cast Nat.pow_le_pow_right (n := 2) (by decide) (show 19 * 1 ≤ 19 * good by omega)
        have : (2 : Int) ^ (19 * 1) = 524288 := by decide
        omega
      have gn : ∀ k,Nr M (co g k) := fun k => by
        have h3 := hb k
        have h4 := hgo.2
        have h5 : ((2 * (co g k).natAbs : Nat) : Int) < M := Int.lt_of_lt_of_le (by exact_mod_cast h3) h4
        unfold Nr; omega
      have et : told = g := co_ext hgo.1 fun k => (h.near hM1 k).eq hM (gn k) (h.cong hgo.1 k)
      have gn' : ∀ k,Nr (M * p) (co g k) := fun k => by
        have h3 := gn k
        unfold Nr at h3 ⊢
        have : M * 1 ≤ M * p := Int.mul_le_mul_of_nonneg_left (by omega) (by omega)
        omega
      have et' : told' = g := co_ext (by omega) fun k => (hnear (by omega) k).eq (by omega) (gn' k) (hcong (by omega) k)
      exact ⟨hr.mpr (by rw [et',et]),et'⟩
  · have hN : (p : Int) ∣ N := Classical.byContradiction fun z => c (hs.good z)
    have hg0 : good = 0 := by
      by_cases c0 : good = 0
      · exact c0
      · have := (h.goods (by omega)).1; omega
    subst hg0
    exact ⟨bad + 1,0,by omega,hm,by omega,by omega,by omega,hdiv,hcong,hnear,bads_step hp hlt hbig hN h.bads,fun z => absurd z (by decide),fun z => absurd z (by decide),hhi' _ (by omega),fun z => by omega⟩
theorem WgI.few {P g told : List Int} {N M : Int} {prime bad good U V : Nat} {ripe : Bool} (h : WgI P g N told M prime ripe bad good) (hN : N ≠ 0) (hV : Bd V N) (hU : ∀ k,Bd U (co g k)) (hne : ¬ (ripe = true ∧ told = g)) : 19 * (bad + good) ≤ V + U + 38 := by
  obtain ⟨X,h1,h2,_⟩ := h.bads
  have b1 : 19 * bad ≤ V := by
    have h3 := Nat.le_of_dvd (by omega) (nat_dvd.mp h1)
    have h4 : 2 ^ (19 * bad) < 2 ^ V := Nat.lt_of_le_of_lt (Nat.le_trans h2 h3) hV
    have := (Nat.pow_lt_pow_iff_right (by decide : 1 < 2)).mp h4
    omega
  have b2 : 19 * good ≤ U + 38 := by
    by_cases c : 2 ≤ good
    · by_cases d : ∀ k,2 * (co g k).natAbs < 2 ^ (19 * (good - 1))
      · exact absurd (h.ripes c d) hne
      · obtain ⟨k,hk⟩ := Classical.not_forall.mp d
        have h3 : (co g k).natAbs < 2 ^ U := hU k
        have h4 : 2 ^ (19 * (good - 1)) < 2 ^ (U + 1) := by rw [Nat.pow_succ]; omega
        have := (Nat.pow_lt_pow_iff_right (by decide : 1 < 2)).mp h4
        omega
    · omega
  omega
end Pm
namespace Om
theorem prime_try {n : Nat} (h2 : 2 ≤ n) (h : ∀ d,2 ≤ d → d * d ≤ n → ¬ d ∣ n) : Prime n := ⟨h2,fun d hd => by
  by_cases c1 : d = 1
  · exact .inl c1
  by_cases c2 : d = n
  · exact .inr c2
  exfalso
  obtain ⟨e,he⟩ := hd
  have d0 : d ≠ 0 := fun z => by rw [z,Nat.zero_mul] at he; omega
  have e0 : e ≠ 0 := fun z => by rw [z,Nat.mul_zero] at he; omega
  have e1 : e ≠ 1 := fun z => by rw [z,Nat.mul_one] at he; omega
  by_cases c : d ≤ e
  · exact h d (by omega) (by rw [he]; exact Nat.mul_le_mul_left d c) ⟨e,he⟩
  · exact h e (by omega) (by rw [he]; exact Nat.mul_le_mul_right e (by omega)) ⟨d,by rw [he,Nat.mul_comm]⟩⟩
theorem prime_not {n d : Nat} (h2 : 2 ≤ d) (h : d * d ≤ n) (hd : d ∣ n) : ¬ Prime n := fun hp => by
  have : d * 2 ≤ d * d := Nat.mul_le_mul_left d h2
  rcases hp.2 d hd with e | e <;> omega
noncomputable def PR : Nat := 43571519119201362812999826845982751305620981793717429470673603275936152927709399635933610669671466973821241878720715105717436485894379942430461626673440299163796924436746229228614460476842261843714753967609841797025310982960825865753598345091694825344721438391478216968398650913464229700972723456395252658036295111351718208197542229884535562911430701228833268752819967566938433518416018400115565501955319083147587583881953995536441781216694995306260888155507575210
theorem pr_all : ∀ d,d < 1100 → 2 ≤ d → Nat.gcd d PR ≠ 1 := by decide +kernel
theorem prime_gcd {n : Nat} (h2 : 2 ≤ n) (hn : n < 1210000) (h : Nat.gcd n PR = 1) : Prime n := prime_try h2 fun d hd hdd hdv => by
  by_cases c : d < 1100
  · refine pr_all d c hd ?_
    have : Nat.gcd d PR ∣ Nat.gcd n PR := Nat.dvd_gcd (Nat.dvd_trans (Nat.gcd_dvd_left ..) hdv) (Nat.gcd_dvd_right ..)
    rw [h] at this
    exact Nat.dvd_one.mp this
  · have : 1100 * 1100 ≤ d * d := Nat.mul_le_mul (by omega) (by omega)
    omega
noncomputable def steps : List Nat := [3,30,4,2,42,18,18,4,12,18,8,12,12,4,6,6,12,2,18,18,4,20,16,2,12,10,20,24,10,14,12,4,6,6,14,4,2,24,4,50,30,4,6,30,2,10,20,10,2,18,12,16,2,10,12,6,24,2,40,14,16,36,18,2,10,2,28,18,12,2,10,38,4,8,18,4,14,6,4,14,28,12,6,2,4,14,16,30,6,14,4,14,6,22,18,30,12,12,12,8,10,2,4,20,6,16,12,6,2,12,10,20,16,12,8,24,10,26,4,18,2,12,6,18,6,28,8,10,20,10,14,4,26,10,20,40,14,4,6,2,12,10,8,72,22,8,6,6,24,4,2,6,28,32,12,12,4,6,8,10,8,12,22,6,2,22,18,36,14,6,10,2,4,26,10,42,2,4,2,10,2,16,26,24,6,18,6,10,14,6,6,10,8,6,6,4,26,16,8,6,36,4,24,6,26,30,4,6,2,18,12,16,2,4,14,10,12,8,4,30,2,4,6,8,16,6,6,14,4,12,2,42,6,22,2,16,20,10,38,4,6,6,6,2,22,8,52,6,2,40,18,14,6,12,16,30,12,2,10,2,4,2,12,16,14,6,16,30,6,38,10,26,6,40,12,8,10,2,6,4,48,14,18,18,4,8,6,6,4,6,8,16,30,2,22,38,10,8,10,2,4,18,12,14,6,64,6,20,4,6,14,12,28,2,18,4,20,6,42,12,12,40,6,8,6,10,14,6,40,8,30,28,12,8,4,8,16,6,18,26,10,14,10,6,32,52,6,2,10,2,6,10,36,14,6,4,2,12,18,18,76,30,8,6,46,14,4,6,20,6,6,10,12,8,22,2,6,22,6,24,2,10,18,26,16,6,8,6,6,10,2,28,18,6,20,4,14,18,10,12,2,18,18,4,14,10,2,18,10,14,12,10,24,14,10,2,28,12,24,2,18,6,4,14,16,2,22,8,42,10,60,6,6,50,28,2,18,6,22,12,18,14,4,14,16,26,24,4,32,10,14,4,2,10,6,2,6,12,4,24,2,12,6,4,8,4,14,12,22,2,4,2,22,2,4,2,12,10,6,24,2,40,8,22,6,2,22,14,6,18,12,4,12,24,6,20,4,20,4,14,60,10,18,12,18,12,2,16,48,6,8,16,2,4,8,6,36,4,12,20,10,8,4,30,2,24,12,22,8,10,18,2,10,8,24,12,6,24,28,12,6,48,2,10,8,22,14,6,22,6,14,16,12,12,18,8,16,14,22,8,22,8,40,2,10,38,4,30,2,10,8,10,8,4,6,2,18,4,6,8,4,18,12,6,6,6,8,30,4,12,14,4,30,12,6,18,2,12,6,24,12,4,14,6,4,2,58,30,26,24,6,6,6,10,14,6,4,6,8,10,6,54,6,8,16,6,20,6,22,6,2,10,2,12,4,14,16,26,6,4,14,24,6,16,8,16,2,18,4,2,4,42,42,18,24,30,6,2,12,16,8,12,22,2,4,2,4,8,30,10,2,10,14,10,32,4,6,2,16,30,12,12,36,24,18,14,4,2,4,26,4,6,2,6,30,6,4,12,30,2,10,2,16,2,22,14,4,8,4,14,12,18,16,6,18,26,4,12,2,6,24,6,22,14,28,8,12,6,10,6,6,2,18,58,14,6,34,6,20,12,18,6,16,14,28,8,18,10,14,12,28,2,4,6,30,36,12,2,46,2,12,24,12,22,2,34,26,28,6,32,24,4,24,26,4,8,4,8,30,6,6,18,10,8,10,30,18,12,38,6,4,44,12,4,30,2,28,2,4,6,8,4,12,8,6,12,24,10,18,20,16,2,4,14,12,28,24,2,10,8,12,16,8,30,4,6,2,12,16,30,2,24,4,24,26,4,8,4,6,32,6,4,8,42,12,6,10,12,6,14,6,10,24,12,66,30,14,6,24,4,2,10,2,30,10,8,18,4,6,20,22,14,4,12,14,16,18,2,18,10,62,4,24,20,6,4,14,12,6,28,2,22,12,6,30,8,6,4,6,30,14,12,12,12,6,12,12,4,12,12,18,2,6,12,10,18,14,48,4,6,18,2,12,10,2,10,6,8,10,6,18,8,18,6,6,4,24,2,10,14,18,6,4,18,12,2,4,20,6,16,12,8,4,14,4,12,18,12,6,2,18,22,18,2,30,42,16,12,36,14,12,4,6,6,20,12,12,10,80,10,44,6,24,10,2,10,14,4,12,12,30,8,48,22,2,28,2,40,6,24,2,24,4,2,30,6,12,22,6,18,2,12,30,10,6,12,12,2,4,12,12,26,6,18,22,6,8,6,6,4,8,28,12,2,6,22,2,10,60,14,22,8,24,28,24,8,6,4,6,12,8,4,12,20,4,2,30,28,2,4,24,14,16,2,12,6,4,18,2,10,18,8,54,6,12,18,6,28,18,8,10,14,22,24,14,10,8,28,20,22,2,10,12,6,14,16,8,30,4,12,30,6,8,10,2,18,34,12,20,16,20,30,4,8,6,4,6,6,8,12,4,26,4,12,20,4,8,28,8,70,32,40,12,2,4,2,34,6,14,10,18,2,6,4,8,10,18,2,6,10,6,18,8,10,2,10,30,2,24,34,30,6,12,14,4,12,8,6,16,44,10,6,14,10,18,6,14,6,10,6,6,48,14,10,18,2,12,4,6,18,2,16,14,6,22,12,14,6,10,6,14,28,2,18,6,4,6,26,40,36,2,16,2,12,28,2,18,4,18,12,36,8,30,40,2,4,8,16,2,12,10,20,22,18,8,42,6,12,24,4,6,6,50,4,6,30,2,10,18,12,6,2,12,6,12,12,36,4,20,10,2,18,16,20,22,12,8,18,16,6,14,6,10,18,50,16,6,2,6,4,8,4,6,18,6,8,10,6,6,8,46,2,10,24,6,2,58,12,2,6,48,6,4,6,24,2,24,10,20,10,6,2,28,32,6,12,18,10,20,4,6,2,22,8,34,30,6,38,10,12,2,36,34,6,12,14,54,24,6,10,6,24,6,18,20,10,8,4,24,20,54,10,8,10,8,24,6,12,24,30,16,24,30,8,22,6,2,18,4,6,18,12,2,18,4,30,6,8,12,18,4,2,4,42,14,6,10,14,4,24,6,12,8,10,14,6,6,6,24,10,26,10,2,6,16,26,10,44,4,20,12,28,14,6,4,6,6,8,16,32,10,12,2,4,20,22,12,2,10,20,6,4,14,4,8,24,6,22,2,4,12,14,54,22,8,10,6,24,6,6,2,12,4,6,6,2,10,6,24,12,18,18,8,12,10,8,4,12,26,4,24,44,30,6,4,2,10,14,6,6,10,18,2,22,8,4,24,6,14,6,60,10,14,12,10,24,8,28,8,16,8,18,10,12,6,6,6,12,20,6,34,26,12,12,16,26,6,10,20,12,36,16,6,18,2,34,8,6,22,18,24,2,4,12,2,6,6,28,12,14,6,18,28,2,6,6,4,2,10,2,6,4,18,24,24,6,8,6,4,2,30,4,2,28,2,24,16,18,26,10,6,2,10,12,6,2,6,4,2,24,4,2,34,2,4,8,6,16,14,12,12,16,6,20,4,54,20,10,6,44,6,24,10,2,10,24,14,36,6,6,18,16,6,8,24,6,12,12,18,18,10,12,42,2,10,38,6,16,20,6,12,12,30,10,6,8,4,26,12,4,8,10,8,28,6,6,2,40,12,38,36,4,2,4,2,40,14,6,18,24,10,2,4,2,4,6,12,42,18,20,18,4,6,14,24,6,6,12,18,10,32,12,24,24,16,6,6,20,12,10,8,12,18,4,30,14,4,38,18,4,6,20,12,4,18,6,26,30,4,6,26,4,18,6,2,28,2,4,14,12,10,2,10,2,4,12,24,8,6,22,2,18,4,6,42,6,20,12,22,20,10,6,14,6,24,42,10,44,22,2,10,2,18,18,52,12,6,12,6,14,70,2,4,2,24,4,14,30,10,30,12,14,4,8,4,48,8,12,12,6,18,42,28,30,6,6,2,6,10,2,18,22,12,8,12,10,6,6,44,4,30,12,24,12,18,2,10,2,18,24,30,6,24,4,6,8,10,8,28,26,16,24,20,10,18,12,18,8,12,10,8,4,8,6,6,24,10,12,12,8,10,8,34,12,6,12,2,6,18,10,2,4,8,36,6,6,22,8,18,4,6,6,6,2,22,24,6,14,4,32,10,14,6,4,2,24,16,18,6,20,6,4,24,6,8,10,18,32,10,2,18,12,6,10,24,14,34,6,2,18,22,14,4,12,20,34,14,4,6,12,2,6,12,10,18,72,2,6,4,2,18,12,28,18,8,12,4,24,30,2,18,10,2,22,2,4,36,6,14,18,28,12,12,8,10,6,6,14,12,10,8,22,2,40,26,16,14,4,2,4,6,68,6,6,4,2,30,24,24,4,30,8,12,18,4,14,6,6,28,12,12,2,4,24,2,4,32,10,12,2,24,4,20,16,30,30,2,10,14,10,18,8,10,8,4,12,18,20,16,12,30,2,10,26,34,18,8,4,6,32,12,12,4,2,4,26,28,2,18,24,6,16,30,36,8,6,10,14,10,12,12,2,4,2,18,6,4,12,42,12,30,8,40,38,18,16,8,6,6,6,18,4,12,18,8,10,2,6,6,4,12,12,8,40,2,10,6,6,8,10,12,20,10,30,6,8,10,2,4,56,4,18,26,34,2,6,30,48,4,8,10,2,16,20,30,16,6,12,2,54,10,2,12,12,4,26,6,28,6,30,20,10,36,2,12,4,12,12,18,2,12,10,14,66,6,4,26,12,6,10,12,12,8,10,38,4,12,14,12,18,16,8,6,4,8,10,2,22,20,4,2,24,34,6,8,6,12,18,4,6,6,14,16,6,8,6,10,8,16,26,4,6,36,8,34,20,6,10,36,20,4,12,2,18,22,2,24,22,8,6,10,14,16,6,30,2,6,4,2,6,10,12,6,2,22,20,10,32,4,24,20,12,6,22,6,44,6,10,42,8,4,8,42,6,12,10,2,10,42,18,18,8,6,28,12,36,18,2,4,38,22,20,16,2,10,8,4,24,6,8,10,6,6,8,16,20,6,16,30,14,16,2,6,30,6,10,44,6,4,24,36,2,18,4,20,28,42,36,12,2,10,8,10,14,24,10,42,12,2,10,8,16,14,16,2,4,6,18,14,10,2,16,12,32,16,14,6,4,36,8,30,10,12,2,10,12,6,2,48,4,18,6,32,42,12,58,18,8,40,2,18,4,36,24,20,40,2,18,10,12,26,28,12,8,12,10,12,6,2,24,4,14,6,10,12,14,24,6,4,24,6,12,2,16,14,30,12,18,6,6,4,26,6,30,4,14,4,8,12,6,12,12,12,30,6,4,30,6,2,6,4,2,28,6,14,42,6,10,2,40,6,20,6,4,20,4,2,6,10,20,28,12,32,10,8,34,48,2,16,8,6,6,4,24,2,4,6,14,6,12,6,6,28,2,4,14,10,6,6,6,20,4,6,8,10,20,4,18,8,34,2,28,30,2,4,12,8,6,48,10,8,18,6,6,4,8,6,22,12,2,24,60,24,36,16,6,18,2,40,2,30,18,4,24,20,4,6,6,14,10,12,2,12,4,2,10,2,30,28,8,6,16,14,4,2,22,6,32,24,18,16,2,10,2,12,10,36,18,14,10,6,2,18,22,12,2,6,48,22,2,36,4,12,8,18,18,6,4,12,8,4,2,4,12,24,38,10,2,6,24,6,4,14,12,24,18,16,30,24,32,24,4,6,14,30,6,10,6,14,24,12,10,18,2,18,18,4,20,6,4,14,22,2,16,2,4,6,20,28,6,14,16,8,10,18,8,6,18,6,4,8,10,48,26,10,18,2,18,10,38,40,24,24,32,4,6,14,4,24,2,24,12,28,2,4,20,16,8,4,8,24,10,20,30,10,6,18,2,4,8,6,4,20,6,10,12,8,4,8,10,2,12,4,2,22,20,48,12,22,6,14,18,6,24,18,34,6,12,18,12,6,2,12,48,18,4,6,2,10,18,6,6,30,2,22,20,4,6,30,8,22,8,6,22,12,2,48,12,6,22,6,2,34,6,8,6,70,20,16,12,12,20,4,6,14,10,2,10,8,54,10,26,4,6,24,8,10,8,6,34,20,6,4,26,18,16,26,4,20,4,2,58,6,6,6,8,24,10,18,12,26,16,6,14,10,14,12,12,16,6,20,18,16,2,10,12,2,4,26,4,42,8,16,14,30,12,4,6,2,16,24,2,6,4,6,38,4,8,10,8,46,8,18,12,28,14,24,10,6,20,6,10,24,26,10,2,16,2,4,6,8,6,28,18,2,16,14,6,4,26,40,6,8,12,4,6,48,32,24,4,12,48,6,14,12,4,2,4,24,2,12,28,2,16,12,14,16,18,42,20,30,10,18,14,6,16,6,2,36,34,6,2,34,6,8,4,32,4,20,6,10,50,4,24,20,6,10,14,52,30,6,20,10,18,6,14,54,6,4,20,10,12,6,30,20,22,8,22,6,2,10,2,18,4,8,12,6,22,12,6,2,6,16,6,2,12,16,8,84,16,12,14,18,10,6,20,4,8,28,2,34,6,14,18,10,32,16,2,16,32,22,6,2,12,46,14,16,2,22,6,2,4,14,6,4,6,8,6,6,24,4,12,8,10,8,30,10,8,4,8,22,8,52,36,6,8,18,10,2,6,10,12,2,12,4,2,34,18,2,16,2,12,16,12,2,6,18,4,6,12,14,6,24,48,6,22,2,10,36,14,6,12,24,6,4,8,6,6,34,2,24,10,18,2,28,30,6,20,22,8,6,30,6,12,12,4,6,6,20,4,14,12,30,12,22,8,10,20,18,4,38,6,4,8,4,6,12,2,10,8,42,4,6,18,30,2,16,8,4,2,36,22,2,24,12,4,8,18,28,12,12,18,18,32,4,6,42,6,6,14,10,2,10,12,2,48,6,6,10,6,24,26,22,18,20,10,8,12,12,36,4,2,28,18,12,36,14,12,24,36,6,22,2,4,14,36,6,4,6,8,10,8,4,8,58,12,2,6,12,12,28,18,8,24,52,14,12,10,12,12,8,10,12,14,30,4,2,4,2,18,22,18,6,20,18,22,20,4,6,6,2,6,6,58,6,2,4,6,8,12,4,24,2,22,2,6,22,18,12,38,4,18,12,26,12,6,36,6,10,12,6,12,2,6,6,16,8,10,20,10,14,12,4,2,10,44,4,6,14,4,12,8,6,12,28,6,8,6,22,30,8,12,30,10,14,4,26,6,10,24,36,8,30,6,4,2,10,2,10,6,12,2,28,2,22,6,8,4,8,18,12,4,38,10,30,26,6,10,8,6,16,18,2,18,30,6,6,6,22,2,4,26,10,6,24,6,8,4,32,4,30,2,12,28,18,24,2,4,12,2,12,4,42,18,6,14,16,6,14,4,2,10,12,2,34,14,12,10,8,12,16,12,36,2,10,24,36,2,18,10,12,18,44,4,56,18,6,10,32,18,4,2,16,8,4,32,6,60,4,6,2,12,4,30,2,18,6,66,18,4,18,2,18,4,6,14,34,2,10,38,22,8,30,22,8,10,2,28,14,16,2,18,4,6,14,10,68,12,6,10,20,6,16,14,4,30,20,16,18,8,18,16,6,32,10,2,18,16,12,8,10,12,8,4,2,6,18,16,24,2,30,10,8,24,10,2,6,18,4,2,4,6,18,26,6,6,12,28,48,2,10,12,8,12,22,6,12,8,28,2,58,2,4,14,4,18,2,10,2,10,8,16,14,12,10,6,42,12,8,18,22,2,4,36,6,12,20,10,8,10,8,10,2,4,14,16,6,2,12,60,4,2,10,50,4,20,4,2,42,12,18,18,34,14,4,6,20,4,32,10,14,60,10,32,10,12,2,10,6,12,8,4,14,6,28,20,22,6,8,4,38,24,10,6,8,22,8,10,20,10,12,2,6,12,10,44,28,20,12,16,12,6,6,14,12,4,8,16,12,2,6,4,2,28,2,4,6,18,18,8,12,24,18,16,36,6,48,26,16,8,22,12,2,6,4,14,12,10,8,6,4,12,20,30,4,8,12,16,24,14,4,2,4,20,10,30,26,18,18,12,6,6,4,6,6,8,4,2,28,6,2,42,12,10,14,22,12,2,18,10,12,26,4,56,12,16,2,22,6,32,4,6,2,12,28,26,10,6,8,6,12,18,24,30,10,6,12,2,6,16,30,6,14,40,30,18,20,82,14,6,4,2,4,26,4,8,30,6,34,2,34,12,2,12,36,12,16,20,6,4,2,10,8,24,18,10,2,58,8,4,2,4,20,4,66,30,6,8,10,12,6,14,40,24,12,8,6,36,10,2,10,18,8,36,6,4,6,12,20,10,6,12,2,18,4,6,14,34,12,8,30,12,4,18,8,22,8,10,18,2,30,10,14,10,14,22,8,4,18,8,4,36,12,2,22,20,16,12,8,18,4,38,18,6,18,10,6,32,10,2,6,12,10,12,6,2,4,80,4,14,6,22,14,6,10,42,2,4,14,10,2,4,6,36,20,34,30,14,12,12,12,4,20,30,4,2,10,6,32,22,8,12,4,2,40,32,10,12,14,22,32,6,4,8,4,6,8,6,76,2,10,6,36,24,2,4,8,22,8,18,28,14,22,18,6,14,28,12,6,20,4,6,12,2,18,10,12,6,14,10,2,6,4,24,74,6,10,6,14,10,2,10,8,12,40,8,4,6,36,90,6,8,4,18,2,12,4,6,20,10,6,12,12,18,42,36,2,10,8,10,2,12,6,24,4,12,8,34,2,6,12,6,4,6,26,6,4,8,12,30,6,10,2,16,20,6,34,6,8,18,28,6,14,10,2,12,18,10,18,6,6,38,4,2,10,36,44,6,12,12,10,50,6,18,4,20,6,36,24,22,18,6,14,6,30,24,4,2,24,22,2,40,2,18,10,6,2,34,18,26,12,4,8,16,12,8,6,10,6,8,34,18,12,2,28,12,24,24,6,6,6,2,60,18,24,18,6,4,30,12,18,8,18,12,12,12,4,14,12,4,14,6,16,6,8,12,10,12,26,12,28,2,4,8,10,2,16,20,4,36,12,8,4,6,24,14,24,6,22,2,10,6,24,6,6,24,6,8,10,2,6,22,42,20,6,10,2,12,16,12,20,22,6,8,12,10,14,4,6,18,18,8,40,12,2,18,34,6,14,30,6,4,30,8,22,18,6,12,20,10,12,32,10,6,14,4,14,36,6,24,12,28,6,18,2,36,4,14,12,22,8,12,16,54,6,20,4,2,18,10,56,10,2,4,38,10,20,16,2,24,4,6,18,2,10,14,6,18,18,4,36,2,12,28,26,24,22,26,4,14,10,12,32,6,6,18,12,16,2,10,6,14,18,18,16,14,10,26,4,2,4,18,8,24,18,6,22,8,6,24,16,26,10,2,12,24,4,2,6,30,4,20,18,18,10,14,4,36,6,18,24,2,4,30,12,14,4,6,8,6,6,10,18,12,8,16,2,4,14,6,6,12,12,4,2,12,18,22,30,30,30,32,16,2,6,10,12,30,2,6,6,4,26,16,12,6,24,8,12,16,12,8,4,30,6,2,4,8,22,6,14,10,20,6,64,6,14,4,2,28,12,24,8,6,30,10,14,28,14,24,10,24,12,14,4,2,10,20,10,6,8,12,18,36,10,14,10,14,18,4,30,8,6,4,68,10,2,18,4,8,10,30,6,26,10,18,26,10,14,6,16,6,8,12,4,18,32,10,8,22,6,2,6,4,12,6,12,2,10,18,6,14,12,10,6,12,6,26,6,10,38,4,2,16,8,24,52,14,34,2,16,8,22,8,4,80,6,16,54,12,14,18,10,2,40,24,12,18,14,6,10,12,12,2,6,22,18,38,24,10,12,6,8,10,14,6,6,30,10,14,16,14,6,28,12,30,26,4,14,34,8,4,18,6,12,8,6,6,18,4,26,12,10,8,10,12,8,22,12,2,6,4,24,24,18,18,2,12,16,6,6,2,6,42,10,24,8,12,18,42,34,14,48,28,6,48,2,10,30,18,32,6,12,6,12,28,2,18,16,26,28,14,10,26,10,6,36,2,42,28,2,10,14,4,6,24,48,2,12,4,30,20,22,2,6,4,26,4,2,18,16,2,28,2,10,12,8,10,14,6,4,24,12,8,22,14,28,6,2,18,12,4,8,12,6,22,2,30,30,16,32,28,18,2,10,18,14,12,4,6,8,6,6,18,22,6,12,6,6,8,36,12,4,6,8,10,12,12,32,16,12,8,10,8,10,14,10,32,10,8,6,10,2,22,2,18,6,6,10,6,2,6,34,2,4,2,4,14,12,18,12,30,10,18,30,14,22,6,18,2,12,6,4,42,14,6,6,12,30,6,4,12,6,2,18,18,6,24,4,20,36,4,2,4,30,12,2,12,16,38,6,36,24,16,2,10,8,10,32,6,6,10,18,12,18,12,54,6,38,16,6,6,2,10,2,4,20,12,22,2,4,2,18,4,6,12,14,16,2,18,22,2,4,36,36,8,46,6,8,6,24,6,6,12,12,4,44,18,24,36,10,24,8,12,4,2,28,12,24,8,28,14,24,10,6,6,8,12,24,30,10,14,4,18,8,4,8,10,8,4,36,6,6,2,36,4,8,24,6,22,30,18,14,4,44,22,6,2,16,2,58,14,6,16,14,12,4,14,16,6,8,6,6,4,24,12,20,10,2,12,10,14,64,6,6,8,22,8,6,10,42,2,22,8,18,18,6,28,8,24,4,20,12,22,6,30,12,8,16,6,20,4,18,42,6,2,6,12,10,14,6,18,10,6,6,14,54,10,12,8,12,24,4,14,18,24,30,34,2,18,4,8,12,12,4,24,30,18,8,4,18,2,6,12,28,14,6,10,2,24,4,14,10,18,14,16,18,14,6,4,30,6,2,12,6,10,12,8,34,6,12,2,28,14,10,6,12,18,12,36,12,20,18,24,22,18,2,4,6,18,18,42,12,14,16,8,6,4,2,4,2,12,36,4,12,6,14,24,4,6,6,24,2,28,2,22,8,12,10,6,2,18,42,18,12,22,8,10,2,46,24,2,4,2,4,6,2,30,6,4,18,24,8,6,40,14,6,10,2,12,12,4,24,48,12,6,24,8,4,8,36,12,28,2,12,30,12,10,6,8,10,2,4,44,6,18,12,4,42,14,16,42,6,2,12,10,8,4,36,2,6,10,26,4,6,8,10,2,4,6,8,6,6,6,22,8,28,20,6,4,30,14,10,26,30,4,8,4,30,14,52,2,6,4,2,16,2,22,6,8,22,2,10,12,6,24,18,6,6,38,18,22,18,8,6,4,14,10,2,10,6,8,30,4,18,8,6,16,2,6,10,12,20,22,6,6,6,2,22,18,20,6,4,12,14,6,10,14,4,6,2,10,42,38,22,2,6,64,8,16,12,14,24,16,8,18,4,26,22,12,6,8,34,6,36,24,6,8,6,54,10,8,10,2,6,24,12,4,26,4,2,4,8,12,16,14,28,2,24,4,8,10,14,4,2,22,6,12,20,4,8,6,22,8,42,4,8,22,6,2,18,12,40,2,16,2,10,12,20,36,4,18,12,14,16,14,4,20,16,14,28,8,4,8,18,6,34,2,12,18,30,64,26,4,14,10,6,24,12,14,6,10,2,70,26,12,24,4,6,8,6,10,32,4,6,8,10,2,12,46,20,6,70,14,6,4,20,54,22,30,30,8,10,12,6,2,6,6,6,10,8,34,18,12,2,4,6,14,4,8,22,6,2,54,16,8,12,10,14,4,14,10,2,4,6,30,18,8,4,8,18,4,20,16,18,14,10,30,2,28,2,10,6,12,30,6,14,30,16,2,12,16,26,10,14,6,6,4,24,20,4,36,24,2,4,12,44,16,2,12,16,18,20,12,10,2,28,2,10,30,2,30,18,22,18,20,6,4,8,4,24,2,4,8,12,34,56,28,2,6,18,10,2,10,30,14,18,10,6,2,10,38,6,28,12,8,28,2,12,10,26,22,26,10,24,2,6,24,10,8,10,6,2,4,6,32,10,2,70,6,8,4,26,6,6,12,6,10,2,4,6,20,22,2,4,12,2,16,6,8,6,42,4,6,12,2,10,30,8,6,12,4,6,2,6,10,14,30,6,4,18,20,10,14,34,2,12,6,34,6,12,20,4,8,12,10,6,20,4,6,8,12,12,6,24,16,24,18,2,22,6,2,12,4,6,8,10,2,6,4,24,2,28,2,10,2,16,20,36,10,6,38,12,48,16,30,8,6,12,10,12,6,6,6,8,30,4,2,10,6,8,6,24,4,20,12,10,24,26,16,2,22,20,6,24,6,22,18,2,16,12,14,4,14,12,4,24,2,4,6,6,38,6,24,24,6,22,12,6,14,36,10,14,22,14,4,2,40,8,6,16,18,8,10,14,10,14,4,32,28,36,6,24,12,20,22,26,16,18,18,12,12,18,6,6,56,10,2,10,26,10,6,18,26,16,8,28,8,12,30,34,6,2,22,36,8,34,32,4,14,6,10,12,2,12,10,8,10,2,30,6,22,2,4,14,18,4,30,18,2,4,26,28,6,20,4,8,10,8,4,12,38,28,2,16,24,2,6,4,6,14,16,20,22,6,84,2,34,2,4,14,6,10,6,2,6,54,18,18,30,22,30,54,14,16,8,10,8,12,6,16,6,18,30,2,18,6,4,24,8,4,20,6,40,8,10,6,8,16,14,12,16,2,10,12,20,6,10,8,4,6,6,8,6,16,24,6,20,16,24,14,6,18,18,22,6,14,6,12,10,18,2,10,14,16,18,14,22,8,10,2,30,6,18,4,8,30,24,16,12,8,4,14,4,18,2,10,30,6,36,24,2,4,14,12,12,10,18,12,6,12,8,30,10,2,4,24,6,14,6,4,12,8,22,14,6,10,14,4,6,6,2,6,22,18,6,30,26,18,6,6,22,8,4,6,2,10,20,6,4,18,12,6,6,30,30,6,14,6,10,2,12,16,2,10,32,16,14,4,2,30,24,34,2,12,18,4,30,36,8,6,4,6,14,4,6,6,8,6,6,18,6,4,6,42,2,6,6,10,18,2,28,2,10,44,10,14,10,18,18,2,22,2,4,6,6,14,10,56,10,2,6,6,4,30,2,12,12,4,24,6,14,10,8,34,14,12,12,36,24,12,28,42,48,6,20,22,2,6,12,10,2,10,2,10,8,16,6,8,6,4,8,4,20,10,30,6,32,10,6,12,18,2,40,2,36,6,4,20,36,6,4,6,30,12,2,6,4,8,10,6,12,8,12,22,2,10,30,44,4,30,18,8,4,2,4,12,30,14,4,20,24,36,4,2,40,6,2,12,4,6,18,8,18,12,22,18,8,10,6,6,14,18,16,24,80,10,20,58,2,18,4,6,8,24,6,22,14,4,2]
noncomputable def walkT : Nat → List Nat → Bool
  | _,[] => true
  | c,d :: r => match decide (0 < d) && (decide (c + d < 1210000) && Nat.beq (Nat.gcd (c + d) PR) 1) with
    | true => walkT (c + d) r
    | false => false
theorem walk_ok : walkT 1000000 steps = true := by decide +kernel
theorem steps_len : steps.length = 6000 := by decide +kernel
inductive Many : Nat → Nat → Prop
  | none (c : Nat) : Many 0 c
  | more {k c q : Nat} : Prime q → c < q → q < 1210000 → Many k q → Many (k + 1) c
theorem many_of : ∀ (l : List Nat) (c : Nat),2 ≤ c → walkT c l = true → Many l.length c
  | [],c,_,_ => .none c
  | d :: r,c,h2,h => by
    rw [walkT] at h
    split at h
    · rename_i e
      obtain ⟨e1,e2⟩ := Bool.and_eq_true_iff.mp e
      obtain ⟨e2,e3⟩ := Bool.and_eq_true_iff.mp e2
      have h1 := of_decide_eq_true e1
      have h3 := of_decide_eq_true e2
      exact .more (prime_gcd (by omega) h3 (Nat.eq_of_beq_eq_true e3)) (by omega) h3 (many_of r (c + d) (by omega) h)
    · exact absurd h (by decide)
theorem many : Many 6000 1000000 := by
  have := many_of steps 1000000 (by decide) walk_ok
  rwa [steps_len] at this
theorem Many.down {k c c' : Nat} (h : Many k c) (hc : c' ≤ c) : Many k c' := by
  cases h with
  | none => exact .none _
  | more h1 h2 h3 h4 => exact .more h1 (by omega) h3 h4
theorem Many.next {k c : Nat} (h : Many (k + 1) c) : ∃ q,Prime q ∧ c < q ∧ q < 1210000 ∧ ∀ p,p ≤ q → Many k p := by
  cases h with
  | more h1 h2 h3 h4 => exact ⟨_,h1,h2,h3,fun p hp => h4.down hp⟩
theorem Prime.fermatI {p : Nat} {a : Int} (h : Prime p) (h0 : 0 < a) (ha : a < (p : Int)) : a ^ (p - 1) % (p : Int) = 1 := by
  obtain ⟨n,rfl⟩ : ∃ n : Nat,a = (n : Int) := ⟨a.toNat,by omega⟩
  have := h.fermat (a := n) (by omega) (by omega)
  have e : ((n ^ (p - 1) % p : Nat) : Int) = ((1 : Nat) : Int) := by rw [this]
  rw [Int.natCast_emod,Int.natCast_pow] at e
  exact e
end Om
namespace Pm
open Rm
theorem monicN_pr {P : Nat} (hP : Om.Prime P) {p : List Int} (hp : Py P p) (hn : p ≠ []) : MonOf P p (monicN P p) := by
  have h2 := hP.1
  have hpos : 0 < p.length := List.length_pos_iff.mpr hn
  have hP0 : (P : Int) ≠ 0 := by omega
  have tkP : ∀ n,tk (P : Int) n = n % (P : Int) := fun n => tk_pos hP0 n
  have l0 := last_ne hn hp.tr
  have l1 := hp.co (p.length - 1)
  rw [tkP] at l1
  have r0 : 0 ≤ co p (p.length - 1) := by rw [← l1]; exact Int.emod_nonneg _ hP0
  have r1 : co p (p.length - 1) < (P : Int) := by rw [← l1]; exact Int.emod_lt_of_pos _ (by omega)
  generalize hl : co p (p.length - 1) = a at l0 r0 r1
  have hinv : (a ^ (P - 2) * a) % (P : Int) = 1 := by
    rw [← Int.pow_succ,show (P - 2).succ = P - 1 by omega]
    exact hP.fermatI (by omega) r1
  have e : ∀ k,co (monicN P p) k = co p k * a ^ (P - 2) % (P : Int) := fun k => by
    rw [monicN,co_map (by simp),hl]
  have len : (monicN P p).length = p.length := by rw [monicN,List.length_map]
  have top : co (monicN P p) ((monicN P p).length - 1) = 1 := by
    rw [len,e,hl,Int.mul_comm]; exact hinv
  have hm : monicN P p ≠ [] := fun z => by rw [z] at len; simp at len; omega
  refine ⟨⟨trim_of_last hm (by rw [top]; decide),fun x hx => ?_⟩,len,fun _ => ⟨by omega,top⟩,⟨a ^ (P - 2),fun k => ?_⟩,⟨a,fun k => ?_⟩⟩
  · obtain ⟨y,_,rfl⟩ := List.mem_map.mp hx
    rw [tkP]; exact Int.emod_emod_of_dvd _ (Int.dvd_refl _)
  · rw [e,tkP,tkP,Int.emod_emod_of_dvd _ (Int.dvd_refl _),Int.mul_comm]
  · rw [e,tkP,tkP,Int.mul_emod a,Int.emod_emod_of_dvd _ (Int.dvd_refl _),← Int.mul_emod,Int.mul_left_comm a,Int.mul_comm a,Int.mul_emod,hinv]
    rw [Int.mul_one,Int.emod_emod_of_dvd _ (Int.dvd_refl _)]
theorem over_pr {P : Nat} (hP : Om.Prime P) {one other : Int} (h0 : 0 < other) (h : other < (P : Int)) : (P : Int) ∣ other * (one * other ^ (P - 2) % (P : Int)) - one := by
  have h2 := hP.1
  have hinv : (other ^ (P - 2) * other) % (P : Int) = 1 := by
    rw [← Int.pow_succ,show (P - 2).succ = P - 1 by omega]
    exact hP.fermatI h0 h
  have h1 : (1 : Int) % (P : Int) = 1 := Int.emod_eq_of_lt (by decide) (by omega)
  refine Int.dvd_of_emod_eq_zero (Int.emod_eq_emod_iff_emod_sub_eq_zero.mp ?_)
  rw [Int.mul_emod,Int.emod_emod_of_dvd _ (Int.dvd_refl _),← Int.mul_emod,Int.mul_left_comm,Int.mul_comm other,Int.mul_emod,hinv,Int.mul_one,Int.emod_emod_of_dvd _ (Int.dvd_refl _)]
theorem lf_bdQ {b f : Int} {s t : Nat} {l m : List Int} {u v : Nat} (hb : 0 ≤ b) (hb1 : b < 2097152) (hu : 21 ≤ u) (hf : Bd u f) (hl : ∀ k,Bd u (co l k)) (hm : ∀ x ∈ m,Bd v x) (k : Nat) : Bd (u + v + 1) (lf b f s t l m k) := by
  unfold lf
  split
  · refine tk_bd hb ((Bd.of (n := 21) (by omega) (by omega)).mono (by omega)) ?_
    rw [Int.sub_eq_add_neg]
    refine Bd.add ((hl k).mono (by omega)) ?_
    have := hf.mul (Bd_co hm (k - s))
    unfold Bd at this ⊢
    rw [Int.natAbs_neg]; exact this
  · exact (hl k).mono (by omega)
noncomputable def jw (M t : Int) (p : Nat) (s : Int) : Int := (tk p (s - t)) * (tk p M) ^ (p - 2) % (p : Int)
noncomputable def jn (M t : Int) (p : Nat) (s : Int) : Int := nr (M * p) (t + M * jw M t p s)
theorem jw_ok {M t s : Int} {p : Nat} (hp : Om.Prime p) (hM : ¬ (p : Int) ∣ M) : (p : Int) ∣ M * jw M t p s - (s - t) := by
  have h2 := hp.1
  have hp0 : (p : Int) ≠ 0 := by omega
  have r0 := Int.emod_nonneg M hp0
  have r1 := Int.emod_lt_of_pos M (show (0 : Int) < p by omega)
  have rn : M % (p : Int) ≠ 0 := fun z => hM (Int.dvd_of_emod_eq_zero z)
  have h := over_pr hp (one := tk p (s - t)) (other := M % (p : Int)) (by omega) r1
  unfold jw
  rw [tk_pos hp0 M]
  generalize tk (p : Int) (s - t) * (M % (p : Int)) ^ (p - 2) % (p : Int) = w at h
  rw [tk_pos hp0] at h
  have e1 : (p : Int) ∣ M * w - M % (p : Int) * w := by
    rw [← Int.sub_mul]
    exact Int.dvd_trans (Int.dvd_self_sub_emod) (Int.dvd_mul_right ..)
  have e2 : (p : Int) ∣ (s - t) % (p : Int) - (s - t) := by
    have : (p : Int) ∣ (s - t) - (s - t) % (p : Int) := Int.dvd_self_sub_emod
    have := Int.dvd_neg.mpr this
    rwa [Int.neg_sub] at this
  have := Int.dvd_add (Int.dvd_add e1 h) e2
  rwa [show M * w - M % (p : Int) * w + (M % (p : Int) * w - (s - t) % (p : Int)) + ((s - t) % (p : Int) - (s - t)) = M * w - (s - t) by omega] at this
theorem jw_range {M t s : Int} {p : Nat} (hp : Om.Prime p) : 0 ≤ jw M t p s ∧ jw M t p s < p := by
  have h2 := hp.1
  exact ⟨Int.emod_nonneg _ (by omega),Int.emod_lt_of_pos _ (by omega)⟩
theorem Div.dv {b : Int} {P M q r : List Int} (h : Div b P M q r) (hM : Mon M) : r = [] ↔ Dv b M (co P) := by
  constructor
  · rintro rfl
    exact ⟨co q,q.length,Fs.co q,fun k => by rw [← h.eq k,co_nil,Int.add_zero]⟩
  · intro d
    have e : Dv b M (co r) := (d.sub (Dv.self (b := b) (m := M) (Fs.co q))).congr fun k => by
      have e1 : tk b (co P k + -cv (co q) (co M) k) = tk b ((cv (co q) (co M) k + co r k) + -cv (co q) (co M) k) := tk_congr_add (h.eq k).symm rfl
      rw [show co P k - cv (co q) (co M) k = co P k + -cv (co q) (co M) k by omega,e1]
      exact congrArg (tk b) (by omega)
    have z := e.short hM ((Fs.co r).mono (by have := h.short; omega))
    rw [← h.ry.tr]
    exact trim_nil.mpr fun k => by rw [← h.ry.co k]; exact z k
end Pm
namespace Pm
open Rm Dm
theorem Bd_neg {n : Nat} {x : Int} (h : Bd n x) : Bd n (-x) := by unfold Bd at h ⊢; rw [Int.natAbs_neg]; exact h
theorem least_bd {L : List Int} {a : Nat → Int} (hL : Mon L) (hK : Kp 0 L a) (hN : det (L.length - 1) (hk a) ≠ 0) {u : Nat} (hu : ∀ n,n ≤ 2 * (L.length - 1) → Bd u (a n)) (k : Nat) : Bd ((L.length - 1) * (u + (L.length - 1)) + 1) (co L k) := by
  have hp := hL.pos
  by_cases c : k < L.length - 1
  · have e := cramer_col (n := L.length - 1) (hk a) (co L) c
    have e2 : det (L.length - 1) (setc (hk a) k fun i => sm (L.length - 1) fun j => hk a i j * co L j) = det (L.length - 1) (setc (hk a) k fun i => -a (i + (L.length - 1))) := det_congr fun i j _ _ => by
      unfold setc
      split
      · have h := hK i
        rw [tk_zero] at h
        unfold ks at h
        obtain ⟨l,hl⟩ : ∃ l,L.length = l + 1 := ⟨L.length - 1,by omega⟩
        have h1 := hL.one
        rw [hl,Nat.add_sub_cancel] at h1
        rw [hl,sm,h1,Int.one_mul] at h
        show sm (L.length - 1) (fun j => hk a i j * co L j) = -a (i + (L.length - 1))
        rw [hl,Nat.add_sub_cancel,sm_congr (g := fun k => co L k * a (i + k)) fun j _ => by rw [Int.mul_comm]; rfl]
        omega
      · rfl
    have b : Bd ((L.length - 1) * (u + (L.length - 1)) + 1) (co L k * det (L.length - 1) (hk a)) := by
      rw [← e,e2]
      refine Bd_det fun i j hi hj => ?_
      unfold setc
      split
      · exact Bd_neg (hu _ (by omega))
      · exact hu _ (by omega)
    unfold Bd at b ⊢
    rw [Int.natAbs_mul] at b
    refine Nat.lt_of_le_of_lt ?_ b
    have : 1 ≤ (det (L.length - 1) (hk a)).natAbs := by omega
    have := Nat.mul_le_mul_left (co L k).natAbs this
    omega
  · by_cases d : k = L.length - 1
    · rw [d,hL.one]
      exact (Bd.of (n := 1) (by decide) (by decide)).mono (by omega)
    · rw [co_ge (by omega)]; exact Bd.zero _
end Pm
namespace Pm
open Rm Dm
theorem fs_list {f : Nat → Int} {n : Nat} (h : Fs f n) : ∃ S : List Int,∀ k,co S k = f k := ⟨ofF n f,fun k => by
  rw [co_ofF]
  by_cases c : k < n
  · rw [if_pos c]
  · rw [if_neg c,h k (by omega)]⟩
end Pm
namespace Pm
open Rm
noncomputable def ev (p : List Int) (x : Int) : Int := sm p.length fun k => co p k * x ^ k
theorem ev_more {p : List Int} {n : Nat} (h : p.length ≤ n) (x : Int) : sm n (fun k => co p k * x ^ k) = ev p x :=
  sm_more h fun k h1 _ => by rw [co_ge h1,Int.zero_mul]
theorem ev_nil (x : Int) : ev [] x = 0 := rfl
theorem ev_one (c x : Int) : ev [c] x = c := by
  show 0 + co [c] 0 * x ^ 0 = c
  rw [co_zero,Int.pow_zero,Int.mul_one,Int.zero_add]
noncomputable abbrev lin (r : Int) : List Int := [0 - r,1]
theorem lin_mon (r : Int) : Mon (lin r) := ⟨by show 0 < 2; decide,rfl⟩
theorem cv_lin (f : Nat → Int) (r : Int) : ∀ k,cv f (co (lin r)) k = (if k = 0 then 0 else f (k - 1)) - r * f k := fun k => by
  rw [cv_sm]
  cases k with
  | zero =>
    show 0 + f 0 * co (lin r) 0 = _
    rw [if_pos rfl,co_zero,Int.zero_add,Int.mul_sub,Int.mul_zero,Int.mul_comm]
  | succ k =>
    rw [if_neg (Nat.succ_ne_zero _),Nat.add_sub_cancel]
    rw [sm,Nat.sub_self,sm,show k + 1 - k = 1 by omega]
    rw [sm_none fun j hj => by rw [co_ge (p := lin r) (show 2 ≤ k + 1 - j by omega),Int.mul_zero]]
    rw [co_zero,co_succ,co_zero,Int.mul_one,Int.zero_add,Int.mul_sub,Int.mul_zero,Int.zero_sub,Int.mul_comm (f (k + 1))]
    rfl
theorem ev_shift (f : Nat → Int) (x : Int) : ∀ n,sm (n + 1) (fun k => (if k = 0 then 0 else f (k - 1)) * x ^ k) = x * sm n fun k => f k * x ^ k := fun n => by
  rw [sm_head,if_pos rfl,Int.zero_mul,Int.zero_add,← sm_mul]
  refine sm_congr fun k _ => ?_
  rw [if_neg (Nat.succ_ne_zero _),Nat.add_sub_cancel,Int.pow_succ,Int.mul_comm (x ^ k) x,← Int.mul_assoc,← Int.mul_assoc,Int.mul_comm (f k) x]
theorem Div.ev {p q l : List Int} {r : Int} (h : Div 0 p (lin r) q l) (x : Int) : Pm.ev p x = (x - r) * Pm.ev q x + Pm.ev l x := by
  obtain ⟨n,h1,h2,h3⟩ : ∃ n,p.length ≤ n + 1 ∧ q.length ≤ n ∧ l.length ≤ n + 1 := ⟨p.length + q.length + l.length,by omega,by omega,by omega⟩
  rw [← ev_more h1 x,← ev_more h2 x,← ev_more h3 x]
  have e : ∀ k,co p k = (if k = 0 then 0 else co q (k - 1)) - r * co q k + co l k := fun k => by
    have := h.eq k
    rw [tk_zero,tk_zero,cv_lin] at this
    exact this.symm
  rw [sm_congr (g := fun k => (if k = 0 then 0 else co q (k - 1)) * x ^ k + (-r * (co q k * x ^ k) + co l k * x ^ k)) fun k _ => ?_,sm_add,sm_add,ev_shift,sm_mul]
  · have e2 : sm (n + 1) (fun k => co q k * x ^ k) = sm n fun k => co q k * x ^ k := by
      rw [sm,co_ge h2,Int.zero_mul,Int.add_zero]
    rw [e2,Int.sub_mul,Int.neg_mul]
    omega
  · rw [e k,Int.add_mul,Int.sub_mul,Int.neg_mul,Int.mul_assoc]
    omega
theorem Div.root {p q l : List Int} {r : Int} (h : Div 0 p (lin r) q l) : l = [] ↔ Pm.ev p r = 0 := by
  have e := h.ev r
  rw [Int.sub_self,Int.zero_mul,Int.zero_add] at e
  have hs : l.length < 2 := h.short
  match l,hs,h.ry with
  | [],_,_ => exact ⟨fun _ => by rw [e,ev_nil],fun _ => rfl⟩
  | [c],_,hr =>
    rw [ev_one] at e
    constructor
    · intro z; cases z
    · intro z
      rw [e] at z
      exfalso
      have := hr.tr
      rw [z] at this
      simp [trim] at this
end Pm
namespace Pm
open Rm
theorem ev_cons (a : Int) (p : List Int) (x : Int) : ev (a :: p) x = a + x * ev p x := by
  rw [← ev_more (p := a :: p) (n := p.length + 1) (Nat.le_refl _) x,sm_head,co_zero,Int.pow_zero,Int.mul_one,← ev_more (p := p) (Nat.le_refl _) x,← sm_mul]
  congr 1
  refine sm_congr fun k _ => ?_
  rw [co_succ,Int.pow_succ,Int.mul_comm (x ^ k) x,← Int.mul_assoc,← Int.mul_assoc,Int.mul_comm (co p k) x]
theorem ev_cv (x : Int) (g : List Int) : ∀ (L P : List Int),(∀ k,co P k = cv (co L) (co g) k) → ev P x = ev L x * ev g x
  | [],P,h => by
    rw [ev_nil,Int.zero_mul]
    unfold ev
    exact sm_none fun k _ => by rw [h,cv_zero (fun i _ => .inl (co_nil i)),Int.zero_mul]
  | a :: L,P,h => by
    obtain ⟨Q,hQ⟩ : ∃ Q : List Int,∀ k,co Q k = cv (co L) (co g) k := fs_list ((Fs.co L).cv (Fs.co g))
    have ih := ev_cv x g L Q hQ
    obtain ⟨n,h1,h2,h3⟩ : ∃ n,P.length ≤ n + 1 ∧ Q.length ≤ n ∧ g.length ≤ n + 1 := ⟨P.length + Q.length + g.length,by omega,by omega,by omega⟩
    have e : ∀ k,co P k = a * co g k + (if k = 0 then 0 else co Q (k - 1)) := fun k => by
      rw [h,cv_cons]
      split
      · rfl
      · rw [hQ]
    rw [ev_cons,← ev_more h1 x,sm_congr (g := fun k => a * (co g k * x ^ k) + (if k = 0 then 0 else co Q (k - 1)) * x ^ k) fun k _ => by rw [e k,Int.add_mul,Int.mul_assoc],sm_add,sm_mul,ev_shift,ev_more h3,ev_more h2,ih,Int.add_mul,Int.mul_assoc]
theorem div_lin (p : List Int) (r : Int) : ∃ q l,Div 0 p (lin r) q l ∧ (∀ k,co p k = (if k = 0 then 0 else co q (k - 1)) - r * co q k + co l k) ∧ q.length ≤ p.length - 1 := by
  obtain ⟨q,l,h⟩ := div_ex (b := 0) (lin_mon r) (p := p) fun k => tk_zero _
  have e : ∀ k,co p k = (if k = 0 then 0 else co q (k - 1)) - r * co q k + co l k := fun k => by
    have := h.eq k
    rw [tk_zero,tk_zero,cv_lin] at this
    exact this.symm
  have hs : l.length < 2 := h.short
  refine ⟨q,l,h,e,?_⟩
  by_cases hq : q = []
  · rw [hq]; exact Nat.zero_le _
  · have h0 := last_ne hq h.qy.tr
    have hp : 0 < q.length := List.length_pos_iff.mpr hq
    have h1 := e q.length
    rw [if_neg (by omega),co_ge (p := q) (Nat.le_refl _),Int.mul_zero,co_ge (p := l) (by omega),Int.sub_zero,Int.add_zero] at h1
    have := len_gt_of (p := p) (k := q.length) (by rw [h1]; exact h0)
    omega
theorem roots_le : ∀ (m : Nat) (L : List Int),Mon L → L.length = m + 1 → ∀ xs : List Int,xs.Nodup → (∀ x ∈ xs,ev L x = 0) → xs.length ≤ m
  | _,_,_,_,[],_,_ => Nat.zero_le _
  | 0,L,hL,hl,r :: ys,_,hr => by
    exfalso
    have e : L = [1] := co_ext (q := [1]) hl fun k => by
      cases k with
      | zero => have := hL.one; rw [hl] at this; exact this
      | succ k => rw [co_ge (by omega),co_ge (by show 1 ≤ k + 1; omega)]
    have := hr r (List.mem_cons_self ..)
    rw [e,ev_one] at this
    exact absurd this (by decide)
  | m + 1,L,hL,hl,r :: ys,hn,hr => by
    obtain ⟨q,l,h,e,lq⟩ := div_lin L r
    have h0 := hr r (List.mem_cons_self ..)
    have l0 := h.root.mpr h0
    subst l0
    have hm : co q m = 1 := by
      have h1 := e (m + 1)
      rw [if_neg (by omega),Nat.add_sub_cancel,co_ge (p := q) (show q.length ≤ m + 1 by omega),Int.mul_zero,co_nil,Int.sub_zero,Int.add_zero] at h1
      have h2 := hL.one
      rw [hl,Nat.add_sub_cancel,h1] at h2
      exact h2
    have hlq : q.length = m + 1 := by
      have := len_gt_of (p := q) (k := m) (by rw [hm]; decide)
      omega
    obtain ⟨hn1,hn2⟩ := List.nodup_cons.mp hn
    have := roots_le m q ⟨by omega,by rw [hlq,Nat.add_sub_cancel]; exact hm⟩ hlq ys hn2 fun y hy => by
      have h1 := h.ev y
      rw [hr y (List.mem_cons_of_mem _ hy),ev_nil,Int.add_zero] at h1
      rcases Int.mul_eq_zero.mp h1.symm with z | z
      · exact absurd (show y = r by omega) (fun z => hn1 (z ▸ hy))
      · exact z
    rw [List.length_cons]; omega
theorem Bd_quot {M : Nat} {x y : Int} (hx : x ≠ 0) (h : Bd M (x * y)) : Bd M y := by
  unfold Bd at h ⊢
  rw [Int.natAbs_mul] at h
  have h1 : 1 ≤ x.natAbs := by omega
  have : 1 * y.natAbs ≤ x.natAbs * y.natAbs := Nat.mul_le_mul_right _ h1
  omega
theorem interp_bd {e : Nat} : ∀ (d : Nat) (g : List Int) (M : Nat),g.length ≤ d → ∀ xs : List Int,xs.Nodup → d ≤ xs.length → (∀ x ∈ xs,Bd e x) → (∀ x ∈ xs,Bd M (ev g x)) → ∀ k,Bd (M + d * (e + 3)) (co g k)
  | 0,g,_,hl,_,_,_,_,_,k => by rw [co_ge (by omega)]; exact Bd.zero _
  | d + 1,_,_,_,[],_,hd,_,_,_ => absurd hd (by show ¬ d + 1 ≤ 0; omega)
  | d + 1,g,M,hl,r :: ys,hn,hd,hx,hv,k => by
    obtain ⟨q,l,h,eq,lq⟩ := div_lin g r
    obtain ⟨hn1,hn2⟩ := List.nodup_cons.mp hn
    have hl2 : l.length < 2 := h.short
    have er : ev l r = ev g r := by rw [h.ev r,Int.sub_self,Int.zero_mul,Int.zero_add]
    have el : ∀ x,ev l x = co l 0 := fun x => by
      match l,hl2 with
      | [],_ => rw [ev_nil,co_nil]
      | [c],_ => rw [ev_one,co_zero]
    have c0 : co l 0 = ev g r := by rw [← el r,er]
    have hr := hv r (List.mem_cons_self ..)
    have ih := interp_bd (e := e) d q (M + 1) (by omega) ys hn2 (by rw [List.length_cons] at hd; omega) (fun x h => hx x (List.mem_cons_of_mem _ h)) fun y hy => by
      refine Bd_quot (x := y - r) (fun z => hn1 ((show y = r by omega) ▸ hy)) ?_
      have h1 := h.ev y
      rw [el y,c0] at h1
      rw [show (y - r) * ev q y = ev g y + -(ev g r) by omega]
      exact (hv y (List.mem_cons_of_mem _ hy)).add (Bd_neg hr)
    have b1 : Bd (e + (M + 1 + d * (e + 3))) (if k = 0 then 0 else co q (k - 1)) := by
      split
      · exact Bd.zero _
      · exact (ih _).mono (by omega)
    have b2 := Bd_neg ((hx r (List.mem_cons_self ..)).mul (ih k))
    have b3 : Bd (e + (M + 1 + d * (e + 3)) + 1) (co l k) := by
      cases k with
      | zero => rw [c0]; exact hr.mono (by omega)
      | succ k => rw [co_ge (by omega)]; exact Bd.zero _
    have b4 := (b1.add b2).add b3
    have e1 : (d + 1) * (e + 3) = d * (e + 3) + (e + 3) := Nat.succ_mul ..
    rw [eq k,Int.sub_eq_add_neg]
    exact b4.mono (by omega)
theorem ev_bd {P : List Int} {x : Int} {u e : Nat} (hu : ∀ k,Bd u (co P k)) (hx : Bd e x) : Bd (u + P.length * (e + 1) + P.length) (ev P x) := by
  have hp : ∀ k,Bd (k * e + 1) (x ^ k) := fun k => by
    induction k with
    | zero => rw [Int.pow_zero]; exact (Bd.of (n := 1) (by decide) (by decide)).mono (by omega)
    | succ k ih =>
      have e1 : (k + 1) * e = k * e + e := Nat.succ_mul ..
      rw [Int.pow_succ]; exact (ih.mul hx).mono (by omega)
  unfold ev
  refine (Bd_sm (c := u + P.length * (e + 1)) P.length fun k hk => ((hu k).mul (hp k)).mono ?_).mono (by omega)
  have h1 : (k + 1) * (e + 1) ≤ P.length * (e + 1) := Nat.mul_le_mul_right _ (by omega)
  have h2 : (k + 1) * (e + 1) = k * (e + 1) + (e + 1) := Nat.succ_mul ..
  have h3 : k * (e + 1) = k * e + k := Nat.mul_succ ..
  omega
theorem filter_both (p : Int → Bool) : ∀ xs : List Int,xs.length = (xs.filter p).length + (xs.filter fun x => !p x).length
  | [] => rfl
  | x :: xs => by
    have := filter_both p xs
    cases h : p x
    · rw [List.filter_cons_of_neg (by rw [h]; decide),List.filter_cons_of_pos (by rw [h]; rfl),List.length_cons,List.length_cons]; omega
    · rw [List.filter_cons_of_pos h,List.filter_cons_of_neg (by rw [h]; decide),List.length_cons,List.length_cons]; omega
theorem divis_bd {P L g : List Int} (hL : Mon L) (he : ∀ k,co P k = cv (co L) (co g) k) (hl : L.length + g.length = P.length + 1) {u e : Nat} (hu : ∀ k,Bd u (co P k)) (h2 : P.length ≤ 2 ^ e) (k : Nat) : Bd (u + P.length * (e + 1) + P.length + g.length * (e + 3)) (co g k) := by
  obtain ⟨xs,hxs⟩ : ∃ xs : List Int,xs = (List.range P.length).map Int.ofNat := ⟨_,rfl⟩
  have nd : xs.Nodup := by
    rw [hxs]
    refine List.Pairwise.map _ (fun a b h => ?_) (List.nodup_range (n := P.length))
    exact fun z => h (Int.ofNat.inj z)
  have ln : xs.length = P.length := by rw [hxs]; simp
  have bx : ∀ x ∈ xs,Bd e x := fun x hx => by
    rw [hxs] at hx
    obtain ⟨i,hi,rfl⟩ := List.mem_map.mp hx
    have := List.mem_range.mp hi
    show (Int.ofNat i).natAbs < 2 ^ e
    show i < 2 ^ e
    omega
  have h0 : (xs.filter fun x => decide (ev L x = 0)).length ≤ L.length - 1 := by
    have := hL.pos
    exact roots_le (L.length - 1) L hL (by omega) _ (nd.filter _) fun x hx => of_decide_eq_true (List.mem_filter.mp hx).2
  have hc : xs.length = (xs.filter fun x => decide (ev L x = 0)).length + (xs.filter fun x => !decide (ev L x = 0)).length := filter_both _ xs
  have hp := hL.pos
  refine interp_bd g.length g _ (Nat.le_refl _) (xs.filter fun x => !decide (ev L x = 0)) (nd.filter _) (by omega) (fun x hx => bx x (List.mem_filter.mp hx).1) (fun x hx => ?_) k
  have hne : ev L x ≠ 0 := fun z => by
    have := (List.mem_filter.mp hx).2
    rw [decide_eq_true z] at this
    exact absurd this (by decide)
  refine Bd_quot hne ?_
  rw [← ev_cv x g L P he]
  exact ev_bd hu (bx x (List.mem_filter.mp hx).1)
theorem gcz_bdD {P : List Int} {a : Nat → Int} (hP : Mon P) (hK : Kp 0 P a) {d u ua e U : Nat} (hS : ∃ Q0,Mon Q0 ∧ Kp 0 Q0 a ∧ Q0.length ≤ d + 1) (ha : ∀ n,n ≤ 2 * d → Bd ua (a n)) (hu : ∀ k,Bd u (co P k)) (h2 : P.length ≤ 2 ^ e) (hU : u + P.length * (e + 1) + P.length + P.length * (e + 3) ≤ U) :
    ∃ g L N,Mon L ∧ Py 0 L ∧ Kp 0 L a ∧ (∀ q,Kp 0 q a → Dv 0 L (co q)) ∧ L.length + g.length = P.length + 1 ∧ (∀ k,co P k = cv (co L) (co g) k) ∧ GcZ P (tp P a) g N ∧ Bd (d * (ua + d) + 1) N ∧ ∀ k,Bd U (co g k) := by
  obtain ⟨g,L,hL,hLy,hKL,hall,hlen,hE,G⟩ := gcz_ex hP hK
  obtain ⟨Q0,hQ,hKQ,hQl⟩ := hS
  have hLp := hL.pos
  have hl : L.length ≤ d + 1 := Nat.le_trans ((hall Q0 hKQ).len rfl hL hQ) hQl
  have hm : (L.length - 1) * (ua + (L.length - 1)) + 1 ≤ d * (ua + d) + 1 := by
    have := Nat.mul_le_mul (show L.length - 1 ≤ d by omega) (show ua + (L.length - 1) ≤ ua + d by omega)
    omega
  refine ⟨g,L,_,hL,hLy,hKL,hall,hlen,hE,G,?_,fun k => ?_⟩
  · exact (Dm.Bd_det (u := ua) fun i j hi hj => ha _ (by omega)).mono hm
  · refine (divis_bd hL hE hlen hu h2 k).mono (Nat.le_trans ?_ hU)
    have := Nat.mul_le_mul_right (e + 3) (show g.length ≤ P.length by omega)
    omega
end Pm
namespace Lm
noncomputable def gcdL (g : Nat) : List Int → Nat
  | [] => g
  | t :: ts => gcdL (Nat.gcd g t.natAbs) ts
theorem gcdL_snoc (g : Nat) (ts : List Int) (t : Int) : gcdL g (ts ++ [t]) = Nat.gcd (gcdL g ts) t.natAbs := by
  induction ts generalizing g with
  | nil => rfl
  | cons s ts ih => exact ih _
theorem gcdL_dvd_g (g : Nat) (ts : List Int) : gcdL g ts ∣ g := by
  induction ts generalizing g with
  | nil => exact Nat.dvd_refl _
  | cons s ts ih => exact Nat.dvd_trans (ih _) (Nat.gcd_dvd_left ..)
theorem gcdL_dvd (g : Nat) (ts : List Int) : ∀ t ∈ ts,(gcdL g ts : Int) ∣ t := by
  induction ts generalizing g with
  | nil => intro t h; cases h
  | cons s ts ih =>
    intro t h
    rcases List.mem_cons.mp h with rfl | h
    · exact Int.ofNat_dvd_left.mpr (Nat.dvd_trans (gcdL_dvd_g _ ts) (Nat.gcd_dvd_right ..))
    · exact ih _ t h
theorem gcdL_pos {g : Nat} (h : 0 < g) (ts : List Int) : 0 < gcdL g ts := Nat.pos_of_dvd_of_pos (gcdL_dvd_g g ts) h
theorem gcdL_mul (c g : Nat) (ts : List Int) : gcdL (c * g) (ts.map fun t => (c : Int) * t) = c * gcdL g ts := by
  induction ts generalizing g with
  | nil => rfl
  | cons s ts ih =>
    show gcdL (Nat.gcd (c * g) ((c : Int) * s).natAbs) _ = _
    rw [Int.natAbs_mul,Int.natAbs_natCast,Nat.gcd_mul_left]
    exact ih _
theorem gcdL_abs {ts ts' : List Int} (g : Nat) (h : ts.map Int.natAbs = ts'.map Int.natAbs) : gcdL g ts = gcdL g ts' := by
  induction ts generalizing g ts' with
  | nil => cases ts' with
    | nil => rfl
    | cons s r => cases h
  | cons s ts ih => cases ts' with
    | nil => cases h
    | cons s' r =>
      rw [List.map_cons,List.map_cons] at h
      injection h with h1 h2
      show gcdL (Nat.gcd g s.natAbs) ts = gcdL (Nat.gcd g s'.natAbs) r
      rw [h1]; exact ih _ h2
noncomputable def low (a : Int) (ts : List Int) : Int := if a < 0 then 0 - (gcdL a.natAbs ts : Int) else (gcdL a.natAbs ts : Int)
theorem low_ne {a : Int} (h : a ≠ 0) (ts : List Int) : low a ts ≠ 0 := by
  have := gcdL_pos (g := a.natAbs) (by omega) ts
  unfold low; split <;> omega
theorem low_dvd (a : Int) (ts : List Int) : low a ts ∣ a := by
  have h : (gcdL a.natAbs ts : Int) ∣ a := Int.ofNat_dvd_left.mpr (gcdL_dvd_g _ ts)
  unfold low; split
  · rw [Int.zero_sub]; exact Int.neg_dvd.mpr h
  · exact h
theorem low_dvd_t (a : Int) (ts : List Int) : ∀ t ∈ ts,low a ts ∣ t := fun t ht => by
  have h := gcdL_dvd a.natAbs ts t ht
  unfold low; split
  · rw [Int.zero_sub]; exact Int.neg_dvd.mpr h
  · exact h
theorem low_fac (a : Int) (h : a ≠ 0) (ts : List Int) : ∃ e,0 < e ∧ a = low a ts * e := by
  obtain ⟨e,he⟩ := low_dvd a ts
  refine ⟨e,?_,he⟩
  have g := gcdL_pos (g := a.natAbs) (by omega) ts
  by_cases c : a < 0
  · have el : low a ts = 0 - (gcdL a.natAbs ts : Int) := if_pos c
    rw [el] at he
    by_cases p : 0 < e
    · exact p
    · exfalso
      have : 0 ≤ (0 - (gcdL a.natAbs ts : Int)) * e := Int.mul_nonneg_of_nonpos_of_nonpos (by omega) (by omega)
      omega
  · have el : low a ts = (gcdL a.natAbs ts : Int) := if_neg c
    rw [el] at he
    by_cases p : 0 < e
    · exact p
    · exfalso
      have : (gcdL a.natAbs ts : Int) * e ≤ 0 := Int.mul_nonpos_of_nonneg_of_nonpos (by omega) (by omega)
      omega
end Lm
namespace Lm
end Lm
namespace Dm
open Rm Pm
theorem ClI.heads_eq {b : Int} {n W u m : Nat} {A0 A : Nat → Nat → Int} {hd : Nat → Nat} {r : Nat} {L : List (List Int)} {last : Int} (h : ClI b n W u A0 m A hd r L last) (hr : r = m) : ∀ j,j < m → hd j = j := fun j hj => by
  have ge := h.ge_heads j (by omega)
  have step : ∀ d,j + d < r → hd j + d ≤ hd (j + d) := fun d => by
    induction d with
    | zero => intro _; exact Nat.le_refl _
    | succ d ih =>
      intro hd'
      have := ih (by omega)
      have := h.up (j + d) (j + (d + 1)) (by omega) hd'
      omega
  have := step (r - 1 - j) (by omega)
  have := h.hc (j + (r - 1 - j)) (by omega)
  omega
theorem ClI.ind {b : Int} {n W u m : Nat} {A0 A : Nat → Nat → Int} {hd : Nat → Nat} {r : Nat} {L : List (List Int)} {last : Int} (h : ClI b n W u A0 m A hd r L last) (hD : Dom b) (hr : r = m) : Ind b n m A0 := fun x hx i hi => by
  have hh := h.heads_eq hr
  have q := (h.sw.rel.mp hx).en hd h.rn i (by have := h.rn; omega)
  have e : sm m (fun k => En A hd r i k * x k) = sm m fun k => if k = i then dt A hd r * x i else 0 := sm_congr fun k hk => by
    have e2 := En_head (A := A) (hd := hd) (r := r) (i := i) (h := k) (by omega)
    rw [hh k hk] at e2
    rw [e2]
    by_cases c : k = i
    · rw [if_pos c.symm,if_pos c,c]
    · rw [if_neg (fun z => c z.symm),if_neg c,Int.zero_mul]
  have q' : tk b (sm m fun k => En A hd r i k * x k) = 0 := q
  rw [e,sm_single,if_pos hi] at q'
  exact hD _ _ h.nz q'
theorem Rel.cut {b : Int} {n m : Nat} {A : Nat → Nat → Int} {x y : Nat → Int} {d : Int} (hD : Dom b) (hd : tk b d ≠ 0) (e : ∀ k,k < m → tk b (y k * d) = tk b (x k)) (h : Rel b n m A x) : Rel b n m A y := fun i hi => by
  refine hD d _ hd ?_
  rw [← sm_mul]
  have q : tk b (sm m fun k => A i k * x k) = 0 := h i hi
  rw [← q]
  refine tk_sm fun k hk => ?_
  rw [show d * (A i k * y k) = A i k * (y k * d) by rw [Int.mul_left_comm,Int.mul_comm d],← tk_mul_r,e k hk,tk_mul_r]
noncomputable def freeL (E : Nat → Int) (hd : Nat → Nat) (wide : Nat) (c : Nat) (last : Int) (i : Nat) : List Int := ofF wide fun k => if k = c then last else sm i fun h => if k = hd h then E h else 0
theorem freeL_len (E : Nat → Int) (hd : Nat → Nat) (wide c : Nat) (last : Int) (i : Nat) : (freeL E hd wide c last i).length = wide := ofF_len ..
theorem freeL_zero (E : Nat → Int) (hd : Nat → Nat) {wide c : Nat} (last : Int) (hc : c < wide) : (ofF wide fun _ => 0).set c last = freeL E hd wide c last 0 := by
  refine co_ext (by rw [List.length_set,freeL_len,ofF_len]) fun k => ?_
  rw [co_set _ _ _ _ (by rw [ofF_len]; exact hc),freeL,co_ofF,co_ofF]
  by_cases e : k = c
  · rw [if_pos e,if_pos (by omega),if_pos e]
  · rw [if_neg e,if_neg e]; rfl
theorem freeL_step {E : Nat → Int} {hd : Nat → Nat} {wide c : Nat} {last : Int} {i : Nat} (hi : hd i < wide) (hc : hd i ≠ c) (hu : ∀ h,h < i → hd h ≠ hd i) : (freeL E hd wide c last i).set (hd i) (E i) = freeL E hd wide c last (i + 1) := by
  refine co_ext (by rw [List.length_set,freeL_len,freeL_len]) fun k => ?_
  rw [co_set _ _ _ _ (by rw [freeL_len]; exact hi),freeL,freeL,co_ofF,co_ofF,sm]
  by_cases e : k = hd i
  · rw [if_pos e,if_pos (by omega),if_neg (by omega),if_pos e,sm_none (fun h hh => by rw [if_neg (by have := hu h hh; omega)]),Int.zero_add]
  · rw [if_neg e,if_neg e,Int.add_zero]
structure FreeOk (b : Int) (n m : Nat) (A0 : Nat → Nat → Int) (fs : List Int) : Prop where
  len : fs.length = m
  tk : ∀ x ∈ fs,Rm.tk b x = x
  rel : Rel b n m A0 (co fs)
  nz : ∃ c,c < m ∧ Rm.tk b (co fs c) ≠ 0
noncomputable def Fits (b : Int) (kn : List Int) (s : Nat) (x : Nat → Int) : Prop := ∀ n,s ≤ n → n < kn.length → tk b (sm s fun k => x k * co kn (n - 1 - k)) = tk b (co kn n)
noncomputable def fitL (kn : List Int) (s : Nat) : List (List Int) := (List.range (kn.length - s)).map fun i => ofF s fun k => co kn (s + i - 1 - k)
theorem fitL_len (kn : List Int) (s : Nat) : (fitL kn s).length = kn.length - s := by rw [fitL,List.length_map,List.length_range]
theorem ln_fitL {kn : List Int} {s i : Nat} (h : i < kn.length - s) : ln (fitL kn s) i = ofF s fun k => co kn (s + i - 1 - k) := by
  rw [ln,fitL,List.getD_eq_getElem?_getD,List.getElem?_map,List.getElem?_range h]; rfl
noncomputable abbrev fitA (b : Int) (kn : List Int) (s : Nat) : Nat → Nat → Int := aug b (fitL kn s) (kn.drop s)
theorem fitA_in {b : Int} {kn : List Int} {s i k : Nat} (hi : i < kn.length - s) (hk : k < s) : fitA b kn s i k = tk b (co kn (s + i - 1 - k)) := by
  rw [fitA,aug_in (m := s) (by rw [fitL_len]; exact hi) (by rw [ln_fitL hi,ofF_len]) hk,ln_fitL hi,co_ofF,if_pos hk]
theorem co_drop (p : List Int) (s k : Nat) : co (p.drop s) k = co p (s + k) := by
  unfold co
  rw [List.getD_eq_getElem?_getD,List.getD_eq_getElem?_getD,List.getElem?_drop]
theorem fitA_end {b : Int} {kn : List Int} {s i : Nat} (hi : i < kn.length - s) : fitA b kn s i s = tk b (co kn (s + i)) := by
  rw [fitA,aug_end (m := s) (by rw [fitL_len]; exact hi) (by rw [ln_fitL hi,ofF_len]),co_drop]
theorem fits_row {b : Int} {kn : List Int} {s i : Nat} (hi : i < kn.length - s) (x : Nat → Int) : tk b (sm s fun k => fitA b kn s i k * x k) = tk b (sm s fun k => x k * co kn (s + i - 1 - k)) :=
  tk_sm fun k hk => by rw [fitA_in hi hk,tk_mul_l,Int.mul_comm]
end Dm
namespace Dm
open Rm Pm
theorem primes_two : ∀ P ∈ Om.primesN,2 ≤ P := by decide +kernel
noncomputable abbrev By (b : Int) : Prop := b = 0 ∨ ∃ P : Nat,P ∈ Om.primesN ∧ b = (P : Int)
theorem By.dom {b : Int} (h : By b) : Dom b := by
  rcases h with rfl | ⟨P,hP,rfl⟩
  · exact Dom.zero
  · exact Dom.prime hP (primes_two P hP)
structure Low (b bt : Int) (ts : List Int) (bot : Int) (us : List Int) : Prop where
  pr : ∀ P : Nat,b = (P : Int) → P ∈ Om.primesN → bot = 1 ∧ us = ts.map fun t => t * bt ^ (P - 2) % (P : Int)
  ze : b = 0 → bot = bt.fdiv (Lm.low bt ts) ∧ us = ts.map fun t => t.fdiv (Lm.low bt ts)
  len : us.length = ts.length
theorem inv_pow {P : Nat} (hP : P ∈ Om.primesN) {a : Int} (h0 : a ≠ 0) (ht : tk (P : Int) a = a) : tk (P : Int) (a ^ (P - 2) * a) = 1 := by
  have h2 := primes_two P hP
  have tkP : ∀ n,tk (P : Int) n = n % (P : Int) := fun n => tk_pos (by omega) n
  have h1 := Int.emod_nonneg a (show (P : Int) ≠ 0 by omega)
  have h3 := Int.emod_lt_of_pos a (show (0 : Int) < (P : Int) by omega)
  rw [tkP] at ht ⊢
  rw [← Int.pow_succ,show (P - 2).succ = P - 1 by omega]
  exact Om.fermatI rfl hP (by omega) (by omega)
theorem gcdL_low (a : Int) (ts : List Int) : (Lm.low a ts).natAbs = Lm.gcdL a.natAbs ts := by
  unfold Lm.low; split <;> omega
theorem Low.told {b bt : Int} {ts : List Int} {bot : Int} {us : List Int} (hB : By b) (h0 : bt ≠ 0) (ht : tk b bt = bt) (h : Low b bt ts bot us) :
    ∃ d,tk b d ≠ 0 ∧ (∀ k,tk b (co us k * d) = tk b (co ts k)) ∧ tk b (bot * d) = tk b bt ∧ (∀ x ∈ us,tk b x = x) ∧ 1 ≤ bot ∧ (b ≠ 0 → bot = 1) ∧ (b = 0 → Lm.gcdL bot.natAbs us = 1) := by
  rcases hB with rfl | ⟨P,hP,rfl⟩
  · obtain ⟨e1,e2⟩ := h.ze rfl
    have n0 := Lm.low_ne h0 ts
    obtain ⟨e,he,hf⟩ := Lm.low_fac bt h0 ts
    have eb : bot = e := by
      rw [e1]
      conv => lhs; arg 1; rw [hf]
      exact Int.mul_fdiv_cancel_left _ n0
    have eu : ∀ k,co us k * Lm.low bt ts = co ts k := fun k => by
      rw [e2,co_map (f := fun t => t.fdiv (Lm.low bt ts)) (by simp)]
      by_cases c : k < ts.length
      · obtain ⟨x,hx⟩ := Lm.low_dvd_t bt ts (co ts k) (by rw [co_lt c]; exact List.getElem_mem c)
        rw [hx,Int.mul_fdiv_cancel_left _ n0,Int.mul_comm]
      · rw [co_ge (by omega)]; simp
    refine ⟨Lm.low bt ts,by rw [tk_zero]; exact n0,fun k => by rw [tk_zero,tk_zero,eu k],by rw [tk_zero,tk_zero,eb,Int.mul_comm,← hf],fun x _ => tk_zero x,by omega,fun z => absurd rfl z,fun _ => ?_⟩
    have g1 := gcdL_low bt ts
    have m1 := Lm.gcdL_mul (Lm.low bt ts).natAbs bot.natAbs us
    have e3 : (Lm.low bt ts).natAbs * bot.natAbs = bt.natAbs := by rw [eb,← Int.natAbs_mul,← hf]
    have e4 : Lm.gcdL bt.natAbs (us.map fun t => ((Lm.low bt ts).natAbs : Int) * t) = Lm.gcdL bt.natAbs ts := by
      refine Lm.gcdL_abs _ ?_
      refine List.ext_getElem (by simp [h.len]) fun k h1 h2 => ?_
      simp only [List.length_map] at h1 h2
      have q := congrArg Int.natAbs (eu k)
      rw [co_lt h1,co_lt h2,Int.natAbs_mul] at q
      simp [Int.natAbs_mul]
      rw [Nat.mul_comm]; exact q
    rw [e3,e4,← g1] at m1
    have : 0 < (Lm.low bt ts).natAbs := by omega
    exact (Nat.eq_of_mul_eq_mul_left this (by rw [Nat.mul_one]; exact m1)).symm
  · obtain ⟨e1,e2⟩ := h.pr P rfl hP
    have h2 := primes_two P hP
    have tkP : ∀ n,tk (P : Int) n = n % (P : Int) := fun n => tk_pos (by omega) n
    have inv := inv_pow hP h0 ht
    refine ⟨bt,by rw [ht]; exact h0,fun k => ?_,by rw [e1,Int.one_mul],fun x hx => ?_,by omega,fun _ => e1,fun z => by omega⟩
    · rw [e2,co_map (f := fun t => t * bt ^ (P - 2) % (P : Int)) (by rw [Int.zero_mul]; exact Int.zero_emod _),← tkP,tk_mul_l,Int.mul_assoc,← tk_mul_r,inv,Int.mul_one]
    · rw [e2] at hx
      obtain ⟨t,_,rfl⟩ := List.mem_map.mp hx
      rw [← tkP,tk_tk]
section
variable {b : Int} {n W u m : Nat} {A0 A A' : Nat → Nat → Int} {hd hd' : Nat → Nat} {r r' : Nat} {L L' : List (List Int)} {last last' : Int}
theorem Sums.congr {x y : Nat → Int} {bt bt' : Int} (e : ∀ k,k < m → tk b (x k) = tk b (y k)) (eb : tk b bt = tk b bt') (h : Sums b n m A0 x bt) : Sums b n m A0 y bt' := fun i hi => by
  have q := h i hi
  rw [← tk_mul_l,← eb,tk_mul_l,← q]
  exact tk_sm fun k hk => by rw [← tk_mul_r,← e k hk,tk_mul_r]
theorem ClI.tops_sums (h : ClI b n W u A0 m A hd r L last) (hz : ∀ i,r ≤ i → i < n → tk b (En A hd r i m) = 0) : Sums b n m A0 (co (topsL (fun h => tk b (En A hd r h m)) hd m r)) last := by
  have R := told_rel (A := A) (hd := hd) (r := r) (m := m + 1) (k := m) (b := b) (n := n) (fun j hj => by have := h.hc j hj; omega) (Nat.lt_succ_self _) hz
  have S : Sums b n m A0 (fun j => sm r fun h => if j = hd h then En A hd r h m else 0) (dt A hd r) := by
    refine Sums.rel.mpr (h.sw.rel.mpr ?_)
    intro i hi
    refine Eq.trans ?_ (R i hi)
    refine congrArg (Rm.tk b) (sm_congr fun k hk => ?_)
    congr 1
    dsimp only
    by_cases c : k = m
    · rw [if_pos c,if_pos c,sm_none (fun j hj => by rw [if_neg (by have := h.hc j hj; omega)]),Int.zero_sub]
    · rw [if_neg c,if_neg c,Int.sub_zero]
  refine S.congr (fun k hk => ?_) (by rw [h.la,tk_tk])
  rw [topsL,co_ofF,if_pos hk]
  refine tk_sm fun j _ => ?_
  by_cases e : k = hd j
  · rw [if_pos e,if_pos e,tk_tk]
  · rw [if_neg e,if_neg e]
theorem ClI.free_rel (h : ClI b n W u A0 m A hd r L last) (hW : m ≤ W) {c : Nat} (hc : c < m) (hcf : ∀ j,j < r → hd j ≠ c) : Rel b n m A0 (co (freeL (fun i => tk b (0 - co (ln L i) c)) hd m c last r)) := by
  refine h.sw.rel.mpr ?_
  have R := told_rel (A := A) (hd := hd) (r := r) (m := m) (k := c) (b := b) (n := n) h.hc hc (h.zero c hc hcf)
  intro i hi
  have q := tk_neg0 (R i hi)
  rw [← sm_neg] at q
  refine Eq.trans ?_ q
  refine tk_sm fun k hk => ?_
  rw [← Int.mul_neg,← tk_mul_r,← tk_mul_r b (A i k) (-_)]
  congr 2
  dsimp only
  rw [freeL,co_ofF,if_pos hk]
  by_cases e : k = c
  · rw [if_pos e,if_pos e,sm_none (fun j hj => by rw [if_neg (by have := hcf j hj; omega)]),Int.zero_sub,Int.neg_neg,h.la,tk_tk]
  · rw [if_neg e,if_neg e,Int.sub_zero,← sm_neg]
    refine tk_sm fun j hj => ?_
    by_cases e2 : k = hd j
    · rw [if_pos e2,if_pos e2,tk_tk,h.en j c (by have := h.rn; omega) (by omega),Int.zero_sub]
      unfold Rm.tk
      split
      · rfl
      · rw [← Int.zero_sub,← Int.zero_sub,Int.sub_emod,Int.emod_emod,← Int.sub_emod]
    · rw [if_neg e2,if_neg e2]; rfl
theorem ClI.last_ne (h : ClI b n W u A0 m A hd r L last) : last ≠ 0 ∧ tk b last = last := ⟨by rw [h.la]; exact h.nz,by rw [h.la,tk_tk]⟩
end
noncomputable def SolvedBy (u : Nat) (b : Int) (n m : Nat) (A0 : Nat → Nat → Int) (bot : Int) (us : List Int) : Prop :=
  ∃ A hd r L last,ClI b n (m + 1) u A0 m A hd r L last ∧ (∀ i,r ≤ i → i < n → tk b (En A hd r i m) = 0) ∧ Low b last (topsL (fun h => tk b (En A hd r h m)) hd m r) bot us
noncomputable def FreeBy (u : Nat) (b : Int) (n m : Nat) (A0 : Nat → Nat → Int) (fs : List Int) : Prop :=
  ∃ A hd r L last c bot,ClI b n (m + 1) u A0 m A hd r L last ∧ c < m ∧ (∀ j,j < r → hd j ≠ c) ∧ (∀ k,k < c → ∃ j,j < r ∧ hd j = k) ∧ Low b last (freeL (fun i => tk b (0 - co (ln L i) c)) hd m c last r) bot fs
theorem Sums.cutB {b : Int} {n m : Nat} {A : Nat → Nat → Int} {x y : Nat → Int} {bt bot d : Int} (hD : Dom b) (hd : tk b d ≠ 0) (e : ∀ k,k < m → tk b (y k * d) = tk b (x k)) (eb : tk b (bot * d) = tk b bt) (h : Sums b n m A x bt) : Sums b n m A y bot :=
  Sums.rel.mpr (Rel.cut hD hd (fun k hk => by
    by_cases c : k = m
    · rw [if_pos c,if_pos c,Int.neg_mul,← Int.neg_one_mul,← tk_mul_r,eb,tk_mul_r,Int.neg_one_mul]
    · rw [if_neg c,if_neg c]; exact e k (by omega)) (Sums.rel.mp h))
structure SolOk (b : Int) (n m : Nat) (A0 : Nat → Nat → Int) (bot : Int) (us : List Int) : Prop where
  len : us.length = m
  tk : ∀ x ∈ us,Rm.tk b x = x
  pos : 1 ≤ bot
  pr : b ≠ 0 → bot = 1
  ze : b = 0 → Lm.gcdL bot.natAbs us = 1
  sums : Sums b n m A0 (co us) bot
theorem SolvedBy.ok {u : Nat} {b : Int} {n m : Nat} {A0 : Nat → Nat → Int} {bot : Int} {us : List Int} (hB : By b) (h : SolvedBy u b n m A0 bot us) : SolOk b n m A0 bot us := by
  obtain ⟨A,hd,r,L,last,I,hz,lo⟩ := h
  obtain ⟨d,d0,d1,d2,d3,d4,d5,d6⟩ := lo.told hB I.last_ne.1 I.last_ne.2
  exact ⟨by rw [lo.len,topsL_len],d3,d4,d5,d6,Sums.cutB hB.dom d0 (fun k _ => d1 k) d2 (I.tops_sums hz)⟩
theorem FreeBy.ok {u : Nat} {b : Int} {n m : Nat} {A0 : Nat → Nat → Int} {fs : List Int} (hB : By b) (h : FreeBy u b n m A0 fs) : FreeOk b n m A0 fs := by
  obtain ⟨A,hd,r,L,last,c,bot,I,hc,hn,hf,lo⟩ := h
  obtain ⟨d,d0,d1,d2,d3,d4,d5,d6⟩ := lo.told hB I.last_ne.1 I.last_ne.2
  refine ⟨by rw [lo.len,freeL_len],d3,Rel.cut hB.dom d0 (fun k _ => d1 k) (I.free_rel (Nat.le_succ m) hc hn),c,hc,fun z => ?_⟩
  have q := d1 c
  rw [← tk_mul_l,z,Int.zero_mul,tk0,freeL,co_ofF,if_pos hc,if_pos rfl,I.last_ne.2] at q
  exact I.last_ne.1 q.symm
end Dm
namespace Dm
open Rm Pm
noncomputable def Comb (n : Nat) (A : Nat → Nat → Int) (e : Nat → Int) : Prop := ∃ y : Nat → Int,∀ k,e k = sm n fun j => y j * A j k
theorem Comb.row {n : Nat} {A : Nat → Nat → Int} {i : Nat} (hi : i < n) : Comb n A (A i) := ⟨fun j => if j = i then 1 else 0,fun k => by
  rw [sm_congr (g := fun j => if j = i then A i k else 0) fun j _ => ?_,sm_single,if_pos hi]
  dsimp only
  by_cases c : j = i
  · rw [if_pos c,if_pos c,c,Int.one_mul]
  · rw [if_neg c,if_neg c,Int.zero_mul]⟩
theorem Comb.lin {n : Nat} {A : Nat → Nat → Int} {e f g : Nat → Int} (c d : Int) (he : Comb n A e) (hf : Comb n A f) (hg : ∀ k,g k = c * e k + d * f k) : Comb n A g := by
  obtain ⟨y,hy⟩ := he
  obtain ⟨z,hz⟩ := hf
  refine ⟨fun j => c * y j + d * z j,fun k => ?_⟩
  rw [hg,hy,hz,← sm_mul,← sm_mul,← sm_add]
  exact sm_congr fun j _ => by rw [Int.add_mul,Int.mul_assoc,Int.mul_assoc]
theorem Comb.nought {n : Nat} {A : Nat → Nat → Int} : Comb n A fun _ => 0 := ⟨fun _ => 0,fun k => (sm_none fun j _ => Int.zero_mul _).symm⟩
theorem Comb.sum {n : Nat} {A : Nat → Nat → Int} {f : Nat → Nat → Int} (c : Nat → Int) : ∀ m,(∀ j,j < m → Comb n A (f j)) → Comb n A fun k => sm m fun j => c j * f j k
  | 0,_ => Comb.nought
  | m + 1,h => Comb.lin 1 (c m) (Comb.sum c m fun j hj => h j (by omega)) (h m (by omega)) fun k => by rw [Int.one_mul]; rfl
theorem Swp.comb {n : Nat} {A0 A : Nat → Nat → Int} (h : Swp n A0 A) : ∀ i,i < n → Comb n A0 (A i) := by
  induction h with
  | refl => exact fun i hi => Comb.row hi
  | @step A a c _ h1 h2 ih =>
    intro i hi
    by_cases e : i = c
    · subst e
      exact Comb.lin (-1) 0 (ih a (by omega)) Comb.nought fun k => by rw [turn_down]; omega
    · by_cases e2 : i = a
      · subst e2
        exact Comb.lin 1 0 (ih c h2) Comb.nought fun k => by rw [turn_up (by omega)]; omega
      · exact Comb.lin 1 0 (ih i hi) Comb.nought fun k => by rw [turn_low e2 e]; omega
theorem cr_lin (A : Nat → Nat → Int) (hd : Nat → Nat) {r h : Nat} (hh : h < r) : ∃ C : Nat → Int,∀ k,cr A hd r h k = sm r fun j => C j * A j k := by
  refine ⟨fun j => det r (setc (Bk A hd) h fun i' => if i' = j then 1 else 0),fun k => ?_⟩
  have e := det_colSum (n := r) (Bk A hd) hh (fun j => A j k) (fun j i' => if i' = j then 1 else 0) r
  rw [sm_congr (g := fun j => A j k * det r (setc (Bk A hd) h fun i' => if i' = j then 1 else 0)) fun j _ => Int.mul_comm ..,← e]
  refine det_congr fun i j hi _ => ?_
  unfold setc
  by_cases c : j = h
  · rw [if_pos c,if_pos c]
    dsimp only
    rw [sm_congr (g := fun j => if j = i then A i k else 0) fun j _ => ?_,sm_single,if_pos hi]
    by_cases c2 : j = i
    · rw [if_pos c2,if_pos c2.symm,c2,Int.mul_one]
    · rw [if_neg c2,if_neg (fun z => c2 z.symm),Int.mul_zero]
  · rw [if_neg c,if_neg c]
theorem En_comb {A : Nat → Nat → Int} {hd : Nat → Nat} {n r i : Nat} {A0 : Nat → Nat → Int} (hA : ∀ j,j < n → Comb n A0 (A j)) (hr : r ≤ n) (h1 : r ≤ i) (h2 : i < n) : Comb n A0 (En A hd r i) := by
  have lo : ∀ h,h < r → Comb n A0 (En A hd r h) := fun h hh => by
    obtain ⟨C,hC⟩ := cr_lin A hd hh
    obtain ⟨y,hy⟩ := Comb.sum (n := n) (A := A0) (f := A) C r fun j hj => hA j (by omega)
    refine ⟨y,fun k => ?_⟩
    rw [← hy k]
    refine Eq.trans ?_ (hC k)
    unfold En
    rw [if_pos hh]
  refine Comb.lin (dt A hd r) (-1) (hA i h2) (Comb.sum (fun h => A i (hd h)) r lo) fun k => ?_
  have := En_sum A hd r i k
  rw [if_neg (by omega)] at this
  rw [Int.mul_comm (dt A hd r),this]
  omega
theorem ClI.against {b : Int} {n W u m : Nat} {A0 A : Nat → Nat → Int} {hd : Nat → Nat} {r : Nat} {L : List (List Int)} {last : Int} (h : ClI b n W u A0 m A hd r L last) {i : Nat} (h1 : r ≤ i) (h2 : i < n) (hne : tk b (En A hd r i m) ≠ 0) :
    ∃ y : Nat → Int,(∀ k,k < m → tk b (sm n fun j => y j * A0 j k) = 0) ∧ tk b (sm n fun j => y j * A0 j m) ≠ 0 := by
  obtain ⟨y,hy⟩ := En_comb (hd := hd) h.sw.comb h.rn h1 h2
  refine ⟨y,fun k hk => ?_,by rw [← hy m]; exact hne⟩
  rw [← hy k]
  by_cases c : ∃ j,j < r ∧ hd j = k
  · obtain ⟨j,hj,e⟩ := c
    rw [← e,En_head hj,if_neg (by omega),tk0]
  · exact h.zero k hk (fun j hj e => c ⟨j,hj,e⟩) i h1 h2
end Dm
namespace Dm
open Rm Pm
end Dm
namespace Dm
open Rm Pm
noncomputable def FB (b : Int) (f : Nat → Int) (N s : Nat) (x : Nat → Int) (bt : Int) : Prop := ∀ n,s ≤ n → n < N → tk b (sm s fun k => x k * f (n - 1 - k)) = tk b (bt * f n)
theorem FB.grow {b : Int} {f : Nat → Int} {N s : Nat} {x : Nat → Int} {bt : Int} (h : FB b f N s x bt) : FB b f N (s + 1) (fun k => if k < s then x k else 0) bt := fun n h1 h2 => by
  rw [← h n (by omega) h2,sm]
  dsimp only
  rw [if_neg (Nat.lt_irrefl _),Int.zero_mul,Int.add_zero]
  exact congrArg (tk b) (sm_congr fun k hk => by rw [if_pos hk])
theorem FB.more {b : Int} {f : Nat → Int} {N s : Nat} {x : Nat → Int} {bt : Int} (h : FB b f N s x bt) : ∀ t,s ≤ t → ∃ y,FB b f N t y bt := fun t => by
  induction t with
  | zero => intro hs; obtain rfl : s = 0 := by omega
            exact ⟨x,h⟩
  | succ t ih =>
    intro hs
    by_cases c : s = t + 1
    · subst c; exact ⟨x,h⟩
    · obtain ⟨y,hy⟩ := ih (by omega)
      exact ⟨_,hy.grow⟩
theorem FB.whole {b : Int} {f : Nat → Int} {N s : Nat} (h : N ≤ s) (x : Nat → Int) (bt : Int) : FB b f N s x bt := fun n h1 h2 => absurd h2 (by omega)
theorem sm_rev3 (f : Nat → Int) : ∀ n : Nat,sm n f = sm n (fun k => f (n - 1 - k))
  | 0 => rfl
  | n + 1 => by
    rw [sm_head (fun k => f (n + 1 - 1 - k)),sm,sm_rev3 f n,Int.add_comm]
    congr 1
    exact sm_congr fun k _ => by rw [show n - 1 - k = n + 1 - 1 - (k + 1) by omega]
end Dm
namespace Dm
open Rm Pm
theorem fb_sums {b : Int} {kn : List Int} {s : Nat} {x : Nat → Int} {bt : Int} : Sums b (kn.length - s) s (fitA b kn s) x bt ↔ FB b (co kn) kn.length s x bt := by
  constructor
  · intro h n h1 h2
    have q := h (n - s) (by omega)
    rw [fits_row (by omega),fitA_end (by omega),tk_mul_r] at q
    rw [show s + (n - s) = n by omega] at q
    exact q
  · intro h i hi
    rw [fits_row hi,fitA_end hi,tk_mul_r]
    exact h (s + i) (by omega) (by omega)
theorem FB.two {b : Int} {kn : List Int} {s : Nat} {x : Nat → Int} {bt : Int} (hb : tk b bt ≠ 0) (h : FB b (co kn) kn.length s x bt) : ¬ Ind b (kn.length - (s + 1)) (s + 1) (fitA b kn (s + 1)) := fun hI => by
  have z := hI (fun k => if k = 0 then bt else -x (k - 1)) (fun i hi => by
    rw [fits_row hi,sm_head,if_pos rfl]
    have e : sm s (fun k => (if k + 1 = 0 then bt else -x (k + 1 - 1)) * co kn (s + 1 + i - 1 - (k + 1))) = -sm s fun k => x k * co kn (s + i - 1 - k) := by
      rw [← sm_neg]
      refine sm_congr fun k hk => ?_
      rw [if_neg (by omega),Nat.add_sub_cancel,Int.neg_mul,show s + 1 + i - 1 - (k + 1) = s + i - 1 - k by omega]
    have e' : (fun k => (if k + 1 = 0 then bt else -x (k + 1 - 1)) * co kn (s + 1 + i - 1 - (k + 1))) = fun i_1 => (fun k => (if k = 0 then bt else -x (k - 1)) * co kn (s + 1 + i - 1 - k)) (i_1 + 1) := rfl
    rw [← e',e,show s + 1 + i - 1 - 0 = s + i by omega,← Int.sub_eq_add_neg]
    exact tk_sub_zero.mpr (h (s + i) (by omega) (by omega)).symm) 0 (Nat.succ_pos _)
  rw [if_pos rfl] at z
  exact hb z
theorem fb_two {b : Int} {kn : List Int} {s t : Nat} {x : Nat → Int} {bt : Int} (hb : tk b bt ≠ 0) (h : FB b (co kn) kn.length s x bt) (ht : s < t) : ¬ Ind b (kn.length - t) t (fitA b kn t) := by
  obtain ⟨y,hy⟩ := h.more (t - 1) (by omega)
  have := hy.two hb
  rwa [show t - 1 + 1 = t by omega] at this
theorem SolOk.bot {b : Int} {n m : Nat} {A0 : Nat → Nat → Int} {bot : Int} {us : List Int} (hb : Rm.tk b 1 ≠ 0) (h : SolOk b n m A0 bot us) : Rm.tk b bot ≠ 0 := by
  by_cases c : b = 0
  · have := h.pos
    rw [c,Rm.tk_zero]; omega
  · rw [h.pr c]; exact hb
end Dm
namespace Dm
open Rm Pm
theorem ker_b {b : Int} (hD : Dom b) (h1 : tk b 1 ≠ 0) (n : Nat) (A : Nat → Nat → Int) : ∃ x : Nat → Int,(∃ k,k < n + 1 ∧ tk b (x k) ≠ 0) ∧ Rel b n (n + 1) A x := by
  refine Classical.byContradiction fun hno => ?_
  have hI : Ind b (n + 1) (n + 1) (fun i k => if i = 0 then 0 else A (i - 1) k) := fun x hx k hk => by
    refine Classical.byContradiction fun hk0 => hno ⟨x,⟨k,hk,hk0⟩,fun i hi => ?_⟩
    have := hx (i + 1) (by omega)
    refine Eq.trans (congrArg (tk b) (sm_congr fun k _ => ?_)) this
    show A i k * x k = (if i + 1 = 0 then 0 else A (i + 1 - 1) k) * x k
    rw [if_neg (by omega)]; rfl
  refine det_of_ind hD h1 hI ?_
  rw [det_first,sm_none fun c _ => by rw [if_pos rfl,Int.mul_zero,Int.zero_mul],tk0]
theorem not_ind {b : Int} (hD : Dom b) (h1 : tk b 1 ≠ 0) {n m : Nat} (h : n < m) (A : Nat → Nat → Int) : ¬ Ind b n m A := fun hI => by
  obtain ⟨x,⟨k,hk,hne⟩,hx⟩ := ker_b hD h1 n A
  refine hne ?_
  have q := hI (fun j => if j < n + 1 then x j else 0) (fun i hi => ?_) k (by omega)
  · rw [if_pos hk] at q; exact q
  · show tk b (sm m fun j => A i j * if j < n + 1 then x j else 0) = 0
    rw [sm_more (m := n + 1) (by omega) fun j h2 _ => by rw [if_neg (by omega),Int.mul_zero]]
    rw [sm_congr (g := fun j => A i j * x j) fun j hj => by rw [if_pos hj]]
    exact hx i hi
theorem sm_pick {m D : Nat} {hd : Nat → Nat} (hh : ∀ j,j < D → hd j < m) (f x : Nat → Int) : sm m (fun c => f c * sm D fun j => if c = hd j then x j else 0) = sm D fun j => f (hd j) * x j := by
  rw [sm_congr (g := fun c => sm D fun j => f c * if c = hd j then x j else 0) fun c _ => (sm_mul ..).symm,sm_swap]
  refine sm_congr fun j hj => ?_
  rw [sm_congr (g := fun c => if c = hd j then f (hd j) * x j else 0) fun c _ => by
    by_cases e : c = hd j
    · rw [if_pos e,if_pos e,e]
    · rw [if_neg e,if_neg e,Int.mul_zero],sm_single,if_pos (hh j hj)]
theorem top_one {P : Nat → Prop} : ∀ {n : Nat},(∃ k,k < n ∧ P k) → ∃ k,k < n ∧ P k ∧ ∀ j,k < j → j < n → ¬ P j
  | 0,⟨_,h,_⟩ => absurd h (Nat.not_lt_zero _)
  | n + 1,⟨k,h,hp⟩ => by
    by_cases c : P n
    · exact ⟨n,Nat.lt_succ_self _,c,fun j h1 h2 => absurd h2 (by omega)⟩
    · obtain ⟨k',h1,h2,h3⟩ := top_one (P := P) (n := n) ⟨k,by
        rcases Nat.lt_succ_iff_lt_or_eq.mp h with z | z
        · exact z
        · rw [z] at hp; exact absurd hp c,hp⟩
      refine ⟨k',by omega,h2,fun j j1 j2 => ?_⟩
      rcases Nat.lt_succ_iff_lt_or_eq.mp j2 with z | z
      · exact h3 j j1 z
      · rw [z]; exact c
theorem ClI.rank_le {b : Int} {n W u m : Nat} {A0 A : Nat → Nat → Int} {hd : Nat → Nat} {r : Nat} {L : List (List Int)} {last : Int} (h : ClI b n W u A0 m A hd r L last) (hD : Dom b) (h1 : tk b 1 ≠ 0) {d : Nat} {c : Nat → Int}
    (hrec : ∀ i,i + d < n → ∀ k,k < m → tk b (A0 (i + d) k) = tk b (sm d fun t => c t * A0 (i + t) k)) : r ≤ d := by
  refine Nat.le_of_not_lt fun z => ?_
  obtain ⟨x,hex,hx⟩ := ker_b hD h1 d (fun i j => A0 i (hd j))
  obtain ⟨j0,hj0,hne,htop⟩ := top_one hex
  have hh : ∀ j,j < d + 1 → hd j < m := fun j hj => h.hc j (by omega)
  let x' : Nat → Int := fun j => if j ≤ j0 then x j else 0
  have ex : ∀ j,j < d + 1 → ∀ v : Int,tk b (v * x' j) = tk b (v * x j) := fun j hj v => by
    show tk b (v * if j ≤ j0 then x j else 0) = _
    by_cases q : j ≤ j0
    · rw [if_pos q]
    · have : tk b (x j) = 0 := Classical.byContradiction fun w => htop j (by omega) hj w
      rw [if_neg q,Int.mul_zero,Int.mul_comm,← tk_mul_l,this,Int.zero_mul]
  have g0 : ∀ i,i < n → tk b (sm (d + 1) fun j => A0 i (hd j) * x' j) = 0 := fun i => by
    induction i using Nat.strongRecOn with
    | ind i ih =>
      intro hi
      by_cases q : i < d
      · rw [tk_sm (g := fun j => A0 i (hd j) * x j) fun j hj => ex j hj _]
        exact hx i q
      · obtain ⟨i',rfl⟩ : ∃ i',i = i' + d := ⟨i - d,by omega⟩
        have e1 : tk b (sm (d + 1) fun j => A0 (i' + d) (hd j) * x' j) = tk b (sm (d + 1) fun j => (sm d fun t => c t * A0 (i' + t) (hd j)) * x' j) := tk_sm fun j hj => by
          rw [← tk_mul_l,hrec i' hi (hd j) (hh j hj),tk_mul_l]
        have e2 : sm (d + 1) (fun j => (sm d fun t => c t * A0 (i' + t) (hd j)) * x' j) = sm d fun t => c t * sm (d + 1) fun j => A0 (i' + t) (hd j) * x' j := by
          rw [sm_congr (g := fun j => sm d fun t => c t * (A0 (i' + t) (hd j) * x' j)) fun j _ => by
            rw [Int.mul_comm,← sm_mul]
            exact sm_congr fun t _ => by rw [Int.mul_comm,Int.mul_assoc],sm_swap]
          exact sm_congr fun t _ => sm_mul ..
        rw [e1,e2]
        refine tk_sm0 fun t ht => ?_
        rw [Int.mul_comm,← tk_mul_l,ih (i' + t) (by omega) (by omega),Int.zero_mul,tk0]
  refine h.no_head hD (x := fun k => sm (d + 1) fun j => if k = hd j then x' j else 0) (k := hd j0) (fun i hi => ?_) (hh j0 hj0) (fun k hk _ => ?_) ?_ j0 (by omega) rfl
  · rw [sm_pick hh]; exact g0 i hi
  · refine sm_none fun j hj => ?_
    by_cases e : k = hd j
    · have : ¬ j ≤ j0 := fun q => by
        rcases Nat.lt_or_eq_of_le q with w | w
        · have := h.up j j0 w (by omega); omega
        · rw [w] at e; omega
      show (if k = hd j then (if j ≤ j0 then x j else 0) else 0) = 0
      rw [if_neg this]; split <;> rfl
    · exact if_neg e
  · have e : sm (d + 1) (fun j => if hd j0 = hd j then x' j else 0) = sm (d + 1) fun j => if j = j0 then x j0 else 0 := sm_congr fun j hj => by
      by_cases e : j = j0
      · rw [if_pos e,e,if_pos rfl]; exact if_pos (Nat.le_refl _)
      · rw [if_neg e,if_neg]
        intro w
        rcases Nat.lt_or_gt_of_ne e with y | y
        · have := h.up j j0 y (by omega); omega
        · have := h.up j0 j y (by omega); omega
    rw [e,sm_single,if_pos hj0]
    exact hne
theorem kp_rec {b : Int} {Q : List Int} {a : Nat → Int} (hM : Mon Q) (hK : Kp b Q a) (n : Nat) : tk b (a (n + (Q.length - 1))) = tk b (sm (Q.length - 1) fun j => -co Q j * a (n + j)) := by
  have hp := hM.pos
  have q := hK n
  rw [ks,show Q.length = Q.length - 1 + 1 by omega,sm,hM.one,Int.one_mul] at q
  have e : sm (Q.length - 1) (fun j => -co Q j * a (n + j)) = -sm (Q.length - 1) fun k => co Q k * a (n + k) := by
    rw [← sm_neg]
    exact sm_congr fun k _ => Int.neg_mul ..
  rw [e]
  refine tk_sub_zero.mp ?_
  rw [Int.sub_neg,Int.add_comm]
  exact q
theorem fit_rank {b : Int} (hD : Dom b) (h1 : tk b 1 ≠ 0) {kn : List Int} {a : Nat → Int} (ha : ∀ n,n < kn.length → co kn n = a n) {Q : List Int} (hM : Mon Q) (hK : Kp b Q a) {s u c : Nat} {A : Nat → Nat → Int} {hd : Nat → Nat} {r : Nat} {L : List (List Int)} {last : Int} (hc : c ≤ s + 1) (h : ClI b (kn.length - s) (s + 1) u (fitA b kn s) c A hd r L last) : r ≤ Q.length - 1 := by
  refine h.rank_le hD h1 (c := fun j => -co Q j) fun i hi k hk => ?_
  obtain ⟨e,he⟩ : ∃ e,∀ i,i < kn.length - s → fitA b kn s i k = tk b (a (i + e)) := by
    by_cases z : k < s
    · exact ⟨s - 1 - k,fun i hi => by rw [fitA_in hi z,ha _ (by omega),show s + i - 1 - k = i + (s - 1 - k) by omega]⟩
    · exact ⟨s,fun i hi => by rw [show k = s by omega,fitA_end hi,ha _ (by omega),Nat.add_comm]⟩
  rw [he _ hi,tk_tk,show i + (Q.length - 1) + e = i + e + (Q.length - 1) by omega,kp_rec hM hK]
  refine tk_sm fun j hj => ?_
  rw [he _ (by omega),Int.mul_comm _ (tk b _),tk_mul_l,Int.mul_comm,show i + j + e = i + e + j by omega]
theorem fit_ind {b : Int} {kn : List Int} {a : Nat → Int} (ha : ∀ n,n < kn.length → co kn n = a n) {m : Nat} (hH : Ind b m m (hk a)) (hN : 2 * m ≤ kn.length) : Ind b (kn.length - m) m (fitA b kn m) := fun x hx k hk' => by
  have q := hH (fun j => x (m - 1 - j)) (fun i hi => ?_) (m - 1 - k) (by omega)
  · rw [show m - 1 - (m - 1 - k) = k by omega] at q; exact q
  · have := hx i (by omega)
    rw [sm_rev3] at this
    refine Eq.trans (tk_sm fun j hj => ?_) this
    rw [fitA_in (by omega) (by omega),ha _ (by omega),tk_mul_l,show m + i - 1 - (m - 1 - j) = i + j by omega]; rfl
theorem fit_none {b : Int} {kn : List Int} {a : Nat → Int} (ha : ∀ n,n < kn.length → co kn n = a n) {m : Nat} (hH : Ind b m m (hk a)) (hN : 2 * m ≤ kn.length) {t : Nat} (ht : t < m) {x : Nat → Int} {bt : Int} (hb : tk b bt ≠ 0) : ¬ FB b (co kn) kn.length t x bt := fun hF => by
  have q := hH (fun j => if j < t then x (t - 1 - j) else if j = t then -bt else 0) (fun i hi => ?_) t ht
  · simp only [Nat.lt_irrefl,if_false,if_true] at q
    refine hb ?_
    have : tk b (-1 * -bt) = 0 := by rw [Int.mul_comm,← tk_mul_l,q,Int.zero_mul,tk0]
    rw [show (-1 : Int) * -bt = bt by omega] at this
    exact this
  · show tk b (sm m fun j => a (i + j) * if j < t then x (t - 1 - j) else if j = t then -bt else 0) = 0
    rw [sm_more (m := t + 1) (by omega) fun j h2 _ => by rw [if_neg (by omega),if_neg (by omega),Int.mul_zero],sm,if_neg (Nat.lt_irrefl _),if_pos rfl]
    have e : sm t (fun j => a (i + j) * if j < t then x (t - 1 - j) else if j = t then -bt else 0) = sm t fun k => x k * co kn (i + t - 1 - k) := by
      rw [sm_rev3]
      refine sm_congr fun j hj => ?_
      rw [if_pos (by omega),ha _ (by omega),show t - 1 - (t - 1 - j) = j by omega,show i + (t - 1 - j) = i + t - 1 - j by omega,Int.mul_comm]
    have z := hF (i + t) (by omega) (by omega)
    rw [ha (i + t) (by omega)] at z
    rw [e,← tk_add_l,z,tk_add_l,show bt * a (i + t) + a (i + t) * -bt = 0 by rw [Int.mul_neg,Int.mul_comm]; omega,tk0]
theorem fit_one {b : Int} {kn : List Int} {m : Nat} (hI : Ind b (kn.length - m) m (fitA b kn m)) {bot : Int} {us rule : List Int} (so : SolOk b (kn.length - m) m (fitA b kn m) bot us) (hr : FB b (co kn) kn.length m (co rule) 1) (lr : rule.length = m) (tr : ∀ x ∈ rule,tk b x = x) : bot = 1 ∧ us = rule := by
  have hS := fb_sums.mpr hr
  have q : ∀ k,k < m → tk b (co us k - bot * co rule k) = 0 := fun k hk => hI (fun k => co us k - bot * co rule k) (fun i hi => by
    have z1 := so.sums i hi
    have z2 := hS i hi
    rw [sm_congr (g := fun k => fitA b kn m i k * co us k - bot * (fitA b kn m i k * co rule k)) fun k _ => by rw [Int.mul_sub,Int.mul_left_comm],sm_sub,sm_mul]
    rw [Int.one_mul] at z2
    have z3 : tk b (bot * sm m fun k => fitA b kn m i k * co rule k) = tk b (bot * fitA b kn m i m) := by rw [Int.mul_comm,← tk_mul_l,z2,tk_mul_l,Int.mul_comm]
    exact tk_sub_zero.mpr (z1.trans z3.symm)) k hk
  have c1 : ∀ k,tk b (co us k) = co us k := fun k => by
    by_cases hk : k < us.length
    · exact so.tk _ (co_mem hk)
    · rw [co_ge (by omega),tk0]
  have c2 : ∀ k,tk b (co rule k) = co rule k := fun k => by
    by_cases hk : k < rule.length
    · exact tr _ (co_mem hk)
    · rw [co_ge (by omega),tk0]
  have hb1 : bot = 1 := by
    by_cases hb : b = 0
    · have g := so.ze hb
      subst hb
      have hp := so.pos
      have eu : us = rule.map fun t => (bot.natAbs : Int) * t := co_ext (by rw [List.length_map,so.len,lr]) fun k => by
        rw [co_map (Int.mul_zero _),show ((bot.natAbs : Nat) : Int) = bot by omega]
        by_cases hk : k < m
        · have := q k hk
          rw [tk_zero] at this
          omega
        · rw [co_ge (by rw [so.len]; omega),co_ge (p := rule) (by omega),Int.mul_zero]
      rw [eu] at g
      have g2 := Lm.gcdL_mul bot.natAbs 1 rule
      rw [Nat.mul_one,g] at g2
      have := Nat.eq_one_of_mul_eq_one_right g2.symm
      omega
    · exact so.pr hb
  refine ⟨hb1,co_ext (by rw [so.len,lr]) fun k => ?_⟩
  by_cases hk : k < m
  · have := q k hk
    rw [hb1,Int.one_mul] at this
    rw [← c1,← c2]
    exact tk_sub_zero.mp this
  · rw [co_ge (by rw [so.len]; omega),co_ge (by omega)]
end Dm
namespace K24
open PySem L2
seal PA PE PS PSs PT PW PI PG PGs PO PIf
def top (i : Nat) : Stmt := PySem.Challenge.pw_nextbyrule_k24_rules_found_again.main.body.getD i (.Pass ⟨0,0,0,0⟩)
noncomputable abbrev s_is_prime : Stmt := top 4
noncomputable abbrev s_taken : Stmt := top 5
noncomputable abbrev s_inverse : Stmt := top 6
noncomputable abbrev s_over : Stmt := top 7
noncomputable abbrev s_line_taken : Stmt := top 9
noncomputable abbrev s_head_line : Stmt := top 10
noncomputable abbrev s_bring_up : Stmt := top 11
noncomputable abbrev s_freed : Stmt := top 12
noncomputable abbrev s_clear : Stmt := top 13
noncomputable abbrev s_common_divisor : Stmt := top 14
noncomputable abbrev s_lowest : Stmt := top 15
noncomputable abbrev s_free_numbers : Stmt := top 16
noncomputable abbrev s_solution : Stmt := top 17
noncomputable abbrev s_lines_of : Stmt := top 19
noncomputable abbrev s_fit : Stmt := top 20
noncomputable abbrev s_fitted : Stmt := top 21
noncomputable abbrev s_trimmed : Stmt := top 23
noncomputable abbrev s_divided : Stmt := top 24
noncomputable abbrev s_monic : Stmt := top 25
noncomputable abbrev s_greatest : Stmt := top 26
noncomputable abbrev s_of_rule : Stmt := top 27
noncomputable abbrev s_rule_of : Stmt := top 28
noncomputable abbrev s_prime_above : Stmt := top 31
noncomputable abbrev s_divides : Stmt := top 32
noncomputable abbrev s_taken_poly : Stmt := top 33
noncomputable abbrev s_nearest : Stmt := top 34
noncomputable abbrev s_joined : Stmt := top 35
noncomputable abbrev s_whole_greatest : Stmt := top 36
noncomputable abbrev s_shared_divisor : Stmt := top 37
noncomputable abbrev s_top_of : Stmt := top 39
noncomputable abbrev s_least_of : Stmt := top 40
noncomputable abbrev s_shortest : Stmt := top 41
noncomputable abbrev s_Lcell_at : Stmt := top 43
noncomputable abbrev s_Lmixed : Stmt := top 44
noncomputable abbrev s_Lby : Stmt := top 45
noncomputable abbrev s_Ltaken : Stmt := top 46
noncomputable abbrev s_Lnumber : Stmt := top 47
noncomputable abbrev s_Lgone : Stmt := top 48
noncomputable abbrev s_Lrow : Stmt := top 49
noncomputable abbrev s_Llonger : Stmt := top 50
noncomputable abbrev s_Ldrawn_row : Stmt := top 51
noncomputable abbrev s_law : Stmt := top 52
theorem sc_is_prime : FnScope ["number","divisor"] ["number"] (defScope s_is_prime) := ⟨rfl,rfl,rfl,by decide +kernel,rfl,by decide +kernel,by decide +kernel⟩
theorem sc_taken : FnScope ["by","number"] ["by","number"] (defScope s_taken) := ⟨rfl,rfl,rfl,by decide +kernel,rfl,by decide +kernel,by decide +kernel⟩
theorem sc_inverse : FnScope ["prime","number","power","square","left"] ["prime","number"] (defScope s_inverse) := ⟨rfl,rfl,rfl,by decide +kernel,rfl,by decide +kernel,by decide +kernel⟩
theorem sc_over : FnScope ["by","one","other"] ["by","one","other"] (defScope s_over) := ⟨rfl,rfl,rfl,by decide +kernel,rfl,by decide +kernel,by decide +kernel⟩
theorem sc_line_taken : FnScope ["by","line"] ["by","line"] (defScope s_line_taken) := ⟨rfl,rfl,rfl,by decide +kernel,rfl,by decide +kernel,by decide +kernel⟩
theorem sc_head_line : FnScope ["lines","begin","column","i"] ["lines","begin","column"] (defScope s_head_line) := ⟨rfl,rfl,rfl,by decide +kernel,rfl,by decide +kernel,by decide +kernel⟩
theorem sc_bring_up : FnScope ["by","lines","at","top","down"] ["by","lines","at","top"] (defScope s_bring_up) := ⟨rfl,rfl,rfl,by decide +kernel,rfl,by decide +kernel,by decide +kernel⟩
theorem sc_freed : FnScope ["by","line","head","column","last","pivot","factor","mixed","share"] ["by","line","head","column","last"] (defScope s_freed) := ⟨rfl,rfl,rfl,by decide +kernel,rfl,by decide +kernel,by decide +kernel⟩
theorem sc_clear : FnScope ["by","wide","lines","heads","last","column","top","at","i"] ["by","wide","lines"] (defScope s_clear) := ⟨rfl,rfl,rfl,by decide +kernel,rfl,by decide +kernel,by decide +kernel⟩
theorem sc_common_divisor : FnScope ["one","other","great","small","left"] ["one","other"] (defScope s_common_divisor) := ⟨rfl,rfl,rfl,by decide +kernel,rfl,by decide +kernel,by decide +kernel⟩
theorem sc_lowest : FnScope ["by","bottom","tops","top","divisor"] ["by","bottom","tops"] (defScope s_lowest) := ⟨rfl,rfl,rfl,by decide +kernel,rfl,by decide +kernel,by decide +kernel⟩
theorem sc_free_numbers : FnScope ["by","wide","lines","heads","last","column","free","i"] ["by","wide","lines","heads","last"] (defScope s_free_numbers) := ⟨rfl,rfl,rfl,by decide +kernel,rfl,by decide +kernel,by decide +kernel⟩
theorem sc_solution : FnScope ["by","wide","table","wished","lines","i","cleared","heads","last","tops","low"] ["by","wide","table","wished"] (defScope s_solution) := ⟨rfl,rfl,rfl,by decide +kernel,rfl,by decide +kernel,by decide +kernel⟩
theorem sc_lines_of : FnScope ["known","size","lines","n"] ["known","size"] (defScope s_lines_of) := ⟨rfl,rfl,rfl,by decide +kernel,rfl,by decide +kernel,by decide +kernel⟩
theorem sc_fit : FnScope ["by","known","size"] ["by","known","size"] (defScope s_fit) := ⟨rfl,rfl,rfl,by decide +kernel,rfl,by decide +kernel,by decide +kernel⟩
theorem sc_fitted : FnScope ["by","known","low","high","found","middle","tried"] ["by","known"] (defScope s_fitted) := ⟨rfl,rfl,rfl,by decide +kernel,rfl,by decide +kernel,by decide +kernel⟩
theorem sc_trimmed : FnScope ["numbers","end"] ["numbers"] (defScope s_trimmed) := ⟨rfl,rfl,rfl,by decide +kernel,rfl,by decide +kernel,by decide +kernel⟩
theorem sc_divided : FnScope ["by","one","other","top","often","left","shift","factor","k"] ["by","one","other"] (defScope s_divided) := ⟨rfl,rfl,rfl,by decide +kernel,rfl,by decide +kernel,by decide +kernel⟩
theorem sc_monic : FnScope ["prime","poly","last"] ["prime","poly"] (defScope s_monic) := ⟨rfl,rfl,rfl,by decide +kernel,rfl,by decide +kernel,by decide +kernel⟩
theorem sc_greatest : FnScope ["by","one","other","great","small","left"] ["by","one","other"] (defScope s_greatest) := ⟨rfl,rfl,rfl,by decide +kernel,rfl,by decide +kernel,by decide +kernel⟩
theorem sc_of_rule : FnScope ["by","rule","length","numbers"] ["by","rule"] (defScope s_of_rule) := ⟨rfl,rfl,rfl,by decide +kernel,rfl,by decide +kernel,by decide +kernel⟩
theorem sc_rule_of : FnScope ["by","poly","length"] ["by","poly"] (defScope s_rule_of) := ⟨rfl,rfl,rfl,by decide +kernel,rfl,by decide +kernel,by decide +kernel⟩
theorem sc_prime_above : FnScope ["number","found"] ["number"] (defScope s_prime_above) := ⟨rfl,rfl,rfl,by decide +kernel,rfl,by decide +kernel,by decide +kernel⟩
theorem sc_divides : FnScope ["monic_one","poly"] ["monic_one","poly"] (defScope s_divides) := ⟨rfl,rfl,rfl,by decide +kernel,rfl,by decide +kernel,by decide +kernel⟩
theorem sc_taken_poly : FnScope ["prime","poly"] ["prime","poly"] (defScope s_taken_poly) := ⟨rfl,rfl,rfl,by decide +kernel,rfl,by decide +kernel,by decide +kernel⟩
theorem sc_nearest : FnScope ["modulus","number","rest"] ["modulus","number"] (defScope s_nearest) := ⟨rfl,rfl,rfl,by decide +kernel,rfl,by decide +kernel,by decide +kernel⟩
theorem sc_joined : FnScope ["modulus","number","prime","rest","more"] ["modulus","number","prime","rest"] (defScope s_joined) := ⟨rfl,rfl,rfl,by decide +kernel,rfl,by decide +kernel,by decide +kernel⟩
theorem sc_whole_greatest : FnScope ["one","other","told","modulus","prime","ripe","seen","before"] ["one","other"] (defScope s_whole_greatest) := ⟨rfl,rfl,rfl,by decide +kernel,rfl,by decide +kernel,by decide +kernel⟩
theorem sc_shared_divisor : FnScope ["by","one","other"] ["by","one","other"] (defScope s_shared_divisor) := ⟨rfl,rfl,rfl,by decide +kernel,rfl,by decide +kernel,by decide +kernel⟩
theorem sc_top_of : FnScope ["row","poly","by","starts","top","k","parts"] ["row","poly"] (defScope s_top_of) := ⟨rfl,rfl,rfl,by decide +kernel,rfl,by decide +kernel,by decide +kernel⟩
theorem sc_least_of : FnScope ["row","by","poly","top"] ["row"] (defScope s_least_of) := ⟨rfl,rfl,rfl,by decide +kernel,rfl,by decide +kernel,by decide +kernel⟩
theorem sc_shortest : FnScope ["row","least","rule"] ["row"] (defScope s_shortest) := ⟨rfl,rfl,rfl,by decide +kernel,rfl,by decide +kernel,by decide +kernel⟩
theorem sc_Lcell_at : FnScope ["_law_script","_law_k"] ["_law_script","_law_k"] (defScope s_Lcell_at) := ⟨rfl,rfl,rfl,by decide +kernel,rfl,by decide +kernel,by decide +kernel⟩
theorem sc_Lmixed : FnScope ["_law_cell","_law_k","_law_number_here"] ["_law_cell","_law_k"] (defScope s_Lmixed) := ⟨rfl,rfl,rfl,by decide +kernel,rfl,by decide +kernel,by decide +kernel⟩
theorem sc_Lby : FnScope ["_law_cell"] ["_law_cell"] (defScope s_Lby) := ⟨rfl,rfl,rfl,by decide +kernel,rfl,by decide +kernel,by decide +kernel⟩
theorem sc_Ltaken : FnScope ["_law_by_here","_law_number_here"] ["_law_by_here","_law_number_here"] (defScope s_Ltaken) := ⟨rfl,rfl,rfl,by decide +kernel,rfl,by decide +kernel,by decide +kernel⟩
theorem sc_Lnumber : FnScope ["_law_by_here","_law_cell","_law_sort"] ["_law_by_here","_law_cell","_law_sort"] (defScope s_Lnumber) := ⟨rfl,rfl,rfl,by decide +kernel,rfl,by decide +kernel,by decide +kernel⟩
theorem sc_Lgone : FnScope ["_law_row_here","_law_count","_law_by_here","_law_rule","_law_starts","_law_found","_law_total","_law_k","_law_number_here"] ["_law_row_here","_law_count"] (defScope s_Lgone) := ⟨rfl,rfl,rfl,by decide +kernel,rfl,by decide +kernel,by decide +kernel⟩
theorem sc_Lrow : FnScope ["_law_script","_law_start","_law_by_here","_law_most","_law_cell","_law_size","_law_sort","_law_rule","_law_starts"] ["_law_script","_law_start","_law_by_here","_law_most"] (defScope s_Lrow) := ⟨rfl,rfl,rfl,by decide +kernel,rfl,by decide +kernel,by decide +kernel⟩
theorem sc_Llonger : FnScope ["_law_row_here","_law_number_here","_law_by_here","_law_rule","_law_starts","_law_low","_law_some"] ["_law_row_here","_law_number_here"] (defScope s_Llonger) := ⟨rfl,rfl,rfl,by decide +kernel,rfl,by decide +kernel,by decide +kernel⟩
theorem sc_Ldrawn_row : FnScope ["_law_script","_law_by_here","_law_cell","_law_row_here","_law_small","_law_k"] ["_law_script","_law_by_here"] (defScope s_Ldrawn_row) := ⟨rfl,rfl,rfl,by decide +kernel,rfl,by decide +kernel,by decide +kernel⟩
theorem sc_law : FnScope ["_law_script","_law_by_here","_law_row_here","_law_found","_law_size","_law_count","_law_told"] ["_law_script"] (defScope s_law) := ⟨rfl,rfl,rfl,by decide +kernel,rfl,by decide +kernel,by decide +kernel⟩
noncomputable abbrev cs_line_taken1 : Scope := { kind := .function,names := [(".0",.local),("number",.local),("taken",.globalImplicit),("by",.cell)],isGenerator := false,isCoroutine := false }
noncomputable abbrev cs_bring_up1 : Scope := { kind := .function,names := [(".0",.local),("number",.local),("taken",.globalImplicit),("by",.cell)],isGenerator := false,isCoroutine := false }
noncomputable abbrev cs_freed1 : Scope := { kind := .function,names := [(".0",.local),("k",.local),("factor",.cell),("head",.cell),("line",.cell),("pivot",.cell)],isGenerator := false,isCoroutine := false }
noncomputable abbrev cs_freed2 : Scope := { kind := .function,names := [(".0",.local),("number",.local),("last",.cell)],isGenerator := false,isCoroutine := false }
noncomputable abbrev cs_freed3 : Scope := { kind := .function,names := [(".0",.local),("number",.local),("taken",.globalImplicit),("by",.cell),("share",.cell)],isGenerator := false,isCoroutine := false }
noncomputable abbrev cs_lowest1 : Scope := { kind := .function,names := [(".0",.local),("top",.local),("over",.globalImplicit),("bottom",.cell),("by",.cell)],isGenerator := false,isCoroutine := false }
noncomputable abbrev cs_lowest2 : Scope := { kind := .function,names := [(".0",.local),("top",.local),("divisor",.cell)],isGenerator := false,isCoroutine := false }
noncomputable abbrev cs_free_numbers1 : Scope := { kind := .function,names := [(".0",.local),("k",.local),("heads",.cell)],isGenerator := false,isCoroutine := false }
noncomputable abbrev cs_solution1 : Scope := { kind := .function,names := [(".0",.local),("i",.local),("line_taken",.globalImplicit),("by",.cell),("table",.cell),("wished",.cell)],isGenerator := false,isCoroutine := false }
noncomputable abbrev cs_solution2 : Scope := { kind := .function,names := [(".0",.local),("line",.local),("wide",.cell)],isGenerator := false,isCoroutine := false }
noncomputable abbrev cs_lines_of1 : Scope := { kind := .function,names := [(".0",.local),("k",.local),("known",.cell),("n",.cell)],isGenerator := false,isCoroutine := false }
noncomputable abbrev cs_monic1 : Scope := { kind := .function,names := [(".0",.local),("number",.local),("over",.globalImplicit),("last",.cell),("prime",.cell)],isGenerator := false,isCoroutine := false }
noncomputable abbrev cs_of_rule1 : Scope := { kind := .function,names := [(".0",.local),("k",.local),("taken",.globalImplicit),("by",.cell),("length",.cell),("rule",.cell)],isGenerator := false,isCoroutine := false }
noncomputable abbrev cs_rule_of1 : Scope := { kind := .function,names := [(".0",.local),("k",.local),("taken",.globalImplicit),("by",.cell),("length",.cell),("poly",.cell)],isGenerator := false,isCoroutine := false }
noncomputable abbrev cs_taken_poly1 : Scope := { kind := .function,names := [(".0",.local),("number",.local),("taken",.globalImplicit),("prime",.cell)],isGenerator := false,isCoroutine := false }
noncomputable abbrev cs_whole_greatest1 : Scope := { kind := .function,names := [(".0",.local),("rest",.local),("nearest",.globalImplicit),("prime",.cell)],isGenerator := false,isCoroutine := false }
noncomputable abbrev cs_whole_greatest2 : Scope := { kind := .function,names := [(".0",.local),("k",.local),("joined",.globalImplicit),("before",.cell),("modulus",.cell),("prime",.cell),("seen",.cell)],isGenerator := false,isCoroutine := false }
noncomputable abbrev cs_top_of1 : Scope := { kind := .function,names := [(".0",.local),("j",.local),("k",.cell),("poly",.cell),("starts",.cell)],isGenerator := false,isCoroutine := false }
noncomputable abbrev cs_Lrow1 : Scope := { kind := .function,names := [(".0",.local),("_law_k",.local),("_law_number",.globalImplicit),("_law_mixed",.globalImplicit),("_law_cell_at",.globalImplicit),("_law_by_here",.cell),("_law_script",.cell),("_law_sort",.cell),("_law_start",.cell)],isGenerator := false,isCoroutine := false }
noncomputable abbrev cs_Lrow2 : Scope := { kind := .function,names := [(".0",.local),("_law_k",.local),("_law_number",.globalImplicit),("_law_mixed",.globalImplicit),("_law_cell_at",.globalImplicit),("_law_by_here",.cell),("_law_script",.cell),("_law_sort",.cell),("_law_start",.cell)],isGenerator := false,isCoroutine := false }
noncomputable abbrev cs_Lrow3 : Scope := { kind := .function,names := [(".0",.local),("_law_k",.local),("_law_number_here",.local),("_law_mixed",.globalImplicit),("_law_cell",.cell)],isGenerator := false,isCoroutine := false }
noncomputable abbrev cs_Llonger1 : Scope := { kind := .function,names := [(".0",.local),("_law_part",.local)],isGenerator := false,isCoroutine := false }
noncomputable abbrev cs_Llonger2 : Scope := { kind := .function,names := [(".0",.local),("_law_one",.local),("_law_other",.local),("_law_number_here",.cell)],isGenerator := false,isCoroutine := false }
noncomputable abbrev cs_Llonger3 : Scope := { kind := .function,names := [(".0",.local),("_law_part",.local),("_law_taken",.globalImplicit),("_law_by_here",.cell)],isGenerator := false,isCoroutine := false }
noncomputable abbrev cs_Ldrawn_row1 : Scope := { kind := .function,names := [(".0",.local),("_law_number_here",.local),("_law_taken",.globalImplicit),("_law_by_here",.cell)],isGenerator := false,isCoroutine := false }
noncomputable abbrev cs_Ldrawn_row2 : Scope := { kind := .function,names := [(".0",.local),("_law_part",.local),("_law_by_here",.cell)],isGenerator := false,isCoroutine := false }
structure Bt (mg : Str → Option Value) : Prop where
  b_abs : mg "abs" = none
  b_any : mg "any" = none
  b_enumerate : mg "enumerate" = none
  b_len : mg "len" = none
  b_list : mg "list" = none
  b_max : mg "max" = none
  b_min : mg "min" = none
  b_range : mg "range" = none
  b_sum : mg "sum" = none
  b_tuple : mg "tuple" = none
  b_zip : mg "zip" = none
  g_BELOW_THE_PRIMES : ∃ t,mg "BELOW_THE_PRIMES" = some (.int 1000000 t)
noncomputable abbrev KLAW : Nat := 12
noncomputable def cellAt (ns : List Int) (k : Int) : Int := if k < (ns.length : Int) then ns.getD k.toNat 0 else 0
theorem emod_lo (a : Int) {b : Int} (h : 0 < b) : 0 ≤ a % b := Int.emod_nonneg _ (by omega)
theorem emod_hi (a : Int) {b : Int} (h : 0 < b) : a % b < b := Int.emod_lt_of_pos _ h
theorem atI_ints {ns : List Int} {k : Int} (h0 : 0 ≤ k) (h1 : k < (ns.length : Int)) : atI (ns.map V.int) k = some (.int (ns.getD k.toNat 0)) := by
  have e : k = ((k.toNat : Nat) : Int) := by omega
  have hk : k.toNat < ns.length := by omega
  conv => lhs; rw [e]
  exact atI_nat (by rw [List.getElem?_map,List.getElem?_eq_getElem hk,List.getD_eq_getElem?_getD,List.getElem?_eq_getElem hk] <;> rfl)
theorem atI_len {α : Type} {xs : List α} {k : Int} {v : α} (j : Nat) (e : k = (j : Int)) (h : xs[j]? = some v) : atI xs k = some v := by rw [e]; exact atI_nat h
theorem dec_true {p : Prop} [Decidable p] (c : decide p = true) : p := of_decide_eq_true c
theorem dec_false {p : Prop} [Decidable p] (c : ¬ decide p = true) : ¬ p := of_decide_eq_false (Bool.eq_false_iff.mpr c)
noncomputable def IsNum (b x : Int) : Prop := b = 0 ∨ (0 ≤ x ∧ x < b)
structure Rw where
  b : Int
  rule : List Int
  starts : List Int
structure RwOk (r : Rw) : Prop where
  len : r.rule.length = r.starts.length
  short : r.rule.length ≤ 24
  by0 : 0 ≤ r.b
  by1 : r.b < 1000
  ruleNum : ∀ x ∈ r.rule,IsNum r.b x
  startsNum : ∀ x ∈ r.starts,IsNum r.b x
  ruleBd : ∀ x ∈ r.rule,Rm.Bd 60000 x
  startsBd : ∀ x ∈ r.starts,Rm.Bd 3000 x
noncomputable def Rw.row (r : Rw) (n : Nat) : List Int := Rm.row r.b r.rule r.starts n
noncomputable def Rw.at (r : Rw) (n : Nat) : Int := Rm.at_ r.b r.rule r.starts n
theorem RwOk.bd {r : Rw} (h : RwOk r) (n : Nat) (hn : n ≤ 1000) : Rm.Bd 61000000 (r.at n) := by
  have q := Rm.at_bd (b := r.b) (rule := r.rule) (starts := r.starts) (a := 60000) (c := 3000) h.len h.by0 ((Rm.Bd.of (n := 10) (by have := h.by0; omega) (by have := h.by1; omega)).mono (by decide)) h.ruleBd h.startsBd n
  refine q.mono ?_
  have h1 := h.short
  have h2 : n * (60000 + r.rule.length) ≤ 1000 * 60024 := Nat.mul_le_mul hn (by omega)
  omega
theorem RwOk.rowBd {r : Rw} (h : RwOk r) (n : Nat) (hn : n ≤ 1000) : ∀ x ∈ r.row n,Rm.Bd 61000000 x := by
  intro x hx
  have e : r.row n = (List.range n).map r.at := Rm.row_eq ..
  rw [e] at hx
  obtain ⟨i,hi,rfl⟩ := List.mem_map.mp hx
  exact h.bd i (by have := List.mem_range.mp hi; omega)
theorem Rw.row_len (r : Rw) (n : Nat) : (r.row n).length = n := Rm.row_len ..
theorem mulBd {x y : Int} {m n : Nat} (h : Rm.Bd m x) (h' : Rm.Bd n y) (hn : m + n ≤ 134217728) : IntMulOk x y :=
  IntMulOk.of_le (intBits_le_iff.mpr h) (intBits_le_iff.mpr h') hn
noncomputable def RowIs (H : Hp) (v : V) (r : Rw) : Prop :=
  ∃ a p q,v = .ref a ∧ H a = some (.tup [.int r.b,.ref p,.ref q]) ∧ H p = some (.tup (r.rule.map V.int)) ∧ H q = some (.tup (r.starts.map V.int))
theorem RowIs.same {H H' : Hp} {v : V} {r : Rw} (h : RowIs H v r) (g : Same H H') : RowIs H' v r := by
  obtain ⟨a,p,q,e,h1,h2,h3⟩ := h
  exact ⟨a,p,q,e,g _ _ h1,g _ _ h2,g _ _ h3⟩
theorem map_snoc (xs : List Int) (x : Int) : (xs ++ [x]).map V.int = xs.map V.int ++ [.int x] := by rw [List.map_append]; rfl
noncomputable def Told (H : Hp) (Q : VK) (xs : List V) : Prop := ∀ r H',Same H H' → H r = none → H' r = some (.lst xs) → Q (.ref r) H'
inductive SpLaw_  (K : PySem.W.Frag) (vs : List V) (H : Hp) (Q : VK) (E : XK) : Prop | mk (a : Addr) (ns : List Int) (z_0 : vs = [.ref a]) (z_1 : SqL K H a (ns.map V.int)) (z_2 : ns.length ≤ 63) (z_3 : ∀ H',Q (.bl true) H')
noncomputable def spLaw  (K : PySem.W.Frag) : Sp := fun vs H Q E => SpLaw_ K vs H Q E
theorem cut_to (xs : List V) (k : Nat) : cutV xs none (some (k : Int)) = xs.take k := by
  unfold cutV
  rw [HT.sIx_nat,HT.sIx_none,List.drop_zero,Nat.sub_zero,List.take_eq_take_iff]
  omega
theorem cut_from (xs : List V) {k : Nat} (h : k ≤ xs.length) : cutV xs (some (k : Int)) none = xs.drop k := by
  unfold cutV
  rw [HT.sIx_nat,HT.sIx_none,Nat.min_eq_left h,List.take_of_length_le (by rw [List.length_drop]; omega)]
theorem cut_drop (xs : List V) (k : Nat) : cutV xs (some (k : Int)) none = xs.drop k := by
  unfold cutV
  rw [HT.sIx_nat,HT.sIx_none]
  by_cases h : k ≤ xs.length
  · rw [Nat.min_eq_left h,List.take_of_length_le (by rw [List.length_drop]; omega)]
  · rw [Nat.min_eq_right (by omega),List.drop_eq_nil_of_le (Nat.le_refl _),List.drop_eq_nil_of_le (by omega),List.take_nil]
noncomputable def ToldT (H : Hp) (Q : VK) (ns : List Int) : Prop := ∀ p H',Same H H' → H' p = some (.tup (ns.map V.int)) → Q (.ref p) H'
theorem take_step {xs : List Int} {n : Nat} (h : 0 < n) (hn : n ≤ xs.length) : xs.take n = xs.take (n - 1) ++ [xs.getD (n - 1) 0] := by
  obtain ⟨m,rfl⟩ : ∃ m,n = m + 1 := ⟨n - 1,by omega⟩
  rw [Nat.add_sub_cancel,List.take_add_one,List.getElem?_eq_getElem (by omega),List.getD_eq_getElem?_getD,List.getElem?_eq_getElem (by omega)]
  rfl
theorem trim_down {xs : List Int} {n : Nat} (h : 0 < n) (hn : n ≤ xs.length) (ht : Pm.trim (xs.take n) = Pm.trim xs) (h0 : xs.getD (n - 1) 0 = 0) : Pm.trim (xs.take (n - 1)) = Pm.trim xs := by
  rw [take_step h hn,h0,Pm.trim_zero] at ht
  exact ht
theorem trim_stop {xs : List Int} {n : Nat} (hn : n ≤ xs.length) (ht : Pm.trim (xs.take n) = Pm.trim xs) (h0 : n = 0 ∨ xs.getD (n - 1) 0 ≠ 0) : xs.take n = Pm.trim xs := by
  rcases h0 with h0 | h0
  · subst h0; rw [← ht]; rfl
  · by_cases hz : n = 0
    · subst hz; rw [← ht]; rfl
    · rw [← ht,take_step (by omega) hn,Pm.trim_last _ h0]
theorem ixN_of {n j : Nat} {i : Int} (e : i = (j : Int)) (h : j < n) : ixN n i = some j := by
  subst e
  unfold ixN
  rw [if_pos (by omega),if_pos (by omega),Int.toNat_natCast]
theorem map_set_int (L : List Int) (j : Nat) (x : Int) : (L.map V.int).set j (.int x) = (L.set j x).map V.int := by rw [List.map_set]
theorem replicate_ofF (n : Nat) : (List.replicate n [V.int 0]).flatten = (Pm.ofF n fun _ => 0).map V.int := by
  induction n with
  | zero => rfl
  | succ n ih =>
    rw [Pm.ofF_succ,List.map_append,← ih,List.replicate_succ',List.flatten_append]
    rfl
theorem comp_rng {n : Nat} {ix : List (Option Nat)} {te : TE} {σ : St} {H1 : Hp} {Q : VK} (hz : n ≤ 1000) {rest : St} (hst : cst ix σ = none :: rest) (f : Nat → Int)
    (he : ∀ H' k,Same H1 H' → k < n → ∀ kk : VK,kk (.int (f k)) H' → te (some (.int (0 + (k : Int))) :: rest) H' kk)
    (hQ : ∀ D,H1 D = none → Q (.ref D) (upd H1 D (.lst ((Pm.ofF n f).map V.int)))) : CompK ix (gName 0) tYes te σ Q (Itr 0 n) H1 := by
  refine comp_pure its_range (by rw [List.length_map,List.length_range]; exact Nat.le_of_lt (small1000 hz)) hst (fun _ => true) (fun x => match x with | .int k => .int (f k.toNat) | _ => .non) ?_ ?_ ?_
  · intro H2 x g2 hx k hk; exact hk
  · intro H2 x g2 hx _ k hk
    obtain ⟨j,hj,rfl⟩ := List.mem_map.mp hx
    have e1 : (0 + (j : Int)).toNat = j := by omega
    refine he H2 j g2 (List.mem_range.mp hj) k ?_
    have hk' : k (V.int (f (0 + (j : Int)).toNat)) H2 := hk
    rwa [e1] at hk'
  · intro D hD
    have el : ((((List.range n).map fun i => V.int (0 + (i : Nat))).filter fun _ => true).map fun x => match x with | .int k => V.int (f k.toNat) | _ => V.non) = (Pm.ofF n f).map V.int := by
      rw [List.filter_eq_self.mpr (by simp),List.map_map,Pm.ofF,List.map_map]
      refine List.map_congr_left fun k _ => ?_
      show V.int (f (0 + (k : Int)).toNat) = V.int (f k)
      rw [show (0 + (k : Int)).toNat = k by omega]
    rw [el]
    exact hQ D hD
theorem comp_rngF {n : Nat} {ix : List (Option Nat)} {tc : TT} {te : TE} {σ : St} {H1 : Hp} {Q : VK} (hz : n ≤ 1000) {rest : St} (hst : cst ix σ = none :: rest) (p : Nat → Bool) (f : Nat → Int)
    (ht : ∀ H' k,Same H1 H' → k < n → ∀ kk : Bool → Hp → Prop,kk (p k) H' → tc (some (.int (0 + (k : Int))) :: rest) H' kk)
    (he : ∀ H' k,Same H1 H' → k < n → p k = true → ∀ kk : VK,kk (.int (f k)) H' → te (some (.int (0 + (k : Int))) :: rest) H' kk)
    (hQ : ∀ D,H1 D = none → Q (.ref D) (upd H1 D (.lst ((((List.range n).filter p).map f).map V.int)))) : CompK ix (gName 0) tc te σ Q (Itr 0 n) H1 := by
  refine comp_pure its_range (by rw [List.length_map,List.length_range]; exact Nat.le_of_lt (small1000 hz)) hst (fun x => match x with | .int k => p k.toNat | _ => false) (fun x => match x with | .int k => .int (f k.toNat) | _ => .non) ?_ ?_ ?_
  · intro H2 x g2 hx k hk
    obtain ⟨j,hj,rfl⟩ := List.mem_map.mp hx
    have e1 : (0 + (j : Int)).toNat = j := by omega
    refine ht H2 j g2 (List.mem_range.mp hj) k ?_
    have hk' : k (p (0 + (j : Int)).toNat) H2 := hk
    rwa [e1] at hk'
  · intro H2 x g2 hx hp k hk
    obtain ⟨j,hj,rfl⟩ := List.mem_map.mp hx
    have e1 : (0 + (j : Int)).toNat = j := by omega
    have hp' : p (0 + (j : Int)).toNat = true := hp
    rw [e1] at hp'
    refine he H2 j g2 (List.mem_range.mp hj) hp' k ?_
    have hk' : k (V.int (f (0 + (j : Int)).toNat)) H2 := hk
    rwa [e1] at hk'
  · intro D hD
    have el : ((((List.range n).map fun i => V.int (0 + (i : Nat))).filter fun x => match x with | .int k => p k.toNat | _ => false).map fun x => match x with | .int k => V.int (f k.toNat) | _ => V.non) = (((List.range n).filter p).map f).map V.int := by
      rw [List.filter_map,List.map_map,List.map_map]
      have e2 : ((fun x => match x with | V.int k => p k.toNat | _ => false) ∘ fun (i : Nat) => V.int (0 + (i : Nat))) = p := by
        funext i
        show p (0 + (i : Int)).toNat = p i
        rw [show (0 + (i : Int)).toNat = i by omega]
      rw [e2]
      refine List.map_congr_left fun k _ => ?_
      show V.int (f (0 + (k : Int)).toNat) = V.int (f k)
      rw [show (0 + (k : Int)).toNat = k by omega]
    rw [el]
    exact hQ D hD
theorem comp_tup {K : PySem.W.Frag} {a : Addr} {xs : List Int} {ix : List (Option Nat)} {te : TE} {σ : St} {H1 : Hp} {Q : VK} (hA : H1 a = some (.tup (xs.map V.int))) (hz : xs.length ≤ 1000) {rest : St} (hst : cst ix σ = none :: rest) (f : Int → Int)
    (he : ∀ H' x,Same H1 H' → x ∈ xs → ∀ kk : VK,kk (.int (f x)) H' → te (some (.int x) :: rest) H' kk)
    (hQ : ∀ D,H1 D = none → Q (.ref D) (upd H1 D (.lst ((xs.map f).map V.int)))) : CompK ix (gName 0) tYes te σ Q (Itt K a) H1 := by
  refine comp_pure (its_tup (SqT.of hA)) (by rw [List.length_map]; exact Nat.le_of_lt (small1000 hz)) hst (fun _ => true) (fun x => match x with | .int k => .int (f k) | _ => .non) ?_ ?_ ?_
  · intro H2 x g2 hx k hk; exact hk
  · intro H2 x g2 hx _ k hk
    obtain ⟨y,hy,rfl⟩ := List.mem_map.mp hx
    exact he H2 y g2 hy k hk
  · intro D hD
    have el : (((xs.map V.int).filter fun _ => true).map fun x => match x with | .int k => V.int (f k) | _ => V.non) = (xs.map f).map V.int := by
      rw [List.filter_eq_self.mpr (by simp),List.map_map,List.map_map]; rfl
    rw [el]
    exact hQ D hD
theorem atI_back {ns : List Int} {k : Int} (j : Nat) (h0 : k < 0) (e : k + (ns.length : Int) = (j : Int)) : atI (ns.map V.int) k = some (.int (ns.getD j 0)) := by
  have hj : j < ns.length := by omega
  unfold atI ixN
  rw [List.length_map,if_neg (by omega),if_pos (by omega),show (k + (ns.length : Int)).toNat = j by omega]
  show (ns.map V.int)[j]? = _
  rw [List.getElem?_map,List.getElem?_eq_getElem hj,List.getD_eq_getElem?_getD,List.getElem?_eq_getElem hj]
  rfl
theorem comp_lst {K : PySem.W.Frag} {a : Addr} {xs : List Int} {ix : List (Option Nat)} {te : TE} {σ : St} {H1 : Hp} {Q : VK} (hA : H1 a = some (.lst (xs.map V.int))) (hz : xs.length ≤ 1000) {rest : St} (hst : cst ix σ = none :: rest) (f : Int → Int)
    (he : ∀ H' x,Same H1 H' → x ∈ xs → ∀ kk : VK,kk (.int (f x)) H' → te (some (.int x) :: rest) H' kk)
    (hQ : ∀ D,H1 D = none → Q (.ref D) (upd H1 D (.lst ((xs.map f).map V.int)))) : CompK ix (gName 0) tYes te σ Q (Itl K a) H1 := by
  refine comp_pure (its_list (SqL.of hA)) (by rw [List.length_map]; exact Nat.le_of_lt (small1000 hz)) hst (fun _ => true) (fun x => match x with | .int k => .int (f k) | _ => .non) ?_ ?_ ?_
  · intro H2 x g2 hx k hk; exact hk
  · intro H2 x g2 hx _ k hk
    obtain ⟨y,hy,rfl⟩ := List.mem_map.mp hx
    exact he H2 y g2 hy k hk
  · intro D hD
    have el : (((xs.map V.int).filter fun _ => true).map fun x => match x with | .int k => V.int (f k) | _ => V.non) = (xs.map f).map V.int := by
      rw [List.filter_eq_self.mpr (by simp),List.map_map,List.map_map]; rfl
    rw [el]
    exact hQ D hD
theorem map_int_get {p : List Int} {i : Nat} {x : V} (h : (p.map V.int)[i]? = some x) : x = .int (Pm.co p i) ∧ i < p.length := by
  by_cases hi : i < p.length
  · rw [List.getElem?_map,List.getElem?_eq_getElem hi] at h
    cases h
    refine ⟨?_,hi⟩
    show V.int _ = V.int (p.getD i 0)
    rw [List.getD_eq_getElem?_getD,List.getElem?_eq_getElem hi]; rfl
  · rw [List.getElem?_eq_none (by rw [List.length_map]; omega)] at h; cases h
theorem primesN_range : ∀ P ∈ Om.primesN,2 ≤ P ∧ P < 1000 := by decide +kernel
inductive Lns (H : Hp) (ex : List Addr) : List V → List (List Int) → Prop
  | nil : Lns H ex [] []
  | cons {t : Addr} {p : List Int} {xs : List V} {ps : List (List Int)} : t ∉ ex → H t = some (.lst (p.map V.int)) → Lns H ex xs ps → Lns H ex (.ref t :: xs) (p :: ps)
noncomputable def Keep (ll : Addr) (H H' : Hp) : Prop := ∀ a u,a ≠ ll → H a = some u → H' a = some u
theorem Keep.refl (ll : Addr) (H : Hp) : Keep ll H H := fun _ _ _ h => h
theorem Keep.trans {ll : Addr} {H H' H2 : Hp} (h : Keep ll H H') (h' : Keep ll H' H2) : Keep ll H H2 := fun a u n e => h' a u n (h a u n e)
theorem Keep.same {ll : Addr} {H H' : Hp} (g : Same H H') : Keep ll H H' := fun a u _ e => g a u e
theorem Keep.upd (ll : Addr) (H : Hp) (o : HO) : Keep ll H (L2.upd H ll o) := fun a u n e => by rw [upd_ne n]; exact e
theorem Lns.keep {H H' : Hp} {ll : Addr} {ex : List Addr} (hm : ll ∈ ex) (g : Keep ll H H') : ∀ {xs : List V} {ps : List (List Int)},Lns H ex xs ps → Lns H' ex xs ps
  | _,_,.nil => .nil
  | _,_,.cons n h r => .cons n (g _ _ (fun z => n (z ▸ hm)) h) (Lns.keep hm g r)
theorem Lns.same {H H' : Hp} {ex : List Addr} (g : Same H H') : ∀ {xs : List V} {ps : List (List Int)},Lns H ex xs ps → Lns H' ex xs ps
  | _,_,.nil => .nil
  | _,_,.cons n h r => .cons n (g _ _ h) (Lns.same g r)
theorem Lns.more {H : Hp} {ex : List Addr} {a : Addr} (ha : H a = none) : ∀ {xs : List V} {ps : List (List Int)},Lns H ex xs ps → Lns H (a :: ex) xs ps
  | _,_,.nil => .nil
  | _,_,.cons n h r => .cons (fun z => by
      rcases List.mem_cons.mp z with e | e
      · rw [e,ha] at h; cases h
      · exact n e) h (Lns.more ha r)
theorem Lns.less {H : Hp} {ex ex' : List Addr} (hs : ∀ a ∈ ex',a ∈ ex) : ∀ {xs : List V} {ps : List (List Int)},Lns H ex xs ps → Lns H ex' xs ps
  | _,_,.nil => .nil
  | _,_,.cons n h r => .cons (fun z => n (hs _ z)) h (Lns.less hs r)
theorem Lns.len {H : Hp} {ex : List Addr} : ∀ {xs : List V} {ps : List (List Int)},Lns H ex xs ps → xs.length = ps.length
  | _,_,.nil => rfl
  | _,_,.cons _ _ r => by rw [List.length_cons,List.length_cons,Lns.len r]
theorem Lns.get {H : Hp} {ex : List Addr} : ∀ {xs : List V} {ps : List (List Int)} {i : Nat},Lns H ex xs ps → i < ps.length → ∃ t,xs[i]? = some (.ref t) ∧ t ∉ ex ∧ H t = some (.lst ((Dm.ln ps i).map V.int))
  | _,_,_,.nil,h => absurd h (Nat.not_lt_zero _)
  | _,_,0,.cons n h _,_ => ⟨_,rfl,n,h⟩
  | _,_,i + 1,.cons _ _ r,h => Lns.get (i := i) r (by simpa using h)
theorem Lns.set {H : Hp} {ex : List Addr} {t : Addr} {q : List Int} (hn : t ∉ ex) (hT : H t = some (.lst (q.map V.int))) : ∀ {xs : List V} {ps : List (List Int)} (i : Nat),Lns H ex xs ps → Lns H ex (xs.set i (.ref t)) (ps.set i q)
  | _,_,_,.nil => .nil
  | _,_,0,.cons _ _ r => .cons hn hT r
  | _,_,i + 1,.cons n h r => .cons n h (Lns.set hn hT i r)
theorem Lns.append {H : Hp} {ex : List Addr} {t : Addr} {q : List Int} (hn : t ∉ ex) (hT : H t = some (.lst (q.map V.int))) : ∀ {xs : List V} {ps : List (List Int)},Lns H ex xs ps → Lns H ex (xs ++ [.ref t]) (ps ++ [q])
  | _,_,.nil => .cons hn hT .nil
  | _,_,.cons n h r => .cons n h (Lns.append hn hT r)
noncomputable def Stand (H : Hp) (ex : List Addr) : Prop := ∀ a ∈ ex,∃ o,H a = some o
theorem Stand.fresh {H : Hp} {ex : List Addr} {t : Addr} (h : Stand H ex) (ht : H t = none) : t ∉ ex := fun z => by
  obtain ⟨o,e⟩ := h t z
  rw [ht] at e; cases e
theorem Stand.keep {H H' : Hp} {ll : Addr} {ex : List Addr} (h : Stand H ex) (g : Keep ll H H') (hl : ∃ o,H' ll = some o) : Stand H' ex := fun a ha => by
  by_cases e : a = ll
  · rw [e]; exact hl
  · obtain ⟨o,q⟩ := h a ha
    exact ⟨o,g _ _ e q⟩
theorem ln_set {L : List (List Int)} {i : Nat} (q : List Int) (hi : i < L.length) (k : Nat) : Dm.ln (L.set i q) k = if k = i then q else Dm.ln L k := by
  unfold Dm.ln
  rw [List.getD_eq_getElem?_getD,List.getElem?_set,List.getD_eq_getElem?_getD]
  by_cases e : i = k
  · subst e; simp [hi]
  · rw [if_neg e,if_neg (fun z => e z.symm)]
noncomputable def ByP (b : Int) : Prop := b = 0 ∨ ∃ P : Nat,P ∈ Om.primesN ∧ b = (P : Int)
theorem ByP.dom {b : Int} (h : ByP b) : Dm.Dom b := by
  rcases h with rfl | ⟨P,hP,rfl⟩
  · exact Dm.Dom.zero
  · exact Dm.Dom.prime hP (primesN_range P hP).1
theorem ByP.range {b : Int} (h : ByP b) : 0 ≤ b ∧ b < 1000 ∧ b ≠ 1 := by
  rcases h with rfl | ⟨P,hP,rfl⟩
  · decide
  · have := primesN_range P hP; omega
theorem ByP.one {b : Int} (h : ByP b) : Rm.tk b 1 = 1 := by
  rcases h with rfl | ⟨P,hP,rfl⟩
  · exact Rm.tk_zero 1
  · have := primesN_range P hP
    rw [Rm.tk_pos (by omega)]; exact Int.emod_eq_of_lt (by decide) (by omega)
theorem cut_one (v : V) (xs : List V) : cutV (v :: xs) (some 1) none = xs := cut_drop (v :: xs) 1
inductive SpTaken_  (vs : List V) (H : Hp) (Q : VK) (E : XK) : Prop | mk (b n : Int) (z_0 : vs = [.int b,.int n]) (z_1 : 0 ≤ b) (z_2 : Q (.int (Rm.tk b n)) H)
noncomputable def spTaken : Sp := fun vs H Q E => SpTaken_  vs H Q E
inductive SpPrimeQ_  (vs : List V) (H : Hp) (Q : VK) (E : XK) : Prop | mk (n : Nat) (z_0 : vs = [.int n]) (z_1 : n < 2097152) (z_2 : ∀ b : Bool,(b = true ↔ Om.Prime n) → Q (.bl b) H)
noncomputable def spPrimeQ : Sp := fun vs H Q E => SpPrimeQ_  vs H Q E
inductive SpAbove_  (vs : List V) (H : Hp) (Q : VK) (E : XK) : Prop | mk (n q : Nat) (z_0 : vs = [.int n]) (z_1 : Om.Prime q) (z_2 : n < q) (z_3 : q < 2097152) (z_4 : ∀ p : Nat,Om.Prime p → n < p → p ≤ q → Q (.int p) H)
noncomputable def spAbove : Sp := fun vs H Q E => SpAbove_  vs H Q E
inductive SpInverseQ_  (vs : List V) (H : Hp) (Q : VK) (E : XK) : Prop | mk (P : Nat) (a : Int) (z_0 : vs = [.int P,.int a]) (z_1 : Om.Prime P) (z_2 : P < 2097152) (z_3 : 0 < a) (z_4 : a < (P : Int)) (z_5 : ∀ x : Int,0 ≤ x → x < 2097152 → x % (P : Int) = a ^ (P - 2) % (P : Int) → Q (.int x) H)
noncomputable def spInverseQ : Sp := fun vs H Q E => SpInverseQ_  vs H Q E
inductive SpOverQ_  (vs : List V) (H : Hp) (Q : VK) (E : XK) : Prop | mk (P : Nat) (one other : Int) (z_0 : vs = [.int P,.int one,.int other]) (z_1 : Om.Prime P) (z_2 : P < 2097152) (z_3 : 0 < other) (z_4 : other < (P : Int)) (z_5 : Q (.int (one * other ^ (P - 2) % (P : Int))) H)
noncomputable def spOverQ : Sp := fun vs H Q E => SpOverQ_  vs H Q E
inductive SpTrim_  (K : PySem.W.Frag) (vs : List V) (H : Hp) (Q : VK) (E : XK) : Prop | mk (l : Addr) (xs : List Int) (z_0 : vs = [.ref l]) (z_1 : SqL K H l (xs.map V.int)) (z_2 : ToldT H Q (Pm.trim xs))
noncomputable def spTrim  (K : PySem.W.Frag) : Sp := fun vs H Q E => SpTrim_ K vs H Q E
noncomputable def ToldD (H : Hp) (Q : VK) (b : Int) (P M : List Int) : Prop := ∀ t x y q r H',Same H H' → H' t = some (.tup [.ref x,.ref y]) → H' x = some (.tup (List.map V.int q)) → H' y = some (.tup (List.map V.int r)) → Pm.Div b P M q r →
  (∀ z ∈ q,Rm.Bd 5300000 z) → (∀ z ∈ r,Rm.Bd 5300000 z) → q.length ≤ P.length → Q (.ref t) H'
inductive SpDividedQ_  (vs : List V) (H : Hp) (Q : VK) (E : XK) : Prop | mk (b : Int) (a c : Addr) (P M : List Int) (z_0 : vs = [.int b,.ref a,.ref c]) (z_1 : 0 ≤ b) (z_2 : b < 2097152) (z_3 : H a = some (.tup (P.map V.int))) (z_4 : H c = some (.tup (M.map V.int))) (z_5 : P.length ≤ 40) (z_6 : M.length ≤ 40) (z_7 : Pm.Mon M) (z_8 : (∀ k,Rm.tk b (Pm.co P k) = Pm.co P k)) (z_9 : (∀ x ∈ P,Rm.Bd 300000 x)) (z_10 : (∀ x ∈ M,Rm.Bd 124000 x)) (z_11 : ToldD H Q b P M)
noncomputable def spDividedQ : Sp := fun vs H Q E => SpDividedQ_  vs H Q E
theorem bd_trim {L : List Int} {u : Nat} (h : ∀ k,Rm.Bd u (Pm.co L k)) : ∀ x ∈ Pm.trim L,Rm.Bd u x := fun x hx => by
  obtain ⟨k,hk,e⟩ := List.mem_iff_getElem.mp hx
  rw [← e,← Pm.co_lt hk,Pm.co_trim]; exact h k
theorem max_zero (m n : Nat) : (if (m : Int) - ((n : Int) - 1) > 0 then (m : Int) - ((n : Int) - 1) else 0).toNat = m - (n - 1) ∨ n = 0 := by
  by_cases h : n = 0
  · exact .inr h
  · left; split <;> omega
noncomputable def ToldM (H : Hp) (Q : VK) (b : Int) (p : List Int) : Prop := ∀ t m H',Same H H' → H' t = some (.tup (List.map V.int m)) → Pm.MonOf b p m → Q (.ref t) H'
inductive SpMonicQ_  (vs : List V) (H : Hp) (Q : VK) (E : XK) : Prop | mk (P : Nat) (a : Addr) (p : List Int) (z_0 : vs = [.int P,.ref a]) (z_1 : Om.Prime P) (z_2 : P < 2097152) (z_3 : H a = some (.tup (p.map V.int))) (z_4 : p.length ≤ 300) (z_5 : Pm.Py P p) (z_6 : ToldM H Q P p)
noncomputable def spMonicQ : Sp := fun vs H Q E => SpMonicQ_  vs H Q E
noncomputable def ToldG (H : Hp) (Q : VK) (b : Int) (p r : List Int) : Prop := ∀ t g H',Same H H' → H' t = some (.tup (List.map V.int g)) → Pm.Gcd b p r g → g.length ≤ max p.length r.length → Q (.ref t) H'
inductive SpGreatestQ_  (vs : List V) (H : Hp) (Q : VK) (E : XK) : Prop | mk (P : Nat) (a c : Addr) (p r : List Int) (z_0 : vs = [.int P,.ref a,.ref c]) (z_1 : Om.Prime P) (z_2 : P < 2097152) (z_3 : H a = some (.tup (p.map V.int))) (z_4 : H c = some (.tup (r.map V.int))) (z_5 : p.length ≤ 40) (z_6 : r.length ≤ 40) (z_7 : Pm.Py P p) (z_8 : Pm.Py P r) (z_9 : (r = [] → p ≠ [])) (z_10 : ToldG H Q P p r)
noncomputable def spGreatestQ : Sp := fun vs H Q E => SpGreatestQ_  vs H Q E
theorem py_bd {P : Nat} (h0 : 2 ≤ P) (h : P < 2097152) {p : List Int} (hp : Pm.Py P p) : ∀ x ∈ p,Rm.Bd 124000 x := fun x hx => by
  have := hp.nu x hx
  rw [Rm.tk_pos (by omega)] at this
  rw [← this]
  exact Rm.Bd.emod (by omega) ((Rm.Bd.of (n := 21) (by omega) (by omega)).mono (by decide))
inductive SpNearest_  (vs : List V) (H : Hp) (Q : VK) (E : XK) : Prop | mk (M x : Int) (z_0 : vs = [.int M,.int x]) (z_1 : 0 < M) (z_2 : Q (.int (Pm.nr M x)) H)
noncomputable def spNearest : Sp := fun vs H Q E => SpNearest_  vs H Q E
inductive SpJoined_  (vs : List V) (H : Hp) (Q : VK) (E : XK) : Prop | mk (M t : Int) (p : Nat) (s : Int) (z_0 : vs = [.int M,.int t,.int p,.int s]) (z_1 : Om.Prime p) (z_2 : p < 2097152) (z_3 : 0 < M) (z_4 : ¬ (p : Int) ∣ M) (z_5 : Q (.int (Pm.jn M t p s)) H)
noncomputable def spJoined : Sp := fun vs H Q E => SpJoined_  vs H Q E
inductive SpTakenPoly_  (vs : List V) (H : Hp) (Q : VK) (E : XK) : Prop | mk (p : Nat) (a : Addr) (P : List Int) (z_0 : vs = [.int p,.ref a]) (z_1 : 0 < p) (z_2 : H a = some (.tup (P.map V.int))) (z_3 : P.length ≤ 100) (z_4 : ToldT H Q (Pm.trim (P.map (Rm.tk p))))
noncomputable def spTakenPoly : Sp := fun vs H Q E => SpTakenPoly_  vs H Q E
inductive SpDivides_  (vs : List V) (H : Hp) (Q : VK) (E : XK) : Prop | mk (m a : Addr) (M P : List Int) (z_0 : vs = [.ref m,.ref a]) (z_1 : H m = some (.tup (M.map V.int))) (z_2 : H a = some (.tup (P.map V.int))) (z_3 : M.length ≤ 40) (z_4 : P.length ≤ 40) (z_5 : Pm.Mon M) (z_6 : (∀ x ∈ M,Rm.Bd 124000 x)) (z_7 : (∀ x ∈ P,Rm.Bd 300000 x)) (z_8 : ∀ b H',Same H H' → (b = true ↔ Pm.Dv 0 M (Pm.co P)) → Q (.bl b) H')
noncomputable def spDivides : Sp := fun vs H Q E => SpDivides_  vs H Q E
inductive SpWG_  (vs : List V) (H : Hp) (Q : VK) (E : XK) : Prop | mk (a c : Addr) (P t g : List Int) (N : Int) (U V' : Nat) (z_0 : vs = [.ref a,.ref c]) (z_1 : H a = some (.tup (P.map V.int))) (z_2 : H c = some (.tup (t.map V.int))) (z_3 : P.length ≤ 40) (z_4 : t.length ≤ 40) (z_5 : Pm.Mon P) (z_6 : (∀ x ∈ P,Rm.Bd 124000 x)) (z_7 : (∀ x ∈ t,Rm.Bd 300000 x)) (z_8 : Pm.GcZ P (Pm.co t) g N) (z_9 : Rm.Bd V' N) (z_10 : (∀ k,Rm.Bd U (Pm.co g k))) (z_11 : V' + U + 57 ≤ 112100) (z_12 : ToldT H Q g)
noncomputable def spWG : Sp := fun vs H Q E => SpWG_  vs H Q E
theorem co_tkp (p : Nat) (P : List Int) (k : Nat) : Rm.tk (p : Int) (Pm.co (Pm.trim (P.map (Rm.tk p))) k) = Rm.tk p (Pm.co P k) := by
  rw [Pm.co_trim,Pm.co_map (Pm.tk0 _),Rm.tk_tk]
theorem py_tkp (p : Nat) (P : List Int) : Pm.Py p (Pm.trim (P.map (Rm.tk p))) := Pm.Py.of fun x hx => by
  obtain ⟨y,_,rfl⟩ := List.mem_map.mp hx
  exact Rm.tk_tk ..
theorem len_tkp (p : Nat) (P : List Int) : (Pm.trim (P.map (Rm.tk p))).length ≤ P.length := by
  have := Pm.trim_len_le (P.map (Rm.tk p))
  rwa [List.length_map] at this
theorem ne_tkp {p : Nat} (hp : Om.Prime p) {P : List Int} (hP : Pm.Mon P) : Pm.trim (P.map (Rm.tk p)) ≠ [] := fun z => by
  have := co_tkp p P (P.length - 1)
  rw [z,Pm.co_nil,hP.one,Pm.one_tk hp,Pm.tk0] at this
  exact absurd this (by decide)
theorem wg_bd {P g told : List Int} {N M : Int} {prime bad good : Nat} {ripe : Bool} (I : Pm.WgI P g N told M prime ripe bad good) (bP : ∀ x ∈ P,Rm.Bd 124000 x) (h : bad + good ≤ 5900) : ∀ x ∈ told,Rm.Bd 124000 x := fun x hx => by
  by_cases c : M = 1
  · rw [I.first c] at hx; exact bP x hx
  · obtain ⟨k,hk,e⟩ := List.mem_iff_getElem.mp hx
    have n := I.near c k
    rw [Pm.co_lt hk,e] at n
    unfold Pm.Nr at n
    have h1 := I.hi
    have h2 : (2 : Int) ^ (21 * (bad + good)) ≤ 2 ^ 123900 := by exact_mod_cast Nat.pow_le_pow_right (n := 2) (by decide) (show 21 * (bad + good) ≤ 123900 by omega)
    have h3 : M ≤ 2 ^ 123900 := Int.le_trans h1 h2
    have hpos := I.pos
    refine (show Rm.Bd 123900 x from ?_).mono (by decide)
    generalize hB : (2 : Int) ^ 123900 = B at h3
    have h4 : -B < x ∧ x < B := by omega
    unfold Rm.Bd
    have h5 : (x.natAbs : Int) < ((2 ^ 123900 : Nat) : Int) := by
      rw [Int.natCast_pow]
      show (x.natAbs : Int) < (2 : Int) ^ 123900
      rw [hB]; omega
    exact_mod_cast h5
noncomputable def WgInv (H : Hp) (a c : Addr) (P' g : List Int) (N : Int) (m : Nat) (σ' : St) (H' : Hp) : Prop := ∃ (o6 o7 : Option V) (tt : Addr) (told : List Int) (M : Int) (prime : Nat) (ripe : Bool) (bad good : Nat),m = 6000 - (bad + good) ∧ σ' = [some (.ref a),some (.ref c),some (.ref tt),some (.int M),some (.int (prime : Int)),some (.bl ripe),o6,o7] ∧ Same H H' ∧ H' tt = some (.tup (told.map V.int)) ∧ Pm.WgI P' g N told M prime ripe bad good ∧ Om.Many (6000 - (bad + good)) prime ∧ 1000000 ≤ prime ∧ bad + good ≤ 5900
inductive SpOfRule_  (vs : List V) (H : Hp) (Q : VK) (E : XK) : Prop | mk (b : Int) (a : Addr) (c : List Int) (z_0 : vs = [.int b,.ref a]) (z_1 : 0 ≤ b) (z_2 : H a = some (.tup (c.map V.int))) (z_3 : c.length ≤ 100) (z_4 : ToldT H Q (Pm.ofRule b c))
noncomputable def spOfRule : Sp := fun vs H Q E => SpOfRule_  vs H Q E
inductive SpRuleOf_  (vs : List V) (H : Hp) (Q : VK) (E : XK) : Prop | mk (b : Int) (a : Addr) (p : List Int) (z_0 : vs = [.int b,.ref a]) (z_1 : 0 ≤ b) (z_2 : H a = some (.tup (p.map V.int))) (z_3 : 0 < p.length) (z_4 : p.length ≤ 100) (z_5 : ToldT H Q (Pm.ruleOf b p))
noncomputable def spRuleOf : Sp := fun vs H Q E => SpRuleOf_  vs H Q E
theorem comp_rngL {lo : Int} {n : Nat} {ix : List (Option Nat)} {te : TE} {σ : St} {H1 : Hp} {Q : VK} (hz : n ≤ 1000) {rest : St} (hst : cst ix σ = none :: rest) (f : Nat → Int)
    (he : ∀ H' k,Same H1 H' → k < n → ∀ kk : VK,kk (.int (f k)) H' → te (some (.int (lo + (k : Int))) :: rest) H' kk)
    (hQ : ∀ D,H1 D = none → Q (.ref D) (upd H1 D (.lst ((Pm.ofF n f).map V.int)))) : CompK ix (gName 0) tYes te σ Q (Itr lo n) H1 := by
  refine comp_pure its_range (by rw [List.length_map,List.length_range]; exact Nat.le_of_lt (small1000 hz)) hst (fun _ => true) (fun x => match x with | .int k => .int (f (k - lo).toNat) | _ => .non) ?_ ?_ ?_
  · intro H2 x g2 hx k hk; exact hk
  · intro H2 x g2 hx _ k hk
    obtain ⟨j,hj,rfl⟩ := List.mem_map.mp hx
    have e1 : (lo + (j : Int) - lo).toNat = j := by omega
    refine he H2 j g2 (List.mem_range.mp hj) k ?_
    have hk' : k (V.int (f (lo + (j : Int) - lo).toNat)) H2 := hk
    rwa [e1] at hk'
  · intro D hD
    have el : ((((List.range n).map fun i => V.int (lo + (i : Nat))).filter fun _ => true).map fun x => match x with | .int k => V.int (f (k - lo).toNat) | _ => V.non) = (Pm.ofF n f).map V.int := by
      rw [List.filter_eq_self.mpr (by simp),List.map_map,Pm.ofF,List.map_map]
      refine List.map_congr_left fun k _ => ?_
      show V.int (f (lo + (k : Int) - lo).toNat) = V.int (f k)
      rw [show (lo + (k : Int) - lo).toNat = k by omega]
    rw [el]
    exact hQ D hD
theorem primesN_try : (Om.primesN.all fun p => (List.range 32).all fun d => decide (d < 2) || decide (p < d * d) || decide (p % d ≠ 0)) = true := by decide +kernel
theorem primesN_pr {P : Nat} (h : P ∈ Om.primesN) : Om.Prime P := by
  have hr := primesN_range P h
  refine Om.prime_try hr.1 fun d hd hdd hdv => ?_
  have h32 : d < 32 := by
    by_cases c : d < 32
    · exact c
    · have : 32 * 32 ≤ d * d := Nat.mul_le_mul (by omega) (by omega)
      omega
  have := List.all_eq_true.mp (List.all_eq_true.mp primesN_try P h) d (List.mem_range.mpr h32)
  simp only [Bool.or_eq_true,decide_eq_true_eq] at this
  have := Nat.mod_eq_zero_of_dvd hdv
  omega
noncomputable def topL (r : Rw) : List Int := Pm.trim (Pm.ofF r.rule.length fun k => Rm.tk r.b (Pm.tp (Pm.ofRule r.b r.rule) r.at k))
theorem topL_co (r : Rw) (k : Nat) : Pm.co (topL r) k = Rm.tk r.b (Pm.tp (Pm.ofRule r.b r.rule) r.at k) := by
  rw [topL,Pm.co_trim,Pm.co_ofF]
  by_cases c : k < r.rule.length
  · rw [if_pos c]
  · rw [if_neg c,Pm.tp_fs _ _ k (by rw [Pm.ofRule_len]; omega),Pm.tk0]
theorem topL_len (r : Rw) : (topL r).length ≤ r.rule.length := by
  have := Pm.trim_len_le (Pm.ofF r.rule.length fun k => Rm.tk r.b (Pm.tp (Pm.ofRule r.b r.rule) r.at k))
  rwa [Pm.ofF_len] at this
theorem RwOk.poly_bd {r : Rw} (ok : RwOk r) : ∀ x ∈ Pm.ofRule r.b r.rule,Rm.Bd 60000 x := Pm.ofRule_bd ok.by0 ok.by1 (by decide) ok.ruleBd
theorem topL_bd {r : Rw} (ok : RwOk r) : ∀ x ∈ topL r,Rm.Bd 300000 x := fun x hx => by
  obtain ⟨k,_,rfl⟩ := Pm.mem_ofF (Pm.trim_mem hx)
  refine Rm.tk_bd ok.by0 ((Rm.Bd.of (n := 10) (by have := ok.by0; omega) (by have := ok.by1; omega)).mono (by decide)) ?_
  have hs := ok.short
  have hl := ok.len
  unfold Pm.tp
  rw [Pm.ofRule_len,Nat.add_sub_cancel]
  refine (Pm.Bd_sm (c := 63000) _ fun i hi => ?_).mono (by omega)
  refine (Rm.Bd.mul (m := 60000) (n := 3000) (Pm.Bd_co ok.poly_bd _) ?_).mono (by omega)
  have e : r.at i = r.starts.getD i 0 := Rm.at_lt (by omega)
  rw [e]; exact Rm.Bd.getD ok.startsBd _
inductive SpTop_  (vs : List V) (H : Hp) (Q : VK) (E : XK) : Prop | mk (v : V) (r : Rw) (a : Addr) (z_0 : vs = [v,.ref a]) (z_1 : RowIs H v r) (z_2 : RwOk r) (z_3 : H a = some (.tup ((Pm.ofRule r.b r.rule).map V.int))) (z_4 : ToldT H Q (topL r))
noncomputable def spTop : Sp := fun vs H Q E => SpTop_  vs H Q E
inductive SpShared_  (vs : List V) (H : Hp) (Q : VK) (E : XK) : Prop | mk (b : Int) (a c : Addr) (P t : List Int) (z_0 : vs = [.int b,.ref a,.ref c]) (z_1 : H a = some (.tup (P.map V.int))) (z_2 : H c = some (.tup (t.map V.int))) (z_3 : P.length ≤ 40) (z_4 : t.length ≤ 40) (z_5 : Pm.Mon P) (z_6 : (∀ x ∈ P,Rm.Bd 124000 x)) (z_7 : (∀ x ∈ t,Rm.Bd 300000 x)) (z_8 : ((b = 0 ∧ ∃ (g : List Int) (N : Int) (U V' : Nat),Pm.GcZ P (Pm.co t) g N ∧ Rm.Bd V' N ∧ (∀ k,Rm.Bd U (Pm.co g k)) ∧ V' + U + 57 ≤ 112100 ∧ ToldT H Q g) ∨
   (∃ p : Nat,b = (p : Int) ∧ Om.Prime p ∧ p < 2097152 ∧ Pm.Py p P ∧ Pm.Py p t ∧ ToldG H Q p P t)))
noncomputable def spShared : Sp := fun vs H Q E => SpShared_  vs H Q E
structure LeastOf (b : Int) (f : Nat → Int) (L : List Int) : Prop where
  mon : Pm.Mon L
  nu : ∀ k,Rm.tk b (Pm.co L k) = Pm.co L k
  kp : Pm.Kp b L f
  all : ∀ q,Pm.Kp b q f → Pm.Dv b L (Pm.co q)
noncomputable def Tame (r : Rw) : Prop := r.b = 0 → ∃ d ua u : Nat,10 ≤ u ∧ (∀ x ∈ r.rule,Rm.Bd u x) ∧ (∃ Q0,Pm.Mon Q0 ∧ Pm.Kp 0 Q0 r.at ∧ Q0.length ≤ d + 1) ∧ (∀ n,n ≤ 2 * d → Rm.Bd ua (r.at n)) ∧ d * (ua + d) + 1 + (u + 400) + 57 ≤ 112100
theorem RwOk.kp {r : Rw} (ok : RwOk r) : Pm.Kp r.b (Pm.ofRule r.b r.rule) r.at := Pm.Kp.ofRule (Pm.at_rec ok.len)
theorem mon_py {b : Int} {L : List Int} (h : Pm.Mon L) (hn : ∀ k,Rm.tk b (Pm.co L k) = Pm.co L k) : Pm.Py b L := ⟨Pm.trim_of_last (fun z => by have := h.pos; rw [z] at this; exact absurd this (by decide)) (by rw [h.one]; decide),fun x hx => by
  obtain ⟨k,hk,e⟩ := List.mem_iff_getElem.mp hx
  have := hn k
  rwa [Pm.co_lt hk,e] at this⟩
theorem ofRule_nu (b : Int) (c : List Int) (h1 : Rm.tk b 1 = 1) (k : Nat) : Rm.tk b (Pm.co (Pm.ofRule b c) k) = Pm.co (Pm.ofRule b c) k := by
  have h : ∀ x ∈ Pm.ofRule b c,Rm.tk b x = x := fun x hx => by
    rcases List.mem_append.mp hx with hx | hx
    · obtain ⟨j,_,e⟩ := Pm.mem_ofF hx
      rw [e,Rm.tk_tk]
    · rw [List.mem_singleton.mp hx,h1]
  by_cases hk : k < (Pm.ofRule b c).length
  · exact h _ (Pm.co_mem hk)
  · rw [Pm.co_ge (by omega),Pm.tk0]
theorem least_pr {p : Nat} (hp : Om.Prime p) {r : Rw} (ok : RwOk r) (hb : r.b = (p : Int)) {g L o : List Int} (hG : Pm.Gcd p (Pm.ofRule r.b r.rule) (topL r) g) (D : Pm.Div p (Pm.ofRule r.b r.rule) g o L) : LeastOf r.b r.at o ∧ o.length ≤ r.rule.length + 1 := by
  have h1 := Pm.one_tk hp
  have hm := Pm.ofRule_mon r.b r.rule
  have hd : Pm.Dv p g (Pm.co (Pm.ofRule r.b r.rule)) := hG.one.to fun _ => rfl
  obtain ⟨L',hL',hn',hl',e'⟩ := Pm.mon_left h1 hm hG.mon hd
  have D' : Pm.Div p (Pm.ofRule r.b r.rule) g L' [] := ⟨mon_py hL' hn',Pm.Py.nil _,hG.mon.pos,fun k => by rw [Pm.co_nil,Int.add_zero]; exact (e' k).symm⟩
  obtain ⟨eo,_⟩ := D.uniq hG.mon D'
  subst eo
  have W : Pm.GcdW p (Pm.ofRule p r.rule) (Pm.tp (Pm.ofRule p r.rule) r.at) g := by
    rw [← hb]
    refine ⟨hG.mon,by rw [hb]; rw [hb] at hd; exact hd,?_,?_⟩
    · rw [hb]
      refine (hG.two.to (q := topL r) fun _ => rfl).congr fun k => ?_
      rw [topL_co,hb,Rm.tk_tk]
    · obtain ⟨u,v,e⟩ := hG.sum
      refine ⟨1,Pm.co u,Pm.co v,u.length + v.length,by rw [hb,h1]; decide,(Pm.Fs.co u).mono (by omega),(Pm.Fs.co v).mono (by omega),fun k => ?_⟩
      rw [Int.one_mul,hb]
      rw [hb] at e
      rw [e k]
      refine Rm.tk_congr_add rfl (Pm.cv_tk (fun _ _ => rfl) fun i _ => ?_)
      rw [topL_co,hb,Rm.tk_tk]
  have ha : ∀ n,r.rule.length ≤ n → Rm.tk (p : Int) (r.at n) = Rm.tk p (Rm.S r.rule r.at n r.rule.length) := by
    rw [← hb]; exact Pm.at_rec ok.len
  have K := W.keeps (Dm.Dom.pr hp) ha hL' (by rw [← hb]; rw [← hb] at e'; exact e')
  refine ⟨⟨hL',by rw [hb]; exact hn',?_,fun q hq => ?_⟩,?_⟩
  · rw [hb]
    refine (K o).mpr ⟨fun k => if k = 0 then 1 else 0,1,fun k hk => if_neg (by omega),fun k => ?_⟩
    rw [Pm.cv_point,if_pos (Nat.zero_le _),Int.one_mul,Nat.sub_zero]
  · rw [hb] at hq ⊢; exact (K q).mp hq
  · have := hG.mon.pos
    rw [Pm.ofRule_len] at hl'
    omega
inductive SpLeast_  (vs : List V) (H : Hp) (Q : VK) (E : XK) : Prop | mk (v : V) (r : Rw) (z_0 : vs = [v]) (z_1 : RowIs H v r) (z_2 : RwOk r) (z_3 : ByP r.b) (z_4 : Tame r) (z_5 : ∀ t L H',Same H H' → H' t = some (.tup (List.map V.int L)) → LeastOf r.b r.at L → L.length ≤ r.rule.length + 1 → Q (.ref t) H')
noncomputable def spLeast : Sp := fun vs H Q E => SpLeast_  vs H Q E
noncomputable def shortR (r : Rw) (L : List Int) : Rw := ⟨r.b,Pm.ruleOf r.b L,r.starts.take (L.length - 1)⟩
inductive SpShort_  (vs : List V) (H : Hp) (Q : VK) (E : XK) : Prop | mk (v : V) (r : Rw) (z_0 : vs = [v]) (z_1 : RowIs H v r) (z_2 : RwOk r) (z_3 : ByP r.b) (z_4 : Tame r) (z_5 : ∀ v' L H',Same H H' → RowIs H' v' (shortR r L) → LeastOf r.b r.at L → L.length ≤ r.rule.length + 1 → Q v' H')
noncomputable def spShort : Sp := fun vs H Q E => SpShort_  vs H Q E
inductive SpCell_  (K : PySem.W.Frag) (vs : List V) (H : Hp) (Q : VK) (E : XK) : Prop | mk (a ns k) (z_0 : vs = [.ref a,.int k]) (z_1 : SqL K H a (ns.map V.int)) (z_2 : 0 ≤ k) (z_3 : Q (.int (cellAt ns k)) H)
noncomputable def spCell  (K : PySem.W.Frag) : Sp := fun vs H Q E => SpCell_ K vs H Q E
noncomputable def mixedN (c k : Int) : Int := (c % 2147483647 + 1) * (k * k + 48271) % 2147483629
noncomputable def mixedI (c k : Int) : Int := mixedN c k * (mixedN c k + 3 * k) % 2147483587
inductive SpMixed_  (vs : List V) (H : Hp) (Q : VK) (E : XK) : Prop | mk (c k : Int) (z_0 : vs = [.int c,.int k]) (z_1 : 0 ≤ k) (z_2 : k ≤ 1000) (z_3 : Q (.int (mixedI c k)) H)
noncomputable def spMixed : Sp := fun vs H Q E => SpMixed_  vs H Q E
noncomputable def byT : List Int := [0,2,3,5,0,7,97,997]
noncomputable def by16 (c : Int) : Int := byT.getD (c % 8).toNat 0
theorem byT_ok : ∀ k < 8,byT.getD k 0 = 0 ∨ (0 ≤ byT.getD k 0 ∧ (byT.getD k 0).toNat ∈ Om.primesN) := by decide +kernel
theorem by16_ok (c : Int) : ByP (by16 c) := by
  have h0 := emod_lo c (show (0 : Int) < 8 by decide)
  have h1 := emod_hi c (show (0 : Int) < 8 by decide)
  rcases byT_ok (c % 8).toNat (by omega) with e | ⟨e1,e2⟩
  · exact .inl e
  · exact .inr ⟨_,e2,by show byT.getD (c % 8).toNat 0 = _; omega⟩
inductive SpBy16_  (vs : List V) (H : Hp) (Q : VK) (E : XK) : Prop | mk (c : Int) (z_0 : vs = [.int c]) (z_1 : ∀ H',Same H H' → Q (.int (by16 c)) H')
noncomputable def spBy16 : Sp := fun vs H Q E => SpBy16_  vs H Q E
noncomputable def num15 (b c s : Int) : Int := if b > 0 then c % b else if s = 0 then c % 7 - 3 else if s = 1 then c % 201 - 100 else c * 7919 % (2 * 10 ^ 12 - 1) - 10 ^ 12 + 1
theorem num15_bd {b : Int} (hb : b < 1000) (c s : Int) : Rm.Bd 40 (num15 b c s) := by
  have a := emod_lo c (show (0 : Int) < 7 by decide)
  have a' := emod_hi c (show (0 : Int) < 7 by decide)
  have d := emod_lo c (show (0 : Int) < 201 by decide)
  have d' := emod_hi c (show (0 : Int) < 201 by decide)
  have e := emod_lo (c * 7919) (show (0 : Int) < 2 * 10 ^ 12 - 1 by decide)
  have e' := emod_hi (c * 7919) (show (0 : Int) < 2 * 10 ^ 12 - 1 by decide)
  refine Rm.Bd.of ?_ ?_ <;> unfold num15
  · split
    · rename_i h; have := emod_lo c h; omega
    · split
      · omega
      · split
        · omega
        · generalize c * 7919 % (2 * 10 ^ 12 - 1) = m at e e' ⊢
          omega
  · split
    · rename_i h; have := emod_hi c h; omega
    · split
      · omega
      · split
        · omega
        · generalize c * 7919 % (2 * 10 ^ 12 - 1) = m at e e' ⊢
          omega
inductive SpNum15_  (vs : List V) (H : Hp) (Q : VK) (E : XK) : Prop | mk (b c s : Int) (z_0 : vs = [.int b,.int c,.int s]) (z_1 : Q (.int (num15 b c s)) H)
noncomputable def spNum15 : Sp := fun vs H Q E => SpNum15_  vs H Q E
structure RwL (b : Int) (most : Nat) (r : Rw) : Prop where
  by_ : r.b = b
  len : r.rule.length = r.starts.length
  short : r.rule.length ≤ most
  ruleNum : ∀ x ∈ r.rule,IsNum b x
  startsNum : ∀ x ∈ r.starts,IsNum b x
  ruleBd : ∀ x ∈ r.rule,Rm.Bd 40 x
  startsBd : ∀ x ∈ r.starts,Rm.Bd 40 x
theorem RwL.ok {b : Int} {most : Nat} {r : Rw} (hB : ByP b) (h : RwL b most r) (hm : most ≤ 12) : RwOk r := by
  obtain ⟨hb0,hb1,_⟩ := hB.range
  have e := h.by_
  have := h.short
  exact ⟨h.len,by omega,by rw [e]; exact hb0,by rw [e]; exact hb1,by rw [e]; exact h.ruleNum,by rw [e]; exact h.startsNum,fun x hx => (h.ruleBd x hx).mono (by decide),fun x hx => (h.startsBd x hx).mono (by decide)⟩
theorem num15_num {b : Int} (hB : ByP b) (c s : Int) : IsNum b (num15 b c s) := by
  obtain ⟨hb0,_,_⟩ := hB.range
  by_cases h : b = 0
  · exact .inl h
  · have hb : 0 < b := by omega
    have e : num15 b c s = c % b := if_pos hb
    rw [e]
    exact .inr ⟨emod_lo c hb,emod_hi c hb⟩
theorem IsNum.zero {b : Int} (hB : ByP b) : IsNum b 0 := by
  obtain ⟨hb0,_,_⟩ := hB.range
  by_cases h : b = 0
  · exact .inl h
  · exact .inr ⟨Int.le_refl _,by omega⟩
noncomputable def longerR (b n : Int) (rule : List Int) : List Int := Pm.ofF (rule.length + 1) fun k => Rm.tk b (0 - ((if k < rule.length then 0 - Pm.co rule k else 0) - n * (if k = 0 then 1 else 0 - Pm.co rule (k - 1))))
theorem longerR_len (b n : Int) (rule : List Int) : (longerR b n rule).length = rule.length + 1 := Pm.ofF_len ..
noncomputable def lowL (rule : List Int) : List Int := 1 :: rule.map fun x => 0 - x
theorem lowL_len (rule : List Int) : (lowL rule).length = rule.length + 1 := by rw [lowL,List.length_cons,List.length_map]
theorem lowL_co (rule : List Int) (k : Nat) : Pm.co (lowL rule) k = if k = 0 then 1 else 0 - Pm.co rule (k - 1) := by
  cases k with
  | zero => rfl
  | succ k =>
    rw [if_neg (by omega),Nat.add_sub_cancel]
    show Pm.co (1 :: _) (k + 1) = _
    rw [Pm.co_succ,Pm.co_map (f := fun x => 0 - x) rfl]
noncomputable def midL (n : Int) (rule : List Int) : List Int := List.zipWith (fun x y => x - n * y) (lowL rule ++ [0]) ([0] ++ lowL rule)
theorem midL_len (n : Int) (rule : List Int) : (midL n rule).length = rule.length + 2 := by
  rw [midL,List.length_zipWith,List.length_append,List.length_append,lowL_len]
  show min (rule.length + 1 + 1) (1 + (rule.length + 1)) = _
  omega
theorem zip_co {F : Int → Int → Int} {p q : List Int} {k : Nat} (h1 : k < p.length) (h2 : k < q.length) : Pm.co (List.zipWith F p q) k = F (Pm.co p k) (Pm.co q k) := by
  unfold Pm.co
  rw [List.getD_eq_getElem?_getD,List.getElem?_zipWith,List.getD_eq_getElem?_getD,List.getD_eq_getElem?_getD,List.getElem?_eq_getElem h1,List.getElem?_eq_getElem h2]
  rfl
theorem midL_co {n : Int} {rule : List Int} {k : Nat} (hk : k < rule.length + 1) : Pm.co (midL n rule) (k + 1) = (if k < rule.length then 0 - Pm.co rule k else 0) - n * (if k = 0 then 1 else 0 - Pm.co rule (k - 1)) := by
  have l1 : (lowL rule ++ [0]).length = rule.length + 2 := by rw [List.length_append,lowL_len]; rfl
  have l2 : ([0] ++ lowL rule).length = rule.length + 2 := by rw [List.length_append,lowL_len]; show 1 + _ = _; omega
  rw [midL,zip_co (by omega) (by omega),Pm.co_append,lowL_len,Pm.co_append,List.length_singleton,if_neg (by omega : ¬ k + 1 < 1),Nat.add_sub_cancel,lowL_co,lowL_co]
  congr 1
  by_cases c : k < rule.length
  · rw [if_pos (by omega),if_neg (by omega),if_pos c,Nat.add_sub_cancel]
  · rw [if_neg (by omega),if_neg c,show k + 1 - (rule.length + 1) = 0 by omega]; rfl
theorem longerR_mid (b n : Int) (rule : List Int) : ((midL n rule).drop 1).map (fun x => Rm.tk b (0 - x)) = longerR b n rule := by
  refine Pm.co_ext (by rw [List.length_map,List.length_drop,midL_len,longerR_len]; omega) fun k => ?_
  rw [Pm.co_map (f := fun x => Rm.tk b (0 - x)) (by show Rm.tk b (0 - 0) = 0; exact Pm.tk0 b),longerR,Pm.co_ofF]
  have ed : Pm.co ((midL n rule).drop 1) k = Pm.co (midL n rule) (k + 1) := by
    unfold Pm.co
    rw [List.getD_eq_getElem?_getD,List.getElem?_drop,Nat.add_comm,← List.getD_eq_getElem?_getD]
  by_cases c : k < rule.length + 1
  · rw [if_pos c,ed,midL_co c]
  · rw [if_neg c,ed,Pm.co_ge (by rw [midL_len]; omega)]
    exact Pm.tk0 b
theorem longerR_at {b n : Int} {r : Rw} (hl : r.rule.length = r.starts.length) (hs : ∀ x ∈ r.starts,IsNum b x) (hb : r.b = b) (m : Nat) : Rm.at_ b (longerR b n r.rule) (r.row (r.rule.length + 1)) m = r.at m := by
  have e0 : ∀ i,i < r.rule.length + 1 → (r.row (r.rule.length + 1)).getD i 0 = r.at i := fun i hi => Rm.row_get _ _ _ hi
  refine Rm.at_uniq (by rw [longerR_len,Rw.row_len]) (g := r.at) (fun i hi => ?_) (fun i hi => ?_) m
  · rw [Rw.row_len] at hi
    exact (e0 i hi).symm
  · rw [Rw.row_len] at hi
    have h1 : r.at i = Rm.tk b (Rm.S r.rule r.at i r.rule.length) := by rw [← hb]; exact Rm.at_ge hl (by omega)
    rw [longerR_len,h1,Pm.S_sm,Pm.S_sm]
    have e1 : Rm.tk b (Pm.sm (r.rule.length + 1) fun k => Pm.co (longerR b n r.rule) k * r.at (i - 1 - k)) = Rm.tk b (Pm.sm (r.rule.length + 1) fun k => (if k < r.rule.length then Pm.co r.rule k * r.at (i - 1 - k) else 0) + n * (if k = 0 then r.at (i - 1) else -(Pm.co r.rule (k - 1) * r.at (i - 1 - k)))) := Pm.tk_sm fun k hk => by
      rw [longerR,Pm.co_ofF,if_pos hk,Rm.tk_mul_l]
      refine congrArg (Rm.tk b) ?_
      by_cases c : k = 0
      · rw [if_pos c,if_pos c,c]
        by_cases d : 0 < r.rule.length
        · rw [if_pos d,if_pos d,Nat.sub_zero,Int.mul_one,show (0 - (0 - Pm.co r.rule 0 - n)) = Pm.co r.rule 0 + n by omega,Int.add_mul]
        · rw [if_neg d,if_neg d,Nat.sub_zero,Int.mul_one,show (0 - (0 - n)) = n by omega,Int.zero_add]
      · rw [if_neg c,if_neg c]
        by_cases d : k < r.rule.length
        · rw [if_pos d,if_pos d,Int.sub_mul,Int.sub_mul,Int.mul_assoc,Int.sub_mul,Int.sub_mul,Int.mul_sub,Int.mul_neg]
          omega
        · rw [if_neg d,if_neg d,Int.sub_mul,Int.sub_mul,Int.mul_assoc,Int.sub_mul,Int.mul_sub,Int.mul_neg]
          omega
    rw [e1,Pm.sm_add,Pm.sm_mul]
    have e2 : Pm.sm (r.rule.length + 1) (fun k => if k < r.rule.length then Pm.co r.rule k * r.at (i - 1 - k) else 0) = Pm.sm r.rule.length fun k => Pm.co r.rule k * r.at (i - 1 - k) := by
      rw [Pm.sm,if_neg (Nat.lt_irrefl _),Int.add_zero]
      exact Pm.sm_congr fun k hk => if_pos hk
    have e3 : Pm.sm (r.rule.length + 1) (fun k => if k = 0 then r.at (i - 1) else -(Pm.co r.rule (k - 1) * r.at (i - 1 - k))) = r.at (i - 1) + -1 * Pm.sm r.rule.length fun k => Pm.co r.rule k * r.at (i - 1 - 1 - k) := by
      rw [Pm.sm_head,if_pos rfl,← Pm.sm_mul]
      congr 1
      refine Pm.sm_congr fun k _ => ?_
      rw [if_neg (by omega),Nat.add_sub_cancel,show i - 1 - (k + 1) = i - 1 - 1 - k by omega]
      omega
    rw [e2,e3]
    have z : Rm.tk b (r.at (i - 1) + -1 * Pm.sm r.rule.length fun k => Pm.co r.rule k * r.at (i - 1 - 1 - k)) = 0 := by
      have h2 : r.at (i - 1) = Rm.tk b (Rm.S r.rule r.at (i - 1) r.rule.length) := by rw [← hb]; exact Rm.at_ge hl (by omega)
      rw [h2,Pm.S_sm,Rm.tk_add_l,show ∀ x : Int,x + -1 * x = 0 from fun x => by omega,Pm.tk0]
    rw [← Rm.tk_add_r,← Rm.tk_mul_r,z,Int.mul_zero,Pm.tk0,Int.add_zero]
noncomputable def zipF (F : Int → Int → Int) : V → V → V
  | .int u,.int v => .int (F u v)
  | _,_ => .non
theorem zipF_map (F : Int → Int → Int) : ∀ p q : List Int,List.zipWith (zipF F) (p.map V.int) (q.map V.int) = (List.zipWith F p q).map V.int
  | [],_ => by simp
  | _ :: _,[] => by simp
  | a :: p,b :: q => by
    rw [List.map_cons,List.map_cons,List.zipWith_cons_cons,zipF_map F p q]; rfl
theorem ofF_mapIdx (p : List Int) (F : Nat → Int → Int) : (p.map V.int).mapIdx (fun j x => match x with | .int n => V.int (F j n) | _ => V.non) = (Pm.ofF p.length fun j => F j (Pm.co p j)).map V.int := by
  refine List.ext_getElem? fun j => ?_
  rw [List.getElem?_mapIdx,List.getElem?_map,List.getElem?_map]
  by_cases hj : j < p.length
  · rw [List.getElem?_eq_getElem hj,Pm.ofF,List.getElem?_map,List.getElem?_range hj]
    show some (V.int (F j p[j])) = some (V.int (F j (p.getD j 0)))
    rw [List.getD_eq_getElem?_getD,List.getElem?_eq_getElem hj]; rfl
  · rw [List.getElem?_eq_none (by omega),List.getElem?_eq_none (by rw [Pm.ofF_len]; omega)]; rfl
inductive SpGone_  (vs : List V) (H : Hp) (Q : VK) (E : XK) : Prop | mk (v : V) (r : Rw) (c : Int) (z_0 : vs = [v,.int c]) (z_1 : RowIs H v r) (z_2 : RwOk r) (z_3 : 0 ≤ c) (z_4 : c ≤ 900) (z_5 : Told H Q ((r.row c.toNat).map V.int))
noncomputable def spGone : Sp := fun vs H Q E => SpGone_  vs H Q E
noncomputable def sortL : List Int := [0,0,0,1,0,2]
inductive SpRow20_  (K : PySem.W.Frag) (vs : List V) (H : Hp) (Q : VK) (E : XK) : Prop | mk (a : Addr) (ns : List Int) (st b : Int) (most : Nat) (z_0 : vs = [.ref a,.int st,.int b,.int most]) (z_1 : SqL K H a (ns.map V.int)) (z_2 : 0 ≤ st) (z_3 : ByP b) (z_4 : most ≤ 12) (z_5 : ∀ v r H',Same H H' → RowIs H' v r → RwL b most r → Q v H')
noncomputable def spRow20  (K : PySem.W.Frag) : Sp := fun vs H Q E => SpRow20_ K vs H Q E
inductive SpLonger20_  (vs : List V) (H : Hp) (Q : VK) (E : XK) : Prop | mk (v : V) (r : Rw) (n : Int) (z_0 : vs = [v,.int n]) (z_1 : RowIs H v r) (z_2 : RwOk r) (z_3 : r.rule.length < 12) (z_4 : Rm.Bd 40 n) (z_5 : ∀ v' H',Same H H' → RowIs H' v' ⟨r.b,longerR r.b n r.rule,r.row (r.rule.length + 1)⟩ → Q v' H')
noncomputable def spLonger20 : Sp := fun vs H Q E => SpLonger20_  vs H Q E
theorem shortR_at {r : Rw} (hn : ∀ n,Rm.tk r.b (r.at n) = r.at n) {L : List Int} (h : LeastOf r.b r.at L) (hl : L.length ≤ r.starts.length + 1) (n : Nat) : (shortR r L).at n = r.at n := by
  have hp := h.mon.pos
  refine Pm.at_longer h.nu h.mon h.kp hn (starts := r.starts.take (L.length - 1)) ?_ ?_ n
  · rw [List.length_take]; omega
  · intro i hi
    rw [List.length_take] at hi
    have e : r.at i = r.starts.getD i 0 := Rm.at_lt (by omega)
    rw [e,List.getD_eq_getElem?_getD,List.getElem?_take,if_pos (by omega),← List.getD_eq_getElem?_getD]
theorem num_tk {b x : Int} (h : IsNum b x) : Rm.tk b x = x := by
  rcases h with rfl | ⟨h1,h2⟩
  · exact Rm.tk_zero x
  · rw [Rm.tk_pos (by omega)]; exact Int.emod_eq_of_lt h1 h2
theorem RwOk.at_num {r : Rw} (ok : RwOk r) (n : Nat) : IsNum r.b (r.at n) := by
  by_cases h : r.b = 0
  · exact .inl h
  · have h0 := ok.by0
    refine .inr (Rm.at_range ok.len (by omega) (fun x hx => ?_) n)
    rcases ok.startsNum x hx with z | z
    · exact absurd z h
    · exact z
theorem RwOk.at_tk {r : Rw} (ok : RwOk r) (n : Nat) : Rm.tk r.b (r.at n) = r.at n := num_tk (ok.at_num n)
theorem RwL.at_bd {b : Int} {r : Rw} (hB : ByP b) (h : RwL b 6 r) {n : Nat} (hn : n ≤ 12) : Rm.Bd 657 (r.at n) := by
  obtain ⟨hb0,hb1,_⟩ := hB.range
  have e := h.by_
  have q := Rm.at_bd (b := r.b) (rule := r.rule) (starts := r.starts) (a := 40) (c := 40) h.len (by omega) ((Rm.Bd.of (n := 10) (by omega) (by omega)).mono (by decide)) h.ruleBd h.startsBd n
  refine q.mono ?_
  have h1 := h.short
  have h2 : n * (40 + r.rule.length) ≤ 12 * 46 := Nat.mul_le_mul hn (by omega)
  omega
structure LgR (b : Int) (r0 : Rw) (i : Nat) (r : Rw) : Prop where
  by_ : r.b = b
  len : r.rule.length = r0.rule.length + i
  lenS : r.rule.length = r.starts.length
  num : ∀ x ∈ r.rule,IsNum b x
  ruleBd : ∀ x ∈ r.rule,Rm.Bd (40 + 4 * i) x
  same : ∀ n,r.at n = r0.at n
theorem LgR.start {b : Int} {r : Rw} (h : RwL b 6 r) : LgR b r 0 r := ⟨h.by_,rfl,h.len,h.ruleNum,h.ruleBd,fun _ => rfl⟩
theorem RwL.oks {b : Int} (hB : ByP b) {r0 : Rw} (h0 : RwL b 6 r0) : RwOk r0 := h0.ok hB (by decide)
theorem LgR.starts {b : Int} {r0 r : Rw} {i : Nat} (h : LgR b r0 i r) {x : Int} (hx : x ∈ r.starts) : ∃ k,k < r.starts.length ∧ x = r0.at k := by
  obtain ⟨k,hk,e⟩ := List.mem_iff_getElem.mp hx
  refine ⟨k,hk,?_⟩
  have e1 : r.at k = r.starts.getD k 0 := Rm.at_lt hk
  rw [← h.same k,e1,List.getD_eq_getElem?_getD,List.getElem?_eq_getElem hk,← e]; rfl
theorem LgR.ok {b : Int} (hB : ByP b) {r0 r : Rw} {i : Nat} (h0 : RwL b 6 r0) (h : LgR b r0 i r) (hi : i ≤ 6) : RwOk r := by
  obtain ⟨hb0,hb1,_⟩ := hB.range
  have e := h.by_
  have hs := h0.short
  have hl := h.len
  have hlS := h.lenS
  have ok0 := h0.oks hB
  refine ⟨h.lenS,by omega,by omega,by omega,by rw [e]; exact h.num,fun x hx => ?_,fun x hx => (h.ruleBd x hx).mono (by omega),fun x hx => ?_⟩
  · obtain ⟨k,_,rfl⟩ := h.starts hx
    have := ok0.at_num k
    rw [h0.by_] at this
    rw [e]; exact this
  · obtain ⟨k,hk,rfl⟩ := h.starts hx
    exact (h0.at_bd hB (by omega)).mono (by decide)
theorem LgR.step {b n : Int} (hB : ByP b) {r0 r : Rw} {i : Nat} (h0 : RwL b 6 r0) (h : LgR b r0 i r) (hi : i ≤ 5) (hn : b = 0 → -4 ≤ n ∧ n ≤ 4) : LgR b r0 (i + 1) ⟨r.b,longerR r.b n r.rule,r.row (r.rule.length + 1)⟩ := by
  obtain ⟨hb0,hb1,_⟩ := hB.range
  have e := h.by_
  have ok := h.ok hB h0 (by omega)
  refine ⟨e,?_,?_,fun x hx => ?_,fun x hx => ?_,fun m => ?_⟩
  · show (longerR r.b n r.rule).length = _
    rw [longerR_len,h.len]; omega
  · show (longerR r.b n r.rule).length = (r.row (r.rule.length + 1)).length
    rw [longerR_len,Rw.row_len]
  · obtain ⟨k,_,rfl⟩ := Pm.mem_ofF (show x ∈ Pm.ofF _ _ from hx)
    rw [e]
    by_cases z : b = 0
    · exact .inl z
    · rw [Rm.tk_pos z]; exact .inr ⟨emod_lo _ (by omega),emod_hi _ (by omega)⟩
  · obtain ⟨k,_,rfl⟩ := Pm.mem_ofF (show x ∈ Pm.ofF _ _ from hx)
    rw [e]
    by_cases z : b = 0
    · rw [z,Rm.tk_zero]
      obtain ⟨n1,n2⟩ := hn z
      have bn : Rm.Bd 3 n := Rm.Bd.of (by omega) (by omega)
      have b1 : Rm.Bd (40 + 4 * i + 1) (if k < r.rule.length then 0 - Pm.co r.rule k else 0) := by
        split
        · have := Pm.Bd_neg (Pm.Bd_co h.ruleBd k)
          rw [Int.zero_sub]; exact this.mono (by omega)
        · exact Rm.Bd.zero _
      have b2 : Rm.Bd (40 + 4 * i) (if k = 0 then 1 else 0 - Pm.co r.rule (k - 1)) := by
        split
        · exact (Rm.Bd.of (n := 1) (by decide) (by decide)).mono (by omega)
        · have := Pm.Bd_neg (Pm.Bd_co h.ruleBd (k - 1))
          rw [Int.zero_sub]; exact this
      have b3 := Pm.Bd_neg (bn.mul b2)
      have b4 := Rm.Bd.add (n := 3 + (40 + 4 * i)) (b1.mono (by omega)) b3
      have b5 := Pm.Bd_neg b4
      rw [Int.zero_sub,Int.sub_eq_add_neg]
      exact b5.mono (by omega)
    · refine (Rm.tk_pos z _ ▸ Rm.Bd.emod (n := 10) (by omega) (Rm.Bd.of (by omega) (by omega))).mono (by omega)
  · have := longerR_at (b := r.b) (n := n) (r := r) ok.len ok.startsNum rfl m
    rw [← h.same m,← this]; rfl
inductive SpLineTaken_  (K : PySem.W.Frag) (vs : List V) (H : Hp) (Q : VK) (E : XK) : Prop | mk (b : Int) (l : Addr) (p : List Int) (z_0 : vs = [.int b,.ref l]) (z_1 : 0 ≤ b) (z_2 : H l = some (.lst (p.map V.int))) (z_3 : p.length ≤ 1000) (z_4 : Told H Q ((p.map (Rm.tk b)).map V.int))
noncomputable def spLineTaken  (K : PySem.W.Frag) : Sp := fun vs H Q E => SpLineTaken_ K vs H Q E
inductive SpHeadLine_  (vs : List V) (H : Hp) (Q : VK) (E : XK) : Prop | mk (ll : Addr) (xs : List V) (L : List (List Int)) (W r c : Nat) (cI : Int) (ex : List Addr) (z_0 : vs = [.ref ll,.int r,.int cI]) (z_1 : cI = (c : Int)) (z_2 : H ll = some (.lst xs)) (z_3 : Lns H ex xs L) (z_4 : (∀ i,i < L.length → (Dm.ln L i).length = W)) (z_5 : c < W) (z_6 : L.length ≤ 1000) (z_7 : r ≤ L.length) (z_8 : (∀ a : Nat,r ≤ a → a < L.length → Pm.co (Dm.ln L a) c ≠ 0 → Q (.int a) H)) (z_9 : ((∀ i,r ≤ i → i < L.length → Pm.co (Dm.ln L i) c = 0) → Q .non H))
noncomputable def spHeadLine : Sp := fun vs H Q E => SpHeadLine_  vs H Q E
noncomputable def Brt (b : Int) (L L' : List (List Int)) (a r : Nat) : Prop := (a = r ∧ L' = L) ∨ (r < a ∧ L'.length = L.length ∧ Dm.ln L' r = Dm.ln L a ∧ Dm.ln L' a = (Dm.ln L r).map (fun x => Rm.tk b (0 - x)) ∧ ∀ i,i ≠ r → i ≠ a → Dm.ln L' i = Dm.ln L i)
inductive SpBringUp_  (vs : List V) (H : Hp) (Q : VK) (E : XK) : Prop | mk (b : Int) (ll : Addr) (xs : List V) (L : List (List Int)) (a r : Nat) (ex : List Addr) (z_0 : vs = [.int b,.ref ll,.int a,.int r]) (z_1 : 0 ≤ b) (z_2 : H ll = some (.lst xs)) (z_3 : Lns H ex xs L) (z_4 : ll ∈ ex) (z_5 : Stand H ex) (z_6 : r ≤ a) (z_7 : a < L.length) (z_8 : (∀ i,i < L.length → (Dm.ln L i).length ≤ 1000)) (z_9 : ∀ xs' L' H',Keep ll H H' → H' ll = some (.lst xs') → Lns H' ex xs' L' → Brt b L L' a r → Q .non H')
noncomputable def spBringUp : Sp := fun vs H Q E => SpBringUp_  vs H Q E
noncomputable def ToldF (H : Hp) (Q : VK) (b last pv fa : Int) (p r : List Int) : Prop := ∀ t m H',Same H H' → H t = none → H' t = some (.lst (List.map V.int m)) → m.length = p.length → (∀ k,k < p.length → Pm.co m k = Rm.tk b (Pm.co m k) ∧ Rm.tk b (last * Pm.co m k) = Rm.tk b (pv * Pm.co p k - fa * Pm.co r k)) → Q (.ref t) H'
inductive SpFreed_  (vs : List V) (H : Hp) (Q : VK) (E : XK) : Prop | mk (b last : Int) (l1 l2 : Addr) (p r : List Int) (c : Nat) (cI : Int) (z_0 : vs = [.int b,.ref l1,.ref l2,.int cI,.int last]) (z_1 : cI = (c : Int)) (z_2 : ByP b) (z_3 : H l1 = some (.lst (p.map V.int))) (z_4 : H l2 = some (.lst (r.map V.int))) (z_5 : p.length = r.length) (z_6 : c < p.length) (z_7 : p.length ≤ 1000) (z_8 : last ≠ 0) (z_9 : last = Rm.tk b last) (z_10 : Rm.Bd 8000 last) (z_11 : (∀ x ∈ p,Rm.Bd 1000000 x)) (z_12 : (∀ x ∈ r,Rm.Bd 1000000 x)) (z_13 : (b = 0 → ∀ k,k < p.length → ∃ e,Pm.co r c * Pm.co p k - Pm.co p c * Pm.co r k = last * e)) (z_14 : ToldF H Q b last (Pm.co r c) (Pm.co p c) p r)
noncomputable def spFreed : Sp := fun vs H Q E => SpFreed_  vs H Q E
theorem log2_bd {x : Int} {n : Nat} (h0 : x ≠ 0) (h : Rm.Bd n x) : x.natAbs.log2 < n := (Nat.log2_lt (by omega)).mpr h
noncomputable def Cap (b : Int) (n W u : Nat) (A0 : Nat → Nat → Int) : Prop := ∀ c A hd r L last,c ≤ W → Dm.ClI b n W u A0 c A hd r L last → Rm.Bd 8000 last ∧ ∀ i,i < n → ∀ x ∈ Dm.ln L i,Rm.Bd 8000 x
theorem cap_of {b : Int} (hB : ByP b) {n W u l : Nat} {A0 : Nat → Nat → Int} (h : ∀ c A hd r L last,c ≤ W → Dm.ClI b n W u A0 c A hd r L last → r ≤ l) (hu : (l + 1) * (u + (l + 1)) + 1 ≤ 8000) : Cap b n W u A0 := fun c A hd r L last hcw I => by
  obtain ⟨hb0,hb1,_⟩ := hB.range
  have hr := h c A hd r L last hcw I
  have bb : Rm.Bd 8000 b := (Rm.Bd.of (n := 10) (by omega) (by omega)).mono (by decide)
  have z1 : r * (u + r) ≤ (l + 1) * (u + (l + 1)) := Nat.mul_le_mul (by omega) (by omega)
  have z2 : (r + 1) * (u + (r + 1)) ≤ (l + 1) * (u + (l + 1)) := Nat.mul_le_mul (by omega) (by omega)
  refine ⟨?_,fun i hi x hx => ?_⟩
  · rw [I.la]
    exact Rm.tk_bd hb0 bb ((Dm.Bd_det (u := u) fun i' k' _ _ => I.bdd _ _).mono (by omega))
  · obtain ⟨k,hk,e⟩ := List.mem_iff_getElem.mp hx
    rw [← e,← Pm.co_lt hk,I.en i k hi (by rw [← I.wd i hi]; exact hk)]
    exact Rm.tk_bd hb0 bb ((I.bdE i k).mono (by omega))
inductive SpClear_  (vs : List V) (H : Hp) (Q : VK) (E : XK) : Prop | mk (b : Int) (wide : Nat) (ll : Addr) (xs : List V) (L : List (List Int)) (W u : Nat) (ex : List Addr) (z_0 : vs = [.int b,.int wide,.ref ll]) (z_1 : ByP b) (z_2 : H ll = some (.lst xs)) (z_3 : Lns H ex xs L) (z_4 : ll ∈ ex) (z_5 : Stand H ex) (z_6 : wide ≤ W) (z_7 : W ≤ 100) (z_8 : L.length ≤ 30) (z_9 : Cap b L.length W u (fun i k => Pm.co (Dm.ln L i) k)) (z_10 : (∀ i,i < L.length → (Dm.ln L i).length = W)) (z_11 : (∀ i k,Rm.tk b (Pm.co (Dm.ln L i) k) = Pm.co (Dm.ln L i) k)) (z_12 : (∀ i k,Rm.Bd u (Pm.co (Dm.ln L i) k))) (z_13 : ∀ t th A hd r L' last xs' H',Keep ll H H' → H' t = some (.tup [.ref th,.int last]) → H' th = some (.lst ((Pm.ofF r fun h => ((hd h : Nat) : Int)).map V.int)) → H' ll = some (.lst xs') → Lns H' ex xs' L' → Dm.ClI b L.length W u (fun i k => Pm.co (Dm.ln L i) k) wide A hd r L' last → Q (.ref t) H')
noncomputable def spClear : Sp := fun vs H Q E => SpClear_  vs H Q E
theorem comp_lists {J : It} {xs : List V} {ix : List (Option Nat)} {te : TE} {σ : St} {H1 : Hp} {Q : VK} (I : ItS J xs H1) (hz : xs.length ≤ 1000) {rest : St} (hst : cst ix σ = none :: rest) (G : V → List Int)
    (he : ∀ (H' : Hp) (x : V),Same H1 H' → x ∈ xs → ∀ k : VK,(∀ t' H2,Same H' H2 → H' t' = none → H2 t' = some (.lst ((G x).map V.int)) → k (.ref t') H2) → te (some x :: rest) H' k)
    (hQ : ∀ D ys H',H1 D = none → Same H1 H' → H' D = some (.lst ys) → Lns H' [D] ys (xs.map G) → Q (.ref D) H') :
    CompK ix (gName 0) tYes te σ Q J H1 := by
  constructor
  intro D hD
  refine ⟨fun i m σ' H' => m = xs.length - i ∧ i ≤ xs.length ∧ (∃ o,σ' = o :: rest) ∧ Same H1 H' ∧ ∃ ys,H' D = some (.lst ys) ∧ Lns H' [D] ys ((xs.take i).map G),⟨xs.length,by simp,Nat.zero_le _,⟨none,hst⟩,Same.new hD _,[],upd_same,.nil⟩,?_⟩
  rintro i m σ' H' ⟨rfl,hi,⟨o,rfl⟩,g,ys,hl,hy⟩
  by_cases hlt : i < xs.length
  · refine .inr ⟨I.go i _ g hlt,fun x H2 y => ?_⟩
    obtain ⟨rfl,hx⟩ := I.yld i _ x H2 g y
    have hx := hx hlt
    have hm : x ∈ xs := List.mem_of_getElem? hx
    have et : xs.take (i + 1) = xs.take i ++ [x] := by rw [List.take_add_one,hx]; rfl
    change te (some x :: rest) H2 _
    refine he H2 x g hm _ fun t' H3 g3 hn h3 => ⟨ys,g3 _ _ hl,?_,xs.length - (i + 1),by omega,rfl,hlt,⟨_,rfl⟩,Same.upd (g.trans g3) hD _,ys ++ [.ref t'],upd_same,?_⟩
    · have := hy.len
      rw [List.length_map,List.length_take] at this
      have := small1000 hz
      omega
    · have tD : t' ∉ [D] := fun z => by
        rw [List.mem_singleton.mp z,hl] at hn; cases hn
      rw [et,List.map_append]
      exact (Lns.append tD h3 (hy.same g3)).keep (List.mem_singleton.mpr rfl) (Keep.upd D H3 _)
  · have e : i = xs.length := by omega
    subst e
    rw [List.take_length] at hy
    exact .inl ⟨I.stop _ _ g (Nat.le_refl _),hQ D ys H' hD g hl hy⟩
theorem ln_mem {T : List (List Int)} {i : Nat} (h : i < T.length) : Dm.ln T i ∈ T := by
  unfold Dm.ln
  rw [List.getD_eq_getElem?_getD,List.getElem?_eq_getElem h]; exact List.getElem_mem h
noncomputable def onInt (f : Nat → List Int) : V → List Int
  | .int k => f k.toNat
  | _ => []
theorem comp_lnsV {K : PySem.W.Frag} {a : Addr} {xs : List V} {ps : List (List Int)} {ex : List Addr} {ix : List (Option Nat)} {te : TE} {σ : St} {H1 : Hp} {Q : VK} (hA : H1 a = some (.lst xs)) (hp : Lns H1 ex xs ps) (hz : xs.length ≤ 1000) {rest : St} (hst : cst ix σ = none :: rest) (G : List Int → V)
    (he : ∀ (H' : Hp) (t : Addr) (p : List Int),Same H1 H' → p ∈ ps → H' t = some (.lst (p.map V.int)) → ∀ k : VK,(∀ H2,Same H' H2 → k (G p) H2) → te (some (.ref t) :: rest) H' k)
    (hQ : ∀ D H',H1 D = none → Same H1 H' → H' D = some (.lst (ps.map G)) → Q (.ref D) H') :
    CompK ix (gName 0) tYes te σ Q (Itl K a) H1 := by
  have I := its_list (K := K) (SqL.of hA)
  have lx := hp.len
  constructor
  intro D hD
  refine ⟨fun i m σ' H' => m = xs.length - i ∧ i ≤ xs.length ∧ (∃ o,σ' = o :: rest) ∧ Same H1 H' ∧ H' D = some (.lst ((ps.take i).map G)),⟨xs.length,by simp,Nat.zero_le _,⟨none,hst⟩,Same.new hD _,upd_same⟩,?_⟩
  rintro i m σ' H' ⟨rfl,hi,⟨o,rfl⟩,g,hl⟩
  by_cases hlt : i < xs.length
  · refine .inr ⟨I.go i _ g hlt,fun x H2 y => ?_⟩
    obtain ⟨rfl,hx⟩ := I.yld i _ x H2 g y
    have hx := hx hlt
    obtain ⟨t,e1,_,e2⟩ := hp.get (show i < ps.length by omega)
    rw [e1] at hx
    cases hx
    have hpi : ps[i]? = some (Dm.ln ps i) := by
      unfold Dm.ln
      rw [List.getD_eq_getElem?_getD,List.getElem?_eq_getElem (by omega)]; rfl
    have et : ps.take (i + 1) = ps.take i ++ [Dm.ln ps i] := by rw [List.take_add_one,hpi]; rfl
    change te (some (.ref t) :: rest) H2 _
    refine he H2 t (Dm.ln ps i) g (List.mem_of_getElem? hpi) (g _ _ e2) _ fun H3 g3 => ⟨_,g3 _ _ hl,?_,xs.length - (i + 1),by omega,rfl,hlt,⟨_,rfl⟩,Same.upd (g.trans g3) hD _,?_⟩
    · rw [List.length_map,List.length_take]
      have := small1000 hz
      omega
    · rw [upd_same,et,List.map_append]; rfl
  · have e : i = xs.length := by omega
    subst e
    rw [lx,List.take_length] at hl
    exact .inl ⟨I.stop _ _ g (Nat.le_refl _),hQ D H' hD g hl⟩
theorem abs_nat (x : Int) : (if x < 0 then -x else x) = (x.natAbs : Int) := by split <;> omega
inductive SpCd_  (vs : List V) (H : Hp) (Q : VK) (E : XK) : Prop | mk (x y : Int) (z_0 : vs = [.int x,.int y]) (z_1 : Q (.int (Nat.gcd x.natAbs y.natAbs : Nat)) H)
noncomputable def spCd : Sp := fun vs H Q E => SpCd_  vs H Q E
theorem low_log {bt : Int} {ts : List Int} (h0 : bt ≠ 0) (h : Rm.Bd 8000 bt) : (Lm.low bt ts).natAbs.log2 < 9000 := by
  have n0 := Lm.low_ne h0 ts
  refine Nat.lt_trans ((Nat.log2_lt (n := (Lm.low bt ts).natAbs) (k := 8000) (by omega)).mpr ?_) (by decide)
  refine Nat.lt_of_le_of_lt ?_ h
  have d : (Lm.low bt ts).natAbs ∣ bt.natAbs := Int.natAbs_dvd_natAbs.mpr (Lm.low_dvd bt ts)
  exact Nat.le_of_dvd (by omega) d
inductive SpLowest_  (vs : List V) (H : Hp) (Q : VK) (E : XK) : Prop | mk (b bt : Int) (l : Addr) (ts : List Int) (z_0 : vs = [.int b,.int bt,.ref l]) (z_1 : ByP b) (z_2 : bt ≠ 0) (z_3 : Rm.tk b bt = bt) (z_4 : H l = some (.lst (ts.map V.int))) (z_5 : ts.length ≤ 100) (z_6 : Rm.Bd 8000 bt) (z_7 : ∀ t lt bot us H',Same H H' → H' t = some (.tup [.int bot,.ref lt]) → H' lt = some (.lst (List.map V.int us)) → H lt = none → Dm.Low b bt ts bot us → Q (.ref t) H')
noncomputable def spLowest : Sp := fun vs H Q E => SpLowest_  vs H Q E
theorem Lns.drop {H : Hp} {ex : List Addr} : ∀ {xs : List V} {ps : List (List Int)} (r : Nat),Lns H ex xs ps → Lns H ex (xs.drop r) (ps.drop r)
  | _,_,0,h => h
  | _,_,_ + 1,.nil => .nil
  | _,_,r + 1,.cons _ _ h => Lns.drop r h
theorem ln_drop {L : List (List Int)} {r : Nat} {p : List Int} (h : p ∈ L.drop r) : ∃ i,r ≤ i ∧ i < L.length ∧ p = Dm.ln L i := by
  obtain ⟨j,hj,e⟩ := List.mem_iff_getElem.mp h
  rw [List.length_drop] at hj
  refine ⟨r + j,by omega,by omega,?_⟩
  unfold Dm.ln
  rw [List.getD_eq_getElem?_getD,List.getElem?_eq_getElem (by omega),← e,List.getElem_drop]; rfl
theorem ln_in_drop {L : List (List Int)} {r i : Nat} (h1 : r ≤ i) (h2 : i < L.length) : Dm.ln L i ∈ L.drop r := by
  refine List.mem_iff_getElem.mpr ⟨i - r,by rw [List.length_drop]; omega,?_⟩
  unfold Dm.ln
  rw [List.getElem_drop,List.getD_eq_getElem?_getD,List.getElem?_eq_getElem h2]
  simp only [Option.getD_some]
  congr 1
  omega
theorem range_aug (b : Int) (L : List (List Int)) (ws : List Int) : (((List.range L.length).map fun i => V.int (0 + (i : Nat))).map (onInt fun i => (Dm.ln L i ++ [Pm.co ws i]).map (Rm.tk b))) = Dm.augL b L ws := by
  rw [Dm.augL,List.map_map]
  refine List.map_congr_left fun i _ => ?_
  show (Dm.ln L (0 + (i : Int)).toNat ++ _).map _ = _
  rw [show (0 + (i : Int)).toNat = i by omega]
noncomputable def CapU (b : Int) (n W u : Nat) (A : Nat → Nat → Int) : Prop := 10 ≤ u ∧ Cap b n W u A
theorem filter_first {p : Nat → Bool} {w c : Nat} {rest : List Nat} (h : (List.range w).filter p = c :: rest) : ∀ k,k < c → p k = false := fun k hk => by
  have hs : ((List.range w).filter p).Pairwise (· < ·) := List.Pairwise.filter _ List.pairwise_lt_range
  have mc : c ∈ (List.range w).filter p := by rw [h]; exact List.mem_cons_self ..
  have hc := List.mem_range.mp (List.mem_filter.mp mc).1
  cases e : p k with
  | false => rfl
  | true =>
    have mk : k ∈ (List.range w).filter p := List.mem_filter.mpr ⟨List.mem_range.mpr (by omega),e⟩
    rw [h] at mk hs
    rcases List.mem_cons.mp mk with z | z
    · omega
    · have := (List.pairwise_cons.mp hs).1 k z
      omega
inductive SpFree_  (vs : List V) (H : Hp) (Q : VK) (E : XK) : Prop | mk (u : Nat) (b : Int) (wide r n : Nat) (last : Int) (ll lh : Addr) (xs : List V) (L : List (List Int)) (hd : Nat → Nat) (A0 A : Nat → Nat → Int) (ex : List Addr) (z_0 : vs = [.int b,.int wide,.ref ll,.ref lh,.int last]) (z_1 : ByP b) (z_2 : H ll = some (.lst xs)) (z_3 : Lns H ex xs L) (z_4 : H lh = some (.lst ((Pm.ofF r fun h => ((hd h : Nat) : Int)).map V.int))) (z_5 : Dm.ClI b n (wide + 1) u A0 wide A hd r L last) (z_6 : wide ≤ 60) (z_7 : CapU b n (wide + 1) u A0) (z_8 : n ≤ 30) (z_9 : r ≠ wide) (z_10 : ∀ lt fs H',Same H H' → H' lt = some (.lst (List.map V.int fs)) → H lt = none → Dm.FreeBy u b n wide A0 fs → Q (.ref lt) H')
noncomputable def spFree : Sp := fun vs H Q E => SpFree_  vs H Q E
inductive SpSolution_  (vs : List V) (H : Hp) (Q : VK) (E : XK) : Prop | mk (u : Nat) (b : Int) (wide : Nat) (ta tw : Addr) (xs : List V) (L : List (List Int)) (ws : List Int) (ex : List Addr) (z_0 : vs = [.int b,.int wide,.ref ta,.ref tw]) (z_1 : ByP b) (z_2 : H ta = some (.lst xs)) (z_3 : Lns H ex xs L) (z_4 : H tw = some (.lst (ws.map V.int))) (z_5 : ws.length = L.length) (z_6 : L.length ≤ 30) (z_7 : wide ≤ 60) (z_8 : CapU b L.length (wide + 1) u (Dm.aug b L ws)) (z_9 : (∀ i,i < L.length → (Dm.ln L i).length = wide)) (z_10 : (∀ p ∈ L,∀ x ∈ p,Rm.Bd u x)) (z_11 : (∀ x ∈ ws,Rm.Bd u x)) (z_12 : ((∀ x bt,Rm.tk b bt ≠ 0 → ¬ Dm.Sums b L.length wide (Dm.aug b L ws) x bt) → (∃ y : Nat → Int,(∀ k,k < wide → Rm.tk b (Pm.sm L.length fun j => y j * Dm.aug b L ws j k) = 0) ∧ Rm.tk b (Pm.sm L.length fun j => y j * Dm.aug b L ws j wide) ≠ 0) → ∀ H',Same H H' → Q .non H')) (z_13 : (∀ bot us,Dm.SolvedBy u b L.length wide (Dm.aug b L ws) bot us → Dm.Ind b L.length wide (Dm.aug b L ws) → ∀ t lt H',Same H H' → H' t = some (.tup [.str ("one" : Str),.int bot,.ref lt]) → H' lt = some (.lst (List.map V.int us)) → H lt = none → Q (.ref t) H')) (z_14 : (∀ bot us fs,Dm.SolvedBy u b L.length wide (Dm.aug b L ws) bot us → Dm.FreeBy u b L.length wide (Dm.aug b L ws) fs → ∀ t lt lf H',Same H H' → H' t = some (.tup [.str ("many" : Str),.int bot,.ref lt,.ref lf]) → H' lt = some (.lst (List.map V.int us)) → H' lf = some (.lst (List.map V.int fs)) → H lt = none → H lf = none → lt ≠ lf → Q (.ref t) H'))
noncomputable def spSolution : Sp := fun vs H Q E => SpSolution_  vs H Q E
inductive SpLinesOf_  (vs : List V) (H : Hp) (Q : VK) (E : XK) : Prop | mk (ka : Addr) (kn : List Int) (size : Nat) (z_0 : vs = [.ref ka,.int size]) (z_1 : H ka = some (.lst (kn.map V.int))) (z_2 : size ≤ kn.length) (z_3 : kn.length ≤ 30) (z_4 : ∀ D ys H',H D = none → Same H H' → H' D = some (.lst ys) → Lns H' [D] ys (Dm.fitL kn size) → Q (.ref D) H')
noncomputable def spLinesOf : Sp := fun vs H Q E => SpLinesOf_  vs H Q E
inductive FitF (u : Nat) (b : Int) (kn : List Int) (s : Nat) (H0 H : Hp) : V → Prop
  | one {bot : Int} {us : List Int} {t lt : Addr} : Dm.SolvedBy u b (kn.length - s) s (Dm.fitA b kn s) bot us → Dm.Ind b (kn.length - s) s (Dm.fitA b kn s) → H t = some (.tup [.str ("one" : Str),.int bot,.ref lt]) → H lt = some (.lst (List.map V.int us)) → H0 lt = none → FitF u b kn s H0 H (.ref t)
  | many {bot : Int} {us fs : List Int} {t lt lf : Addr} : Dm.SolvedBy u b (kn.length - s) s (Dm.fitA b kn s) bot us → Dm.FreeBy u b (kn.length - s) s (Dm.fitA b kn s) fs → H t = some (.tup [.str ("many" : Str),.int bot,.ref lt,.ref lf]) → H lt = some (.lst (List.map V.int us)) → H lf = some (.lst (List.map V.int fs)) → H0 lt = none → H0 lf = none → FitF u b kn s H0 H (.ref t)
theorem FitF.up {u : Nat} {b : Int} {kn : List Int} {s : Nat} {H0 H0' H H' : Hp} {v : V} (g0 : Same H0' H0) (g : Same H H') (h : FitF u b kn s H0 H v) : FitF u b kn s H0' H' v := by
  cases h with
  | one a i b c d => exact .one a i (g _ _ b) (g _ _ c) (g0.free d)
  | many a f b c d e e' => exact .many a f (g _ _ b) (g _ _ c) (g _ _ d) (g0.free e) (g0.free e')
theorem FitF.fits {u : Nat} {b : Int} (hB : ByP b) {kn : List Int} {s : Nat} {H0 H : Hp} {v : V} (h : FitF u b kn s H0 H v) : ∃ x bt,Rm.tk b bt ≠ 0 ∧ Dm.FB b (Pm.co kn) kn.length s x bt := by
  have h1 : Rm.tk b 1 ≠ 0 := by rw [hB.one]; decide
  cases h with
  | one a _ _ _ _ => exact ⟨_,_,(a.ok hB).bot h1,Dm.fb_sums.mp (a.ok hB).sums⟩
  | many a _ _ _ _ _ _ => exact ⟨_,_,(a.ok hB).bot h1,Dm.fb_sums.mp (a.ok hB).sums⟩
inductive SpFitU_  (vs : List V) (H : Hp) (Q : VK) (E : XK) : Prop | mk (u : Nat) (b : Int) (ka : Addr) (kn : List Int) (size : Nat) (z_0 : vs = [.int b,.ref ka,.int size]) (z_1 : ByP b) (z_2 : H ka = some (.lst (kn.map V.int))) (z_3 : size ≤ kn.length) (z_4 : kn.length ≤ 24) (z_5 : (∀ s,s ≤ kn.length → CapU b (kn.length - s) (s + 1) u (Dm.fitA b kn s))) (z_6 : (∀ x ∈ kn,Rm.Bd u x)) (z_7 : ((∀ x bt,Rm.tk b bt ≠ 0 → ¬ Dm.FB b (Pm.co kn) kn.length size x bt) → ∀ H',Same H H' → Q .non H')) (z_8 : (∀ v H',Same H H' → FitF u b kn size H H' v → Q v H'))
noncomputable def spFitU : Sp := fun vs H Q E => SpFitU_  vs H Q E
inductive SpFittedU_  (vs : List V) (H : Hp) (Q : VK) (E : XK) : Prop | mk (u : Nat) (b : Int) (ka : Addr) (kn : List Int) (m : Nat) (z_0 : vs = [.int b,.ref ka]) (z_1 : ByP b) (z_2 : H ka = some (.lst (kn.map V.int))) (z_3 : kn.length ≤ 24) (z_4 : (∀ s,s ≤ kn.length → CapU b (kn.length - s) (s + 1) u (Dm.fitA b kn s))) (z_5 : (∀ x ∈ kn,Rm.Bd u x)) (z_6 : m ≤ kn.length) (z_7 : (∃ x bt,Rm.tk b bt ≠ 0 ∧ Dm.FB b (Pm.co kn) kn.length m x bt)) (z_8 : (∀ t,t < m → ∀ x bt,Rm.tk b bt ≠ 0 → ¬ Dm.FB b (Pm.co kn) kn.length t x bt)) (z_9 : ∀ v H',Same H H' → FitF u b kn m H H' v → Q v H')
noncomputable def spFittedU : Sp := fun vs H Q E => SpFittedU_  vs H Q E
theorem shaped_one {s : Str} (hs : PyData.strOk s = true) (n : Int) (p : List Int) : SeqAt.shaped (.tuple [.str s,.int n,.list (p.map .int)]) = true := by
  have h1 := canLay_ints p
  have h3 := depth_ints p
  simp only [SeqAt.shaped,PyData.canLay0,PyData.canLayAll0,PyData.depth,PyData.depthAll,h1,hs,Bool.true_and,Bool.and_true]
  exact decide_eq_true (by omega)
theorem eqv_one (s : Str) (n : Int) (p : List Int) : PyData.eqv (.tuple [.str s,.int n,.list (p.map .int)]) (.tuple [.str s,.int n,.list (p.map .int)]) = true := by
  rw [PyData.eqv]
  simp only [PyData.eqvAll,eqv_list,decide_true,Bool.and_true]
  simp [PyData.eqv]
theorem eqOne {K : PySem.W.Frag} {g : Bool → Bool} {H : Hp} {a c x y : Addr} {s : Str} (hs : PyData.strOk s = true) {n : Int} {p : List Int} {Q : VK} (ha : H a = some (.tup [.str s,.int n,.ref x])) (hx : H x = some (.lst (p.map V.int)))
    (hb : H c = some (.tup [.str s,.int n,.ref y])) (hy : H y = some (.lst (p.map V.int))) (q : Q (.bl (g true)) H) : rEqV K g (.ref a) (.ref c) H Q :=
  .inl ⟨_,_,.tup (SqT.of ha) (.cons (.str s) (.cons (.int n) (.cons (.lst (SqL.of hx) (RdDs.ints p)) .nil))),.tup (SqT.of hb) (.cons (.str s) (.cons (.int n) (.cons (.lst (SqL.of hy) (RdDs.ints p)) .nil))),
    shaped_one hs n p,shaped_one hs n p,by rw [eqv_one]; exact q⟩
structure Dr (b : Int) (r : Rw) : Prop where
  by_ : r.b = b
  ok : RwOk r
  ruleBd : ∀ x ∈ r.rule,Rm.Bd 1000 x
  sh : r.rule.length ≤ 12
  sm : ∃ d ua : Nat,(∃ Q0,Pm.Mon Q0 ∧ Pm.Kp b Q0 r.at ∧ Q0.length ≤ d + 1) ∧ (∀ n,n ≤ 23 ∨ n ≤ 2 * d → Rm.Bd ua (r.at n)) ∧ 10 ≤ ua ∧ (d + 1) * (ua + (d + 1)) + 1 ≤ 8000
theorem Dr.tame {b : Int} {r : Rw} (h : Dr b r) : Tame r := fun hz => by
  obtain ⟨d,ua,⟨Q0,hM,hK,hl⟩,hua,_,hs⟩ := h.sm
  have z : d * (ua + d) ≤ (d + 1) * (ua + (d + 1)) := Nat.mul_le_mul (by omega) (by omega)
  refine ⟨d,ua,1000,by decide,h.ruleBd,⟨Q0,hM,?_,hl⟩,fun n hn => hua n (.inr hn),by omega⟩
  rw [← h.by_,hz] at hK; exact hK
theorem Dr.least_bd {b : Int} (hB : ByP b) {r : Rw} (h : Dr b r) {L : List Int} (lst : LeastOf r.b r.at L) (k : Nat) : Rm.Bd 8000 (Pm.co L k) := by
  obtain ⟨hb0,hb1,_⟩ := hB.range
  have e := h.by_
  rw [e] at lst
  by_cases z : b = 0
  · obtain ⟨d,ua,⟨Q0,hM,hK,hl⟩,hua,_,hs⟩ := h.sm
    have hl2 := (lst.all Q0 hK).len hB.one lst.mon hM
    have hne := Dm.hank_ne hB.dom (by rw [hB.one]; decide) lst.mon lst.nu lst.kp lst.all
    have hk := lst.kp
    rw [z] at hne hk
    rw [Rm.tk_zero] at hne
    have q := Pm.least_bd lst.mon hk hne (u := ua) (fun n hn => hua n (.inr (by omega))) k
    have z1 : (L.length - 1) * (ua + (L.length - 1)) ≤ (d + 1) * (ua + (d + 1)) := Nat.mul_le_mul (by omega) (by omega)
    exact q.mono (by omega)
  · have := lst.nu k
    rw [← this]
    exact (Rm.tk_pos z _ ▸ Rm.Bd.emod (n := 10) (by omega) (Rm.Bd.of (by omega) (by omega))).mono (by decide)
theorem shortR_len {r : Rw} {L : List Int} (hl : L.length ≤ r.rule.length + 1) (ok : RwOk r) : (shortR r L).rule.length = L.length - 1 ∧ (shortR r L).starts.length = L.length - 1 := by
  have := ok.len
  refine ⟨Pm.ruleOf_len ..,?_⟩
  show (r.starts.take (L.length - 1)).length = _
  rw [List.length_take]; omega
theorem shortR_num {r : Rw} (hb : 0 ≤ r.b) {L : List Int} : ∀ x ∈ (shortR r L).rule,IsNum r.b x := fun x hx => by
  obtain ⟨k,_,rfl⟩ := Pm.mem_ofF (show x ∈ Pm.ofF _ _ from hx)
  by_cases z : r.b = 0
  · exact .inl z
  · rw [Rm.tk_pos z]; exact .inr ⟨emod_lo _ (by omega),emod_hi _ (by omega)⟩
theorem Dr.shortOk {b : Int} (hB : ByP b) {r : Rw} (h : Dr b r) {L : List Int} (lst : LeastOf r.b r.at L) (ll : L.length ≤ r.rule.length + 1) : RwOk (shortR r L) ∧ Tame (shortR r L) := by
  obtain ⟨hb0,hb1,_⟩ := hB.range
  have e := h.by_
  have ok := h.ok
  have hs := ok.short
  have hl := ok.len
  have hp := lst.mon.pos
  obtain ⟨l1,l2⟩ := shortR_len ll ok
  have bd : ∀ x ∈ (shortR r L).rule,Rm.Bd 8000 x := fun x hx => by
    obtain ⟨k,_,rfl⟩ := Pm.mem_ofF (show x ∈ Pm.ofF _ _ from hx)
    refine Rm.tk_bd (by omega) ((Rm.Bd.of (n := 10) (by omega) (by omega)).mono (by decide)) ?_
    rw [Int.zero_sub]; exact Pm.Bd_neg (h.least_bd hB lst _)
  refine ⟨⟨by omega,by omega,ok.by0,ok.by1,shortR_num ok.by0,fun x hx => ok.startsNum x (List.mem_of_mem_take hx),fun x hx => (bd x hx).mono (by decide),fun x hx => ok.startsBd x (List.mem_of_mem_take hx)⟩,fun hz => ?_⟩
  obtain ⟨d,ua,⟨Q0,hM,hK,hl0⟩,hua,_,hsz⟩ := h.sm
  have ea : (shortR r L).at = r.at := funext fun n => shortR_at ok.at_tk lst (by omega) n
  have z : d * (ua + d) ≤ (d + 1) * (ua + (d + 1)) := Nat.mul_le_mul (by omega) (by omega)
  refine ⟨d,ua,8000,by decide,bd,⟨Q0,hM,?_,hl0⟩,fun n hn => by rw [ea]; exact hua n (.inr hn),by omega⟩
  have hz' : r.b = 0 := hz
  rw [ea]; rw [← e,hz'] at hK; exact hK
theorem RwL.at_bd23 {b : Int} {r : Rw} (hB : ByP b) (h : RwL b 6 r) {n : Nat} (hn : n ≤ 23) : Rm.Bd 1098 (r.at n) := by
  obtain ⟨hb0,hb1,_⟩ := hB.range
  have e := h.by_
  have q := Rm.at_bd (b := r.b) (rule := r.rule) (starts := r.starts) (a := 40) (c := 40) h.len (by omega) ((Rm.Bd.of (n := 10) (by omega) (by omega)).mono (by decide)) h.ruleBd h.startsBd n
  refine q.mono ?_
  have h1 := h.short
  have h2 : n * (40 + r.rule.length) ≤ 23 * 46 := Nat.mul_le_mul hn (by omega)
  omega
theorem LgR.dr {b : Int} (hB : ByP b) {r0 r : Rw} {i : Nat} (h0 : RwL b 6 r0) (h : LgR b r0 i r) (hi : i ≤ 4) : Dr b r := by
  have hs := h0.short
  have hk := (h0.oks hB).kp
  rw [h0.by_] at hk
  have ea : r.at = r0.at := funext h.same
  exact ⟨h.by_,h.ok hB h0 (by omega),fun x hx => (h.ruleBd x hx).mono (by omega),by have := h.len; omega,6,1098,⟨Pm.ofRule b r0.rule,Pm.ofRule_mon _ _,by rw [ea]; exact hk,by rw [Pm.ofRule_len]; omega⟩,fun n hn => by rw [ea]; exact h0.at_bd23 hB (by omega),by decide,by decide⟩
theorem small_dr {b : Int} (hB : ByP b) {rule starts : List Int} (hl : rule.length = starts.length) (h12 : rule.length ≤ 12) (hr : ∀ x ∈ rule,IsNum b x ∧ Rm.Bd 10 x) (hs : ∀ x ∈ starts,IsNum b x ∧ Rm.Bd 10 x) : Dr b ⟨b,rule,starts⟩ := by
  obtain ⟨hb0,hb1,_⟩ := hB.range
  have ok : RwOk ⟨b,rule,starts⟩ := ⟨hl,by show rule.length ≤ 24; omega,hb0,hb1,fun x hx => (hr x hx).1,fun x hx => (hs x hx).1,fun x hx => (hr x hx).2.mono (by decide),fun x hx => (hs x hx).2.mono (by decide)⟩
  refine ⟨rfl,ok,fun x hx => (hr x hx).2.mono (by decide),h12,12,538,⟨Pm.ofRule b rule,Pm.ofRule_mon _ _,ok.kp,by rw [Pm.ofRule_len]; omega⟩,fun n hn => ?_,by decide,by decide⟩
  have q := Rm.at_bd (b := b) (rule := rule) (starts := starts) (a := 10) (c := 10) hl hb0 (Rm.Bd.of (by omega) (by omega)) (fun x hx => (hr x hx).2) (fun x hx => (hs x hx).2) n
  refine q.mono ?_
  have h2 : n * (10 + rule.length) ≤ 24 * 22 := Nat.mul_le_mul (by omega) (by omega)
  omega
theorem small_num {b : Int} (hB : ByP b) (x : Int) : IsNum b (Rm.tk b (x % 7 - 3)) ∧ Rm.Bd 10 (Rm.tk b (x % 7 - 3)) := by
  obtain ⟨hb0,hb1,_⟩ := hB.range
  have a := emod_lo x (show (0 : Int) < 7 by decide)
  have a' := emod_hi x (show (0 : Int) < 7 by decide)
  by_cases z : b = 0
  · rw [z,Rm.tk_zero]; exact ⟨.inl rfl,Rm.Bd.of (by omega) (by omega)⟩
  · rw [Rm.tk_pos z]
    have l := emod_lo (x % 7 - 3) (show 0 < b by omega)
    have u := emod_hi (x % 7 - 3) (show 0 < b by omega)
    exact ⟨.inr ⟨l,u⟩,Rm.Bd.of (by omega) (by omega)⟩
theorem row_co (r : Rw) {N n : Nat} (h : n < N) : Pm.co (r.row N) n = r.at n := Rm.row_get _ _ _ h
theorem row_memN {r : Rw} {N : Nat} {x : Int} (h : x ∈ r.row N) : ∃ n,n < N ∧ x = r.at n := by
  obtain ⟨n,hn,e⟩ := List.mem_iff_getElem.mp h
  have l : (r.row N).length = N := Rw.row_len ..
  refine ⟨n,by omega,?_⟩
  rw [← row_co r (show n < N by omega),← e]
  unfold Pm.co
  rw [List.getD_eq_getElem?_getD,List.getElem?_eq_getElem hn]; rfl
theorem Dr.fitcap {b : Int} (hB : ByP b) {r : Rw} (h : Dr b r) {N : Nat} (hN : N ≤ 24) : ∃ ua : Nat,(∀ s,s ≤ (r.row N).length → CapU b ((r.row N).length - s) (s + 1) ua (Dm.fitA b (r.row N) s)) ∧ ∀ x ∈ r.row N,Rm.Bd ua x := by
  obtain ⟨d,ua,⟨Q0,hM,hK,hl⟩,hua,h10,hs⟩ := h.sm
  have l : (r.row N).length = N := Rw.row_len ..
  refine ⟨ua,fun s _ => ⟨h10,cap_of hB (l := d) (fun c A hd r' L last hc I => ?_) hs⟩,fun x hx => ?_⟩
  · have := Dm.fit_rank hB.dom (by rw [hB.one]; decide) (kn := r.row N) (a := r.at) (fun n hn => row_co r (by omega)) hM hK hc I
    omega
  · obtain ⟨n,hn,rfl⟩ := row_memN hx
    exact hua n (.inl (by omega))
structure Kn (b : Int) (r : Rw) (m : Nat) (rule : List Int) : Prop where
  len : rule.length = m
  tk : ∀ x ∈ rule,Rm.tk b x = x
  ind : Dm.Ind b m m (Dm.hk r.at)
  rc : ∀ n,m ≤ n → Rm.tk b (r.at n) = Rm.tk b (Pm.sm m fun k => Pm.co rule k * r.at (n - 1 - k))
theorem Kn.fits {b : Int} {r : Rw} {m : Nat} {rule : List Int} (h : Kn b r m rule) (N : Nat) : Dm.FB b (Pm.co (r.row N)) (r.row N).length m (Pm.co rule) 1 := fun n h1 h2 => by
  have l : (r.row N).length = N := Rw.row_len ..
  rw [l] at h2
  rw [Int.one_mul,row_co r h2,h.rc n h1]
  exact Pm.tk_sm fun k hk => by rw [row_co r (by omega)]
theorem least_one {P : Nat → Prop} : ∀ {m : Nat},P m → ∃ k,k ≤ m ∧ P k ∧ ∀ t,t < k → ¬ P t := fun {m} => by
  induction m using Nat.strongRecOn with
  | ind m ih =>
    intro h
    by_cases c : ∃ t,t < m ∧ P t
    · obtain ⟨t,ht,hp⟩ := c
      obtain ⟨k,h1,h2,h3⟩ := ih t ht hp
      exact ⟨k,by omega,h2,h3⟩
    · exact ⟨m,Nat.le_refl _,h,fun t ht hp => c ⟨t,ht,hp⟩⟩
theorem FitF.one_of {u : Nat} {b : Int} (hB : ByP b) {r : Rw} {m N : Nat} {rule : List Int} (k : Kn b r m rule) (hN : 2 * m ≤ N) {H0 H : Hp} {v : V} (h : FitF u b (r.row N) m H0 H v) : ∃ t lt,v = .ref t ∧ H t = some (.tup [.str ("one" : Str),.int 1,.ref lt]) ∧ H lt = some (.lst (rule.map V.int)) := by
  have l : (r.row N).length = N := Rw.row_len ..
  have hI := Dm.fit_ind (kn := r.row N) (a := r.at) (fun n hn => row_co r (by omega)) k.ind (by omega)
  cases h with
  | @one bot us t lt a _ ht hl _ =>
    obtain ⟨e1,e2⟩ := Dm.fit_one hI (a.ok hB) (k.fits N) k.len k.tk
    rw [e1] at ht
    rw [e2] at hl
    exact ⟨t,lt,rfl,ht,hl⟩
  | many _ f _ _ _ _ _ =>
    obtain ⟨c,hc,hne⟩ := (f.ok hB).nz
    exact absurd (hI _ (f.ok hB).rel c hc) hne
theorem FitF.told {u : Nat} {b : Int} (hB : ByP b) {r : Rw} {m m' N : Nat} (hN : N + 1 = 2 * m) (hm : m' ≤ m) {H0 H : Hp} {v : V} (h : FitF u b (r.row N) m' H0 H v) : ∃ (t lt : Addr) (w : Str) (us : List Int) (rest : List V) (x : V),v = .ref t ∧ H t = some (.tup (.str w :: x :: .ref lt :: rest)) ∧ H lt = some (.lst (us.map V.int)) ∧ us.length = m' ∧ (m' = m → w = "many") := by
  have l : (r.row N).length = N := Rw.row_len ..
  cases h with
  | @one bot us t lt a hI ht hl _ =>
    refine ⟨t,lt,"one",us,[],_,rfl,ht,hl,(a.ok hB).len,fun e => ?_⟩
    subst e
    rw [l] at hI
    exact absurd hI (Dm.not_ind hB.dom (by rw [hB.one]; decide) (by omega) _)
  | @many bot us fs t lt lf a f ht hl hf _ _ => exact ⟨t,lt,"many",us,[.ref lf],_,rfl,ht,hl,(a.ok hB).len,fun _ => rfl⟩
inductive SpDrawn_  (K : PySem.W.Frag) (vs : List V) (H : Hp) (Q : VK) (E : XK) : Prop | mk (a : Addr) (ns : List Int) (b : Int) (z_0 : vs = [.ref a,.int b]) (z_1 : SqL K H a (ns.map V.int)) (z_2 : ByP b) (z_3 : ∀ v r H',Same H H' → RowIs H' v r → Dr b r → Q v H')
noncomputable def spDrawn  (K : PySem.W.Frag) : Sp := fun vs H Q E => SpDrawn_ K vs H Q E
theorem num15_few {b c : Int} (h : b = 0) : -4 ≤ num15 b c 0 ∧ num15 b c 0 ≤ 4 := by
  have a := emod_lo c (show (0 : Int) < 7 by decide)
  have a' := emod_hi c (show (0 : Int) < 7 by decide)
  unfold num15
  rw [if_neg (by omega),if_pos rfl]
  omega
noncomputable def onRef (p : Addr) (xs ys : List Int) : V → List Int
  | .ref z => if z = p then xs else ys
  | _ => []
section
variable {P : Program} {w : World} {K : PySem.W.Frag} {mg : Str → Option Value} {base : Heap}
theorem ok_taken (B : Bt mg) (F : Fn K mg "taken" s_taken ["by","number"]) : Cal P w K mg base "taken" 1 ["by","number"] spTaken := by
  refine F.cal sc_taken (fun vs H Q E h => ?_) (fun f cdv A outer s H vs Q E hr h => ?_)
  · obtain ⟨b,n,rfl,_⟩ := h; rfl
  · obtain ⟨b,n,rfl,h0,q⟩ := h
    refine ⟨_,(pss_cons (ps_if (pt_cmpR (xeq K hr) (pv 0) pe_int (nomark _))
      (pss_one (ps_ret (pv 1)))
      pss_nil)
      (pss_one (ps_ret (pe_op op_mod (pv 1) (pv 0))))),?_⟩
    refine ⟨_,rfl,_,rfl,?_⟩
    refine ite2 (fun c => ?_) (fun c => ?_)
    · refine ⟨_,rfl,?_⟩
      have c' : b = 0 := dec_true c
      have e : Rm.tk b n = n := by rw [c',Rm.tk_zero]
      rw [e] at q; exact q
    · have c' : ¬ b = 0 := dec_false c
      refine ⟨_,rfl,_,rfl,_,_,rfl,rfl,(by omega : (0 : Int) < b),?_⟩
      rw [Rm.tk_pos c'] at q; exact q
theorem ok_is_prime (B : Bt mg) (F : Fn K mg "is_prime" s_is_prime ["number"]) : Cal P w K mg base "is_prime" 1 ["number"] spPrimeQ := by
  refine F.cal sc_is_prime (fun vs H Q E h => ?_) (fun f cdv A outer s H vs Q E hr h => ?_)
  · obtain ⟨n,rfl,_⟩ := h; rfl
  · obtain ⟨n,rfl,hn,q⟩ := h
    refine ⟨_,(pss_cons (ps_if (pt_cmpR op_lt (pv 0) pe_int (nomark _))
      (pss_one (ps_ret pe_bl))
      pss_nil)
      (pss_cons (ps_set (i := 1) sc_is_prime.nd rfl (Or.inl rfl) pe_int)
      (pss_cons (ps_while PassesOwn.never (pt_cmpR op_le (pe_op v_mul (pv 1) (pv 1)) (pv 0) (nomark _))
      (pss_cons (ps_if (pt_cmpR (xeq K hr) (pe_op op_mod (pv 0) (pv 1)) pe_int (nomark _))
      (pss_one (ps_ret pe_bl))
      pss_nil)
      (pss_one (ps_set (i := 1) sc_is_prime.nd rfl (Or.inl rfl) (pe_op (xadd K) (pv 1) pe_int)))))
      (pss_one (ps_ret pe_bl))))),?_⟩
    refine ⟨_,rfl,_,_,rfl,rfl,_,rfl,?_⟩
    refine ite2 (fun c => ?_) (fun c => ?_)
    · have c' : (n : Int) < 2 := dec_true c
      exact q false ⟨fun z => absurd z (by decide),fun z => by have := z.1; omega⟩
    · have c' : ¬ (n : Int) < 2 := dec_false c
      refine ⟨fun m σ' H' => ∃ d : Nat,σ' = [some (.int n),some (.int (d : Int))] ∧ H' = H ∧ 2 ≤ d ∧ d ≤ n + 1 ∧ m = n + 2 - d ∧ ∀ e : Nat,2 ≤ e → e < d → ¬ e ∣ n,⟨_,2,rfl,rfl,by omega,by omega,rfl,fun e h1 h2 => by omega⟩,?_⟩
      rintro m σ' H' ⟨d,rfl,rfl,h2,hdn,rfl,hd⟩
      refine ⟨_,rfl,_,rfl,mulL (by omega) (by omega),_,rfl,_,_,rfl,rfl,_,rfl,?_⟩
      refine ite2 (fun c2 => ?_) (fun c2 => ?_)
      · have c2' : (d : Int) * d ≤ n := dec_true c2
        have c2n : d * d ≤ n := by exact_mod_cast c2'
        have hdl : d * 1 ≤ d * d := Nat.mul_le_mul_left d (by omega)
        refine ⟨_,fun _ _ z => z,?_⟩
        refine ⟨_,rfl,_,rfl,_,_,rfl,rfl,(by omega : (0 : Int) < (d : Int)),?_⟩
        refine ⟨_,rfl,?_⟩
        refine ite2 (fun c3 => ?_) (fun c3 => ?_)
        · have c3' : (n : Int) % (d : Int) = 0 := dec_true c3
          have hdv : d ∣ n := Int.ofNat_dvd.mp (Int.dvd_of_emod_eq_zero c3')
          exact q false ⟨fun z => absurd z (by decide),fun z => absurd z (Om.prime_not h2 c2n hdv)⟩
        · have c3' : ¬ (n : Int) % (d : Int) = 0 := dec_false c3
          refine ⟨_,rfl,?_⟩
          exact ⟨n + 2 - (d + 1),by omega,d + 1,by simp,rfl,by omega,by omega,rfl,fun e h1 h3 => by
            rcases Nat.lt_or_ge e d with z | z
            · exact hd e h1 z
            · have : e = d := by omega
              subst this
              exact fun z => c3' (Int.emod_eq_zero_of_dvd (Int.ofNat_dvd.mpr z))⟩
      · have c2' : ¬ (d : Int) * d ≤ n := dec_false c2
        have c2n : ¬ d * d ≤ n := fun z => c2' (by exact_mod_cast z)
        exact q true ⟨fun _ => Om.prime_try (by omega) fun e h1 h3 hdv => by
          by_cases c4 : e < d
          · exact hd e h1 c4 hdv
          · have : d * d ≤ e * e := Nat.mul_le_mul (by omega) (by omega)
            omega,fun _ => rfl⟩
theorem ok_prime_above (B : Bt mg) (F : Fn K mg "prime_above" s_prime_above ["number"]) (C_is_prime : Cal P w K mg base "is_prime" 1 ["number"] spPrimeQ) : Cal P w K mg base "prime_above" 2 ["number"] spAbove := by
  refine F.cal sc_prime_above (fun vs H Q E h => ?_) (fun f cdv A outer s H vs Q E hr h => ?_)
  · obtain ⟨n,q,rfl,_⟩ := h; rfl
  · obtain ⟨n,q',rfl,hq,hnq,hqb,q⟩ := h
    refine ⟨_,(pss_cons (ps_set (i := 1) sc_prime_above.nd rfl (Or.inl rfl) (pe_op (xadd K) (pv 0) pe_int))
      (pss_cons (ps_while PassesOwn.never (pt_not (pt_val (pe_callC C_is_prime hr rfl (pa_n (pv 1) pa_nil))))
      (pss_one (ps_set (i := 1) sc_prime_above.nd rfl (Or.inl rfl) (pe_op (xadd K) (pv 1) pe_int))))
      (pss_one (ps_ret (pv 1))))),?_⟩
    refine ⟨_,rfl,?_⟩
    refine ⟨fun m σ' H' => ∃ f : Nat,σ' = [some (.int n),some (.int (f : Int))] ∧ H' = H ∧ n < f ∧ f ≤ q' ∧ m = q' - f,⟨_,n + 1,rfl,rfl,by omega,by omega,rfl⟩,?_⟩
    rintro m σ' H' ⟨f,rfl,rfl,h1,h2,rfl⟩
    refine ⟨_,rfl,f,rfl,by omega,fun b hb => ?_⟩
    refine ⟨b,rfl,?_⟩
    cases b with
    | false =>
      refine ⟨_,fun _ _ z => z,?_⟩
      refine ⟨_,rfl,?_⟩
      have hne : f ≠ q' := fun e => absurd (hb.mpr (e ▸ hq)) (by decide)
      exact ⟨q' - (f + 1),by omega,f + 1,rfl,rfl,by omega,by omega,rfl⟩
    | true =>
      refine ⟨_,rfl,?_⟩
      exact q f (hb.mp rfl) h1 h2
theorem ok_inverse (B : Bt mg) (F : Fn K mg "inverse" s_inverse ["prime","number"]) (C_taken : Cal P w K mg base "taken" 1 ["by","number"] spTaken) : Cal P w K mg base "inverse" 2 ["prime","number"] spInverseQ := by
  refine F.cal sc_inverse (fun vs H Q E h => ?_) (fun f cdv A outer s H vs Q E hr h => ?_)
  · obtain ⟨P,a,rfl,_⟩ := h; rfl
  · obtain ⟨P',a,rfl,hP,hPb,h0,h1,q⟩ := h
    have hr2 : 2 ≤ P' ∧ P' < 2097152 := ⟨hP.1,hPb⟩
    refine ⟨_,(pss_cons (ps_set (i := 2) sc_inverse.nd rfl (Or.inl rfl) pe_int)
      (pss_cons (ps_set (i := 3) sc_inverse.nd rfl (Or.inl rfl) (pv 1))
      (pss_cons (ps_set (i := 4) sc_inverse.nd rfl (Or.inl rfl) (pe_op op_sub (pv 0) pe_int))
      (pss_cons (ps_while PassesOwn.never (pt_cmpR op_gt (pv 4) pe_int (nomark _))
      (pss_cons (ps_bar (ps_if (pt_cmpR (xeq K hr) (pe_op op_mod (pv 4) pe_int) pe_int (nomark _))
      (pss_one (ps_set (i := 2) sc_inverse.nd rfl (Or.inl rfl) (pe_callC C_taken hr rfl (pa_n (pv 0) (pa_b (pe_op v_mul (pv 2) (pv 3)) pa_nil)))))
      pss_nil))
      (pss_cons (ps_set (i := 3) sc_inverse.nd rfl (Or.inl rfl) (pe_callC C_taken hr rfl (pa_n (pv 0) (pa_b (pe_op v_mul (pv 3) (pv 3)) pa_nil))))
      (pss_one (ps_set (i := 4) sc_inverse.nd rfl (Or.inl rfl) (pe_op op_fdiv (pv 4) pe_int))))))
      (pss_one (ps_ret (pv 2))))))),?_⟩
    refine ⟨_,rfl,?_⟩
    refine ⟨_,rfl,_,_,rfl,rfl,?_⟩
    have e0 : ((P' : Int) - 2).toNat = P' - 2 := by omega
    refine ⟨fun m σ' H' => ∃ power square left : Int,σ' = [some (.int P'),some (.int a),some (.int power),some (.int square),some (.int left)] ∧ H' = H ∧ m = left.toNat ∧ 0 ≤ power ∧ power < 2097152 ∧ 0 ≤ square ∧ square < 2097152 ∧ 0 ≤ left ∧ Om.Keeps P' a (P' - 2) power square left.toNat,
      ⟨_,1,a,(P' : Int) - 2,rfl,rfl,rfl,by decide,by decide,by omega,by omega,by omega,by rw [e0]; exact Om.keeps_start _ _ _⟩,?_⟩
    rintro m σ' H' ⟨power,square,left,rfl,rfl,rfl,p0,p1,s0,s1,l0,hk⟩
    refine ⟨_,rfl,_,_,rfl,rfl,_,rfl,?_⟩
    refine ite2 (fun c => ?_) (fun c => ?_)
    · have c' : 0 < left := dec_true c
      refine ⟨_,fun _ _ z => z,?_⟩
      have hpos : (0 : Int) < (P' : Int) := by omega
      have tkP : ∀ n,Rm.tk (P' : Int) n = n % (P' : Int) := fun n => Rm.tk_pos (by omega) n
      refine BarS.by (fun σ' H2 => ∃ power' : Int,σ' = [some (.int P'),some (.int a),some (.int power'),some (.int square),some (.int left)] ∧ H2 = H' ∧ ((left % 2 = 1 ∧ power' = power * square % (P' : Int)) ∨ (¬ left % 2 = 1 ∧ power' = power))) (fun N hN => ?_) ?_
      · refine ⟨_,rfl,_,_,rfl,rfl,(by decide : (0 : Int) < 2),_,rfl,?_⟩
        refine ite2 (fun c2 => ?_) (fun c2 => ?_)
        · refine ⟨_,rfl,_,rfl,_,rfl,mulL (by omega) (by omega),P',_,rfl,by omega,?_⟩
          exact hN _ _ ⟨_,rfl,rfl,.inl ⟨dec_true c2,tkP _⟩⟩
        · exact hN _ _ ⟨_,rfl,rfl,.inr ⟨dec_false c2,rfl⟩⟩
      rintro σ' H2 ⟨power',rfl,rfl,hp⟩
      refine ⟨_,rfl,_,rfl,_,rfl,mulL (by omega) (by omega),P',_,rfl,by omega,?_⟩
      refine ⟨_,rfl,_,_,rfl,rfl,⟨by decide,by decide⟩,?_⟩
      have b1 := emod_lo (square * square) hpos
      have b2 := emod_hi (square * square) hpos
      have b3 := emod_lo (power * square) hpos
      have b4 := emod_hi (power * square) hpos
      have el : (left / 2).toNat = left.toNat / 2 := by omega
      refine ⟨_,?_,power',square * square % (P' : Int),left / 2,by rw [tkP]; rfl,rfl,rfl,?_,?_,b1,by omega,by omega,?_⟩
      · omega
      · rcases hp with ⟨_,rfl⟩ | ⟨_,rfl⟩
        · exact b3
        · exact p0
      · rcases hp with ⟨_,rfl⟩ | ⟨_,rfl⟩
        · omega
        · exact p1
      · rw [el]
        rcases hp with ⟨hodd,rfl⟩ | ⟨hodd,rfl⟩
        · exact Om.keeps_odd hk (by omega)
        · exact Om.keeps_even hk (by omega)
    · have c' : left = 0 := by have := dec_false c; omega
      subst c'
      refine ⟨_,rfl,?_⟩
      exact q power p0 p1 (Om.keeps_end hk)
theorem ok_over (B : Bt mg) (F : Fn K mg "over" s_over ["by","one","other"]) (C_taken : Cal P w K mg base "taken" 1 ["by","number"] spTaken) (C_inverse : Cal P w K mg base "inverse" 2 ["prime","number"] spInverseQ) : Cal P w K mg base "over" 3 ["by","one","other"] spOverQ := by
  refine F.cal sc_over (fun vs H Q E h => ?_) (fun f cdv A outer s H vs Q E hr h => ?_)
  · obtain ⟨P,one,other,rfl,_⟩ := h; rfl
  · obtain ⟨P',one,other,rfl,hP,hPb,o0,o1,q⟩ := h
    refine ⟨_,(pss_cons (ps_if (pt_cmpR (xeq K hr) (pv 0) pe_int (nomark _))
      (pss_one ps_never)
      pss_nil)
      (pss_cons (ps_if (pt_cmpR (xeq K hr) (pe_callC C_taken hr rfl (pa_n (pv 0) (pa_n (pv 2) pa_nil))) pe_int (nomark _))
      (pss_one ps_never)
      pss_nil)
      (pss_one (ps_ret (pe_callC C_taken hr rfl (pa_n (pv 0) (pa_b (pe_op v_mul (pv 1) (pe_callC C_inverse hr rfl (pa_n (pv 0) (pa_n (pv 2) pa_nil)))) pa_nil))))))),?_⟩
    have hr2 : 2 ≤ P' ∧ P' < 2097152 := ⟨hP.1,hPb⟩
    refine ⟨_,rfl,_,rfl,?_⟩
    refine ite2 (fun c => absurd (dec_true c) (by omega)) (fun _ => ?_)
    have tkP : ∀ n,Rm.tk (P' : Int) n = n % (P' : Int) := fun n => Rm.tk_pos (by omega) n
    refine ⟨_,rfl,_,rfl,P',other,rfl,by omega,_,rfl,?_⟩
    have et : Rm.tk (P' : Int) other = other := by rw [tkP]; exact Int.emod_eq_of_lt (by omega) o1
    rw [et]
    refine ite2 (fun c2 => absurd (dec_true c2) (by omega)) (fun _ => ?_)
    refine ⟨_,rfl,_,rfl,_,rfl,_,rfl,P',other,rfl,hP,hPb,o0,o1,fun x x0 x1 hx => ?_⟩
    refine ⟨mulR (by omega) (by omega),P',_,rfl,by omega,?_⟩
    rw [tkP,Om.mod_mul (rfl : one % (P' : Int) = one % (P' : Int)) hx]
    exact q
theorem ok_trimmed (B : Bt mg) (F : Fn K mg "trimmed" s_trimmed ["numbers"]) : Cal P w K mg base "trimmed" 1 ["numbers"] (spTrim K) := by
  refine F.cal sc_trimmed (fun vs H Q E h => ?_) (fun f cdv A outer s H vs Q E hr h => ?_)
  · obtain ⟨l,xs,rfl,_⟩ := h; rfl
  · obtain ⟨l,xs,rfl,hL,q⟩ := h
    refine ⟨_,(pss_cons (ps_set (i := 1) sc_trimmed.nd rfl (Or.inl rfl) (pe_callB (xlen K) rfl B.b_len boot_len (pa_n (pv 0) pa_nil)))
      (pss_cons (ps_while PassesOwn.never (PW.pt (pw_and (pt_cmpR op_gt (pv 1) pe_int (nomark _)) (pw_and1 (pt_cmpR (xeq K hr) (pe_ix (xix K) (pv 0) (pe_op op_sub (pv 1) pe_int) (fun _ _ => rfl)) pe_int (nomark _)))))
      (pss_one (ps_set (i := 1) sc_trimmed.nd rfl (Or.inl rfl) (pe_op op_sub (pv 1) pe_int))))
      (pss_one (ps_ret (pe_callTy (xtuple K) rfl B.b_tuple boot_tuple (pa_cons (pe_slice (xsl K) (pv 0) po_none (po_some (pv 1))) pa_nil)))))),?_⟩
    have lL : (xs.map V.int).length = xs.length := List.length_map _
    refine ⟨_,rfl,.ref l,xs.length,rfl,.inl ⟨_,hL,lL.symm⟩,?_⟩
    refine ⟨fun m σ' H' => ∃ n : Nat,m = n ∧ n ≤ xs.length ∧ σ' = [some (.ref l),some (.int (n : Int))] ∧ H' = H ∧ Pm.trim (xs.take n) = Pm.trim xs,⟨_,xs.length,rfl,Nat.le_refl _,rfl,rfl,by rw [List.take_length]⟩,?_⟩
    rintro m σ' H' ⟨n,e0,hn,rfl,rfl,ht⟩
    refine ⟨_,rfl,_,_,rfl,rfl,_,rfl,?_⟩
    refine ite2 (fun c => ?_) (fun c => iteF ?_)
    · have h0 : 0 < n := by have := dec_true c; omega
      have e1 : ((n : Int) - 1).toNat = n - 1 := by omega
      refine ⟨_,rfl,_,rfl,_,_,rfl,rfl,_,_,.inl hL,atI_ints (ns := xs) (by omega : (0 : Int) ≤ (n : Int) - 1) (by omega),_,rfl,?_⟩
      refine ite2 (fun c2 => ?_) (fun c2 => ?_)
      · have hz := dec_true c2
        rw [e1] at hz
        refine ⟨_,fun _ _ z => z,?_⟩
        refine ⟨_,rfl,_,_,rfl,rfl,?_⟩
        refine ⟨n - 1,by omega,n - 1,rfl,by omega,?_,rfl,trim_down h0 hn ht hz⟩
        rw [show ((n - 1 : Nat) : Int) = (n : Int) - 1 by omega]
        rfl
      · have hz := dec_false c2
        rw [e1] at hz
        refine ⟨_,rfl,_,rfl,_,rfl,.inl ⟨_,hL,fun p hp => ?_⟩⟩
        refine ⟨p,_,rfl,.inl ⟨SqL.of upd_same,fun p2 hp2 => ?_⟩⟩
        refine q p2 _ ((Same.new hp _).trans (Same.new hp2 _)) ?_
        rw [upd_same,cut_to,← List.map_take,trim_stop hn ht (.inr hz)]
    · have h0 : n = 0 := by have := dec_false c; omega
      refine ⟨_,rfl,_,rfl,_,rfl,.inl ⟨_,hL,fun p hp => ?_⟩⟩
      refine ⟨p,_,rfl,.inl ⟨SqL.of upd_same,fun p2 hp2 => ?_⟩⟩
      refine q p2 _ ((Same.new hp _).trans (Same.new hp2 _)) ?_
      rw [upd_same,cut_to,← List.map_take,trim_stop hn ht (.inl h0)]
theorem ok_divided (B : Bt mg) (F : Fn K mg "divided" s_divided ["by","one","other"]) (C_taken : Cal P w K mg base "taken" 1 ["by","number"] spTaken) (C_trimmed : Cal P w K mg base "trimmed" 1 ["numbers"] (spTrim K)) : Cal P w K mg base "divided" 2 ["by","one","other"] spDividedQ := by
  refine F.cal sc_divided (fun vs H Q E h => ?_) (fun f cdv A outer s H vs Q E hr h => ?_)
  · obtain ⟨b,a,c,P,M,rfl,_⟩ := h; rfl
  · obtain ⟨b,a,c,P,M,rfl,hb,hb1,hA,hC,zA,zC,hM,nP,bA,bC,q⟩ := h
    refine ⟨_,(pss_cons (ps_set (i := 3) sc_divided.nd rfl (Or.inl rfl) (pe_op op_sub (pe_callB (xlen K) rfl B.b_len boot_len (pa_n (pv 2) pa_nil)) pe_int))
      (pss_cons (ps_set (i := 4) sc_divided.nd rfl (Or.inl rfl) (pe_op v_mul (pe_lst (pa_k pe_int pa_nil)) (pe_callB (call_max2 rfl) rfl B.b_max boot_max (pa_k pe_int (pa_b (pe_op op_sub (pe_callB (xlen K) rfl B.b_len boot_len (pa_n (pv 1) pa_nil)) (pv 3)) pa_nil)))))
      (pss_cons (ps_set (i := 5) sc_divided.nd rfl (Or.inl rfl) (pe_callTy (xlist K) rfl B.b_list boot_list (pa_n (pv 1) pa_nil)))
      (pss_cons (ps_for PassesOwn.never rfl (pi_rangeD rfl B.b_range (pa_b (pe_op op_sub (pe_callB (xlen K) rfl B.b_len boot_len (pa_n (pv 4) pa_nil)) pe_int) (pa_u (pe_un un_neg pe_int) (pa_u (pe_un un_neg pe_int) pa_nil)))) (pg_name (i := 6) sc_divided.nd rfl (Or.inl rfl))
      (pss_cons (ps_set (i := 7) sc_divided.nd rfl (Or.inl rfl) (pe_ix (xix K) (pv 5) (pe_op (xadd K) (pv 6) (pv 3)) (fun _ _ => rfl)))
      (pss_cons (ps_asg (pv 7) (pg_sub (pv 4) (pv 6) set_list))
      (pss_one (ps_for PassesOwn.never rfl (pi_range1 rfl B.b_range (pa_cons (pe_callB (xlen K) rfl B.b_len boot_len (pa_n (pv 2) pa_nil)) pa_nil)) (pg_name (i := 8) sc_divided.nd rfl (Or.inl rfl))
      (pss_one (ps_asg (pe_callC C_taken hr rfl (pa_n (pv 0) (pa_b (pe_op op_sub (pe_ix (xix K) (pv 5) (pe_op (xadd K) (pv 6) (pv 8)) (fun _ _ => rfl)) (pe_op v_mul (pv 7) (pe_ix (xix K) (pv 2) (pv 8) (fun _ _ => rfl)))) pa_nil))) (pg_sub (pv 5) (pe_op (xadd K) (pv 6) (pv 8)) set_list))))))))
      (pss_one (ps_ret (pe_tup (pa_cons (pe_callC C_trimmed hr rfl (pa_n (pv 4) pa_nil)) (pa_cons (pe_callC C_trimmed hr rfl (pa_n (pv 5) pa_nil)) pa_nil))))))))),?_⟩
    have lP : (P.map V.int).length = P.length := List.length_map _
    have lM : (M.map V.int).length = M.length := List.length_map _
    have hMp := hM.pos
    refine ⟨_,rfl,.ref c,M.length,rfl,.inr ⟨_,SqT.of hC,lM.symm⟩,_,_,rfl,rfl,?_⟩
    refine ⟨(by show 1 ≤ sizeLine; decide),fun l0 h0 => ?_⟩
    have g0 := Same.new h0 (.lst [.int 0])
    refine ⟨_,rfl,.ref a,P.length,rfl,.inr ⟨_,SqT.of (g0 _ _ hA),lP.symm⟩,_,rfl,_,_,rfl,rfl,_,_,rfl,?_⟩
    have en : (if (P.length : Int) - ((M.length : Int) - 1) > 0 then (P.length : Int) - ((M.length : Int) - 1) else 0).toNat = P.length - (M.length - 1) := (max_zero P.length M.length).resolve_right (by omega)
    refine ⟨_,upd_same,?_,?_,?_,fun lo hlo => ?_⟩
    · split <;> omega
    · split <;> omega
    · rw [en]; show 1 * (P.length - (M.length - 1)) ≤ sizeLine; rw [Nat.one_mul]; exact Nat.le_of_lt (small1000 (by omega))
    rw [en,replicate_ofF]
    have hlo0 : H lo = none := g0.free hlo
    have g1 := g0.trans (Same.new hlo (.lst ((Pm.ofF (P.length - (M.length - 1)) fun _ => 0).map V.int)))
    have hO0 : (upd (upd H l0 (.lst [.int 0])) lo (.lst ((Pm.ofF (P.length - (M.length - 1)) fun _ => 0).map V.int))) lo = some (.lst ((Pm.ofF (P.length - (M.length - 1)) fun _ => 0).map V.int)) := upd_same
    generalize upd (upd H l0 (.lst [.int 0])) lo (.lst ((Pm.ofF (P.length - (M.length - 1)) fun _ => 0).map V.int)) = H1 at g1 hO0
    refine ⟨_,rfl,a,_,rfl,.inr (SqT.of (g1 _ _ hA)),fun ll hll => ?_⟩
    have hll0 : H ll = none := g1.free hll
    have hne : lo ≠ ll := ne_of_none hO0 hll
    have gll := Same.new hll (.lst (P.map V.int))
    have g2 := g1.trans gll
    have hO2 := gll _ _ hO0
    have hL2 : (upd H1 ll (.lst (P.map V.int))) ll = some (.lst (P.map V.int)) := upd_same
    generalize upd H1 ll (.lst (P.map V.int)) = H2 at gll g2 hO2 hL2
    generalize hn : P.length - (M.length - 1) = n at hO2
    refine ⟨_,rfl,.ref lo,n,rfl,.inl ⟨_,SqL.of hO2,by rw [List.length_map,Pm.ofF_len]⟩,_,_,rfl,rfl,_,rfl,_,rfl,(n : Int) - 1,-1,rfl,⟨by omega,by omega,by omega,by omega⟩,?_⟩
    refine for_down (lo := (n : Int) - 1) (n := ((n : Int) - 1 - (-1)).toNat) (fun i σ' H' => ∃ o6 o7 o8 O L,σ' = [some (.int b),some (.ref a),some (.ref c),some (.int ((M.length : Int) - 1)),some (.ref lo),some (.ref ll),o6,o7,o8] ∧ Same H H' ∧ H' lo = some (.lst (List.map V.int O)) ∧ H' ll = some (.lst (List.map V.int L)) ∧ Pm.DivI b P M (n - i) O L ∧ (∀ k,Rm.Bd (300000 + i * 124001) (Pm.co O k)) ∧ ∀ k,Rm.Bd (300000 + i * 124001) (Pm.co L k))
      ⟨_,_,_,_,P,rfl,g2,hO2,hL2,(by rw [Nat.sub_zero,← hn]; exact Pm.DivI.start nP),fun k => by rw [Pm.co_ofF]; split <;> exact Rm.Bd.zero _,fun k => (Pm.Bd_co bA k).mono (by omega)⟩ ?_ ?_
    · rintro i σ' H' hi ⟨o6,o7,o8,O,L,rfl,g,hO,hL,I,bO,bL⟩
      have hi' : i < n := by omega
      have hs : n - i = n - (i + 1) + 1 := by omega
      rw [hs] at I
      generalize es : n - (i + 1) = s at I
      have esI : (n : Int) - 1 - (i : Int) = (s : Int) := by omega
      rw [esI]
      have hlL := I.ll
      have hlO := I.ol
      have lO : (O.map V.int).length = O.length := List.length_map _
      have e1 : ((s : Int) + ((M.length : Int) - 1)).toNat = s + (M.length - 1) := by omega
      refine ⟨_,rfl,_,rfl,_,rfl,_,_,.inl (SqL.of hL),atI_ints (ns := L) (by omega : (0 : Int) ≤ (s : Int) + ((M.length : Int) - 1)) (by omega),?_⟩
      rw [e1]
      have hF : Rm.Bd (300000 + i * 124001) (L.getD (s + (M.length - 1)) 0) := bL _
      have eF : L.getD (s + (M.length - 1)) 0 = Pm.co L (s + (M.length - 1)) := rfl
      rw [eF] at hF ⊢
      generalize hf : Pm.co L (s + (M.length - 1)) = f at hF
      refine ⟨_,rfl,_,rfl,_,rfl,lo,_,_,s,rfl,rfl,hO,ixN_of rfl (by rw [lO]; omega),?_⟩
      have hO3 : (upd H' lo (.lst ((O.map V.int).set s (.int f)))) lo = some (.lst ((O.set s f).map V.int)) := by rw [upd_same,map_set_int]
      have hL3 : (upd H' lo (.lst ((O.map V.int).set s (.int f)))) ll = some (.lst (L.map V.int)) := by rw [upd_ne hne.symm]; exact hL
      have g3 := g.upd hlo0 (.lst ((O.map V.int).set s (.int f)))
      generalize upd H' lo (.lst ((O.map V.int).set s (.int f))) = H3 at hO3 hL3 g3
      refine ⟨_,rfl,.ref c,M.length,rfl,.inr ⟨_,SqT.of (g3 _ _ hC),lM.symm⟩,?_⟩
      refine ⟨(M.length : Int),rfl,(by omega : -(2 ^ 62) ≤ (M.length : Int)),(by omega : (M.length : Int) < 2 ^ 62),?_⟩
      refine for_range (lo := 0) (n := (M.length : Int).toNat) (fun t σ' H' => ∃ o8 L',σ' = [some (.int b),some (.ref a),some (.ref c),some (.int ((M.length : Int) - 1)),some (.ref lo),some (.ref ll),some (.int (s : Int)),some (.int f),o8] ∧ Same H H' ∧ H' lo = some (.lst ((O.set s f).map V.int)) ∧ H' ll = some (.lst (List.map V.int L')) ∧ L'.length = L.length ∧ ∀ k,Pm.co L' k = Pm.lf b f s t L M k)
        ⟨_,L,rfl,g3,hO3,hL3,rfl,fun k => (Pm.lf_zero ..).symm⟩ ?_ ?_
      · rintro t σ' H4 ht ⟨o8,L',rfl,g4,hO4,hL4,zL',eL'⟩
        have ht' : t < M.length := by omega
        have lL' : (L'.map V.int).length = L'.length := List.length_map _
        have e2 : ((s : Int) + (0 + (t : Int))).toNat = s + t := by omega
        have e3 : (0 + (t : Int)).toNat = t := by omega
        refine ⟨_,rfl,_,rfl,_,rfl,_,rfl,_,_,.inl (SqL.of hL4),atI_ints (ns := L') (by omega : (0 : Int) ≤ (s : Int) + (0 + (t : Int))) (by omega),?_⟩
        refine ⟨_,rfl,_,rfl,_,rfl,_,_,.inr (SqT.of (g4 _ _ hC)),atI_ints (ns := M) (by omega : (0 : Int) ≤ 0 + (t : Int)) (by omega),?_⟩
        refine ⟨mulBd hF (Rm.Bd.getD bC _) (by have : i * 124001 ≤ 40 * 124001 := Nat.mul_le_mul_right _ (by omega); omega),_,_,rfl,rfl,?_⟩
        refine ⟨b,_,rfl,hb,?_⟩
        refine ⟨_,rfl,_,rfl,_,rfl,ll,_,_,s + t,rfl,rfl,hL4,ixN_of (by omega) (by rw [lL']; omega),?_⟩
        refine ⟨_,L'.set (s + t) _,rfl,g4.upd hll0 _,(by rw [upd_ne hne]; exact hO4),(by rw [upd_same,map_set_int]),(by rw [List.length_set]; exact zL'),fun k => ?_⟩
        rw [Pm.co_set _ _ _ _ (by omega),Pm.lf_step,e2,e3,← eL' k]
        by_cases ek : k = s + t
        · rw [if_pos ek,if_pos ek,ek]; rfl
        · rw [if_neg ek,if_neg ek]
      · rintro σ' H4 ⟨o8,L',rfl,g4,hO4,hL4,zL',eL'⟩
        rw [Int.toNat_natCast] at eL'
        refine ⟨_,_,_,O.set s f,L',rfl,g4,hO4,hL4,?_,fun k => ?_,fun k => ?_⟩
        · rw [← hf]
          rw [← hf] at eL'
          exact I.step hM (by omega) zL' eL'
        · rw [Pm.co_set _ _ _ _ (by omega)]
          split
          · exact hF.mono (by omega)
          · exact (bO k).mono (by omega)
        · rw [eL' k]
          exact (Pm.lf_bdQ hb hb1 (by omega) hF bL bC k).mono (by omega)
    · rintro σ' H' ⟨o6,o7,o8,O,L,rfl,g,hO,hL,I,bO,bL⟩
      have e9 : ((n : Int) - 1 - (-1)).toNat = n := by omega
      rw [e9] at I bO bL
      rw [Nat.sub_self] at I
      refine ⟨_,rfl,lo,O,rfl,SqL.of hO,fun t1 H3 g3 h3 => ?_⟩
      refine ⟨_,rfl,ll,L,rfl,SqL.of (g3 _ _ hL),fun t2 H4 g4 h4 => ?_⟩
      refine ⟨(by show 2 ≤ sizeLine; decide),fun t ht => ?_⟩
      have gt := Same.new ht (.tup [.ref t1,.ref t2])
      have hz : 300000 + n * 124001 ≤ 5300000 := by have : n * 124001 ≤ 40 * 124001 := Nat.mul_le_mul_right _ (by omega); omega
      refine q t t1 t2 (Pm.trim O) (Pm.trim L) _ (g.trans (g3.trans (g4.trans gt))) upd_same (gt _ _ (g4 _ _ h3)) (gt _ _ h4) (I.stop hM) (fun z hz' => (bd_trim bO z hz').mono hz) (fun z hz' => (bd_trim bL z hz').mono hz) ?_
      have := Pm.trim_len_le O
      have := I.ol
      omega
theorem ok_monic (B : Bt mg) (F : Fn K mg "monic" s_monic ["prime","poly"]) (C_over : Cal P w K mg base "over" 3 ["by","one","other"] spOverQ) : Cal P w K mg base "monic" 4 ["prime","poly"] spMonicQ := by
  refine F.cal sc_monic (fun vs H Q E h => ?_) (fun f cdv A outer s H vs Q E hr h => ?_)
  · obtain ⟨P,a,p,rfl,_⟩ := h; rfl
  · obtain ⟨P',a,p,rfl,hP,hPb,hA,zA,pP,q⟩ := h
    refine ⟨_,(pss_cons (ps_if (pt_cmpR (xeq K hr) (pe_callB (xlen K) rfl B.b_len boot_len (pa_n (pv 1) pa_nil)) pe_int (nomark _))
      (pss_one (ps_ret (pe_tup pa_nil)))
      pss_nil)
      (pss_cons (ps_set (i := 2) sc_monic.nd rfl (Or.inr rfl) (pe_ix (xix K) (pv 1) (pe_op op_sub (pe_callB (xlen K) rfl B.b_len boot_len (pa_n (pv 1) pa_nil)) pe_int) (fun _ _ => rfl)))
      (pss_one (ps_ret (pe_callTy (xtuple K) rfl B.b_tuple boot_tuple (pa_cons (pe_comp (sc := cs_monic1) (N := ["number","last","prime"]) (ix := [none,some 2,some 0]) (comp_mk (by kernel_rfl) (by kernel_rfl) (by kernel_rfl) (by kernel_rfl) (by kernel_rfl) (by kernel_rfl) (by kernel_rfl) (by kernel_rfl)) rfl (xseq K (pv 1)) (fun cl C s₀ H₀ ex => ⟨(pg_name (i := 0) (show (["number","last","prime"] : List Str).Nodup by decide +kernel) rfl (Or.inl rfl)),pif_nil,(pe_callC C_over hr rfl (pa_n (pv 2) (pa_n (pv 0) (pa_n (pv 1) pa_nil))))⟩)) pa_nil)))))),?_⟩
    have hr2 : 2 ≤ P' ∧ P' < 2097152 := ⟨hP.1,hPb⟩
    have lP : (p.map V.int).length = p.length := List.length_map _
    refine ⟨_,rfl,.ref a,p.length,rfl,.inr ⟨_,SqT.of hA,lP.symm⟩,_,rfl,?_⟩
    refine ite2 (fun c => ?_) (fun c => ?_)
    · have c' : (p.length : Int) = 0 := dec_true c
      have e : p = [] := List.eq_nil_of_length_eq_zero (by omega)
      subst e
      exact ⟨Nat.zero_le _,fun t ht => q t [] _ (Same.new ht _) upd_same (Pm.MonOf.nil _)⟩
    · have c' : ¬ (p.length : Int) = 0 := dec_false c
      have hn : p ≠ [] := fun e => c' (by rw [e]; rfl)
      have hpos : 0 < p.length := by omega
      have e1 : ((p.length : Int) - 1).toNat = p.length - 1 := by omega
      refine ⟨_,rfl,_,rfl,.ref a,p.length,rfl,.inr ⟨_,SqT.of hA,lP.symm⟩,_,_,rfl,rfl,_,_,.inr (SqT.of hA),atI_ints (ns := p) (by omega : (0 : Int) ≤ (p.length : Int) - 1) (by omega),?_⟩
      rw [e1]
      have l0 := Pm.last_ne hn pP.tr
      have l1 := pP.co (p.length - 1)
      rw [Rm.tk_pos (by omega)] at l1
      have r0 : 0 ≤ Pm.co p (p.length - 1) := by rw [← l1]; exact Int.emod_nonneg _ (by omega)
      have r1 : Pm.co p (p.length - 1) < (P' : Int) := by rw [← l1]; exact Int.emod_lt_of_pos _ (by omega)
      refine ⟨_,rfl,a,rfl,.inr ⟨⟨_,SqT.of hA⟩,comp_tup hA (by omega) rfl (fun x => x * (Pm.co p (p.length - 1)) ^ (P' - 2) % (P' : Int)) ?_ ?_⟩⟩
      · intro H2 x g2 hx k hk
        exact ⟨_,rfl,_,rfl,_,rfl,P',x,_,rfl,hP,hPb,by show 0 < Pm.co p (p.length - 1); omega,r1,hk⟩
      · intro D hD
        refine ⟨D,_,rfl,.inl ⟨SqL.of upd_same,fun t ht => ?_⟩⟩
        exact q t (Pm.monicN P' p) _ ((Same.new hD _).trans (Same.new ht _)) upd_same (Pm.monicN_pr hP pP hn)
theorem ok_greatest (B : Bt mg) (F : Fn K mg "greatest" s_greatest ["by","one","other"]) (C_monic : Cal P w K mg base "monic" 4 ["prime","poly"] spMonicQ) (C_divided : Cal P w K mg base "divided" 2 ["by","one","other"] spDividedQ) : Cal P w K mg base "greatest" 5 ["by","one","other"] spGreatestQ := by
  refine F.cal sc_greatest (fun vs H Q E h => ?_) (fun f cdv A outer s H vs Q E hr h => ?_)
  · obtain ⟨P,a,c,p,r,rfl,_⟩ := h; rfl
  · obtain ⟨P',a,c,p,r,rfl,hP,hPb,hA,hC,zA,zC,pP,pR,hne,q⟩ := h
    refine ⟨_,(pss_cons (ps_set (i := 3) sc_greatest.nd rfl (Or.inl rfl) (pe_callC C_monic hr rfl (pa_n (pv 0) (pa_n (pv 1) pa_nil))))
      (pss_cons (ps_set (i := 4) sc_greatest.nd rfl (Or.inl rfl) (pe_callC C_monic hr rfl (pa_n (pv 0) (pa_n (pv 2) pa_nil))))
      (pss_cons (ps_while PassesOwn.never (pt_cmpR op_gt (pe_callB (xlen K) rfl B.b_len boot_len (pa_n (pv 4) pa_nil)) pe_int (nomark _))
      (pss_cons (ps_set (i := 5) sc_greatest.nd rfl (Or.inl rfl) (pe_ix (xix K) (pe_callC C_divided hr rfl (pa_n (pv 0) (pa_n (pv 3) (pa_n (pv 4) pa_nil)))) pe_int (fun _ _ => rfl)))
      (pss_cons (ps_set (i := 3) sc_greatest.nd rfl (Or.inl rfl) (pv 4))
      (pss_one (ps_set (i := 4) sc_greatest.nd rfl (Or.inl rfl) (pe_callC C_monic hr rfl (pa_n (pv 0) (pa_n (pv 5) pa_nil))))))))
      (pss_one (ps_ret (pv 3)))))),?_⟩
    have hr2 : 2 ≤ P' ∧ P' < 2097152 := ⟨hP.1,hPb⟩
    refine ⟨_,rfl,_,rfl,P',a,p,rfl,hP,hPb,hA,by omega,pP,fun tg g0 H1 g1 hG mG => ?_⟩
    refine ⟨_,rfl,_,rfl,P',c,r,rfl,hP,hPb,g1 _ _ hC,by omega,pR,fun ts s0 H2 g2 hS' mS => ?_⟩
    have lg0 := mG.len
    have ls0 := mS.len
    refine ⟨fun m σ' H' => ∃ (o5 : Option V) (tg ts : Addr) (g s : List Int),m = s.length ∧ σ' = [some (.int P'),some (.ref a),some (.ref c),some (.ref tg),some (.ref ts),o5] ∧ Same H H' ∧ H' tg = some (.tup (g.map V.int)) ∧ H' ts = some (.tup (s.map V.int)) ∧ Pm.GcdI P' p r g s ∧ g.length ≤ max p.length r.length ∧ s.length ≤ max p.length r.length,
      ⟨_,_,tg,ts,g0,s0,rfl,rfl,g1.trans g2,g2 _ _ hG,hS',Pm.GcdI.start mG mS hne,by omega,by omega⟩,?_⟩
    rintro m σ' H' ⟨o5,tg,ts,gg,ss,rfl,rfl,g,hG,hS',I,zg,zs⟩
    have lS : (ss.map V.int).length = ss.length := List.length_map _
    refine ⟨_,rfl,.ref ts,ss.length,rfl,.inr ⟨_,SqT.of hS',lS.symm⟩,_,_,rfl,rfl,_,rfl,?_⟩
    refine ite2 (fun cc => ?_) (fun cc => ?_)
    · have hs : ss ≠ [] := fun e => by have := dec_true cc; rw [e] at this; simp at this
      have hMs := I.sm_ hs
      refine ⟨_,fun _ _ z => z,?_⟩
      refine ⟨_,rfl,_,rfl,_,rfl,P',tg,ts,gg,ss,rfl,by omega,by omega,hG,hS',by omega,by omega,hMs,I.gy.co,(fun x hx => (py_bd hr2.1 hr2.2 I.gy x hx).mono (by decide)),py_bd hr2.1 hr2.2 I.sy,fun t x y o l H3 g3 hT hX hY D _ _ _ => ?_⟩
      refine ⟨_,_,.inr (SqT.of hT),rfl,?_⟩
      refine ⟨_,rfl,?_⟩
      have hsh := D.short
      refine ⟨_,rfl,_,rfl,P',y,l,rfl,hP,hPb,hY,by omega,D.ry,fun tm m H4 g4 hM mM => ?_⟩
      have lm := mM.len
      exact ⟨m.length,by omega,_,ts,tm,ss,m,rfl,rfl,g.trans (g3.trans g4),(g3.trans g4) _ _ hS',hM,I.step hs D mM,zs,by omega⟩
    · have hs : ss = [] := List.eq_nil_of_length_eq_zero (by have := dec_false cc; omega)
      refine ⟨_,rfl,?_⟩
      exact q tg gg H' g hG (I.stop hs) zg
theorem ok_nearest (B : Bt mg) (F : Fn K mg "nearest" s_nearest ["modulus","number"]) : Cal P w K mg base "nearest" 1 ["modulus","number"] spNearest := by
  refine F.cal sc_nearest (fun vs H Q E h => ?_) (fun f cdv A outer s H vs Q E hr h => ?_)
  · obtain ⟨M,x,rfl,_⟩ := h; rfl
  · obtain ⟨M,x,rfl,hM,q⟩ := h
    refine ⟨_,(pss_cons (ps_set (i := 2) sc_nearest.nd rfl (Or.inl rfl) (pe_op op_mod (pv 1) (pv 0)))
      (pss_one (ps_ret (pe_ifExp (pt_cmpR op_gt (pe_op v_mul pe_int (pv 2)) (pv 0) (nomark _)) (pe_op op_sub (pv 2) (pv 0)) (pv 2))))),?_⟩
    refine ⟨_,rfl,_,rfl,_,_,rfl,rfl,hM,?_⟩
    refine ⟨_,rfl,mulL (by decide) (by decide),_,rfl,_,_,rfl,rfl,_,rfl,?_⟩
    refine ite2 (fun c => ?_) (fun c => ?_)
    · have c' : 2 * (x % M) > M := dec_true c
      refine ⟨_,rfl,_,rfl,_,_,rfl,rfl,?_⟩
      have e : Pm.nr M x = x % M - M := if_pos c'
      rw [e] at q; exact q
    · have c' : ¬ 2 * (x % M) > M := dec_false c
      refine ⟨_,rfl,?_⟩
      have e : Pm.nr M x = x % M := if_neg c'
      rw [e] at q; exact q
theorem ok_joined (B : Bt mg) (F : Fn K mg "joined" s_joined ["modulus","number","prime","rest"]) (C_over : Cal P w K mg base "over" 3 ["by","one","other"] spOverQ) (C_taken : Cal P w K mg base "taken" 1 ["by","number"] spTaken) (C_nearest : Cal P w K mg base "nearest" 1 ["modulus","number"] spNearest) : Cal P w K mg base "joined" 4 ["modulus","number","prime","rest"] spJoined := by
  refine F.cal sc_joined (fun vs H Q E h => ?_) (fun f cdv A outer s H vs Q E hr h => ?_)
  · obtain ⟨M,t,p,s,rfl,_⟩ := h; rfl
  · obtain ⟨M,t,p,s',rfl,hp,hpb,hM,hpM,q⟩ := h
    refine ⟨_,(pss_cons (ps_set (i := 4) sc_joined.nd rfl (Or.inl rfl) (pe_callC C_over hr rfl (pa_n (pv 2) (pa_cons (pe_callC C_taken hr rfl (pa_n (pv 2) (pa_b (pe_op op_sub (pv 3) (pv 1)) pa_nil))) (pa_cons (pe_callC C_taken hr rfl (pa_n (pv 2) (pa_n (pv 0) pa_nil))) pa_nil)))))
      (pss_one (ps_ret (pe_callC C_nearest hr rfl (pa_b (pe_op v_mul (pv 0) (pv 2)) (pa_b (pe_op (xadd K) (pv 1) (pe_op v_mul (pv 0) (pv 4))) pa_nil)))))),?_⟩
    have h2 := hp.1
    have hp0 : (p : Int) ≠ 0 := by omega
    have r0 := Int.emod_nonneg M hp0
    have r1 := Int.emod_lt_of_pos M (show (0 : Int) < p by omega)
    have rn : M % (p : Int) ≠ 0 := fun z => hpM (Int.dvd_of_emod_eq_zero z)
    have et : Rm.tk (p : Int) M = M % (p : Int) := Rm.tk_pos hp0 M
    refine ⟨_,rfl,_,rfl,_,rfl,_,rfl,_,_,rfl,rfl,p,_,rfl,by omega,?_⟩
    refine ⟨_,rfl,_,rfl,p,M,rfl,by omega,?_⟩
    refine ⟨p,_,_,rfl,hp,hpb,by rw [et]; omega,by rw [et]; exact r1,?_⟩
    have hw := Pm.jw_range (M := M) (t := t) (s := s') hp
    refine ⟨_,rfl,_,rfl,mulR (by omega) (by omega),?_⟩
    refine ⟨_,rfl,_,rfl,_,rfl,mulR (by show -(2 ^ 64) < Pm.jw M t p s'; omega) (by show Pm.jw M t p s' < 2 ^ 64; omega),?_⟩
    exact ⟨_,_,rfl,Int.mul_pos hM (by omega),q⟩
theorem ok_taken_poly (B : Bt mg) (F : Fn K mg "taken_poly" s_taken_poly ["prime","poly"]) (C_trimmed : Cal P w K mg base "trimmed" 1 ["numbers"] (spTrim K)) (C_taken : Cal P w K mg base "taken" 1 ["by","number"] spTaken) : Cal P w K mg base "taken_poly" 2 ["prime","poly"] spTakenPoly := by
  refine F.cal sc_taken_poly (fun vs H Q E h => ?_) (fun f cdv A outer s H vs Q E hr h => ?_)
  · obtain ⟨p,a,P,rfl,_⟩ := h; rfl
  · obtain ⟨p,a,P',rfl,hp,hA,zA,q⟩ := h
    refine ⟨_,(pss_one (ps_ret (pe_callC C_trimmed hr rfl (pa_cons (pe_comp (sc := cs_taken_poly1) (N := ["number","prime"]) (ix := [none,some 0]) (comp_mk (by kernel_rfl) (by kernel_rfl) (by kernel_rfl) (by kernel_rfl) (by kernel_rfl) (by kernel_rfl) (by kernel_rfl) (by kernel_rfl)) rfl (xseq K (pv 1)) (fun cl C s₀ H₀ ex => ⟨(pg_name (i := 0) (show (["number","prime"] : List Str).Nodup by decide +kernel) rfl (Or.inl rfl)),pif_nil,(pe_callC C_taken hr rfl (pa_n (pv 1) (pa_n (pv 0) pa_nil)))⟩)) pa_nil)))),?_⟩
    refine ⟨_,rfl,a,rfl,.inr ⟨⟨_,SqT.of hA⟩,comp_tup hA (by omega) rfl (fun x => Rm.tk p x) ?_ ?_⟩⟩
    · intro H2 x g2 hx k hk
      exact ⟨_,rfl,_,rfl,p,x,rfl,by omega,hk⟩
    · intro D hD
      refine ⟨D,_,rfl,SqL.of upd_same,fun t1 H3 g3 h3 => ?_⟩
      exact q t1 H3 ((Same.new hD _).trans g3) h3
theorem ok_divides (B : Bt mg) (F : Fn K mg "divides" s_divides ["monic_one","poly"]) (C_divided : Cal P w K mg base "divided" 2 ["by","one","other"] spDividedQ) : Cal P w K mg base "divides" 3 ["monic_one","poly"] spDivides := by
  refine F.cal sc_divides (fun vs H Q E h => ?_) (fun f cdv A outer s H vs Q E hr h => ?_)
  · obtain ⟨m,a,M,P,rfl,_⟩ := h; rfl
  · obtain ⟨m,a,M,P',rfl,hMm,hA,zM,zP,hM,bM,bP,q⟩ := h
    refine ⟨_,(pss_one (ps_ret (pe_cmpR (xeq K hr) (pe_ix (xix K) (pe_callC C_divided hr rfl (pa_k pe_int (pa_n (pv 1) (pa_n (pv 0) pa_nil)))) pe_int (fun _ _ => rfl)) (pe_tup pa_nil) (nomark _)))),?_⟩
    refine ⟨_,rfl,_,rfl,0,a,m,P',M,rfl,by decide,by decide,hA,hMm,zP,zM,hM,fun k => Rm.tk_zero _,bP,bM,fun t x y o l H3 g3 hT hX hY D _ _ _ => ?_⟩
    refine ⟨_,_,.inr (SqT.of hT),rfl,?_⟩
    refine ⟨Nat.zero_le _,fun t0 ht0 => ?_⟩
    have g4 := Same.new ht0 (.tup [])
    refine eqTT (ns := l) (ms := []) (SqT.of (g4 _ _ hY)) (SqT.of upd_same) ?_
    exact q _ _ (g3.trans g4) (by show decide (l = []) = true ↔ _; rw [decide_eq_true_iff]; exact D.dv hM)
theorem ok_whole_greatest (B : Bt mg) (F : Fn K mg "whole_greatest" s_whole_greatest ["one","other"]) (C_divides : Cal P w K mg base "divides" 3 ["monic_one","poly"] spDivides) (C_prime_above : Cal P w K mg base "prime_above" 2 ["number"] spAbove) (C_greatest : Cal P w K mg base "greatest" 5 ["by","one","other"] spGreatestQ) (C_taken_poly : Cal P w K mg base "taken_poly" 2 ["prime","poly"] spTakenPoly) (C_nearest : Cal P w K mg base "nearest" 1 ["modulus","number"] spNearest) (C_joined : Cal P w K mg base "joined" 4 ["modulus","number","prime","rest"] spJoined) : Cal P w K mg base "whole_greatest" 6 ["one","other"] spWG := by
  refine F.cal sc_whole_greatest (fun vs H Q E h => ?_) (fun f cdv A outer s H vs Q E hr h => ?_)
  · obtain ⟨a,c,P,t,g,N,U,V',rfl,_⟩ := h; rfl
  · obtain ⟨a,c,P',t,g,N,U,V',rfl,hA,hC,zP,zt,hP,bP,bt,G,hV,hU,hUV,q⟩ := h
    refine ⟨_,(pss_cons (ps_set (i := 2) sc_whole_greatest.nd rfl (Or.inl rfl) (pv 0))
      (pss_cons (ps_set (i := 3) sc_whole_greatest.nd rfl (Or.inr rfl) pe_int)
      (pss_cons (ps_set (i := 4) sc_whole_greatest.nd rfl (Or.inr rfl) (pe_globI rfl B.g_BELOW_THE_PRIMES))
      (pss_cons (ps_set (i := 5) sc_whole_greatest.nd rfl (Or.inl rfl) pe_bl)
      (pss_cons (ps_while PassesOwn.never (PW.pt (pw_or (pt_not (pt_val (pv 5))) (pw_or (pt_not (pt_val (pe_callC C_divides hr rfl (pa_n (pv 2) (pa_n (pv 0) pa_nil))))) (pw_or1 (pt_not (pt_val (pe_callC C_divides hr rfl (pa_n (pv 2) (pa_n (pv 1) pa_nil)))))))))
      (pss_cons (ps_set (i := 4) sc_whole_greatest.nd rfl (Or.inr rfl) (pe_callC C_prime_above hr rfl (pa_n (pv 4) pa_nil)))
      (pss_cons (ps_set (i := 6) sc_whole_greatest.nd rfl (Or.inr rfl) (pe_callC C_greatest hr rfl (pa_n (pv 4) (pa_cons (pe_callC C_taken_poly hr rfl (pa_n (pv 4) (pa_n (pv 0) pa_nil))) (pa_cons (pe_callC C_taken_poly hr rfl (pa_n (pv 4) (pa_n (pv 1) pa_nil))) pa_nil)))))
      (pss_one (ps_if (pt_cmpR op_lt (pe_callB (xlen K) rfl B.b_len boot_len (pa_n (pv 6) pa_nil)) (pe_callB (xlen K) rfl B.b_len boot_len (pa_n (pv 2) pa_nil)) (nomark _))
      (pss_cons (ps_set (i := 2) sc_whole_greatest.nd rfl (Or.inl rfl) (pe_callTy (xtuple K) rfl B.b_tuple boot_tuple (pa_cons (pe_comp (sc := cs_whole_greatest1) (N := ["rest","prime"]) (ix := [none,some 4]) (comp_mk (by kernel_rfl) (by kernel_rfl) (by kernel_rfl) (by kernel_rfl) (by kernel_rfl) (by kernel_rfl) (by kernel_rfl) (by kernel_rfl)) rfl (xseq K (pv 6)) (fun cl C s₀ H₀ ex => ⟨(pg_name (i := 0) (show (["rest","prime"] : List Str).Nodup by decide +kernel) rfl (Or.inl rfl)),pif_nil,(pe_callC C_nearest hr rfl (pa_n (pv 1) (pa_n (pv 0) pa_nil)))⟩)) pa_nil)))
      (pss_cons (ps_set (i := 3) sc_whole_greatest.nd rfl (Or.inr rfl) (pv 4))
      (pss_one (ps_set (i := 5) sc_whole_greatest.nd rfl (Or.inl rfl) pe_bl))))
      (pss_one (ps_bar (ps_if (pt_cmpR (xeq K hr) (pe_callB (xlen K) rfl B.b_len boot_len (pa_n (pv 6) pa_nil)) (pe_callB (xlen K) rfl B.b_len boot_len (pa_n (pv 2) pa_nil)) (nomark _))
      (pss_cons (ps_set (i := 7) sc_whole_greatest.nd rfl (Or.inr rfl) (pv 2))
      (pss_cons (ps_set (i := 2) sc_whole_greatest.nd rfl (Or.inl rfl) (pe_callTy (xtuple K) rfl B.b_tuple boot_tuple (pa_cons (pe_comp (sc := cs_whole_greatest2) (N := ["k","before","modulus","prime","seen"]) (ix := [none,some 7,some 3,some 4,some 6]) (comp_mk (by kernel_rfl) (by kernel_rfl) (by kernel_rfl) (by kernel_rfl) (by kernel_rfl) (by kernel_rfl) (by kernel_rfl) (by kernel_rfl)) rfl (pi_range1 rfl B.b_range (pa_cons (pe_callB (xlen K) rfl B.b_len boot_len (pa_n (pv 6) pa_nil)) pa_nil)) (fun cl C s₀ H₀ ex => ⟨(pg_name (i := 0) (show (["k","before","modulus","prime","seen"] : List Str).Nodup by decide +kernel) rfl (Or.inl rfl)),pif_nil,(pe_callC C_joined hr rfl (pa_n (pv 2) (pa_cons (pe_ix (xix K) (pv 1) (pv 0) (fun _ _ => rfl)) (pa_n (pv 3) (pa_cons (pe_ix (xix K) (pv 4) (pv 0) (fun _ _ => rfl)) pa_nil)))))⟩)) pa_nil)))
      (pss_cons (ps_set (i := 3) sc_whole_greatest.nd rfl (Or.inr rfl) (pe_op v_mul (pv 3) (pv 4)))
      (pss_one (ps_set (i := 5) sc_whole_greatest.nd rfl (Or.inl rfl) (pe_cmpR (xeq K hr) (pv 2) (pv 7) (nomark _)))))))
      pss_nil))))))))
      (pss_one (ps_ret (pv 2)))))))),?_⟩
    have hgP : g.length ≤ P'.length := G.one.len rfl G.mon hP
    refine ⟨_,rfl,?_⟩
    refine ⟨WgInv H a c P' g N,⟨_,_,_,a,P',1,1000000,true,0,0,rfl,rfl,Same.refl _,hA,Pm.WgI.start hP hgP _,Om.many,by omega,by omega⟩,?_⟩
    rintro m σ' H' ⟨o6,o7,tt,told,M,prime,ripe,bad,good,rfl,rfl,gg,hT,I,hmany,hbig,h900⟩
    have bT := wg_bd I bP h900
    have zT := I.le
    refine ⟨_,rfl,ripe,rfl,?_⟩
    refine ite2 (fun cr => ?b1) (fun cr => ?n1)
    case' b1 =>
      have hne : ¬ (ripe = true ∧ told = g) := fun z => by rw [z.1] at cr; exact absurd cr (by decide)
      have gx := gg
      have hTx := hT
      generalize H' = Hx at gx hTx ⊢
    case' n1 =>
      refine ⟨_,rfl,_,rfl,tt,a,told,P',rfl,hT,gg _ _ hA,by omega,zP,I.mon,bT,(fun x hx => (bP x hx).mono (by decide)),fun b1 H1 g1 e1 => ?_⟩
      refine ⟨b1,rfl,?_⟩
      refine ite2 (fun c1 => ?b2) (fun c1 => ?n2)
    case' b2 =>
      have hne : ¬ (ripe = true ∧ told = g) := fun z => by
        have : b1 = true := e1.mpr (by rw [z.2]; exact G.one)
        rw [this] at c1; exact absurd c1 (by decide)
      have gx := gg.trans g1
      have hTx := g1 _ _ hT
      generalize H1 = Hx at gx hTx ⊢
    case' n2 =>
      refine ⟨_,rfl,_,rfl,tt,c,told,t,rfl,g1 _ _ hT,(gg.trans g1) _ _ hC,by omega,zt,I.mon,bT,bt,fun b2 H2 g2 e2 => ?_⟩
      refine ⟨b2,rfl,?_⟩
      refine ite2 (fun c2 => ?b3) (fun c2 => ?n3)
    case n3 =>
      have hb1 : b1 = true := by cases b1 <;> first | rfl | exact absurd rfl c1
      have hb2 : b2 = true := by cases b2 <;> first | rfl | exact absurd rfl c2
      have e := G.told I.mon (e1.mp hb1) (e2.mp hb2) I.ge
      subst e
      refine ⟨_,rfl,?_⟩
      exact q tt H2 (gg.trans (g1.trans g2)) ((g1.trans g2) _ _ hT)
    case' b3 =>
      have hne : ¬ (ripe = true ∧ told = g) := fun z => by
        have : b2 = true := e2.mpr (by rw [z.2]; exact G.two)
        rw [this] at c2; exact absurd c2 (by decide)
      have gx := gg.trans (g1.trans g2)
      have hTx := (g1.trans g2) _ _ hT
      generalize H2 = Hx at gx hTx ⊢
    all_goals
      have hfew := I.few G.ne hV hU hne
      obtain ⟨k,hk'⟩ : ∃ k,6000 - (bad + good) = k + 1 := ⟨6000 - (bad + good) - 1,by omega⟩
      rw [hk'] at hmany
      obtain ⟨q0,hq0,hlt0,hq0b,hnext⟩ := hmany.next
      refine ⟨_,fun _ _ z => z,?_⟩
      refine ⟨_,rfl,prime,q0,rfl,hq0,hlt0,by omega,fun p hp hlt hle => ?_⟩
      have hN := hnext p hle
      refine ⟨_,rfl,_,rfl,_,rfl,p,a,P',rfl,by omega,gx _ _ hA,by omega,fun t1 H3 g3 h3 => ?_⟩
      refine ⟨_,rfl,_,rfl,p,c,t,rfl,by omega,(gx.trans g3) _ _ hC,by omega,fun t2 H4 g4 h4 => ?_⟩
      have l1 := len_tkp p P'
      have l2 := len_tkp p t
      refine ⟨p,t1,t2,_,_,rfl,hp,by omega,g4 _ _ h3,h4,by omega,by omega,py_tkp p P',py_tkp p t,fun _ => ne_tkp hp hP,fun ts s' H5 g5 hS hG hsl => ?_⟩
      have sn := G.seen hp (co_tkp p P') (co_tkp p t) hG
      have lS : (s'.map V.int).length = s'.length := List.length_map _
      have lT : (told.map V.int).length = told.length := List.length_map _
      have gy := gx.trans (g3.trans (g4.trans g5))
      have hTy := (g3.trans (g4.trans g5)) _ _ hTx
      refine ⟨_,rfl,.ref ts,s'.length,rfl,.inr ⟨_,SqT.of hS,lS.symm⟩,_,rfl,.ref tt,told.length,rfl,.inr ⟨_,SqT.of hTy,lT.symm⟩,_,_,rfl,rfl,_,rfl,?_⟩
      refine ite2 (fun d1 => ?_) (fun d1 => ?_)
      · have d1' : (s'.length : Int) < told.length := dec_true d1
        refine ⟨_,rfl,ts,rfl,.inr ⟨⟨_,SqT.of hS⟩,comp_tup hS (by omega) rfl (fun x => Pm.nr p x) ?_ ?_⟩⟩
        · intro H6 x g6 hx kk hk
          exact ⟨_,rfl,_,rfl,p,x,rfl,by omega,hk⟩
        · intro D hD
          refine ⟨D,_,rfl,.inl ⟨SqL.of upd_same,fun tn ht => ?_⟩⟩
          obtain ⟨bad',good',hbg,I'⟩ := I.anew hp hlt (by omega) (by omega) sn (by omega)
          refine ⟨_,rfl,?_⟩
          exact ⟨6000 - (bad' + good'),by omega,_,_,tn,s'.map (Pm.nr p),p,p,true,bad',good',rfl,rfl,gy.trans ((Same.new hD _).trans (Same.new ht _)),upd_same,I',(by rw [hbg,show 6000 - (bad + good + 1) = k by omega]; exact hN),by omega,by omega⟩
      · have d1' : ¬ (s'.length : Int) < told.length := dec_false d1
        refine BarS.by (fun σ' H2 => ∃ m',m' < 6000 - (bad + good) ∧ WgInv H a c P' g N m' σ' H2) (fun N0 hN0 => ?_) (fun σ' H2 z => z)
        refine ⟨_,rfl,.ref ts,s'.length,rfl,.inr ⟨_,SqT.of hS,lS.symm⟩,_,rfl,.ref tt,told.length,rfl,.inr ⟨_,SqT.of hTy,lT.symm⟩,_,rfl,?_⟩
        refine ite2 (fun d2 => ?_) (fun d2 => ?_)
        · have d2' : (s'.length : Int) = told.length := dec_true d2
          have hl : s'.length = told.length := by omega
          have hpM : ¬ (p : Int) ∣ M := fun z => by have := I.div p hp z; omega
          refine ⟨_,rfl,?_⟩
          refine ⟨_,rfl,.ref ts,s'.length,rfl,.inr ⟨_,SqT.of hS,lS.symm⟩,?_⟩
          refine ⟨(s'.length : Int),rfl,(by omega : -(2 ^ 62) ≤ (s'.length : Int)),(by omega : (s'.length : Int) < 2 ^ 62),?_⟩
          rw [Int.toNat_natCast]
          refine comp_rng (n := s'.length) (by omega) rfl (fun k => Pm.jn M (told.getD k 0) p (s'.getD k 0)) ?_ ?_
          · intro H6 k6 g6 hk6 kk hk
            have e1 : (0 + (k6 : Int)).toNat = k6 := by omega
            refine ⟨_,rfl,_,rfl,_,rfl,_,_,.inr (SqT.of (g6 _ _ hTy)),atI_ints (ns := told) (by omega : (0 : Int) ≤ 0 + (k6 : Int)) (by omega),?_⟩
            refine ⟨_,rfl,_,rfl,_,rfl,_,_,.inr (SqT.of (g6 _ _ hS)),atI_ints (ns := s') (by omega : (0 : Int) ≤ 0 + (k6 : Int)) (by omega),?_⟩
            rw [e1]
            exact ⟨M,_,p,_,rfl,hp,by omega,I.pos,hpM,hk⟩
          · intro D hD
            refine ⟨D,_,rfl,.inl ⟨SqL.of upd_same,fun tn ht => ?_⟩⟩
            have gn := (Same.new hD (.lst ((Pm.ofF s'.length fun k => Pm.jn M (told.getD k 0) p (s'.getD k 0)).map V.int))).trans (Same.new ht (.tup ((Pm.ofF s'.length fun k => Pm.jn M (told.getD k 0) p (s'.getD k 0)).map V.int)))
            refine ⟨_,rfl,_,rfl,mulR (by omega) (by omega),?_⟩
            refine ⟨_,rfl,_,rfl,?_⟩
            refine eqTT (ns := Pm.ofF s'.length fun k => Pm.jn M (told.getD k 0) p (s'.getD k 0)) (ms := told) (SqT.of upd_same) (SqT.of (gn _ _ hTy)) ?_
            obtain ⟨bad',good',hbg,I'⟩ := I.join (told' := Pm.ofF s'.length fun k => Pm.jn M (told.getD k 0) p (s'.getD k 0)) (ripe' := decide ((Pm.ofF s'.length fun k => Pm.jn M (told.getD k 0) p (s'.getD k 0)) = told)) hp hlt (by omega) (by omega) sn hl (by rw [Pm.ofF_len]; exact hl) (fun k6 hk6 => ⟨Pm.jw M (told.getD k6 0) p (s'.getD k6 0),Pm.jw_ok hp hpM,by rw [Pm.co_ofF,if_pos (by omega)]; rfl⟩) (decide_eq_true_iff)
            exact hN0 _ _ ⟨6000 - (bad' + good'),by omega,_,_,tn,_,M * p,p,_,bad',good',rfl,rfl,gy.trans gn,upd_same,I',(by rw [hbg,show 6000 - (bad + good + 1) = k by omega]; exact hN),by omega,by omega⟩
        · have d2' : ¬ (s'.length : Int) = told.length := dec_false d2
          have I' := I.stay hp hlt (by omega) sn (by omega)
          exact hN0 _ _ ⟨6000 - (bad + 1 + good),by omega,_,_,tt,told,M,p,ripe,bad + 1,good,rfl,rfl,gy,hTy,I',(by rw [show 6000 - (bad + 1 + good) = k by omega]; exact hN),by omega,by omega⟩
theorem ok_of_rule (B : Bt mg) (F : Fn K mg "of_rule" s_of_rule ["by","rule"]) (C_taken : Cal P w K mg base "taken" 1 ["by","number"] spTaken) : Cal P w K mg base "of_rule" 2 ["by","rule"] spOfRule := by
  refine F.cal sc_of_rule (fun vs H Q E h => ?_) (fun f cdv A outer s H vs Q E hr h => ?_)
  · obtain ⟨b,a,c,rfl,_⟩ := h; rfl
  · obtain ⟨b,a,c,rfl,hb,hA,zA,q⟩ := h
    refine ⟨_,(pss_cons (ps_set (i := 2) sc_of_rule.nd rfl (Or.inr rfl) (pe_callB (xlen K) rfl B.b_len boot_len (pa_n (pv 1) pa_nil)))
      (pss_cons (ps_setC (i := 3) (hN := sc_of_rule.nd) (hi' := rfl) (hx := (Or.inl rfl)) (sc := cs_of_rule1) (N := ["k","by","length","rule"]) (ix := [none,some 0,some 2,some 1]) (comp_mk (by kernel_rfl) (by kernel_rfl) (by kernel_rfl) (by kernel_rfl) (by kernel_rfl) (by kernel_rfl) (by kernel_rfl) (by kernel_rfl)) rfl (pi_range1 rfl B.b_range (pa_n (pv 2) pa_nil)) (fun cl C s₀ H₀ ex => ⟨(pg_name (i := 0) (show (["k","by","length","rule"] : List Str).Nodup by decide +kernel) rfl (Or.inl rfl)),pif_nil,(pe_callC C_taken hr rfl (pa_n (pv 1) (pa_b (pe_op op_sub pe_int (pe_ix (xix K) (pv 3) (pe_op op_sub (pe_op op_sub (pv 2) pe_int) (pv 0)) (fun _ _ => rfl))) pa_nil)))⟩))
      (pss_one (ps_ret (pe_callTy (xtuple K) rfl B.b_tuple boot_tuple (pa_b (pe_op (xadd K) (pv 3) (pe_lst (pa_k pe_int pa_nil))) pa_nil)))))),?_⟩
    have lC : (c.map V.int).length = c.length := List.length_map _
    refine ⟨_,rfl,.ref a,c.length,rfl,.inr ⟨_,SqT.of hA,lC.symm⟩,?_⟩
    refine ⟨_,rfl,(c.length : Int),rfl,(by omega : -(2 ^ 62) ≤ (c.length : Int)),(by omega : (c.length : Int) < 2 ^ 62),?_⟩
    rw [Int.toNat_natCast]
    refine comp_rng (n := c.length) (by omega) rfl (fun k => Rm.tk b (0 - Pm.co c (c.length - 1 - k))) ?_ ?_
    · intro H2 k g2 hk kk hkk
      have e1 : ((c.length : Int) - 1 - (0 + (k : Int))).toNat = c.length - 1 - k := by omega
      refine ⟨_,rfl,_,rfl,_,rfl,_,_,rfl,rfl,_,rfl,_,_,rfl,rfl,_,_,.inr (SqT.of (g2 _ _ hA)),atI_ints (ns := c) (by omega : (0 : Int) ≤ (c.length : Int) - 1 - (0 + (k : Int))) (by omega),_,_,rfl,rfl,?_⟩
      refine ⟨b,_,rfl,hb,?_⟩
      rw [e1]
      exact hkk
    · intro D hD
      have g1 := Same.new hD (.lst ((Pm.ofF c.length fun k => Rm.tk b (0 - Pm.co c (c.length - 1 - k))).map V.int))
      refine ⟨_,rfl,(by show 1 ≤ sizeLine; decide),fun l2 hl2 => ?_⟩
      have g2 := Same.new hl2 (.lst [.int 1])
      refine .inl ⟨_,_,g2 _ _ upd_same,upd_same,?_,fun l3 hl3 => ?_⟩
      · rw [List.length_map,Pm.ofF_len]; exact Nat.le_of_lt (small1000 (by show _ + 1 ≤ 1000; omega))
      refine ⟨l3,_,rfl,.inl ⟨SqL.of upd_same,fun t ht => ?_⟩⟩
      refine q t _ (g1.trans (g2.trans ((Same.new hl3 _).trans (Same.new ht _)))) ?_
      rw [upd_same,Pm.ofRule,map_snoc]
theorem ok_rule_of (B : Bt mg) (F : Fn K mg "rule_of" s_rule_of ["by","poly"]) (C_taken : Cal P w K mg base "taken" 1 ["by","number"] spTaken) : Cal P w K mg base "rule_of" 2 ["by","poly"] spRuleOf := by
  refine F.cal sc_rule_of (fun vs H Q E h => ?_) (fun f cdv A outer s H vs Q E hr h => ?_)
  · obtain ⟨b,a,p,rfl,_⟩ := h; rfl
  · obtain ⟨b,a,p,rfl,hb,hA,z0,zA,q⟩ := h
    refine ⟨_,(pss_cons (ps_set (i := 2) sc_rule_of.nd rfl (Or.inr rfl) (pe_op op_sub (pe_callB (xlen K) rfl B.b_len boot_len (pa_n (pv 1) pa_nil)) pe_int))
      (pss_one (ps_ret (pe_callTy (xtuple K) rfl B.b_tuple boot_tuple (pa_cons (pe_comp (sc := cs_rule_of1) (N := ["k","by","length","poly"]) (ix := [none,some 0,some 2,some 1]) (comp_mk (by kernel_rfl) (by kernel_rfl) (by kernel_rfl) (by kernel_rfl) (by kernel_rfl) (by kernel_rfl) (by kernel_rfl) (by kernel_rfl)) rfl (pi_range1 rfl B.b_range (pa_n (pv 2) pa_nil)) (fun cl C s₀ H₀ ex => ⟨(pg_name (i := 0) (show (["k","by","length","poly"] : List Str).Nodup by decide +kernel) rfl (Or.inl rfl)),pif_nil,(pe_callC C_taken hr rfl (pa_n (pv 1) (pa_b (pe_op op_sub pe_int (pe_ix (xix K) (pv 3) (pe_op op_sub (pe_op op_sub (pv 2) pe_int) (pv 0)) (fun _ _ => rfl))) pa_nil)))⟩)) pa_nil))))),?_⟩
    have lC : (p.map V.int).length = p.length := List.length_map _
    refine ⟨_,rfl,.ref a,p.length,rfl,.inr ⟨_,SqT.of hA,lC.symm⟩,_,_,rfl,rfl,?_⟩
    refine ⟨_,rfl,(p.length : Int) - 1,rfl,(by omega : -(2 ^ 62) ≤ (p.length : Int) - 1),(by omega : (p.length : Int) - 1 < 2 ^ 62),?_⟩
    rw [show ((p.length : Int) - 1).toNat = p.length - 1 by omega]
    refine comp_rng (n := p.length - 1) (by omega) rfl (fun k => Rm.tk b (0 - Pm.co p (p.length - 1 - 1 - k))) ?_ ?_
    · intro H2 k g2 hk kk hkk
      have e1 : ((p.length : Int) - 1 - 1 - (0 + (k : Int))).toNat = p.length - 1 - 1 - k := by omega
      refine ⟨_,rfl,_,rfl,_,rfl,_,_,rfl,rfl,_,rfl,_,_,rfl,rfl,_,_,.inr (SqT.of (g2 _ _ hA)),atI_ints (ns := p) (by omega : (0 : Int) ≤ (p.length : Int) - 1 - 1 - (0 + (k : Int))) (by omega),_,_,rfl,rfl,?_⟩
      refine ⟨b,_,rfl,hb,?_⟩
      rw [e1]
      exact hkk
    · intro D hD
      refine ⟨D,_,rfl,.inl ⟨SqL.of upd_same,fun t ht => ?_⟩⟩
      exact q t _ ((Same.new hD _).trans (Same.new ht _)) upd_same
theorem ok_top_of (B : Bt mg) (F : Fn K mg "top_of" s_top_of ["row","poly"]) (C_taken : Cal P w K mg base "taken" 1 ["by","number"] spTaken) (C_trimmed : Cal P w K mg base "trimmed" 1 ["numbers"] (spTrim K)) : Cal P w K mg base "top_of" 2 ["row","poly"] spTop := by
  refine F.cal sc_top_of (fun vs H Q E h => ?_) (fun f cdv A outer s H vs Q E hr h => ?_)
  · obtain ⟨v,r,a,rfl,_⟩ := h; rfl
  · obtain ⟨v,r,a,rfl,⟨a0,p,p2,rfl,hA,hR,hS⟩,ok,hP,q⟩ := h
    refine ⟨_,(pss_cons (ps_set (i := 2) sc_top_of.nd rfl (Or.inl rfl) (pe_ix (xix K) (pv 0) pe_int (fun _ _ => rfl)))
      (pss_cons (ps_set (i := 3) sc_top_of.nd rfl (Or.inr rfl) (pe_ix (xix K) (pv 0) pe_int (fun _ _ => rfl)))
      (pss_cons (ps_set (i := 4) sc_top_of.nd rfl (Or.inl rfl) (pe_lst pa_nil))
      (pss_cons (ps_for PassesOwn.never rfl (pi_range1 rfl B.b_range (pa_cons (pe_callB (xlen K) rfl B.b_len boot_len (pa_n (pv 3) pa_nil)) pa_nil)) (pg_name (i := 5) sc_top_of.nd rfl (Or.inr rfl))
      (pss_cons (ps_setC (i := 6) (hN := sc_top_of.nd) (hi' := rfl) (hx := (Or.inl rfl)) (sc := cs_top_of1) (N := ["j","k","poly","starts"]) (ix := [none,some 5,some 1,some 3]) (comp_mk (by kernel_rfl) (by kernel_rfl) (by kernel_rfl) (by kernel_rfl) (by kernel_rfl) (by kernel_rfl) (by kernel_rfl) (by kernel_rfl)) rfl (pi_range2 rfl B.b_range (pa_b (pe_op (xadd K) (pv 5) pe_int) (pa_cons (pe_callB (xlen K) rfl B.b_len boot_len (pa_n (pv 1) pa_nil)) pa_nil))) (fun cl C s₀ H₀ ex => ⟨(pg_name (i := 0) (show (["j","k","poly","starts"] : List Str).Nodup by decide +kernel) rfl (Or.inl rfl)),pif_nil,(pe_op v_mul (pe_ix (xix K) (pv 2) (pv 0) (fun _ _ => rfl)) (pe_ix (xix K) (pv 3) (pe_op op_sub (pe_op op_sub (pv 0) pe_int) (pv 1)) (fun _ _ => rfl)))⟩))
      (pss_one (ps_expr (xappend K (pv 4) (pe_callC C_taken hr rfl (pa_n (pv 2) (pa_cons (pe_callB (xsum K rfl) rfl B.b_sum boot_sum (pa_n (pv 6) pa_nil)) pa_nil))))))))
      (pss_one (ps_ret (pe_callC C_trimmed hr rfl (pa_n (pv 4) pa_nil)))))))),?_⟩
    have hl := ok.len
    have hs := ok.short
    have lS : (r.starts.map V.int).length = r.starts.length := List.length_map _
    have lP : ((Pm.ofRule r.b r.rule).map V.int).length = r.rule.length + 1 := by rw [List.length_map,Pm.ofRule_len]
    refine ⟨_,rfl,_,_,.inr (SqT.of hA),rfl,?_⟩
    refine ⟨_,rfl,_,_,.inr (SqT.of hA),rfl,?_⟩
    refine ⟨Nat.zero_le _,fun l0 h0 => ?_⟩
    have g0 := Same.new h0 (.lst [])
    refine ⟨_,rfl,.ref p2,r.starts.length,rfl,.inr ⟨_,SqT.of (g0 _ _ hS),lS.symm⟩,?_⟩
    refine ⟨(r.starts.length : Int),rfl,(by omega : -(2 ^ 62) ≤ (r.starts.length : Int)),(by omega : (r.starts.length : Int) < 2 ^ 62),?_⟩
    refine for_range (lo := 0) (n := (r.starts.length : Int).toNat) (fun i σ' H' => ∃ o5 o6,σ' = [some (.ref a0),some (.ref a),some (.int r.b),some (.ref p2),some (.ref l0),o5,o6] ∧ Same H H' ∧ H' l0 = some (.lst ((Pm.ofF i fun k => Rm.tk r.b (Pm.tp (Pm.ofRule r.b r.rule) r.at k)).map V.int)))
      ⟨_,_,rfl,g0,upd_same⟩ ?_ ?_
    · rintro i σ' H' hi ⟨o5,o6,rfl,g,hL⟩
      have hi' : i < r.starts.length := by omega
      refine ⟨_,rfl,_,rfl,.ref a,r.rule.length + 1,rfl,.inr ⟨_,SqT.of (g _ _ hP),lP.symm⟩,?_⟩
      refine ⟨_,_,rfl,⟨by omega,by omega,by omega,by omega⟩,?_⟩
      rw [show (((r.rule.length + 1 : Nat) : Int) - (0 + (i : Int) + 1)).toNat = r.rule.length - i by omega]
      refine comp_rngL (lo := 0 + (i : Int) + 1) (n := r.rule.length - i) (by omega) rfl (fun k => Pm.co (Pm.ofRule r.b r.rule) (i + 1 + k) * r.at k) ?_ ?_
      · intro H2 k g2 hk kk hkk
        have e1 : (0 + (i : Int) + 1 + (k : Int)).toNat = i + 1 + k := by omega
        have e2 : (0 + (i : Int) + 1 + (k : Int) - 1 - (0 + (i : Int))).toNat = k := by omega
        have lq : (Pm.ofRule r.b r.rule).length = r.rule.length + 1 := Pm.ofRule_len ..
        refine ⟨_,rfl,_,rfl,_,_,.inr (SqT.of (g2 _ _ (g _ _ hP))),atI_ints (ns := Pm.ofRule r.b r.rule) (by omega : (0 : Int) ≤ 0 + (i : Int) + 1 + (k : Int)) (by omega),?_⟩
        refine ⟨_,rfl,_,rfl,_,_,rfl,rfl,_,rfl,_,_,rfl,rfl,_,_,.inr (SqT.of (g2 _ _ (g _ _ hS))),atI_ints (ns := r.starts) (by omega : (0 : Int) ≤ 0 + (i : Int) + 1 + (k : Int) - 1 - (0 + (i : Int))) (by omega),?_⟩
        refine ⟨mulBd (Rm.Bd.getD ok.poly_bd _) (Rm.Bd.getD ok.startsBd _) (by decide),?_⟩
        rw [e1,e2]
        have e3 : r.at k = r.starts.getD k 0 := Rm.at_lt (by omega)
        rw [e3] at hkk
        exact hkk
      · intro D hD
        have g3 := Same.new hD (.lst ((Pm.ofF (r.rule.length - i) fun k => Pm.co (Pm.ofRule r.b r.rule) (i + 1 + k) * r.at k).map V.int))
        have hL3 := g3 _ _ hL
        have lL : ((Pm.ofF i fun k => Rm.tk r.b (Pm.tp (Pm.ofRule r.b r.rule) r.at k)).map V.int).length = i := by rw [List.length_map,Pm.ofF_len]
        refine ⟨_,rfl,.inl ⟨rfl,_,SqL.of hL3⟩,_,rfl,_,rfl,D,_,rfl,SqL.of upd_same,r.b,_,rfl,ok.by0,?_⟩
        refine ⟨l0,_,_,rfl,rfl,hL3,?_,?_⟩
        · rw [lL]; exact small1000 (by omega)
        · refine ⟨_,_,rfl,(g.trans g3).upd h0 _,?_⟩
          rw [upd_same,Pm.ofF_succ,map_snoc]
          have e4 : Pm.tp (Pm.ofRule r.b r.rule) r.at i = (Pm.ofF (r.rule.length - i) fun k => Pm.co (Pm.ofRule r.b r.rule) (i + 1 + k) * r.at k).sum := by
            unfold Pm.tp
            rw [Pm.ofF,Pm.list_sum,Pm.ofRule_len,Nat.add_sub_cancel]
          rw [e4]
    · rintro σ' H' ⟨o5,o6,rfl,g,hL⟩
      refine ⟨_,rfl,l0,_,rfl,SqL.of hL,fun t1 H3 g3 h3 => ?_⟩
      refine q t1 H3 (g.trans g3) ?_
      rw [h3,topL,hl,Int.toNat_natCast]
theorem ok_shared_divisor (B : Bt mg) (F : Fn K mg "shared_divisor" s_shared_divisor ["by","one","other"]) (C_whole_greatest : Cal P w K mg base "whole_greatest" 6 ["one","other"] spWG) (C_greatest : Cal P w K mg base "greatest" 5 ["by","one","other"] spGreatestQ) : Cal P w K mg base "shared_divisor" 7 ["by","one","other"] spShared := by
  refine F.cal sc_shared_divisor (fun vs H Q E h => ?_) (fun f cdv A outer s H vs Q E hr h => ?_)
  · obtain ⟨b,a,c,P,t,rfl,_⟩ := h; rfl
  · obtain ⟨b,a,c,P',t,rfl,hA,hC,zP,zt,hP,bP,bt,h⟩ := h
    refine ⟨_,(pss_one (ps_ret (pe_ifExp (pt_cmpR (xeq K hr) (pv 0) pe_int (nomark _)) (pe_callC C_whole_greatest hr rfl (pa_n (pv 1) (pa_n (pv 2) pa_nil))) (pe_callC C_greatest hr rfl (pa_n (pv 0) (pa_n (pv 1) (pa_n (pv 2) pa_nil))))))),?_⟩
    refine ⟨_,rfl,_,rfl,?_⟩
    refine ite2 (fun c0 => ?_) (fun c0 => ?_)
    · have c0' : b = 0 := dec_true c0
      rcases h with ⟨_,g,N,U,V',G,hV,hU,hUV,q⟩ | ⟨p,rfl,hp,_⟩
      · exact ⟨_,rfl,_,rfl,a,c,P',t,g,N,U,V',rfl,hA,hC,zP,zt,hP,bP,bt,G,hV,hU,hUV,q⟩
      · have := hp.1; omega
    · have c0' : ¬ b = 0 := dec_false c0
      rcases h with ⟨z,_⟩ | ⟨p,rfl,hp,hpb,yP,yt,q⟩
      · exact absurd z c0'
      · exact ⟨_,rfl,_,rfl,_,rfl,p,a,c,P',t,rfl,hp,hpb,hA,hC,zP,zt,yP,yt,fun _ z => by have := hP.pos; rw [z] at this; exact absurd this (by decide),q⟩
theorem ok_least_of (B : Bt mg) (F : Fn K mg "least_of" s_least_of ["row"]) (C_of_rule : Cal P w K mg base "of_rule" 2 ["by","rule"] spOfRule) (C_top_of : Cal P w K mg base "top_of" 2 ["row","poly"] spTop) (C_divided : Cal P w K mg base "divided" 2 ["by","one","other"] spDividedQ) (C_shared_divisor : Cal P w K mg base "shared_divisor" 7 ["by","one","other"] spShared) : Cal P w K mg base "least_of" 8 ["row"] spLeast := by
  refine F.cal sc_least_of (fun vs H Q E h => ?_) (fun f cdv A outer s H vs Q E hr h => ?_)
  · obtain ⟨v,r,rfl,_⟩ := h; rfl
  · obtain ⟨v,r,rfl,⟨a0,p,p2,rfl,hA,hR,hS⟩,ok,hB,hT,q⟩ := h
    refine ⟨_,(pss_cons (ps_set (i := 1) sc_least_of.nd rfl (Or.inl rfl) (pe_ix (xix K) (pv 0) pe_int (fun _ _ => rfl)))
      (pss_cons (ps_set (i := 2) sc_least_of.nd rfl (Or.inl rfl) (pe_callC C_of_rule hr rfl (pa_n (pv 1) (pa_cons (pe_ix (xix K) (pv 0) pe_int (fun _ _ => rfl)) pa_nil))))
      (pss_cons (ps_set (i := 3) sc_least_of.nd rfl (Or.inl rfl) (pe_callC C_top_of hr rfl (pa_n (pv 0) (pa_n (pv 2) pa_nil))))
      (pss_one (ps_ret (pe_ix (xix K) (pe_callC C_divided hr rfl (pa_n (pv 1) (pa_n (pv 2) (pa_cons (pe_callC C_shared_divisor hr rfl (pa_n (pv 1) (pa_n (pv 2) (pa_n (pv 3) pa_nil)))) pa_nil)))) pe_int (fun _ _ => rfl))))))),?_⟩
    have hs := ok.short
    have hb1 := ok.by1
    have hm := Pm.ofRule_mon r.b r.rule
    have lq : (Pm.ofRule r.b r.rule).length = r.rule.length + 1 := Pm.ofRule_len ..
    refine ⟨_,rfl,_,_,.inr (SqT.of hA),rfl,?_⟩
    refine ⟨_,rfl,_,rfl,_,_,.inr (SqT.of hA),rfl,r.b,p,r.rule,rfl,ok.by0,hR,by omega,fun tP H1 g1 hP => ?_⟩
    refine ⟨_,rfl,_,rfl,.ref a0,r,tP,rfl,⟨a0,p,p2,rfl,g1 _ _ hA,g1 _ _ hR,g1 _ _ hS⟩,ok,hP,fun tT H2 g2 hTp => ?_⟩
    have hP2 := g2 _ _ hP
    have lt := topL_len r
    refine ⟨_,rfl,_,rfl,_,rfl,_,rfl,_,rfl,r.b,tP,tT,Pm.ofRule r.b r.rule,topL r,rfl,hP2,hTp,by omega,by omega,hm,(fun x hx => (ok.poly_bd x hx).mono (by decide)),topL_bd ok,?_⟩
    have nP := ofRule_nu r.b r.rule hB.one
    by_cases h0 : r.b = 0
    · obtain ⟨d,ua,u,hu10,hur,hQ0,hua,hsz⟩ := hT h0
      have hK := ok.kp
      rw [h0] at hK
      rw [h0] at hm lq
      obtain ⟨g,L,N,hL,hLy,hKL,hall,hlen,hE,G,hV,hU⟩ := Pm.gcz_bdD hm hK hQ0 hua (u := u) (e := 5) (U := u + 400) (fun k => by have := Pm.ofRule_bd ok.by0 ok.by1 hu10 hur; rw [h0] at this; exact Pm.Bd_co this k) (by rw [lq]; omega) (by rw [lq]; omega)
      have eT : Pm.co (topL r) = Pm.tp (Pm.ofRule 0 r.rule) r.at := funext fun k => by rw [topL_co,h0,Rm.tk_zero]
      refine .inl ⟨h0,g,N,_,_,by rw [h0,eT]; exact G,hV,hU,by omega,fun tg H3 g3 hg => ?_⟩
      have hgl : g.length ≤ r.rule.length + 1 := by have := hL.pos; omega
      have bg : ∀ x ∈ g,Rm.Bd 124000 x := fun x hx => by
        obtain ⟨k,hk,e⟩ := List.mem_iff_getElem.mp hx
        have := hU k
        rw [Pm.co_lt hk,e] at this
        exact this.mono (by omega)
      refine ⟨r.b,tP,tg,Pm.ofRule r.b r.rule,g,rfl,ok.by0,by omega,g3 _ _ hP2,hg,by rw [h0]; omega,by omega,G.mon,nP,(fun x hx => (ok.poly_bd x hx).mono (by decide)),bg,fun t x y o l H4 g4 ht hx hy D _ _ _ => ?_⟩
      refine ⟨_,_,.inr (SqT.of ht),rfl,?_⟩
      have D' : Pm.Div r.b (Pm.ofRule r.b r.rule) g L [] := ⟨by rw [h0]; exact hLy,Pm.Py.nil _,G.mon.pos,fun k => by rw [Pm.co_nil,Int.add_zero,h0,hE k]⟩
      obtain ⟨eo,_⟩ := D.uniq G.mon D'
      subst eo
      exact q x o H4 (g1.trans (g2.trans (g3.trans g4))) hx ⟨hL,fun k => by rw [h0]; exact Rm.tk_zero _,by rw [h0]; exact hKL,by rw [h0]; exact hall⟩ (by have := G.mon.pos; omega)
    · obtain ⟨P0,hP0,hb⟩ := hB.resolve_left h0
      have hp := primesN_pr hP0
      have hr := primesN_range P0 hP0
      have yP : Pm.Py (P0 : Int) (Pm.ofRule r.b r.rule) := by rw [← hb]; exact mon_py hm nP
      have yt : Pm.Py (P0 : Int) (topL r) := by rw [← hb]; exact Pm.Py.ofF ..
      refine .inr ⟨P0,hb,hp,by omega,yP,yt,fun tg g H3 g3 hg hG hgl => ?_⟩
      have bg : ∀ x ∈ g,Rm.Bd 124000 x := py_bd hr.1 (by omega) hG.py
      refine ⟨r.b,tP,tg,Pm.ofRule r.b r.rule,g,rfl,ok.by0,by omega,g3 _ _ hP2,hg,by omega,by omega,hG.mon,nP,(fun x hx => (ok.poly_bd x hx).mono (by decide)),bg,fun t x y o l H4 g4 ht hx hy D _ _ _ => ?_⟩
      refine ⟨_,_,.inr (SqT.of ht),rfl,?_⟩
      rw [hb] at D
      rw [← hb] at D
      obtain ⟨hl1,hl2⟩ := least_pr hp ok hb hG (by rw [hb] at D ⊢; exact D)
      exact q x o H4 (g1.trans (g2.trans (g3.trans g4))) hx hl1 hl2
theorem ok_shortest (B : Bt mg) (F : Fn K mg "shortest" s_shortest ["row"]) (C_least_of : Cal P w K mg base "least_of" 8 ["row"] spLeast) (C_rule_of : Cal P w K mg base "rule_of" 2 ["by","poly"] spRuleOf) : Cal P w K mg base "shortest" 9 ["row"] spShort := by
  refine F.cal sc_shortest (fun vs H Q E h => ?_) (fun f cdv A outer s H vs Q E hr h => ?_)
  · obtain ⟨v,r,rfl,_⟩ := h; rfl
  · obtain ⟨v,r,rfl,⟨a0,p,p2,rfl,hA,hR,hS⟩,ok,hB,hT,q⟩ := h
    refine ⟨_,(pss_cons (ps_set (i := 1) sc_shortest.nd rfl (Or.inl rfl) (pe_callC C_least_of hr rfl (pa_n (pv 0) pa_nil)))
      (pss_cons (ps_set (i := 2) sc_shortest.nd rfl (Or.inl rfl) (pe_callC C_rule_of hr rfl (pa_cons (pe_ix (xix K) (pv 0) pe_int (fun _ _ => rfl)) (pa_n (pv 1) pa_nil))))
      (pss_one (ps_ret (pe_tup (pa_cons (pe_ix (xix K) (pv 0) pe_int (fun _ _ => rfl)) (pa_n (pv 2) (pa_cons (pe_callTy (xtuple K) rfl B.b_tuple boot_tuple (pa_cons (pe_slice (xsl K) (pe_ix (xix K) (pv 0) pe_int (fun _ _ => rfl)) po_none (po_some (pe_callB (xlen K) rfl B.b_len boot_len (pa_n (pv 2) pa_nil)))) pa_nil)) pa_nil)))))))),?_⟩
    have hs := ok.short
    have hl := ok.len
    have lS : (r.starts.map V.int).length = r.starts.length := List.length_map _
    refine ⟨_,rfl,.ref a0,r,rfl,⟨a0,p,p2,rfl,hA,hR,hS⟩,ok,hB,hT,fun tL L H1 g1 hL lst ll => ?_⟩
    have hLp := lst.mon.pos
    refine ⟨_,rfl,_,_,.inr (SqT.of (g1 _ _ hA)),rfl,_,rfl,r.b,tL,L,rfl,ok.by0,hL,hLp,by omega,fun tR H2 g2 hR2 => ?_⟩
    have lR : ((Pm.ruleOf r.b L).map V.int).length = L.length - 1 := by rw [List.length_map,Pm.ruleOf_len]
    have hA2 := (g1.trans g2) _ _ hA
    have hS2 := (g1.trans g2) _ _ hS
    refine ⟨_,rfl,_,_,.inr (SqT.of hA2),rfl,_,rfl,_,rfl,_,_,.inr (SqT.of hA2),rfl,?_⟩
    refine ⟨_,rfl,.ref tR,L.length - 1,rfl,.inr ⟨_,SqT.of hR2,lR.symm⟩,?_⟩
    refine ⟨_,rfl,?_⟩
    by_cases hw : r.starts.length ≤ L.length - 1
    · refine .inr (.inr ⟨_,SqT.of hS2,?_,?_⟩)
      · rw [HT.sIx_nat,HT.sIx_none,lS]; omega
      · refine ⟨p2,_,rfl,.inr ⟨SqT.of hS2,?_⟩⟩
        refine ⟨(by show 3 ≤ sizeLine; decide),fun t ht => ?_⟩
        have g3 := Same.new ht (.tup [.int r.b,.ref tR,.ref p2])
        refine q (.ref t) L _ (g1.trans (g2.trans g3)) ⟨t,tR,p2,rfl,upd_same,g3 _ _ hR2,?_⟩ lst ll
        show _ = some (HO.tup ((r.starts.take (L.length - 1)).map V.int))
        rw [List.take_of_length_le hw]
        exact g3 _ _ hS2
    · refine .inr (.inl ⟨_,SqT.of hS2,?_,fun p3 hp3 => ?_⟩)
      · rw [HT.sIx_nat,HT.sIx_none,lS]; omega
      · refine ⟨p3,_,rfl,.inr ⟨SqT.of upd_same,?_⟩⟩
        have g3 := Same.new hp3 (.tup (cutV (r.starts.map V.int) none (some ((L.length - 1 : Nat) : Int))))
        refine ⟨(by show 3 ≤ sizeLine; decide),fun t ht => ?_⟩
        have g4 := Same.new ht (.tup [.int r.b,.ref tR,.ref p3])
        refine q (.ref t) L _ (g1.trans (g2.trans (g3.trans g4))) ⟨t,tR,p3,rfl,upd_same,(g3.trans g4) _ _ hR2,?_⟩ lst ll
        show _ = some (HO.tup ((r.starts.take (L.length - 1)).map V.int))
        rw [List.map_take,← cut_to]
        exact g4 _ _ upd_same
theorem ok_Lcell_at (B : Bt mg) (F : Fn K mg "_law_cell_at" s_Lcell_at ["_law_script","_law_k"]) : Cal P w K mg base "_law_cell_at" 1 ["_law_script","_law_k"] (spCell K) := by
  refine F.cal sc_Lcell_at (fun vs H Q E h => ?_) (fun f cdv A outer s H vs Q E hr h => ?_)
  · obtain ⟨a,ns,k,rfl,_⟩ := h; rfl
  · obtain ⟨a,ns,k,rfl,hS,h0,q⟩ := h
    refine ⟨_,(pss_cons (ps_if (pt_cmpR op_lt (pv 1) (pe_callB (xlen K) rfl B.b_len boot_len (pa_n (pv 0) pa_nil)) (nomark _))
      (pss_one (ps_ret (pe_ix (xix K) (pv 0) (pv 1) (fun _ _ => rfl))))
      pss_nil)
      (pss_one (ps_ret pe_int))),?_⟩
    have hl : (ns.map V.int).length = ns.length := List.length_map _
    refine ⟨_,rfl,_,rfl,.ref a,ns.length,rfl,.inl ⟨_,hS,hl.symm⟩,_,_,rfl,rfl,_,rfl,?_⟩
    refine ite2 (fun c => ?_) (fun c => ?_)
    · have c' : k < (ns.length : Int) := dec_true c
      refine ⟨_,rfl,_,rfl,ns.map V.int,.int (ns.getD k.toNat 0),.inl hS,atI_ints h0 c',?_⟩
      have e : cellAt ns k = ns.getD k.toNat 0 := if_pos c'
      rw [e] at q; exact q
    · have c' : ¬ k < (ns.length : Int) := dec_false c
      have e : cellAt ns k = 0 := if_neg c'
      rw [e] at q; exact q
theorem ok_Lmixed (B : Bt mg) (F : Fn K mg "_law_mixed" s_Lmixed ["_law_cell","_law_k"]) : Cal P w K mg base "_law_mixed" 1 ["_law_cell","_law_k"] spMixed := by
  refine F.cal sc_Lmixed (fun vs H Q E h => ?_) (fun f cdv A outer s H vs Q E hr h => ?_)
  · obtain ⟨c,k,rfl,_⟩ := h; rfl
  · obtain ⟨c,k,rfl,h0,h1,q⟩ := h
    refine ⟨_,(pss_cons (ps_set (i := 2) sc_Lmixed.nd rfl (Or.inl rfl) (pe_op op_mod (pe_op v_mul (pe_op (xadd K) (pe_op op_mod (pv 0) pe_int) pe_int) (pe_op (xadd K) (pe_op v_mul (pv 1) (pv 1)) pe_int)) pe_int))
      (pss_one (ps_ret (pe_op op_mod (pe_op v_mul (pv 2) (pe_op (xadd K) (pv 2) (pe_op v_mul pe_int (pv 1)))) pe_int)))),?_⟩
    have b1 : 0 ≤ c % 2147483647 := emod_lo _ (by decide)
    have b2 : c % 2147483647 < 2147483647 := emod_hi _ (by decide)
    refine ⟨_,rfl,_,_,rfl,rfl,(by decide : (0 : Int) < 2147483647),?_⟩
    refine ⟨_,rfl,_,rfl,mulL (by omega) (by omega),?_⟩
    refine ⟨mulL (by show -(2 ^ 64) < c % 2147483647 + 1; omega) (by show c % 2147483647 + 1 < 2 ^ 64; omega),_,_,rfl,rfl,(by decide : (0 : Int) < 2147483629),?_⟩
    have m0 : 0 ≤ mixedN c k := emod_lo _ (by decide)
    have m1 : mixedN c k < 2147483629 := emod_hi _ (by decide)
    refine ⟨_,rfl,_,rfl,_,rfl,mulL (by decide) (by decide),?_⟩
    refine ⟨mulL (by show -(2 ^ 64) < mixedN c k; omega) (by show mixedN c k < 2 ^ 64; omega),_,_,rfl,rfl,(by decide : (0 : Int) < 2147483587),?_⟩
    exact q
theorem ok_Lby (B : Bt mg) (F : Fn K mg "_law_by" s_Lby ["_law_cell"]) : Cal P w K mg base "_law_by" 1 ["_law_cell"] spBy16 := by
  refine F.cal sc_Lby (fun vs H Q E h => ?_) (fun f cdv A outer s H vs Q E hr h => ?_)
  · obtain ⟨c,rfl,_⟩ := h; rfl
  · obtain ⟨c,rfl,q⟩ := h
    refine ⟨_,(pss_one (ps_ret (pe_ix (xix K) (pe_lst (pa_k pe_int (pa_k pe_int (pa_k pe_int (pa_k pe_int (pa_k pe_int (pa_k pe_int (pa_k pe_int (pa_k pe_int pa_nil))))))))) (pe_op op_mod (pv 0) pe_int) (fun _ _ => rfl)))),?_⟩
    refine ⟨(by show 8 ≤ sizeLine; decide),fun p hp => ?_⟩
    refine ⟨_,rfl,_,_,rfl,rfl,(by decide : (0 : Int) < 8),?_⟩
    refine ⟨_,_,.inl (SqL.of upd_same),atI_ints (ns := byT) (emod_lo _ (by decide)) (emod_hi _ (by decide)),?_⟩
    exact q _ (Same.new hp _)
theorem ok_Ltaken (B : Bt mg) (F : Fn K mg "_law_taken" s_Ltaken ["_law_by_here","_law_number_here"]) : Cal P w K mg base "_law_taken" 1 ["_law_by_here","_law_number_here"] spTaken := by
  refine F.cal sc_Ltaken (fun vs H Q E h => ?_) (fun f cdv A outer s H vs Q E hr h => ?_)
  · obtain ⟨b,n,rfl,_⟩ := h; rfl
  · obtain ⟨b,n,rfl,h0,q⟩ := h
    refine ⟨_,(pss_cons (ps_if (pt_cmpR (xeq K hr) (pv 0) pe_int (nomark _))
      (pss_one (ps_ret (pv 1)))
      pss_nil)
      (pss_one (ps_ret (pe_op op_mod (pv 1) (pv 0))))),?_⟩
    refine ⟨_,rfl,_,rfl,?_⟩
    refine ite2 (fun c => ?_) (fun c => ?_)
    · refine ⟨_,rfl,?_⟩
      have c' : b = 0 := dec_true c
      have e : Rm.tk b n = n := by rw [c',Rm.tk_zero]
      rw [e] at q; exact q
    · have c' : ¬ b = 0 := dec_false c
      refine ⟨_,rfl,_,rfl,_,_,rfl,rfl,(by omega : (0 : Int) < b),?_⟩
      rw [Rm.tk_pos c'] at q; exact q
theorem ok_Lnumber (B : Bt mg) (F : Fn K mg "_law_number" s_Lnumber ["_law_by_here","_law_cell","_law_sort"]) : Cal P w K mg base "_law_number" 1 ["_law_by_here","_law_cell","_law_sort"] spNum15 := by
  refine F.cal sc_Lnumber (fun vs H Q E h => ?_) (fun f cdv A outer s H vs Q E hr h => ?_)
  · obtain ⟨b,c,s,rfl,_⟩ := h; rfl
  · obtain ⟨b,c,so,rfl,q⟩ := h
    refine ⟨_,(pss_cons (ps_if (pt_cmpR op_gt (pv 0) pe_int (nomark _))
      (pss_one (ps_ret (pe_op op_mod (pv 1) (pv 0))))
      pss_nil)
      (pss_cons (ps_if (pt_cmpR (xeq K hr) (pv 2) pe_int (nomark _))
      (pss_one (ps_ret (pe_op op_sub (pe_op op_mod (pv 1) pe_int) pe_int)))
      pss_nil)
      (pss_cons (ps_if (pt_cmpR (xeq K hr) (pv 2) pe_int (nomark _))
      (pss_one (ps_ret (pe_op op_sub (pe_op op_mod (pv 1) pe_int) pe_int)))
      pss_nil)
      (pss_one (ps_ret (pe_op (xadd K) (pe_op op_sub (pe_op op_mod (pe_op v_mul (pv 1) pe_int) (pe_op op_sub (pe_op v_mul pe_int (pe_op op_pow pe_int pe_int)) pe_int)) (pe_op op_pow pe_int pe_int)) pe_int)))))),?_⟩
    refine ⟨_,rfl,_,_,rfl,rfl,_,rfl,?_⟩
    refine ite2 (fun cc => ?_) (fun cc => ?_)
    · have c' : 0 < b := dec_true cc
      refine ⟨_,rfl,_,rfl,_,_,rfl,rfl,c',?_⟩
      have e : num15 b c so = c % b := if_pos c'
      rw [e] at q; exact q
    · have c' : ¬ b > 0 := dec_false cc
      refine ⟨_,rfl,_,rfl,?_⟩
      refine ite2 (fun c1 => ?_) (fun c1 => ?_)
      · refine ⟨_,rfl,_,_,rfl,rfl,(by decide : (0 : Int) < 7),_,_,rfl,rfl,?_⟩
        have e : num15 b c so = c % 7 - 3 := by rw [num15,if_neg c',if_pos (dec_true c1)]
        rw [e] at q; exact q
      · have n0 := dec_false c1
        refine ⟨_,rfl,_,rfl,?_⟩
        refine ite2 (fun c2 => ?_) (fun c2 => ?_)
        · refine ⟨_,rfl,_,_,rfl,rfl,(by decide : (0 : Int) < 201),_,_,rfl,rfl,?_⟩
          have e : num15 b c so = c % 201 - 100 := by rw [num15,if_neg c',if_neg n0,if_pos (dec_true c2)]
          rw [e] at q; exact q
        · have e : num15 b c so = c * 7919 % (2 * 10 ^ 12 - 1) - 10 ^ 12 + 1 := by rw [num15,if_neg c',if_neg n0,if_neg (dec_false c2)]
          rw [e] at q
          refine ⟨_,rfl,mulR (by decide) (by decide),?_⟩
          refine ⟨_,_,rfl,rfl,⟨by decide,by decide,by decide⟩,mulL (by decide) (by decide),_,_,rfl,rfl,_,_,rfl,rfl,(by decide : (0 : Int) < 2 * 10 ^ 12 - 1),?_⟩
          exact ⟨_,_,rfl,rfl,⟨by decide,by decide,by decide⟩,_,_,rfl,rfl,q⟩
theorem ok_Lgone (B : Bt mg) (F : Fn K mg "_law_gone" s_Lgone ["_law_row_here","_law_count"]) (C_Ltaken : Cal P w K mg base "_law_taken" 1 ["_law_by_here","_law_number_here"] spTaken) : Cal P w K mg base "_law_gone" 2 ["_law_row_here","_law_count"] spGone := by
  refine F.cal sc_Lgone (fun vs H Q E h => ?_) (fun f cdv A outer s H vs Q E hr h => ?_)
  · obtain ⟨v,r,c,rfl,_⟩ := h; rfl
  · obtain ⟨v,r,c,rfl,⟨a,p,p2,rfl,hA,hR,hS⟩,ok,hc0,hc1,q⟩ := h
    refine ⟨_,(pss_cons (ps_asg (pv 0) (xgtup K (n := 3) rfl (pgs_cons (pg_name (i := 2) sc_Lgone.nd rfl (Or.inl rfl)) (pgs_cons (pg_name (i := 3) sc_Lgone.nd rfl (Or.inl rfl)) (pgs_cons (pg_name (i := 4) sc_Lgone.nd rfl (Or.inl rfl)) pgs_nil)))))
      (pss_cons (ps_set (i := 5) sc_Lgone.nd rfl (Or.inl rfl) (pe_bar (pe_callTy (xlist K) rfl B.b_list boot_list (pa_cons (pe_slice (xsl K) (pv 4) po_none (po_some (pv 1))) pa_nil))))
      (pss_cons (ps_while PassesOwn.never (pt_cmpR op_lt (pe_callB (xlen K) rfl B.b_len boot_len (pa_n (pv 5) pa_nil)) (pv 1) (nomark _))
      (pss_cons (ps_set (i := 6) sc_Lgone.nd rfl (Or.inl rfl) pe_int)
      (pss_cons (ps_for PassesOwn.never rfl (pi_enum K rfl B.b_enumerate (pa_n (pv 3) pa_nil)) (xgtup K (n := 2) rfl (pgs_cons (pg_name (i := 7) sc_Lgone.nd rfl (Or.inl rfl)) (pgs_cons (pg_name (i := 8) sc_Lgone.nd rfl (Or.inl rfl)) pgs_nil)))
      (pss_one (ps_set (i := 6) sc_Lgone.nd rfl (Or.inl rfl) (pe_op (xadd K) (pv 6) (pe_op v_mul (pv 8) (pe_ix (xix K) (pv 5) (pe_op op_sub (pe_op op_sub (pe_callB (xlen K) rfl B.b_len boot_len (pa_n (pv 5) pa_nil)) pe_int) (pv 7)) (fun _ _ => rfl)))))))
      (pss_one (ps_expr (xappend K (pv 5) (pe_callC C_Ltaken hr rfl (pa_n (pv 2) (pa_n (pv 6) pa_nil)))))))))
      (pss_one (ps_ret (pv 5)))))),?_⟩
    have hl := ok.len
    have hl2 := ok.short
    have lS : (r.starts.map V.int).length = r.starts.length := List.length_map _
    have lR : (r.rule.map V.int).length = r.rule.length := List.length_map _
    refine ⟨_,rfl,a,_,rfl,SqT.of hA,rfl,_,_,rfl,_,_,rfl,_,_,rfl,rfl,?_⟩
    have hcut : cutV (r.starts.map V.int) none (some c) = (r.row (min c.toNat r.starts.length)).map V.int := by
      have e : r.row (min c.toNat r.starts.length) = r.starts.take (min c.toNat r.starts.length) := Rm.row_starts (Nat.min_le_right _ _)
      rw [e]
      have e2 : c = ((c.toNat : Nat) : Int) := by omega
      unfold cutV
      rw [e2,HT.sIx_nat,HT.sIx_none,List.drop_zero,Nat.sub_zero,lS,List.map_take,Int.toNat_natCast]
    refine Bar.by (fun v H1 => ∃ l,v = .ref l ∧ Same H H1 ∧ H l = none ∧ H1 l = some (.lst ((r.row (min c.toNat r.starts.length)).map V.int))) (fun kk hkk => ?_) ?_
    · refine ⟨_,rfl,_,rfl,_,rfl,?_⟩
      by_cases hw : r.starts.length ≤ c.toNat
      · refine .inr (.inr ⟨_,SqT.of hS,?_,?_⟩)
        · have e2 : c = ((c.toNat : Nat) : Int) := by omega
          rw [e2,HT.sIx_nat,HT.sIx_none,lS]; omega
        · refine ⟨p2,_,rfl,.inr (SqT.of hS),fun l hl1 => hkk _ _ ⟨l,rfl,Same.new hl1 _,hl1,?_⟩⟩
          rw [upd_same,Nat.min_eq_right hw]
          have e : r.row r.starts.length = r.starts := (Rm.row_starts (Nat.le_refl _)).trans (List.take_length ..)
          rw [e]
      · refine .inr (.inl ⟨_,SqT.of hS,?_,fun p3 hp3 => ?_⟩)
        · have e2 : c = ((c.toNat : Nat) : Int) := by omega
          rw [e2,HT.sIx_nat,HT.sIx_none,lS]; omega
        · refine ⟨p3,_,rfl,.inr (SqT.of upd_same),fun l hl1 => ?_⟩
          have g3 := Same.new hp3 (.tup (cutV (r.starts.map V.int) none (some c)))
          refine hkk _ _ ⟨l,rfl,g3.trans (Same.new hl1 _),g3.free hl1,?_⟩
          rw [upd_same,hcut]
    rintro v H1 ⟨l,rfl,g1,hl1,hr1⟩
    refine ⟨fun m σ' H' => ∃ (n : Nat) (o6 o7 o8 : Option V),m = c.toNat - n ∧ min c.toNat r.starts.length ≤ n ∧ n ≤ c.toNat ∧ σ' = [some (.ref a),some (.int c),some (.int r.b),some (.ref p),some (.ref p2),some (.ref l),o6,o7,o8] ∧ Same H H' ∧ H' l = some (.lst ((r.row n).map V.int)),
      ⟨_,min c.toNat r.starts.length,_,_,_,rfl,Nat.le_refl _,Nat.min_le_left _ _,rfl,g1,hr1⟩,?_⟩
    rintro m σ' H' ⟨n,o6,o7,o8,rfl,h1,h2,rfl,g,hL⟩
    have lL : ((r.row n).map V.int).length = n := by rw [List.length_map,Rw.row_len]
    have lN : (r.row n).length = n := Rw.row_len ..
    refine ⟨_,rfl,.ref l,n,rfl,.inl ⟨_,SqL.of hL,lL.symm⟩,_,rfl,_,_,rfl,rfl,_,rfl,?_⟩
    refine ite2 (fun cc => ?_) (fun cc => ?_)
    · have hn : n < c.toNat := by have := dec_true cc; omega
      refine ⟨_,fun _ _ z => z,?_⟩
      refine ⟨_,rfl,true,p,_,rfl,SqT.of (g _ _ hR),?_⟩
      refine for_enum (t := true) (a := p) (xs := r.rule.map V.int) (fun i σ' H2 => ∃ (o7 o8 : Option V),σ' = [some (.ref a),some (.int c),some (.int r.b),some (.ref p),some (.ref p2),some (.ref l),some (.int (Rm.S r.rule (fun i => (r.row n).getD i 0) n i)),o7,o8] ∧ Same H' H2) ⟨_,_,rfl,Same.refl _⟩ (fun i σ' H2 ⟨_,_,_,z⟩ => SqT.of (z _ _ (g _ _ hR))) ?_ ?_
      · rintro i x σ' H2 pt hx ⟨o7,o8,rfl,g2⟩ hpt
        obtain ⟨rfl,hi⟩ := map_int_get hx
        have g3 := Same.new hpt (.tup [.int (i : Int),.int (Pm.co r.rule i)])
        have hL3 := g3 _ _ (g2 _ _ hL)
        refine ⟨pt,_,rfl,SqT.of upd_same,rfl,_,_,rfl,_,_,rfl,rfl,?_⟩
        refine ⟨_,rfl,_,rfl,_,rfl,_,rfl,.ref l,n,rfl,.inl ⟨_,SqL.of hL3,lL.symm⟩,_,_,rfl,rfl,_,rfl,_,_,rfl,rfl,_,_,.inl (SqL.of hL3),atI_ints (ns := r.row n) (by omega : (0 : Int) ≤ (n : Int) - 1 - (i : Int)) (by omega),?_⟩
        refine ⟨mulBd (Pm.Bd_co ok.ruleBd i) (Rm.Bd.getD (ok.rowBd n (by omega)) _) (by decide),?_⟩
        refine ⟨some (.int (i : Int)),some (.int (Pm.co r.rule i)),?_,g2.trans g3⟩
        rw [show ((n : Int) - 1 - (i : Int)).toNat = n - 1 - i by omega]
        rfl
      rintro σ' H2 ⟨o7,o8,rfl,g2⟩
      rw [lR]
      have hL2 := g2 _ _ hL
      refine ⟨_,rfl,.inl ⟨rfl,_,SqL.of hL2⟩,_,rfl,_,rfl,r.b,_,rfl,ok.by0,?_⟩
      refine ⟨l,_,_,rfl,rfl,hL2,?_,?_⟩
      · rw [lL]; exact small1000 (by omega)
      · refine ⟨c.toNat - (n + 1),by omega,n + 1,_,_,_,rfl,by omega,by omega,rfl,(g.trans g2).upd hl1 _,?_⟩
        rw [upd_same]
        have e : r.row (n + 1) = r.row n ++ [Rm.tk r.b (Rm.S r.rule (fun i => (r.row n).getD i 0) n r.rule.length)] := by
          show _ ++ [if n < r.starts.length then r.starts.getD n 0 else _] = _
          rw [if_neg (by omega)]; rfl
        rw [e,List.map_append]; rfl
    · have hn : n = c.toNat := by have := dec_false cc; omega
      subst hn
      exact ⟨_,rfl,q l H' g hl1 hL⟩
theorem ok_Lrow (B : Bt mg) (F : Fn K mg "_law_row" s_Lrow ["_law_script","_law_start","_law_by_here","_law_most"]) (C_Lcell_at : Cal P w K mg base "_law_cell_at" 1 ["_law_script","_law_k"] (spCell K)) (C_Lnumber : Cal P w K mg base "_law_number" 1 ["_law_by_here","_law_cell","_law_sort"] spNum15) (C_Lmixed : Cal P w K mg base "_law_mixed" 1 ["_law_cell","_law_k"] spMixed) : Cal P w K mg base "_law_row" 2 ["_law_script","_law_start","_law_by_here","_law_most"] (spRow20 K) := by
  refine F.cal sc_Lrow (fun vs H Q E h => ?_) (fun f cdv A outer s H vs Q E hr h => ?_)
  · obtain ⟨a,ns,st,b,most,rfl,_⟩ := h; rfl
  · obtain ⟨a,ns,st,b,most,rfl,hS,s0,hB,hm,q⟩ := h
    refine ⟨_,(pss_cons (ps_set (i := 4) sc_Lrow.nd rfl (Or.inr rfl) (pe_callC C_Lcell_at hr rfl (pa_n (pv 0) (pa_n (pv 1) pa_nil))))
      (pss_cons (ps_set (i := 5) sc_Lrow.nd rfl (Or.inl rfl) (pe_op op_mod (pv 4) (pe_op (xadd K) (pv 3) pe_int)))
      (pss_cons (ps_set (i := 6) sc_Lrow.nd rfl (Or.inr rfl) (pe_ix (xix K) (pe_lst (pa_k pe_int (pa_k pe_int (pa_k pe_int (pa_k pe_int (pa_k pe_int (pa_k pe_int pa_nil))))))) (pe_op op_mod (pe_op op_fdiv (pv 4) pe_int) pe_int) (fun _ _ => rfl)))
      (pss_cons (ps_setC (i := 7) (hN := sc_Lrow.nd) (hi' := rfl) (hx := (Or.inl rfl)) (sc := cs_Lrow1) (N := ["_law_k","_law_by_here","_law_script","_law_sort","_law_start"]) (ix := [none,some 2,some 0,some 6,some 1]) (comp_mk (by kernel_rfl) (by kernel_rfl) (by kernel_rfl) (by kernel_rfl) (by kernel_rfl) (by kernel_rfl) (by kernel_rfl) (by kernel_rfl)) rfl (pi_range1 rfl B.b_range (pa_n (pv 5) pa_nil)) (fun cl C s₀ H₀ ex => ⟨(pg_name (i := 0) (show (["_law_k","_law_by_here","_law_script","_law_sort","_law_start"] : List Str).Nodup by decide +kernel) rfl (Or.inl rfl)),pif_nil,(pe_callC C_Lnumber hr rfl (pa_n (pv 1) (pa_cons (pe_callC C_Lmixed hr rfl (pa_cons (pe_callC C_Lcell_at hr rfl (pa_n (pv 2) (pa_b (pe_op (xadd K) (pv 4) pe_int) pa_nil))) (pa_n (pv 0) pa_nil))) (pa_n (pv 3) pa_nil))))⟩))
      (pss_cons (ps_setC (i := 8) (hN := sc_Lrow.nd) (hi' := rfl) (hx := (Or.inl rfl)) (sc := cs_Lrow2) (N := ["_law_k","_law_by_here","_law_script","_law_sort","_law_start"]) (ix := [none,some 2,some 0,some 6,some 1]) (comp_mk (by kernel_rfl) (by kernel_rfl) (by kernel_rfl) (by kernel_rfl) (by kernel_rfl) (by kernel_rfl) (by kernel_rfl) (by kernel_rfl)) rfl (pi_range1 rfl B.b_range (pa_n (pv 5) pa_nil)) (fun cl C s₀ H₀ ex => ⟨(pg_name (i := 0) (show (["_law_k","_law_by_here","_law_script","_law_sort","_law_start"] : List Str).Nodup by decide +kernel) rfl (Or.inl rfl)),pif_nil,(pe_callC C_Lnumber hr rfl (pa_n (pv 1) (pa_cons (pe_callC C_Lmixed hr rfl (pa_cons (pe_callC C_Lcell_at hr rfl (pa_n (pv 2) (pa_b (pe_op (xadd K) (pv 4) pe_int) pa_nil))) (pa_b (pe_op (xadd K) pe_int (pv 0)) pa_nil))) (pa_n (pv 3) pa_nil))))⟩))
      (pss_cons (ps_bar (ps_if (pt_cmpR (xeq K hr) (pe_op op_mod (pe_op op_fdiv (pv 4) pe_int) pe_int) pe_int (nomark _))
      (pss_one (ps_setC (i := 7) (hN := sc_Lrow.nd) (hi' := rfl) (hx := (Or.inl rfl)) (sc := cs_Lrow3) (N := ["_law_k","_law_number_here","_law_cell"]) (ix := [none,none,some 4]) (comp_mk (by kernel_rfl) (by kernel_rfl) (by kernel_rfl) (by kernel_rfl) (by kernel_rfl) (by kernel_rfl) (by kernel_rfl) (by kernel_rfl)) rfl (pi_enum K rfl B.b_enumerate (pa_n (pv 7) pa_nil)) (fun cl C s₀ H₀ ex => ⟨(xgtup K (n := 2) rfl (pgs_cons (pg_name (i := 0) (show (["_law_k","_law_number_here","_law_cell"] : List Str).Nodup by decide +kernel) rfl (Or.inl rfl)) (pgs_cons (pg_name (i := 1) (show (["_law_k","_law_number_here","_law_cell"] : List Str).Nodup by decide +kernel) rfl (Or.inl rfl)) pgs_nil))),pif_nil,(pe_op v_mul (pv 1) (pe_op op_mod (pe_callC C_Lmixed hr rfl (pa_n (pv 2) (pa_b (pe_op (xadd K) pe_int (pv 0)) pa_nil))) pe_int))⟩)))
      pss_nil))
      (pss_cons (ps_bar (ps_if (PW.pt (pw_and (pt_cmpR (xeq K hr) (pe_op op_mod (pe_op op_fdiv (pv 4) pe_int) pe_int) pe_int (nomark _)) (pw_and1 (pt_cmpR op_gt (pv 5) pe_int (nomark _)))))
      (pss_one (ps_set (i := 8) sc_Lrow.nd rfl (Or.inl rfl) (pe_op (xadd K) (pe_op v_mul (pe_lst (pa_k pe_int pa_nil)) (pe_op op_sub (pv 5) pe_int)) (pe_lst (pa_cons (pe_ix (xix K) (pv 8) (pe_un un_neg pe_int) (fun _ _ => rfl)) pa_nil)))))
      pss_nil))
      (pss_one (ps_ret (pe_tup (pa_n (pv 2) (pa_cons (pe_callTy (xtuple K) rfl B.b_tuple boot_tuple (pa_n (pv 7) pa_nil)) (pa_cons (pe_callTy (xtuple K) rfl B.b_tuple boot_tuple (pa_n (pv 8) pa_nil)) pa_nil))))))))))))),?_⟩
    obtain ⟨hb0,hb1,_⟩ := hB.range
    refine ⟨_,rfl,_,rfl,a,ns,st,rfl,hS,s0,?_⟩
    generalize cellAt ns st = c
    refine ⟨_,rfl,_,rfl,_,_,rfl,rfl,(by show 0 < (most : Int) + 1; omega),?_⟩
    obtain ⟨N,eN,hN⟩ : ∃ N : Nat,c % ((most : Int) + 1) = (N : Int) ∧ N ≤ most := by
      have h0 := emod_lo c (show 0 < (most : Int) + 1 by omega)
      have h1 := emod_hi c (show 0 < (most : Int) + 1 by omega)
      exact ⟨_,(Int.toNat_of_nonneg h0).symm,by omega⟩
    dsimp only
    rw [eN]
    refine ⟨(by show 6 ≤ sizeLine; decide),fun p6 hp6 => ?_⟩
    have g1 := Same.new hp6 (.lst (sortL.map V.int))
    have e0 := emod_lo (c / 13) (show (0 : Int) < 6 by decide)
    have e1 := emod_hi (c / 13) (show (0 : Int) < 6 by decide)
    refine ⟨_,rfl,_,_,rfl,rfl,⟨by decide,by decide⟩,_,_,rfl,rfl,(by decide : (0 : Int) < 6),_,_,.inl (SqL.of upd_same),atI_ints (ns := sortL) e0 e1,?_⟩
    generalize sortL.getD (c / 13 % 6).toNat 0 = so
    have eH : (upd H p6 (.lst [.int 0,.int 0,.int 0,.int 1,.int 0,.int 2])) = upd H p6 (.lst (sortL.map V.int)) := rfl
    rw [eH]
    generalize upd H p6 (.lst (sortL.map V.int)) = H1 at g1
    have hS1 := g1.seq hS
    refine ⟨_,rfl,(N : Int),rfl,(by omega : -(2 ^ 62) ≤ (N : Int)),(by omega : (N : Int) < 2 ^ 62),?_⟩
    rw [Int.toNat_natCast]
    refine comp_rng (n := N) (by omega) rfl (fun k => num15 b (mixedI (cellAt ns (st + 1)) (0 + (k : Int))) so) ?_ ?_
    · intro H2 k g2 hk kk hkk
      exact ⟨_,rfl,_,rfl,_,rfl,a,ns,st + 1,rfl,g2.seq hS1,by omega,_,rfl,cellAt ns (st + 1),0 + (k : Int),rfl,by omega,by omega,_,rfl,b,_,so,rfl,hkk⟩
    intro D1 hD1
    generalize hr0 : (Pm.ofF N fun k => num15 b (mixedI (cellAt ns (st + 1)) (0 + (k : Int))) so) = rule
    have lr : rule.length = N := by rw [← hr0]; exact Pm.ofF_len ..
    have nr : ∀ x ∈ rule,IsNum b x ∧ Rm.Bd 40 x := fun x hx => by
      rw [← hr0] at hx
      obtain ⟨j,_,rfl⟩ := Pm.mem_ofF hx
      exact ⟨num15_num hB _ _,num15_bd hb1 _ _⟩
    clear hr0
    have g2 := Same.new hD1 (.lst (rule.map V.int))
    have h1 : (upd H1 D1 (.lst (rule.map V.int))) D1 = some (.lst (rule.map V.int)) := upd_same
    generalize upd H1 D1 (.lst (rule.map V.int)) = H2 at g2 h1
    have hS2 := g2.seq hS1
    refine ⟨_,rfl,(N : Int),rfl,(by omega : -(2 ^ 62) ≤ (N : Int)),(by omega : (N : Int) < 2 ^ 62),?_⟩
    rw [Int.toNat_natCast]
    refine comp_rng (n := N) (by omega) rfl (fun k => num15 b (mixedI (cellAt ns (st + 2)) (20 + (0 + (k : Int)))) so) ?_ ?_
    · intro H3 k g3 hk kk hkk
      exact ⟨_,rfl,_,rfl,_,rfl,a,ns,st + 2,rfl,g3.seq hS2,by omega,_,rfl,cellAt ns (st + 2),20 + (0 + (k : Int)),rfl,by omega,by omega,_,rfl,b,_,so,rfl,hkk⟩
    intro D2 hD2
    generalize hs0 : (Pm.ofF N fun k => num15 b (mixedI (cellAt ns (st + 2)) (20 + (0 + (k : Int)))) so) = starts
    have ls : starts.length = N := by rw [← hs0]; exact Pm.ofF_len ..
    have nst : ∀ x ∈ starts,IsNum b x ∧ Rm.Bd 40 x := fun x hx => by
      rw [← hs0] at hx
      obtain ⟨j,_,rfl⟩ := Pm.mem_ofF hx
      exact ⟨num15_num hB _ _,num15_bd hb1 _ _⟩
    clear hs0
    have g3 := Same.new hD2 (.lst (starts.map V.int))
    have h2 : (upd H2 D2 (.lst (starts.map V.int))) D2 = some (.lst (starts.map V.int)) := upd_same
    have h1' := g3 _ _ h1
    generalize upd H2 D2 (.lst (starts.map V.int)) = H3 at g3 h2 h1'
    have gA := g1.trans (g2.trans g3)
    refine BarS.by (fun σ' H' => ∃ (l1 : Addr) (rule : List Int),σ' = [some (.ref a),some (.int st),some (.int b),some (.int most),some (.int c),some (.int N),some (.int so),some (.ref l1),some (.ref D2)] ∧ Same H3 H' ∧ H' l1 = some (.lst (rule.map V.int)) ∧ rule.length = N ∧ ∀ x ∈ rule,IsNum b x ∧ Rm.Bd 40 x) (fun NN hNN => ?_) ?_
    · refine ⟨_,rfl,_,_,rfl,rfl,⟨by decide,by decide⟩,_,_,rfl,rfl,(by decide : (0 : Int) < 3),_,rfl,?_⟩
      refine ite2 (fun _ => ?_) (fun _ => hNN _ _ ⟨D1,rule,rfl,Same.refl _,h1',lr,nr⟩)
      refine ⟨_,rfl,false,D1,_,rfl,SqL.of h1',?_⟩
      refine comp_enum (t := false) (SqL.of h1') (by rw [List.length_map,lr]; exact Nat.le_of_lt (small1000 (by omega))) rfl (fun k x => match x with | .int n => .int (n * (mixedI c (40 + (k : Int)) % 2)) | _ => .non) ?_ ?_
      · intro H4 k x g4 hxk kk hkk
        obtain ⟨rfl,hk⟩ := map_int_get hxk
        have m0 := emod_lo (mixedI c (40 + (k : Int))) (show (0 : Int) < 2 by decide)
        have m1 := emod_hi (mixedI c (40 + (k : Int))) (show (0 : Int) < 2 by decide)
        exact ⟨_,rfl,_,rfl,_,rfl,c,40 + (k : Int),rfl,by omega,by omega,_,_,rfl,rfl,(by decide : (0 : Int) < 2),mulR (by show -(2 ^ 64) < mixedI c (40 + (k : Int)) % 2; omega) (by show mixedI c (40 + (k : Int)) % 2 < 2 ^ 64; omega),hkk _ (Same.refl _)⟩
      · intro D3 H4 hD3 g4 hD4
        have ed : H4 D3 = some (.lst ((Pm.ofF rule.length fun k => Pm.co rule k * (mixedI c (40 + (k : Int)) % 2)).map V.int)) := hD4.trans (congrArg (fun z => some (HO.lst z)) (ofF_mapIdx rule fun k n => n * (mixedI c (40 + (k : Int)) % 2)))
        refine hNN _ _ ⟨D3,_,rfl,g4,ed,by rw [Pm.ofF_len]; exact lr,fun x hx => ?_⟩
        obtain ⟨k,hk,rfl⟩ := Pm.mem_ofF hx
        have nk := nr _ (Pm.co_mem hk)
        have m0 := emod_lo (mixedI c (40 + (k : Int))) (show (0 : Int) < 2 by decide)
        have m1 := emod_hi (mixedI c (40 + (k : Int))) (show (0 : Int) < 2 by decide)
        rcases (show mixedI c (40 + (k : Int)) % 2 = 0 ∨ mixedI c (40 + (k : Int)) % 2 = 1 by omega) with z | z
        · rw [z,Int.mul_zero]; exact ⟨IsNum.zero hB,Rm.Bd.zero _⟩
        · rw [z,Int.mul_one]; exact nk
    clear nr lr h1 h1'
    rintro σ' H4 ⟨l1,rule,rfl,g4,h1,lr,nr⟩
    have h2' := g4 _ _ h2
    refine BarS.by (fun σ' H' => ∃ (l2 : Addr) (starts : List Int),σ' = [some (.ref a),some (.int st),some (.int b),some (.int most),some (.int c),some (.int N),some (.int so),some (.ref l1),some (.ref l2)] ∧ Same H4 H' ∧ H' l2 = some (.lst (starts.map V.int)) ∧ starts.length = N ∧ ∀ x ∈ starts,IsNum b x ∧ Rm.Bd 40 x) (fun NN hNN => ?_) ?_
    · refine ⟨_,rfl,_,_,rfl,rfl,⟨by decide,by decide⟩,_,_,rfl,rfl,(by decide : (0 : Int) < 3),_,rfl,?_⟩
      refine ite2 (fun _ => ?_) (fun _ => iteF (hNN _ _ ⟨D2,starts,rfl,Same.refl _,h2',ls,nst⟩))
      refine ⟨_,rfl,_,_,rfl,rfl,_,rfl,?_⟩
      refine ite2 (fun cc => ?_) (fun _ => hNN _ _ ⟨D2,starts,rfl,Same.refl _,h2',ls,nst⟩)
      have hN0 : 0 < N := by have := dec_true cc; omega
      refine ⟨(by show 1 ≤ sizeLine; decide),fun m1 hm1 => ?_⟩
      have k1 := Same.new hm1 (.lst [.int 0])
      have e1 : (upd H4 m1 (.lst [.int 0])) m1 = some (.lst [.int 0]) := upd_same
      generalize upd H4 m1 (.lst [.int 0]) = G1 at k1 e1
      refine ⟨_,rfl,_,_,rfl,rfl,_,e1,by omega,by omega,?_,fun m2 hm2 => ?_⟩
      · show 1 * ((N : Int) - 1).toNat ≤ sizeLine
        rw [Nat.one_mul]; exact Nat.le_of_lt (small1000 (by omega))
      rw [show ((N : Int) - 1).toNat = N - 1 by omega,replicate_ofF]
      have k2 := Same.new hm2 (.lst ((Pm.ofF (N - 1) fun _ => 0).map V.int))
      have e2 : (upd G1 m2 (.lst ((Pm.ofF (N - 1) fun _ => 0).map V.int))) m2 = some (.lst ((Pm.ofF (N - 1) fun _ => 0).map V.int)) := upd_same
      generalize upd G1 m2 (.lst ((Pm.ofF (N - 1) fun _ => 0).map V.int)) = G2 at k2 e2
      have h2G := k2 _ _ (k1 _ _ h2')
      refine ⟨_,rfl,_,rfl,_,_,.inl (SqL.of h2G),atI_back (ns := starts) (N - 1) (by omega) (by omega),(by show 1 ≤ sizeLine; decide),fun m3 hm3 => ?_⟩
      have k3 := Same.new hm3 (.lst [.int (starts.getD (N - 1) 0)])
      have e3 : (upd G2 m3 (.lst [.int (starts.getD (N - 1) 0)])) m3 = some (.lst [.int (starts.getD (N - 1) 0)]) := upd_same
      have e2' := k3 _ _ e2
      generalize upd G2 m3 (.lst [.int (starts.getD (N - 1) 0)]) = G3 at k3 e3 e2'
      refine .inl ⟨_,_,e2',e3,?_,fun m4 hm4 => ?_⟩
      · rw [List.length_map,Pm.ofF_len]; exact Nat.le_of_lt (small1000 (by show _ + 1 ≤ 1000; omega))
      have k4 := Same.new hm4 (.lst ((Pm.ofF (N - 1) fun _ => 0).map V.int ++ [.int (starts.getD (N - 1) 0)]))
      refine hNN _ _ ⟨m4,(Pm.ofF (N - 1) fun _ => 0) ++ [Pm.co starts (N - 1)],rfl,k1.trans (k2.trans (k3.trans k4)),by rw [upd_same,map_snoc]; rfl,by rw [List.length_append,Pm.ofF_len]; show N - 1 + 1 = N; omega,fun x hx => ?_⟩
      rcases List.mem_append.mp hx with hx | hx
      · obtain ⟨_,_,rfl⟩ := Pm.mem_ofF hx
        exact ⟨IsNum.zero hB,Rm.Bd.zero _⟩
      · rw [List.mem_singleton.mp hx]; exact nst _ (Pm.co_mem (by omega))
    clear nst ls h2 h2'
    rintro σ' H5 ⟨l2,starts,rfl,g5,h2,ls,nst⟩
    refine ⟨_,rfl,_,rfl,l1,_,rfl,.inl ⟨SqL.of (g5 _ _ h1),fun t1 ht1 => ?_⟩⟩
    have gt1 := Same.new ht1 (.tup (rule.map V.int))
    refine ⟨_,rfl,l2,_,rfl,.inl ⟨SqL.of (gt1 _ _ h2),fun t2 ht2 => ?_⟩⟩
    have gt2 := Same.new ht2 (.tup (starts.map V.int))
    refine ⟨(by show 3 ≤ sizeLine; decide),fun t3 ht3 => ?_⟩
    have gt3 := Same.new ht3 (.tup [.int b,.ref t1,.ref t2])
    exact q (.ref t3) ⟨b,rule,starts⟩ _ (gA.trans (g4.trans (g5.trans (gt1.trans (gt2.trans gt3))))) ⟨t3,t1,t2,rfl,upd_same,gt3 _ _ (gt2 _ _ upd_same),gt3 _ _ upd_same⟩ ⟨rfl,lr.trans ls.symm,by show rule.length ≤ most; omega,fun x hx => (nr x hx).1,fun x hx => (nst x hx).1,fun x hx => (nr x hx).2,fun x hx => (nst x hx).2⟩
theorem ok_Llonger (B : Bt mg) (F : Fn K mg "_law_longer" s_Llonger ["_law_row_here","_law_number_here"]) (C_Lgone : Cal P w K mg base "_law_gone" 2 ["_law_row_here","_law_count"] spGone) (C_Ltaken : Cal P w K mg base "_law_taken" 1 ["_law_by_here","_law_number_here"] spTaken) : Cal P w K mg base "_law_longer" 3 ["_law_row_here","_law_number_here"] spLonger20 := by
  refine F.cal sc_Llonger (fun vs H Q E h => ?_) (fun f cdv A outer s H vs Q E hr h => ?_)
  · obtain ⟨v,r,n,rfl,_⟩ := h; rfl
  · obtain ⟨v,r,n,rfl,hRI,ok,hsh,hn,q⟩ := h
    refine ⟨_,(pss_cons (ps_asg (pv 0) (xgtup K (n := 3) rfl (pgs_cons (pg_name (i := 2) sc_Llonger.nd rfl (Or.inr rfl)) (pgs_cons (pg_name (i := 3) sc_Llonger.nd rfl (Or.inl rfl)) (pgs_cons (pg_name (i := 4) sc_Llonger.nd rfl (Or.inl rfl)) pgs_nil)))))
      (pss_cons (ps_set (i := 5) sc_Llonger.nd rfl (Or.inl rfl) (pe_op (xadd K) (pe_lst (pa_k pe_int pa_nil)) (pe_comp (sc := cs_Llonger1) (N := ["_law_part"]) (ix := [none]) (comp_mk (by kernel_rfl) (by kernel_rfl) (by kernel_rfl) (by kernel_rfl) (by kernel_rfl) (by kernel_rfl) (by kernel_rfl) (by kernel_rfl)) rfl (xseq K (pv 3)) (fun cl C s₀ H₀ ex => ⟨(pg_name (i := 0) (show (["_law_part"] : List Str).Nodup by decide +kernel) rfl (Or.inl rfl)),pif_nil,(pe_op op_sub pe_int (pv 0))⟩))))
      (pss_cons (ps_setC (i := 5) (hN := sc_Llonger.nd) (hi' := rfl) (hx := (Or.inl rfl)) (sc := cs_Llonger2) (N := ["_law_one","_law_other","_law_number_here"]) (ix := [none,none,some 1]) (comp_mk (by kernel_rfl) (by kernel_rfl) (by kernel_rfl) (by kernel_rfl) (by kernel_rfl) (by kernel_rfl) (by kernel_rfl) (by kernel_rfl)) rfl (pi_zip K rfl B.b_zip (pa_b (pe_op (xadd K) (pv 5) (pe_lst (pa_k pe_int pa_nil))) (pa_b (pe_op (xadd K) (pe_lst (pa_k pe_int pa_nil)) (pv 5)) pa_nil))) (fun cl C s₀ H₀ ex => ⟨(xgtup K (n := 2) rfl (pgs_cons (pg_name (i := 0) (show (["_law_one","_law_other","_law_number_here"] : List Str).Nodup by decide +kernel) rfl (Or.inl rfl)) (pgs_cons (pg_name (i := 1) (show (["_law_one","_law_other","_law_number_here"] : List Str).Nodup by decide +kernel) rfl (Or.inl rfl)) pgs_nil))),pif_nil,(pe_op op_sub (pv 0) (pe_op v_mul (pv 2) (pv 1)))⟩))
      (pss_cons (ps_set (i := 6) sc_Llonger.nd rfl (Or.inl rfl) (pe_callC C_Lgone hr rfl (pa_n (pv 0) (pa_b (pe_op (xadd K) (pe_callB (xlen K) rfl B.b_len boot_len (pa_n (pv 3) pa_nil)) pe_int) pa_nil))))
      (pss_one (ps_ret (pe_tup (pa_n (pv 2) (pa_cons (pe_callTy (xtuple K) rfl B.b_tuple boot_tuple (pa_cons (pe_comp (sc := cs_Llonger3) (N := ["_law_part","_law_by_here"]) (ix := [none,some 2]) (comp_mk (by kernel_rfl) (by kernel_rfl) (by kernel_rfl) (by kernel_rfl) (by kernel_rfl) (by kernel_rfl) (by kernel_rfl) (by kernel_rfl)) rfl (xseq K (pe_slice (xsl K) (pv 5) (po_some pe_int) po_none)) (fun cl C s₀ H₀ ex => ⟨(pg_name (i := 0) (show (["_law_part","_law_by_here"] : List Str).Nodup by decide +kernel) rfl (Or.inl rfl)),pif_nil,(pe_callC C_Ltaken hr rfl (pa_n (pv 1) (pa_b (pe_op op_sub pe_int (pv 0)) pa_nil)))⟩)) pa_nil)) (pa_cons (pe_callTy (xtuple K) rfl B.b_tuple boot_tuple (pa_n (pv 6) pa_nil)) pa_nil)))))))))),?_⟩
    obtain ⟨a,p,p2,rfl,hA,hR,hS⟩ := id hRI
    have lR : (r.rule.map V.int).length = r.rule.length := List.length_map _
    refine ⟨_,rfl,a,_,rfl,SqT.of hA,rfl,_,_,rfl,_,_,rfl,_,_,rfl,rfl,?_⟩
    refine ⟨(by show 1 ≤ sizeLine; decide),fun l1 hl1 => ?_⟩
    have g1 := Same.new hl1 (.lst [.int 1])
    have h1 : (upd H l1 (.lst [.int 1])) l1 = some (.lst [.int 1]) := upd_same
    generalize upd H l1 (.lst [.int 1]) = H1 at g1 h1
    refine ⟨_,rfl,p,rfl,.inr ⟨⟨_,SqT.of (g1 _ _ hR)⟩,?_⟩⟩
    refine comp_tup (g1 _ _ hR) (by omega) rfl (fun x => 0 - x) ?_ ?_
    · intro H2 x g2 hx k hk
      exact ⟨_,rfl,_,_,rfl,rfl,hk⟩
    intro D1 hD1
    have g2 := Same.new hD1 (.lst ((r.rule.map fun x => 0 - x).map V.int))
    have h2 : (upd H1 D1 (.lst ((r.rule.map fun x => 0 - x).map V.int))) D1 = some (.lst ((r.rule.map fun x => 0 - x).map V.int)) := upd_same
    have h1' := g2 _ _ h1
    generalize upd H1 D1 (.lst ((r.rule.map fun x => 0 - x).map V.int)) = H2 at g2 h2 h1'
    refine .inl ⟨_,_,h1',h2,?_,fun l2 hl2 => ?_⟩
    · rw [List.length_map,List.length_map]; exact Nat.le_of_lt (small1000 (by show 1 + _ ≤ 1000; omega))
    have g3 := Same.new hl2 (.lst ([.int 1] ++ (r.rule.map fun x => 0 - x).map V.int))
    have h3 : (upd H2 l2 (.lst ([.int 1] ++ (r.rule.map fun x => 0 - x).map V.int))) l2 = some (.lst ((lowL r.rule).map V.int)) := upd_same
    generalize upd H2 l2 (.lst ([.int 1] ++ (r.rule.map fun x => 0 - x).map V.int)) = H3 at g3 h3
    have lLo := lowL_len r.rule
    refine ⟨_,rfl,(by show 1 ≤ sizeLine; decide),fun l3 hl3 => ?_⟩
    have g4 := Same.new hl3 (.lst [.int 0])
    have h4 : (upd H3 l3 (.lst [.int 0])) l3 = some (.lst [.int 0]) := upd_same
    have h3a := g4 _ _ h3
    generalize upd H3 l3 (.lst [.int 0]) = H4 at g4 h4 h3a
    refine .inl ⟨_,_,h3a,h4,?_,fun l4 hl4 => ?_⟩
    · rw [List.length_map,lLo]; exact Nat.le_of_lt (small1000 (by show _ + 1 ≤ 1000; omega))
    have g5 := Same.new hl4 (.lst ((lowL r.rule).map V.int ++ [.int 0]))
    have h5 : (upd H4 l4 (.lst ((lowL r.rule).map V.int ++ [.int 0]))) l4 = some (.lst ((lowL r.rule ++ [0]).map V.int)) := by rw [upd_same,map_snoc]
    have h3b := g5 _ _ h3a
    generalize upd H4 l4 (.lst ((lowL r.rule).map V.int ++ [.int 0])) = H5 at g5 h5 h3b
    refine ⟨(by show 1 ≤ sizeLine; decide),fun l5 hl5 => ?_⟩
    have g6 := Same.new hl5 (.lst [.int 0])
    have h6 : (upd H5 l5 (.lst [.int 0])) l5 = some (.lst [.int 0]) := upd_same
    have h3c := g6 _ _ h3b
    have h5a := g6 _ _ h5
    generalize upd H5 l5 (.lst [.int 0]) = H6 at g6 h6 h3c h5a
    refine ⟨_,rfl,.inl ⟨_,_,h6,h3c,?_,fun l6 hl6 => ?_⟩⟩
    · rw [List.length_map,lLo]; exact Nat.le_of_lt (small1000 (by show 1 + _ ≤ 1000; omega))
    have g7 := Same.new hl6 (.lst ([.int 0] ++ (lowL r.rule).map V.int))
    have h7 : (upd H6 l6 (.lst ([.int 0] ++ (lowL r.rule).map V.int))) l6 = some (.lst (([0] ++ lowL r.rule).map V.int)) := upd_same
    have h5b := g7 _ _ h5a
    generalize upd H6 l6 (.lst ([.int 0] ++ (lowL r.rule).map V.int)) = H7 at g7 h7 h5b
    refine ⟨false,false,l4,l6,_,_,rfl,SqL.of h5b,SqL.of h7,?_⟩
    refine comp_zip (t1 := false) (t2 := false) (SqL.of h5b) (SqL.of h7) (by rw [List.length_map,List.length_append,lLo]; exact Nat.le_of_lt (small1000 (by show _ + 1 + 1 ≤ 1000; omega))) rfl (zipF fun x y => x - n * y) ?_ ?_
    · intro H8 k x y g8 hxk hyk kk hkk
      obtain ⟨rfl,_⟩ := map_int_get hxk
      obtain ⟨rfl,_⟩ := map_int_get hyk
      exact ⟨_,rfl,_,rfl,_,rfl,mulL (by have := hn; unfold Rm.Bd at this; omega) (by have := hn; unfold Rm.Bd at this; omega),_,_,rfl,rfl,hkk⟩
    intro D2 H8 hD2 g8 hD8
    rw [zipF_map] at hD8
    have eM : List.zipWith (fun x y => x - n * y) (lowL r.rule ++ [0]) ([0] ++ lowL r.rule) = midL n r.rule := rfl
    rw [eM] at hD8
    have gA := g1.trans (g2.trans (g3.trans (g4.trans (g5.trans (g6.trans (g7.trans g8))))))
    refine ⟨_,rfl,_,rfl,.ref p,r.rule.length,rfl,.inr ⟨_,SqT.of (gA _ _ hR),lR.symm⟩,.ref a,r,(r.rule.length : Int) + 1,rfl,hRI.same gA,ok,by omega,by omega,fun ls H9 g9 fs hs => ?_⟩
    rw [show ((r.rule.length : Int) + 1).toNat = r.rule.length + 1 by omega] at hs
    refine ⟨_,rfl,_,rfl,_,rfl,.inl ⟨_,SqL.of (g9 _ _ hD8),fun l7 hl7 => ?_⟩⟩
    rw [show (1 : Int) = ((1 : Nat) : Int) from rfl,cut_drop,← List.map_drop]
    have g10 := Same.new hl7 (.lst (((midL n r.rule).drop 1).map V.int))
    have h10 : (upd H9 l7 (.lst (((midL n r.rule).drop 1).map V.int))) l7 = some (.lst (((midL n r.rule).drop 1).map V.int)) := upd_same
    have hs10 := g10 _ _ hs
    generalize upd H9 l7 (.lst (((midL n r.rule).drop 1).map V.int)) = H10 at g10 h10 hs10
    refine ⟨l7,rfl,.inl ⟨⟨_,SqL.of h10⟩,?_⟩⟩
    refine comp_lst h10 (by rw [List.length_drop,midL_len]; omega) rfl (fun x => Rm.tk r.b (0 - x)) ?_ ?_
    · intro H11 x g11 hx k hk
      exact ⟨_,rfl,_,rfl,_,_,rfl,rfl,r.b,_,rfl,ok.by0,hk⟩
    intro D3 hD3
    rw [longerR_mid]
    have g11 := Same.new hD3 (.lst ((longerR r.b n r.rule).map V.int))
    refine ⟨D3,_,rfl,.inl ⟨SqL.of upd_same,fun t1 ht1 => ?_⟩⟩
    have gt1 := Same.new ht1 (.tup ((longerR r.b n r.rule).map V.int))
    refine ⟨_,rfl,ls,_,rfl,.inl ⟨SqL.of (gt1 _ _ (g11 _ _ hs10)),fun t2 ht2 => ?_⟩⟩
    have gt2 := Same.new ht2 (.tup ((r.row (r.rule.length + 1)).map V.int))
    refine ⟨(by show 3 ≤ sizeLine; decide),fun t3 ht3 => ?_⟩
    have gt3 := Same.new ht3 (.tup [.int r.b,.ref t1,.ref t2])
    exact q (.ref t3) _ (gA.trans (g9.trans (g10.trans (g11.trans (gt1.trans (gt2.trans gt3)))))) ⟨t3,t1,t2,rfl,upd_same,gt3 _ _ (gt2 _ _ upd_same),gt3 _ _ upd_same⟩
theorem ok_line_taken (B : Bt mg) (F : Fn K mg "line_taken" s_line_taken ["by","line"]) (C_taken : Cal P w K mg base "taken" 1 ["by","number"] spTaken) : Cal P w K mg base "line_taken" 2 ["by","line"] (spLineTaken K) := by
  refine F.cal sc_line_taken (fun vs H Q E h => ?_) (fun f cdv A outer s H vs Q E hr h => ?_)
  · obtain ⟨b,l,p,rfl,_⟩ := h; rfl
  · obtain ⟨b,l,p,rfl,hb,hL,z,q⟩ := h
    refine ⟨_,(pss_one (ps_ret (pe_comp (sc := cs_line_taken1) (N := ["number","by"]) (ix := [none,some 0]) (comp_mk (by kernel_rfl) (by kernel_rfl) (by kernel_rfl) (by kernel_rfl) (by kernel_rfl) (by kernel_rfl) (by kernel_rfl) (by kernel_rfl)) rfl (xseq K (pv 1)) (fun cl C s₀ H₀ ex => ⟨(pg_name (i := 0) (show (["number","by"] : List Str).Nodup by decide +kernel) rfl (Or.inl rfl)),pif_nil,(pe_callC C_taken hr rfl (pa_n (pv 1) (pa_n (pv 0) pa_nil)))⟩)))),?_⟩
    refine ⟨_,rfl,l,rfl,.inl ⟨⟨_,SqL.of hL⟩,comp_lst hL z rfl (Rm.tk b) ?_ ?_⟩⟩
    · intro H2 x g2 hx k hk
      exact ⟨_,rfl,_,rfl,b,x,rfl,hb,hk⟩
    · intro D hD
      exact q D _ (Same.new hD _) hD upd_same
theorem ok_head_line (B : Bt mg) (F : Fn K mg "head_line" s_head_line ["lines","begin","column"]) : Cal P w K mg base "head_line" 1 ["lines","begin","column"] spHeadLine := by
  refine F.cal sc_head_line (fun vs H Q E h => ?_) (fun f cdv A outer s H vs Q E hr h => ?_)
  · obtain ⟨ll,xs,L,W,r,c,cI,ex,rfl,_⟩ := h; rfl
  · obtain ⟨ll,xs,L,W,r,c,cI,ex,rfl,rfl,hL,hx,hw,hc,z,hr',q1,q2⟩ := h
    refine ⟨_,(pss_cons (ps_for PassesOwn.never rfl (pi_range2 rfl B.b_range (pa_n (pv 1) (pa_cons (pe_callB (xlen K) rfl B.b_len boot_len (pa_n (pv 0) pa_nil)) pa_nil))) (pg_name (i := 3) sc_head_line.nd rfl (Or.inl rfl))
      (pss_one (ps_if (pt_cmpR (xne K hr) (pe_ix (xix K) (pe_ix (xix K) (pv 0) (pv 3) (fun _ _ => rfl)) (pv 2) (fun _ _ => rfl)) pe_int (nomark _))
      (pss_one (ps_ret (pv 3)))
      pss_nil)))
      (pss_one (ps_ret pe_non))),?_⟩
    have lx := hx.len
    refine ⟨_,rfl,_,rfl,.ref ll,L.length,rfl,.inl ⟨_,SqL.of hL,lx.symm⟩,?_⟩
    refine ⟨(r : Int),(L.length : Int),rfl,⟨by omega,by omega,by omega,by omega⟩,?_⟩
    refine for_range (lo := (r : Int)) (n := ((L.length : Int) - (r : Int)).toNat) (fun i σ' H' => ∃ o,σ' = [some (.ref ll),some (.int r),some (.int c),o] ∧ H' = H ∧ ∀ j,r ≤ j → j < r + i → Pm.co (Dm.ln L j) c = 0) ⟨_,rfl,rfl,fun j h1 h2 => absurd h2 (by omega)⟩ ?_ ?_
    · rintro i σ' H' hi ⟨o,rfl,rfl,hz⟩
      have hi' : r + i < L.length := by omega
      obtain ⟨t,e1,_,e2⟩ := hx.get hi'
      have ei : (r : Int) + (i : Int) = ((r + i : Nat) : Int) := by omega
      have wl := hw (r + i) hi'
      refine ⟨_,rfl,_,rfl,_,.ref t,.inl (SqL.of hL),atI_len (r + i) ei e1,_,rfl,_,_,.inl (SqL.of e2),atI_ints (ns := Dm.ln L (r + i)) (by omega : (0 : Int) ≤ (c : Int)) (by omega),_,rfl,?_⟩
      rw [Int.toNat_natCast]
      by_cases hz' : (Dm.ln L (r + i)).getD c 0 = 0
      · refine iteNS hz' ⟨_,rfl,rfl,fun j h1 h2 => ?_⟩
        by_cases e : j = r + i
        · rw [e]; exact hz'
        · exact hz j h1 (by omega)
      · rw [decide_eq_false hz']
        refine iteT ⟨_,rfl,?_⟩
        have := q1 (r + i) (by omega) hi' hz'
        rw [← ei] at this
        exact this
    · rintro σ' H' ⟨o,rfl,rfl,hz⟩
      exact q2 fun i h1 h2 => hz i h1 (by omega)
theorem ok_bring_up (B : Bt mg) (F : Fn K mg "bring_up" s_bring_up ["by","lines","at","top"]) (C_taken : Cal P w K mg base "taken" 1 ["by","number"] spTaken) : Cal P w K mg base "bring_up" 2 ["by","lines","at","top"] spBringUp := by
  refine F.cal sc_bring_up (fun vs H Q E h => ?_) (fun f cdv A outer s H vs Q E hr h => ?_)
  · obtain ⟨b,ll,xs,L,a,r,ex,rfl,_⟩ := h; rfl
  · obtain ⟨b,ll,xs,L,a,r,ex,rfl,hb,hL,hx,hm,hst,hra,ha,hz,q⟩ := h
    refine ⟨_,(pss_one (ps_bar (ps_if (pt_cmpR (xne K hr) (pv 2) (pv 3) (nomark _))
      (pss_cons (ps_set (i := 4) sc_bring_up.nd rfl (Or.inl rfl) (pe_ix (xix K) (pv 1) (pv 3) (fun _ _ => rfl)))
      (pss_cons (ps_asg (pe_ix (xix K) (pv 1) (pv 2) (fun _ _ => rfl)) (pg_sub (pv 1) (pv 3) set_list))
      (pss_one (ps_asg (pe_comp (sc := cs_bring_up1) (N := ["number","by"]) (ix := [none,some 0]) (comp_mk (by kernel_rfl) (by kernel_rfl) (by kernel_rfl) (by kernel_rfl) (by kernel_rfl) (by kernel_rfl) (by kernel_rfl) (by kernel_rfl)) rfl (xseq K (pv 4)) (fun cl C s₀ H₀ ex => ⟨(pg_name (i := 0) (show (["number","by"] : List Str).Nodup by decide +kernel) rfl (Or.inl rfl)),pif_nil,(pe_callC C_taken hr rfl (pa_n (pv 1) (pa_b (pe_op op_sub pe_int (pv 0)) pa_nil)))⟩)) (pg_sub (pv 1) (pv 2) set_list)))))
      pss_nil))),?_⟩
    have lx := hx.len
    refine ⟨_,rfl,_,rfl,_,rfl,?_⟩
    by_cases e : a = r
    · exact iteNS (by rw [e]) (q xs L H (Keep.refl _ _) hL hx (.inl ⟨e,rfl⟩))
    · have hne : ¬ (a : Int) = (r : Int) := by omega
      rw [decide_eq_false hne]
      refine iteT ?_
      obtain ⟨tr,r1,r2,r3⟩ := hx.get (show r < L.length by omega)
      obtain ⟨ta,a1,a2,a3⟩ := hx.get ha
      refine ⟨_,rfl,_,rfl,_,.ref tr,.inl (SqL.of hL),atI_len r rfl r1,?_⟩
      refine ⟨_,rfl,_,rfl,_,.ref ta,.inl (SqL.of hL),atI_len a rfl a1,?_⟩
      refine ⟨_,rfl,_,rfl,ll,xs,_,r,rfl,rfl,hL,ixN_of rfl (by rw [lx]; omega),?_⟩
      have kA := Keep.upd ll H (.lst (xs.set r (.ref ta)))
      have hL1 : (upd H ll (.lst (xs.set r (.ref ta)))) ll = some (.lst (xs.set r (.ref ta))) := upd_same
      have r3' := kA _ _ (fun (z : tr = ll) => r2 (by rw [z]; exact hm)) r3
      have hx1 := (Lns.set a2 a3 r hx).keep hm kA
      have hst1 := hst.keep kA ⟨_,hL1⟩
      generalize upd H ll (.lst (xs.set r (.ref ta))) = H1 at kA hL1 r3' hx1 hst1
      refine ⟨_,rfl,tr,rfl,.inl ⟨⟨_,SqL.of r3'⟩,comp_lst r3' (hz r (by omega)) rfl (fun x => Rm.tk b (0 - x)) ?_ ?_⟩⟩
      · intro H2 x g2 hx k hk
        exact ⟨_,rfl,_,rfl,_,_,rfl,rfl,b,_,rfl,hb,hk⟩
      · intro D hD
        have gD := Same.new hD (.lst (((Dm.ln L r).map fun x => Rm.tk b (0 - x)).map V.int))
        have hDl : D ∉ ex := hst1.fresh hD
        have hDD : (upd H1 D (.lst (((Dm.ln L r).map fun x => Rm.tk b (0 - x)).map V.int))) D = some (.lst (((Dm.ln L r).map fun x => Rm.tk b (0 - x)).map V.int)) := upd_same
        have hL2 := gD _ _ hL1
        have hx2 := hx1.same gD
        have kB := kA.trans (Keep.same gD)
        generalize upd H1 D (.lst (((Dm.ln L r).map fun x => Rm.tk b (0 - x)).map V.int)) = H2 at gD hDD hL2 hx2 kB
        refine ⟨_,rfl,_,rfl,ll,_,_,a,rfl,rfl,hL2,ixN_of rfl (by rw [List.length_set,lx]; omega),?_⟩
        have kC := Keep.upd ll H2 (.lst ((xs.set r (.ref ta)).set a (.ref D)))
        refine q _ ((L.set r (Dm.ln L a)).set a ((Dm.ln L r).map fun x => Rm.tk b (0 - x))) _ (kB.trans kC) upd_same ((Lns.set hDl hDD a hx2).keep hm kC) (.inr ⟨by omega,by rw [List.length_set,List.length_set],?_,?_,?_⟩)
        · rw [ln_set _ (by rw [List.length_set]; omega),if_neg (by omega),ln_set _ (by omega),if_pos rfl]
        · rw [ln_set _ (by rw [List.length_set]; omega),if_pos rfl]
        · intro i h1 h2
          rw [ln_set _ (by rw [List.length_set]; omega),if_neg h2,ln_set _ (by omega),if_neg h1]
theorem ok_freed (B : Bt mg) (F : Fn K mg "freed" s_freed ["by","line","head","column","last"]) (C_over : Cal P w K mg base "over" 3 ["by","one","other"] spOverQ) (C_taken : Cal P w K mg base "taken" 1 ["by","number"] spTaken) : Cal P w K mg base "freed" 4 ["by","line","head","column","last"] spFreed := by
  refine F.cal sc_freed (fun vs H Q E h => ?_) (fun f cdv A outer s H vs Q E hr h => ?_)
  · obtain ⟨b,last,l1,l2,p,r,c,cI,rfl,_⟩ := h; rfl
  · obtain ⟨b,last,l1,l2,p,r,c,cI,rfl,rfl,hB,h1,h2,hl,hc,hz,n0,nt,bl,b1,b2,hx,q⟩ := h
    refine ⟨_,(pss_cons (ps_set (i := 5) sc_freed.nd rfl (Or.inr rfl) (pe_ix (xix K) (pv 2) (pv 3) (fun _ _ => rfl)))
      (pss_cons (ps_set (i := 6) sc_freed.nd rfl (Or.inr rfl) (pe_ix (xix K) (pv 1) (pv 3) (fun _ _ => rfl)))
      (pss_cons (ps_setC (i := 7) (hN := sc_freed.nd) (hi' := rfl) (hx := (Or.inl rfl)) (sc := cs_freed1) (N := ["k","factor","head","line","pivot"]) (ix := [none,some 6,some 2,some 1,some 5]) (comp_mk (by kernel_rfl) (by kernel_rfl) (by kernel_rfl) (by kernel_rfl) (by kernel_rfl) (by kernel_rfl) (by kernel_rfl) (by kernel_rfl)) rfl (pi_range1 rfl B.b_range (pa_cons (pe_callB (xlen K) rfl B.b_len boot_len (pa_n (pv 1) pa_nil)) pa_nil)) (fun cl C s₀ H₀ ex => ⟨(pg_name (i := 0) (show (["k","factor","head","line","pivot"] : List Str).Nodup by decide +kernel) rfl (Or.inl rfl)),pif_nil,(pe_op op_sub (pe_op v_mul (pv 4) (pe_ix (xix K) (pv 3) (pv 0) (fun _ _ => rfl))) (pe_op v_mul (pv 1) (pe_ix (xix K) (pv 2) (pv 0) (fun _ _ => rfl))))⟩))
      (pss_cons (ps_if (pt_cmpR (xeq K hr) (pv 0) pe_int (nomark _))
      (pss_one (ps_ret (pe_comp (sc := cs_freed2) (N := ["number","last"]) (ix := [none,some 4]) (comp_mk (by kernel_rfl) (by kernel_rfl) (by kernel_rfl) (by kernel_rfl) (by kernel_rfl) (by kernel_rfl) (by kernel_rfl) (by kernel_rfl)) rfl (xseq K (pv 7)) (fun cl C s₀ H₀ ex => ⟨(pg_name (i := 0) (show (["number","last"] : List Str).Nodup by decide +kernel) rfl (Or.inl rfl)),pif_nil,(pe_op op_fdivB (pv 0) (pv 1))⟩))))
      pss_nil)
      (pss_cons (ps_set (i := 8) sc_freed.nd rfl (Or.inr rfl) (pe_callC C_over hr rfl (pa_n (pv 0) (pa_k pe_int (pa_n (pv 4) pa_nil)))))
      (pss_one (ps_ret (pe_comp (sc := cs_freed3) (N := ["number","by","share"]) (ix := [none,some 0,some 8]) (comp_mk (by kernel_rfl) (by kernel_rfl) (by kernel_rfl) (by kernel_rfl) (by kernel_rfl) (by kernel_rfl) (by kernel_rfl) (by kernel_rfl)) rfl (xseq K (pv 7)) (fun cl C s₀ H₀ ex => ⟨(pg_name (i := 0) (show (["number","by","share"] : List Str).Nodup by decide +kernel) rfl (Or.inl rfl)),pif_nil,(pe_callC C_taken hr rfl (pa_n (pv 1) (pa_b (pe_op v_mul (pv 0) (pv 2)) pa_nil)))⟩))))))))),?_⟩
    have lP : (p.map V.int).length = p.length := List.length_map _
    obtain ⟨hb0,hb1,hb2⟩ := hB.range
    refine ⟨_,rfl,_,rfl,_,_,.inl (SqL.of h2),atI_ints (ns := r) (by omega : (0 : Int) ≤ (c : Int)) (by omega),?_⟩
    refine ⟨_,rfl,_,rfl,_,_,.inl (SqL.of h1),atI_ints (ns := p) (by omega : (0 : Int) ≤ (c : Int)) (by omega),?_⟩
    rw [Int.toNat_natCast]
    have e1 : r.getD c 0 = Pm.co r c := rfl
    have e2 : p.getD c 0 = Pm.co p c := rfl
    rw [e1,e2]
    refine ⟨_,rfl,.ref l1,p.length,rfl,.inl ⟨_,SqL.of h1,lP.symm⟩,(p.length : Int),rfl,(by omega : -(2 ^ 62) ≤ (p.length : Int)),(by omega : (p.length : Int) < 2 ^ 62),?_⟩
    rw [Int.toNat_natCast]
    refine comp_rng (n := p.length) hz rfl (fun k => Pm.co r c * Pm.co p k - Pm.co p c * Pm.co r k) ?_ ?_
    · intro H2 k g2 hk kk hkk
      have ek : (0 + (k : Int)).toNat = k := by omega
      refine ⟨_,rfl,_,rfl,_,rfl,_,_,.inl (SqL.of (g2 _ _ h1)),atI_ints (ns := p) (by omega : (0 : Int) ≤ 0 + (k : Int)) (by omega),mulBd (Pm.Bd_co b2 c) (Rm.Bd.getD b1 _) (by decide),?_⟩
      refine ⟨_,rfl,_,rfl,_,rfl,_,_,.inl (SqL.of (g2 _ _ h2)),atI_ints (ns := r) (by omega : (0 : Int) ≤ 0 + (k : Int)) (by omega),mulBd (Pm.Bd_co b1 c) (Rm.Bd.getD b2 _) (by decide),_,_,rfl,rfl,?_⟩
      rw [ek]
      exact hkk
    · intro D hD
      have gD := Same.new hD (.lst ((Pm.ofF p.length fun k => Pm.co r c * Pm.co p k - Pm.co p c * Pm.co r k).map V.int))
      have hDD : (upd H D (.lst ((Pm.ofF p.length fun k => Pm.co r c * Pm.co p k - Pm.co p c * Pm.co r k).map V.int))) D = some (.lst ((Pm.ofF p.length fun k => Pm.co r c * Pm.co p k - Pm.co p c * Pm.co r k).map V.int)) := upd_same
      generalize upd H D (.lst ((Pm.ofF p.length fun k => Pm.co r c * Pm.co p k - Pm.co p c * Pm.co r k).map V.int)) = H1 at gD hDD
      have zO : (Pm.ofF p.length fun k => Pm.co r c * Pm.co p k - Pm.co p c * Pm.co r k).length ≤ 1000 := by rw [Pm.ofF_len]; exact hz
      refine ⟨_,rfl,_,rfl,?_⟩
      refine ite2 (fun cc => ?_) (fun cc => ?_)
      · have hb : b = 0 := dec_true cc
        refine ⟨_,rfl,D,rfl,.inl ⟨⟨_,SqL.of hDD⟩,comp_lst hDD zO rfl (fun x => x.fdiv last) ?_ ?_⟩⟩
        · intro H2 x g2 hx' k hk
          exact ⟨_,rfl,_,rfl,_,_,rfl,rfl,⟨n0,Nat.lt_trans (log2_bd n0 bl) (by decide)⟩,hk⟩
        · intro D2 hD2
          refine q D2 _ _ (gD.trans (Same.new hD2 _)) (gD.free hD2) upd_same (by rw [List.length_map,Pm.ofF_len]) fun k hk => ?_
          rw [Pm.co_map (by simp),Pm.co_ofF,if_pos hk,hb,Rm.tk_zero,Rm.tk_zero,Rm.tk_zero]
          obtain ⟨e,he⟩ := hx hb k hk
          rw [he,Int.mul_fdiv_cancel_left _ n0]
          exact ⟨rfl,rfl⟩
      · have hb : ¬ b = 0 := dec_false cc
        obtain ⟨P',hP,eP⟩ := hB.resolve_left hb
        have hr2 := primesN_range P' hP
        have tkP : ∀ n,Rm.tk b n = n % (P' : Int) := fun n => by rw [eP]; exact Rm.tk_pos (by omega) n
        rw [tkP] at nt
        have r0 : 0 ≤ last := by rw [nt]; exact emod_lo _ (by omega)
        have r1 : last < (P' : Int) := by rw [nt]; exact emod_hi _ (by omega)
        refine ⟨_,rfl,_,rfl,P',1,last,by rw [eP]; rfl,primesN_pr hP,by omega,by omega,r1,?_⟩
        have hinv : (last * (1 * last ^ (P' - 2) % (P' : Int))) % (P' : Int) = 1 := by
          rw [Int.one_mul,Int.mul_emod,Int.emod_emod_of_dvd _ (Int.dvd_refl _),← Int.mul_emod,Int.mul_comm,← Int.pow_succ,show (P' - 2).succ = P' - 1 by omega]
          exact Om.fermatI rfl hP (by omega) r1
        have s0 := emod_lo (1 * last ^ (P' - 2)) (show (0 : Int) < (P' : Int) by omega)
        have s1 := emod_hi (1 * last ^ (P' - 2)) (show (0 : Int) < (P' : Int) by omega)
        generalize 1 * last ^ (P' - 2) % (P' : Int) = sh at hinv s0 s1
        refine ⟨_,rfl,D,rfl,.inl ⟨⟨_,SqL.of hDD⟩,comp_lst hDD zO rfl (fun x => Rm.tk b (x * sh)) ?_ ?_⟩⟩
        · intro H2 x g2 hx' k hk
          exact ⟨_,rfl,_,rfl,_,rfl,mulR (by omega) (by omega),b,_,rfl,hb0,hk⟩
        · intro D2 hD2
          refine q D2 _ _ (gD.trans (Same.new hD2 _)) (gD.free hD2) upd_same (by rw [List.length_map,Pm.ofF_len]) fun k hk => ?_
          rw [Pm.co_map (by simp [Pm.tk0]),Pm.co_ofF,if_pos hk,Rm.tk_tk]
          refine ⟨rfl,?_⟩
          rw [Rm.tk_mul_r,Int.mul_left_comm,← Rm.tk_mul_r,tkP (last * sh),hinv,Int.mul_one]
theorem ok_clear (B : Bt mg) (F : Fn K mg "clear" s_clear ["by","wide","lines"]) (C_head_line : Cal P w K mg base "head_line" 1 ["lines","begin","column"] spHeadLine) (C_bring_up : Cal P w K mg base "bring_up" 2 ["by","lines","at","top"] spBringUp) (C_freed : Cal P w K mg base "freed" 4 ["by","line","head","column","last"] spFreed) : Cal P w K mg base "clear" 5 ["by","wide","lines"] spClear := by
  refine F.cal sc_clear (fun vs H Q E h => ?_) (fun f cdv A outer s H vs Q E hr h => ?_)
  · obtain ⟨b,wide,ll,xs,L,W,u,ex,rfl,_⟩ := h; rfl
  · obtain ⟨b,wide,ll,xs,L,W,u,ex,rfl,hB,hL,hx,hmx,hst,hwW,hW,hn,hu,hw,hnu,hbd,q⟩ := h
    refine ⟨_,(pss_cons (ps_set (i := 3) sc_clear.nd rfl (Or.inl rfl) (pe_lst pa_nil))
      (pss_cons (ps_set (i := 4) sc_clear.nd rfl (Or.inl rfl) pe_int)
      (pss_cons (ps_for PassesOwn.never rfl (pi_range1 rfl B.b_range (pa_n (pv 1) pa_nil)) (pg_name (i := 5) sc_clear.nd rfl (Or.inl rfl))
      (pss_cons (ps_set (i := 6) sc_clear.nd rfl (Or.inl rfl) (pe_callB (xlen K) rfl B.b_len boot_len (pa_n (pv 3) pa_nil)))
      (pss_cons (ps_set (i := 7) sc_clear.nd rfl (Or.inl rfl) (pe_callC C_head_line hr rfl (pa_n (pv 2) (pa_n (pv 6) (pa_n (pv 5) pa_nil)))))
      (pss_one (ps_if (pt_cmp (pc_notN (pv 7)))
      (pss_cons (ps_expr (pe_callC C_bring_up hr rfl (pa_n (pv 0) (pa_n (pv 2) (pa_n (pv 7) (pa_n (pv 6) pa_nil))))))
      (pss_cons (ps_for PassesOwn.never rfl (pi_range1 rfl B.b_range (pa_cons (pe_callB (xlen K) rfl B.b_len boot_len (pa_n (pv 2) pa_nil)) pa_nil)) (pg_name (i := 8) sc_clear.nd rfl (Or.inl rfl))
      (pss_one (ps_bar (ps_if (pt_cmpR (xne K hr) (pv 8) (pv 6) (nomark _))
      (pss_one (ps_asg (pe_callC C_freed hr rfl (pa_n (pv 0) (pa_cons (pe_ix (xix K) (pv 2) (pv 8) (fun _ _ => rfl)) (pa_cons (pe_ix (xix K) (pv 2) (pv 6) (fun _ _ => rfl)) (pa_n (pv 5) (pa_n (pv 4) pa_nil)))))) (pg_sub (pv 2) (pv 8) set_list)))
      pss_nil))))
      (pss_cons (ps_set (i := 4) sc_clear.nd rfl (Or.inl rfl) (pe_ix (xix K) (pe_ix (xix K) (pv 2) (pv 6) (fun _ _ => rfl)) (pv 5) (fun _ _ => rfl)))
      (pss_one (ps_expr (xappend K (pv 3) (pv 5)))))))
      pss_nil)))))
      (pss_one (ps_ret (pe_tup (pa_n (pv 3) (pa_n (pv 4) pa_nil)))))))),?_⟩
    obtain ⟨hb0,hb1,hb2⟩ := hB.range
    have hD := hB.dom
    refine ⟨Nat.zero_le _,fun lh hlh => ?_⟩
    have kh := Same.new hlh (.lst [])
    have hm : ll ∈ lh :: ex := List.mem_cons_of_mem _ hmx
    have hml : lh ∈ lh :: ex := List.mem_cons_self
    have st : ∀ {H' : Hp} {o o' : HO},Keep ll H H' → H' ll = some o → H' lh = some o' → Stand H' (lh :: ex) := fun k e e' a ha => by
      rcases List.mem_cons.mp ha with z | z
      · rw [z]; exact ⟨_,e'⟩
      · exact (hst.keep k ⟨_,e⟩) a z
    have hne : lh ≠ ll := fun z => by rw [z,hL] at hlh; cases hlh
    refine ⟨_,rfl,(wide : Int),rfl,(by omega : -(2 ^ 62) ≤ (wide : Int)),(by omega : (wide : Int) < 2 ^ 62),?_⟩
    refine for_range (lo := 0) (n := (wide : Int).toNat) (fun c σ' H' => ∃ (o5 o6 o7 o8 : Option V) (A : Nat → Nat → Int) (hd : Nat → Nat) (r : Nat) (L' : List (List Int)) (last : Int) (xs' : List V),σ' = [some (.int b),some (.int wide),some (.ref ll),some (.ref lh),some (.int last),o5,o6,o7,o8] ∧ Keep ll H H' ∧ H' lh = some (.lst ((Pm.ofF r fun h => ((hd h : Nat) : Int)).map V.int)) ∧ H' ll = some (.lst xs') ∧ Lns H' (lh :: ex) xs' L' ∧ Dm.ClI b L.length W u (fun i k => Pm.co (Dm.ln L i) k) c A hd r L' last)
      ⟨_,_,_,_,_,_,0,L,1,xs,rfl,Keep.same kh,upd_same,kh _ _ hL,(hx.more hlh).same kh,Dm.ClI.start hB.one hw hnu hbd⟩ ?_ ?_
    · rintro c σ' H1 hc ⟨o5,o6,o7,o8,A,hd,r,L1,last,xs1,rfl,k1,hH1,hL1,hx1,I⟩
      have hcW : c < W := by omega
      have hrn := I.rn
      have len1 := I.len
      have lh1 : ((Pm.ofF r fun h => ((hd h : Nat) : Int)).map V.int).length = r := by rw [List.length_map,Pm.ofF_len]
      refine ⟨_,rfl,.ref lh,r,rfl,.inl ⟨_,SqL.of hH1,lh1.symm⟩,?_⟩
      refine ⟨_,rfl,_,rfl,_,rfl,ll,xs1,L1,W,r,c,0 + (c : Int),_,rfl,by omega,hL1,hx1,fun i hi => I.wd i (by omega),hcW,by omega,by omega,fun a h1 h2 h3 => ?_,fun hz => ?_⟩
      · -- a head
        refine ⟨_,rfl,_,rfl,?_⟩
        rw [decide_eq_false (show ¬ V.int (a : Int) = V.non from fun z => by cases z)]
        refine iteT ?_
        refine ⟨_,rfl,_,rfl,_,rfl,_,rfl,b,ll,xs1,L1,a,r,_,rfl,hb0,hL1,hx1,hm,st k1 hL1 hH1,h1,h2,fun i hi => by rw [I.wd i (by omega)]; omega,fun xs2 L2 H2 k2 hL2 hx2 br => ?_⟩
        obtain ⟨A2,I2,hp⟩ : ∃ A2,Dm.ClI b L.length W u (fun i k => Pm.co (Dm.ln L i) k) c A2 hd r L2 last ∧ Pm.co (Dm.ln L2 r) c ≠ 0 := by
          rcases br with ⟨e1,e2⟩ | ⟨e0,e1,e2,e3,e4⟩
          · exact ⟨A,by rw [e2]; exact I,by rw [e2,← e1]; exact h3⟩
          · exact ⟨_,I.bring e0 (by omega) (by omega) e2 e3 e4,by rw [e2]; exact h3⟩
        have hrl : r < L.length := by omega
        have k12 := k1.trans k2
        have hH2 := k2 _ _ hne hH1
        have len2 := I2.len
        have lx2 := hx2.len
        obtain ⟨bl,be⟩ := hu _ _ _ _ _ _ (Nat.le_of_lt hcW) I2
        have lastN : last ≠ 0 := by rw [I2.la]; exact I2.nz
        have lastT : last = Rm.tk b last := by
          have := I2.la
          rw [this,Rm.tk_tk]
        refine ⟨_,rfl,.ref ll,L.length,rfl,.inl ⟨_,SqL.of hL2,by rw [lx2,len2]⟩,(L.length : Int),rfl,(by omega : -(2 ^ 62) ≤ (L.length : Int)),(by omega : (L.length : Int) < 2 ^ 62),?_⟩
        refine for_range (lo := 0) (n := (L.length : Int).toNat) (fun i σ' H' => ∃ (o8 : Option V) (L3 : List (List Int)) (xs3 : List V),σ' = [some (.int b),some (.int wide),some (.ref ll),some (.ref lh),some (.int last),some (.int (0 + (c : Int))),some (.int r),some (.int a),o8] ∧ Keep ll H H' ∧ H' lh = some (.lst ((Pm.ofF r fun h => ((hd h : Nat) : Int)).map V.int)) ∧ H' ll = some (.lst xs3) ∧ Lns H' (lh :: ex) xs3 L3 ∧ L3.length = L.length ∧
            (∀ j,i ≤ j ∨ j = r → Dm.ln L3 j = Dm.ln L2 j) ∧ ∀ j,j < i → j ≠ r → (Dm.ln L3 j).length = W ∧ ∀ k,k < W → Pm.co (Dm.ln L3 j) k = Rm.tk b (Pm.co (Dm.ln L3 j) k) ∧ Rm.tk b (last * Pm.co (Dm.ln L3 j) k) = Rm.tk b (Pm.co (Dm.ln L2 r) c * Pm.co (Dm.ln L2 j) k - Pm.co (Dm.ln L2 j) c * Pm.co (Dm.ln L2 r) k))
          ⟨_,L2,xs2,rfl,k12,hH2,hL2,hx2,len2,fun _ _ => rfl,fun j hj => absurd hj (Nat.not_lt_zero _)⟩ ?_ ?_
        · rintro i σ' H3 hi ⟨o8,L3,xs3,rfl,k3,hH3,hL3,hx3,len3,eq3,new3⟩
          have hi' : i < L.length := by omega
          have lx3 := hx3.len
          refine ⟨_,rfl,_,rfl,_,rfl,?_⟩
          by_cases e : i = r
          · refine iteNS (by omega) ⟨_,L3,xs3,rfl,k3,hH3,hL3,hx3,len3,fun j hj => eq3 j (by omega),fun j hj hj' => new3 j (by omega) hj'⟩
          · have hne' : ¬ (0 + (i : Int)) = (r : Int) := by omega
            rw [decide_eq_false hne']
            refine iteT ?_
            obtain ⟨ti,i1,i2,i3⟩ := hx3.get (show i < L3.length by omega)
            obtain ⟨tr,r1,r2,r3⟩ := hx3.get (show r < L3.length by omega)
            rw [eq3 i (by omega)] at i3
            rw [eq3 r (by omega)] at r3
            have wi := I2.wd i hi'
            have wr := I2.wd r hrl
            refine ⟨_,rfl,_,rfl,_,rfl,_,.ref ti,.inl (SqL.of hL3),atI_len i (by omega) i1,?_⟩
            refine ⟨_,rfl,_,rfl,_,.ref tr,.inl (SqL.of hL3),atI_len r rfl r1,_,rfl,_,rfl,?_⟩
            refine ⟨b,last,ti,tr,_,_,c,0 + (c : Int),rfl,by omega,hB,i3,r3,by omega,by omega,by omega,lastN,lastT,bl,fun x hx => (be i hi' x hx).mono (by decide),fun x hx => (be r hrl x hx).mono (by decide),fun hb k hk => ?_,fun t m H4 g4 ht4 h4 lm hmm => ?_⟩
            · have hen := fun j (hj : j < L.length) k (hk : k < W) => I2.en j k hj hk
              have s := Dm.En_step (A := A2) (hd := hd) (r := r) (c := c) (fun z => hp (by rw [hen r hrl c hcW,z]; exact Pm.tk0 b)) (show i ≠ r by omega) k
              refine ⟨Dm.En A2 (Dm.more hd r c) (r + 1) i k,?_⟩
              rw [hen r hrl c hcW,hen i hi' k (by omega),hen i hi' c hcW,hen r hrl k (by omega),I2.la,hb]
              simp only [Rm.tk_zero]
              exact s.symm
            · have tl : t ∉ lh :: ex := (st k3 hL3 hH3).fresh ht4
              have hL4 := g4 _ _ hL3
              have hx4 := hx3.same g4
              refine ⟨_,rfl,_,rfl,ll,_,_,i,rfl,rfl,hL4,ixN_of (by omega) (by rw [lx3]; omega),?_⟩
              have k5 := Keep.upd ll H4 (.lst (xs3.set i (.ref t)))
              refine ⟨_,L3.set i m,xs3.set i (.ref t),rfl,(k3.trans (Keep.same g4)).trans k5,k5 _ _ hne (g4 _ _ hH3),upd_same,(Lns.set tl h4 i hx4).keep hm k5,by rw [List.length_set]; exact len3,fun j hj => ?_,fun j hj hj' => ?_⟩
              · rw [ln_set _ (by omega),if_neg (by omega)]; exact eq3 j (by omega)
              · rw [ln_set _ (by omega)]
                by_cases ej : j = i
                · rw [if_pos ej,ej,lm,wi]
                  exact ⟨rfl,fun k hk => hmm k (by omega)⟩
                · rw [if_neg ej]; exact new3 j (by omega) hj'
        · rintro σ' H3 ⟨o8,L3,xs3,rfl,k3,hH3,hL3,hx3,len3,eq3,new3⟩
          rw [Int.toNat_natCast] at eq3 new3
          have hx3' := hx3
          obtain ⟨tr,r1,r2,r3⟩ := hx3.get (show r < L3.length by omega)
          rw [eq3 r (.inr rfl)] at r3
          have wr := I2.wd r hrl
          refine ⟨_,rfl,_,rfl,_,.ref tr,.inl (SqL.of hL3),atI_len r rfl r1,_,rfl,_,_,.inl (SqL.of r3),atI_ints (ns := Dm.ln L2 r) (by omega : (0 : Int) ≤ 0 + (c : Int)) (by omega),?_⟩
          refine ⟨_,rfl,.inl ⟨rfl,_,SqL.of hH3⟩,_,rfl,lh,_,_,rfl,rfl,hH3,by rw [lh1]; exact small1000 (by omega),?_⟩
          have I3 := I2.free hD hcW hrl hp len3 (eq3 r (.inr rfl)) fun j hj hj' => new3 j hj hj'
          have ec : (0 + (c : Int)).toNat = c := by omega
          refine ⟨some (.int (0 + (c : Int))),some (.int r),some (.int a),o8,A2,Dm.more hd r c,r + 1,L3,Pm.co (Dm.ln L2 r) c,xs3,?_,fun x v nx hv => ?_,?_,?_,?_,I3⟩
          · rw [ec]; rfl
          · by_cases z : x = lh
            · rw [z,hlh] at hv; cases hv
            · rw [upd_ne z]; exact k3 _ _ nx hv
          · rw [upd_same,Pm.ofF_succ,map_snoc]
            have e1 : (Pm.ofF r fun h => ((Dm.more hd r c h : Nat) : Int)) = Pm.ofF r fun h => ((hd h : Nat) : Int) := List.map_congr_left fun h hh => by
              have := List.mem_range.mp hh
              unfold Dm.more
              rw [if_neg (by omega)]
            have e2 : ((Dm.more hd r c r : Nat) : Int) = 0 + (c : Int) := by unfold Dm.more; rw [if_pos rfl]; omega
            rw [e1,e2]
          · rw [upd_ne hne.symm]; exact hL3
          · exact hx3.keep hml (Keep.upd lh H3 _)
      · -- none
        refine ⟨_,rfl,_,rfl,?_⟩
        rw [decide_eq_true rfl]
        exact iteF ⟨_,_,_,_,A,hd,r,L1,last,xs1,rfl,k1,hH1,hL1,hx1,I.skip hD hcW fun i h1 h2 => hz i h1 (by omega)⟩
    · rintro σ' H1 ⟨o5,o6,o7,o8,A,hd,r,L1,last,xs1,rfl,k1,hH1,hL1,hx1,I⟩
      rw [Int.toNat_natCast] at I
      refine ⟨_,rfl,_,rfl,(by show 2 ≤ sizeLine; decide),fun t ht => ?_⟩
      have kt := Same.new ht (.tup [.ref lh,.int last])
      exact q t lh A hd r L1 last xs1 _ (k1.trans (Keep.same kt)) upd_same (kt _ _ hH1) (kt _ _ hL1) ((hx1.less fun a ha => List.mem_cons_of_mem _ ha).same kt) I
theorem ok_common_divisor (B : Bt mg) (F : Fn K mg "common_divisor" s_common_divisor ["one","other"]) : Cal P w K mg base "common_divisor" 1 ["one","other"] spCd := by
  refine F.cal sc_common_divisor (fun vs H Q E h => ?_) (fun f cdv A outer s H vs Q E hr h => ?_)
  · obtain ⟨x,y,rfl,_⟩ := h; rfl
  · obtain ⟨x,y,rfl,q⟩ := h
    refine ⟨_,(pss_cons (ps_set (i := 2) sc_common_divisor.nd rfl (Or.inl rfl) (pe_callB call_abs rfl B.b_abs boot_abs (pa_n (pv 0) pa_nil)))
      (pss_cons (ps_set (i := 3) sc_common_divisor.nd rfl (Or.inl rfl) (pe_callB call_abs rfl B.b_abs boot_abs (pa_n (pv 1) pa_nil)))
      (pss_cons (ps_while PassesOwn.never (pt_cmpR op_gt (pv 3) pe_int (nomark _))
      (pss_cons (ps_set (i := 4) sc_common_divisor.nd rfl (Or.inl rfl) (pe_op op_mod (pv 2) (pv 3)))
      (pss_cons (ps_set (i := 2) sc_common_divisor.nd rfl (Or.inl rfl) (pv 3))
      (pss_one (ps_set (i := 3) sc_common_divisor.nd rfl (Or.inl rfl) (pv 4))))))
      (pss_one (ps_ret (pv 2)))))),?_⟩
    refine ⟨_,rfl,x,rfl,?_⟩
    refine ⟨_,rfl,y,rfl,?_⟩
    rw [abs_nat,abs_nat]
    refine ⟨fun t σ' H' => ∃ (g w : Nat) (o4 : Option V),w = t ∧ Nat.gcd g w = Nat.gcd x.natAbs y.natAbs ∧ σ' = [some (.int x),some (.int y),some (.int g),some (.int w),o4] ∧ H = H',⟨_,x.natAbs,y.natAbs,_,rfl,rfl,rfl,rfl⟩,?_⟩
    rintro t σ' H' ⟨g,w,o4,rfl,hg,rfl,rfl⟩
    refine ⟨_,rfl,_,_,rfl,rfl,_,rfl,?_⟩
    refine ite2 (fun c => ?_) (fun c => ?_)
    · have hw : 0 < w := by have := dec_true c; omega
      refine ⟨_,fun _ _ z => z,?_⟩
      refine ⟨_,rfl,_,rfl,_,_,rfl,rfl,(by omega : (0 : Int) < (w : Int)),?_⟩
      refine ⟨_,rfl,?_⟩
      refine ⟨_,rfl,?_⟩
      refine ⟨g % w,Nat.mod_lt _ hw,w,g % w,some (.int ((g % w : Nat) : Int)),rfl,?_,?_,rfl⟩
      · rw [← hg,Nat.gcd_comm w,← Nat.gcd_rec,Nat.gcd_comm]
      · rw [Int.natCast_emod]; rfl
    · have hw : w = 0 := by have := dec_false c; omega
      subst hw
      rw [Nat.gcd_zero_right] at hg
      rw [← hg] at q
      exact ⟨_,rfl,q⟩
theorem ok_lowest (B : Bt mg) (F : Fn K mg "lowest" s_lowest ["by","bottom","tops"]) (C_over : Cal P w K mg base "over" 3 ["by","one","other"] spOverQ) (C_common_divisor : Cal P w K mg base "common_divisor" 1 ["one","other"] spCd) : Cal P w K mg base "lowest" 4 ["by","bottom","tops"] spLowest := by
  refine F.cal sc_lowest (fun vs H Q E h => ?_) (fun f cdv A outer s H vs Q E hr h => ?_)
  · obtain ⟨b,bt,l,ts,rfl,_⟩ := h; rfl
  · obtain ⟨b,bt,l,ts,rfl,hB,n0,nt,hL,hz,bb,q⟩ := h
    refine ⟨_,(pss_cons (ps_if (pt_cmpR (xne K hr) (pv 0) pe_int (nomark _))
      (pss_one (ps_ret (pe_tup (pa_k pe_int (pa_cons (pe_comp (sc := cs_lowest1) (N := ["top","bottom","by"]) (ix := [none,some 1,some 0]) (comp_mk (by kernel_rfl) (by kernel_rfl) (by kernel_rfl) (by kernel_rfl) (by kernel_rfl) (by kernel_rfl) (by kernel_rfl) (by kernel_rfl)) rfl (xseq K (pv 2)) (fun cl C s₀ H₀ ex => ⟨(pg_name (i := 0) (show (["top","bottom","by"] : List Str).Nodup by decide +kernel) rfl (Or.inl rfl)),pif_nil,(pe_callC C_over hr rfl (pa_n (pv 2) (pa_n (pv 0) (pa_n (pv 1) pa_nil))))⟩)) pa_nil)))))
      pss_nil)
      (pss_cons (ps_set (i := 4) sc_lowest.nd rfl (Or.inr rfl) (pe_callB call_abs rfl B.b_abs boot_abs (pa_n (pv 1) pa_nil)))
      (pss_cons (ps_for PassesOwn.never rfl (xseq K (pv 2)) (pg_name (i := 3) sc_lowest.nd rfl (Or.inl rfl))
      (pss_one (ps_set (i := 4) sc_lowest.nd rfl (Or.inr rfl) (pe_callC C_common_divisor hr rfl (pa_n (pv 4) (pa_n (pv 3) pa_nil))))))
      (pss_cons (ps_bar (ps_if (pt_cmpR op_lt (pv 1) pe_int (nomark _))
      (pss_one (ps_set (i := 4) sc_lowest.nd rfl (Or.inr rfl) (pe_op op_sub pe_int (pv 4))))
      pss_nil))
      (pss_one (ps_ret (pe_tup (pa_b (pe_op op_fdivB (pv 1) (pv 4)) (pa_cons (pe_comp (sc := cs_lowest2) (N := ["top","divisor"]) (ix := [none,some 4]) (comp_mk (by kernel_rfl) (by kernel_rfl) (by kernel_rfl) (by kernel_rfl) (by kernel_rfl) (by kernel_rfl) (by kernel_rfl) (by kernel_rfl)) rfl (xseq K (pv 2)) (fun cl C s₀ H₀ ex => ⟨(pg_name (i := 0) (show (["top","divisor"] : List Str).Nodup by decide +kernel) rfl (Or.inl rfl)),pif_nil,(pe_op op_fdivB (pv 0) (pv 1))⟩)) pa_nil))))))))),?_⟩
    refine ⟨_,rfl,_,rfl,?_⟩
    rcases hB with rfl | ⟨P',hP,rfl⟩
    · rw [decide_eq_true rfl]
      refine iteF ?_
      refine ⟨_,rfl,bt,rfl,?_⟩
      rw [abs_nat]
      refine ⟨_,rfl,l,rfl,.inl ⟨⟨_,SqL.of hL⟩,?_⟩⟩
      refine for_its (its_list (SqL.of hL)) (fun i σ' H' => ∃ o3,σ' = [some (.int 0),some (.int bt),some (.ref l),o3,some (.int (Lm.gcdL bt.natAbs (ts.take i) : Nat))] ∧ H = H') ⟨_,rfl,rfl⟩ (fun i σ' H' ⟨_,_,z⟩ => z ▸ Same.refl _) ?_ ?_
      · rintro i x σ' H' hx ⟨o3,rfl,rfl⟩
        obtain ⟨rfl,hi⟩ := map_int_get hx
        refine ⟨_,rfl,_,rfl,_,_,rfl,some (.int (Pm.co ts i)),?_,rfl⟩
        rw [take_step (xs := ts) (n := i + 1) (by omega) (by omega),Nat.add_sub_cancel,Lm.gcdL_snoc,Int.natAbs_natCast]
        rfl
      rintro σ' H' ⟨o3,rfl,rfl⟩
      rw [List.length_map,List.take_length]
      refine BarS.by (fun σ' H' => σ' = [some (.int 0),some (.int bt),some (.ref l),o3,some (.int (Lm.low bt ts))] ∧ H = H') (fun NN hNN => ?_) ?_
      · refine ⟨_,rfl,_,_,rfl,rfl,_,rfl,?_⟩
        refine ite2 (fun c => ?_) (fun c => ?_)
        · refine ⟨_,rfl,_,_,rfl,rfl,hNN _ _ ⟨?_,rfl⟩⟩
          unfold Lm.low
          rw [if_pos (dec_true c)]; rfl
        · refine hNN _ _ ⟨?_,rfl⟩
          unfold Lm.low
          rw [if_neg (dec_false c)]
      · rintro _ _ ⟨rfl,rfl⟩
        have hlog := low_log (ts := ts) n0 bb
        have hne := Lm.low_ne n0 ts
        refine ⟨_,rfl,_,rfl,_,_,rfl,rfl,⟨hne,hlog⟩,?_⟩
        refine ⟨_,rfl,l,rfl,.inl ⟨⟨_,SqL.of hL⟩,?_⟩⟩
        refine comp_lst hL (by omega) rfl (fun t => t.fdiv (Lm.low bt ts)) ?_ ?_
        · intro H2 x g2 hx k hk
          exact ⟨_,rfl,_,rfl,_,_,rfl,rfl,⟨hne,hlog⟩,hk⟩
        · intro D hD
          have gD := Same.new hD (.lst ((ts.map fun t => t.fdiv (Lm.low bt ts)).map V.int))
          refine ⟨(by show 2 ≤ sizeLine; decide),fun t ht => ?_⟩
          have gt := Same.new ht (.tup [.int (bt.fdiv (Lm.low bt ts)),.ref D])
          exact q t D _ _ _ (gD.trans gt) upd_same (gt _ _ upd_same) hD ⟨fun P e h => by have := (primesN_range P h).1; omega,fun _ => ⟨rfl,rfl⟩,List.length_map _⟩
    · have hr2 := primesN_range P' hP
      rw [decide_eq_false (by omega : ¬ (P' : Int) = 0)]
      refine iteT ?_
      have tkP : ∀ n,Rm.tk (P' : Int) n = n % (P' : Int) := fun n => Rm.tk_pos (by omega) n
      have b0 : 0 < bt ∧ bt < (P' : Int) := by
        rw [tkP] at nt
        have h1 := Int.emod_nonneg bt (show (P' : Int) ≠ 0 by omega)
        have h2 := Int.emod_lt_of_pos bt (show (0 : Int) < (P' : Int) by omega)
        omega
      refine ⟨_,rfl,l,rfl,.inl ⟨⟨_,SqL.of hL⟩,?_⟩⟩
      refine comp_lst hL (by omega) rfl (fun t => t * bt ^ (P' - 2) % (P' : Int)) ?_ ?_
      · intro H2 x g2 hx k hk
        exact ⟨_,rfl,_,rfl,_,rfl,P',x,bt,rfl,primesN_pr hP,by omega,b0.1,b0.2,hk⟩
      · intro D hD
        have gD := Same.new hD (.lst ((ts.map fun t => t * bt ^ (P' - 2) % (P' : Int)).map V.int))
        refine ⟨(by show 2 ≤ sizeLine; decide),fun t ht => ?_⟩
        have gt := Same.new ht (.tup [.int 1,.ref D])
        refine q t D _ _ _ (gD.trans gt) upd_same (gt _ _ upd_same) hD ⟨fun P e h => ?_,fun z => by omega,List.length_map _⟩
        have e' : P' = P := by omega
        subst e'
        exact ⟨rfl,rfl⟩
theorem ok_free_numbers (B : Bt mg) (F : Fn K mg "free_numbers" s_free_numbers ["by","wide","lines","heads","last"]) (C_taken : Cal P w K mg base "taken" 1 ["by","number"] spTaken) (C_lowest : Cal P w K mg base "lowest" 4 ["by","bottom","tops"] spLowest) : Cal P w K mg base "free_numbers" 5 ["by","wide","lines","heads","last"] spFree := by
  refine F.cal sc_free_numbers (fun vs H Q E h => ?_) (fun f cdv A outer s H vs Q E hr h => ?_)
  · obtain ⟨u,b,wide,r,n,last,ll,lh,xs,L,hd,A0,A,ex,rfl,_⟩ := h; rfl
  · obtain ⟨u,b,wide,r,n,last,ll,lh,xs,L,hd,A0,A,ex,rfl,hB,hL,hx,hH,I,hw,hsz,hn,hrw,q⟩ := h
    refine ⟨_,(pss_cons (ps_set (i := 5) sc_free_numbers.nd rfl (Or.inl rfl) (pe_ix (xix K) (pe_comp (sc := cs_free_numbers1) (N := ["k","heads"]) (ix := [none,some 3]) (comp_mk (by kernel_rfl) (by kernel_rfl) (by kernel_rfl) (by kernel_rfl) (by kernel_rfl) (by kernel_rfl) (by kernel_rfl) (by kernel_rfl)) rfl (pi_range1 rfl B.b_range (pa_n (pv 1) pa_nil)) (fun cl C s₀ H₀ ex => ⟨(pg_name (i := 0) (show (["k","heads"] : List Str).Nodup by decide +kernel) rfl (Or.inl rfl)),(pif_one (pt_cmpR (xnotin K hr) (pv 0) (pv 1) (by with_unfolding_all rfl))),(pv 0)⟩)) pe_int (fun _ _ => rfl)))
      (pss_cons (ps_set (i := 6) sc_free_numbers.nd rfl (Or.inl rfl) (pe_op v_mul (pe_lst (pa_k pe_int pa_nil)) (pv 1)))
      (pss_cons (ps_asg (pv 4) (pg_sub (pv 6) (pv 5) set_list))
      (pss_cons (ps_for PassesOwn.never rfl (pi_range1 rfl B.b_range (pa_cons (pe_callB (xlen K) rfl B.b_len boot_len (pa_n (pv 3) pa_nil)) pa_nil)) (pg_name (i := 7) sc_free_numbers.nd rfl (Or.inl rfl))
      (pss_one (ps_asg (pe_callC C_taken hr rfl (pa_n (pv 0) (pa_b (pe_op op_sub pe_int (pe_ix (xix K) (pe_ix (xix K) (pv 2) (pv 7) (fun _ _ => rfl)) (pv 5) (fun _ _ => rfl))) pa_nil))) (pg_sub (pv 6) (pe_ix (xix K) (pv 3) (pv 7) (fun _ _ => rfl)) set_list))))
      (pss_one (ps_ret (pe_ix (xix K) (pe_callC C_lowest hr rfl (pa_n (pv 0) (pa_n (pv 4) (pa_n (pv 6) pa_nil)))) pe_int (fun _ _ => rfl)))))))),?_⟩
    obtain ⟨k0,hk0,hk1⟩ := I.a_free hrw
    obtain ⟨hb0,hb1,_⟩ := hB.range
    have hrl := I.rn
    have hLn := I.len
    have hhd := I.hc
    have hwd := I.wd
    have lx := hx.len
    have lH : (Pm.ofF r fun h => ((hd h : Nat) : Int)).length = r := Pm.ofF_len ..
    refine ⟨_,rfl,wide,rfl,(by omega : -(2 ^ 62) ≤ (wide : Int)),(by omega : (wide : Int) < 2 ^ 62),?_⟩
    rw [Int.toNat_natCast]
    refine comp_rngF (n := wide) (by omega) rfl (fun (k : Nat) => !(Pm.ofF r fun h => ((hd h : Nat) : Int)).any (eqI (.int (0 + (k : Int))))) (fun k => (0 + (k : Int))) ?_ ?_ ?_
    · intro H2 k g2 hk kk hkk
      exact ⟨_,rfl,_,rfl,lh,_,"int",rfl,SqL.of (g2 _ _ hH),rfl,_,rfl,hkk⟩
    · intro H2 k g2 hk _ kk hkk
      exact ⟨_,rfl,hkk⟩
    intro D hD
    obtain ⟨c,rest,hc⟩ : ∃ c rest,(List.range wide).filter (fun (k : Nat) => !(Pm.ofF r fun h => ((hd h : Nat) : Int)).any (eqI (.int (0 + (k : Int))))) = c :: rest := by
      refine List.exists_cons_of_ne_nil fun z => ?_
      have m : k0 ∈ (List.range wide).filter (fun (k : Nat) => !(Pm.ofF r fun h => ((hd h : Nat) : Int)).any (eqI (.int (0 + (k : Int))))) := by
        refine List.mem_filter.mpr ⟨List.mem_range.mpr hk0,?_⟩
        rw [Bool.not_eq_true',List.any_eq_false]
        intro x hx
        obtain ⟨h,hh,rfl⟩ := Pm.mem_ofF hx
        show ¬ ((((hd h : Nat) : Int) == 0 + (k0 : Int)) = true)
        have := hk1 h hh
        simp
        omega
      rw [z] at m; cases m
    have mc : c ∈ (List.range wide).filter (fun (k : Nat) => !(Pm.ofF r fun h => ((hd h : Nat) : Int)).any (eqI (.int (0 + (k : Int))))) := by rw [hc]; exact List.mem_cons_self ..
    have hcw : c < wide := List.mem_range.mp (List.mem_filter.mp mc).1
    have hcf : ∀ j,j < r → hd j ≠ c := fun j hj e => by
      have z := (List.mem_filter.mp mc).2
      rw [Bool.not_eq_true',List.any_eq_false] at z
      refine z ((hd j : Nat) : Int) (List.mem_map.mpr ⟨j,List.mem_range.mpr hj,rfl⟩) ?_
      show ((((hd j : Nat) : Int) == 0 + (c : Int)) = true)
      rw [e]; simp
    rw [hc]
    have gD := Same.new hD (.lst (((c :: rest).map fun (k : Nat) => (0 + (k : Int))).map V.int))
    refine ⟨_,.int (0 + (c : Int)),.inl (SqL.of upd_same),atI_len 0 rfl rfl,?_⟩
    rw [show (0 + (c : Int)) = (c : Int) by omega]
    generalize upd H D (.lst (((c :: rest).map fun (k : Nat) => (0 + (k : Int))).map V.int)) = H1 at gD
    refine ⟨(by show 1 ≤ sizeLine; decide),fun l1 hl1 => ?_⟩
    have g1 := Same.new hl1 (.lst [.int 0])
    have h1 : (upd H1 l1 (.lst [.int 0])) l1 = some (.lst [.int 0]) := upd_same
    generalize upd H1 l1 (.lst [.int 0]) = H2 at g1 h1
    refine ⟨_,rfl,_,h1,by omega,by omega,?_,fun l2 hl2 => ?_⟩
    · show 1 * (wide : Int).toNat ≤ sizeLine
      rw [Nat.one_mul]; exact Nat.le_of_lt (small1000 (by omega))
    rw [Int.toNat_natCast,replicate_ofF]
    have g2 := Same.new hl2 (.lst ((Pm.ofF wide fun _ => 0).map V.int))
    have h2 : (upd H2 l2 (.lst ((Pm.ofF wide fun _ => 0).map V.int))) l2 = some (.lst ((Pm.ofF wide fun _ => 0).map V.int)) := upd_same
    have gg := gD.trans (g1.trans g2)
    have f2 : H l2 = none := (gD.trans g1).free hl2
    generalize upd H2 l2 (.lst ((Pm.ofF wide fun _ => 0).map V.int)) = H3 at g2 h2 gg
    refine ⟨_,rfl,_,rfl,_,rfl,l2,_,_,c,rfl,rfl,h2,ixN_of rfl (by rw [List.length_map,Pm.ofF_len]; exact hcw),?_⟩
    rw [map_set_int]
    have e0 := Dm.freeL_zero (fun i => Rm.tk b (0 - Pm.co (Dm.ln L i) c)) hd last hcw
    rw [e0]
    have gu := gg.upd f2 (.lst ((Dm.freeL (fun i => Rm.tk b (0 - Pm.co (Dm.ln L i) c)) hd wide c last 0).map V.int))
    have hu : (upd H3 l2 (.lst ((Dm.freeL (fun i => Rm.tk b (0 - Pm.co (Dm.ln L i) c)) hd wide c last 0).map V.int))) l2 = some (.lst ((Dm.freeL (fun i => Rm.tk b (0 - Pm.co (Dm.ln L i) c)) hd wide c last 0).map V.int)) := upd_same
    generalize upd H3 l2 (.lst ((Dm.freeL (fun i => Rm.tk b (0 - Pm.co (Dm.ln L i) c)) hd wide c last 0).map V.int)) = H4 at gu hu
    refine ⟨_,rfl,.ref lh,r,rfl,.inl ⟨_,SqL.of (gu _ _ hH),by rw [List.length_map,lH]⟩,?_⟩
    refine ⟨(r : Int),rfl,(by omega : -(2 ^ 62) ≤ (r : Int)),(by omega : (r : Int) < 2 ^ 62),?_⟩
    rw [Int.toNat_natCast]
    refine for_range (lo := 0) (n := r) (fun i σ' H' => ∃ (o7 : Option V),σ' = [some (.int b),some (.int wide),some (.ref ll),some (.ref lh),some (.int last),some (.int c),some (.ref l2),o7] ∧ Same H H' ∧ H' l2 = some (.lst ((Dm.freeL (fun i => Rm.tk b (0 - Pm.co (Dm.ln L i) c)) hd wide c last i).map V.int))) ⟨_,rfl,gu,hu⟩ ?_ ?_
    · rintro i σ' H' hi' ⟨o7,rfl,g,hU⟩
      obtain ⟨t,e1,_,e2⟩ := (hx.same g).get (i := i) (by omega)
      have hwi := hwd i (by omega)
      refine ⟨_,rfl,_,rfl,_,rfl,_,.ref t,.inl (SqL.of (g _ _ hL)),atI_len i (by omega) e1,_,rfl,_,_,.inl (SqL.of e2),atI_ints (ns := Dm.ln L i) (by omega : (0 : Int) ≤ (c : Int)) (by omega),_,_,rfl,rfl,b,_,rfl,hb0,?_⟩
      refine ⟨_,rfl,_,rfl,_,rfl,_,_,.inl (SqL.of (g _ _ hH)),atI_ints (ns := Pm.ofF r fun h => ((hd h : Nat) : Int)) (by omega : (0 : Int) ≤ 0 + (i : Int)) (by rw [lH]; omega),?_⟩
      have eh : (Pm.ofF r fun h => ((hd h : Nat) : Int)).getD (0 + (i : Int)).toNat 0 = ((hd i : Nat) : Int) := by
        rw [show (0 + (i : Int)).toNat = i by omega]
        have := Pm.co_ofF r (fun h => ((hd h : Nat) : Int)) i
        rw [if_pos hi'] at this
        exact this
      rw [eh]
      have hh := hhd i hi'
      refine ⟨l2,_,_,hd i,rfl,rfl,hU,ixN_of rfl (by rw [List.length_map,Dm.freeL_len]; exact hh),?_⟩
      rw [map_set_int]
      refine ⟨_,rfl,g.upd f2 _,?_⟩
      rw [upd_same,Int.toNat_natCast]
      have st := Dm.freeL_step (E := fun i => Rm.tk b (0 - Pm.co (Dm.ln L i) c)) (wide := wide) (last := last) hh (hcf i hi') (fun h h2 e => by have := I.up h i h2 hi'; omega)
      exact congrArg (fun z => some (HO.lst (List.map V.int z))) st
    · rintro σ' H' ⟨o7,rfl,g,hU⟩
      have hf2 : H l2 = none := f2
      refine ⟨_,rfl,_,rfl,_,rfl,b,last,l2,_,rfl,hB,I.last_ne.1,I.last_ne.2,hU,by rw [Dm.freeL_len]; omega,(hsz.2 _ _ _ _ _ _ (by omega) I).1,fun t lt bot us H5 g5 ht hlt fr low => ?_⟩
      refine ⟨_,_,.inr (SqT.of ht),rfl,q lt _ H5 (g.trans g5) hlt (g.free fr) ⟨A,hd,r,L,last,c,bot,I,hcw,hcf,fun k hk => ?_,low⟩⟩
      have z := filter_first hc k hk
      rw [Bool.not_eq_false',List.any_eq_true] at z
      obtain ⟨x,hx1,hx2⟩ := z
      obtain ⟨j,hj,rfl⟩ := Pm.mem_ofF hx1
      refine ⟨j,hj,?_⟩
      have hx3 : ((((hd j : Nat) : Int) == 0 + (k : Int)) = true) := hx2
      simp at hx3
      omega
theorem ok_solution (B : Bt mg) (F : Fn K mg "solution" s_solution ["by","wide","table","wished"]) (C_line_taken : Cal P w K mg base "line_taken" 2 ["by","line"] (spLineTaken K)) (C_clear : Cal P w K mg base "clear" 5 ["by","wide","lines"] spClear) (C_lowest : Cal P w K mg base "lowest" 4 ["by","bottom","tops"] spLowest) (C_free_numbers : Cal P w K mg base "free_numbers" 5 ["by","wide","lines","heads","last"] spFree) : Cal P w K mg base "solution" 6 ["by","wide","table","wished"] spSolution := by
  refine F.cal sc_solution (fun vs H Q E h => ?_) (fun f cdv A outer s H vs Q E hr h => ?_)
  · obtain ⟨u,b,wide,ta,tw,xs,L,ws,ex,rfl,_⟩ := h; rfl
  · obtain ⟨u,b,wide,ta,tw,xs,L,ws,ex,rfl,hB,hT,hx,hW,lw,hn,hw,hsz,hwd,bL,bW,qn,qo,qm⟩ := h
    refine ⟨_,(pss_cons (ps_setC (i := 4) (hN := sc_solution.nd) (hi' := rfl) (hx := (Or.inl rfl)) (sc := cs_solution1) (N := ["i","by","table","wished"]) (ix := [none,some 0,some 2,some 3]) (comp_mk (by kernel_rfl) (by kernel_rfl) (by kernel_rfl) (by kernel_rfl) (by kernel_rfl) (by kernel_rfl) (by kernel_rfl) (by kernel_rfl)) rfl (pi_range1 rfl B.b_range (pa_cons (pe_callB (xlen K) rfl B.b_len boot_len (pa_n (pv 2) pa_nil)) pa_nil)) (fun cl C s₀ H₀ ex => ⟨(pg_name (i := 0) (show (["i","by","table","wished"] : List Str).Nodup by decide +kernel) rfl (Or.inl rfl)),pif_nil,(pe_callC C_line_taken hr rfl (pa_n (pv 1) (pa_b (pe_op (xadd K) (pe_ix (xix K) (pv 2) (pv 0) (fun _ _ => rfl)) (pe_lst (pa_cons (pe_ix (xix K) (pv 3) (pv 0) (fun _ _ => rfl)) pa_nil))) pa_nil)))⟩))
      (pss_cons (ps_set (i := 6) sc_solution.nd rfl (Or.inl rfl) (pe_callC C_clear hr rfl (pa_n (pv 0) (pa_n (pv 1) (pa_n (pv 4) pa_nil)))))
      (pss_cons (ps_set (i := 7) sc_solution.nd rfl (Or.inl rfl) (pe_ix (xix K) (pv 6) pe_int (fun _ _ => rfl)))
      (pss_cons (ps_set (i := 8) sc_solution.nd rfl (Or.inl rfl) (pe_ix (xix K) (pv 6) pe_int (fun _ _ => rfl)))
      (pss_cons (ps_if (pt_val (pe_callB (xany K rfl) rfl B.b_any boot_any (pa_cons (pe_comp (sc := cs_solution2) (N := ["line","wide"]) (ix := [none,some 1]) (comp_mk (by kernel_rfl) (by kernel_rfl) (by kernel_rfl) (by kernel_rfl) (by kernel_rfl) (by kernel_rfl) (by kernel_rfl) (by kernel_rfl)) rfl (xseq K (pe_slice (xsl K) (pv 4) (po_some (pe_callB (xlen K) rfl B.b_len boot_len (pa_n (pv 7) pa_nil))) po_none)) (fun cl C s₀ H₀ ex => ⟨(pg_name (i := 0) (show (["line","wide"] : List Str).Nodup by decide +kernel) rfl (Or.inl rfl)),pif_nil,(pe_cmpR (xne K hr) (pe_ix (xix K) (pv 0) (pv 1) (fun _ _ => rfl)) pe_int (nomark _))⟩)) pa_nil)))
      (pss_one (ps_ret pe_non))
      pss_nil)
      (pss_cons (ps_set (i := 9) sc_solution.nd rfl (Or.inl rfl) (pe_op v_mul (pe_lst (pa_k pe_int pa_nil)) (pv 1)))
      (pss_cons (ps_for PassesOwn.never rfl (pi_range1 rfl B.b_range (pa_cons (pe_callB (xlen K) rfl B.b_len boot_len (pa_n (pv 7) pa_nil)) pa_nil)) (pg_name (i := 5) sc_solution.nd rfl (Or.inl rfl))
      (pss_one (ps_asg (pe_ix (xix K) (pe_ix (xix K) (pv 4) (pv 5) (fun _ _ => rfl)) (pv 1) (fun _ _ => rfl)) (pg_sub (pv 9) (pe_ix (xix K) (pv 7) (pv 5) (fun _ _ => rfl)) set_list))))
      (pss_cons (ps_set (i := 10) sc_solution.nd rfl (Or.inl rfl) (pe_callC C_lowest hr rfl (pa_n (pv 0) (pa_n (pv 8) (pa_n (pv 9) pa_nil)))))
      (pss_cons (ps_if (pt_cmpR (xeq K hr) (pe_callB (xlen K) rfl B.b_len boot_len (pa_n (pv 7) pa_nil)) (pv 1) (nomark _))
      (pss_one (ps_ret (pe_tup (pa_k pe_str (pa_cons (pe_ix (xix K) (pv 10) pe_int (fun _ _ => rfl)) (pa_cons (pe_ix (xix K) (pv 10) pe_int (fun _ _ => rfl)) pa_nil))))))
      pss_nil)
      (pss_one (ps_ret (pe_tup (pa_k pe_str (pa_cons (pe_ix (xix K) (pv 10) pe_int (fun _ _ => rfl)) (pa_cons (pe_ix (xix K) (pv 10) pe_int (fun _ _ => rfl)) (pa_cons (pe_callC C_free_numbers hr rfl (pa_n (pv 0) (pa_n (pv 1) (pa_n (pv 4) (pa_n (pv 7) (pa_n (pv 8) pa_nil)))))) pa_nil)))))))))))))))),?_⟩
    have hDm := hB.dom
    obtain ⟨hb0,hb1,hb2⟩ := hB.range
    have lx := hx.len
    have lWm : (ws.map V.int).length = ws.length := List.length_map _
    refine ⟨_,rfl,.ref ta,L.length,rfl,.inl ⟨_,SqL.of hT,by omega⟩,?_⟩
    refine ⟨(L.length : Int),rfl,(by omega : -(2 ^ 62) ≤ (L.length : Int)),(by omega : (L.length : Int) < 2 ^ 62),?_⟩
    rw [Int.toNat_natCast]
    refine comp_lists its_range (by rw [List.length_map,List.length_range]; omega) rfl (onInt fun i => (Dm.ln L i ++ [Pm.co ws i]).map (Rm.tk b)) ?_ ?_
    · intro H2 x g2 hx2 k hk
      obtain ⟨j,hj,rfl⟩ := List.mem_map.mp hx2
      have hj' := List.mem_range.mp hj
      obtain ⟨t,e1,_,e2⟩ := (hx.same g2).get (i := j) hj'
      refine ⟨_,rfl,_,rfl,_,rfl,_,.ref t,.inl (SqL.of (g2 _ _ hT)),atI_len j (by omega) e1,?_⟩
      refine ⟨_,rfl,_,rfl,_,_,.inl (SqL.of (g2 _ _ hW)),atI_ints (ns := ws) (by omega : (0 : Int) ≤ 0 + (j : Int)) (by omega),(by show 1 ≤ sizeLine; decide),fun l1 hl1 => ?_⟩
      have ej : (0 + (j : Int)).toNat = j := by omega
      rw [ej]
      have g3 := Same.new hl1 (.lst [.int (ws.getD j 0)])
      have h1 : (upd H2 l1 (.lst [.int (ws.getD j 0)])) l1 = some (.lst [.int (ws.getD j 0)]) := upd_same
      have e3 := g3 _ _ e2
      generalize upd H2 l1 (.lst [.int (ws.getD j 0)]) = H3 at g3 h1 e3
      refine .inl ⟨_,_,e3,h1,?_,fun l2 hl2 => ?_⟩
      · rw [List.length_map,hwd j hj']; exact Nat.le_of_lt (small1000 (by show wide + 1 ≤ 1000; omega))
      have g4 := Same.new hl2 (.lst ((Dm.ln L j).map V.int ++ [.int (ws.getD j 0)]))
      refine ⟨b,l2,Dm.ln L j ++ [Pm.co ws j],rfl,hb0,by rw [upd_same,List.map_append]; rfl,by rw [List.length_append,hwd j hj']; show wide + 1 ≤ 1000; omega,fun t' H5 g5 hn5 h5 => ?_⟩
      refine hk t' H5 ((g3.trans g4).trans g5) ((g3.trans g4).free hn5) ?_
      show H5 t' = some (.lst (((Dm.ln L (0 + (j : Int)).toNat ++ [Pm.co ws (0 + (j : Int)).toNat]).map (Rm.tk b)).map V.int))
      rw [ej]; exact h5
    intro D ys H1 hD g1 hD1 hy
    rw [range_aug] at hy
    have ly := hy.len
    rw [Dm.augL_len] at ly
    have bd200 : ∀ i k,Rm.Bd u (Dm.aug b L ws i k) := fun i k => by
      by_cases hi : i < L.length
      · unfold Dm.aug
        rw [Dm.ln_aug hi,Pm.co_map (Pm.tk0 b)]
        refine Rm.tk_bd hb0 ((Rm.Bd.of (n := 10) (by omega) (by omega)).mono hsz.1) (Pm.Bd_co (fun x hx => ?_) k)
        rcases List.mem_append.mp hx with hx | hx
        · exact bL _ (ln_mem hi) x hx
        · rw [List.mem_singleton.mp hx]; exact Pm.Bd_co bW i
      · have e : Dm.ln (Dm.augL b L ws) i = [] := by
          unfold Dm.ln
          rw [List.getD_eq_getElem?_getD,List.getElem?_eq_none (by rw [Dm.augL_len]; omega)]; rfl
        unfold Dm.aug
        rw [e,Pm.co_nil]; exact Rm.Bd.zero _
    refine ⟨_,rfl,_,rfl,_,rfl,b,wide,D,ys,Dm.augL b L ws,wide + 1,u,[D],rfl,hB,hD1,hy,List.mem_singleton.mpr rfl,(fun a' ha => by rw [List.mem_singleton.mp ha]; exact ⟨_,hD1⟩),by omega,by omega,by rw [Dm.augL_len]; omega,by rw [Dm.augL_len]; exact hsz.2,fun i hi => ?_,fun i k => Dm.aug_tk i k,fun i k => bd200 i k,fun t th A hd r L' last xs' H2 k2 hTt hTh hL' hx' I => ?_⟩
    · rw [Dm.augL_len] at hi
      rw [Dm.ln_aug hi,List.length_map,List.length_append,hwd i hi]; rfl
    rw [Dm.augL_len] at I
    have gS : Same H H2 := fun c u hu => k2 _ _ (fun z => by rw [z,hD] at hu; cases hu) (g1 _ _ hu)
    have lh : ((Pm.ofF r fun h => ((hd h : Nat) : Int)).map V.int).length = r := by rw [List.length_map,Pm.ofF_len]
    have lh0 : (Pm.ofF r fun h => ((hd h : Nat) : Int)).length = r := Pm.ofF_len ..
    have lx' := hx'.len
    have lL' := I.len
    have hrn := I.rn
    refine ⟨_,rfl,_,_,.inr (SqT.of hTt),rfl,?_⟩
    refine ⟨_,rfl,_,_,.inr (SqT.of hTt),rfl,?_⟩
    refine ⟨_,rfl,_,rfl,.ref th,r,rfl,.inl ⟨_,SqL.of hTh,lh.symm⟩,_,rfl,.inl ⟨_,SqL.of hL',fun ps hps => ?_⟩⟩
    rw [cut_from xs' (by omega)]
    have gp := Same.new hps (.lst (xs'.drop r))
    have hp3 : (upd H2 ps (.lst (xs'.drop r))) ps = some (.lst (xs'.drop r)) := upd_same
    have hx3 := (Lns.drop r hx').same gp
    generalize upd H2 ps (.lst (xs'.drop r)) = H3 at gp hp3 hx3
    refine ⟨ps,rfl,.inl ⟨⟨_,SqL.of hp3⟩,?_⟩⟩
    refine comp_lnsV hp3 hx3 (by rw [List.length_drop]; omega) rfl (fun p => .bl (not (decide (p.getD wide 0 = 0)))) ?_ ?_
    · intro H4 t p g4 hp hT4 k hk
      obtain ⟨i,h1,h2,rfl⟩ := ln_drop hp
      have := I.wd i (by omega)
      refine ⟨_,rfl,_,rfl,_,_,.inl (SqL.of hT4),atI_ints (ns := Dm.ln L' i) (by omega : (0 : Int) ≤ (wide : Int)) (by omega),?_⟩
      rw [Int.toNat_natCast]
      exact hk _ (Same.refl _)
    intro D2 H4 hD2 g4 hD4
    have gg := (gS.trans gp).trans g4
    have hbs : ((L'.drop r).map fun p => V.bl (not (decide (p.getD wide 0 = 0)))) = ((L'.drop r).map fun p => not (decide (p.getD wide 0 = 0))).map V.bl := by rw [List.map_map]; rfl
    rw [hbs] at hD4
    refine ⟨D2,_,rfl,SqL.of hD4,_,rfl,?_⟩
    refine ite2 (fun c => ?_) (fun c => ?_)
    · obtain ⟨x,hx1,hx2⟩ := List.any_eq_true.mp c
      obtain ⟨p,hp,rfl⟩ := List.mem_map.mp hx1
      obtain ⟨i,h1,h2,rfl⟩ := ln_drop hp
      have hne : Rm.tk b (Dm.En A hd r i wide) ≠ 0 := by
        rw [← I.en i wide (by omega) (by omega)]
        intro z
        have z' : (Dm.ln L' i).getD wide 0 = 0 := z
        rw [decide_eq_true z'] at hx2
        cases hx2
      exact qn (fun x bt hb hxs => hne (I.none_left hDm hb hxs i h1 (by omega))) (I.against h1 (by omega) hne) _ gg
    have hz : ∀ i,r ≤ i → i < L.length → Rm.tk b (Dm.En A hd r i wide) = 0 := fun i h1 h2 => by
      rw [← I.en i wide (by omega) (by omega)]
      by_cases z : Pm.co (Dm.ln L' i) wide = 0
      · exact z
      · refine absurd (List.any_eq_true.mpr ⟨true,List.mem_map.mpr ⟨_,ln_in_drop h1 (by omega),?_⟩,rfl⟩) c
        have z' : ¬ (Dm.ln L' i).getD wide 0 = 0 := z
        rw [decide_eq_false z']; rfl
    have hL4 := g4 _ _ (gp _ _ hL')
    have hx4 := (hx'.same gp).same g4
    have hTh4 := g4 _ _ (gp _ _ hTh)
    refine ⟨(by show 1 ≤ sizeLine; decide),fun l1 hl1 => ?_⟩
    have g5 := Same.new hl1 (.lst [.int 0])
    have h1 : (upd H4 l1 (.lst [.int 0])) l1 = some (.lst [.int 0]) := upd_same
    generalize upd H4 l1 (.lst [.int 0]) = H5 at g5 h1
    refine ⟨_,rfl,_,h1,by omega,by omega,?_,fun l2 hl2 => ?_⟩
    · show 1 * (wide : Int).toNat ≤ sizeLine
      rw [Nat.one_mul]; exact Nat.le_of_lt (small1000 (by omega))
    rw [Int.toNat_natCast,replicate_ofF]
    have g6 := Same.new hl2 (.lst ((Pm.ofF wide fun _ => 0).map V.int))
    have h2 : (upd H5 l2 (.lst ((Pm.ofF wide fun _ => 0).map V.int))) l2 = some (.lst ((Dm.topsL (fun h => Rm.tk b (Dm.En A hd r h wide)) hd wide 0).map V.int)) := by rw [upd_same,Dm.topsL_zero]
    have g46 := g5.trans g6
    have f2 : H4 l2 = none := g5.free hl2
    generalize upd H5 l2 (.lst ((Pm.ofF wide fun _ => 0).map V.int)) = H6 at g6 h2 g46
    refine ⟨_,rfl,.ref th,r,rfl,.inl ⟨_,SqL.of (g46 _ _ hTh4),lh.symm⟩,?_⟩
    refine ⟨(r : Int),rfl,(by omega : -(2 ^ 62) ≤ (r : Int)),(by omega : (r : Int) < 2 ^ 62),?_⟩
    refine for_range (lo := 0) (n := (r : Int).toNat) (fun i σ' H' => ∃ (o5 : Option V),σ' = [some (.int b),some (.int wide),some (.ref ta),some (.ref tw),some (.ref D),o5,some (.ref t),some (.ref th),some (.int last),some (.ref l2),none] ∧ Same H4 H' ∧ H' l2 = some (.lst ((Dm.topsL (fun h => Rm.tk b (Dm.En A hd r h wide)) hd wide i).map V.int))) ⟨_,rfl,g46,h2⟩ ?_ ?_
    · rintro i σ' H' hi ⟨o5,rfl,g,hU⟩
      have hi' : i < r := by omega
      obtain ⟨t4,e1,_,e2⟩ := (hx4.same g).get (i := i) (by omega)
      have hwi := I.wd i (by omega)
      refine ⟨_,rfl,_,rfl,_,.ref t4,.inl (SqL.of (g _ _ hL4)),atI_len i (by omega) e1,_,rfl,_,_,.inl (SqL.of e2),atI_ints (ns := Dm.ln L' i) (by omega : (0 : Int) ≤ (wide : Int)) (by omega),?_⟩
      refine ⟨_,rfl,_,rfl,_,rfl,_,_,.inl (SqL.of (g _ _ hTh4)),atI_ints (ns := Pm.ofF r fun h => ((hd h : Nat) : Int)) (by omega : (0 : Int) ≤ 0 + (i : Int)) (by rw [lh0]; omega),?_⟩
      have eh : (Pm.ofF r fun h => ((hd h : Nat) : Int)).getD (0 + (i : Int)).toNat 0 = ((hd i : Nat) : Int) := by
        rw [show (0 + (i : Int)).toNat = i by omega]
        have := Pm.co_ofF r (fun h => ((hd h : Nat) : Int)) i
        rw [if_pos hi'] at this
        exact this
      rw [eh,Int.toNat_natCast]
      have hc := I.hc i hi'
      refine ⟨l2,_,_,hd i,rfl,rfl,hU,ixN_of rfl (by rw [List.length_map,Dm.topsL_len]; exact hc),?_⟩
      rw [map_set_int]
      refine ⟨_,rfl,g.upd f2 _,?_⟩
      have en : (Dm.ln L' i).getD wide 0 = Rm.tk b (Dm.En A hd r i wide) := I.en i wide (by omega) (by omega)
      rw [upd_same,en,Dm.topsL_step hc (fun h hh e => by have := I.up h i hh hi'; omega)]
    rintro σ' H7 ⟨o5,rfl,g7,hU⟩
    rw [Int.toNat_natCast] at hU
    refine ⟨_,rfl,_,rfl,_,rfl,b,last,l2,_,rfl,hB,I.last_ne.1,I.last_ne.2,hU,by rw [Dm.topsL_len]; omega,(hsz.2 _ _ _ _ _ _ (by omega) I).1,fun tl lt bot us H8 g8 htl hlt frl low => ?_⟩
    have so : Dm.SolvedBy u b L.length wide (Dm.aug b L ws) bot us := ⟨A,hd,r,L',last,I,hz,low⟩
    have hTh8 := g8 _ _ (g7 _ _ hTh4)
    have gA := (gg.trans g7).trans g8
    have fl : H lt = none := (gg.trans g7).free frl
    refine ⟨_,rfl,.ref th,r,rfl,.inl ⟨_,SqL.of hTh8,lh.symm⟩,_,rfl,_,rfl,?_⟩
    refine ite2 (fun c => ?_) (fun c => ?_)
    · have c' : r = wide := by have := dec_true c; omega
      refine ⟨_,rfl,_,_,.inr (SqT.of htl),rfl,_,rfl,_,_,.inr (SqT.of htl),rfl,(by show 3 ≤ sizeLine; decide),fun t2 ht2 => ?_⟩
      have g9 := Same.new ht2 (.tup [.str ("one" : Str),.int bot,.ref lt])
      exact qo _ _ so (I.ind hDm c') t2 lt _ (gA.trans g9) upd_same (g9 _ _ hlt) fl
    · have c' : r ≠ wide := by have := dec_false c; omega
      refine ⟨_,rfl,_,_,.inr (SqT.of htl),rfl,_,rfl,_,_,.inr (SqT.of htl),rfl,?_⟩
      refine ⟨_,rfl,_,rfl,_,rfl,_,rfl,_,rfl,u,b,wide,r,L.length,last,D,th,xs',L',hd,Dm.aug b L ws,A,[D],rfl,hB,g8 _ _ (g7 _ _ hL4),(hx4.same g7).same g8,hTh8,I,by omega,hsz,by omega,c',fun lf fs H9 g9 hlf frf hfo => ?_⟩
      refine ⟨(by show 4 ≤ sizeLine; decide),fun t2 ht2 => ?_⟩
      have g10 := Same.new ht2 (.tup [.str ("many" : Str),.int bot,.ref lt,.ref lf])
      exact qm _ _ fs so hfo t2 lt lf _ (gA.trans (g9.trans g10)) upd_same (g10 _ _ (g9 _ _ hlt)) (g10 _ _ hlf) fl (gA.free frf) fun z => by rw [z,frf] at hlt; cases hlt
theorem ok_lines_of (B : Bt mg) (F : Fn K mg "lines_of" s_lines_of ["known","size"]) : Cal P w K mg base "lines_of" 1 ["known","size"] spLinesOf := by
  refine F.cal sc_lines_of (fun vs H Q E h => ?_) (fun f cdv A outer s H vs Q E hr h => ?_)
  · obtain ⟨ka,kn,size,rfl,_⟩ := h; rfl
  · obtain ⟨ka,kn,size,rfl,hK,hs,hn,q⟩ := h
    refine ⟨_,(pss_cons (ps_set (i := 2) sc_lines_of.nd rfl (Or.inl rfl) (pe_lst pa_nil))
      (pss_cons (ps_for PassesOwn.never rfl (pi_range2 rfl B.b_range (pa_n (pv 1) (pa_cons (pe_callB (xlen K) rfl B.b_len boot_len (pa_n (pv 0) pa_nil)) pa_nil))) (pg_name (i := 3) sc_lines_of.nd rfl (Or.inr rfl))
      (pss_one (ps_expr (xappend K (pv 2) (pe_comp (sc := cs_lines_of1) (N := ["k","known","n"]) (ix := [none,some 0,some 3]) (comp_mk (by kernel_rfl) (by kernel_rfl) (by kernel_rfl) (by kernel_rfl) (by kernel_rfl) (by kernel_rfl) (by kernel_rfl) (by kernel_rfl)) rfl (pi_range1 rfl B.b_range (pa_n (pv 1) pa_nil)) (fun cl C s₀ H₀ ex => ⟨(pg_name (i := 0) (show (["k","known","n"] : List Str).Nodup by decide +kernel) rfl (Or.inl rfl)),pif_nil,(pe_ix (xix K) (pv 1) (pe_op op_sub (pe_op op_sub (pv 2) pe_int) (pv 0)) (fun _ _ => rfl))⟩))))))
      (pss_one (ps_ret (pv 2))))),?_⟩
    have lK : (kn.map V.int).length = kn.length := List.length_map _
    refine ⟨Nat.zero_le _,fun D hD => ?_⟩
    have g0 := Same.new hD (.lst [])
    have h0 : (upd H D (.lst [])) D = some (.lst []) := upd_same
    generalize upd H D (.lst []) = H0 at g0 h0
    refine ⟨_,rfl,_,rfl,.ref ka,kn.length,rfl,.inl ⟨_,SqL.of (g0 _ _ hK),lK.symm⟩,_,_,rfl,⟨(by omega : -(2 ^ 62) ≤ (size : Int)),(by omega : (size : Int) < 2 ^ 62),(by omega : -(2 ^ 62) ≤ (kn.length : Int)),(by omega : (kn.length : Int) < 2 ^ 62)⟩,?_⟩
    rw [show ((kn.length : Int) - (size : Int)).toNat = kn.length - size by omega]
    refine for_range (lo := (size : Int)) (n := kn.length - size) (fun i σ' H' => ∃ (o3 : Option V) (ys : List V),σ' = [some (.ref ka),some (.int size),some (.ref D),o3] ∧ Same H H' ∧ H' D = some (.lst ys) ∧ Lns H' [D] ys ((Dm.fitL kn size).take i)) ⟨_,[],rfl,g0,h0,.nil⟩ ?_ ?_
    · rintro i σ' H1 hi ⟨o3,ys,rfl,g1,h1,hy⟩
      have ly := hy.len
      rw [List.length_take,Dm.fitL_len] at ly
      refine ⟨_,rfl,.inl ⟨rfl,_,SqL.of h1⟩,?_⟩
      refine ⟨_,rfl,(size : Int),rfl,(by omega : -(2 ^ 62) ≤ (size : Int)),(by omega : (size : Int) < 2 ^ 62),?_⟩
      rw [Int.toNat_natCast]
      refine comp_rng (n := size) (by omega) rfl (fun k => Pm.co kn (size + i - 1 - k)) ?_ ?_
      · intro H2 k g2 hk kk hkk
        have e1 : (size : Int) + (i : Int) - 1 - (0 + (k : Int)) = ((size + i - 1 - k : Nat) : Int) := by omega
        refine ⟨_,rfl,_,rfl,_,_,rfl,rfl,_,rfl,_,_,rfl,rfl,_,_,.inl (SqL.of (g2 _ _ (g1 _ _ hK))),atI_ints (ns := kn) (by omega : (0 : Int) ≤ (size : Int) + (i : Int) - 1 - (0 + (k : Int))) (by omega),?_⟩
        rw [e1,Int.toNat_natCast]
        exact hkk
      intro t ht
      obtain ⟨p,hp⟩ : ∃ p : List Int,p = Pm.ofF size fun k => Pm.co kn (size + i - 1 - k) := ⟨_,rfl⟩
      have g2 := Same.new ht (.lst (p.map V.int))
      have h2 : (upd H1 t (.lst (p.map V.int))) t = some (.lst (p.map V.int)) := upd_same
      have hD2 := g2 _ _ h1
      have hy2 := hy.same g2
      have nt : t ≠ D := fun z => by rw [z,h1] at ht; cases ht
      rw [← hp]
      generalize upd H1 t (.lst (p.map V.int)) = H2 at g2 h2 hD2 hy2
      refine ⟨D,_,_,rfl,rfl,hD2,small1000 (by omega),?_⟩
      have ku : Keep D H2 (upd H2 D (.lst (ys ++ [.ref t]))) := fun a u na ha => by rw [upd_ne na]; exact ha
      refine ⟨_,ys ++ [.ref t],rfl,(g1.trans g2).upd hD _,upd_same,?_⟩
      have et : (Dm.fitL kn size).take (i + 1) = (Dm.fitL kn size).take i ++ [p] := by
        have : (Dm.fitL kn size)[i]? = some p := by rw [Dm.fitL,List.getElem?_map,List.getElem?_range hi,hp]; rfl
        rw [List.take_add_one,this]; rfl
      rw [et]
      exact (hy2.append (by simpa using nt) h2).keep (by simp) ku
    · rintro σ' H1 ⟨o3,ys,rfl,g1,h1,hy⟩
      rw [List.take_of_length_le (by rw [Dm.fitL_len]; exact Nat.le_refl _)] at hy
      exact ⟨_,rfl,q D ys H1 hD g1 h1 hy⟩
theorem ok_fit (B : Bt mg) (F : Fn K mg "fit" s_fit ["by","known","size"]) (C_solution : Cal P w K mg base "solution" 6 ["by","wide","table","wished"] spSolution) (C_lines_of : Cal P w K mg base "lines_of" 1 ["known","size"] spLinesOf) : Cal P w K mg base "fit" 7 ["by","known","size"] spFitU := by
  refine F.cal sc_fit (fun vs H Q E h => ?_) (fun f cdv A outer s H vs Q E hr h => ?_)
  · obtain ⟨u,b,ka,kn,size,rfl,_⟩ := h; rfl
  · obtain ⟨u,b,ka,kn,size,rfl,hB,hK,hs,hn,hsz,bK,q1,q2⟩ := h
    refine ⟨_,(pss_one (ps_ret (pe_callC C_solution hr rfl (pa_n (pv 0) (pa_n (pv 2) (pa_cons (pe_callC C_lines_of hr rfl (pa_n (pv 1) (pa_n (pv 2) pa_nil))) (pa_cons (pe_slice (xsl K) (pv 1) (po_some (pv 2)) po_none) pa_nil))))))),?_⟩
    refine ⟨_,rfl,_,rfl,_,rfl,_,rfl,ka,kn,size,rfl,hK,hs,by omega,fun D ys H1 hD g1 h1 hy => ?_⟩
    refine ⟨_,rfl,_,rfl,size,rfl,.inl ⟨_,SqL.of (g1 _ _ hK),fun l2 hl2 => ?_⟩⟩
    have ec : cutV (kn.map V.int) (some ((size : Nat) : Int)) none = (kn.drop size).map V.int := by
      have := cut_from (kn.map V.int) (k := size) (by rw [List.length_map]; exact hs)
      rw [List.map_drop]; exact this
    rw [ec]
    have g2 := Same.new hl2 (.lst ((kn.drop size).map V.int))
    have h2 : (upd H1 l2 (.lst ((kn.drop size).map V.int))) l2 = some (.lst ((kn.drop size).map V.int)) := upd_same
    have h12 := g2 _ _ h1
    have hy2 := hy.same g2
    generalize upd H1 l2 (.lst ((kn.drop size).map V.int)) = H2 at g2 h2 h12 hy2
    have gA := g1.trans g2
    have fl := Dm.fitL_len kn size
    refine ⟨u,b,size,D,l2,ys,Dm.fitL kn size,kn.drop size,[D],rfl,hB,h12,hy2,h2,by rw [List.length_drop,fl],by omega,by omega,by rw [fl]; exact hsz size hs,fun i hi => by rw [Dm.ln_fitL (by omega),Pm.ofF_len],fun p hp x hx => ?_,fun x hx => bK x (List.mem_of_mem_drop hx),?_,?_,?_⟩
    · obtain ⟨i,hi,rfl⟩ := List.mem_map.mp hp
      obtain ⟨k,_,rfl⟩ := Pm.mem_ofF hx
      exact Pm.Bd_co bK _
    · rw [fl]; exact fun hno _ H3 g3 => q1 (fun x bt hb hx => hno x bt hb (Dm.fb_sums.mpr hx)) H3 (gA.trans g3)
    · rw [fl]; exact fun bot us so hI t lt H3 g3 ht hlt fr => q2 _ H3 (gA.trans g3) (.one so hI ht hlt (gA.free fr))
    · rw [fl]; exact fun bot us fs so fo t lt lf H3 g3 ht hlt hlf fr fr2 _ => q2 _ H3 (gA.trans g3) (.many so fo ht hlt hlf (gA.free fr) (gA.free fr2))
theorem ok_fitted (B : Bt mg) (F : Fn K mg "fitted" s_fitted ["by","known"]) (C_fit : Cal P w K mg base "fit" 7 ["by","known","size"] spFitU) : Cal P w K mg base "fitted" 8 ["by","known"] spFittedU := by
  refine F.cal sc_fitted (fun vs H Q E h => ?_) (fun f cdv A outer s H vs Q E hr h => ?_)
  · obtain ⟨u,b,ka,kn,m,rfl,_⟩ := h; rfl
  · obtain ⟨u,b,ka,kn,m,rfl,hB,hK,hn,hsz,bK,hm,⟨x0,c0,hc0,hx0⟩,hmin,q⟩ := h
    refine ⟨_,(pss_cons (ps_set (i := 2) sc_fitted.nd rfl (Or.inl rfl) pe_int)
      (pss_cons (ps_set (i := 3) sc_fitted.nd rfl (Or.inl rfl) (pe_callB (xlen K) rfl B.b_len boot_len (pa_n (pv 1) pa_nil)))
      (pss_cons (ps_set (i := 4) sc_fitted.nd rfl (Or.inl rfl) (pe_bar (pe_callC C_fit hr rfl (pa_n (pv 0) (pa_n (pv 1) (pa_n (pv 3) pa_nil))))))
      (pss_cons (ps_while PassesOwn.never (PW.pt (pw_and (pt_cmpR op_lt (pv 2) (pv 3) (nomark _)) (pw_and1 (pt_cmpR (xeq K hr) (pe_ix (xix K) (pv 4) pe_int (fun _ _ => rfl)) pe_str (nomark _)))))
      (pss_cons (ps_set (i := 5) sc_fitted.nd rfl (Or.inl rfl) (pe_op op_fdiv (pe_op (xadd K) (pv 2) (pv 3)) pe_int))
      (pss_cons (ps_set (i := 6) sc_fitted.nd rfl (Or.inl rfl) (pe_bar (pe_callC C_fit hr rfl (pa_n (pv 0) (pa_n (pv 1) (pa_n (pv 5) pa_nil))))))
      (pss_one (ps_bar (ps_if (pt_cmp (pc_isN (pv 6)))
      (pss_one (ps_set (i := 2) sc_fitted.nd rfl (Or.inl rfl) (pe_op (xadd K) (pv 5) pe_int)))
      (pss_cons (ps_set (i := 3) sc_fitted.nd rfl (Or.inl rfl) (pv 5))
      (pss_one (ps_set (i := 4) sc_fitted.nd rfl (Or.inl rfl) (pe_bar (pv 6)))))))))))
      (pss_one (ps_ret (pv 4))))))),?_⟩
    have h1 : Rm.tk b 1 ≠ 0 := by rw [hB.one]; decide
    have lK : (kn.map V.int).length = kn.length := List.length_map _
    refine ⟨_,rfl,.ref ka,kn.length,rfl,.inl ⟨_,SqL.of hK,lK.symm⟩,?_⟩
    refine Bar.by (fun v H1 => Same H H1 ∧ FitF u b kn kn.length H H1 v) (fun kk hkk => ⟨_,rfl,_,rfl,_,rfl,u,b,ka,kn,kn.length,rfl,hB,hK,Nat.le_refl _,hn,hsz,bK,fun hno => absurd (Dm.FB.whole (Nat.le_refl _) (fun _ => 0) 1) (hno _ _ h1),fun v H1 g f => hkk _ _ ⟨g,f⟩⟩) ?_
    rintro v H1 ⟨g1,hf⟩
    refine ⟨fun t σ' H' => ∃ (lo hi : Nat) (v : V) (o5 o6 : Option V),t = hi - lo ∧ lo ≤ m ∧ m ≤ hi ∧ hi ≤ kn.length ∧ σ' = [some (.int b),some (.ref ka),some (.int (lo : Int)),some (.int (hi : Int)),some v,o5,o6] ∧ Same H H' ∧ FitF u b kn hi H H' v,⟨_,0,kn.length,v,_,_,rfl,Nat.zero_le _,hm,Nat.le_refl _,rfl,g1,hf⟩,?_⟩
    rintro t σ' H2 ⟨lo,hi,v,o5,o6,rfl,l1,l2,l3,rfl,g2,hf⟩
    refine ⟨_,rfl,_,rfl,_,_,rfl,rfl,_,rfl,?_⟩
    refine ite2 (fun c => ?_) (fun c => iteF ?_)
    · have hlt : lo < hi := by have := dec_true c; omega
      cases hf with
      | one f1 fI ht hlt' fr =>
        refine ⟨_,rfl,_,_,.inr (SqT.of ht),rfl,_,rfl,iteF ?_⟩
        have em : hi = m := by
          refine Nat.le_antisymm (Nat.le_of_not_lt fun hmh => ?_) l2
          exact Dm.fb_two hc0 hx0 hmh fI
        subst em
        exact ⟨_,rfl,q _ _ g2 (.one f1 fI ht hlt' fr)⟩
      | many f1 ff ht hlt' hlf fr fr' =>
        refine ⟨_,rfl,_,_,.inr (SqT.of ht),rfl,_,rfl,iteT ?_⟩
        refine ⟨_,fun _ _ z => z,?_⟩
        refine ⟨_,rfl,_,rfl,_,_,rfl,rfl,⟨by decide,by decide⟩,?_⟩
        obtain ⟨mi,hmi⟩ : ∃ mi : Nat,mi = (lo + hi) / 2 := ⟨_,rfl⟩
        have emi : ((lo : Int) + (hi : Int)) / 2 = (mi : Int) := by omega
        dsimp only
        rw [emi]
        refine Bar.by (fun v H3 => Same H2 H3 ∧ ((v = .non ∧ ∀ x bt,Rm.tk b bt ≠ 0 → ¬ Dm.FB b (Pm.co kn) kn.length mi x bt) ∨ FitF u b kn mi H2 H3 v)) (fun kk hkk => ⟨_,rfl,_,rfl,_,rfl,u,b,ka,kn,mi,rfl,hB,g2 _ _ hK,by omega,hn,hsz,bK,fun hno H3 g3 => hkk _ _ ⟨g3,.inl ⟨rfl,hno⟩⟩,fun v H1 g f => hkk _ _ ⟨g,.inr f⟩⟩) ?_
        rintro v H3 ⟨g3,⟨rfl,hno⟩ | hf3⟩
        · refine ⟨_,rfl,_,rfl,iteT ?_⟩
          have hmm : mi < m := Nat.lt_of_not_le fun z => by
            obtain ⟨y,hy⟩ := hx0.more mi z
            exact hno y _ hc0 hy
          refine ⟨_,rfl,hi - (mi + 1),by omega,mi + 1,hi,_,_,_,rfl,hmm,l2,l3,rfl,g2.trans g3,(FitF.many f1 ff ht hlt' hlf fr fr').up (Same.refl _) g3⟩
        · have hmm : m ≤ mi := Nat.le_of_not_lt fun z => by
            obtain ⟨y,c,hc,hy⟩ := hf3.fits hB
            exact hmin mi z y c hc hy
          have hf4 := hf3.up g2 (Same.refl _)
          cases hf3 with
          | one f3 fI3 ht3 hl3 =>
            refine ⟨_,rfl,_,rfl,iteF ?_⟩
            exact ⟨_,rfl,_,rfl,mi - lo,by omega,lo,mi,_,_,_,rfl,l1,hmm,by omega,rfl,g2.trans g3,hf4⟩
          | many f3 ff3 ht3 hl3 hlf3 =>
            refine ⟨_,rfl,_,rfl,iteF ?_⟩
            exact ⟨_,rfl,_,rfl,mi - lo,by omega,lo,mi,_,_,_,rfl,l1,hmm,by omega,rfl,g2.trans g3,hf4⟩
    · have hlt : ¬ lo < hi := by have := dec_false c; omega
      have em : hi = m := by omega
      subst em
      exact ⟨_,rfl,q _ _ g2 hf⟩
theorem ok_Ldrawn_row (B : Bt mg) (F : Fn K mg "_law_drawn_row" s_Ldrawn_row ["_law_script","_law_by_here"]) (C_Lcell_at : Cal P w K mg base "_law_cell_at" 1 ["_law_script","_law_k"] (spCell K)) (C_Lrow : Cal P w K mg base "_law_row" 2 ["_law_script","_law_start","_law_by_here","_law_most"] (spRow20 K)) (C_Ltaken : Cal P w K mg base "_law_taken" 1 ["_law_by_here","_law_number_here"] spTaken) (C_Llonger : Cal P w K mg base "_law_longer" 3 ["_law_row_here","_law_number_here"] spLonger20) (C_Lnumber : Cal P w K mg base "_law_number" 1 ["_law_by_here","_law_cell","_law_sort"] spNum15) (C_Lmixed : Cal P w K mg base "_law_mixed" 1 ["_law_cell","_law_k"] spMixed) : Cal P w K mg base "_law_drawn_row" 4 ["_law_script","_law_by_here"] (spDrawn K) := by
  refine F.cal sc_Ldrawn_row (fun vs H Q E h => ?_) (fun f cdv A outer s H vs Q E hr h => ?_)
  · obtain ⟨a,ns,b,rfl,_⟩ := h; rfl
  · obtain ⟨a,ns,b,rfl,hS,hB,q⟩ := h
    refine ⟨_,(pss_cons (ps_set (i := 2) sc_Ldrawn_row.nd rfl (Or.inl rfl) (pe_callC C_Lcell_at hr rfl (pa_n (pv 0) (pa_k pe_int pa_nil))))
      (pss_cons (ps_if (pt_cmpR (xeq K hr) (pe_op op_mod (pe_op op_fdiv (pv 2) pe_int) pe_int) pe_int (nomark _))
      (pss_cons (ps_set (i := 3) sc_Ldrawn_row.nd rfl (Or.inl rfl) (pe_callC C_Lrow hr rfl (pa_n (pv 0) (pa_k pe_int (pa_n (pv 1) (pa_k pe_int pa_nil))))))
      (pss_cons (ps_setC (i := 4) (hN := sc_Ldrawn_row.nd) (hi' := rfl) (hx := (Or.inl rfl)) (sc := cs_Ldrawn_row2) (N := ["_law_part","_law_by_here"]) (ix := [none,some 1]) (comp_mk (by kernel_rfl) (by kernel_rfl) (by kernel_rfl) (by kernel_rfl) (by kernel_rfl) (by kernel_rfl) (by kernel_rfl) (by kernel_rfl)) rfl (xseq K (pe_slice (xsl K) (pv 3) (po_some pe_int) po_none)) (fun cl C s₀ H₀ ex => ⟨(pg_name (i := 0) (show (["_law_part","_law_by_here"] : List Str).Nodup by decide +kernel) rfl (Or.inl rfl)),pif_nil,(pe_comp (sc := cs_Ldrawn_row1) (N := ["_law_number_here","_law_by_here"]) (ix := [none,some 1]) (comp_mk (by kernel_rfl) (by kernel_rfl) (by kernel_rfl) (by kernel_rfl) (by kernel_rfl) (by kernel_rfl) (by kernel_rfl) (by kernel_rfl)) rfl (xseq K (pv 0)) (fun cl C s₀ H₀ ex => ⟨(pg_name (i := 0) (show (["_law_number_here","_law_by_here"] : List Str).Nodup by decide +kernel) rfl (Or.inl rfl)),pif_nil,(pe_callC C_Ltaken hr rfl (pa_n (pv 1) (pa_b (pe_op op_sub (pe_op op_mod (pv 0) pe_int) pe_int) pa_nil)))⟩))⟩))
      (pss_one (ps_ret (pe_tup (pa_n (pv 1) (pa_cons (pe_callTy (xtuple K) rfl B.b_tuple boot_tuple (pa_cons (pe_ix (xix K) (pv 4) pe_int (fun _ _ => rfl)) pa_nil)) (pa_cons (pe_callTy (xtuple K) rfl B.b_tuple boot_tuple (pa_cons (pe_ix (xix K) (pv 4) pe_int (fun _ _ => rfl)) pa_nil)) pa_nil))))))))
      pss_nil)
      (pss_cons (ps_set (i := 3) sc_Ldrawn_row.nd rfl (Or.inl rfl) (pe_callC C_Lrow hr rfl (pa_n (pv 0) (pa_k pe_int (pa_n (pv 1) (pa_k pe_int pa_nil))))))
      (pss_cons (ps_for PassesOwn.never rfl (pi_range1 rfl B.b_range (pa_b (pe_op op_mod (pv 2) pe_int) pa_nil)) (pg_name (i := 5) sc_Ldrawn_row.nd rfl (Or.inl rfl))
      (pss_one (ps_set (i := 3) sc_Ldrawn_row.nd rfl (Or.inl rfl) (pe_callC C_Llonger hr rfl (pa_n (pv 3) (pa_cons (pe_callC C_Lnumber hr rfl (pa_n (pv 1) (pa_cons (pe_callC C_Lmixed hr rfl (pa_n (pv 2) (pa_n (pv 5) pa_nil))) (pa_k pe_int pa_nil)))) pa_nil))))))
      (pss_one (ps_ret (pv 3))))))),?_⟩
    obtain ⟨hb0,hb1,_⟩ := hB.range
    refine ⟨_,rfl,a,ns,4,rfl,hS,by decide,?_⟩
    generalize cellAt ns 4 = c
    refine ⟨_,rfl,_,_,rfl,rfl,⟨by decide,by decide⟩,_,_,rfl,rfl,(by decide : (0 : Int) < 8),_,rfl,?_⟩
    refine ite2 (fun _ => ?_) (fun _ => ?_)
    · refine ⟨_,rfl,_,rfl,a,ns,1,b,12,rfl,hS,by decide,hB,by decide,fun v r H1 g1 hR hL => ?_⟩
      obtain ⟨a1,p,p2,rfl,hA,hP,hQ⟩ := hR
      have h12 := hL.short
      have hl := hL.len
      refine ⟨_,rfl,_,rfl,.inr (.inl ⟨_,SqT.of hA,fun z => absurd z.1 (by rw [show (1 : Int) = ((1 : Nat) : Int) from rfl,HT.sIx_nat]; show ¬ min 1 3 = 0; decide),fun p3 hp3 => ?_⟩)⟩
      have g2 := Same.new hp3 (.tup [.ref p,.ref p2])
      have h3 : (upd H1 p3 (.tup [.ref p,.ref p2])) p3 = some (.tup [.ref p,.ref p2]) := upd_same
      have hPP := g2 _ _ hP
      have hQQ := g2 _ _ hQ
      rw [cut_one]
      generalize upd H1 p3 (.tup [.ref p,.ref p2]) = H2 at g2 h3 hPP hQQ
      refine ⟨p3,rfl,.inr ⟨⟨_,SqT.of h3⟩,?_⟩⟩
      obtain ⟨A,hAe⟩ : ∃ A,A = r.rule.map fun n => Rm.tk b (n % 7 - 3) := ⟨_,rfl⟩
      obtain ⟨Bs,hBe⟩ : ∃ Bs,Bs = r.starts.map fun n => Rm.tk b (n % 7 - 3) := ⟨_,rfl⟩
      have e1 : onRef p A Bs (.ref p) = A := if_pos rfl
      have e2 : onRef p A Bs (.ref p2) = Bs := by
        show (if p2 = p then A else Bs) = Bs
        by_cases c : p2 = p
        · rw [if_pos c]
          rw [c,hPP] at hQQ
          have := congrArg (fun o => match o with | some (HO.tup l) => l.map (fun v => match v with | V.int k => k | _ => 0) | _ => []) hQQ
          simp only [List.map_map,Function.comp_def,List.map_id'] at this
          rw [hAe,hBe,this]
        · rw [if_neg c]
      refine comp_lists (its_tup (SqT.of h3)) (by show 2 ≤ 1000; decide) rfl (onRef p A Bs) ?_ ?_
      · intro H3 x g3 hx k hk
        obtain ⟨z,ws,rfl,hz,hws,hG⟩ : ∃ (z : Addr) (ws : List Int),x = .ref z ∧ H3 z = some (.tup (ws.map V.int)) ∧ ws.length ≤ 1000 ∧ onRef p A Bs (.ref z) = ws.map fun n => Rm.tk b (n % 7 - 3) := by
          rcases List.mem_cons.mp hx with e | e
          · exact ⟨p,r.rule,e,g3 _ _ hPP,by omega,by rw [e1,hAe]⟩
          · exact ⟨p2,r.starts,List.mem_singleton.mp e,g3 _ _ hQQ,by omega,by rw [e2,hBe]⟩
        rw [hG] at hk
        refine ⟨_,rfl,z,rfl,.inr ⟨⟨_,SqT.of hz⟩,comp_tup hz hws rfl (fun n => Rm.tk b (n % 7 - 3)) ?_ ?_⟩⟩
        · intro H4 n g4 hn kk hkk
          exact ⟨_,rfl,_,rfl,_,_,rfl,rfl,(by decide : (0 : Int) < 7),_,_,rfl,rfl,b,_,rfl,hb0,hkk⟩
        · intro D hD
          exact hk D _ (Same.new hD _) hD upd_same
      intro D ys H3 hD g3 hDD hy
      rw [List.map_cons,List.map_cons,List.map_nil,e1,e2] at hy
      obtain ⟨t0,i0,_,j0⟩ := hy.get (show 0 < [A,Bs].length from (by show 0 < 2; decide))
      obtain ⟨t1,i1,_,j1⟩ := hy.get (show 1 < [A,Bs].length from (by show 1 < 2; decide))
      have j0' : H3 t0 = some (.lst (A.map V.int)) := j0
      have j1' : H3 t1 = some (.lst (Bs.map V.int)) := j1
      refine ⟨_,rfl,_,rfl,_,.ref t0,.inl (SqL.of hDD),atI_len 0 rfl i0,t0,_,rfl,.inl ⟨SqL.of j0',fun u1 hu1 => ?_⟩⟩
      have k1 := Same.new hu1 (.tup (A.map V.int))
      refine ⟨_,rfl,_,.ref t1,.inl (SqL.of (k1 _ _ hDD)),atI_len 1 rfl i1,t1,_,rfl,.inl ⟨SqL.of (k1 _ _ j1'),fun u2 hu2 => ?_⟩⟩
      have k2 := Same.new hu2 (.tup (Bs.map V.int))
      refine ⟨(by show 3 ≤ sizeLine; decide),fun u3 hu3 => ?_⟩
      have k3 := Same.new hu3 (.tup [.int b,.ref u1,.ref u2])
      refine q (.ref u3) ⟨b,A,Bs⟩ _ (g1.trans (g2.trans (g3.trans (k1.trans (k2.trans k3))))) ⟨u3,u1,u2,rfl,upd_same,(k2.trans k3) _ _ upd_same,k3 _ _ upd_same⟩ (small_dr hB (by rw [hAe,hBe,List.length_map,List.length_map]; exact hl) (by rw [hAe,List.length_map]; exact h12) (fun x hx => ?_) (fun x hx => ?_))
      · rw [hAe] at hx
        obtain ⟨n,_,rfl⟩ := List.mem_map.mp hx
        exact small_num hB n
      · rw [hBe] at hx
        obtain ⟨n,_,rfl⟩ := List.mem_map.mp hx
        exact small_num hB n
    · refine ⟨_,rfl,_,rfl,a,ns,1,b,6,rfl,hS,by decide,hB,by decide,fun v r H1 g1 hR hL => ?_⟩
      have ok := hL.oks hB
      have c5 := emod_lo c (show (0 : Int) < 5 by decide)
      have c5' := emod_hi c (show (0 : Int) < 5 by decide)
      refine ⟨_,rfl,_,_,rfl,rfl,(by decide : (0 : Int) < 5),c % 5,rfl,(by omega : -(2 ^ 62) ≤ c % 5),(by omega : c % 5 < 2 ^ 62),?_⟩
      refine for_range (lo := 0) (n := (c % 5).toNat) (fun i σ' H' => ∃ v3 r3 o5,σ' = [some (.ref a),some (.int b),some (.int c),some v3,none,o5] ∧ Same H H' ∧ RowIs H' v3 r3 ∧ LgR b r i r3) ⟨v,r,none,rfl,g1,hR,LgR.start hL⟩ ?_ ?_
      · rintro i σ' H' hi ⟨v3,r3,o5,rfl,g,hR3,lg⟩
        have ok3 := lg.ok hB hL (by omega)
        have ll := lg.len
        have ls := hL.short
        refine ⟨_,rfl,_,rfl,_,rfl,_,rfl,_,_,rfl,by omega,by omega,b,_,0,rfl,v3,r3,_,rfl,hR3,ok3,by omega,num15_bd hb1 _ _,fun v' H2 g2 hR' => ?_⟩
        exact ⟨v',_,_,rfl,g.trans g2,hR',lg.step hB hL (by omega) fun z => num15_few z⟩
      · rintro σ' H2 ⟨v3,r3,o5,rfl,g2,hR3,lg⟩
        exact ⟨_,rfl,q v3 r3 H2 g2 hR3 (lg.dr hB hL (by omega))⟩
theorem ok_law (B : Bt mg) {f : Addr} {fd : FuncData} (F : Fun K "law" "law" s_law f fd) (C_Lby : Cal P w K mg base "_law_by" 1 ["_law_cell"] spBy16) (C_Lcell_at : Cal P w K mg base "_law_cell_at" 1 ["_law_script","_law_k"] (spCell K)) (C_Ldrawn_row : Cal P w K mg base "_law_drawn_row" 4 ["_law_script","_law_by_here"] (spDrawn K)) (C_shortest : Cal P w K mg base "shortest" 9 ["row"] spShort) (C_fitted : Cal P w K mg base "fitted" 8 ["by","known"] spFittedU) (C_Lgone : Cal P w K mg base "_law_gone" 2 ["_law_row_here","_law_count"] spGone) : FnOk P w K mg base (Flown P w) KLAW f fd ["_law_script"] (spLaw K) := by
  refine F.okN (k := 11) sc_law (fun vs H Q E h => ?_) (fun cdv A outer s H vs Q E hr h => ?_)
  · obtain ⟨a,ns,rfl,_⟩ := h; rfl
  · obtain ⟨a,ns,rfl,hS,hlen,q⟩ := h
    refine ⟨_,(pss_cons (ps_set (i := 1) sc_law.nd rfl (Or.inl rfl) (pe_callC C_Lby hr rfl (pa_cons (pe_callC C_Lcell_at hr rfl (pa_n (pv 0) (pa_k pe_int pa_nil))) pa_nil)))
      (pss_cons (ps_set (i := 2) sc_law.nd rfl (Or.inl rfl) (pe_callC C_Ldrawn_row hr rfl (pa_n (pv 0) (pa_n (pv 1) pa_nil))))
      (pss_cons (ps_set (i := 3) sc_law.nd rfl (Or.inl rfl) (pe_callC C_shortest hr rfl (pa_n (pv 2) pa_nil)))
      (pss_cons (ps_set (i := 4) sc_law.nd rfl (Or.inl rfl) (pe_callB (xlen K) rfl B.b_len boot_len (pa_cons (pe_ix (xix K) (pv 3) pe_int (fun _ _ => rfl)) pa_nil)))
      (pss_cons (ps_set (i := 5) sc_law.nd rfl (Or.inl rfl) (pe_op (xadd K) (pe_op v_mul pe_int (pv 4)) (pe_op op_mod (pe_callC C_Lcell_at hr rfl (pa_n (pv 0) (pa_k pe_int pa_nil))) pe_int)))
      (pss_cons (ps_if (pt_cmpR (xne K hr) (pe_callC C_fitted hr rfl (pa_n (pv 1) (pa_cons (pe_callC C_Lgone hr rfl (pa_n (pv 2) (pa_cons (pe_callB (call_min2 rfl) rfl B.b_min boot_min (pa_n (pv 5) (pa_k pe_int pa_nil))) pa_nil))) pa_nil))) (pe_tup (pa_k pe_str (pa_k pe_int (pa_cons (pe_callTy (xlist K) rfl B.b_list boot_list (pa_cons (pe_ix (xix K) (pv 3) pe_int (fun _ _ => rfl)) pa_nil)) pa_nil)))) (nomark _))
      (pss_one (ps_ret pe_bl))
      pss_nil)
      (pss_cons (ps_if (pt_cmpR (xeq K hr) (pv 4) pe_int (nomark _))
      (pss_one (ps_ret pe_bl))
      pss_nil)
      (pss_cons (ps_set (i := 6) sc_law.nd rfl (Or.inl rfl) (pe_callC C_fitted hr rfl (pa_n (pv 1) (pa_cons (pe_callC C_Lgone hr rfl (pa_n (pv 2) (pa_b (pe_op op_sub (pe_op v_mul pe_int (pv 4)) pe_int) pa_nil))) pa_nil))))
      (pss_one (ps_ret (pe_or (pe_cmpR op_lt (pe_callB (xlen K) rfl B.b_len boot_len (pa_cons (pe_ix (xix K) (pv 6) pe_int (fun _ _ => rfl)) pa_nil)) (pv 4) (nomark _)) (pe_one (pe_and (pe_cmpR (xeq K hr) (pe_ix (xix K) (pv 6) pe_int (fun _ _ => rfl)) pe_str (nomark _)) (pe_one (pe_cmpR (xeq K hr) (pe_callB (xlen K) rfl B.b_len boot_len (pa_cons (pe_ix (xix K) (pv 6) pe_int (fun _ _ => rfl)) pa_nil)) (pv 4) (nomark _)))))))))))))))),?_⟩
    refine ⟨_,rfl,a,ns,0,rfl,hS,by decide,?_⟩
    refine ⟨_,rfl,fun H0 g0 => ?_⟩
    have hB := by16_ok (cellAt ns 0)
    generalize by16 (cellAt ns 0) = b at hB
    obtain ⟨hb0,hb1,hb2⟩ := hB.range
    have h1b := hB.one
    refine ⟨_,rfl,_,rfl,a,ns,b,rfl,g0.seq hS,hB,fun v r H1 g1 hR D => ?_⟩
    have ok := D.ok
    have eb := D.by_
    have hBr : ByP r.b := by rw [eb]; exact hB
    refine ⟨_,rfl,v,r,rfl,hR,ok,hBr,D.tame,fun v2 L H2 g2 hF lst ll => ?_⟩
    obtain ⟨okF,tmF⟩ := D.shortOk hB lst ll
    have hp := lst.mon.pos
    have h12 := D.sh
    have hl := ok.len
    have hs := ok.short
    obtain ⟨l1,l2⟩ := shortR_len ll ok
    have atF : ∀ n,(shortR r L).at n = r.at n := fun n => shortR_at ok.at_tk lst (by omega) n
    replace hR := hR.same g2
    obtain ⟨m,hm⟩ : ∃ m,m = L.length - 1 := ⟨_,rfl⟩
    have hm12 : m ≤ 12 := by omega
    have KN : Kn b r m (shortR r L).rule := by
      refine ⟨by rw [l1,hm],fun x hx => ?_,?_,fun n hn => ?_⟩
      · have := okF.ruleNum x hx
        rw [show (shortR r L).b = b from eb] at this
        exact num_tk this
      · rw [hm]
        rw [eb] at lst
        exact Dm.ind_of_det hB.dom (Dm.hank_ne hB.dom (by rw [hB.one]; decide) lst.mon lst.nu lst.kp lst.all)
      · have e1 : Rm.tk (shortR r L).b ((shortR r L).at n) = Rm.tk (shortR r L).b (Rm.S (shortR r L).rule (shortR r L).at n (shortR r L).rule.length) := Pm.at_rec okF.len n (by rw [l1]; omega)
        rw [show (shortR r L).b = b from eb,atF,Pm.S_sm,l1,← hm] at e1
        rw [e1]
        exact Pm.tk_sm fun k _ => by rw [atF]
    obtain ⟨a2,s1,s2,rfl,hA2,hP2,hQ2⟩ := id hF
    have lP2 : ((shortR r L).rule.map V.int).length = m := by rw [List.length_map,l1,hm]
    generalize (shortR r L).rule = rule at KN hP2 lP2
    refine ⟨_,rfl,_,_,.inr (SqT.of hA2),rfl,.ref s1,m,rfl,.inr ⟨_,SqT.of hP2,lP2.symm⟩,?_⟩
    have gH : Same H H2 := g0.trans (g1.trans g2)
    obtain ⟨c9,hc9⟩ : ∃ c9 : Nat,cellAt ns 5 % 9 = (c9 : Int) := ⟨(cellAt ns 5 % 9).toNat,by have := emod_lo (cellAt ns 5) (show (0 : Int) < 9 by decide); omega⟩
    refine ⟨_,rfl,mulL (by decide) (by decide),_,rfl,a,ns,5,rfl,gH.seq hS,by decide,_,_,rfl,rfl,(by decide : (0 : Int) < 9),?_⟩
    obtain ⟨N,eN,hN1,hN2⟩ : ∃ N : Nat,(if (24 : Int) < 2 * (m : Int) + cellAt ns 5 % 9 then 24 else 2 * (m : Int) + cellAt ns 5 % 9) = (N : Int) ∧ 2 * m ≤ N ∧ N ≤ 24 := by
      by_cases c : (24 : Int) < 2 * (m : Int) + cellAt ns 5 % 9
      · rw [if_pos c]; exact ⟨24,rfl,by omega,by omega⟩
      · rw [if_neg c,hc9]; exact ⟨2 * m + c9,by omega,by omega,by omega⟩
    have h1 : Rm.tk b 1 ≠ 0 := by rw [h1b]; decide
    refine ⟨_,rfl,_,rfl,_,rfl,_,_,rfl,v,r,_,rfl,hR,ok,(show (0 : Int) ≤ (if (24 : Int) < 2 * (m : Int) + cellAt ns 5 % 9 then 24 else 2 * (m : Int) + cellAt ns 5 % 9) by rw [eN]; omega),(show (if (24 : Int) < 2 * (m : Int) + cellAt ns 5 % 9 then 24 else 2 * (m : Int) + cellAt ns 5 % 9) ≤ (900 : Int) by rw [eN]; omega),fun l3 H3 g3 hl3 h3 => ?_⟩
    replace h3 : H3 l3 = some (.lst ((r.row (if (24 : Int) < 2 * (m : Int) + cellAt ns 5 % 9 then 24 else 2 * (m : Int) + cellAt ns 5 % 9).toNat).map V.int)) := h3
    rw [eN,Int.toNat_natCast] at h3
    have lN : (r.row N).length = N := Rw.row_len ..
    obtain ⟨ua,cap,ubd⟩ := D.fitcap hB hN2
    refine ⟨ua,b,l3,r.row N,m,rfl,hB,h3,by omega,cap,ubd,by omega,⟨_,1,h1,KN.fits N⟩,fun t ht x bt hb => Dm.fit_none (a := r.at) (fun n hn => row_co r (by omega)) KN.ind (by omega) ht hb,fun v4 H4 g4 hf => ?_⟩
    obtain ⟨t4,lt4,rfl,ht4,hl4⟩ := hf.one_of hB KN hN1
    have g34 := g3.trans g4
    refine ⟨_,rfl,_,_,.inr (SqT.of (g34 _ _ hA2)),rfl,s1,_,rfl,.inr (SqT.of (g34 _ _ hP2)),fun l5 hl5 => ?_⟩
    refine ⟨(by show 3 ≤ sizeLine; decide),fun t6 ht6 => ?_⟩
    have g5 := Same.new hl5 (.lst (rule.map V.int))
    have g6 := Same.new ht6 (.tup [.str ("one" : Str),.int 1,.ref l5])
    refine eqOne (s := "one") (n := 1) (p := rule) (x := lt4) (y := l5) (by decide +kernel) (g6 _ _ (g5 _ _ ht4)) (g6 _ _ (g5 _ _ hl4)) upd_same (g6 _ _ upd_same) ⟨_,rfl,?_⟩
    refine iteF ?_
    have gA := g34.trans (g5.trans g6)
    refine ⟨_,rfl,_,rfl,?_⟩
    refine ite2 (fun _ => q _) (fun c => ?_)
    have hm0 : 0 < m := by have := dec_false c; omega
    refine ⟨_,rfl,_,rfl,_,rfl,mulL (by decide) (by decide),_,_,rfl,rfl,v,r,_,rfl,hR.same gA,ok,(show (0 : Int) ≤ 2 * (m : Int) - 1 by omega),(show 2 * (m : Int) - 1 ≤ 900 by omega),fun l7 H7 g7 hl7 h7 => ?_⟩
    replace h7 : H7 l7 = some (.lst ((r.row (2 * (m : Int) - 1).toNat).map V.int)) := h7
    rw [show (2 * (m : Int) - 1).toNat = 2 * m - 1 by omega] at h7
    have lM : (r.row (2 * m - 1)).length = 2 * m - 1 := Rw.row_len ..
    obtain ⟨ub,cap7,ubd7⟩ := D.fitcap hB (show 2 * m - 1 ≤ 24 by omega)
    obtain ⟨m7,hm7,hx7,hno7⟩ := least_one (P := fun t => ∃ x bt,Rm.tk b bt ≠ 0 ∧ Dm.FB b (Pm.co (r.row (2 * m - 1))) (r.row (2 * m - 1)).length t x bt) (m := m) ⟨_,1,h1,KN.fits _⟩
    refine ⟨ub,b,l7,r.row (2 * m - 1),m7,rfl,hB,h7,by omega,cap7,ubd7,by omega,hx7,fun t ht x bt hb hF => hno7 t ht ⟨x,bt,hb,hF⟩,fun v8 H8 g8 hf8 => ?_⟩
    obtain ⟨t8,lt8,w8,us,rest,x8,rfl,ht8,hl8,lus,hmany⟩ := hf8.told hB (by omega) hm7
    have lU : (us.map V.int).length = m7 := by rw [List.length_map,lus]
    refine ⟨_,rfl,_,_,.inr (SqT.of ht8),atI_len 2 rfl rfl,.ref lt8,m7,rfl,.inl ⟨_,SqL.of hl8,lU.symm⟩,_,rfl,_,_,rfl,rfl,_,rfl,?_⟩
    refine ite2 (fun _ => q _) (fun c => ?_)
    have em : m7 = m := by have := dec_false c; omega
    obtain rfl := hmany em
    refine ⟨_,rfl,_,_,.inr (SqT.of ht8),atI_len 0 rfl rfl,?_⟩
    refine ⟨_,rfl,?_⟩
    rw [show id (decide (("many" : Str) = PySem.Str.ofString "many")) = true from decide_eq_true rfl]
    refine iteT ?_
    refine ⟨_,rfl,_,_,.inr (SqT.of ht8),atI_len 2 rfl rfl,.ref lt8,m7,rfl,.inl ⟨_,SqL.of hl8,lU.symm⟩,_,rfl,?_⟩
    show Q (.bl (decide ((m7 : Int) = (m : Int)))) H8
    rw [decide_eq_true (by rw [em])]
    exact q _
end
theorem all_mk {l : PySem.W.OpenLaw} {w : World} {K : PySem.W.Frag} {h : Heap} {mg : Str → Option Value} {fa : Addr} (X : K.In h) (G : h.Ns mainGlobals mg) (hfa : mg "law" = some (.ref fa))
    (F0 : FnIn K "is_prime" s_is_prime) (F1 : FnIn K "taken" s_taken) (F2 : FnIn K "inverse" s_inverse) (F3 : FnIn K "over" s_over) (F4 : FnIn K "line_taken" s_line_taken) (F5 : FnIn K "head_line" s_head_line) (F6 : FnIn K "bring_up" s_bring_up) (F7 : FnIn K "freed" s_freed) (F8 : FnIn K "clear" s_clear) (F9 : FnIn K "common_divisor" s_common_divisor) (F10 : FnIn K "lowest" s_lowest) (F11 : FnIn K "free_numbers" s_free_numbers) (F12 : FnIn K "solution" s_solution) (F13 : FnIn K "lines_of" s_lines_of) (F14 : FnIn K "fit" s_fit) (F15 : FnIn K "fitted" s_fitted) (F16 : FnIn K "trimmed" s_trimmed) (F17 : FnIn K "divided" s_divided) (F18 : FnIn K "monic" s_monic) (F19 : FnIn K "greatest" s_greatest) (F20 : FnIn K "of_rule" s_of_rule) (F21 : FnIn K "rule_of" s_rule_of) (F22 : FnIn K "prime_above" s_prime_above) (F23 : FnIn K "divides" s_divides) (F24 : FnIn K "taken_poly" s_taken_poly) (F25 : FnIn K "nearest" s_nearest) (F26 : FnIn K "joined" s_joined) (F27 : FnIn K "whole_greatest" s_whole_greatest) (F28 : FnIn K "shared_divisor" s_shared_divisor) (F29 : FnIn K "top_of" s_top_of) (F30 : FnIn K "least_of" s_least_of) (F31 : FnIn K "shortest" s_shortest) (F32 : FnIn K "_law_cell_at" s_Lcell_at) (F33 : FnIn K "_law_mixed" s_Lmixed) (F34 : FnIn K "_law_by" s_Lby) (F35 : FnIn K "_law_taken" s_Ltaken) (F36 : FnIn K "_law_number" s_Lnumber) (F37 : FnIn K "_law_gone" s_Lgone) (F38 : FnIn K "_law_row" s_Lrow) (F39 : FnIn K "_law_longer" s_Llonger) (F40 : FnIn K "_law_drawn_row" s_Ldrawn_row) (FL : FnIn K "law" s_law) (z_abs : PySem.W.nsIn K mainGlobals "abs" = some none) (z_any : PySem.W.nsIn K mainGlobals "any" = some none) (z_enumerate : PySem.W.nsIn K mainGlobals "enumerate" = some none) (z_len : PySem.W.nsIn K mainGlobals "len" = some none) (z_list : PySem.W.nsIn K mainGlobals "list" = some none) (z_max : PySem.W.nsIn K mainGlobals "max" = some none) (z_min : PySem.W.nsIn K mainGlobals "min" = some none) (z_range : PySem.W.nsIn K mainGlobals "range" = some none) (z_sum : PySem.W.nsIn K mainGlobals "sum" = some none) (z_tuple : PySem.W.nsIn K mainGlobals "tuple" = some none) (z_zip : PySem.W.nsIn K mainGlobals "zip" = some none) (g_BELOW_THE_PRIMES : ∃ t,PySem.W.nsIn K mainGlobals "BELOW_THE_PRIMES" = some (some (.int 1000000 t))) :
    ∃ fd : FuncData,(∀ (s : Shared) (v : Value),BindsTo s fd ⟨[v],[]⟩ [("_law_script",v)]) ∧ ∀ base : Heap,K.In base → base.Ns mainGlobals mg → FnOk l.prog w K mg base (Flown l.prog w) KLAW fa fd ["_law_script"] (spLaw K) := by
  obtain ⟨f,oc,od,kV,doc,pm,an,cdv,ct,sl,e1,e2,e3,e4⟩ := FL.ex
  have e := hfa.symm.trans (PySem.W.mg_of X G e1)
  cases e
  have FF := fun_mk (st := s_law) e2 e3 e4
  have B : Bt mg := ⟨PySem.W.mg_none_of X G z_abs,PySem.W.mg_none_of X G z_any,PySem.W.mg_none_of X G z_enumerate,PySem.W.mg_none_of X G z_len,PySem.W.mg_none_of X G z_list,PySem.W.mg_none_of X G z_max,PySem.W.mg_none_of X G z_min,PySem.W.mg_none_of X G z_range,PySem.W.mg_none_of X G z_sum,PySem.W.mg_none_of X G z_tuple,PySem.W.mg_none_of X G z_zip,(let ⟨t,q⟩ := g_BELOW_THE_PRIMES; ⟨t,PySem.W.mg_of X G q⟩)⟩
  have G0 := F0.fn X G (ps := ["number"]) fun _ _ _ _ _ _ us hl => by obtain ⟨_,rfl⟩ := L2.us1 hl; rfl
  have G1 := F1.fn X G (ps := ["by","number"]) fun _ _ _ _ _ _ us hl => by obtain ⟨_,_,rfl⟩ := L2.us2 hl; rfl
  have G2 := F2.fn X G (ps := ["prime","number"]) fun _ _ _ _ _ _ us hl => by obtain ⟨_,_,rfl⟩ := L2.us2 hl; rfl
  have G3 := F3.fn X G (ps := ["by","one","other"]) fun _ _ _ _ _ _ us hl => by obtain ⟨_,_,_,rfl⟩ := L2.us3 hl; rfl
  have G4 := F4.fn X G (ps := ["by","line"]) fun _ _ _ _ _ _ us hl => by obtain ⟨_,_,rfl⟩ := L2.us2 hl; rfl
  have G5 := F5.fn X G (ps := ["lines","begin","column"]) fun _ _ _ _ _ _ us hl => by obtain ⟨_,_,_,rfl⟩ := L2.us3 hl; rfl
  have G6 := F6.fn X G (ps := ["by","lines","at","top"]) fun _ _ _ _ _ _ us hl => by obtain ⟨_,_,_,_,rfl⟩ := L2.us4 hl; rfl
  have G7 := F7.fn X G (ps := ["by","line","head","column","last"]) fun _ _ _ _ _ _ us hl => by obtain ⟨_,_,_,_,_,rfl⟩ := L2.us5 hl; rfl
  have G8 := F8.fn X G (ps := ["by","wide","lines"]) fun _ _ _ _ _ _ us hl => by obtain ⟨_,_,_,rfl⟩ := L2.us3 hl; rfl
  have G9 := F9.fn X G (ps := ["one","other"]) fun _ _ _ _ _ _ us hl => by obtain ⟨_,_,rfl⟩ := L2.us2 hl; rfl
  have G10 := F10.fn X G (ps := ["by","bottom","tops"]) fun _ _ _ _ _ _ us hl => by obtain ⟨_,_,_,rfl⟩ := L2.us3 hl; rfl
  have G11 := F11.fn X G (ps := ["by","wide","lines","heads","last"]) fun _ _ _ _ _ _ us hl => by obtain ⟨_,_,_,_,_,rfl⟩ := L2.us5 hl; rfl
  have G12 := F12.fn X G (ps := ["by","wide","table","wished"]) fun _ _ _ _ _ _ us hl => by obtain ⟨_,_,_,_,rfl⟩ := L2.us4 hl; rfl
  have G13 := F13.fn X G (ps := ["known","size"]) fun _ _ _ _ _ _ us hl => by obtain ⟨_,_,rfl⟩ := L2.us2 hl; rfl
  have G14 := F14.fn X G (ps := ["by","known","size"]) fun _ _ _ _ _ _ us hl => by obtain ⟨_,_,_,rfl⟩ := L2.us3 hl; rfl
  have G15 := F15.fn X G (ps := ["by","known"]) fun _ _ _ _ _ _ us hl => by obtain ⟨_,_,rfl⟩ := L2.us2 hl; rfl
  have G16 := F16.fn X G (ps := ["numbers"]) fun _ _ _ _ _ _ us hl => by obtain ⟨_,rfl⟩ := L2.us1 hl; rfl
  have G17 := F17.fn X G (ps := ["by","one","other"]) fun _ _ _ _ _ _ us hl => by obtain ⟨_,_,_,rfl⟩ := L2.us3 hl; rfl
  have G18 := F18.fn X G (ps := ["prime","poly"]) fun _ _ _ _ _ _ us hl => by obtain ⟨_,_,rfl⟩ := L2.us2 hl; rfl
  have G19 := F19.fn X G (ps := ["by","one","other"]) fun _ _ _ _ _ _ us hl => by obtain ⟨_,_,_,rfl⟩ := L2.us3 hl; rfl
  have G20 := F20.fn X G (ps := ["by","rule"]) fun _ _ _ _ _ _ us hl => by obtain ⟨_,_,rfl⟩ := L2.us2 hl; rfl
  have G21 := F21.fn X G (ps := ["by","poly"]) fun _ _ _ _ _ _ us hl => by obtain ⟨_,_,rfl⟩ := L2.us2 hl; rfl
  have G22 := F22.fn X G (ps := ["number"]) fun _ _ _ _ _ _ us hl => by obtain ⟨_,rfl⟩ := L2.us1 hl; rfl
  have G23 := F23.fn X G (ps := ["monic_one","poly"]) fun _ _ _ _ _ _ us hl => by obtain ⟨_,_,rfl⟩ := L2.us2 hl; rfl
  have G24 := F24.fn X G (ps := ["prime","poly"]) fun _ _ _ _ _ _ us hl => by obtain ⟨_,_,rfl⟩ := L2.us2 hl; rfl
  have G25 := F25.fn X G (ps := ["modulus","number"]) fun _ _ _ _ _ _ us hl => by obtain ⟨_,_,rfl⟩ := L2.us2 hl; rfl
  have G26 := F26.fn X G (ps := ["modulus","number","prime","rest"]) fun _ _ _ _ _ _ us hl => by obtain ⟨_,_,_,_,rfl⟩ := L2.us4 hl; rfl
  have G27 := F27.fn X G (ps := ["one","other"]) fun _ _ _ _ _ _ us hl => by obtain ⟨_,_,rfl⟩ := L2.us2 hl; rfl
  have G28 := F28.fn X G (ps := ["by","one","other"]) fun _ _ _ _ _ _ us hl => by obtain ⟨_,_,_,rfl⟩ := L2.us3 hl; rfl
  have G29 := F29.fn X G (ps := ["row","poly"]) fun _ _ _ _ _ _ us hl => by obtain ⟨_,_,rfl⟩ := L2.us2 hl; rfl
  have G30 := F30.fn X G (ps := ["row"]) fun _ _ _ _ _ _ us hl => by obtain ⟨_,rfl⟩ := L2.us1 hl; rfl
  have G31 := F31.fn X G (ps := ["row"]) fun _ _ _ _ _ _ us hl => by obtain ⟨_,rfl⟩ := L2.us1 hl; rfl
  have G32 := F32.fn X G (ps := ["_law_script","_law_k"]) fun _ _ _ _ _ _ us hl => by obtain ⟨_,_,rfl⟩ := L2.us2 hl; rfl
  have G33 := F33.fn X G (ps := ["_law_cell","_law_k"]) fun _ _ _ _ _ _ us hl => by obtain ⟨_,_,rfl⟩ := L2.us2 hl; rfl
  have G34 := F34.fn X G (ps := ["_law_cell"]) fun _ _ _ _ _ _ us hl => by obtain ⟨_,rfl⟩ := L2.us1 hl; rfl
  have G35 := F35.fn X G (ps := ["_law_by_here","_law_number_here"]) fun _ _ _ _ _ _ us hl => by obtain ⟨_,_,rfl⟩ := L2.us2 hl; rfl
  have G36 := F36.fn X G (ps := ["_law_by_here","_law_cell","_law_sort"]) fun _ _ _ _ _ _ us hl => by obtain ⟨_,_,_,rfl⟩ := L2.us3 hl; rfl
  have G37 := F37.fn X G (ps := ["_law_row_here","_law_count"]) fun _ _ _ _ _ _ us hl => by obtain ⟨_,_,rfl⟩ := L2.us2 hl; rfl
  have G38 := F38.fn X G (ps := ["_law_script","_law_start","_law_by_here","_law_most"]) fun _ _ _ _ _ _ us hl => by obtain ⟨_,_,_,_,rfl⟩ := L2.us4 hl; rfl
  have G39 := F39.fn X G (ps := ["_law_row_here","_law_number_here"]) fun _ _ _ _ _ _ us hl => by obtain ⟨_,_,rfl⟩ := L2.us2 hl; rfl
  have G40 := F40.fn X G (ps := ["_law_script","_law_by_here"]) fun _ _ _ _ _ _ us hl => by obtain ⟨_,_,rfl⟩ := L2.us2 hl; rfl
  refine ⟨PySem.W.fnOf "law" "law" (defArgs s_law) (defBody s_law) (defScope s_law) .none kV doc pm an cdv ct,fun s v => .of_eq rfl,fun base kB gB => ?_⟩
  have C_is_prime := ok_is_prime (P := l.prog) (w := w) (base := base) B G0
  have C_taken := ok_taken (P := l.prog) (w := w) (base := base) B G1
  have C_inverse := ok_inverse (P := l.prog) (w := w) (base := base) B G2 C_taken
  have C_over := ok_over (P := l.prog) (w := w) (base := base) B G3 C_taken C_inverse
  have C_line_taken := ok_line_taken (P := l.prog) (w := w) (base := base) B G4 C_taken
  have C_head_line := ok_head_line (P := l.prog) (w := w) (base := base) B G5
  have C_bring_up := ok_bring_up (P := l.prog) (w := w) (base := base) B G6 C_taken
  have C_freed := ok_freed (P := l.prog) (w := w) (base := base) B G7 C_over C_taken
  have C_clear := ok_clear (P := l.prog) (w := w) (base := base) B G8 C_head_line C_bring_up C_freed
  have C_common_divisor := ok_common_divisor (P := l.prog) (w := w) (base := base) B G9
  have C_lowest := ok_lowest (P := l.prog) (w := w) (base := base) B G10 C_over C_common_divisor
  have C_free_numbers := ok_free_numbers (P := l.prog) (w := w) (base := base) B G11 C_taken C_lowest
  have C_solution := ok_solution (P := l.prog) (w := w) (base := base) B G12 C_line_taken C_clear C_lowest C_free_numbers
  have C_lines_of := ok_lines_of (P := l.prog) (w := w) (base := base) B G13
  have C_fit := ok_fit (P := l.prog) (w := w) (base := base) B G14 C_solution C_lines_of
  have C_fitted := ok_fitted (P := l.prog) (w := w) (base := base) B G15 C_fit
  have C_trimmed := ok_trimmed (P := l.prog) (w := w) (base := base) B G16
  have C_divided := ok_divided (P := l.prog) (w := w) (base := base) B G17 C_taken C_trimmed
  have C_monic := ok_monic (P := l.prog) (w := w) (base := base) B G18 C_over
  have C_greatest := ok_greatest (P := l.prog) (w := w) (base := base) B G19 C_monic C_divided
  have C_of_rule := ok_of_rule (P := l.prog) (w := w) (base := base) B G20 C_taken
  have C_rule_of := ok_rule_of (P := l.prog) (w := w) (base := base) B G21 C_taken
  have C_prime_above := ok_prime_above (P := l.prog) (w := w) (base := base) B G22 C_is_prime
  have C_divides := ok_divides (P := l.prog) (w := w) (base := base) B G23 C_divided
  have C_taken_poly := ok_taken_poly (P := l.prog) (w := w) (base := base) B G24 C_trimmed C_taken
  have C_nearest := ok_nearest (P := l.prog) (w := w) (base := base) B G25
  have C_joined := ok_joined (P := l.prog) (w := w) (base := base) B G26 C_over C_taken C_nearest
  have C_whole_greatest := ok_whole_greatest (P := l.prog) (w := w) (base := base) B G27 C_divides C_prime_above C_greatest C_taken_poly C_nearest C_joined
  have C_shared_divisor := ok_shared_divisor (P := l.prog) (w := w) (base := base) B G28 C_whole_greatest C_greatest
  have C_top_of := ok_top_of (P := l.prog) (w := w) (base := base) B G29 C_taken C_trimmed
  have C_least_of := ok_least_of (P := l.prog) (w := w) (base := base) B G30 C_of_rule C_top_of C_divided C_shared_divisor
  have C_shortest := ok_shortest (P := l.prog) (w := w) (base := base) B G31 C_least_of C_rule_of
  have C_Lcell_at := ok_Lcell_at (P := l.prog) (w := w) (base := base) B G32
  have C_Lmixed := ok_Lmixed (P := l.prog) (w := w) (base := base) B G33
  have C_Lby := ok_Lby (P := l.prog) (w := w) (base := base) B G34
  have C_Ltaken := ok_Ltaken (P := l.prog) (w := w) (base := base) B G35
  have C_Lnumber := ok_Lnumber (P := l.prog) (w := w) (base := base) B G36
  have C_Lgone := ok_Lgone (P := l.prog) (w := w) (base := base) B G37 C_Ltaken
  have C_Lrow := ok_Lrow (P := l.prog) (w := w) (base := base) B G38 C_Lcell_at C_Lnumber C_Lmixed
  have C_Llonger := ok_Llonger (P := l.prog) (w := w) (base := base) B G39 C_Lgone C_Ltaken
  have C_Ldrawn_row := ok_Ldrawn_row (P := l.prog) (w := w) (base := base) B G40 C_Lcell_at C_Lrow C_Ltaken C_Llonger C_Lnumber C_Lmixed
  exact ok_law B FF C_Lby C_Lcell_at C_Ldrawn_row C_shortest C_fitted C_Lgone
end K24
namespace L2
open PySem PySem.W PySem.W.X
theorem walkX_of {q : Program} {loose : List Str} {XP : (Str → Option Value) → Heap → Prop} {K : Params → Frag} {as : List Addr} {n t : Nat} {r : RowW} {d : DefRec} {kwd : List (Str × PySem.Expr)} {run : Value → List Value → Sem Value} (keys : ∀ P,as = (K P).map (·.1))
    (W : WalkO q loose XP (fun w h => (K w.params).In h) r d kwd run) : WalkX q loose XP (obsZ as) (valZ K n t) r d kwd run :=
  fun w s0 s1 mg mb G y a o pm cd doc dV kV h1 h2 h3 h4 h5 h6 args vals as' L p1 p2 p3 p4 p5 => W w s0 s1 mg mb G (InK.keeps w _ _ (z_facts keys y).2.1 L.keeps) a o pm cd doc dV kV h1 h2 h3 h4 h5 h6 args vals as' p1 p2 p3 p4 p5
end L2
namespace K24
def pwL : PySem.Program := { PySem.Challenge.pw_nextbyrule_k24_rules_found_again with main := { PySem.Challenge.pw_nextbyrule_k24_rules_found_again.main with body := [top 0,top 1,top 2,top 3,top 4,top 5,top 6,top 7,top 8,top 9,top 10,top 11,top 12,top 13,top 14,top 15,top 16,top 17,top 18,top 19,top 20,top 21,top 22,top 23,top 24,top 25,top 26,top 27,top 28,top 29,top 30,top 31,top 32,top 33,top 34,top 35,top 36,top 37,top 38,top 39,top 40,top 41,top 42,top 43,top 44,top 45,top 46,top 47,top 48,top 49,top 50,top 51,top 52] } }
def rwL : PySem.W.OpenLaw := { PySem.Challenge.rw_nextbyrule_k24_rules_found_again with prog := pwL }
end K24
open PySem PySem.W PyProof.Rows
set_option maxRecDepth 100000 in
set_option maxHeartbeats 0 in
theorem PySem.Challenge.cw_nextbyrule_k24_rules_found_again_holds : PySem.Challenge.rw_nextbyrule_k24_rules_found_again.Holds := by
  change K24.rwL.Holds
  w_on; o_law; z_head; (case hw => w_witness2)
  k_fill
  refine L2.walkX_of (fun _ => by kernel_rfl) ?_
  refine L2.walk_of (l := K24.rwL) (n := 63) (k := K24.KLAW) (x := "_law_script") (CX := fun w => L2.Flown K24.rwL.prog w) (sp := fun _ => K24.spLaw _) rfl (by decide) rfl ⟨rfl,by decide,by decide⟩ (fun w h Y => Y) ?F (fun w H a ns hl _ hS => ⟨a,ns,rfl,hS,hl,fun _ => rfl⟩) (fun _ _ _ _ _ z => L2.flown_none z)
  case F =>
    intro w mg fa h KX G hmg
    refine' K24.all_mk KX G hmg ?F0 ?F1 ?F2 ?F3 ?F4 ?F5 ?F6 ?F7 ?F8 ?F9 ?F10 ?F11 ?F12 ?F13 ?F14 ?F15 ?F16 ?F17 ?F18 ?F19 ?F20 ?F21 ?F22 ?F23 ?F24 ?F25 ?F26 ?F27 ?F28 ?F29 ?F30 ?F31 ?F32 ?F33 ?F34 ?F35 ?F36 ?F37 ?F38 ?F39 ?F40 ?FL ?z_abs ?z_any ?z_enumerate ?z_len ?z_list ?z_max ?z_min ?z_range ?z_sum ?z_tuple ?z_zip ?g_BELOW_THE_PRIMES
    (case F0 => (refine' L2.fnIn_mk ?a ?l ?c ?k; (case a => k_is); (case l => k_is); (case c => k_is); (case k => k_is)))
    (case F1 => (refine' L2.fnIn_mk ?a ?l ?c ?k; (case a => k_is); (case l => k_is); (case c => k_is); (case k => k_is)))
    (case F2 => (refine' L2.fnIn_mk ?a ?l ?c ?k; (case a => k_is); (case l => k_is); (case c => k_is); (case k => k_is)))
    (case F3 => (refine' L2.fnIn_mk ?a ?l ?c ?k; (case a => k_is); (case l => k_is); (case c => k_is); (case k => k_is)))
    (case F4 => (refine' L2.fnIn_mk ?a ?l ?c ?k; (case a => k_is); (case l => k_is); (case c => k_is); (case k => k_is)))
    (case F5 => (refine' L2.fnIn_mk ?a ?l ?c ?k; (case a => k_is); (case l => k_is); (case c => k_is); (case k => k_is)))
    (case F6 => (refine' L2.fnIn_mk ?a ?l ?c ?k; (case a => k_is); (case l => k_is); (case c => k_is); (case k => k_is)))
    (case F7 => (refine' L2.fnIn_mk ?a ?l ?c ?k; (case a => k_is); (case l => k_is); (case c => k_is); (case k => k_is)))
    (case F8 => (refine' L2.fnIn_mk ?a ?l ?c ?k; (case a => k_is); (case l => k_is); (case c => k_is); (case k => k_is)))
    (case F9 => (refine' L2.fnIn_mk ?a ?l ?c ?k; (case a => k_is); (case l => k_is); (case c => k_is); (case k => k_is)))
    (case F10 => (refine' L2.fnIn_mk ?a ?l ?c ?k; (case a => k_is); (case l => k_is); (case c => k_is); (case k => k_is)))
    (case F11 => (refine' L2.fnIn_mk ?a ?l ?c ?k; (case a => k_is); (case l => k_is); (case c => k_is); (case k => k_is)))
    (case F12 => (refine' L2.fnIn_mk ?a ?l ?c ?k; (case a => k_is); (case l => k_is); (case c => k_is); (case k => k_is)))
    (case F13 => (refine' L2.fnIn_mk ?a ?l ?c ?k; (case a => k_is); (case l => k_is); (case c => k_is); (case k => k_is)))
    (case F14 => (refine' L2.fnIn_mk ?a ?l ?c ?k; (case a => k_is); (case l => k_is); (case c => k_is); (case k => k_is)))
    (case F15 => (refine' L2.fnIn_mk ?a ?l ?c ?k; (case a => k_is); (case l => k_is); (case c => k_is); (case k => k_is)))
    (case F16 => (refine' L2.fnIn_mk ?a ?l ?c ?k; (case a => k_is); (case l => k_is); (case c => k_is); (case k => k_is)))
    (case F17 => (refine' L2.fnIn_mk ?a ?l ?c ?k; (case a => k_is); (case l => k_is); (case c => k_is); (case k => k_is)))
    (case F18 => (refine' L2.fnIn_mk ?a ?l ?c ?k; (case a => k_is); (case l => k_is); (case c => k_is); (case k => k_is)))
    (case F19 => (refine' L2.fnIn_mk ?a ?l ?c ?k; (case a => k_is); (case l => k_is); (case c => k_is); (case k => k_is)))
    (case F20 => (refine' L2.fnIn_mk ?a ?l ?c ?k; (case a => k_is); (case l => k_is); (case c => k_is); (case k => k_is)))
    (case F21 => (refine' L2.fnIn_mk ?a ?l ?c ?k; (case a => k_is); (case l => k_is); (case c => k_is); (case k => k_is)))
    (case F22 => (refine' L2.fnIn_mk ?a ?l ?c ?k; (case a => k_is); (case l => k_is); (case c => k_is); (case k => k_is)))
    (case F23 => (refine' L2.fnIn_mk ?a ?l ?c ?k; (case a => k_is); (case l => k_is); (case c => k_is); (case k => k_is)))
    (case F24 => (refine' L2.fnIn_mk ?a ?l ?c ?k; (case a => k_is); (case l => k_is); (case c => k_is); (case k => k_is)))
    (case F25 => (refine' L2.fnIn_mk ?a ?l ?c ?k; (case a => k_is); (case l => k_is); (case c => k_is); (case k => k_is)))
    (case F26 => (refine' L2.fnIn_mk ?a ?l ?c ?k; (case a => k_is); (case l => k_is); (case c => k_is); (case k => k_is)))
    (case F27 => (refine' L2.fnIn_mk ?a ?l ?c ?k; (case a => k_is); (case l => k_is); (case c => k_is); (case k => k_is)))
    (case F28 => (refine' L2.fnIn_mk ?a ?l ?c ?k; (case a => k_is); (case l => k_is); (case c => k_is); (case k => k_is)))
    (case F29 => (refine' L2.fnIn_mk ?a ?l ?c ?k; (case a => k_is); (case l => k_is); (case c => k_is); (case k => k_is)))
    (case F30 => (refine' L2.fnIn_mk ?a ?l ?c ?k; (case a => k_is); (case l => k_is); (case c => k_is); (case k => k_is)))
    (case F31 => (refine' L2.fnIn_mk ?a ?l ?c ?k; (case a => k_is); (case l => k_is); (case c => k_is); (case k => k_is)))
    (case F32 => (refine' L2.fnIn_mk ?a ?l ?c ?k; (case a => k_is); (case l => k_is); (case c => k_is); (case k => k_is)))
    (case F33 => (refine' L2.fnIn_mk ?a ?l ?c ?k; (case a => k_is); (case l => k_is); (case c => k_is); (case k => k_is)))
    (case F34 => (refine' L2.fnIn_mk ?a ?l ?c ?k; (case a => k_is); (case l => k_is); (case c => k_is); (case k => k_is)))
    (case F35 => (refine' L2.fnIn_mk ?a ?l ?c ?k; (case a => k_is); (case l => k_is); (case c => k_is); (case k => k_is)))
    (case F36 => (refine' L2.fnIn_mk ?a ?l ?c ?k; (case a => k_is); (case l => k_is); (case c => k_is); (case k => k_is)))
    (case F37 => (refine' L2.fnIn_mk ?a ?l ?c ?k; (case a => k_is); (case l => k_is); (case c => k_is); (case k => k_is)))
    (case F38 => (refine' L2.fnIn_mk ?a ?l ?c ?k; (case a => k_is); (case l => k_is); (case c => k_is); (case k => k_is)))
    (case F39 => (refine' L2.fnIn_mk ?a ?l ?c ?k; (case a => k_is); (case l => k_is); (case c => k_is); (case k => k_is)))
    (case F40 => (refine' L2.fnIn_mk ?a ?l ?c ?k; (case a => k_is); (case l => k_is); (case c => k_is); (case k => k_is)))
    (case FL => (refine' L2.fnIn_mk ?a ?l ?c ?k; (case a => k_is); (case l => k_is); (case c => k_is); (case k => k_is)))
    (case z_abs => k_is)
    (case z_any => k_is)
    (case z_enumerate => k_is)
    (case z_len => k_is)
    (case z_list => k_is)
    (case z_max => k_is)
    (case z_min => k_is)
    (case z_range => k_is)
    (case z_sum => k_is)
    (case z_tuple => k_is)
    (case z_zip => k_is)
    (case g_BELOW_THE_PRIMES => exact ⟨_,by k_is⟩)
