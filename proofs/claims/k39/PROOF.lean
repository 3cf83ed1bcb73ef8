import PyProof.Rows.All
import Wide.All
import OpenK.AllK
import Wide.FinOn
import Lean
import PyProof.EqAt
import PyProof.EqKinds
import PyProof.TupleCall
import PySem.Challenge.RW_nextbyrule_k39_rows_from_a_place_on
local macro_rules | `(tactic| omega) => `(tactic| lia)
set_option Elab.async false
set_option linter.all false
set_option maxRecDepth 100000
namespace L2
open PySem PySem.Spec PyProof.Rows
noncomputable abbrev Key := Sum Int Str
noncomputable def keyIs : Key → Value → Bool
  | .inl k,v => Value.isInt k v
  | .inr x,v => Value.isStrOf x v
noncomputable def keyH (w : World) : Key → Int
  | .inl k => hashInt k
  | .inr x => hashStr w x
theorem keyIs_shape : ∀ {k : Key} {v : Value},keyIs k v = true → (∃ i t,k = Sum.inl i ∧ v = Value.int i t) ∨ (∃ x t,k = Sum.inr x ∧ v = Value.str x t)
  | .inl i,v,h => by
    obtain ⟨t,e⟩ := Value.isInt_shape (k := i) (v := v) h
    exact .inl ⟨i,t,rfl,e⟩
  | .inr x,v,h => by
    obtain ⟨t,e⟩ := Value.isStrOf_shape (x := x) (v := v) h
    exact .inr ⟨x,t,rfl,e⟩
theorem key_ll (a b : Int) : decide ((Sum.inl a : Key) = Sum.inl b) = (a == b) := by
  by_cases e : a = b
  · subst e; simp
  · have h : ¬ (Sum.inl a : Key) = Sum.inl b := fun q => e (Sum.inl.inj q)
    rw [decide_eq_false h]
    exact (beq_eq_false_iff_ne.mpr e).symm
theorem key_rr (a b : Str) : decide ((Sum.inr a : Key) = Sum.inr b) = decide (a = b) := by
  by_cases e : a = b
  · subst e; simp
  · have h : ¬ (Sum.inr a : Key) = Sum.inr b := fun q => e (Sum.inr.inj q)
    rw [decide_eq_false h,decide_eq_false e]
theorem key_lr (a : Int) (b : Str) : decide ((Sum.inl a : Key) = Sum.inr b) = false := decide_eq_false (fun q => nomatch q)
theorem key_rl (a : Str) (b : Int) : decide ((Sum.inr a : Key) = Sum.inl b) = false := decide_eq_false (fun q => nomatch q)
noncomputable def mixKind (prog : Program) (w : World) : PySem.KeyKind prog w Key where
  is := keyIs
  hash := keyH w
  inj := fun v a b ha hb => by
    rcases keyIs_shape ha with ⟨i,t,rfl,rfl⟩ | ⟨x,t,rfl,rfl⟩
    · rcases keyIs_shape hb with ⟨j,u,rfl,e⟩ | ⟨y,u,rfl,e⟩
      · injection e with e1 _; rw [e1]
      · exact nomatch e
    · rcases keyIs_shape hb with ⟨j,u,rfl,e⟩ | ⟨y,u,rfl,e⟩
      · exact nomatch e
      · injection e with e1 _; rw [e1]
  byValue := fun k v h => by
    rcases keyIs_shape h with ⟨i,t,rfl,rfl⟩ | ⟨x,t,rfl,rfl⟩ <;> rfl
  pyHash := fun hv h => by
    rcases keyIs_shape hv with ⟨i,t,rfl,rfl⟩ | ⟨x,t,rfl,rfl⟩
    · exact wpAny_pyHash_int h
    · exact wpAny_pyHash_str h
  eqBool := fun hu hv h => by
    rcases keyIs_shape hu with ⟨i,t,rfl,rfl⟩ | ⟨x,t,rfl,rfl⟩
    · rcases keyIs_shape hv with ⟨j,u,rfl,rfl⟩ | ⟨y,u,rfl,rfl⟩
      · rw [key_ll] at h; exact wpAny_eqBool_int h
      · rw [key_lr] at h; exact SeqAt.EqAt.int_str i t y u _ _ _ _ h
    · rcases keyIs_shape hv with ⟨j,u,rfl,rfl⟩ | ⟨y,u,rfl,rfl⟩
      · rw [key_rl] at h; exact SeqAt.EqAt.str_int x t j u _ _ _ _ h
      · rw [key_rr] at h; exact wpAny_eqBool_str h
  «strs» := fun k x t v h => by
    rcases keyIs_shape h with ⟨i,u,rfl,e⟩ | ⟨y,u,rfl,e⟩
    · exact nomatch e
    · injection e with e1 _
      subst e1
      cases v <;> rfl
end L2
namespace L2
open PySem PySem.Spec PyProof.Rows
inductive V where
  | non | bl (b : Bool) | int (i : Int) | str (x : Str) | byt (b : Array UInt8) | flt (b : UInt64) | ref (a : Addr) | ty (n : String)
  deriving DecidableEq
noncomputable def RelV : V → Value → Prop
  | .non,u => u = Value.none
  | .bl b,u => u = Value.bool b
  | .int i,u => ∃ t,u = Value.int i t
  | .str x,u => ∃ t,u = Value.str x t
  | .byt b,u => ∃ t,u = Value.bytes b t
  | .flt b,u => ∃ t,u = Value.float b t
  | .ref a,u => u = Value.ref a
  | .ty n,u => u = Value.type n
noncomputable abbrev Vals : List V → List Value → Prop := Paired RelV
theorem Vals.length {xs : List V} {us : List Value} (r : Vals xs us) : xs.length = us.length := Paired.length r
theorem Vals.get : ∀ {xs : List V} {us : List Value} {i : Nat} {x : V},Vals xs us → xs[i]? = some x → ∃ u,us[i]? = some u ∧ RelV x u
  | _,_,_,_,.nil,e => by simp at e
  | _,_,0,_,.cons r _,e => by simp at e; subst e; exact ⟨_,rfl,r⟩
  | _,_,i + 1,x,.cons _ t,e => by
    obtain ⟨u,h1,h2⟩ := Vals.get (i := i) (x := x) t (by simpa using e)
    exact ⟨u,by simpa using h1,h2⟩
theorem Vals.set {x : V} {u : Value} (r : RelV x u) : ∀ {xs : List V} {us : List Value} (i : Nat),Vals xs us → Vals (xs.set i x) (us.set i u)
  | _,_,_,.nil => .nil
  | _,_,0,.cons _ t => .cons r t
  | _,_,i + 1,.cons q t => .cons q (Vals.set r i t)
theorem Vals.append : ∀ {xs ys : List V} {us ws : List Value},Vals xs us → Vals ys ws → Vals (xs ++ ys) (us ++ ws)
  | _,_,_,_,.nil,s => s
  | _,_,_,_,.cons r t,s => .cons r (Vals.append t s)
theorem Vals.take : ∀ {xs : List V} {us : List Value} (n : Nat),Vals xs us → Vals (xs.take n) (us.take n)
  | _,_,0,_ => .nil
  | _,_,_ + 1,.nil => .nil
  | _,_,n + 1,.cons r t => .cons r (Vals.take n t)
theorem Vals.drop : ∀ {xs : List V} {us : List Value} (n : Nat),Vals xs us → Vals (xs.drop n) (us.drop n)
  | _,_,0,r => r
  | _,_,_ + 1,.nil => .nil
  | _,_,n + 1,.cons _ t => Vals.drop n t
noncomputable def RelO : Option V → Option Value → Prop
  | some v,some u => RelV v u
  | none,none => True
  | _,_ => False
noncomputable def KV {κ : Type} : List (κ × V) → List (κ × Value) → Prop := Paired fun (p : κ × V) (q : κ × Value) => p.1 = q.1 ∧ RelV p.2 q.2
noncomputable def kV : Key → V
  | .inl i => .int i
  | .inr x => .str x
inductive HO where
  /-- a list -/
  | lst (xs : List V)
  /-- a tuple (never changes) -/
  | tup (xs : List V)
  /-- a dict whose keys are ints and texts; one whose keys are tuples of ints and texts (the empty one is both) -/
  | dK (kvs : List (Key × V)) | dT (kvs : List (List Key × V))
  /-- a set of ints: its members,its size -/
  | set (S : Int → Bool) (n : Nat)
  /-- an instance of the class at C,its dict at dx,its attributes -/
  | ins (C dx : Addr) (fs : List (Str × V))
  /-- the dict of the instance at x -/
  | own (x : Addr)
  /-- the dict of an exception -/
  | xd (fs : List (Str × V))
  /-- a bound method,f of x -/
  | met (f x : Addr)
  /-- a range object lo,lo + 1,.. below hi -/
  | rng (lo hi : Int)
  /-- a thing that is known to the object (the script; a dict while a loop walks it): read,never written while it is so -/
  | frz (o : Obj) (u : HO)
  /-- a code object's table -/
  | tbl (ps : Array Value)
  /-- any other thing,by what is true of its one object (a def of one's own: SetO a S n := HO.ext fun h => ..) -/
  | ext (φ : Heap → Prop)
noncomputable abbrev Hp := Addr → Option HO
noncomputable def upd (H : Hp) (a : Addr) (o : HO) : Hp := fun b => if b = a then some o else H b
theorem upd_same {H : Hp} {a : Addr} {o : HO} : upd H a o a = some o := by unfold upd; rw [if_pos rfl]
theorem upd_ne {H : Hp} {a b : Addr} {o : HO} (h : b ≠ a) : upd H a o b = H b := by unfold upd; rw [if_neg h]
theorem upd_upd {H : Hp} {a : Addr} {o u : HO} : upd (upd H a o) a u = upd H a u := by
  funext b; unfold upd; split <;> rfl
theorem ne_of_none {H : Hp} {a b : Addr} {o : HO} (h : H a = some o) (h' : H b = none) : a ≠ b := by
  intro e; subst e; rw [h] at h'; cases h'
section
variable (P : Program) (w : World)
noncomputable def ObjOk (H : Hp) (h : Heap) (a : Addr) : HO → Prop
  | .lst xs => xs.length ≤ sizeLine ∧ ∃ (its : List Value) (n : Nat),Vals xs its ∧ h.get? a = some { cls := .type "list",data := .seq its.toArray n }
  | .tup xs => xs.length ≤ sizeLine ∧ ∃ its : List Value,Vals xs its ∧ IsTup h a its.toArray
  | .dK kvs => kvs.length ≤ sizeLine ∧ (a == sysModules) = false ∧ ∃ vs,KV kvs vs ∧ h.DictOf (mixKind P w) a vs
  | .dT kvs => kvs.length ≤ sizeLine ∧ (a == sysModules) = false ∧ ∃ xs : List (List Key × Addr × Value),
      Paired (fun (p : List Key × V) (q : List Key × Addr × Value) => p.1 = q.1 ∧ H q.2.1 = some (.tup (p.1.map kV)) ∧ RelV p.2 q.2.2) kvs xs ∧
      ∃ o es ep,h.get? a = some o ∧ o.ExactDict ∧ o.data = .dict es ep ∧ es.toList = xs.map (entryOfKey (tupleKind (mixKind P w))) ∧ (xs.map (·.1)).Nodup
  | .set S n => h.SetOf (intKind P w) a S n
  | .ins C dx fs => H dx = some (.own a) ∧ fs.length ≤ 1000 ∧ dx ≠ a ∧ h.get? a = some (PySem.W.instObj C dx) ∧
      ∃ mA,h.Ns1 dx mA ∧ (∀ f,RelO (fs.lookup f) (mA f)) ∧ PySem.Within mA (fs.map (·.1))
  | .own _ => ∃ o,h.get? a = some o
  | .xd fs => ∃ mA,h.Ns1 a mA ∧ ∀ f,RelO (fs.lookup f) (mA f)
  | .rng lo hi => ∃ t u v,h.get? a = some { cls := .type "range",data := .fields #[.int lo t,.int hi u,.int 1 v] }
  | .frz o u => h.get? a = some o ∧ ObjOk H h a u
  | .tbl ps => h.get? a = some { cls := .none,data := .fields ps }
  | .met f x => h.get? a = some (PySem.W.methodObj (.ref f) (.ref x))
  | .ext φ => φ h ∧ (∃ o,h.get? a = some o) ∧ ∀ h1 h2 : Heap,φ h1 → (∀ o,h1.get? a = some o → h2.get? a = some o) → φ h2
noncomputable def HOk (H : Hp) (h : Heap) : Prop := ∀ a o,H a = some o → ObjOk P w H h a o
end
section
variable {P : Program} {w : World} {H H' : Hp} {h h' : Heap} {a : Addr} {o : HO}
theorem ObjOk.lt (x : ObjOk P w H h a o) : a < h.objs.size := by
  cases o with
  | lst xs => obtain ⟨_,_,_,_,e⟩ := x; exact Heap.lt_size e
  | tup xs => obtain ⟨_,_,_,p⟩ := x; exact p.lt
  | dK kvs => obtain ⟨_,_,_,_,o,_,_,e,_⟩ := x; exact Heap.lt_size e
  | dT kvs => obtain ⟨_,_,_,_,o,_,_,e,_⟩ := x; exact Heap.lt_size e
  | set S n => obtain ⟨o,_,_,_,e,_⟩ := x; exact Heap.lt_size e
  | ins C dx fs => obtain ⟨_,_,_,e,_⟩ := x; exact Heap.lt_size e
  | own y => obtain ⟨_,e⟩ := x; exact Heap.lt_size e
  | xd fs => obtain ⟨_,⟨_,_,_,e,_⟩,_⟩ := x; exact Heap.lt_size e
  | rng lo hi => obtain ⟨_,_,_,e⟩ := x; exact Heap.lt_size e
  | frz ob u => obtain ⟨e,_⟩ := x; exact Heap.lt_size e
  | tbl ps => exact Heap.lt_size (show h.get? a = some _ from x)
  | met f y => exact Heap.lt_size (show h.get? a = some _ from x)
  | ext φ => obtain ⟨_,⟨_,e⟩,_⟩ := x; exact Heap.lt_size e
theorem Paired.mapP {α β : Type} {F G : α → β → Prop} : ∀ {l₁ : List α} {l₂ : List β},Paired F l₁ l₂ → (∀ a b,F a b → G a b) → Paired G l₁ l₂
  | _,_,.nil,_ => .nil
  | _,_,.cons r t,f => .cons (f _ _ r) (Paired.mapP t f)
theorem ObjOk.stay (x : ObjOk P w H h a o) (k : ∀ b u,(b = a ∨ H b = some (.own a)) → h.get? b = some u → h'.get? b = some u)
    (ho : ∀ b,H b = some (.own a) → H' b = some (.own a)) (ht : ∀ b xs,H b = some (.tup xs) → H' b = some (.tup xs)) : ObjOk P w H' h' a o := by
  induction o with
  | lst xs => obtain ⟨z,its,n,r,e⟩ := x; exact ⟨z,its,n,r,k _ _ (.inl rfl) e⟩
  | tup xs => obtain ⟨z,its,r,ob,e,c⟩ := x; exact ⟨z,its,r,ob,k _ _ (.inl rfl) e,c⟩
  | dK kvs => obtain ⟨z,y,vs,r,ob,es,ep,e,c⟩ := x; exact ⟨z,y,vs,r,ob,es,ep,k _ _ (.inl rfl) e,c⟩
  | dT kvs =>
    obtain ⟨z,y,xs,r,ob,es,ep,e,c⟩ := x
    exact ⟨z,y,xs,Paired.mapP r fun p q z => ⟨z.1,ht _ _ z.2.1,z.2.2⟩,ob,es,ep,k _ _ (.inl rfl) e,c⟩
  | set S n => obtain ⟨ob,es,ep,t,e,c⟩ := x; exact ⟨ob,es,ep,t,k _ _ (.inl rfl) e,c⟩
  | ins C dx fs =>
    obtain ⟨d,z,ne,e,mA,⟨od,es,ep,e2,c⟩,r⟩ := x
    exact ⟨ho _ d,z,ne,k _ _ (.inl rfl) e,mA,⟨od,es,ep,k _ _ (.inr d) e2,c⟩,r⟩
  | own y => obtain ⟨ob,e⟩ := x; exact ⟨ob,k _ _ (.inl rfl) e⟩
  | xd fs => obtain ⟨mA,⟨od,es,ep,e,c⟩,r⟩ := x; exact ⟨mA,⟨od,es,ep,k _ _ (.inl rfl) e,c⟩,r⟩
  | rng lo hi => obtain ⟨t,u,v,e⟩ := x; exact ⟨t,u,v,k _ _ (.inl rfl) e⟩
  | frz ob u ih => obtain ⟨e,q⟩ := x; exact ⟨k _ _ (.inl rfl) e,ih q⟩
  | tbl ps =>
    have e : h.get? a = some { cls := .none,data := .fields ps } := x
    show h'.get? a = some { cls := .none,data := .fields ps }
    exact k a _ (.inl rfl) e
  | met f y =>
    have e : h.get? a = some (PySem.W.methodObj (.ref f) (.ref y)) := x
    show h'.get? a = some (PySem.W.methodObj (.ref f) (.ref y))
    exact k a _ (.inl rfl) e
  | ext φ => obtain ⟨p,⟨o,e⟩,st⟩ := x; exact ⟨st _ _ p fun o q => k _ _ (.inl rfl) q,⟨o,k _ _ (.inl rfl) e⟩,st⟩
theorem HOk.lt (x : HOk P w H h) (e : H a = some o) : a < h.objs.size := (x a o e).lt
theorem HOk.fresh (x : HOk P w H h) (e : h.objs.size ≤ a) : H a = none := by
  cases q : H a with
  | none => rfl
  | some u => exact absurd (Nat.lt_of_lt_of_le (x.lt q) e) (Nat.lt_irrefl _)
theorem HOk.kept (x : HOk P w H h) (k : ∀ b u,h.get? b = some u → h'.get? b = some u) : HOk P w H h' := fun a o e =>
  (x a o e).stay (fun b u _ q => k b u q) (fun _ q => q) fun _ _ q => q
theorem HOk.laid (x : HOk P w H h) (k : ∀ b u,h.get? b = some u → h'.get? b = some u) (hp : h.objs.size ≤ a) (new : ObjOk P w (upd H a o) h' a o) : HOk P w (upd H a o) h' := fun b u e => by
  have hn := x.fresh hp
  by_cases hb : b = a
  · subst hb; rw [upd_same] at e; cases e; exact new
  · rw [upd_ne hb] at e
    exact (x b u e).stay (fun c v _ q => k c v q) (fun c q => by rw [upd_ne (ne_of_none q hn)]; exact q) fun c xs q => by rw [upd_ne (ne_of_none q hn)]; exact q
end
noncomputable def Rd (H : Hp) (a : Addr) (u : HO) : Prop := H a = some u ∨ ∃ o,H a = some (.frz o u)
theorem Rd.ok {P : Program} {w : World} {H : Hp} {h : Heap} {a : Addr} {u : HO} (r : Rd H a u) (x : HOk P w H h) : ObjOk P w H h a u := by
  rcases r with r | ⟨o,r⟩
  · exact x a u r
  · obtain ⟨_,q⟩ := x a _ r
    exact q
noncomputable def Mut : Option HO → Prop
  | some (.lst _) => True
  | some (.dK _) => True
  | some (.dT _) => True
  | some (.set _ _) => True
  | some (.ins _ _ _) => True
  | some (.ext _) => True
  | _ => False
section
variable {P : Program} {w : World} {H : Hp} {h h' : Heap} {x e : Addr} {o' : HO}
theorem HOk.write (ok : HOk P w H h) (mu : Mut (H x)) (he : e = x ∨ H e = some (.own x)) (k : ∀ b u,b ≠ e → h.get? b = some u → h'.get? b = some u) (heo : ∃ u,h'.get? e = some u)
    (new : ObjOk P w (upd H x o') h' x o') : HOk P w (upd H x o') h' := fun b u q => by
  have nown : ∀ c y,H c = some (.own y) → c ≠ x := fun c y r z => by subst z; rw [r] at mu; exact mu
  have ntup : ∀ c xs,H c = some (.tup xs) → c ≠ x := fun c xs r z => by subst z; rw [r] at mu; exact mu
  by_cases hb : b = x
  · subst hb; rw [upd_same] at q; cases q; exact new
  · rw [upd_ne hb] at q
    by_cases hbe : b = e
    · have q' : H b = some (.own x) := by
        rcases he with z | z
        · exact absurd (hbe.trans z) hb
        · rw [hbe]; exact z
      rw [q] at q'; cases q'
      obtain ⟨v,hv⟩ := heo
      exact ⟨v,by rw [hbe]; exact hv⟩
    · refine (ok b u q).stay (fun c v hc r => k c v ?_ r) (fun c r => by rw [upd_ne (nown c b r)]; exact r) fun c xs r => by rw [upd_ne (ntup c xs r)]; exact r
      rcases hc with rfl | hc
      · exact hbe
      · rintro rfl
        rcases he with z | z
        · exact nown c b hc z
        · rw [hc] at z; cases z; exact hb rfl
end
structure Un (fs ex : List Addr) (H H' : Hp) (h h' : Heap) : Prop where
  keep : ∀ b o,h.get? b = some o → H b = none → b ∉ fs → b ∉ ex → h'.get? b = some o
  slot : ∀ b o,h.get? b = some o → H b = none → b ∈ fs → b ∉ ex → ∃ sl,h'.get? b = some { o with slots := sl }
  free : ∀ b o,h.get? b = some o → H b = none → b ∉ ex → H' b = none
  there : ∀ b o,h.get? b = some o → b ∉ ex → ∃ o',h'.get? b = some o'
  tups : ∀ b xs,H b = some (.tup xs) → H' b = some (.tup xs)
  frzs : ∀ b o u,H b = some (.frz o u) → H' b = some (.frz o u)
  tbls : ∀ b ps,H b = some (.tbl ps) → ∃ more,H' b = some (.tbl (ps ++ more))
section
variable {fs fs' ex ex' : List Addr} {H H1 H2 : Hp} {h h1 h2 h' : Heap} {a x e : Addr} {o : HO}
theorem Un.any (u : Un fs ex H H1 h h1) {b : Addr} {ob : Obj} (q : h.get? b = some ob) (n : H b = none) (hx : b ∉ ex) : ∃ sl,h1.get? b = some { ob with slots := sl } := by
  by_cases hb : b ∈ fs
  · exact u.slot b ob q n hb hx
  · exact ⟨ob.slots,u.keep b ob q n hb hx⟩
theorem Un.kept (k : ∀ b u,h.get? b = some u → h'.get? b = some u) : Un fs ex H H h h' :=
  ⟨fun b ob q _ _ _ => k b ob q,fun b ob q _ _ _ => ⟨ob.slots,k b ob q⟩,fun _ _ _ n _ => n,fun b ob q _ => ⟨ob,k b ob q⟩,fun _ _ q => q,fun _ _ _ q => q,fun _ ps q => ⟨#[],by rw [q]; simp⟩⟩
theorem Un.refl : Un fs ex H H h h := Un.kept fun _ _ q => q
theorem Un.laid (k : ∀ b u,h.get? b = some u → h'.get? b = some u) (hp : h.objs.size ≤ a) (hn : H a = none) : Un fs ex H (upd H a o) h h' where
  keep := fun b u q _ _ _ => k b u q
  slot := fun b u q _ _ _ => ⟨u.slots,k b u q⟩
  free := fun b u q n _ => by rw [upd_ne (Nat.ne_of_lt (Nat.lt_of_lt_of_le (Heap.lt_size q) hp))]; exact n
  there := fun b u q _ => ⟨u,k b u q⟩
  tups := fun b xs q => by rw [upd_ne (ne_of_none q hn)]; exact q
  frzs := fun b u xs q => by rw [upd_ne (ne_of_none q hn)]; exact q
  tbls := fun b ps q => ⟨#[],by rw [upd_ne (ne_of_none q hn),q]; simp⟩
theorem Un.write (mu : Mut (H x)) (he : e = x ∨ H e = some (.own x)) (k : ∀ b u,b ≠ e → h.get? b = some u → h'.get? b = some u) (heo : ∃ u,h'.get? e = some u) : Un fs ex H (upd H x o) h h' := by
  have hx : ∀ b,H b = none → b ≠ x := fun b n z => by subst z; rw [n] at mu; exact mu
  have hb : ∀ b,H b = none → b ≠ e := fun b n z => by
    subst z
    rcases he with r | r
    · exact hx b n r
    · rw [n] at r; cases r
  have hm : ∀ b u,H b = some u → ¬ Mut (some u) → b ≠ x := fun b u q nm z => by subst z; rw [q] at mu; exact nm mu
  refine ⟨fun b u q n _ _ => k b u (hb b n) q,fun b u q n _ _ => ⟨u.slots,k b u (hb b n) q⟩,fun b u q n _ => by rw [upd_ne (hx b n)]; exact n,fun b u q _ => ?_,
    fun b xs q => by rw [upd_ne (hm b _ q fun z => z)]; exact q,fun b u xs q => by rw [upd_ne (hm b _ q fun z => z)]; exact q,fun b ps q => ⟨#[],by rw [upd_ne (hm b _ q fun z => z),q]; simp⟩⟩
  by_cases hbe : b = e
  · subst hbe; exact heo
  · exact ⟨u,k b u hbe q⟩
end
noncomputable def trk (h : Heap) (H : Hp) : List Addr := (List.range h.objs.size).filter fun a => (H a).isSome
noncomputable def hidT (h : Heap) (H : Hp) : Heap := PySem.W.hideAll h (trk h H)
theorem hidT_size (h : Heap) (H : Hp) : (hidT h H).objs.size = h.objs.size := PySem.W.hideAll_size _ _
theorem hidT_get {h : Heap} {H : Hp} {b : Addr} {o : Obj} (e : h.get? b = some o) (n : H b = none) : (hidT h H).get? b = some o :=
  PySem.W.hideAll_get _ e fun hm => by
    have q : (H b).isSome = true := (List.mem_filter.mp hm).2
    rw [n] at q; simp at q
theorem of_hidT {h : Heap} {H : Hp} {b : Addr} {o : Obj} (e : (hidT h H).get? b = some o) : h.get? b = some o ∧ H b = none := by
  have e' : h.get? b = some o := PySem.W.of_hideAll (trk h H) e
  refine ⟨e',?_⟩
  cases q : H b with
  | none => rfl
  | some x =>
    have hm : b ∈ trk h H := List.mem_filter.mpr ⟨List.mem_range.mpr (Heap.lt_size e'),by simp [q]⟩
    have z : (hidT h H).get? b = none := PySem.W.hideAll_none (trk h H) hm
    rw [z] at e; cases e
end L2
namespace L2
open PySem PySem.Spec PyProof.Rows
structure Mod (K : PySem.W.Frag) (mg : Str → Option Value) (base : Heap) : Prop where
  kin : K.In base
  glob : base.Ns mainGlobals mg
  blt : ∃ mb,base.Ns builtinsNs mb ∧ ∀ x : Str,x ≠ "__name__" → mb x = bootBuiltins x
  nolimit : base.NoLimit
  digits : base.NoDigits
structure Cx where
  prog : Program
  w : World
  K : PySem.W.Frag
  mg : Str → Option Value
  base : Heap
  A : Around
  N : List Str
  s₀ : Shared
  H₀ : Hp
  env : Env
  outer : List Env
  stack : List Env
  ex : List Addr
  fn : Str → Bool
  calm : Bool
  pn : List (Addr × Obj)
  xe : Value → Shared → Prop
noncomputable def frs (l : List Env) : List Addr := l.filterMap (·.frame)
noncomputable abbrev Cx.fs (X : Cx) : List Addr := frs X.outer
noncomputable def Vis (sc : Scope) (x : Str) : Prop := sc.names.lookup x = some .local ∨ sc.names.lookup x = some .cell ∨ sc.names.lookup x = some .free
noncomputable def Loc (sc : Scope) (x : Str) : Prop := sc.names.lookup x = some .local ∨ sc.names.lookup x = some .cell
noncomputable def Look (env : Env) (h : Heap) (m : Str → Option Value) (x : Str) (u : Value) : Prop :=
  (env.kindOf x = some .local ∧ m x = some u) ∨ ((env.kindOf x = some .cell ∨ env.kindOf x = some .free) ∧ ∃ c,env.cells.lookup x = some c ∧ h.IsCell c (some u))
structure Cx.Ok (X : Cx) : Prop where
  mod : Mod X.K X.mg X.base
  kind : X.env.scope.kind = .function
  glob : X.env.globals = mainGlobals
  blt : X.env.builtins = builtinsNs
  above : X.s₀.heap.objs.size ≤ X.env.locals
  inj : ∀ x y c,X.env.cells.lookup x = some c → X.env.cells.lookup y = some c → x = y
  has : ∀ x,(X.env.kindOf x = some .cell ∨ X.env.kindOf x = some .free) → ∃ c,X.env.cells.lookup x = some c
  cab : ∀ x c,X.fn x = true → X.env.cells.lookup x = some c → X.s₀.heap.objs.size ≤ c
  hd : X.calm = true → X.A.handled = none
  frames : X.A.frames = some X.stack
  stk : X.stack = X.outer ∨ (X.stack = X.env :: X.outer ∧ X.env.frame = some X.env.locals)
  exf : ∀ b ∈ X.ex,b ≠ X.env.locals ∧ ∀ x c,X.env.cells.lookup x = some c → c ≠ b
  bs : ∀ b o,X.base.get? b = some o → X.s₀.heap.get? b = some o ∧ X.H₀ b = none
  bsz : X.base.objs.size ≤ X.s₀.heap.objs.size
  noex : ∀ b o,X.base.get? b = some o → b ∉ X.ex
  exfs : ∀ b ∈ X.ex,b ∉ X.fs
  funs : X.s₀.heap.FunFrames X.base X.outer
  frf : ∀ b ∈ X.fs,X.H₀ b = none
structure Inv (X : Cx) (pins : List (Addr × Obj)) (σ : List (Option V)) (H : Hp) (s : Shared) : Prop where
  ok : X.Ok
  os : s.os = X.s₀.os
  bare : AllBare s.gens
  base : Un X.fs X.ex X.H₀ H X.s₀.heap s.heap
  loc : ∃ m,s.heap.Ns X.env.locals m ∧ ∀ (i : Nat) (x : Str) (v : V),X.N[i]? = some x → σ[i]? = some (some v) → Vis X.env.scope x → ∃ u,RelV v u ∧ Look X.env s.heap m x u
  cell : ∀ x c,X.env.cells.lookup x = some c → ∃ v,s.heap.IsCell c v
  free : H X.env.locals = none
  freeC : ∀ x c,X.env.cells.lookup x = some c → H c = none
  pin : ∀ p ∈ X.pn ++ pins,s.heap.get? p.1 = some p.2 ∧ H p.1 = none ∧ p.1 ≠ X.env.locals ∧ p.1 ∉ X.fs ∧ ∀ v,p.2.data ≠ .cell v
  hok : HOk X.prog X.w H s.heap
  len : σ.length = X.N.length
section
variable {X : Cx} {pins : List (Addr × Obj)} {σ : List (Option V)} {H H' : Hp} {s : Shared} {h' : Heap}
theorem Cx.Ok.nofr (ok : X.Ok) {b : Addr} {o : Obj} (e : X.base.get? b = some o) : b ∉ X.fs := fun hb => by
  have := (ok.funs.mem hb).1
  rw [e] at this; cases this
theorem Inv.bs (I : Inv X pins σ H s) : ∀ b o,X.base.get? b = some o → s.heap.get? b = some o ∧ H b = none := fun b o e =>
  ⟨I.base.keep b o (I.ok.bs b o e).1 (I.ok.bs b o e).2 (I.ok.nofr e) (I.ok.noex b o e),I.base.free b o (I.ok.bs b o e).1 (I.ok.bs b o e).2 (I.ok.noex b o e)⟩
theorem Inv.bk (I : Inv X pins σ H s) : ∀ b o,X.base.get? b = some o → s.heap.get? b = some o := fun b o e => (I.bs b o e).1
theorem Inv.mod (I : Inv X pins σ H s) : Mod X.K X.mg X.base := I.ok.mod
theorem Inv.kIn (I : Inv X pins σ H s) : X.K.In s.heap := I.ok.mod.kin.keeps I.bk
theorem Inv.lt (I : Inv X pins σ H s) : X.env.locals < s.heap.objs.size := let ⟨_,hn,_⟩ := I.loc; hn.lt
theorem Inv.sz (I : Inv X pins σ H s) : X.s₀.heap.objs.size ≤ s.heap.objs.size := Nat.le_trans I.ok.above (Nat.le_of_lt I.lt)
theorem Inv.nofs (I : Inv X pins σ H s) {a : Addr} (h : s.heap.objs.size ≤ a) : a ∉ X.fs := fun hb => by
  obtain ⟨_,o,ho,_⟩ := I.ok.funs.mem hb
  exact absurd (Nat.lt_of_lt_of_le (Heap.lt_size ho) (Nat.le_trans I.sz h)) (Nat.lt_irrefl _)
theorem Inv.cne (I : Inv X pins σ H s) : ∀ x c,X.env.cells.lookup x = some c → c ≠ X.env.locals := fun x c e z => by
  obtain ⟨v,o,ho,hd⟩ := I.cell x c e
  obtain ⟨m,⟨o',es,ep,ho',hd',_⟩,_⟩ := I.loc
  rw [z,ho'] at ho; cases ho; rw [hd'] at hd; cases hd
theorem Inv.funs (I : Inv X pins σ H s) : s.heap.FunFrames X.base X.outer := by
  have all : ∀ (l : List Env),(∀ b ∈ frs l,b ∈ X.fs) → X.s₀.heap.FunFrames X.base l → s.heap.FunFrames X.base l := by
    intro l
    induction l with
    | nil => intro _ _; trivial
    | cons env r ih =>
      intro hs hl
      obtain ⟨hk,⟨L,o,hf,hn,ho,hd⟩,hr⟩ := hl
      have hL : L ∈ X.fs := hs L (by unfold frs; rw [List.filterMap_cons,hf]; exact List.mem_cons_self)
      obtain ⟨sl,e⟩ := I.base.slot L o ho (I.ok.frf L hL) hL fun z => I.ok.exfs L z hL
      exact ⟨hk,⟨L,_,hf,hn,e,hd⟩,ih (fun b hb => hs b (by unfold frs; rw [List.filterMap_cons,hf]; exact List.mem_cons_of_mem _ hb)) hr⟩
  exact all X.outer (fun _ hb => hb) I.ok.funs
theorem Inv.stack (I : Inv X pins σ H s) : s.heap.FunFrames X.base X.stack := by
  rcases I.ok.stk with e | ⟨e,hf⟩
  · rw [e]; exact I.funs
  · rw [e]
    obtain ⟨m,hn,_⟩ := I.loc
    refine .cons (by rw [I.ok.kind]; decide) hf hn ?_ I.funs
    exact Heap.get?_none_of_le (Nat.le_trans I.ok.bsz I.ok.above)
theorem Inv.stkSub (I : Inv X pins σ H s) : ∀ b ∈ frs X.stack,b ∈ X.env.locals :: X.fs := fun b hb => by
  rcases I.ok.stk with e | ⟨e,hf⟩
  · rw [e] at hb; exact List.mem_cons_of_mem _ hb
  · rw [e] at hb
    unfold frs at hb
    rw [List.filterMap_cons,hf] at hb
    exact hb
theorem Inv.stkFree (I : Inv X pins σ H s) : ∀ b ∈ frs X.stack,H b = none := fun b hb => by
  rcases List.mem_cons.mp (I.stkSub b hb) with e | hb
  · rw [e]; exact I.free
  · obtain ⟨_,o,ho,_⟩ := I.ok.funs.mem hb
    exact I.base.free b o ho (I.ok.frf b hb) fun z => I.ok.exfs b z hb
theorem Inv.step {g' : Array GenState} {t' : Nat} {d' : Drawn} {ch : List Addr} (I : Inv X pins σ H s)
    (hch : ∀ b ∈ ch,(b ∈ X.ex ∨ X.s₀.heap.objs.size ≤ b) ∧ b ≠ X.env.locals ∧ (∀ x c,X.env.cells.lookup x = some c → c ≠ b) ∧ ∀ p ∈ X.pn ++ pins,p.1 ≠ b)
    (keep : ∀ b o,b ≠ X.env.locals → b ∉ X.fs → b ∉ ch → s.heap.get? b = some o → H b = none → h'.get? b = some o)
    (slot : ∀ b o,b ≠ X.env.locals → b ∈ X.fs → b ∉ ch → s.heap.get? b = some o → H b = none → ∃ sl,h'.get? b = some { o with slots := sl }) (free : ∀ b o,b ∉ ch → s.heap.get? b = some o → H b = none → H' b = none)
    (there : ∀ b o,b ∉ ch → s.heap.get? b = some o → ∃ o',h'.get? b = some o')
    (tups : ∀ b xs,H b = some (.tup xs) → H' b = some (.tup xs)) (frzs : ∀ b o u,H b = some (.frz o u) → H' b = some (.frz o u)) (tbls : ∀ b ps,H b = some (.tbl ps) → ∃ more,H' b = some (.tbl (ps ++ more)))
    (ns : ∀ m,s.heap.Ns X.env.locals m → h'.Ns X.env.locals m) (hok : HOk X.prog X.w H' h') (hg : AllBare g') :
    Inv X pins σ H' { s with heap := h',gens := g',drawn := d',toks := t' } := by
  have neL : ∀ b o,X.s₀.heap.get? b = some o → b ≠ X.env.locals := fun b o e => Nat.ne_of_lt (Nat.lt_of_lt_of_le (Heap.lt_size e) I.ok.above)
  have neC : ∀ b o,X.s₀.heap.get? b = some o → b ∉ X.ex → b ∉ ch := fun b o e hx hb => by
    rcases (hch b hb).1 with z | z
    · exact hx z
    · exact absurd (Nat.lt_of_lt_of_le (Heap.lt_size e) z) (Nat.lt_irrefl _)
  have cellK : ∀ x c,X.env.cells.lookup x = some c → ∀ v,s.heap.IsCell c v → h'.IsCell c v := fun x c e v ⟨o,ho,hd⟩ => by
    have nch : c ∉ ch := fun z => (hch c z).2.2.1 x c e rfl
    by_cases hc : c ∈ X.fs
    · obtain ⟨sl,q⟩ := slot c o (I.cne x c e) hc nch ho (I.freeC x c e)
      exact ⟨_,q,hd⟩
    · exact ⟨o,keep c o (I.cne x c e) hc nch ho (I.freeC x c e),hd⟩
  refine ⟨I.ok,I.os,hg,⟨fun b o e n hb hx => ?_,fun b o e n hb hx => ?_,fun b o e n hx => ?_,fun b o e hx => ?_,fun b xs e => tups b xs (I.base.tups b xs e),fun b o xs e => frzs b o xs (I.base.frzs b o xs e),fun b ps e => ?_⟩,?_,fun x c e => ?_,?_,fun x c e => ?_,fun p hp => ?_,hok,I.len⟩
  · exact keep b o (neL b o e) hb (neC b o e hx) (I.base.keep b o e n hb hx) (I.base.free b o e n hx)
  · obtain ⟨sl,e1⟩ := I.base.slot b o e n hb hx
    obtain ⟨sl',e2⟩ := slot b _ (neL b o e) hb (neC b o e hx) e1 (I.base.free b o e n hx)
    exact ⟨sl',e2⟩
  · obtain ⟨o',e1⟩ := I.base.there b o e hx
    exact free b o' (neC b o e hx) e1 (I.base.free b o e n hx)
  · obtain ⟨o',e1⟩ := I.base.there b o e hx
    exact there b o' (neC b o e hx) e1
  · obtain ⟨m1,e1⟩ := I.base.tbls b ps e
    obtain ⟨m2,e2⟩ := tbls b _ e1
    exact ⟨m1 ++ m2,by rw [e2,Array.append_assoc]⟩
  · obtain ⟨m,hn,hl⟩ := I.loc
    refine ⟨m,ns m hn,fun i x v e1 e2 e3 => ?_⟩
    obtain ⟨u,r,l⟩ := hl i x v e1 e2 e3
    refine ⟨u,r,?_⟩
    rcases l with l | ⟨k,c,e,z⟩
    · exact .inl l
    · exact .inr ⟨k,c,e,cellK x c e _ z⟩
  · obtain ⟨v,z⟩ := I.cell x c e
    exact ⟨v,cellK x c e v z⟩
  · obtain ⟨m,⟨o,_,_,ho,_⟩,_⟩ := I.loc
    exact free _ o (fun z => (hch _ z).2.1 rfl) ho I.free
  · obtain ⟨v,o,ho,hd⟩ := I.cell x c e
    exact free c o (fun z => (hch c z).2.2.1 x c e rfl) ho (I.freeC x c e)
  · obtain ⟨e,n,ne,nf,d⟩ := I.pin p hp
    have nch : p.1 ∉ ch := fun z => (hch p.1 z).2.2.2 p hp rfl
    exact ⟨keep p.1 p.2 ne nf nch e n,free p.1 p.2 nch e n,ne,nf,d⟩
theorem Inv.un {t' : Nat} (I : Inv X pins σ H s) (u : Un X.fs [] H H' s.heap h') (hok : HOk X.prog X.w H' h') : Inv X pins σ H' { s with heap := h',toks := t' } := by
  obtain ⟨m,⟨o,es,ep,ho,r⟩,_⟩ := id I.loc
  obtain ⟨sl,hL⟩ := u.any ho I.free (by simp)
  exact I.step (g' := s.gens) (d' := s.drawn) (ch := []) (fun _ z => nomatch z) (fun b o _ hb _ e n => u.keep b o e n hb (by simp)) (fun b o _ hb _ e n => u.slot b o e n hb (by simp)) (fun b o _ e n => u.free b o e n (by simp)) (fun b o _ e => u.there b o e (by simp)) u.tups u.frzs u.tbls (fun m' hm => by
    obtain ⟨o',es',ep',ho',r'⟩ := hm
    rw [ho] at ho'; cases ho'
    exact ⟨_,es',ep',hL,r'⟩) hok I.bare
theorem Inv.call {g' : Array GenState} {t' : Nat} {d' : Drawn} {ch : List Addr} (I : Inv X pins σ H s) (u : Un (frs X.stack) ch H H' s.heap h') (hok : HOk X.prog X.w H' h') (hg : AllBare g')
    (hch : ∀ b ∈ ch,(b ∈ X.ex ∨ X.s₀.heap.objs.size ≤ b) ∧ b ≠ X.env.locals ∧ (∀ x c,X.env.cells.lookup x = some c → c ≠ b) ∧ ∀ p ∈ X.pn ++ pins,p.1 ≠ b) :
    Inv X pins σ H' { s with heap := h',gens := g',drawn := d',toks := t' } := by
  obtain ⟨m,⟨o,es,ep,ho,r⟩,_⟩ := id I.loc
  obtain ⟨sl,hL⟩ := u.any ho I.free fun z => (hch _ z).2.1 rfl
  exact I.step (ch := ch) hch (fun b o hL hb hc e n => u.keep b o e n (fun z => (List.mem_cons.mp (I.stkSub b z)).elim hL hb) hc) (fun b o _ _ hc e n => u.any e n hc) (fun b o hc e n => u.free b o e n hc) (fun b o hc e => u.there b o e hc) u.tups u.frzs u.tbls (fun m' hm => by
    obtain ⟨o',es',ep',ho',r'⟩ := hm
    rw [ho] at ho'; cases ho'
    exact ⟨_,es',ep',hL,r'⟩) hok hg
theorem Inv.turned {t' : Nat} {it : Addr} (I : Inv X pins σ H s) (k : ∀ b o,b ≠ it → s.heap.get? b = some o → h'.get? b = some o) (hn : H it = none) (hL : it ≠ X.env.locals)
    (h1 : it ∈ X.ex ∨ X.s₀.heap.objs.size ≤ it) (h2 : ∀ x c,X.env.cells.lookup x = some c → c ≠ it) (h3 : ∀ p ∈ X.pn ++ pins,p.1 ≠ it) : Inv X pins σ H { s with heap := h',toks := t' } := by
  have nit : ∀ b u,H b = some u → b ≠ it := fun b u e z => by rw [z,hn] at e; cases e
  refine I.step (g' := s.gens) (d' := s.drawn) (ch := [it]) (fun b hb => ?_) (fun b o _ _ hc e _ => k b o (fun z => hc (by simp [z])) e) (fun b o _ _ hc e _ => ⟨o.slots,k b o (fun z => hc (by simp [z])) e⟩) (fun _ _ _ _ n => n)
    (fun b o hc e => ⟨o,k b o (fun z => hc (by simp [z])) e⟩) (fun _ _ e => e) (fun _ _ _ e => e) (fun b ps e => ⟨#[],by rw [e]; simp⟩) (fun m hm => ?_) (fun b u e => ?_) I.bare
  · have e : b = it := by simpa using hb
    subst e
    exact ⟨h1,hL,h2,h3⟩
  · obtain ⟨o,es,ep,ho,r⟩ := hm
    exact ⟨o,es,ep,k _ o (Ne.symm hL) ho,r⟩
  · refine (I.hok b u e).stay (fun c v hc q => k c v ?_ q) (fun _ q => q) fun _ _ q => q
    rcases hc with z | z
    · rw [z]; exact nit b u e
    · exact nit c _ z
theorem Inv.tok (I : Inv X pins σ H s) (t : Nat) : Inv X pins σ H { s with toks := t } := I.un (h' := s.heap) (t' := t) Un.refl I.hok
theorem Inv.kept {t' : Nat} (I : Inv X pins σ H s) (k : ∀ b u,s.heap.get? b = some u → h'.get? b = some u) : Inv X pins σ H { s with heap := h',toks := t' } := I.un (Un.kept k) (I.hok.kept k)
theorem Inv.laid {a : Addr} {o : HO} {t' : Nat} (I : Inv X pins σ H s) (k : ∀ b u,s.heap.get? b = some u → h'.get? b = some u) (hp : s.heap.objs.size ≤ a) (new : ObjOk X.prog X.w (upd H a o) h' a o) :
    Inv X pins σ (upd H a o) { s with heap := h',toks := t' } := I.un (Un.laid k hp (I.hok.fresh hp)) (I.hok.laid k hp new)
theorem Inv.write {x e : Addr} {o : HO} {t' : Nat} (I : Inv X pins σ H s) (mu : Mut (H x)) (he : e = x ∨ H e = some (.own x)) (k : ∀ b u,b ≠ e → s.heap.get? b = some u → h'.get? b = some u) (heo : ∃ u,h'.get? e = some u)
    (new : ObjOk X.prog X.w (upd H x o) h' x o) : Inv X pins σ (upd H x o) { s with heap := h',toks := t' } := I.un (Un.write mu he k heo) (I.hok.write mu he k heo new)
theorem Inv.pins_of {pins' : List (Addr × Obj)} (I : Inv X pins σ H s) (h : ∀ p ∈ pins',s.heap.get? p.1 = some p.2 ∧ H p.1 = none ∧ p.1 ≠ X.env.locals ∧ p.1 ∉ X.fs ∧ ∀ v,p.2.data ≠ .cell v) : Inv X pins' σ H s :=
  ⟨I.ok,I.os,I.bare,I.base,I.loc,I.cell,I.free,I.freeC,fun p hp => (List.mem_append.mp hp).elim (fun z => I.pin p (List.mem_append_left _ z)) (h p),I.hok,I.len⟩
theorem nodup_ix {N : List Str} (hN : N.Nodup) {i j : Nat} {x : Str} (a : N[i]? = some x) (b : N[j]? = some x) : i = j := by
  obtain ⟨h1,e1⟩ := List.getElem?_eq_some_iff.mp a
  obtain ⟨h2,e2⟩ := List.getElem?_eq_some_iff.mp b
  exact (List.getElem_inj hN).mp (e1.trans e2.symm)
theorem store_ok2 {M : Model} {A : Around} {E : Value → Shared → Prop} {i : Nat} {x : Str} {v : V} {u : Value} {Q : Unit → Shared → Prop} (I : Inv X pins σ H s) (hN : X.N.Nodup) (hi : X.N[i]? = some x) (hx : Loc X.env.scope x) (r : RelV v u)
    (h : ∀ s',Inv X pins (σ.set i (some v)) H s' → (∃ a,Heap.SameBut a s.heap s'.heap ∧ (a = X.env.locals ∨ X.env.cells.lookup x = some a)) → Q () s') (hf : X.fn x = true ∨ X.env.scope.names.lookup x = some .local := by first | exact .inl rfl | exact .inr rfl | assumption) : wpAny M A (storeName X.env x u) Q E s := by
  obtain ⟨m,hn,hl⟩ := id I.loc
  have hcls : (X.env.scope.kind == .class || (X.env.scope.kind == .module && X.env.locals != X.env.globals)) = false := by rw [I.ok.kind]; rfl
  have hiσ : i < σ.length := by rw [I.len]; exact (List.getElem?_eq_some_iff.mp hi).1
  have cne := I.cne
  have tracked : ∀ {a : Addr} {h' : Heap},(∃ o,s.heap.get? a = some o ∧ H a = none) → Heap.SameBut a s.heap h' → HOk X.prog X.w H h' := fun {a h'} ha hs b ob e => by
    obtain ⟨_,_,hfree⟩ := ha
    refine (I.hok b ob e).stay (fun c w' hc q => (hs.2 c ?_).trans q) (fun _ q => q) fun _ _ q => q
    rintro rfl
    rcases hc with rfl | hc
    · rw [hfree] at e; cases e
    · rw [hfree] at hc; cases hc
  rcases hx with hk | hk
  · refine wpAny_storeName_local hk hn (fun h' hn' hs => ?_) hcls
    obtain ⟨oL,_,_,hoL,_⟩ := id hn
    refine h _ ⟨I.ok,I.os,I.bare,⟨fun b o e n hb hx => ?_,fun b o e n hb hx => ?_,I.base.free,fun b o e hx => ?_,I.base.tups,I.base.frzs,I.base.tbls⟩,⟨_,hn',fun j y v' e1 e2 e3 => ?_⟩,fun y c e => ?_,I.free,I.freeC,fun p hp => ?_,tracked ⟨oL,hoL,I.free⟩ hs,by simpa using I.len⟩ ⟨_,hs,.inl rfl⟩
    · exact (hs.2 b (Nat.ne_of_lt (Nat.lt_of_lt_of_le (Heap.lt_size e) I.ok.above))).trans (I.base.keep b o e n hb hx)
    · obtain ⟨sl,e1⟩ := I.base.slot b o e n hb hx
      exact ⟨sl,(hs.2 b (Nat.ne_of_lt (Nat.lt_of_lt_of_le (Heap.lt_size e) I.ok.above))).trans e1⟩
    · obtain ⟨o',e1⟩ := I.base.there b o e hx
      exact ⟨o',(hs.2 b (Nat.ne_of_lt (Nat.lt_of_lt_of_le (Heap.lt_size e) I.ok.above))).trans e1⟩
    · by_cases hj : j = i
      · subst hj
        rw [hi] at e1; cases e1
        rw [List.getElem?_set_self hiσ] at e2
        cases e2
        exact ⟨u,r,.inl ⟨hk,by simp⟩⟩
      · rw [List.getElem?_set_ne (Ne.symm hj)] at e2
        obtain ⟨u',r',q⟩ := hl j y v' e1 e2 e3
        refine ⟨u',r',?_⟩
        rcases q with ⟨k,e⟩ | ⟨k,c,e,z⟩
        · refine .inl ⟨k,?_⟩
          have : y ≠ x := fun e => hj (nodup_ix hN e1 (e ▸ hi))
          simp [this,e]
        · exact .inr ⟨k,c,e,z.sameBut hs (cne y c e)⟩
    · obtain ⟨w',z⟩ := I.cell y c e
      exact ⟨w',z.sameBut hs (cne y c e)⟩
    · obtain ⟨e,n,ne,nf,d⟩ := I.pin p hp
      exact ⟨(hs.2 p.1 ne).trans e,n,ne,nf,d⟩
  · have hfn : X.fn x = true := by
      rcases hf with z | z
      · exact z
      · rw [z] at hk; cases hk
    obtain ⟨c,hc⟩ := I.ok.has x (.inl hk)
    obtain ⟨w',z⟩ := I.cell x c hc
    refine wpAny_storeName_cell I.ok.kind hk hc z (fun h' hc' hs => ?_)
    obtain ⟨oc,hoc,hocd⟩ := id z
    refine h { s with heap := h' } ⟨I.ok,I.os,I.bare,⟨fun b o e n hb hx => ?_,fun b o e n hb hx => ?_,I.base.free,fun b o e hx => ?_,I.base.tups,I.base.frzs,I.base.tbls⟩,⟨m,hn.sameBut hs (Ne.symm (cne x c hc)),fun j y v' e1 e2 e3 => ?_⟩,fun y c' e => ?_,I.free,I.freeC,fun p hp => ?_,tracked ⟨oc,hoc,I.freeC x c hc⟩ hs,by simpa using I.len⟩ ⟨c,hs,.inr hc⟩
    · exact (hs.2 b (Nat.ne_of_lt (Nat.lt_of_lt_of_le (Heap.lt_size e) (I.ok.cab x c hfn hc)))).trans (I.base.keep b o e n hb hx)
    · obtain ⟨sl,e1⟩ := I.base.slot b o e n hb hx
      exact ⟨sl,(hs.2 b (Nat.ne_of_lt (Nat.lt_of_lt_of_le (Heap.lt_size e) (I.ok.cab x c hfn hc)))).trans e1⟩
    · obtain ⟨o',e1⟩ := I.base.there b o e hx
      exact ⟨o',(hs.2 b (Nat.ne_of_lt (Nat.lt_of_lt_of_le (Heap.lt_size e) (I.ok.cab x c hfn hc)))).trans e1⟩
    · by_cases hj : j = i
      · subst hj
        rw [hi] at e1; cases e1
        rw [List.getElem?_set_self hiσ] at e2
        cases e2
        exact ⟨u,r,.inr ⟨.inl hk,c,hc,hc'⟩⟩
      · rw [List.getElem?_set_ne (Ne.symm hj)] at e2
        obtain ⟨u',r',q⟩ := hl j y v' e1 e2 e3
        refine ⟨u',r',?_⟩
        rcases q with q | ⟨k,c',e,z'⟩
        · exact .inl q
        · refine .inr ⟨k,c',e,z'.sameBut hs ?_⟩
          rintro rfl
          exact hj (nodup_ix hN e1 (I.ok.inj _ _ _ e hc ▸ hi))
    · by_cases hcc : c' = c
      · subst hcc; exact ⟨_,hc'⟩
      · obtain ⟨w2,z2⟩ := I.cell y c' e
        exact ⟨w2,z2.sameBut hs hcc⟩
    · obtain ⟨e,n,ne,nf,d⟩ := I.pin p hp
      refine ⟨(hs.2 p.1 ?_).trans e,n,ne,nf,d⟩
      intro q
      rw [q,hoc] at e
      have q' : oc = p.2 := Option.some.inj e
      exact d w' (by rw [← q']; exact hocd)
theorem store_ok {M : Model} {A : Around} {E : Value → Shared → Prop} {i : Nat} {x : Str} {v : V} {u : Value} {Q : Unit → Shared → Prop} (I : Inv X pins σ H s) (hN : X.N.Nodup) (hi : X.N[i]? = some x) (hx : Loc X.env.scope x) (r : RelV v u)
    (h : ∀ s',Inv X pins (σ.set i (some v)) H s' → Q () s') (hf : X.fn x = true ∨ X.env.scope.names.lookup x = some .local := by first | exact .inl rfl | exact .inr rfl | assumption) : wpAny M A (storeName X.env x u) Q E s :=
  store_ok2 I hN hi hx r (fun s' I' _ => h s' I') hf
theorem Inv.call' {s' : Shared} {ch : List Addr} (I : Inv X pins σ H s) (ho : s'.os = s.os) (u : Un (frs X.stack) ch H H' s.heap s'.heap) (hok : HOk X.prog X.w H' s'.heap) (hg : AllBare s'.gens)
    (hch : ∀ b ∈ ch,(b ∈ X.ex ∨ X.s₀.heap.objs.size ≤ b) ∧ b ≠ X.env.locals ∧ (∀ x c,X.env.cells.lookup x = some c → c ≠ b) ∧ ∀ p ∈ X.pn ++ pins,p.1 ≠ b) : Inv X pins σ H' s' := by
  obtain ⟨h',g',d',t',o'⟩ := s'
  have e : o' = s.os := ho
  subst e
  exact I.call (g' := g') (t' := t') (d' := d') u hok hg hch
end
noncomputable abbrev XK := Value → Option Addr → Hp → Prop
noncomputable abbrev St := List (Option V)
noncomputable abbrev VK := V → Hp → Prop
noncomputable abbrev TE := St → Hp → VK → Prop
noncomputable abbrev TT := St → Hp → (Bool → Hp → Prop) → Prop
noncomputable abbrev TA := St → Hp → (List V → Hp → Prop) → Prop
structure Ends where
  nx : St → Hp → Prop
  rt : VK
  bk : St → Hp → Prop := fun _ _ => False
  ct : St → Hp → Prop := fun _ _ => False
noncomputable abbrev TS := Ends → St → Hp → Prop
noncomputable def EP (X : Cx) (pins : List (Addr × Obj)) (σ : St) (Q : VK) (u : Value) (s' : Shared) : Prop := ∃ v H',Inv X pins σ H' s' ∧ RelV v u ∧ Q v H'
noncomputable def TP (X : Cx) (pins : List (Addr × Obj)) (σ : St) (Q : Bool → Hp → Prop) (b : Bool) (s' : Shared) : Prop := ∃ H',Inv X pins σ H' s' ∧ Q b H'
noncomputable def AP (X : Cx) (pins : List (Addr × Obj)) (σ : St) (Q : List V → Hp → Prop) (us : List Value) (s' : Shared) : Prop := ∃ vs H',Inv X pins σ H' s' ∧ Vals vs us ∧ Q vs H'
noncomputable def SP (X : Cx) (pins : List (Addr × Obj)) (D : Ends) (f : Flow) (s' : Shared) : Prop :=
  match f with
  | .next => ∃ σ' H',Inv X pins σ' H' s' ∧ D.nx σ' H'
  | .brk => ∃ σ' H',Inv X pins σ' H' s' ∧ D.bk σ' H'
  | .cont => ∃ σ' H',Inv X pins σ' H' s' ∧ D.ct σ' H'
  | .ret u => ∃ v σ' H',Inv X pins σ' H' s' ∧ RelV v u ∧ D.rt v H'
noncomputable def PE (X : Cx) (e : Expr) (t : TE) : Prop :=
  ∀ (pins : List (Addr × Obj)) (s : Shared) (σ : St) (H : Hp) (Q : VK),Inv X pins σ H s → t σ H Q → wpAny (model X.prog X.w) X.A (eval e X.env) (EP X pins σ Q) X.xe s
noncomputable def PT (X : Cx) (e : Expr) (t : TT) : Prop :=
  ∀ (pins : List (Addr × Obj)) (s : Shared) (σ : St) (H : Hp) (Q : Bool → Hp → Prop),Inv X pins σ H s → t σ H Q → wpAny (model X.prog X.w) X.A (isTrue e X.env (eval e X.env)) (TP X pins σ Q) X.xe s
noncomputable def PW (X : Cx) (e : Expr) (t : TT) : Prop :=
  ∀ (whole : Sem Value) (pins : List (Addr × Obj)) (s : Shared) (σ : St) (H : Hp) (Q : Bool → Hp → Prop),Inv X pins σ H s → t σ H Q → wpAny (model X.prog X.w) X.A (isTrue e X.env whole) (TP X pins σ Q) X.xe s
theorem PW.pt {X : Cx} {e : Expr} {t : TT} (h : PW X e t) : PT X e t := h _
noncomputable def PA (X : Cx) (es : List Expr) (t : TA) : Prop :=
  ∀ (pos : Pos) (pins : List (Addr × Obj)) (s : Shared) (σ : St) (H : Hp) (Q : List V → Hp → Prop),Inv X pins σ H s → t σ H Q → wpAny (model X.prog X.w) X.A (spliced (backTo pos (starEach es X.env))) (AP X pins σ Q) X.xe s
noncomputable def PS (X : Cx) (st : Stmt) (t : TS) : Prop :=
  ∀ (pins : List (Addr × Obj)) (s : Shared) (σ : St) (H : Hp) (D : Ends),Inv X pins σ H s → t D σ H → wpAny (model X.prog X.w) X.A (exec st X.env) (SP X pins D) X.xe s
noncomputable def PSs (X : Cx) (st : List Stmt) (t : TS) : Prop :=
  ∀ (pins : List (Addr × Obj)) (s : Shared) (σ : St) (H : Hp) (D : Ends),Inv X pins σ H s → t D σ H → wpAny (model X.prog X.w) X.A (execs st X.env) (SP X pins D) X.xe s
theorem thn {α : Type} {t : Sem α} {Q Q' : α → Shared → Prop} {M : Model} {A : Around} {E : Value → Shared → Prop} {s : Shared} (h : wpAny M A t Q E s) (hQ : ∀ a s,Q a s → Q' a s) : wpAny M A t Q' E s := wpAny_mono h hQ fun _ _ x => x
end L2
namespace L2
open PySem PySem.Spec PyProof.Rows
section
variable {X : Cx}
inductive SVar (i : Nat) (σ : St) (H : Hp) (Q : VK) : Prop | mk (v : V) (h : σ[i]? = some (some v)) (q : Q v H)
noncomputable def tVar (i : Nat) : TE := fun σ H Q => SVar i σ H Q
noncomputable def tC (v : V) : TE := fun _ H Q => Q v H
theorem pe_var {i : Nat} {x : Str} {pos : Pos} (hN : X.N[i]? = some x) (hv : Vis X.env.scope x) (hd : (x == ("__debug__" : Str)) = false := by decide) (hcd : (x == ("__classdict__" : Str)) = false := by decide) : PE X (.Name x pos) (tVar i) := by
  intro pins s σ H Q I h
  obtain ⟨v,e,h⟩ := h
  obtain ⟨m,hn,hl⟩ := I.loc
  obtain ⟨u,r,l⟩ := hl i x v hN e hv
  have fin : EP X pins σ Q u s := ⟨v,H,I,r,h⟩
  rcases l with ⟨hk,hm⟩ | ⟨hk,c,hc,hcell⟩
  · exact wpAny_Name (wpAny_loadName_local I.ok.kind hk hn hm fin) hd
  · rcases hk with hk | hk
    · exact wpAny_Name (wpAny_loadName_cell I.ok.kind hk hc hcell fin) hd
    · exact wpAny_Name (wpAny_loadName_free I.ok.kind hk hc hcell fin hcd) hd
theorem pe_int {i j pos} : PE X (.Constant (.int i) j pos) (tC (.int i)) := fun _ _ _ H _ I h => wpAny_Constant_int ⟨.int i,H,I.tok _,⟨_,rfl⟩,h⟩
theorem pe_bl {b j pos} : PE X (.Constant (.bool b) j pos) (tC (.bl b)) := fun _ _ _ H _ I h => Constant_bool ⟨.bl b,H,I,rfl,h⟩
theorem pe_non {j pos} : PE X (.Constant .none j pos) (tC .non) := fun _ _ _ H _ I h => Constant_none ⟨.non,H,I,rfl,h⟩
theorem pe_str {x j pos} : PE X (.Constant (.str x) j pos) (tC (.str x)) := fun _ _ _ H _ I h => Calls.Constant_str ⟨.str x,H,I.tok _,⟨_,rfl⟩,h⟩
noncomputable def Gl (X : Cx) (x : Str) : Prop := X.env.kindOf x = some .globalImplicit
theorem ld_glob {E : Value → Shared → Prop} {pins : List (Addr × Obj)} {s : Shared} {σ : St} {H : Hp} {x : Str} {u : Value} {pos : Pos} {Q : Value → Shared → Prop} (I : Inv X pins σ H s) (hg : Gl X x) (hm : X.mg x = some u) (h : Q u s)
    (hd : (x == ("__debug__" : Str)) = false := by decide) : wpAny (model X.prog X.w) X.A (eval (.Name x pos) X.env) Q E s :=
  Calls.Name_function_global I.ok.kind hg (Calls.loadGlobal_global (by rw [I.ok.glob]; exact I.mod.glob.keeps I.bk) hm h) hd
theorem ld_blt {E : Value → Shared → Prop} {pins : List (Addr × Obj)} {s : Shared} {σ : St} {H : Hp} {x : Str} {u : Value} {pos : Pos} {Q : Value → Shared → Prop} (I : Inv X pins σ H s) (hg : Gl X x) (hm : X.mg x = none) (hv : bootBuiltins x = some u) (h : Q u s)
    (hn : x ≠ "__name__" := by decide) (hd : (x == ("__debug__" : Str)) = false := by decide) : wpAny (model X.prog X.w) X.A (eval (.Name x pos) X.env) Q E s := by
  obtain ⟨mb,h1,h2⟩ := I.mod.blt
  exact Calls.Name_function_global I.ok.kind hg (Calls.loadGlobal_builtin (by rw [I.ok.glob]; exact I.mod.glob.keeps I.bk) hm (by rw [I.ok.blt]; exact h1.keeps I.bk) ((h2 x hn).trans hv) h) hd
theorem pe_glob {x : Str} {v : V} {u : Value} {pos : Pos} (hg : Gl X x) (hm : X.mg x = some u) (r : RelV v u) (hd : (x == ("__debug__" : Str)) = false := by decide) : PE X (.Name x pos) (tC v) :=
  fun _ _ _ H _ I h => ld_glob I hg hm ⟨v,H,I,r,h⟩ hd
theorem pe_bltn {x : Str} {v : V} {u : Value} {pos : Pos} (hg : Gl X x) (hm : X.mg x = none) (hv : bootBuiltins x = some u) (r : RelV v u) (hn : x ≠ "__name__" := by decide) (hd : (x == ("__debug__" : Str)) = false := by decide) : PE X (.Name x pos) (tC v) :=
  fun _ _ _ H _ I h => ld_blt I hg hm hv ⟨v,H,I,r,h⟩ hn hd
variable {a b : Expr} {ta tb : TE} {pos : Pos}
noncomputable def tB (t : TE) : TT := fun σ H Q => t σ H fun x H1 => ∃ c,x = .bl c ∧ Q c H1
theorem pt_val {e : Expr} {t : TE} (h : PE X e t) (he : ∀ whole,isTrue e X.env whole = (do let v ← whole; standAt e.pos; holding [v] (truthy v)) := by intro _; rfl) : PT X e (tB t) := by
  intro pins s σ H Q I hw
  refine isTrue_plain (thn (h pins s σ H _ I hw) fun v s1 ⟨x,H1,I1,r1,q1⟩ => ?_) (he _)
  obtain ⟨d,rfl,q⟩ := q1
  cases r1
  exact wpAny_truthy_bool ⟨H1,I1,q⟩
variable {tA tB' : TT} {rest : List Expr}
noncomputable def tAnd (t u : TT) : TT := fun σ H Q => t σ H fun c H1 => if c = true then u σ H1 Q else Q false H1
noncomputable def tOr (t u : TT) : TT := fun σ H Q => t σ H fun c H1 => if c = true then Q true H1 else u σ H1 Q
noncomputable def tNot (t : TT) : TT := fun σ H Q => t σ H fun c H1 => Q (!c) H1
theorem pw_and1 (ha : PT X a tA) : PW X (.BoolOp .And [a] pos) tA := by
  intro wh pins s σ H Q I h
  refine isTrue_and (thn (ha pins s σ H Q I h) fun c s1 e => ?_)
  cases c with
  | true => exact isTrue_and_nil e
  | false => exact e
theorem pw_or1 (ha : PT X a tA) : PW X (.BoolOp .Or [a] pos) tA := by
  intro wh pins s σ H Q I h
  refine isTrue_or (thn (ha pins s σ H Q I h) fun c s1 e => ?_)
  cases c with
  | false => exact isTrue_or_nil e
  | true => exact e
theorem pw_and (ha : PT X a tA) (hb : PW X (.BoolOp .And (b :: rest) pos) tB') : PW X (.BoolOp .And (a :: b :: rest) pos) (tAnd tA tB') := by
  intro wh pins s σ H Q I h
  refine isTrue_and (thn (ha pins s σ H _ I h) fun c s1 ⟨H1,I1,q1⟩ => ?_)
  cases c with
  | true => exact hb wh pins s1 σ H1 Q I1 q1
  | false => exact ⟨H1,I1,q1⟩
theorem pw_or (ha : PT X a tA) (hb : PW X (.BoolOp .Or (b :: rest) pos) tB') : PW X (.BoolOp .Or (a :: b :: rest) pos) (tOr tA tB') := by
  intro wh pins s σ H Q I h
  refine isTrue_or (thn (ha pins s σ H _ I h) fun c s1 ⟨H1,I1,q1⟩ => ?_)
  cases c with
  | true => exact ⟨H1,I1,q1⟩
  | false => exact hb wh pins s1 σ H1 Q I1 q1
theorem pt_not (ha : PT X a tA) : PT X (.UnaryOp .Not a pos) (tNot tA) := by
  intro pins s σ H Q I h
  exact isTrue_not (ha pins s σ H (fun c H1 => Q (!c) H1) I h)
noncomputable def tAndV (ta tb : TE) : TE := fun σ H Q => ta σ H fun x H1 => ∃ c,x = .bl c ∧ if c = true then tb σ H1 Q else Q (.bl false) H1
noncomputable def tOrV (ta tb : TE) : TE := fun σ H Q => ta σ H fun x H1 => ∃ c,x = .bl c ∧ if c = true then Q (.bl true) H1 else tb σ H1 Q
theorem pe_one {op} {t : TE} (h : PE X a t) : PE X (.BoolOp op [a] pos) t := fun pins s σ H Q I hw => BoolOp_one (h pins s σ H Q I hw)
theorem pe_and (ha : PE X a ta) (hb : PE X (.BoolOp .And (b :: rest) pos) tb) : PE X (.BoolOp .And (a :: b :: rest) pos) (tAndV ta tb) := by
  intro pins s σ H Q I h
  refine BoolOp_and (thn (ha pins s σ H _ I h) fun v s1 ⟨x,H1,I1,r1,q1⟩ => ?_)
  obtain ⟨c,rfl,q1⟩ := q1
  cases r1
  refine wpAny_truthy_bool ?_
  cases c with
  | true => exact hb pins s1 σ H1 Q I1 q1
  | false => exact ⟨.bl false,H1,I1,rfl,q1⟩
theorem pe_or (ha : PE X a ta) (hb : PE X (.BoolOp .Or (b :: rest) pos) tb) : PE X (.BoolOp .Or (a :: b :: rest) pos) (tOrV ta tb) := by
  intro pins s σ H Q I h
  refine BoolOp_or (thn (ha pins s σ H _ I h) fun v s1 ⟨x,H1,I1,r1,q1⟩ => ?_)
  obtain ⟨c,rfl,q1⟩ := q1
  cases r1
  refine wpAny_truthy_bool ?_
  cases c with
  | false => exact hb pins s1 σ H1 Q I1 q1
  | true => exact ⟨.bl true,H1,I1,rfl,q1⟩
noncomputable def tIf (t : TT) (ta tb : TE) : TE := fun σ H Q => t σ H fun c H1 => if c = true then ta σ H1 Q else tb σ H1 Q
theorem pe_ifExp {c : Expr} (hc : PT X c tA) (ha : PE X a ta) (hb : PE X b tb) : PE X (.IfExp c a b pos) (tIf tA ta tb) := by
  intro pins s σ H Q I h
  refine wpAny_IfExp (thn (hc pins s σ H _ I h) fun d s1 ⟨H1,I1,q1⟩ => ?_)
  cases d with
  | true => exact ha pins s1 σ H1 Q I1 q1
  | false => exact hb pins s1 σ H1 Q I1 q1
end
end L2
namespace L2
open PySem PySem.Spec PyProof.Rows
noncomputable def SqL (K : PySem.W.Frag) (H : Hp) (a : Addr) (xs : List V) : Prop :=
  Rd H a (.lst xs) ∨
    ∃ (o : Obj) (its : Array Value) (n : Nat),K.lookup a = some o ∧ o.cls = .type "list" ∧ o.dict = none ∧ o.data = .seq its n ∧ its.size ≤ sizeLine ∧ Vals xs its.toList
noncomputable def SqT (K : PySem.W.Frag) (H : Hp) (a : Addr) (xs : List V) : Prop :=
  Rd H a (.tup xs) ∨
    ∃ (o : Obj) (its : Array Value) (n : Nat),K.lookup a = some o ∧ o.cls = .type "tuple" ∧ o.data = .seq its n ∧ its.size ≤ sizeLine ∧ Vals xs its.toList
noncomputable def absV : Value → Option V
  | .none => some .non
  | .bool b => some (.bl b)
  | .int i _ => some (.int i)
  | .str x _ => some (.str x)
  | .bytes b _ => some (.byt b)
  | .float b _ => some (.flt b)
  | .ref a => some (.ref a)
  | .type n => some (.ty n)
  | _ => none
theorem RelV.abs {x : V} {u : Value} (r : RelV x u) : absV u = some x := by
  cases x with
  | non => cases r; rfl
  | bl _ => cases r; rfl
  | int _ => obtain ⟨t,rfl⟩ := r; rfl
  | str _ => obtain ⟨t,rfl⟩ := r; rfl
  | byt _ => obtain ⟨t,rfl⟩ := r; rfl
  | flt _ => obtain ⟨t,rfl⟩ := r; rfl
  | ref _ => cases r; rfl
  | ty _ => cases r; rfl
theorem RelV.inj {x y : V} {u : Value} (r : RelV x u) (q : RelV y u) : x = y := Option.some.inj (r.abs.symm.trans q.abs)
theorem Vals.inj {xs ys : List V} {us : List Value} (h : Vals xs us) (h' : Vals ys us) : xs = ys := by
  induction h generalizing ys with
  | nil => cases h'; rfl
  | cons r t ih =>
    cases h' with
    | cons r' t' => rw [r.inj r',ih t']
section
variable {X : Cx} {pins : List (Addr × Obj)} {σ : St} {H : Hp} {s : Shared} {a : Addr} {xs ys : List V}
theorem SqL.of {K : PySem.W.Frag} (h : H a = some (.lst xs)) : SqL K H a xs := .inl (.inl h)
theorem SqT.of {K : PySem.W.Frag} (h : H a = some (.tup xs)) : SqT K H a xs := .inl (.inl h)
theorem Inv.list (I : Inv X pins σ H s) (h : SqL X.K H a xs) : ∃ its : List Value,Vals xs its ∧ PlainL s.heap a its.toArray ∧ xs.length ≤ sizeLine := by
  rcases h with h | ⟨o,its,n,hk,hc,hd,hs,hz,r⟩
  · obtain ⟨z,its,n,r,e⟩ := h.ok I.hok
    exact ⟨its,r,⟨_,n,e,rfl,rfl,rfl⟩,z⟩
  · refine ⟨its.toList,r,⟨o,n,I.kIn a o hk,hc,hd,by simpa using hs⟩,?_⟩
    have e := r.length
    simp only [Array.length_toList] at e
    omega
theorem Inv.tuple (I : Inv X pins σ H s) (h : SqT X.K H a xs) : ∃ its : List Value,Vals xs its ∧ IsTup s.heap a its.toArray ∧ xs.length ≤ sizeLine := by
  rcases h with h | ⟨o,its,n,hk,hc,hs,hz,r⟩
  · obtain ⟨z,its,r,p⟩ := h.ok I.hok
    exact ⟨its,r,p,z⟩
  · refine ⟨its.toList,r,⟨o,I.kIn a o hk,hc,n,by simpa using hs⟩,?_⟩
    have e := r.length
    simp only [Array.length_toList] at e
    omega
theorem Inv.list_inj (I : Inv X pins σ H s) (h : SqL X.K H a xs) (h' : SqL X.K H a ys) : xs = ys := by
  obtain ⟨its,r,⟨o,n,e,_,_,d⟩,_⟩ := I.list h
  obtain ⟨its',r',⟨o',n',e',_,_,d'⟩,_⟩ := I.list h'
  rw [e] at e'; cases e'
  rw [d] at d'
  injection d' with d1 _
  have : its = its' := by simpa using congrArg Array.toList d1
  subst this
  exact r.inj r'
theorem Inv.tuple_inj (I : Inv X pins σ H s) (h : SqT X.K H a xs) (h' : SqT X.K H a ys) : xs = ys := by
  obtain ⟨its,r,⟨o,e,_,n,d⟩,_⟩ := I.tuple h
  obtain ⟨its',r',⟨o',e',_,n',d'⟩,_⟩ := I.tuple h'
  rw [e] at e'; cases e'
  rw [d] at d'
  injection d' with d1 _
  have : its = its' := by simpa using congrArg Array.toList d1
  subst this
  exact r.inj r'
end
noncomputable abbrev Cx.wish (X : Cx) (E : Value → Shared → Prop) : Cx := { X with xe := E }
noncomputable abbrev Cx.nox (X : Cx) : Cx := X.wish fun _ _ => False
theorem Cx.Ok.wish {X : Cx} (ok : X.Ok) (E : Value → Shared → Prop) : (X.wish E).Ok :=
  ⟨ok.mod,ok.kind,ok.glob,ok.blt,ok.above,ok.inj,ok.has,ok.cab,ok.hd,ok.frames,ok.stk,ok.exf,ok.bs,ok.bsz,ok.noex,ok.exfs,ok.funs,ok.frf⟩
theorem Cx.Ok.unwish {X : Cx} {E : Value → Shared → Prop} (ok : (X.wish E).Ok) : X.Ok :=
  ⟨ok.mod,ok.kind,ok.glob,ok.blt,ok.above,ok.inj,ok.has,ok.cab,ok.hd,ok.frames,ok.stk,ok.exf,ok.bs,ok.bsz,ok.noex,ok.exfs,ok.funs,ok.frf⟩
section
variable {X : Cx} {pins : List (Addr × Obj)} {σ : St} {H : Hp} {s : Shared} {E : Value → Shared → Prop}
theorem Inv.wish (I : Inv X pins σ H s) (E : Value → Shared → Prop) : Inv (X.wish E) pins σ H s := ⟨I.ok.wish E,I.os,I.bare,I.base,I.loc,I.cell,I.free,I.freeC,I.pin,I.hok,I.len⟩
theorem Inv.unwish (I : Inv (X.wish E) pins σ H s) : Inv X pins σ H s := ⟨I.ok.unwish,I.os,I.bare,I.base,I.loc,I.cell,I.free,I.freeC,I.pin,I.hok,I.len⟩
theorem SP.unwish {D : Ends} {f : Flow} {s' : Shared} (h : SP (X.wish E) pins D f s') : SP X pins D f s' := by
  cases f with
  | next => obtain ⟨σ',H',I,q⟩ := h; exact ⟨σ',H',I.unwish,q⟩
  | brk => obtain ⟨σ',H',I,q⟩ := h; exact ⟨σ',H',I.unwish,q⟩
  | cont => obtain ⟨σ',H',I,q⟩ := h; exact ⟨σ',H',I.unwish,q⟩
  | ret u => obtain ⟨v,σ',H',I,r,q⟩ := h; exact ⟨v,σ',H',I.unwish,r,q⟩
theorem PSs.nox {st : List Stmt} {t : TS} (h : PSs X.nox st t) : PSs X st t := fun pins s σ H D I hw =>
  wpAny_mono (h pins s σ H D (I.wish _) hw) (fun _ _ q => q.unwish) fun _ _ z => False.elim z
end
section
variable {X : Cx} {st : Stmt} {rest : List Stmt} {t u : TS} {e : Expr} {te : TE} {pos : Pos}
noncomputable def tNext : TS := fun D σ H => D.nx σ H
noncomputable def tSeq (t u : TS) : TS := fun D σ H => t { D with nx := u D } σ H
theorem pss_nil : PSs X [] tNext := fun _ _ σ H _ I h => wpAny_execs_nil ⟨σ,H,I,h⟩
theorem pss_cons (h1 : PS X st t) (h2 : PSs X rest u) : PSs X (st :: rest) (tSeq t u) := by
  intro pins s σ H D I h
  refine wpAny_execs_cons (thn (h1 pins s σ H { D with nx := u D } I h) fun f s1 q => ?_)
  cases f with
  | next =>
    obtain ⟨σ',H',I',q⟩ := q
    exact h2 pins s1 σ' H' D I' q
  | ret v => exact q
  | brk => exact q
  | cont => exact q
theorem pss_one (h1 : PS X st t) : PSs X [st] t := by
  intro pins s σ H D I h
  refine wpAny_execs_cons (thn (h1 pins s σ H D I h) fun f s1 q => ?_)
  cases f with
  | next => exact wpAny_execs_nil q
  | ret v => exact q
  | brk => exact q
  | cont => exact q
theorem Inv.quiet {pins : List (Addr × Obj)} {σ : St} {H : Hp} {s : Shared} (I : Inv X pins σ H s) : interactive X.env = false := by simp [interactive,I.ok.kind]
noncomputable def tDrop (te : TE) : TS := fun D σ H => te σ H fun _ H1 => D.nx σ H1
theorem ps_expr (he : PE X e te) (hs : swapsWith e none pos.line X.env = pure false := by rfl) : PS X (.Expr e pos) (tDrop te) := by
  intro pins s σ H D I h
  exact wpAny_Expr_any (thn (he pins s σ H _ I h) fun v s1 ⟨x,H1,I1,r1,q1⟩ => ⟨σ,H1,I1,q1⟩) I.quiet hs
noncomputable def tRet (te : TE) : TS := fun D σ H => te σ H D.rt
theorem ps_ret (he : PE X e te) : PS X (.Return (some e) pos) (tRet te) := by
  intro pins s σ H D I h
  exact wpAny_Return_some (thn (he pins s σ H _ I h) fun v s1 ⟨x,H1,I1,r1,q1⟩ => ⟨x,σ,H1,I1,r1,q1⟩)
noncomputable def tIfS (c : TT) (t u : TS) : TS := fun D σ H => c σ H fun b H1 => if b = true then t D σ H1 else u D σ H1
theorem ps_if {c : Expr} {a b : List Stmt} {tc : TT} (hc : PT X c tc) (ha : PSs X a t) (hb : PSs X b u) : PS X (.If c a b pos) (tIfS tc t u) := by
  intro pins s σ H D I h
  refine wpAny_If (thn (hc pins s σ H _ I h) fun d s1 ⟨H1,I1,q1⟩ => ?_)
  cases d with
  | true => exact ha pins s1 σ H1 D I1 q1
  | false => exact hb pins s1 σ H1 D I1 q1
end
noncomputable abbrev TG := V → St → Hp → (St → Hp → Prop) → Prop
noncomputable abbrev TGs := List V → St → Hp → (St → Hp → Prop) → Prop
noncomputable def PG (X : Cx) (target : Expr) (t : TG) : Prop :=
  ∀ (pins : List (Addr × Obj)) (s : Shared) (σ : St) (H : Hp) (v : V) (u : Value) (Q : St → Hp → Prop),Inv X pins σ H s → RelV v u → t v σ H Q →
    wpAny (model X.prog X.w) X.A (assign target X.env u) (fun _ s' => ∃ σ' H',Inv X pins σ' H' s' ∧ Q σ' H') X.xe s
noncomputable def PGs (X : Cx) (ts : List Expr) (t : TGs) : Prop :=
  ∀ (pins : List (Addr × Obj)) (s : Shared) (σ : St) (H : Hp) (vs : List V) (us : List Value) (Q : St → Hp → Prop),Inv X pins σ H s → Vals vs us → t vs σ H Q →
    wpAny (model X.prog X.w) X.A (assignInOrder ((assignEach ts X.env).map (·.2)) us) (fun _ s' => ∃ σ' H',Inv X pins σ' H' s' ∧ Q σ' H') X.xe s
noncomputable abbrev TSet := V → V → V → Hp → (Hp → Prop) → Prop
noncomputable def PSet (X : Cx) (t : TSet) : Prop :=
  ∀ (pins : List (Addr × Obj)) (s : Shared) (σ : St) (H : Hp) (o i v : V) (ov iv u : Value) (Q : Hp → Prop),Inv X pins σ H s → RelV o ov → RelV i iv → RelV v u → t o i v H Q →
    wpAny (model X.prog X.w) X.A (setItem ov iv u) (fun _ s' => ∃ H',Inv X pins σ H' s' ∧ Q H') X.xe s
section
variable {X : Cx} {pos : Pos}
noncomputable def gName (i : Nat) : TG := fun v σ H Q => Q (σ.set i (some v)) H
theorem pg_name {i : Nat} {x : Str} (hN : X.N.Nodup) (hi : X.N[i]? = some x) (hx : Loc X.env.scope x) (hf : X.fn x = true ∨ X.env.scope.names.lookup x = some .local := by first | exact .inl rfl | exact .inr rfl | assumption) : PG X (.Name x pos) (gName i) := by
  intro pins s σ H v u Q I r h
  exact wpAny_assign_Name (store_ok I hN hi hx r (fun s' I' => ⟨_,H,I',h⟩) hf)
noncomputable def gNil : TGs := fun vs σ H Q => vs = [] ∧ Q σ H
inductive SCons (t : TG) (u : TGs) (vs : List V) (σ : St) (H : Hp) (Q : St → Hp → Prop) : Prop | mk (v : V) (r : List V) (h : vs = v :: r) (q : t v σ H fun σ' H' => u r σ' H' Q)
noncomputable def gCons (t : TG) (u : TGs) : TGs := fun vs σ H Q => SCons t u vs σ H Q
theorem pgs_nil : PGs X [] gNil := by
  intro pins s σ H vs us Q I r h
  obtain ⟨e,h⟩ := h
  subst e
  cases r
  exact assignInOrder_nil ⟨σ,H,I,h⟩
theorem pgs_cons {e : Expr} {es : List Expr} {t : TG} {u : TGs} (h1 : PG X e t) (h2 : PGs X es u)
    (hs : (assignEach (e :: es) X.env).map (·.2) = assign e X.env :: (assignEach es X.env).map (·.2) := by rfl) : PGs X (e :: es) (gCons t u) := by
  intro pins s σ H vs us Q I r h
  obtain ⟨v,vr,e1,h⟩ := h
  subst e1
  cases r with
  | cons r rr =>
    rw [hs]
    refine assignInOrder_cons (thn (h1 pins s σ H _ _ _ I r h) fun _ s1 ⟨σ1,H1,I1,q1⟩ => ?_)
    exact h2 pins s1 σ1 H1 _ _ Q I1 rr q1
noncomputable def gTup (K : PySem.W.Frag) (n : Nat) (t : TGs) : TG := fun v σ H Q => ∃ a xs,v = .ref a ∧ SqT K H a xs ∧ xs.length = n ∧ t xs σ H Q
theorem pg_tup {es : List Expr} {k : Nat} {t : TGs} {n : Nat} (hc : X.calm = true) (h : PGs X es t)
    (hn : (assignEach es X.env).length = n := by rfl) (hst : (assignEach es X.env).findIdx? (·.1) = none := by rfl) : PG X (.Tuple es k pos) (gTup X.K n t) := by
  intro pins s σ H v u Q I r hw
  obtain ⟨a,xs,e1,hq,hl,hw⟩ := hw
  subst e1
  cases r
  obtain ⟨its,rv,ht,hz⟩ := I.tuple hq
  refine assign_Tuple_tuple (I.ok.hd hc) ht (by simp [hn,← hl,rv.length]) hst fun h' hx => ?_
  have I1 : Inv X pins σ H { s with heap := h' } := I.kept (t' := s.toks) fun b o e => hx b o (Nat.ne_of_lt (Heap.lt_size e)) e
  exact h pins _ σ H xs _ Q I1 (by simpa using rv) hw
noncomputable def gSub (to ti : TE) (t : TSet) : TG := fun v σ H Q => to σ H fun o H1 => ti σ H1 fun i H2 => t o i v H2 fun H3 => Q σ H3
theorem pg_sub {o i : Expr} {to ti : TE} {t : TSet} (ho : PE X o to) (hi : PE X i ti) (hs : PSet X t)
    (ha : ∀ v,assign (.Subscript o i pos) X.env v = (do
      let ov ← holding [v] (eval o X.env)
      let iv ← holding [v,ov] (eval i X.env)
      standAt pos
      holding [v,ov,iv] (setItem ov iv v)
      release [v,ov,iv] []) := by intro _; rfl) : PG X (.Subscript o i pos) (gSub to ti t) := by
  intro pins s σ H v u Q I r h
  rw [ha]
  refine wpAny_bind (wpAny_holding (thn (ho pins s σ H _ I h) fun ov s1 ⟨x,H1,I1,r1,q1⟩ => ?_))
  refine wpAny_bind (wpAny_holding (thn (hi pins s1 σ H1 _ I1 q1) fun iv s2 ⟨y,H2,I2,r2,q2⟩ => ?_))
  refine wpAny_bind (wpAny_standAt (wpAny_bind (wpAny_holding (thn (hs pins s2 σ H2 x y v ov iv u _ I2 r1 r2 r q2) fun _ s3 ⟨H3,I3,q3⟩ => ?_))))
  exact wpAny_release ⟨σ,H3,I3,q3⟩
noncomputable def tAsg (te : TE) (g : TG) : TS := fun D σ H => te σ H fun x H1 => g x σ H1 D.nx
theorem ps_asg {tg e : Expr} {te : TE} {g : TG} (he : PE X e te) (hg : PG X tg g) (hs : swapsWithSole [tg] e pos.line X.env = pure false := by rfl) (hw : swappedStores [tg] e X.env = pure none := by rfl)
    (h1 : (assignEach [tg] X.env).map (·.2) = [assign tg X.env] := by rfl) : PS X (.Assign [tg] e pos) (tAsg te g) := by
  intro pins s σ H D I h
  refine wpAny_Assign_stores (thn (he pins s σ H _ I h) fun v s1 ⟨x,H1,I1,r1,q1⟩ => ?_) hs hw
  rw [h1]
  exact thn (hg pins s1 σ H1 x v _ I1 r1 q1) fun _ s2 q => q
theorem ps_set {i : Nat} {x : Str} {e : Expr} {te : TE} {pos' : Pos} (hN : X.N.Nodup) (hi : X.N[i]? = some x) (hx : Loc X.env.scope x) (he : PE X e te) (hs : swapsWith e (some (.Name x pos')) pos.line X.env = pure false := by rfl) (hf : X.fn x = true ∨ X.env.scope.names.lookup x = some .local := by first | exact .inl rfl | exact .inr rfl | assumption) :
    PS X (.Assign [.Name x pos'] e pos) (tAsg te (gName i)) := by
  intro pins s σ H D I h
  refine wpAny_Assign_Name (thn (he pins s σ H _ I h) fun v s1 ⟨y,H1,I1,r1,q1⟩ => ?_) hs
  exact store_ok I1 hN hi hx r1 (fun s2 I2 => ⟨_,H1,I2,q1⟩) hf
end
section
variable {X : Cx} {pos : Pos}
noncomputable def tWhile (c : TT) (tb : TS) : TS := fun D σ H => ∃ W : Nat → St → Hp → Prop,(∃ m,W m σ H) ∧ ∀ m σ H,W m σ H →
  c σ H fun b H1 => if b = true then ∃ N : St → Hp → Prop,(∀ σ' H',N σ' H' → ∃ m',m' < m ∧ W m' σ' H') ∧ tb { D with nx := N,ct := N,bk := D.nx } σ H1 else D.nx σ H1
theorem ps_while {c : Expr} {body : List Stmt} {tc : TT} {tb : TS} (hp : PassesOwn (model X.prog X.w) X.A X.env X.xe) (hc : PT X c tc) (hb : PSs X body tb) : PS X (.While c body [] pos) (tWhile tc tb) := by
  intro pins s σ H D I h
  obtain ⟨W,⟨m0,w0⟩,turn⟩ := h
  refine wpAny_While (codeAny_whileLoop (fun n s' => ∃ σ' H',Inv X pins σ' H' s' ∧ W n σ' H') ?_ m0 ⟨σ,H,I,w0⟩)
  rintro n s1 ⟨σ1,H1,I1,w1⟩
  refine wpAny_passesOwn hp (thn (hc pins s1 σ1 H1 _ I1 (turn n σ1 H1 w1)) fun b s2 ⟨H2,I2,q2⟩ => ?_)
  cases b with
  | true =>
    obtain ⟨N,hN,q2⟩ := q2
    rw [if_pos rfl]
    refine wpAny_passesOwn hp (thn (hb pins s2 σ1 H2 _ I2 q2) fun f s3 q3 => ?_)
    cases f with
    | next =>
      obtain ⟨σ3,H3,I3,n3⟩ := q3
      obtain ⟨m',hm,w3⟩ := hN σ3 H3 n3
      exact ⟨m',hm,σ3,H3,I3,w3⟩
    | cont =>
      obtain ⟨σ3,H3,I3,n3⟩ := q3
      obtain ⟨m',hm,w3⟩ := hN σ3 H3 n3
      exact ⟨m',hm,σ3,H3,I3,w3⟩
    | brk => exact q3
    | ret v => exact q3
  | false =>
    rw [if_neg Bool.false_ne_true]
    exact wpAny_execs_nil ⟨σ1,H2,I2,q2⟩
end
structure It where
  go : Nat → Hp → Prop
  yld : Nat → Hp → V → Hp → Prop
  stop : Nat → Hp → Prop
noncomputable def FpOk (X : Cx) (pins : List (Addr × Obj)) (H : Hp) (b : Addr) : Prop :=
  H b = none ∧ b ≠ X.env.locals ∧ b ∉ X.fs ∧ (b ∈ X.ex ∨ X.s₀.heap.objs.size ≤ b) ∧ (∀ x c,X.env.cells.lookup x = some c → c ≠ b) ∧ ∀ p ∈ X.pn ++ pins,p.1 ≠ b
theorem Inv.fpOk {X : Cx} {pins : List (Addr × Obj)} {σ : St} {H H' : Hp} {s : Shared} {b : Addr} (I : Inv X pins σ H s) (hb : s.heap.objs.size ≤ b) (hn : H' b = none) : FpOk X pins H' b := by
  refine ⟨hn,Nat.ne_of_gt (Nat.lt_of_lt_of_le I.lt hb),I.nofs hb,.inr (Nat.le_trans I.sz hb),fun x c e z => ?_,fun p hp z => ?_⟩
  · obtain ⟨v,q⟩ := I.cell x c e
    exact absurd (Nat.lt_of_lt_of_le q.lt (by rw [z]; exact hb)) (Nat.lt_irrefl _)
  · exact absurd (Nat.lt_of_lt_of_le (Heap.lt_size (I.pin p hp).1) (by rw [z]; exact hb)) (Nat.lt_irrefl _)
structure Turn (P : Program) (w : World) (K : PySem.W.Frag) (tg : Expr) (J : It) (fp : List Addr) (it : Addr) (tn : Nat → Heap → Prop) : Prop where
  mem : it ∈ fp
  obj : ∀ i h,tn i h → ∀ b ∈ fp,∃ o,h.get? b = some o ∧ ∀ v,o.data ≠ .cell v
  keep : ∀ i h h',tn i h → (∀ b ∈ fp,∀ o,h.get? b = some o → h'.get? b = some o) → tn i h'
  item : ∀ (X : Cx),X.prog = P → X.w = w → X.K = K → X.calm = true → ∀ (i : Nat) (pins : List (Addr × Obj)) (s : Shared) (σ : St) (H : Hp) (E : Value → Shared → Prop),Inv X pins σ H s → (∀ b ∈ fp,FpOk X pins H b) → tn i s.heap → J.go i H →
    wpAny (model P w) X.A (pyNext (.ref it)) (fun r s1 => ∃ u,r = some u ∧
      wpAny (model P w) X.A (letOwnedTupleGo tg (.ref it) u) (fun _ s2 => ∃ x H',Inv X pins σ H' s2 ∧ RelV x u ∧ J.yld i H x H' ∧ tn (i + 1) s2.heap ∧ ∀ b ∈ fp,H' b = none) E s1) E s
  done : ∀ (X : Cx),X.prog = P → X.w = w → X.K = K → X.calm = true → ∀ (i : Nat) (pins : List (Addr × Obj)) (s : Shared) (σ : St) (H : Hp) (E : Value → Shared → Prop),Inv X pins σ H s → (∀ b ∈ fp,FpOk X pins H b) → tn i s.heap → J.stop i H →
    wpAny (model P w) X.A (pyNext (.ref it)) (fun r s1 => r = none ∧ Inv X pins σ H s1) E s
  self : ∀ (A : Around) (i : Nat) (s : Shared) (Q : Value → Shared → Prop) (E : Value → Shared → Prop),tn i s.heap → Q (.ref it) s → wpAny (model P w) A (pyIter (.ref it)) Q E s
noncomputable abbrev TI := St → Hp → (It → Hp → Prop) → Prop
noncomputable def PIE (X : Cx) (pins : List (Addr × Obj)) (σ : St) (tg : Expr) (R : It → Hp → Prop) (itv : Value) (s2 : Shared) : Prop :=
  ∃ (it : Addr) (fp : List Addr) (tn : Nat → Heap → Prop) (J : It) (H' : Hp),itv = .ref it ∧ Inv X pins σ H' s2 ∧ Turn X.prog X.w X.K tg J fp it tn ∧ tn 0 s2.heap ∧ (∀ b ∈ fp,FpOk X pins H' b) ∧ R J H'
noncomputable def PI (X : Cx) (tg iter : Expr) (wi : TI) : Prop :=
  ∀ (pins : List (Addr × Obj)) (s : Shared) (σ : St) (H : Hp) (R : It → Hp → Prop),Inv X pins σ H s → wi σ H R →
    wpAny (model X.prog X.w) X.A (eval iter X.env) (fun v s1 => wpAny (model X.prog X.w) X.A (pyIter v) (PIE X pins σ tg R) X.xe s1) X.xe s
theorem go_of {M : Model} {A : Around} {E : Value → Shared → Prop} {s : Shared} {tg : Expr} {it : Addr} {u : Value} {o : Obj} {n : String} {vs : Array Value} {Q : Unit → Shared → Prop} (ho : s.heap.get? it = some o) (hc : o.cls = .type n) (hd : o.data = .fields vs)
    (hn : ["enumerate","zip","dict_itemiterator","dict_reverseitemiterator","odict_iterator","itertools.zip_longest","itertools.pairwise"].contains n = false) (hQ : Q () s) : wpAny M A (letOwnedTupleGo tg (.ref it) u) Q E s := by
  unfold letOwnedTupleGo
  cases tg <;> first
    | exact wpAny_pure hQ
    | (cases u <;> first
        | exact wpAny_pure hQ
        | (refine wpAny_bind (wpAny_load ho ?_)
           rw [hc,hd]
           show wpAny M A (if (["enumerate","zip","dict_itemiterator","dict_reverseitemiterator","odict_iterator","itertools.zip_longest","itertools.pairwise"].contains n && vs[0]? == some (rawInt _)) = true then _ else _) Q E s
           rw [if_neg (by intro h; rw [hn,Bool.false_and] at h; cases h)]
           exact wpAny_pure hQ))
noncomputable def Itl (K : PySem.W.Frag) (a : Addr) : It :=
  ⟨fun i H => ∃ xs x,SqL K H a xs ∧ xs[i]? = some x,fun i H x H' => H' = H ∧ ∀ xs,SqL K H a xs → xs[i]? = some x,fun i H => ∃ xs,SqL K H a xs ∧ xs.length ≤ i⟩
noncomputable def Itt (K : PySem.W.Frag) (a : Addr) : It :=
  ⟨fun i H => ∃ xs x,SqT K H a xs ∧ xs[i]? = some x,fun i H x H' => H' = H ∧ ∀ xs,SqT K H a xs → xs[i]? = some x,fun i H => ∃ xs,SqT K H a xs ∧ xs.length ≤ i⟩
noncomputable def Itr (lo : Int) (n : Nat) : It := ⟨fun i _ => i < n,fun i H x H' => H' = H ∧ x = .int (lo + i),fun i _ => n ≤ i⟩
theorem turn_list {P : Program} {w : World} {K : PySem.W.Frag} {tg : Expr} (a it : Addr) : Turn P w K tg (Itl K a) [it] it (fun i h => h.IsListIter it a i) where
  mem := by simp
  obj := fun i h st b hb => by
    have e : b = it := by simpa using hb
    subst e
    obtain ⟨o,e,c,d⟩ := st
    exact ⟨o,e,fun v z => by rw [d] at z; cases z⟩
  keep := fun i h h' st k => st.at fun o e => k it (by simp) o e
  item := by
    intro X hP hw hK hc i pins s σ H E I hf st hg
    subst hP hw hK
    obtain ⟨xs,x,hq,hx⟩ := hg
    obtain ⟨its,rv,p,hz⟩ := I.list hq
    obtain ⟨u,hu,ru⟩ := rv.get hx
    obtain ⟨f0,f1,f2,f3,f4,f5⟩ := hf it (by simp)
    refine wpAny_pyNext_list_item st p.isList (x := u) (by simpa using hu) fun h' st' sb => ?_
    have I1 : Inv X pins σ H { s with heap := h' } := I.turned (t' := s.toks) (fun b o hb e => (sb.2 b hb).trans e) f0 f1 f3 f4 f5
    obtain ⟨o,e,c,d⟩ := id st'
    exact ⟨u,rfl,go_of (s := { s with heap := h' }) e c d (by decide) ⟨x,H,I1,ru,⟨rfl,fun ys hy => by rw [I.list_inj hy hq]; exact hx⟩,st',fun b hb => (hf b hb).1⟩⟩
  done := by
    intro X hP hw hK hc i pins s σ H E I hf st hg
    subst hP hw hK
    obtain ⟨xs,hq,hx⟩ := hg
    obtain ⟨its,rv,p,hz⟩ := I.list hq
    obtain ⟨f0,f1,f2,f3,f4,f5⟩ := hf it (by simp)
    have hl := rv.length
    exact wpAny_pyNext_list_end (I.ok.hd hc) st p.isList (by simp; omega) fun h' eb => ⟨rfl,I.turned (t' := s.toks) (fun b o hb e => eb b o hb e) f0 f1 f3 f4 f5⟩
  self := fun _ _ _ _ _ st h => wpAny_pyIter_listiter st h
theorem turn_tuple {P : Program} {w : World} {K : PySem.W.Frag} {tg : Expr} (a it : Addr) : Turn P w K tg (Itt K a) [it] it (fun i h => h.IsTupleIter it a i) where
  mem := by simp
  obj := fun i h st b hb => by
    have e : b = it := by simpa using hb
    subst e
    obtain ⟨o,e,c,d⟩ := st
    exact ⟨o,e,fun v z => by rw [d] at z; cases z⟩
  keep := fun i h h' st k => st.at fun o e => k it (by simp) o e
  item := by
    intro X hP hw hK hc i pins s σ H E I hf st hg
    subst hP hw hK
    obtain ⟨xs,x,hq,hx⟩ := hg
    obtain ⟨its,rv,p,hz⟩ := I.tuple hq
    obtain ⟨u,hu,ru⟩ := rv.get hx
    obtain ⟨f0,f1,f2,f3,f4,f5⟩ := hf it (by simp)
    refine wpAny_pyNext_tuple_item st (show s.heap.IsTuple a its.toArray from p) (x := u) (by simpa using hu) fun h' st' sb => ?_
    have I1 : Inv X pins σ H { s with heap := h' } := I.turned (t' := s.toks) (fun b o hb e => (sb.2 b hb).trans e) f0 f1 f3 f4 f5
    obtain ⟨o,e,c,d⟩ := id st'
    exact ⟨u,rfl,go_of (s := { s with heap := h' }) e c d (by decide) ⟨x,H,I1,ru,⟨rfl,fun ys hy => by rw [I.tuple_inj hy hq]; exact hx⟩,st',fun b hb => (hf b hb).1⟩⟩
  done := by
    intro X hP hw hK hc i pins s σ H E I hf st hg
    subst hP hw hK
    obtain ⟨xs,hq,hx⟩ := hg
    obtain ⟨its,rv,p,hz⟩ := I.tuple hq
    obtain ⟨f0,f1,f2,f3,f4,f5⟩ := hf it (by simp)
    have hl := rv.length
    exact wpAny_pyNext_tuple_end (I.ok.hd hc) st (show s.heap.IsTuple a its.toArray from p) (by simp; omega) fun h' eb => ⟨rfl,I.turned (t' := s.toks) (fun b o hb e => eb b o hb e) f0 f1 f3 f4 f5⟩
  self := fun _ _ _ _ _ st h => wpAny_pyIter_tupleiter st h
theorem turn_range {P : Program} {w : World} {K : PySem.W.Frag} {tg : Expr} (it : Addr) (lo : Int) (n : Nat) : Turn P w K tg (Itr lo n) [it] it (fun i h => IsRangeIter h it (lo + (i : Nat) * 1) ((n : Int) - (i : Nat)) 1) where
  mem := by simp
  obj := fun i h st b hb => by
    have e : b = it := by simpa using hb
    subst e
    exact ⟨_,st,fun v z => by
      have z' : Data.fields _ = Data.cell v := z
      cases z'⟩
  keep := fun i h h' st k => k it (by simp) _ st
  item := by
    intro X hP hw hK hc i pins s σ H E I hf st hg
    subst hP hw hK
    obtain ⟨f0,f1,f2,f3,f4,f5⟩ := hf it (by simp)
    have W := Walks.range (prog := X.prog) (w := X.w) (I.ok.hd hc) it lo 1 n
    refine W.item i s _ _ hg st fun v h' tk hv st' kk => ?_
    obtain ⟨t,rfl⟩ := hv
    have I1 : Inv X pins σ H { s with heap := h',toks := tk } := I.turned (fun b o hb e => kk b o (by simpa using hb) e) f0 f1 f3 f4 f5
    refine ⟨_,rfl,go_of (s := { s with heap := h',toks := tk }) (n := "range_iterator") st' rfl rfl (by decide) ⟨.int (lo + i),H,I1,⟨t,?_⟩,⟨rfl,rfl⟩,st',fun b hb => (hf b hb).1⟩⟩
    rw [Int.mul_one]
  done := by
    intro X hP hw hK hc i pins s σ H E I hf st hg
    subst hP hw hK
    obtain ⟨f0,f1,f2,f3,f4,f5⟩ := hf it (by simp)
    exact wpAny_pyNext_range_end (I.ok.hd hc) st (by have : n ≤ i := hg; omega) fun h' eb => ⟨rfl,I.turned (t' := s.toks) (fun b o hb e => eb b o hb e) f0 f1 f3 f4 f5⟩
  self := fun _ _ _ _ _ st h => wpAny_pyIter_rangeiter st h
end L2
namespace L2
open PySem PySem.Spec PyProof.Rows
section
variable {X : Cx} {tg : Expr}
noncomputable def iList (K : PySem.W.Frag) (tl : TE) : TI := fun σ H R => tl σ H fun x H1 => ∃ a,x = .ref a ∧ (∃ xs,SqL K H1 a xs) ∧ R (Itl K a) H1
theorem range_it {pins : List (Addr × Obj)} {σ : St} {H : Hp} {s : Shared} {R : It → Hp → Prop} {E : Value → Shared → Prop} {lo hi : Int} {t u v : Tok} {tk : Nat} (I : Inv X pins σ H s) (h1 : -(2 ^ 62) ≤ lo) (h2 : lo < 2 ^ 62) (h3 : -(2 ^ 62) ≤ hi) (h4 : hi < 2 ^ 62)
    (q : R (Itr lo (hi - lo).toNat) H) : wpAny (model X.prog X.w) X.A (pyIter (.ref s.heap.objs.size)) (PIE X pins σ tg R) E { s with heap := s.heap.push { cls := .type "range",data := .fields #[.int lo t,.int hi u,.int 1 v] },toks := tk } := by
  refine wpAny_pyIter_range (IsRange.new ..) (small_one h1 h2 h3 h4) ?_
  have I1 : Inv X pins σ H { s with heap := s.heap.push { cls := .type "range",data := .fields #[.int lo t,.int hi u,.int 1 v] },toks := tk } := I.kept fun b o e => Heap.get?_push_of_some _ e
  refine ⟨(s.heap.push { cls := .type "range",data := .fields #[.int lo t,.int hi u,.int 1 v] }).objs.size,[(s.heap.push { cls := .type "range",data := .fields #[.int lo t,.int hi u,.int 1 v] }).objs.size],_,_,H,rfl,
    I1.kept (t' := tk) fun b o e => Heap.get?_push_of_some _ e,turn_range _ lo (hi - lo).toNat,?_,fun b hb => ?_,q⟩
  · have e1 : lo + ((0 : Nat) : Int) * 1 = lo := by simp
    have e2 : (((hi - lo).toNat : Nat) : Int) - ((0 : Nat) : Int) = Builtin.Range.rangeSize lo hi 1 := by rw [rangeSize_one]; split <;> omega
    show IsRangeIter _ _ (lo + ((0 : Nat) : Int) * 1) ((((hi - lo).toNat : Nat) : Int) - ((0 : Nat) : Int)) 1
    rw [e1,e2]
    exact Heap.get?_push_size _ rfl
  · have e : b = (s.heap.push { cls := .type "range",data := .fields #[.int lo t,.int hi u,.int 1 v] }).objs.size := by simpa using hb
    subst e
    exact I1.fpOk (Nat.le_refl _) (I1.hok.fresh (Nat.le_refl _))
inductive SRng1 (vs : List V) (H : Hp) (R : It → Hp → Prop) : Prop | mk (j : Int) (h : vs = [.int j]) (h1 : -(2 ^ 62) ≤ j) (h2 : j < 2 ^ 62) (q : R (Itr 0 j.toNat) H)
noncomputable def iRng1 (ta : TA) : TI := fun σ H R => ta σ H fun vs H1 => SRng1 vs H1 R
theorem pi_range1 {a : Expr} {ta : TA} {p pos : Pos} (hg : Gl X "range") (hm : X.mg "range" = none) (ha : PA X [a] ta) (hs : starEach [a] X.env = [(false,eval a X.env)] := by rfl) : PI X tg (.Call (.Name "range" p) [a] [] pos) (iRng1 ta) := by
  intro pins s σ H R I h
  refine Call_ (ld_blt I hg hm boot_range (PyProof.Rows.callWith_type1 (thn (ha pos pins s σ H _ I h) fun us s1 ⟨vs,H1,I1,r1,q1⟩ => ?_) hs rfl))
  obtain ⟨j,e,q1,q2,q⟩ := q1
  subst e
  cases r1 with
  | cons r rr =>
    cases rr
    obtain ⟨t,rfl⟩ := r
    exact call_range_1 (range_it I1 (by omega) (by omega) q1 q2 (by simpa using q))
noncomputable def tFor (wi : TI) (g : TG) (tb : TS) : TS := fun D σ H => wi σ H fun J H1 => ∃ W : Nat → Nat → St → Hp → Prop,(∃ m,W 0 m σ H1) ∧ ∀ i m σ H,W i m σ H →
  (J.stop i H ∧ D.nx σ H) ∨ (J.go i H ∧ ∃ N : St → Hp → Prop,(∀ σ' H',N σ' H' → ∃ m',m' < m ∧ W (i + 1) m' σ' H') ∧ ∀ x H',J.yld i H x H' → g x σ H' fun σ2 H2 => tb { D with nx := N,ct := N,bk := D.nx } σ2 H2)
noncomputable def pinsAt (fp : List Addr) (h : Heap) : List (Addr × Obj) := fp.filterMap fun b => (h.get? b).map fun o => (b,o)
theorem mem_pinsAt {fp : List Addr} {h : Heap} {b : Addr} {o : Obj} (hb : b ∈ fp) (e : h.get? b = some o) : (b,o) ∈ pinsAt fp h := List.mem_filterMap.mpr ⟨b,hb,by rw [e]; rfl⟩
theorem of_pinsAt {fp : List Addr} {h : Heap} {p : Addr × Obj} (hp : p ∈ pinsAt fp h) : p.1 ∈ fp ∧ h.get? p.1 = some p.2 := by
  obtain ⟨b,hb,e⟩ := List.mem_filterMap.mp hp
  cases q : h.get? b with
  | none => rw [q] at e; cases e
  | some o =>
    rw [q] at e
    have e' : (b,o) = p := Option.some.inj e
    subst e'
    exact ⟨hb,q⟩
theorem Inv.pinned {pins : List (Addr × Obj)} {σ : St} {H : Hp} {s : Shared} {fp : List Addr} (I : Inv X pins σ H s) (hf : ∀ b ∈ fp,FpOk X pins H b) (ho : ∀ b ∈ fp,∃ o,s.heap.get? b = some o ∧ ∀ v,o.data ≠ .cell v) : Inv X (pins ++ pinsAt fp s.heap) σ H s :=
  I.pins_of fun p hp => (List.mem_append.mp hp).elim (fun z => I.pin p (List.mem_append_right _ z)) fun z => by
    obtain ⟨hb,e⟩ := of_pinsAt z
    obtain ⟨f0,f1,f2,_⟩ := hf p.1 hb
    obtain ⟨o,e',d⟩ := ho p.1 hb
    rw [e] at e'; cases e'
    exact ⟨e,f0,f1,f2,d⟩
theorem Inv.unpinned {pins pl : List (Addr × Obj)} {σ : St} {H : Hp} {s : Shared} (I : Inv X (pins ++ pl) σ H s) : Inv X pins σ H s := I.pins_of fun p hp => I.pin p (List.mem_append_right _ (List.mem_append_left _ hp))
theorem ps_for {iter : Expr} {body : List Stmt} {wi : TI} {g : TG} {tb : TS} {pos : Pos} (hp : PassesOwn (model X.prog X.w) X.A X.env X.xe) (hc : X.calm = true) (hi : PI X tg iter wi) (hg : PG X tg g) (hb : PSs X body tb)
    (hs : ∀ x,foldedSetIterable iter X.env x = pure x := by intro _; rfl) : PS X (.For tg iter body [] pos) (tFor wi g tb) := by
  intro pins s σ H D I h
  refine wpAny_For (thn (hi pins s σ H _ I h) fun v s1 h1 => thn h1 fun itv s2 h2 => ?_) hs
  obtain ⟨it,fp,tn,J,H2,e,I2,T,st2,f2,W,⟨m0,w0⟩,turn⟩ := h2
  subst e
  have stat : ∀ {H' : Hp},(∀ b ∈ fp,H' b = none) → ∀ b ∈ fp,FpOk X pins H' b := fun hn b hb => ⟨hn b hb,(f2 b hb).2⟩
  refine codeAny_forLoop_any (fun n s' => ∃ i σ' H',Inv X pins σ' H' s' ∧ tn i s'.heap ∧ (∀ b ∈ fp,H' b = none) ∧ W i n σ' H') ?_ m0 ⟨0,σ,H2,I2,st2,fun b hb => (f2 b hb).1,w0⟩
  rintro n s3 ⟨i,σ3,H3,I3,st3,fr3,w3⟩
  rcases turn i n σ3 H3 w3 with ⟨stop,qn⟩ | ⟨go,N,hN,step⟩
  · refine wpAny_passesOwn hp (thn (T.done X rfl rfl rfl hc i pins s3 σ3 H3 X.xe I3 (stat fr3) st3 stop) fun r s4 ⟨hr,I4⟩ => ?_)
    subst hr
    exact wpAny_execs_nil ⟨σ3,H3,I4,qn⟩
  · refine wpAny_passesOwn hp (thn (T.item X rfl rfl rfl hc i pins s3 σ3 H3 X.xe I3 (stat fr3) st3 go) fun r s4 ⟨u,hr,h4⟩ => ?_)
    subst hr
    refine wpAny_passesOwn hp (thn h4 fun _ s5 ⟨x,H5,I5,r5,y5,st5,fr5⟩ => ?_)
    have I5' := I5.pinned (stat fr5) (T.obj _ _ st5)
    refine wpAny_passesOwn hp (thn (hg _ s5 σ3 H5 x u _ I5' r5 (step x H5 y5)) fun _ s6 ⟨σ6,H6,I6,q6⟩ => ?_)
    refine wpAny_passesOwn hp (thn (hb _ s6 σ6 H6 _ I6 q6) fun f s7 q7 => ?_)
    have again : ∀ {σ7 : St} {H7 : Hp},Inv X (pins ++ pinsAt fp s5.heap) σ7 H7 s7 → N σ7 H7 → ∃ m,m < n ∧ ∃ i σ' H',Inv X pins σ' H' s7 ∧ tn i s7.heap ∧ (∀ b ∈ fp,H' b = none) ∧ W i m σ' H' := fun {σ7 H7} I7 n7 => by
      obtain ⟨m',hm,w7⟩ := hN σ7 H7 n7
      refine ⟨m',hm,i + 1,σ7,H7,I7.unpinned,T.keep _ _ _ st5 fun b hb o e => (I7.pin (b,o) (List.mem_append_right _ (List.mem_append_right _ (mem_pinsAt hb e)))).1,fun b hb => ?_,w7⟩
      obtain ⟨o,e,d⟩ := T.obj _ _ st5 b hb
      exact (I7.pin (b,o) (List.mem_append_right _ (List.mem_append_right _ (mem_pinsAt hb e)))).2.1
    cases f with
    | next => obtain ⟨σ7,H7,I7,n7⟩ := q7; exact again I7 n7
    | cont => obtain ⟨σ7,H7,I7,n7⟩ := q7; exact again I7 n7
    | brk => obtain ⟨σ7,H7,I7,q7⟩ := q7; exact ⟨σ7,H7,I7.unpinned,q7⟩
    | ret v => obtain ⟨x7,σ7,H7,I7,r7,q7⟩ := q7; exact ⟨x7,σ7,H7,I7.unpinned,r7,q7⟩
end
theorem for_range {lo : Int} {n : Nat} {g : TG} {tb : TS} {D : Ends} {σ : St} {H : Hp} (Pv : Nat → St → Hp → Prop) (h0 : Pv 0 σ H)
    (hs : ∀ i σ H,i < n → Pv i σ H → g (.int (lo + i)) σ H fun σ2 H2 => tb { D with nx := Pv (i + 1),ct := Pv (i + 1),bk := D.nx } σ2 H2) (hd : ∀ σ H,Pv n σ H → D.nx σ H) :
    ∃ W : Nat → Nat → St → Hp → Prop,(∃ m,W 0 m σ H) ∧ ∀ i m σ H,W i m σ H →
      ((Itr lo n).stop i H ∧ D.nx σ H) ∨ ((Itr lo n).go i H ∧ ∃ N : St → Hp → Prop,(∀ σ' H',N σ' H' → ∃ m',m' < m ∧ W (i + 1) m' σ' H') ∧ ∀ x H',(Itr lo n).yld i H x H' → g x σ H' fun σ2 H2 => tb { D with nx := N,ct := N,bk := D.nx } σ2 H2) := by
  refine ⟨fun i m σ H => m = n - i ∧ i ≤ n ∧ Pv i σ H,⟨n,by simp,Nat.zero_le _,h0⟩,?_⟩
  rintro i m σ H ⟨rfl,hi,p⟩
  by_cases hlt : i < n
  · refine .inr ⟨hlt,Pv (i + 1),fun σ' H' p' => ⟨n - (i + 1),by omega,rfl,hlt,p'⟩,fun x H' y => ?_⟩
    obtain ⟨e,y⟩ := y
    subst e y
    exact hs i σ _ hlt p
  · have e : i = n := by omega
    subst e
    exact .inl ⟨Nat.le_refl _,hd σ H p⟩
end L2
namespace L2
open PySem PySem.Spec PyProof.Rows
noncomputable abbrev R2 := V → V → Hp → VK → Prop
noncomputable def OpR (X : Cx) (f : Value → Value → Sem Value) (r : R2) : Prop :=
  ∀ (pins : List (Addr × Obj)) (s : Shared) (σ : St) (H : Hp) (x y : V) (v u : Value) (Q : VK),Inv X pins σ H s → RelV x v → RelV y u → r x y H Q →
    wpAny (model X.prog X.w) X.A (f v u) (EP X pins σ Q) X.xe s
noncomputable def UnR (X : Cx) (f : Value → Sem Value) (r : V → Hp → VK → Prop) : Prop :=
  ∀ (pins : List (Addr × Obj)) (s : Shared) (σ : St) (H : Hp) (x : V) (v : Value) (Q : VK),Inv X pins σ H s → RelV x v → r x H Q →
    wpAny (model X.prog X.w) X.A (f v) (EP X pins σ Q) X.xe s
noncomputable def CallR (X : Cx) (f : Value) (r : List V → Hp → VK → Prop) : Prop :=
  ∀ (pins : List (Addr × Obj)) (s : Shared) (σ : St) (H : Hp) (xs : List V) (us : List Value) (Q : VK),Inv X pins σ H s → Vals xs us → r xs H Q →
    wpAny (model X.prog X.w) X.A (call f us) (EP X pins σ Q) X.xe s
noncomputable def tOp (r : R2) (ta tb : TE) : TE := fun σ H Q => ta σ H fun x H1 => tb σ H1 fun y H2 => r x y H2 Q
noncomputable def tUn (r : V → Hp → VK → Prop) (ta : TE) : TE := fun σ H Q => ta σ H fun x H1 => r x H1 Q
inductive SII (C : Int → Int → Prop) (g : Int → Int → V) (x y : V) (H : Hp) (Q : VK) : Prop | mk (i j : Int) (hx : x = .int i) (hy : y = .int j) (c : C i j) (q : Q (g i j) H)
noncomputable def rI (C : Int → Int → Prop) (g : Int → Int → V) : R2 := fun x y H Q => SII C g x y H Q
inductive SI0 (g : Int → Int → V) (x y : V) (H : Hp) (Q : VK) : Prop | mk (i j : Int) (hx : x = .int i) (hy : y = .int j) (q : Q (g i j) H)
noncomputable def rI0 (g : Int → Int → V) : R2 := fun x y H Q => SI0 g x y H Q
inductive SU (g : Int → V) (x : V) (H : Hp) (Q : VK) : Prop | mk (i : Int) (hx : x = .int i) (q : Q (g i) H)
noncomputable def rU (g : Int → V) : V → Hp → VK → Prop := fun x H Q => SU g x H Q
section
variable {X : Cx} {a b c : Expr} {ta tb tc : TE} {pos : Pos}
theorem binT (ha : PE X a ta) (hb : PE X b tb) {pins : List (Addr × Obj)} {s : Shared} {σ : St} {H : Hp} {R : V → V → Hp → Prop} (I : Inv X pins σ H s)
    (h : ta σ H fun x H1 => tb σ H1 fun y H2 => R x y H2) {Q : Value → Shared → Prop} {f : Value → Value → Sem Value}
    (hf : ∀ v u s2 x y H2,Inv X pins σ H2 s2 → RelV x v → RelV y u → R x y H2 → wpAny (model X.prog X.w) X.A (f v u) Q X.xe s2) :
    wpAny (model X.prog X.w) X.A (eval a X.env) (fun v s₁ => wpAny (model X.prog X.w) X.A (eval b X.env) (fun u s₂ => wpAny (model X.prog X.w) X.A (f v u) Q X.xe s₂) X.xe s₁) X.xe s := by
  refine thn (ha pins s σ H _ I h) fun v s1 ⟨x,H1,I1,r1,q1⟩ => ?_
  refine thn (hb pins s1 σ H1 _ I1 q1) fun u s2 ⟨y,H2,I2,r2,q2⟩ => ?_
  exact hf v u s2 x y H2 I2 r1 r2 q2
theorem pe_op {op : Operator} {r : R2} (ho : OpR X (binaryOp op) r) (ha : PE X a ta) (hb : PE X b tb) : PE X (.BinOp a op b pos) (tOp r ta tb) := by
  intro pins s σ H Q I h
  exact wpAny_BinOp (binT ha hb I h fun v u s2 x y H2 I2 rx ry q => ho pins s2 σ H2 x y v u Q I2 rx ry q)
theorem pe_un {op : UnaryOp} {r : V → Hp → VK → Prop} (ho : UnR X (unaryOp op) r) (ha : PE X a ta) : PE X (.UnaryOp op a pos) (tUn r ta) := by
  intro pins s σ H Q I h
  exact UnaryOp_ (thn (ha pins s σ H _ I h) fun v s1 ⟨x,H1,I1,r1,q1⟩ => ho pins s1 σ H1 x v Q I1 r1 q1)
theorem opI {f : Value → Value → Sem Value} {C : Int → Int → Prop} {g : Int → Int → Int}
    (rule : ∀ (i j : Int) (t u : Tok) (s : Shared) (Q : Value → Shared → Prop) (E : Value → Shared → Prop),C i j → Q (.int (g i j) s.toks) { s with toks := s.toks + 1 } → wpAny (model X.prog X.w) X.A (f (.int i t) (.int j u)) Q E s) :
    OpR X f (rI C fun i j => .int (g i j)) := by
  intro pins s σ H x y v u Q I rx ry h
  obtain ⟨i,j,rfl,rfl,hc,q⟩ := h
  obtain ⟨t,rfl⟩ := rx
  obtain ⟨t',rfl⟩ := ry
  exact rule i j t t' s _ _ hc ⟨.int (g i j),H,I.tok _,⟨_,rfl⟩,q⟩
theorem opI0 {f : Value → Value → Sem Value} {g : Int → Int → Int}
    (rule : ∀ (i j : Int) (t u : Tok) (s : Shared) (Q : Value → Shared → Prop) (E : Value → Shared → Prop),Q (.int (g i j) s.toks) { s with toks := s.toks + 1 } → wpAny (model X.prog X.w) X.A (f (.int i t) (.int j u)) Q E s) :
    OpR X f (rI0 fun i j => .int (g i j)) := by
  intro pins s σ H x y v u Q I rx ry h
  obtain ⟨i,j,rfl,rfl,q⟩ := h
  obtain ⟨t,rfl⟩ := rx
  obtain ⟨t',rfl⟩ := ry
  exact rule i j t t' s _ _ ⟨.int (g i j),H,I.tok _,⟨_,rfl⟩,q⟩
theorem opB0 {f : Value → Value → Sem Value} {g : Int → Int → Bool}
    (rule : ∀ (i j : Int) (t u : Tok) (s : Shared) (Q : Value → Shared → Prop) (E : Value → Shared → Prop),Q (.bool (g i j)) s → wpAny (model X.prog X.w) X.A (f (.int i t) (.int j u)) Q E s) :
    OpR X f (rI0 fun i j => .bl (g i j)) := by
  intro pins s σ H x y v u Q I rx ry h
  obtain ⟨i,j,rfl,rfl,q⟩ := h
  obtain ⟨t,rfl⟩ := rx
  obtain ⟨t',rfl⟩ := ry
  exact rule i j t t' s _ _ ⟨.bl (g i j),H,I,rfl,q⟩
noncomputable def CDiv (i j : Int) : Prop := 0 < j ∧ j < 1073741824
noncomputable def CPow (i j : Int) : Prop := 0 ≤ j ∧ j ≤ 1000000 ∧ i.natAbs < 2 ^ 64
theorem two_pow_nn (k : Nat) : (0 : Int) ≤ 2 ^ k := by
  rw [two_pow_cast]
  exact Int.natCast_nonneg _
theorem op_add : OpR X (binaryOp .Add) (rI0 fun i j => .int (i + j)) := opI0 fun _ _ _ _ _ _ _ q => add_int q
theorem op_sub : OpR X (binaryOp .Sub) (rI0 fun i j => .int (i - j)) := opI0 fun _ _ _ _ _ _ _ q => sub_int q
theorem op_fdiv : OpR X (binaryOp .FloorDiv) (rI CDiv fun i j => .int (i / j)) := opI fun i j _ _ _ _ _ hc q => by
  have h1 : (0 : Int) < j := hc.1
  have h2 : j < 1073741824 := hc.2
  exact floordiv_int (by omega) (by rw [Int.fdiv_eq_ediv_of_nonneg i (by omega)]; exact q) (.inl (PyProof.noPylong_small (by omega)))
theorem op_mod : OpR X (binaryOp .Mod) (rI (fun _ j => 0 < j) fun i j => .int (i % j)) := opI fun i j _ _ _ _ _ hc q => by
  have h1 : (0 : Int) < j := hc
  exact mod_int' (by omega) (by rw [Int.fmod_eq_emod_of_nonneg i (by omega)]; exact q)
theorem op_pow : OpR X (binaryOp .Pow) (rI CPow fun i j => .int (i ^ j.toNat)) := opI fun _ _ _ _ _ _ _ hc q => pow_int_small hc.1 hc.2.1 hc.2.2 q
theorem op_shr : OpR X (binaryOp .RShift) (rI (fun _ j => 0 ≤ j) fun i j => .int (i / 2 ^ j.toNat)) := opI fun i j _ _ _ _ _ hc q =>
  rshift_int hc (by rw [Int.fdiv_eq_ediv_of_nonneg i (two_pow_nn _)]; exact q)
theorem unI {f : Value → Sem Value} {g : Int → Int}
    (rule : ∀ (i : Int) (t : Tok) (s : Shared) (Q : Value → Shared → Prop) (E : Value → Shared → Prop),Q (.int (g i) s.toks) { s with toks := s.toks + 1 } → wpAny (model X.prog X.w) X.A (f (.int i t)) Q E s) :
    UnR X f (rU fun i => .int (g i)) := by
  intro pins s σ H x v Q I rx h
  obtain ⟨i,rfl,q⟩ := h
  obtain ⟨t,rfl⟩ := rx
  exact rule i t s _ _ ⟨.int (g i),H,I.tok _,⟨_,rfl⟩,q⟩
theorem un_neg : UnR X (unaryOp .USub) (rU fun i => .int (-i)) := unI fun _ _ _ _ _ q => neg_int q
end
noncomputable def scal : V → V → Bool
  | .non,.non => true | .non,.int _ => true | .int _,.non => true | .non,.bl _ => true | .bl _,.non => true | .non,.str _ => true | .str _,.non => true
  | .int _,.int _ => true | .bl _,.bl _ => true | .str _,.str _ => true | .byt _,.byt _ => true
  | .int _,.str _ => true | .str _,.int _ => true | .bl _,.str _ => true | .str _,.bl _ => true
  | _,_ => false
noncomputable def rEq : R2 := fun x y H Q => scal x y = true ∧ Q (.bl (decide (x = y))) H
noncomputable def rNe : R2 := fun x y H Q => scal x y = true ∧ Q (.bl (!decide (x = y))) H
theorem dec_int {i j : Int} : decide (V.int i = V.int j) = (i == j) := by
  rw [Bool.eq_iff_iff]
  simp
theorem dec_bl {i j : Bool} : decide (V.bl i = V.bl j) = (i == j) := by
  rw [Bool.eq_iff_iff]
  simp
theorem dec_str {i j : Str} : decide (V.str i = V.str j) = (i == j) := by
  rw [Bool.eq_iff_iff]
  simp
theorem dec_byt {i j : Array UInt8} : decide (V.byt i = V.byt j) = (i.toList == j.toList) := by
  rw [Bool.eq_iff_iff]
  cases i
  cases j
  simp
section
variable {X : Cx} {a b c : Expr} {ta tb tc : TE} {pos : Pos}
theorem fin_bl {pins : List (Addr × Obj)} {σ : St} {H : Hp} {s : Shared} {Q : VK} {k k' : Bool} (I : Inv X pins σ H s) (q : Q (.bl k) H) (e : k = k') : EP X pins σ Q (.bool k') s := by
  subst e
  exact ⟨.bl k,H,I,rfl,q⟩
theorem op_eq : OpR X (compareOp .Eq) rEq := by
  intro pins s σ H x y v u Q I rx ry h
  obtain ⟨hs,q⟩ := h
  cases x with
  | non =>
    cases rx
    cases y with
    | non => cases ry; exact PySem.EqNone.eq_none_none (fin_bl I q (by simp))
    | bl j => cases ry; exact PySem.EqNone.eq_none_bool (fin_bl I q (by simp))
    | int j => obtain ⟨t',rfl⟩ := ry; exact PySem.EqNone.eq_none_int (fin_bl I q (by simp))
    | str j => obtain ⟨t',rfl⟩ := ry; exact PySem.EqNone.eq_none_str (fin_bl I q (by simp))
    | _ => exact absurd (show false = true from hs) Bool.false_ne_true
  | bl i =>
    cases rx
    cases y with
    | non => cases ry; exact PySem.EqNone.eq_bool_none (fin_bl I q (by simp))
    | bl j => cases ry; exact eq_bool (fin_bl I q dec_bl)
    | str j => obtain ⟨t',rfl⟩ := ry; exact PySem.EqMixed.eq_bool_str (fin_bl I q (by simp))
    | _ => exact absurd (show false = true from hs) Bool.false_ne_true
  | int i =>
    obtain ⟨t,rfl⟩ := rx
    cases y with
    | non => cases ry; exact PySem.EqNone.eq_int_none (fin_bl I q (by simp))
    | int j => obtain ⟨t',rfl⟩ := ry; exact eq_int (fin_bl I q dec_int)
    | str j => obtain ⟨t',rfl⟩ := ry; exact PySem.EqMixed.eq_int_str (fin_bl I q (by simp))
    | _ => exact absurd (show false = true from hs) Bool.false_ne_true
  | str i =>
    obtain ⟨t,rfl⟩ := rx
    cases y with
    | non => cases ry; exact PySem.EqNone.eq_str_none (fin_bl I q (by simp))
    | bl j => cases ry; exact PySem.EqMixed.eq_str_bool (fin_bl I q (by simp))
    | int j => obtain ⟨t',rfl⟩ := ry; exact PySem.EqMixed.eq_str_int (fin_bl I q (by simp))
    | str j => obtain ⟨t',rfl⟩ := ry; exact eq_str (fin_bl I q dec_str)
    | _ => exact absurd (show false = true from hs) Bool.false_ne_true
  | byt i =>
    obtain ⟨t,rfl⟩ := rx
    cases y with
    | byt j => obtain ⟨t',rfl⟩ := ry; exact PySem.W.eq_bytes (fin_bl I q dec_byt)
    | _ => exact absurd (show false = true from hs) Bool.false_ne_true
  | _ => cases y <;> exact absurd (show false = true from hs) Bool.false_ne_true
theorem op_ne : OpR X (compareOp .NotEq) rNe := by
  intro pins s σ H x y v u Q I rx ry h
  obtain ⟨hs,q⟩ := h
  cases x with
  | non =>
    cases rx
    cases y with
    | non => cases ry; exact PySem.EqNone.ne_none_none (fin_bl I q (by simp))
    | bl j => cases ry; exact PySem.EqNone.ne_none_bool (fin_bl I q (by simp))
    | int j => obtain ⟨t',rfl⟩ := ry; exact PySem.EqNone.ne_none_int (fin_bl I q (by simp))
    | str j => obtain ⟨t',rfl⟩ := ry; exact PySem.EqNone.ne_none_str (fin_bl I q (by simp))
    | _ => exact absurd (show false = true from hs) Bool.false_ne_true
  | bl i =>
    cases rx
    cases y with
    | non => cases ry; exact PySem.EqNone.ne_bool_none (fin_bl I q (by simp))
    | bl j => cases ry; exact ne_bool (fin_bl I q (congrArg not dec_bl))
    | str j => obtain ⟨t',rfl⟩ := ry; exact PySem.EqMixed.ne_bool_str (fin_bl I q (by simp))
    | _ => exact absurd (show false = true from hs) Bool.false_ne_true
  | int i =>
    obtain ⟨t,rfl⟩ := rx
    cases y with
    | non => cases ry; exact PySem.EqNone.ne_int_none (fin_bl I q (by simp))
    | int j => obtain ⟨t',rfl⟩ := ry; exact ne_int (fin_bl I q (congrArg not dec_int))
    | str j => obtain ⟨t',rfl⟩ := ry; exact PySem.EqMixed.ne_int_str (fin_bl I q (by simp))
    | _ => exact absurd (show false = true from hs) Bool.false_ne_true
  | str i =>
    obtain ⟨t,rfl⟩ := rx
    cases y with
    | non => cases ry; exact PySem.EqNone.ne_str_none (fin_bl I q (by simp))
    | bl j => cases ry; exact PySem.EqMixed.ne_str_bool (fin_bl I q (by simp))
    | int j => obtain ⟨t',rfl⟩ := ry; exact PySem.EqMixed.ne_str_int (fin_bl I q (by simp))
    | str j => obtain ⟨t',rfl⟩ := ry; exact ne_str (fin_bl I q (congrArg not dec_str))
    | _ => exact absurd (show false = true from hs) Bool.false_ne_true
  | byt i =>
    obtain ⟨t,rfl⟩ := rx
    cases y with
    | byt j => obtain ⟨t',rfl⟩ := ry; exact PySem.W.ne_bytes (fin_bl I q (congrArg not dec_byt))
    | _ => exact absurd (show false = true from hs) Bool.false_ne_true
  | _ => cases y <;> exact absurd (show false = true from hs) Bool.false_ne_true
theorem op_lt : OpR X (compareOp .Lt) (rI0 fun i j => .bl (decide (i < j))) := opB0 fun _ _ _ _ _ _ _ q => lt_int q
theorem op_gt : OpR X (compareOp .Gt) (rI0 fun i j => .bl (decide (j < i))) := opB0 fun _ _ _ _ _ _ _ q => gt_int q
theorem OpR.or {f : Value → Value → Sem Value} {r r' : R2} (h : OpR X f r) (h' : OpR X f r') : OpR X f (fun x y H Q => r x y H Q ∨ r' x y H Q) := by
  intro pins s σ H x y v u Q I rx ry q
  rcases q with q | q
  · exact h pins s σ H x y v u Q I rx ry q
  · exact h' pins s σ H x y v u Q I rx ry q
theorem nomark (b : Expr) {op : CmpOp} (h : op ≠ .In := by decide) (h2 : op ≠ .NotIn := by decide) : behindInMarks op b = false := by
  have e1 : (op == CmpOp.In) = false := by cases op <;> first | rfl | exact absurd rfl h
  have e2 : (op == CmpOp.NotIn) = false := by cases op <;> first | rfl | exact absurd rfl h2
  cases b <;> simp [behindInMarks,e1,e2]
theorem pe_cmpR {op : CmpOp} {r : R2} (ho : OpR X (compareOp op) r) (ha : PE X a ta) (hb : PE X b tb) (hm : behindInMarks op b = false) : PE X (.Compare a [op] [b] pos) (tOp r ta tb) := by
  intro pins s σ H Q I h
  exact wpAny_Compare1 (binT ha hb I h fun v u s2 x y H2 I2 rx ry q => ho pins s2 σ H2 x y v u Q I2 rx ry q) hm
inductive STst (x : V) (H : Hp) (Q : Bool → Hp → Prop) : Prop | mk (k : Bool) (hx : x = .bl k) (q : Q k H)
noncomputable def tTest (t : TE) : TT := fun σ H Q => t σ H fun x H' => STst x H' Q
theorem pt_cmpR {op : CmpOp} {r : R2} (ho : OpR X (compareOp op) r) (ha : PE X a ta) (hb : PE X b tb) (hm : behindInMarks op b = false) : PT X (.Compare a [op] [b] pos) (tTest (tOp r ta tb)) := by
  intro pins s σ H Q I h
  refine wpAny_isTrue_Compare1 (thn (ha pins s σ H _ I h) fun v s1 ⟨x,H1,I1,r1,q1⟩ => thn (hb pins s1 σ H1 _ I1 q1) fun u s2 ⟨y,H2,I2,r2,q2⟩ =>
    thn (ho pins s2 σ H2 x y v u _ I2 r1 r2 q2) fun c s3 ⟨z,H3,I3,r3,k,e,q3⟩ => ?_) hm
  subst e
  cases r3
  exact wpAny_truthy_bool ⟨H3,I3,q3⟩
theorem isEmpty_kv {κ : Type} {kvs : List (κ × V)} {vs : List (κ × Value)} (r : KV kvs vs) : (!vs.isEmpty) = !kvs.isEmpty := by
  cases r <;> rfl
theorem isEmpty_of {xs : List V} {its : List Value} (r : Vals xs its) : (!its.toArray.isEmpty) = !xs.isEmpty := by
  cases r <;> simp
theorem line63 : (sizeLine : Nat) < 2 ^ 63 := by rw [sizeLine_eq]; decide
theorem op_add_str : OpR X (binaryOp .Add) (fun x y H Q => ∃ i j,x = .str i ∧ y = .str j ∧ i.length + j.length ≤ sizeLine ∧ Q (.str (i ++ j)) H) := by
  intro pins s σ H x y v u Q I rx ry h
  obtain ⟨i,j,rfl,rfl,hz,q⟩ := h
  obtain ⟨t,rfl⟩ := rx
  obtain ⟨t',rfl⟩ := ry
  exact add_str (fun t' tk => ⟨.str (i ++ j),H,I.tok _,⟨_,rfl⟩,q⟩) hz
theorem vals1 {x : V} {us : List Value} (r : Vals [x] us) : ∃ u,us = [u] ∧ RelV x u := by
  cases r with
  | cons r1 r2 => cases r2; exact ⟨_,rfl,r1⟩
theorem vals2 {x y : V} {us : List Value} (r : Vals [x,y] us) : ∃ u w',us = [u,w'] ∧ RelV x u ∧ RelV y w' := by
  cases r with
  | cons r1 r2 =>
    cases r2 with
    | cons r3 r4 => cases r4; exact ⟨_,_,rfl,r1,r3⟩
theorem call_max2 (hc : X.calm = true) : CallR X (.builtin "max") (fun xs H Q => ∃ i j,xs = [.int i,.int j] ∧ Q (.int (if j > i then j else i)) H) := by
  intro pins s σ H xs us Q I r h
  obtain ⟨i,j,rfl,q⟩ := h
  obtain ⟨u,w',rfl,⟨t,rfl⟩,⟨t',rfl⟩⟩ := vals2 r
  refine max_two_ints (I.ok.hd hc) fun h' tk k => ⟨_,H,I.kept k,?_,q⟩
  by_cases hj : j > i
  · rw [if_pos hj,if_pos hj]; exact ⟨_,rfl⟩
  · rw [if_neg hj,if_neg hj]; exact ⟨_,rfl⟩
theorem call_int1 : CallR X (.type "int") (fun xs H Q => (∃ i,xs = [.int i] ∧ Q (.int i) H) ∨ ∃ k,xs = [.bl k] ∧ Q (.int (if k then 1 else 0)) H) := by
  intro pins s σ H xs us Q I r h
  rcases h with ⟨i,rfl,q⟩ | ⟨k,rfl,q⟩
  · obtain ⟨u,rfl,t,rfl⟩ := vals1 r
    exact call_int_int ⟨.int i,H,I,⟨_,rfl⟩,q⟩
  · obtain ⟨u,rfl,r1⟩ := vals1 r
    cases r1
    exact call_int_bool ⟨.int (if k then 1 else 0),H,I.tok _,⟨_,rfl⟩,q⟩
noncomputable def LenV (K : PySem.W.Frag) (x : V) (H : Hp) (n : Nat) : Prop :=
  match x with
  | .str y => y.length ≤ sizeLine ∧ n = y.length
  | .byt y => y.size ≤ sizeLine ∧ n = y.size
  | .ref p => (∃ xs,SqL K H p xs ∧ n = xs.length) ∨ ∃ xs,SqT K H p xs ∧ n = xs.length
  | _ => False
theorem call_len : CallR X (.builtin "len") (fun xs H Q => ∃ x n,xs = [x] ∧ LenV X.K x H n ∧ Q (.int n) H) := by
  intro pins s σ H xs us Q I r h
  obtain ⟨x,n,rfl,e,q⟩ := h
  obtain ⟨u,rfl,rx⟩ := vals1 r
  have hl := line63
  have hs : sizeLine = 16777216 := sizeLine_eq
  cases x with
  | str y =>
    obtain ⟨t,rfl⟩ := rx
    obtain ⟨hy,e'⟩ : y.length ≤ sizeLine ∧ n = y.length := e
    subst e'
    exact len_str (by omega) ⟨.int _,H,I.tok _,⟨_,rfl⟩,q⟩
  | byt y =>
    obtain ⟨t,rfl⟩ := rx
    obtain ⟨hy,e'⟩ : y.size ≤ sizeLine ∧ n = y.size := e
    subst e'
    exact PySem.W.len_bytes (by omega) ⟨.int _,H,I.tok _,⟨_,rfl⟩,q⟩
  | ref p =>
    cases rx
    have e' : (∃ xs,SqL X.K H p xs ∧ n = xs.length) ∨ ∃ xs,SqT X.K H p xs ∧ n = xs.length := e
    rcases e' with ⟨xs,hx,e'⟩ | ⟨xs,hx,e'⟩
    · subst e'
      obtain ⟨its,r',pl,hz⟩ := I.list hx
      have hlen := r'.length
      exact Calls.call_len_list pl.isList (by simp only [List.size_toArray]; omega) ⟨.int xs.length,H,I.tok _,⟨_,by simp only [List.size_toArray]; rw [hlen]⟩,q⟩
    · subst e'
      obtain ⟨its,r',pl,hz⟩ := I.tuple hx
      have hlen := r'.length
      exact len_tuple pl (by simp only [List.size_toArray]; omega) ⟨.int xs.length,H,I.tok _,⟨_,by simp only [List.size_toArray]; rw [hlen]⟩,q⟩
  | _ => exact (show False from e).elim
end
end L2
namespace L2
open PySem PySem.Spec PyProof.Rows
structure ObjM (h : Heap) (x dx C : Addr) (mA : Str → Option Value) : Prop where
  obj : h.get? x = some (PySem.W.instObj C dx)
  ns : h.Ns1 dx mA
  ne : dx ≠ x
theorem lookIn_ns {h : Heap} {dx : Addr} {mA : Str → Option Value} (n : h.Ns1 dx mA) : ∃ od,h.get? dx = some od ∧ ∀ name,PySem.W.lookIn name od = some (mA name) := by
  obtain ⟨o,es,ep,ho,hd,hk,_,hm⟩ := n
  refine ⟨o,ho,fun name => ?_⟩
  have e := hm name
  unfold nsFind findBy at e
  rw [← Array.find?_toList] at e
  unfold PySem.W.lookIn
  rw [hd]
  dsimp only
  split
  · rename_i y q
    rw [q] at e
    exact congrArg some e
  · rename_i q
    rw [q] at e
    have a : es.toList.any (·.refKey) = false := by
      rw [List.any_eq_false]
      intro y hy
      obtain ⟨z,t,hkey⟩ := hk y (Array.mem_toList_iff.mp hy)
      simp [DictEntry.refKey,hkey]
    have a' : ¬ es.toList.any (·.refKey) = true := by rw [a]; exact Bool.false_ne_true
    rw [if_neg a']
    exact congrArg some e
theorem ObjM.look {h : Heap} {x dx C : Addr} {mA : Str → Option Value} (I : ObjM h x dx C mA) : ∃ od,PySem.W.InstAt h x (PySem.W.instObj C dx) C (some od) ∧ ∀ name,PySem.W.lookIn name od = some (mA name) :=
  let ⟨od,ho,hl⟩ := lookIn_ns I.ns
  ⟨od,⟨I.obj,rfl,rfl,ho⟩,hl⟩
section
variable {prog : Program} {w : World} {A : Around} {E : Value → Shared → Prop} {s : Shared} {K : PySem.W.Frag} {x dx C f : Addr} {mA : Str → Option Value} {name : Str} {v : Value}
end
theorem RelO.some_of {v : V} {o : Option Value} (r : RelO (some v) o) : ∃ u,o = some u ∧ RelV v u := by
  cases o with
  | none => exact (show False from r).elim
  | some u => exact ⟨u,rfl,r⟩
theorem RelO.none_of {o : Option Value} (r : RelO none o) : o = none := by
  cases o with
  | none => rfl
  | some u => exact (show False from r).elim
section
variable {P : Program} {w : World} {H H' : Hp} {h h' : Heap} {a C dx : Addr} {fs fs' : List (Str × V)}
theorem ins_get (hok : HOk P w H h) (e : H a = some (.ins C dx fs)) : ∃ mA,ObjM h a dx C mA ∧ (∀ f,RelO (fs.lookup f) (mA f)) ∧ PySem.Within mA (fs.map (·.1)) ∧ fs.length ≤ 1000 ∧ H dx = some (.own a) := by
  obtain ⟨d,z,ne,ob,mA,n,r,q⟩ := (show ObjOk P w H h a (.ins C dx fs) from hok a _ e)
  exact ⟨mA,⟨ob,n,ne⟩,r,q,z,d⟩
end
structure Cls (K : PySem.W.Frag) (C : Addr) : Prop where
  pg : PySem.W.plainGet K C Str.empty = true
  hd : PySem.W.hasDictIn K C = true
  po : PySem.W.plainOver K C = true
  sa : PySem.W.findIn K (.ref C) "__setattr__" = some (some (.builtin "object.__setattr__"))
theorem Cls.get {K : PySem.W.Frag} {C : Addr} (c : Cls K C) (f : Str) : PySem.W.plainGet K C f = true := c.pg
section
variable {X : Cx} {pins : List (Addr × Obj)} {σ : St} {H : Hp} {s : Shared} {a C dx : Addr} {fs : List (Str × V)} {f : Str} {v : V} {A : Around} {E : Value → Shared → Prop}
end
section
variable {X : Cx} {o e value : Expr} {f : Str} {pos pos' tpos : Pos} {ta tv : TE}
end
section
variable {X : Cx} {pins : List (Addr × Obj)} {σ : St} {H : Hp} {s : Shared} {A : Around} {E : Value → Shared → Prop} {Q : Value → Shared → Prop} {c : Value} {b : Bool}
inductive TyOf (K : PySem.W.Frag) (H : Hp) : V → Value → Prop where
  | non : TyOf K H .non (.type "NoneType")
  | bl (x : Bool) : TyOf K H (.bl x) (.type "bool")
  | int (i : Int) : TyOf K H (.int i) (.type "int")
  | str (x : Str) : TyOf K H (.str x) (.type "str")
  | flt (x : UInt64) : TyOf K H (.flt x) (.type "float")
  | lst {a : Addr} {xs : List V} (e : H a = some (.lst xs)) : TyOf K H (.ref a) (.type "list")
  | frz {a : Addr} {o : Obj} {xs : List V} (e : H a = some (.frz o (.lst xs))) : TyOf K H (.ref a) (.type "list")
  | tup {a : Addr} {xs : List V} (e : H a = some (.tup xs)) : TyOf K H (.ref a) (.type "tuple")
  | dK {a : Addr} {kvs : List (Key × V)} (e : H a = some (.dK kvs)) : TyOf K H (.ref a) (.type "dict")
  | dT {a : Addr} {kvs : List (List Key × V)} (e : H a = some (.dT kvs)) : TyOf K H (.ref a) (.type "dict")
  | ins {a C dx : Addr} {fs : List (Str × V)} (e : H a = some (.ins C dx fs)) (cl : Cls K C) (ha : PySem.W.findIn K (.ref C) "__class__" = some (some (.builtin "object.__class__")))
      (hn : PySem.W.specialIn K (.builtin "object.__class__") "__get__" = some (some (.builtin "getset_descriptor.__get__"))) (htk : PySem.W.takesIn K (.builtin "object.__class__") = some true)
      (hm : PySem.W.mroIn K C (.type "object") = some true) : TyOf K H (.ref a) (.ref C)
theorem isinst_ok {x : V} {u t : Value} (I : Inv X pins σ H s) (rx : RelV x u) (ty : TyOf X.K H x t) (e : PySem.W.kitOne X.K t c = some b) (h : ∀ tk,Q (.bool b) { s with toks := tk }) :
    wpAny (model X.prog X.w) A (call (.builtin "isinstance") [u,c]) Q E s := by
  cases ty with
  | non => cases (show u = Value.none from rx); exact PySem.W.kia_one PySem.W.kitx_none I.kIn True.intro e (fun z => nomatch z) h
  | bl y => cases (show u = Value.bool y from rx); exact PySem.W.kia_one PySem.W.kitx_bool I.kIn True.intro e (fun z => nomatch z) h
  | int i => obtain ⟨t,q⟩ := (show ∃ t,u = Value.int i t from rx); cases q; exact PySem.W.kia_one PySem.W.kitx_int I.kIn True.intro e (fun z => nomatch z) h
  | str y => obtain ⟨t,q⟩ := (show ∃ t,u = Value.str y t from rx); cases q; exact PySem.W.kia_one PySem.W.kitx_str I.kIn True.intro e (fun z => nomatch z) h
  | flt y => obtain ⟨t,q⟩ := (show ∃ t,u = Value.float y t from rx); cases q; exact PySem.W.kia_one PySem.W.kitx_float I.kIn True.intro e (fun z => nomatch z) h
  | @lst a xs ea =>
    cases (show u = Value.ref a from rx)
    obtain ⟨_,_,n,_,h1⟩ := (show ObjOk X.prog X.w H s.heap a (.lst xs) from I.hok a _ ea)
    exact PySem.W.kia_one PySem.W.kitx_list I.kIn ⟨_,h1,rfl⟩ e (fun z => nomatch z) h
  | @frz a ob xs ea =>
    cases (show u = Value.ref a from rx)
    obtain ⟨_,_,_,n,_,h1⟩ := (show ObjOk X.prog X.w H s.heap a (.frz ob (.lst xs)) from I.hok a _ ea)
    exact PySem.W.kia_one PySem.W.kitx_list I.kIn ⟨_,h1,rfl⟩ e (fun z => nomatch z) h
  | @tup a xs ea =>
    cases (show u = Value.ref a from rx)
    obtain ⟨_,_,_,p⟩ := (show ObjOk X.prog X.w H s.heap a (.tup xs) from I.hok a _ ea)
    obtain ⟨o,h1,h2,_⟩ := p
    exact PySem.W.kia_one PySem.W.kitx_tuple I.kIn ⟨o,h1,h2⟩ e (fun z => nomatch z) h
  | @dK a kvs ea =>
    cases (show u = Value.ref a from rx)
    obtain ⟨_,_,vs,_,p⟩ := (show ObjOk X.prog X.w H s.heap a (.dK kvs) from I.hok a _ ea)
    obtain ⟨o,es,ep,h1,h2,_⟩ := p
    exact PySem.W.kia_one PySem.W.kitx_dict I.kIn ⟨o,h1,h2.1⟩ e (fun z => nomatch z) h
  | @dT a kvs ea =>
    cases (show u = Value.ref a from rx)
    obtain ⟨_,_,xs,_,o,es,ep,h1,h2,_⟩ := (show ObjOk X.prog X.w H s.heap a (.dT kvs) from I.hok a _ ea)
    exact PySem.W.kia_one PySem.W.kitx_dict I.kIn ⟨o,h1,h2.1⟩ e (fun z => nomatch z) h
  | @ins a C dx fs ea cl ha hn htk hm =>
    cases (show u = Value.ref a from rx)
    obtain ⟨mA,O,_⟩ := ins_get I.hok ea
    obtain ⟨od,J,_⟩ := O.look
    exact PySem.W.kia_one (PySem.W.kitx_own (cl.get _) cl.hd ha hn htk hm) I.kIn J e (fun z => nomatch z) h
end
end L2
namespace L2
open PySem PySem.Spec PyProof.Rows
structure Room (k : Nat) (A : Around) : Prop where
  hd : A.handled = none
  dp : A.depth + 3 * k + 5 < recursionLimit
  un : A.units + 16 * k + 200 < cLine
theorem Room.mono {j k : Nat} {A : Around} (r : Room k A) (h : j ≤ k) : Room j A := ⟨r.hd,by have := r.dp; omega,by have := r.un; omega⟩
theorem Room.deeper {k : Nat} {A : Around} (r : Room (k + 1) A) (env : Env) : Room k (A.deeper env) :=
  ⟨r.hd,by have := r.dp; show A.depth + 1 + 3 * k + 5 < _; omega,by have := r.un; show A.units + 3 + 16 * k + 200 < _; omega⟩
theorem Room.depth {k : Nat} {A : Around} (r : Room k A) : A.depth < recursionLimit := by have := r.dp; omega
theorem Room.units {k : Nat} {A : Around} (r : Room k A) : A.units + 64 < cLine := by have := r.un; omega
theorem Room.units0 {k : Nat} {A : Around} (r : Room k A) : A.units < cLine := by have := r.un; omega
noncomputable def tNil : TA := fun _ H Q => Q [] H
noncomputable def tCons (ta : TE) (tr : TA) : TA := fun σ H Q => ta σ H fun x H1 => tr σ H1 fun xs H2 => Q (x :: xs) H2
section
variable {X : Cx} {e : Expr} {es : List Expr} {te : TE} {t : TA} {pos : Pos}
theorem pa_nil : PA X [] tNil := fun _ _ _ _ H Q I h => Calls.spliced_nil ⟨[],H,I,.nil,h⟩
theorem pa_cons (ha : PE X e te) (hr : PA X es t) (hs : starEach (e :: es) X.env = (false,eval e X.env) :: starEach es X.env := by rfl) : PA X (e :: es) (tCons te t) := by
  intro pos pins s σ H Q I h
  rw [hs]
  show wpAny _ _ (spliced ((false,eval e X.env) :: backTo pos (starEach es X.env))) _ _ s
  refine Calls.spliced_cons (thn (ha pins s σ H _ I h) fun u s1 ⟨x,H1,I1,r1,q1⟩ => ?_)
  exact thn (hr pos pins s1 σ H1 _ I1 q1) fun us s2 ⟨xs,H2,I2,r2,q2⟩ => ⟨x :: xs,H2,I2,.cons r1 r2,q2⟩
inductive SNew (xs : List V) (o : HO) (H : Hp) (Q : VK) : Prop | mk (hz : xs.length ≤ sizeLine) (q : ∀ p,H p = none → Q (.ref p) (upd H p o))
noncomputable def tTup (t : TA) : TE := fun σ H Q => t σ H fun xs H1 => SNew xs (.tup xs) H1 Q
noncomputable def tLst (t : TA) : TE := fun σ H Q => t σ H fun xs H1 => SNew xs (.lst xs) H1 Q
theorem pe_tup {x1} (h : PA X es t) : PE X (.Tuple es x1 pos) (tTup t) := by
  intro pins s σ H Q I hq
  refine wpAny_Tuple_spliced (thn (h pos pins s σ H _ I hq) fun us s1 ⟨xs,H1,I1,r,z,q⟩ => ⟨by rw [← r.length]; exact z,?_⟩)
  have hf : H1 s1.heap.objs.size = none := I1.hok.fresh (Nat.le_refl _)
  refine ⟨.ref s1.heap.objs.size,upd H1 s1.heap.objs.size (.tup xs),I1.laid (t' := s1.toks) (fun b u e => Heap.get?_push_of_some _ e) (Nat.le_refl _) ?_,rfl,q _ hf⟩
  exact ⟨z,us,r,⟨_,Heap.get?_push_size _ rfl,rfl,_,rfl⟩⟩
theorem pe_lst (h : PA X es t) : PE X (.List es pos) (tLst t) := by
  intro pins s σ H Q I hq
  refine wpAny_List_spliced (thn (h pos pins s σ H _ I hq) fun us s1 ⟨xs,H1,I1,r,z,q⟩ => ⟨by rw [← r.length]; exact z,?_⟩)
  have hf : H1 s1.heap.objs.size = none := I1.hok.fresh (Nat.le_refl _)
  refine ⟨.ref s1.heap.objs.size,upd H1 s1.heap.objs.size (.lst xs),I1.laid (t' := s1.toks) (fun b u e => Heap.get?_push_of_some _ e) (Nat.le_refl _) ?_,rfl,q _ hf⟩
  exact ⟨z,us,0,r,Heap.get?_push_size _ rfl⟩
end
noncomputable abbrev Sp := List V → Hp → VK → XK → Prop
noncomputable abbrev CXT := List Env → Hp → Shared → XK → Value → Shared → Prop
structure Env0 (P : Program) (w : World) (K : PySem.W.Frag) (mg : Str → Option Value) (base : Heap) (A : Around) (outer : List Env) (s : Shared) (H : Hp) : Prop where
  frames : A.frames = some outer
  mod : Mod K mg base
  bs : ∀ b o,base.get? b = some o → s.heap.get? b = some o ∧ H b = none
  bsz : base.objs.size ≤ s.heap.objs.size
  funs : s.heap.FunFrames base outer
  frf : ∀ b ∈ frs outer,H b = none
  hok : HOk P w H s.heap
  bare : AllBare s.gens
noncomputable def CE (outer : List Env) (P : Program) (w : World) (H : Hp) (s : Shared) (Q : VK) (u : Value) (s' : Shared) : Prop :=
  ∃ v H',s'.os = s.os ∧ AllBare s'.gens ∧ Un (frs outer) [] H H' s.heap s'.heap ∧ HOk P w H' s'.heap ∧ RelV v u ∧ Q v H'
noncomputable def CR (CX : CXT) (outer : List Env) (P : Program) (w : World) (H : Hp) (s : Shared) (Q : VK) (E : XK) (r : Result) (s' : Shared) : Prop :=
  match r with
  | .ok (.ret u) => CE outer P w H s Q u s'
  | .ok _ => False
  | .error e => CX outer H s E e s'
structure FnOk (P : Program) (w : World) (K : PySem.W.Frag) (mg : Str → Option Value) (base : Heap) (CX : CXT) (k : Nat) (f : Addr) (fd : FuncData) (ps : List Str) (sp : Sp) : Prop where
  len : ∀ vs H Q E,sp vs H Q E → vs.length = ps.length
  run : ∀ (A : Around) (outer : List Env) (s : Shared) (H : Hp) (args : Args) (us : List Value) (vs : List V) (Q : VK) (E : XK),Room k A → Env0 P w K mg base A outer s H → BindsTo s fd args (ps.zip us) → Vals vs us → sp vs H Q E →
    codeAny (model P w) A (.call (.ref f) args) (CR CX outer P w H s Q E) s
section
variable {X : Cx} {pins : List (Addr × Obj)} {σ : St} {H : Hp} {s s' : Shared}
theorem Inv.env0 (I : Inv X pins σ H s) : Env0 X.prog X.w X.K X.mg X.base X.A X.stack s H :=
  ⟨I.ok.frames,I.ok.mod,I.bs,Nat.le_trans I.ok.bsz I.sz,I.stack,I.stkFree,I.hok,I.bare⟩
theorem Inv.after {Q : VK} {u : Value} (I : Inv X pins σ H s) (h : CE X.stack X.prog X.w H s Q u s') : EP X pins σ Q u s' := by
  obtain ⟨v,H',os,bare,un,hok,r,q⟩ := h
  obtain ⟨hh,g,d,t,os'⟩ := s'
  obtain rfl : os' = s.os := os
  exact ⟨v,H',I.call (h' := hh) (g' := g) (d' := d) (t' := t) (ch := []) un hok bare (fun b z => absurd z (by simp)),r,q⟩
end
noncomputable def tCall (sp : Sp) (dvs : List V) (E : XK) (t : TA) : TE := fun σ H Q => t σ H fun vs H1 => sp (vs ++ dvs) H1 Q E
noncomputable def Binds (K : PySem.W.Frag) (fd : FuncData) (ps : List Str) (ds : List Value) : Prop :=
  ∀ (s : Shared) (us : List Value),K.In s.heap → (us ++ ds).length = ps.length → BindsTo s fd ⟨us,[]⟩ (ps.zip (us ++ ds))
theorem Binds.all {K : PySem.W.Frag} {fd : FuncData} {ps : List Str} (h : ∀ us : List Value,us.length = ps.length → bindArgs fd ⟨us,[]⟩ = pure (ps.zip us)) : Binds K fd ps [] := fun s us _ hl => by
  rw [List.append_nil] at hl ⊢
  exact .of_eq (h us hl)
noncomputable def Passes (CX : CXT) (X : Cx) (E : XK) : Prop := ∀ (pins : List (Addr × Obj)) (σ : St) (H : Hp) (s : Shared) (e : Value) (s' : Shared),Inv X pins σ H s → CX X.stack H s E e s' → X.xe e s'
section
variable {X : Cx} {CX : CXT} {k : Nat} {f C : Addr} {fd : FuncData} {ps : List Str} {sp : Sp} {dvs : List V} {ds : List Value} {E : XK} {x m : Str} {p pos apos : Pos} {e o : Expr} {es : List Expr} {ta : TE} {t : TA}
theorem run_fn {pins : List (Addr × Obj)} {σ : St} {H : Hp} {s : Shared} {Q : VK} {us : List Value} {vs : List V} (F : FnOk X.prog X.w X.K X.mg X.base CX k f fd ps sp) (hr : Room k X.A) (hb : Binds X.K fd ps ds) (hd : Vals dvs ds) (hx : Passes CX X E)
    (I : Inv X pins σ H s) (r : Vals vs us) (h : sp (vs ++ dvs) H Q E) : wpAny (model X.prog X.w) X.A (call (.ref f) us) (EP X pins σ Q) X.xe s := by
  have r2 : Vals (vs ++ dvs) (us ++ ds) := r.append hd
  have hl : (us ++ ds).length = ps.length := by rw [← r2.length]; exact F.len _ _ _ _ h
  refine wpAny_call (codeAny_mono (F.run X.A X.stack s H ⟨us,[]⟩ (us ++ ds) (vs ++ dvs) Q E hr I.env0 (hb s us I.kIn hl) r2 h) fun r s' hq => ?_)
  cases r with
  | error e => exact hx pins σ H s e s' I hq
  | ok fl =>
    cases fl with
    | ret u => exact I.after hq
    | next => exact False.elim hq
    | brk => exact False.elim hq
    | cont => exact False.elim hq
theorem pe_call (F : FnOk X.prog X.w X.K X.mg X.base CX k f fd ps sp) (hr : Room k X.A) (hg : Gl X x) (hm : X.mg x = some (.ref f)) (hk : PySem.W.keepIn X.K (.ref f) = true) (hb : Binds X.K fd ps ds) (hd : Vals dvs ds) (hx : Passes CX X E)
    (ha : PA X (e :: es) t) (hdb : (x == ("__debug__" : Str)) = false := by decide) (he : starEach (e :: es) X.env = (false,eval e X.env) :: starEach es X.env := by rfl) (hpl : (backTo pos (starEach es X.env)).any (·.1) = false := by rfl) :
    PE X (.Call (.Name x p) (e :: es) [] pos) (tCall sp dvs E t) := by
  intro pins s σ H Q I h
  refine wpAny_Call_Name_kw (ld_glob I hg hm ?_ hdb)
  refine PySem.W.callWith_K (h₀ := X.base) I.ok.mod.kin hk (thn (ha pos pins s σ H _ I h) fun us s1 ⟨vs,H1,I1,r,q⟩ => ⟨I1.kIn,?_⟩) he hpl
  exact run_fn F hr hb hd hx I1 r q
end
section
variable {X : Cx} {CX : CXT} {k : Nat} {f C : Addr} {fd : FuncData} {ps ks : List Str} {sp : Sp} {E : XK} {x m : Str} {p pos apos kpos : Pos} {e o : Expr} {es : List Expr} {kws : List Keyword} {te ta : TE} {t tk : TA} {nm : Option Str}
variable {g : List Value → List Value → List Value} {gV : List V → List V → List V}
end
structure FnScope (N P : List Str) (sc : Scope) : Prop where
  kind : sc.kind = .function
  co : sc.isCoroutine = false
  gen : sc.isGenerator = false
  nd : N.Nodup
  pre : N.take P.length = P
  par : ∀ x ∈ P,sc.names.lookup x = some .local ∨ sc.names.lookup x = some .cell
  nofree : ∀ y ∈ sc.names,y.2 ≠ .free
theorem bindL_out {kindOf : Str → Option NameKind} {x : Str} : ∀ {binds : List (Str × Value)} {m : Str → Option Value},(∀ v,(x,v) ∉ binds) → bindL kindOf binds m x = m x
  | [],_,_ => rfl
  | (n,v) :: r,m,h => by
    unfold bindL
    rw [bindL_out fun w hw => h w (List.mem_cons_of_mem _ hw)]
    split
    · have : x ≠ n := by rintro rfl; exact h v List.mem_cons_self
      simp [this]
    · rfl
theorem bindC_out {kindOf : Str → Option NameKind} {x : Str} : ∀ {binds : List (Str × Value)} {m : Str → Option Value},(∀ v,(x,v) ∉ binds) → bindC kindOf binds m x = m x
  | [],_,_ => rfl
  | (n,v) :: r,m,h => by
    unfold bindC
    rw [bindC_out fun w hw => h w (List.mem_cons_of_mem _ hw)]
    split
    · rfl
    · have : x ≠ n := by rintro rfl; exact h v List.mem_cons_self
      simp [this]
theorem bindL_get {kindOf : Str → Option NameKind} {x : Str} {v : Value} : ∀ {P : List Str} {vs : List Value} {i : Nat} {m : Str → Option Value},P.Nodup → P[i]? = some x → vs[i]? = some v → kindOf x = some .local →
    bindL kindOf (P.zip vs) m x = some v
  | [],_,_,_,_,h,_,_ => by simp at h
  | _ :: _,[],_,_,_,_,h,_ => by simp at h
  | p :: P,w :: vs,0,m,nd,h1,h2,hk => by
    simp at h1 h2; subst h1; subst h2
    show bindL kindOf ((p,w) :: P.zip vs) m p = _
    unfold bindL
    rw [bindL_out fun v hv => (List.nodup_cons.mp nd).1 (List.of_mem_zip hv).1,if_pos hk]
    simp
  | p :: P,w :: vs,i + 1,m,nd,h1,h2,hk => by
    show bindL kindOf ((p,w) :: P.zip vs) m x = _
    unfold bindL
    exact bindL_get (i := i) (List.nodup_cons.mp nd).2 (by simpa using h1) (by simpa using h2) hk
theorem bindC_get {kindOf : Str → Option NameKind} {x : Str} {v : Value} : ∀ {P : List Str} {vs : List Value} {i : Nat} {m : Str → Option Value},P.Nodup → P[i]? = some x → vs[i]? = some v → kindOf x ≠ some .local →
    bindC kindOf (P.zip vs) m x = some v
  | [],_,_,_,_,h,_,_ => by simp at h
  | _ :: _,[],_,_,_,_,h,_ => by simp at h
  | p :: P,w :: vs,0,m,nd,h1,h2,hk => by
    simp at h1 h2; subst h1; subst h2
    show bindC kindOf ((p,w) :: P.zip vs) m p = _
    unfold bindC
    rw [bindC_out fun v hv => (List.nodup_cons.mp nd).1 (List.of_mem_zip hv).1,if_neg hk]
    simp
  | p :: P,w :: vs,i + 1,m,nd,h1,h2,hk => by
    show bindC kindOf ((p,w) :: P.zip vs) m x = _
    unfold bindC
    exact bindC_get (i := i) (List.nodup_cons.mp nd).2 (by simpa using h1) (by simpa using h2) hk
noncomputable def start (N : List Str) (vs : List V) : St := vs.map some ++ List.replicate (N.length - vs.length) none
noncomputable def cxOf (CX : CXT) (P : Program) (w : World) (K : PySem.W.Frag) (mg : Str → Option Value) (base : Heap) (N : List Str) (qual : Str) (scope : Scope) (f : Addr) (cd : Value) (A : Around) (outer : List Env) (s : Shared) (H : Hp) (E : XK) : Cx where
  prog := P
  w := w
  K := K
  mg := mg
  base := base
  A := A.deeper (envOfC qual scope s.heap.objs.size f cd)
  N := N
  s₀ := s
  H₀ := H
  env := envOfC qual scope s.heap.objs.size f cd
  outer := outer
  stack := envOfC qual scope s.heap.objs.size f cd :: outer
  ex := []
  calm := true
  fn := fun _ => true
  pn := []
  xe := fun e s' => wpAny (model P w) (A.deeper (envOfC qual scope s.heap.objs.size f cd)) (leaving (envOfC qual scope s.heap.objs.size f cd) e) (fun _ s'' => CX outer H s E e s'') (fun e' s'' => CX outer H s E e' s'') s'
theorem cell_has {sc : Scope} {n : Nat} {x : Str} (h : sc.names.lookup x = some .cell) : ∃ c,(cellsFrom n sc.names []).lookup x = some c := by
  have q := PySem.W.cellsFrom_some sc.names n [] (.inl h)
  exact Option.isSome_iff_exists.mp q
theorem inv_start {CX : CXT} {P : Program} {w : World} {K : PySem.W.Frag} {mg : Str → Option Value} {base : Heap} {N ps : List Str} {qual : Str} {scope : Scope} {f : Addr} {cd : Value} {A : Around} {outer : List Env} {s s1 : Shared} {H : Hp} {E : XK} {us : List Value} {vs : List V}
    (S : FnScope N ps scope) (hd : A.handled = none) (e0 : Env0 P w K mg base A outer s H) (hl : vs.length = ps.length) (r : Vals vs us)
    (x : InCallC s s.heap.objs.size (bindL (envOfC qual scope s.heap.objs.size f cd).kindOf (ps.zip us) fun _ => none) (cellsFrom (s.heap.objs.size + 1) scope.names []) (bindC (envOfC qual scope s.heap.objs.size f cd).kindOf (ps.zip us) fun _ => none) s1) :
    Inv (cxOf CX P w K mg base N qual scope f cd A outer s H E) [] (start N vs) H s1 := by
  have hpl : ps.length ≤ N.length := by have := congrArg List.length S.pre; rw [List.length_take] at this; omega
  obtain ⟨h1,tk,rfl,hk⟩ := x.done
  have noA : ∀ b : Addr,b ∉ (cxOf CX P w K mg base N qual scope f cd A outer s H E).ex := fun b z => absurd (show b ∈ ([] : List Addr) from z) (by simp)
  refine ⟨⟨e0.mod,S.kind,rfl,rfl,Nat.le_refl _,fun y z c h1 h2 => ?_,fun y hy => ?_,fun y c _ h => ?_,fun _ => hd,Around.frames_deeper e0.frames,.inr ⟨rfl,rfl⟩,fun b z => absurd z (noA b),e0.bs,e0.bsz,fun b _ _ => noA b,fun b z => absurd z (noA b),e0.funs,e0.frf⟩,
    rfl,e0.bare,Un.kept hk,⟨_,x.toInCall.ns,fun i y v h1 h2 h3 => ?_⟩,fun y c h => ⟨_,x.cell y c h⟩,e0.hok.fresh (Nat.le_refl _),fun y c h => ?_,fun p hp => absurd (show p ∈ ([] : List (Addr × Obj)) from hp) (by simp),e0.hok.kept hk,?_⟩
  · exact name_of_addr x.apart (PySem.mem_of_lookup h1) (PySem.mem_of_lookup h2)
  · have hy : scope.names.lookup y = some .cell ∨ scope.names.lookup y = some .free := hy
    rcases hy with hy | hy
    · exact cell_has hy
    · exact absurd rfl (S.nofree _ (PySem.mem_of_lookup hy))
  · exact Nat.le_of_lt (x.above y c (PySem.mem_of_lookup h))
  · have hi : i < vs.length := by
      unfold start at h2
      by_cases hi : i < vs.length
      · exact hi
      · rw [List.getElem?_append_right (by simpa using hi)] at h2
        rw [List.getElem?_replicate] at h2
        split at h2 <;> cases h2
    have ha : vs[i]? = some v := by
      unfold start at h2
      rw [List.getElem?_append_left (by simpa using hi),List.getElem?_map] at h2
      cases e : vs[i]? with
      | none => rw [e] at h2; cases h2
      | some a => rw [e] at h2; cases h2; rfl
    obtain ⟨u,hu,rv⟩ := r.get ha
    have hp : ps[i]? = some y := by
      rw [← S.pre,List.getElem?_take_of_lt (by omega)]; exact h1
    have ndP : ps.Nodup := by rw [← S.pre]; exact S.nd.sublist (List.take_sublist _ _)
    refine ⟨u,rv,?_⟩
    rcases S.par y (List.mem_of_getElem? hp) with k | k
    · exact .inl ⟨k,bindL_get ndP hp hu k⟩
    · obtain ⟨c,e⟩ := cell_has (n := s.heap.objs.size + 1) k
      refine .inr ⟨.inl k,c,e,?_⟩
      have q := x.cell y c e
      rw [bindC_get ndP hp hu (by show scope.names.lookup y ≠ _; rw [k]; decide)] at q
      exact q
  · exact e0.hok.fresh (Nat.le_of_lt (x.above y c (PySem.mem_of_lookup h)))
  · unfold start
    show _ = N.length
    rw [List.length_append,List.length_map,List.length_replicate]
    omega
theorem fn_of {CX : CXT} {P : Program} {w : World} {K : PySem.W.Frag} {mg : Str → Option Value} {base : Heap} {k : Nat} {f : Addr} {name qual : Str} {params : Arguments} {body : List Stmt} {scope : Scope} {dV kV doc pm cdv ct oc : Value} {an od : Option Addr}
    {osl : Array (Option Value)} {N ps : List Str} {sp : Sp} (lk : K.lookup f = some ⟨oc,od,.func (PySem.W.fnOf name qual params body scope dV kV doc pm an cdv ct),osl⟩) (hcd : PySem.W.codeIn K cdv qual = true) (S : FnScope N ps scope)
    (len : ∀ vs H Q E,sp vs H Q E → vs.length = ps.length)
    (hbody : ∀ (A : Around) (outer : List Env) (s : Shared) (H : Hp) (vs : List V) (Q : VK) (E : XK),Room k (A.deeper (envOfC qual scope s.heap.objs.size f cdv)) → sp vs H Q E →
      ∃ t,PSs (cxOf CX P w K mg base N qual scope f cdv A outer s H E) body t ∧ t { nx := fun _ H' => Q .non H',rt := Q } (start N vs) H) :
    FnOk P w K mg base CX (k + 1) f (PySem.W.fnOf name qual params body scope dV kV doc pm an cdv ct) ps sp := by
  refine ⟨len,fun A outer s H args us vs Q E hr e0 hb r hsp => ?_⟩
  have hl := len _ _ _ _ hsp
  have KX : K.In s.heap := e0.mod.kin.keeps fun b o e => (e0.bs b o e).1
  have lim : s.heap.NoLimit := e0.mod.nolimit.keeps fun b o e => (e0.bs b o e).1
  have hkind : ∀ y ∈ ps.zip us,scope.names.lookup y.1 = some .local ∨ (scope.names.lookup y.1 = some .cell ∧ ((cellsFrom (s.heap.objs.size + 1) scope.names []).lookup y.1).isSome = true) := fun ⟨n,v⟩ hy => by
    rcases S.par n (List.of_mem_zip hy).1 with q | q
    · exact .inl q
    · exact .inr ⟨q,PySem.W.cellsFrom_some _ _ _ (.inl q)⟩
  refine codeAny_call_function hr.depth (KX _ _ lk) rfl S.co S.gen rfl (PySem.W.codeRec_of KX hcd) (hb _ _ _ _ ?_)
  refine wpAny_newFunctionEnv_cells S.kind hkind fun env he s1 x => ?_
  subst he
  refine ⟨lim.keeps x.toInCall.keep,codeAny_func ?_⟩
  obtain ⟨t,ht,hq⟩ := hbody A outer s H vs Q E (hr.deeper _) hsp
  have I : Inv (cxOf CX P w K mg base N qual scope f cdv A outer s H E) [] (start N vs) H s1 := inv_start S hr.hd e0 hl r x
  refine wpAny_mono (ht [] s1 (start N vs) H _ I hq) (fun fl s' hs => ?_) fun e s' hs => hs
  have fin : ∀ {σ' : St} {H' : Hp} {v : V} {u : Value},Inv (cxOf CX P w K mg base N qual scope f cdv A outer s H E) [] σ' H' s' → RelV v u → Q v H' → CE outer P w H s Q u s' :=
    fun {σ' H' v u} J rv q => ⟨v,H',J.os,J.bare,J.base,J.hok,rv,q⟩
  cases fl with
  | ret u =>
    obtain ⟨v,σ',H',J,rv,q⟩ := hs
    exact fin J rv q
  | next =>
    obtain ⟨σ',H',J,q⟩ := hs
    exact fin (v := V.non) (u := Value.none) J rfl q
  | brk =>
    obtain ⟨_,_,_,q⟩ := hs
    exact False.elim q
  | cont =>
    obtain ⟨_,_,_,q⟩ := hs
    exact False.elim q
end L2
namespace L2
open PySem PySem.Spec PyProof.Rows
section
variable {X : Cx} {x : Str} {p pos : Pos} {e : Expr} {es : List Expr} {t : TA} {id T : String} {r : List V → Hp → VK → Prop}
noncomputable def tCB (r : List V → Hp → VK → Prop) (t : TA) : TE := fun σ H Q => t σ H fun vs H1 => r vs H1 Q
theorem pe_callB (hc : CallR X (.builtin id) r) (hg : Gl X x) (hm : X.mg x = none) (hv : bootBuiltins x = some (.builtin id)) (ha : PA X (e :: es) t) (hn : x ≠ "__name__" := by decide) (hdb : (x == ("__debug__" : Str)) = false := by decide)
    (he : starEach (e :: es) X.env = (false,eval e X.env) :: starEach es X.env := by rfl) (hpl : (backTo pos (starEach es X.env)).any (·.1) = false := by rfl) : PE X (.Call (.Name x p) (e :: es) [] pos) (tCB r t) := by
  intro pins s σ H Q I h
  refine wpAny_Call_Name_kw (ld_blt I hg hm hv ?_ hn hdb)
  exact PyProof.Rows.callWith_builtin1 (thn (ha pos pins s σ H _ I h) fun us s1 ⟨vs,H1,I1,r1,q1⟩ => hc pins s1 σ H1 vs us Q I1 r1 q1) he hpl
theorem pe_callTy (hc : CallR X (.type T) r) (hg : Gl X x) (hm : X.mg x = none) (hv : bootBuiltins x = some (.type T)) (ha : PA X (e :: es) t) (hn : x ≠ "__name__" := by decide) (hdb : (x == ("__debug__" : Str)) = false := by decide)
    (he : starEach (e :: es) X.env = (false,eval e X.env) :: starEach es X.env := by rfl) (hpl : (backTo pos (starEach es X.env)).any (·.1) = false := by rfl) : PE X (.Call (.Name x p) (e :: es) [] pos) (tCB r t) := by
  intro pins s σ H Q I h
  refine wpAny_Call_Name_kw (ld_blt I hg hm hv ?_ hn hdb)
  exact PyProof.Rows.callWith_type1 (thn (ha pos pins s σ H _ I h) fun us s1 ⟨vs,H1,I1,r1,q1⟩ => hc pins s1 σ H1 vs us Q I1 r1 q1) he hpl
end
end L2
namespace HT
open PySem PyProof.Rows
section
open PySem.SeqAt
open PySem.AutoSeq1 (wpAny_loadPart')
open PySem.MeetsSeq PySem.MeetsSeq2 PySem.MeetsSeq3
end
section
variable {prog : Program} {w : World} {A : Around} {E : Value → Shared → Prop} {s : Shared}
theorem cat_tup {t b : Addr} {vs ws : List Value} {Q : Value → Shared → Prop} (ht : IsTup s.heap t vs.toArray) (hb : IsTup s.heap b ws.toArray) (hv : vs ≠ [])
    (h1 : ws = [] → Q (.ref t) s) (h2 : ws ≠ [] → Q (.ref s.heap.objs.size) { s with heap := s.heap.push { cls := .type "tuple",data := .seq (vs ++ ws).toArray } })
    (hsz : vs.length + ws.length ≤ sizeLine) : wpAny (model prog w) A (binaryOp .Add (.ref t) (.ref b)) Q E s := by
  obtain ⟨⟨cls,dd,data,sl⟩,ho,hc,n,hd⟩ := id ht
  obtain ⟨⟨cls2,dd2,data2,sl2⟩,ho2,hc2,n2,hd2⟩ := id hb
  simp only at hc hd hc2 hd2
  subst hc hd hc2 hd2
  have e : vs.toArray ++ ws.toArray = (vs ++ ws).toArray := by simp
  by_cases hw : ws = []
  · exact concat_meets ⟨_,ho,rfl⟩ ⟨_,ho2,rfl⟩ noFill_tuple_add seq_tuple_add PySem.F.slot_tuple_add PySem.F.entry_tuple_add (PySem.F.args_tuple_add_2 _ _)
      (tuple_addW1 t b vs.toArray ws.toArray n n2 dd dd2 sl sl2 (by simpa using hv) (by simp [hw])) ⟨ho,ho2,h1 hw⟩
  · refine concat_meets ⟨_,ho,rfl⟩ ⟨_,ho2,rfl⟩ noFill_tuple_add seq_tuple_add PySem.F.slot_tuple_add PySem.F.entry_tuple_add (PySem.F.args_tuple_add_2 _ _)
      (tuple_addW2 t b vs.toArray ws.toArray n n2 dd dd2 sl sl2 (by simpa using hv) (by simpa using hw) (by rw [List.size_toArray,List.size_toArray]; exact hsz)) ⟨ho,ho2,?_⟩
    rw [e]
    exact h2 hw
noncomputable def sIx (n d : Nat) : Option Int → Nat
  | none => d
  | some v => if v < 0 then (v + (n : Int)).toNat else min v.toNat n
theorem sIx_none (n d : Nat) : sIx n d none = d := rfl
theorem sIx_nat (n d k : Nat) : sIx n d (some (k : Int)) = min k n := by
  show (if (k : Int) < 0 then ((k : Int) + (n : Int)).toNat else min (k : Int).toNat n) = min k n
  rw [if_neg (by omega),Int.toNat_natCast]
theorem sIx_le (n d : Nat) (hd : d ≤ n) (o : Option Int) : sIx n d o ≤ n := by
  cases o with
  | none => exact hd
  | some v =>
    show (if v < 0 then (v + (n : Int)).toNat else min v.toNat n) ≤ n
    by_cases hv : v < 0
    · rw [if_pos hv]; omega
    · rw [if_neg hv]; exact Nat.min_le_right _ _
theorem clip_eq (v : Int) (n d : Nat) : (if v < 0 then max (v + (n : Int)) 0 else min v (n : Int)) = ((sIx n d (some v) : Nat) : Int) := by
  show (if v < 0 then max (v + (n : Int)) 0 else min v (n : Int)) = (((if v < 0 then (v + (n : Int)).toNat else min v.toNat n) : Nat) : Int)
  by_cases hv : v < 0
  · simp only [if_pos hv]; omega
  · simp only [if_neg hv]; omega
theorem adjust_gen (lo hi : Option Int) (n : Nat) : Builtin.Slice.sliceAdjust lo hi 1 (n : Int) = (((sIx n 0 lo : Nat) : Int),((sIx n n hi : Nat) : Int)) := by
  have h1 : ¬ ((1 : Int) < 0) := by omega
  unfold Builtin.Slice.sliceAdjust
  simp only [h1,if_false]
  refine Prod.ext ?_ ?_
  · cases lo with
    | none => rfl
    | some v => exact clip_eq v n 0
  · cases hi with
    | none => rfl
    | some v => exact clip_eq v n n
theorem places_gen (i j : Nat) : Builtin.Slice.slicePlaces (i : Int) (j : Int) 1 = j - i := by
  unfold Builtin.Slice.slicePlaces
  have h1 : (1 : Int) > 0 := by omega
  simp only [h1,if_true,Int.ediv_one]
  split <;> omega
theorem slicePart_ {v : Value} {o : Option Int} {Q : Option Int → Shared → Prop} (p : IsPart v o) (h : Q o s) : wpAny (model prog w) A (Builtin.Slice.slicePartIndex v) Q E s := by
  cases p with
  | none => exact slicePart_none h
  | int i t => exact slicePart_int h
theorem sliceApplied_gen {sl : Addr} {vl vu : Value} {lo hi : Option Int} {n : Nat} {Q : Int × Int × Nat → Shared → Prop} (hs : s.heap.IsSliceOf sl vl vu .none) (pl : IsPart vl lo) (pu : IsPart vu hi)
    (h : Q (((sIx n 0 lo : Nat) : Int),1,sIx n n hi - sIx n 0 lo) s) : wpAny (model prog w) A (Builtin.Slice.sliceApplied (.ref sl) (pure (n : Int))) Q E s := by
  obtain ⟨os,hos,hcs,hds⟩ := id hs
  unfold Builtin.Slice.sliceApplied Builtin.Slice.sliceFields
  refine wpAny_bind (wpAny_bind (wpAny_field hos hds (x := vl) rfl (wpAny_bind (wpAny_field hos hds (x := vu) rfl (wpAny_bind (wpAny_field hos hds (x := .none) rfl (wpAny_pure ?_)))))))
  refine wpAny_bind (slicePart_none ?_)
  show wpAny _ _ (if ((1 : Int) == 0) = true then _ else _) _ _ s
  rw [if_neg (by decide)]
  refine wpAny_bind (slicePart_ pl (wpAny_bind (slicePart_ pu (wpAny_bind (wpAny_pure ?_)))))
  show wpAny _ _ (match Builtin.Slice.sliceAdjust lo hi 1 (n : Int) with | (lo,hi) => pure (lo,(1 : Int),Builtin.Slice.slicePlaces lo hi 1)) _ _ s
  rw [adjust_gen lo hi n]
  show wpAny _ _ (pure (((sIx n 0 lo : Nat) : Int),(1 : Int),Builtin.Slice.slicePlaces ((sIx n 0 lo : Nat) : Int) ((sIx n n hi : Nat) : Int) 1)) _ _ s
  rw [places_gen]
  exact wpAny_pure h
theorem pick_gen (xs : Array Value) (i k : Nat) : ((List.range k).filterMap fun (m : Nat) => xs[((i : Int) + (m : Int) * 1).toNat]?).toArray = ((xs.toList.drop i).take k).toArray := by
  have e : (fun (m : Nat) => xs[((i : Int) + (m : Int) * 1).toNat]?) = fun m => xs[i + m]? := by
    funext m
    have : ((i : Int) + (m : Int) * 1).toNat = i + m := by omega
    rw [this]
  rw [e]
  have := pick_run xs i k
  rw [List.filterMap_map] at this
  have e2 : ((fun x => xs[x]?) ∘ fun x => i + x) = fun m => xs[i + m]? := rfl
  rw [e2] at this
  rw [this]
theorem getItem_tuple_cut {t sl : Addr} {items : Array Value} {vl vu : Value} {lo hi : Option Int} {Q : Value → Shared → Prop} (ht : IsTup s.heap t items) (hs : s.heap.IsSliceOf sl vl vu .none) (pl : IsPart vl lo) (pu : IsPart vu hi)
    (hw : ¬ (sIx items.size 0 lo = 0 ∧ sIx items.size items.size hi = items.size))
    (h : Q (.ref s.heap.objs.size) { s with heap := s.heap.push { cls := .type "tuple",data := .seq ((items.toList.drop (sIx items.size 0 lo)).take (sIx items.size items.size hi - sIx items.size 0 lo)).toArray } })
    (hsz : items.size ≤ sizeLine) : wpAny (model prog w) A (getItem (.ref t) (.ref sl)) Q E s := by
  have htake : sizeOk (.seq ((items.toList.drop (sIx items.size 0 lo)).take (sIx items.size items.size hi - sIx items.size 0 lo)).toArray) := by
    show ((items.toList.drop (sIx items.size 0 lo)).take (sIx items.size items.size hi - sIx items.size 0 lo)).toArray.size ≤ sizeLine
    rw [List.size_toArray,List.length_take,List.length_drop,Array.length_toList]
    omega
  have hj : sIx items.size items.size hi ≤ items.size := sIx_le _ _ (Nat.le_refl _) hi
  obtain ⟨os,hos,hcs,hds⟩ := id hs
  have hTs : s.TypeIs (.ref sl) "slice" := ⟨os,hos,hcs⟩
  unfold getItem
  try with_reducible refine wpAny_holding ?_
  first | refine wpAny_bind (wpAny_pure ?_) | skip
  refine wpAny_bind (wpAny_sequenceKey ht.typeIs (by decide) ?_)
  refine wpAny_bind (wpAny_callSpecial?_slot (name := Str.ofString "__getitem__") ht.typeIs PyProof.Rows.slot_tuple_getitem
    (wpAny_call_entry PyProof.Rows.slot_tuple_getitem ht.typeIs entry_tuple_getitem ?_ (args_tuple_getitem _ _)))
  show wpAny _ _ (Builtin.Tuple.tupleItemsOf (.ref t) >>= _) _ _ s
  refine wpAny_bind (tupleItemsOf_ ht ?_)
  refine wpAny_bind (wpAny_typeOf hTs ?_)
  rw [if_pos (by decide)]
  refine wpAny_bind (sliceApplied_gen hs pl pu ?_)
  have hno : ¬ ((((sIx items.size 0 lo : Nat) : Int) == 0 && (1 : Int) == 1 && (sIx items.size items.size hi - sIx items.size 0 lo) == items.size) = true) := by
    intro q
    rw [Bool.and_eq_true,Bool.and_eq_true] at q
    have q1 : ((sIx items.size 0 lo : Nat) : Int) = 0 := eq_of_beq q.1.1
    have q2 : sIx items.size items.size hi - sIx items.size 0 lo = items.size := eq_of_beq q.2
    exact hw ⟨by omega,by omega⟩
  show wpAny _ _ (if (((sIx items.size 0 lo : Nat) : Int) == 0 && (1 : Int) == 1 && (sIx items.size items.size hi - sIx items.size 0 lo) == items.size) = true then _ else _) _ _ s
  rw [if_neg hno,pick_gen]
  first
    | exact wpAny_bind (m := Builtin.Tuple.tupleExact _) (wpAny_newObj_type (wpAny_pure ⟨_,rfl,wpAny_pure h⟩) htake)
    | exact wpAny_bind (m := Builtin.Tuple.tupleExact _) (wpAny_newObj_type (wpAny_bind (wpAny_pure (wpAny_pure ⟨_,rfl,wpAny_pure h⟩))) htake)
    | exact wpAny_bind (wpAny_bind (m := Builtin.Tuple.tupleExact _) (wpAny_newObj_type (wpAny_pure (wpAny_pure ⟨_,rfl,wpAny_pure h⟩)) htake))
    | exact wpAny_bind (wpAny_bind (m := Builtin.Tuple.tupleExact _) (wpAny_newObj_type (wpAny_pure ⟨_,rfl,wpAny_pure h⟩) htake))
end
end HT
namespace L2
open PySem PySem.Spec PyProof.Rows
noncomputable abbrev TO := St → Hp → (Option Int → Hp → Prop) → Prop
noncomputable def PO (X : Cx) (e : Option Expr) (t : TO) : Prop :=
  ∀ (pins : List (Addr × Obj)) (s : Shared) (σ : St) (H : Hp) (Q : Option Int → Hp → Prop),Inv X pins σ H s → t σ H Q →
    wpAny (model X.prog X.w) X.A (evalPart e X.env) (fun u s' => ∃ o H',Inv X pins σ H' s' ∧ IsPart u o ∧ Q o H') X.xe s
noncomputable def tNoPart : TO := fun _ H Q => Q none H
inductive SPart (x : V) (H : Hp) (Q : Option Int → Hp → Prop) : Prop | mk (i : Int) (hx : x = .int i) (q : Q (some i) H)
noncomputable def tPart (t : TE) : TO := fun σ H Q => t σ H fun x H1 => SPart x H1 Q
theorem intsAre_of {ns : List Int} : ∀ {us : List Value},Vals (ns.map V.int) us → IntsAre us ns := by
  induction ns with
  | nil => intro us r; rw [List.map_nil] at r; cases r; exact .nil
  | cons n ns ih =>
    intro us r
    rw [List.map_cons] at r
    cases r with
    | cons r1 r2 =>
      obtain ⟨t,e⟩ := r1
      subst e
      exact .cons n t (ih r2)
section
variable {X : Cx} {e : Expr} {te : TE} {lo hi : Option Expr} {tl th : TO} {pos p2 : Pos}
theorem po_none : PO X none tNoPart := by
  intro pins s σ H Q I h
  rw [evalPart_none]
  exact wpAny_pure ⟨none,H,I,.none,h⟩
theorem po_some (h : PE X e te) : PO X (some e) (tPart te) := by
  intro pins s σ H Q I hw
  rw [evalPart_some]
  refine thn (h pins s σ H _ I hw) fun u s1 ⟨x,H1,I1,r1,q1⟩ => ?_
  obtain ⟨i,rfl,q⟩ := q1
  obtain ⟨t,rfl⟩ := r1
  exact ⟨some i,H1,I1,.int i t,q⟩
noncomputable def SlR (X : Cx) (r : V → Option Int → Option Int → Hp → VK → Prop) : Prop :=
  ∀ (pins : List (Addr × Obj)) (s : Shared) (σ : St) (H : Hp) (x : V) (v vl vu : Value) (lo hi : Option Int) (sl : Addr) (Q : VK),Inv X pins σ H s → RelV x v → s.heap.IsSliceOf sl vl vu .none → IsPart vl lo → IsPart vu hi → r x lo hi H Q →
    ∃ T id,typeLookup (.type T) "__getitem__" = pure (some (.builtin id)) ∧ s.TypeIs v T ∧ wpAny (model X.prog X.w) X.A (getItem v (.ref sl)) (EP X pins σ Q) X.xe s
theorem SlR.or {r r' : V → Option Int → Option Int → Hp → VK → Prop} (h : SlR X r) (h' : SlR X r') : SlR X (fun x lo hi H Q => r x lo hi H Q ∨ r' x lo hi H Q) := by
  intro pins s σ H x v vl vu lo hi sl Q I rx hs pl pu q
  rcases q with q | q
  · exact h pins s σ H x v vl vu lo hi sl Q I rx hs pl pu q
  · exact h' pins s σ H x v vl vu lo hi sl Q I rx hs pl pu q
noncomputable def tSl (r : V → Option Int → Option Int → Hp → VK → Prop) (te : TE) (tl th : TO) : TE := fun σ H Q => te σ H fun x H1 => tl σ H1 fun l H2 => th σ H2 fun u H3 => r x l u H3 Q
theorem pe_slice {r : V → Option Int → Option Int → Hp → VK → Prop} (hr : SlR X r) (he : PE X e te) (hl : PO X lo tl) (hu : PO X hi th) : PE X (.Subscript e (.Slice lo hi none p2) pos) (tSl r te tl th) := by
  intro pins s σ H Q I h
  refine Subscript_ (thn (he pins s σ H _ I h) fun v s1 ⟨x,H1,I1,r1,q1⟩ => ?_)
  refine wpAny_Slice (thn (hl pins s1 σ H1 _ I1 q1) fun vl s2 ⟨l,H2,I2,pl,q2⟩ => thn (hu pins s2 σ H2 _ I2 q2) fun vu s3 ⟨u,H3,I3,pu,q3⟩ => ?_)
  rw [evalPart_none]
  refine wpAny_pure ?_
  have I4 : Inv X pins σ H3 { s3 with heap := s3.heap.push { cls := .type "slice",data := .fields #[vl,vu,.none] } } := I3.kept (t' := s3.toks) fun b ob q => Heap.get?_push_of_some _ q
  obtain ⟨T,id,hT,ht,hg⟩ := hr pins { s3 with heap := s3.heap.push { cls := .type "slice",data := .fields #[vl,vu,.none] } } σ H3 x v vl vu l u s3.heap.objs.size Q I4 r1 (Heap.IsSliceOf.new ..) pl pu q3
  show wpAny (model X.prog X.w) X.A (subscriptTail e (.Slice lo hi none p2) v (.ref s3.heap.objs.size)) (EP X pins σ Q) X.xe { s3 with heap := s3.heap.push { cls := .type "slice",data := .fields #[vl,vu,.none] } }
  exact tail_any (ops := [.ref s3.heap.objs.size,v]) ht hT hg (by with_unfolding_all rfl)
noncomputable def cutV (xs : List V) (lo hi : Option Int) : List V := (xs.drop (HT.sIx xs.length 0 lo)).take (HT.sIx xs.length xs.length hi - HT.sIx xs.length 0 lo)
theorem cutV_length (xs : List V) (lo hi : Option Int) : (cutV xs lo hi).length ≤ xs.length := by
  unfold cutV
  rw [List.length_take,List.length_drop]
  omega
noncomputable def rSlT (K : PySem.W.Frag) : V → Option Int → Option Int → Hp → VK → Prop := fun x lo hi H Q => ∃ a xs,x = .ref a ∧ SqT K H a xs ∧
  ¬ (HT.sIx xs.length 0 lo = 0 ∧ HT.sIx xs.length xs.length hi = xs.length) ∧ ∀ p,H p = none → Q (.ref p) (upd H p (.tup (cutV xs lo hi)))
theorem sl_tup : SlR X (rSlT X.K) := by
  intro pins s σ H x v vl vu lo hi sl Q I rx hs pl pu h
  obtain ⟨a,xs,rfl,hx,hw,q⟩ := h
  cases rx
  obtain ⟨its,r,ht,hz⟩ := I.tuple hx
  have hlen : its.toArray.size = xs.length := by rw [List.size_toArray]; exact r.length.symm
  refine ⟨"tuple",_,PyProof.Rows.slot_tuple_getitem.lookup,ht.typeIs,?_⟩
  refine HT.getItem_tuple_cut ht hs pl pu (by rw [hlen]; exact hw) ?_ (by rw [hlen]; exact hz)
  rw [hlen]
  refine ⟨.ref s.heap.objs.size,_,I.laid (t' := s.toks) (o := .tup (cutV xs lo hi)) (fun b ob q => Heap.get?_push_of_some _ q) (Nat.le_refl _) ?_,rfl,q _ (I.hok.fresh (Nat.le_refl _))⟩
  exact ⟨Nat.le_trans (cutV_length xs lo hi) hz,_,(r.drop (HT.sIx xs.length 0 lo)).take (HT.sIx xs.length xs.length hi - HT.sIx xs.length 0 lo),IsTup.new _ _⟩
noncomputable def rCatT (K : PySem.W.Frag) : R2 := fun x y H Q => ∃ a b xs ys,x = .ref a ∧ y = .ref b ∧ SqT K H a xs ∧ SqT K H b ys ∧ xs ≠ [] ∧ xs.length + ys.length ≤ sizeLine ∧
  (ys = [] → Q (.ref a) H) ∧ (ys ≠ [] → ∀ p,H p = none → Q (.ref p) (upd H p (.tup (xs ++ ys))))
theorem Vals.nil_iff {xs : List V} {us : List Value} (r : Vals xs us) : us = [] ↔ xs = [] := by
  cases r with
  | nil => simp
  | cons _ _ => simp
theorem op_catT : OpR X (binaryOp .Add) (rCatT X.K) := by
  intro pins s σ H x y v u Q I rx ry h
  obtain ⟨a,b,xs,ys,rfl,rfl,ha,hb,hx,hz,q1,q2⟩ := h
  cases rx
  cases ry
  obtain ⟨its,r1,p1,_⟩ := I.tuple ha
  obtain ⟨its2,r2,p2,_⟩ := I.tuple hb
  refine HT.cat_tup p1 p2 (fun z => hx (r1.nil_iff.mp z)) (fun z => ⟨.ref a,H,I,rfl,q1 (r2.nil_iff.mp z)⟩) (fun z => ?_) (by rw [← r1.length,← r2.length]; exact hz)
  refine ⟨.ref s.heap.objs.size,_,I.laid (t' := s.toks) (o := .tup (xs ++ ys)) (fun b ob q => Heap.get?_push_of_some _ q) (Nat.le_refl _) ?_,rfl,q2 (fun w => z (r2.nil_iff.mpr w)) _ (I.hok.fresh (Nat.le_refl _))⟩
  exact ⟨by rw [List.length_append]; exact hz,_,r1.append r2,IsTup.new _ _⟩
end
end L2
namespace L2
open PySem PySem.Spec PyProof.Rows
noncomputable def ixN (n : Nat) (i : Int) : Option Nat := if 0 ≤ i then (if i < n then some i.toNat else none) else if -(n : Int) ≤ i then some (i + n).toNat else none
noncomputable def atI {α : Type} (xs : List α) (i : Int) : Option α := (ixN xs.length i).bind fun j => xs[j]?
theorem ixN_seq {n : Nat} {i : Int} {j : Nat} (h : ixN n i = some j) : seqIndex? i n = some j ∧ j < n ∧ -(n : Int) ≤ i ∧ i < n := by
  unfold ixN at h
  by_cases h0 : 0 ≤ i
  · rw [if_pos h0] at h
    by_cases h1 : i < n
    · rw [if_pos h1] at h
      have e : i.toNat = j := Option.some.inj h
      exact ⟨by rw [seqIndex_of h0 h1,e],by omega,by omega,h1⟩
    · rw [if_neg h1] at h; cases h
  · rw [if_neg h0] at h
    by_cases h1 : -(n : Int) ≤ i
    · rw [if_pos h1] at h
      have e : (i + n).toNat = j := Option.some.inj h
      exact ⟨by rw [seqIndex_neg (by omega) h1,e],by omega,h1,by omega⟩
    · rw [if_neg h1] at h; cases h
theorem atI_get {α : Type} {xs : List α} {i : Int} {v : α} (h : atI xs i = some v) : ∃ j,seqIndex? i xs.length = some j ∧ xs[j]? = some v ∧ j < xs.length ∧ -(xs.length : Int) ≤ i ∧ i < xs.length := by
  unfold atI at h
  cases e : ixN xs.length i with
  | none => rw [e] at h; cases h
  | some j =>
    rw [e] at h
    obtain ⟨h1,h2,h3,h4⟩ := ixN_seq e
    exact ⟨j,h1,h,h2,h3,h4⟩
theorem atI_nat {α : Type} {xs : List α} {j : Nat} {v : α} (h : xs[j]? = some v) : atI xs (j : Int) = some v := by
  have hj : j < xs.length := (List.getElem?_eq_some_iff.mp h).1
  have e : ixN xs.length (j : Int) = some j := by
    unfold ixN
    rw [if_pos (by omega),if_pos (by omega)]; simp
  unfold atI; rw [e]; exact h
noncomputable def PlainIx (b : Expr) : Prop := ∀ o i,subscripted b false o i = operate [o,i] (getItem o i)
noncomputable def IxR (X : Cx) (r : R2) : Prop :=
  ∀ (value slice : Expr) (pins : List (Addr × Obj)) (s : Shared) (σ : St) (H : Hp) (x y : V) (v u : Value) (Q : VK),Inv X pins σ H s → RelV x v → RelV y u → r x y H Q →
    subscripted slice false v u = operate [v,u] (getItem v u) → wpAny (model X.prog X.w) X.A (subscriptTail value slice v u) (EP X pins σ Q) X.xe s
noncomputable def MtR (X : Cx) (id : String) (r : V → List V → Hp → VK → Prop) : Prop :=
  ∀ (pins : List (Addr × Obj)) (s : Shared) (σ : St) (H : Hp) (x : V) (xs : List V) (v : Value) (us : List Value) (Q : VK),Inv X pins σ H s → RelV x v → Vals xs us → r x xs H Q →
    wpAny (model X.prog X.w) X.A (call (.builtin id) (v :: us)) (EP X pins σ Q) X.xe s
section
variable {X : Cx} {a b : Expr} {ta tb : TE} {pos : Pos}
theorem IxR.or {r r' : R2} (h : IxR X r) (h' : IxR X r') : IxR X (fun x y H Q => r x y H Q ∨ r' x y H Q) := by
  intro value slice pins s σ H x y v u Q I rx ry q hs
  rcases q with q | q
  · exact h value slice pins s σ H x y v u Q I rx ry q hs
  · exact h' value slice pins s σ H x y v u Q I rx ry q hs
theorem pe_ix {r : R2} (hr : IxR X r) (ha : PE X a ta) (hb : PE X b tb) (hs : PlainIx b) : PE X (.Subscript a b pos) (tOp r ta tb) := by
  intro pins s σ H Q I h
  exact Subscript_ (binT ha hb I h fun v u s2 x y H2 I2 rx ry q => hr a b pins s2 σ H2 x y v u Q I2 rx ry q (hs _ _))
noncomputable def rIxL (K : PySem.W.Frag) : R2 := fun x y H Q => ∃ p xs i v,x = .ref p ∧ y = .int i ∧ SqL K H p xs ∧ atI xs i = some v ∧ Q v H
noncomputable def rIxT (K : PySem.W.Frag) : R2 := fun x y H Q => ∃ p xs i v,x = .ref p ∧ y = .int i ∧ SqT K H p xs ∧ atI xs i = some v ∧ Q v H
noncomputable def rIxS : R2 := fun x y H Q => ∃ z i c,x = .str z ∧ y = .int i ∧ z.length ≤ sizeLine ∧ atI z.cps.toList i = some c ∧ Q (.str ⟨#[c]⟩) H
theorem ix_list : IxR X (rIxL X.K) := by
  intro value slice pins s σ H x y v u Q I rx ry h hs
  obtain ⟨p,xs,i,z,rfl,rfl,hq,he,q⟩ := h
  cases rx
  obtain ⟨t,rfl⟩ := ry
  obtain ⟨its,r,pl,hz⟩ := I.list hq
  obtain ⟨j,h1,h2,h3,h4,h5⟩ := atI_get he
  obtain ⟨w,ew,rw'⟩ := r.get h2
  have hl := r.length
  have hn := line63
  have fin : EP X pins σ Q w s := ⟨z,H,I,rw',q⟩
  by_cases h0 : 0 ≤ i
  · have hj : i.toNat = j := by
      rw [seqIndex_of h0 h5] at h1
      exact Option.some.inj h1
    exact item_listR pl.isList h0 (by omega) (by rw [hj]; simpa using ew) fin hs
  · have hj : (i + (its.toArray.size : Int)).toNat = j := by
      rw [seqIndex_neg (by omega) h4] at h1
      rw [List.size_toArray,← hl]
      exact Option.some.inj h1
    exact subscriptTail_builtinR (x := w) pl.isList.typeIs slot_list_getitem.lookup
      (wpAny_getItem_list_neg (Q := fun r s' => r = w ∧ EP X pins σ Q r s') pl.isList (by omega) (by rw [List.size_toArray] <;> omega) (by omega) (by rw [hj]; simpa using ew) ⟨rfl,fin⟩) hs
theorem ix_tup : IxR X (rIxT X.K) := by
  intro value slice pins s σ H x y v u Q I rx ry h hs
  obtain ⟨p,xs,i,z,rfl,rfl,hq,he,q⟩ := h
  cases rx
  obtain ⟨t,rfl⟩ := ry
  obtain ⟨its,r,pl,hz⟩ := I.tuple hq
  obtain ⟨j,h1,h2,h3,h4,h5⟩ := atI_get he
  obtain ⟨w,ew,rw'⟩ := r.get h2
  have hl := r.length
  have hn := line63
  have fin : EP X pins σ Q w s := ⟨z,H,I,rw',q⟩
  exact subscriptTail_builtinR (x := w) pl.typeIs slot_tuple_getitem.lookup
    (getItem_tuple (j := j) (Q := fun r s' => r = w ∧ EP X pins σ Q r s') pl (by omega) (by omega) (by rw [List.size_toArray,← hl]; exact h1) (by simpa using ew) ⟨rfl,fin⟩) hs
theorem ix_str : IxR X rIxS := by
  intro value slice pins s σ H x y v u Q I rx ry h hs
  obtain ⟨z,i,c,rfl,rfl,hz,he,q⟩ := h
  obtain ⟨t,rfl⟩ := rx
  obtain ⟨t',rfl⟩ := ry
  obtain ⟨j,h1,h2,h3,h4,h5⟩ := atI_get he
  have hl : z.cps.toList.length = z.length := by simp [Str.length]
  rw [hl] at h1 h4 h5
  have hn := line63
  exact tail_any (typeIs_str s z t) slot_str_getitem.lookup (getItem_str (c := c) (by
    have e1 : decide (i < -(2 ^ 63 : Int)) = false := decide_eq_false (by omega)
    have e2 : decide (i ≥ 2 ^ 63) = false := decide_eq_false (by omega)
    rw [e1,e2,Bool.or_false]) (by rw [h1]; simpa using h2) ⟨.str ⟨#[c]⟩,H,I.tok _,⟨_,rfl⟩,q⟩) hs
noncomputable def rIx (K : PySem.W.Frag) : R2 := fun x y H Q => rIxL K x y H Q ∨ rIxT K x y H Q ∨ rIxS x y H Q
theorem ix_seq : IxR X (rIx X.K) := ix_list.or (ix_tup.or ix_str)
theorem mapSeq_set (its : List Value) (n j : Nat) (u : Value) : Obj.mapSeq (·.setIfInBounds j u) { cls := .type "list",data := .seq its.toArray n } = { cls := .type "list",data := .seq (its.set j u).toArray n } := by
  simp [Obj.mapSeq]
theorem Inv.lst {pins : List (Addr × Obj)} {σ : St} {H : Hp} {s : Shared} {p : Addr} {xs : List V} (I : Inv X pins σ H s) (h : H p = some (.lst xs)) :
    ∃ (its : List Value) (n : Nat),Vals xs its ∧ s.heap.get? p = some { cls := .type "list",data := .seq its.toArray n } ∧ xs.length ≤ sizeLine := by
  obtain ⟨z,its,n,r,e⟩ := I.hok p _ h
  exact ⟨its,n,r,e,z⟩
theorem Inv.lstUpd {pins : List (Addr × Obj)} {σ : St} {H : Hp} {s : Shared} {p : Addr} {xs ys : List V} {its its' : List Value} {n n' : Nat} {f : Obj → Obj} (I : Inv X pins σ H s) (h : H p = some (.lst xs))
    (ho : s.heap.get? p = some { cls := .type "list",data := .seq its.toArray n }) (hf : f { cls := .type "list",data := .seq its.toArray n } = { cls := .type "list",data := .seq its'.toArray n' }) (r : Vals ys its') (hz : ys.length ≤ sizeLine) (t : Nat) :
    Inv X pins σ (upd H p (.lst ys)) { s with heap := s.heap.update p f,toks := t } := by
  have e : (s.heap.update p f).get? p = some { cls := .type "list",data := .seq its'.toArray n' } := by
    rw [Heap.get?_update_self f ho (by rw [hf] <;> rfl),hf]
  refine I.write (x := p) (e := p) (by rw [h]; trivial) (.inl rfl) (fun b u hb q => (Heap.get?_update_other _ _ (Ne.symm hb)).trans q) ⟨_,e⟩ ?_
  exact ⟨hz,its',n',r,e⟩
inductive SSet (o i v : V) (H : Hp) (Q : Hp → Prop) : Prop | mk (p : Addr) (xs : List V) (k : Int) (j : Nat) (ho : o = .ref p) (hi : i = .int k) (hp : H p = some (.lst xs)) (hj : ixN xs.length k = some j) (q : Q (upd H p (.lst (xs.set j v))))
noncomputable def rSetL : V → V → V → Hp → (Hp → Prop) → Prop := fun o i v H Q => SSet o i v H Q
theorem set_list : PSet X rSetL := by
  intro pins s σ H o i v ov iv u Q I ro ri rv h
  obtain ⟨p,xs,k,j,rfl,rfl,hp,hj,q⟩ := h
  cases ro
  obtain ⟨t,rfl⟩ := ri
  obtain ⟨its,n,r,ho,hz⟩ := I.lst hp
  obtain ⟨h1,h2,h3,h4⟩ := ixN_seq hj
  have hl := r.length
  have hn := line63
  have I' : Inv X pins σ (upd H p (.lst (xs.set j v))) { s with heap := s.heap.update p (Obj.mapSeq (·.setIfInBounds j u)) } :=
    I.lstUpd hp ho (mapSeq_set its n j u) (r.set rv j) (by rw [List.length_set]; exact hz) s.toks
  by_cases h0 : 0 ≤ k
  · have hk : k.toNat = j := by
      rw [seqIndex_of h0 h4] at h1
      exact Option.some.inj h1
    exact PySem.W.ki_setAt ho h0 (by omega) (by rw [List.size_toArray,← hl]; exact h4) (by rw [hk]; exact ⟨_,I',q⟩)
  · have hk : (k + (its.toArray.size : Int)).toNat = j := by
      rw [seqIndex_neg (by omega) h3] at h1
      rw [List.size_toArray,← hl]
      exact Option.some.inj h1
    exact PySem.W.ki_setBack ho (by omega) (by rw [List.size_toArray,← hl]; exact h3) (by omega) (by rw [hk]; exact ⟨_,I',q⟩)
theorem slice_bounds (lo hi : Option Int) (n : Nat) : (sliceBounds lo hi none n).1 = ((HT.sIx n 0 lo : Nat) : Int) ∧ (sliceBounds lo hi none n).2.1 = ((HT.sIx n n hi : Nat) : Int) ∧ (sliceBounds lo hi none n).2.2 = 1 := by
  refine ⟨?_,?_,rfl⟩
  · cases lo with
    | none => simp [sliceBounds,HT.sIx]
    | some i =>
      simp only [sliceBounds,HT.sIx,Option.getD_none,show (1 : Int) > 0 by decide,if_true]
      by_cases h : i < 0
      · simp only [h,if_true] <;> omega
      · simp only [h,if_false] <;> omega
  · cases hi with
    | none => simp [sliceBounds,HT.sIx]
    | some i =>
      simp only [sliceBounds,HT.sIx,Option.getD_none,show (1 : Int) > 0 by decide,if_true]
      by_cases h : i < 0
      · simp only [h,if_true] <;> omega
      · simp only [h,if_false] <;> omega
theorem slicePick_cut (its : List Value) (lo hi : Option Int) : slicePick its.toArray lo hi none = ((its.drop (HT.sIx its.length 0 lo)).take (HT.sIx its.length its.length hi - HT.sIx its.length 0 lo)).toArray := by
  obtain ⟨h1,h2,h3⟩ := slice_bounds lo hi its.toArray.size
  unfold slicePick
  rw [h1,h2,h3]
  simp only [sliceRange_one,pick_run,List.size_toArray] <;> rfl
noncomputable def rSlL (K : PySem.W.Frag) : V → Option Int → Option Int → Hp → VK → Prop := fun x lo hi H Q => ∃ a xs,x = .ref a ∧ SqL K H a xs ∧ ∀ p,H p = none → Q (.ref p) (upd H p (.lst (cutV xs lo hi)))
theorem sl_list : SlR X (rSlL X.K) := by
  intro pins s σ H x v vl vu lo hi sl Q I rx hs pl pu h
  obtain ⟨a,xs,rfl,hx,q⟩ := h
  cases rx
  obtain ⟨its,r,ht,hz⟩ := I.list hx
  have hlen := r.length
  refine ⟨"list",_,slot_list_getitem.lookup,ht.isList.typeIs,?_⟩
  refine wpAny_getItem_list_slice ht.isList hs pl pu .none (by simp) ?_ (by rw [List.size_toArray] <;> omega)
  rw [slicePick_cut,← hlen]
  refine ⟨.ref s.heap.objs.size,_,I.laid (t' := s.toks) (o := .lst (cutV xs lo hi)) (fun b ob q => Heap.get?_push_of_some _ q) (Nat.le_refl _) ?_,rfl,q _ (I.hok.fresh (Nat.le_refl _))⟩
  exact ⟨Nat.le_trans (cutV_length xs lo hi) hz,_,0,(r.drop (HT.sIx xs.length 0 lo)).take (HT.sIx xs.length xs.length hi - HT.sIx xs.length 0 lo),Heap.get?_push_size _ rfl⟩
noncomputable def flatV : V → Bool
  | .non => true
  | .bl _ => true
  | .int _ => true
  | .str _ => true
  | _ => false
noncomputable def eqV : V → V → Bool
  | .non,.non => true
  | .bl a,.bl b => a == b
  | .bl a,.int b => (if a then 1 else 0) == b
  | .int a,.bl b => a == (if b then 1 else 0)
  | .int a,.int b => a == b
  | .str a,.str b => a == b
  | _,_ => false
theorem eqAt_V {A : Around} {s : Shared} {y x : V} {u v : Value} (ry : RelV y u) (rx : RelV x v) (fy : flatV y = true) (fx : flatV x = true) : SeqAt.EqAt A s u v (eqV y x) := by
  cases y with
  | non =>
    cases ry
    cases x with
    | non => cases rx; exact SeqAt.EqAt.same _
    | bl b => cases rx; exact SeqAt.EqAt.none_bool b
    | int b => obtain ⟨t,rfl⟩ := rx; exact SeqAt.EqAt.none_int b t
    | str b => obtain ⟨t,rfl⟩ := rx; exact SeqAt.EqAt.none_str b t
    | _ => exact absurd (show false = true from fx) Bool.false_ne_true
  | bl a =>
    cases ry
    cases x with
    | non => cases rx; exact SeqAt.EqAt.bool_none a
    | bl b => cases rx; exact SeqAt.EqAt.bool_bool a b
    | int b => obtain ⟨t,rfl⟩ := rx; exact SeqAt.EqAt.bool_int a b t
    | str b => obtain ⟨t,rfl⟩ := rx; exact SeqAt.EqAt.bool_str a b t
    | _ => exact absurd (show false = true from fx) Bool.false_ne_true
  | int a =>
    obtain ⟨t',rfl⟩ := ry
    cases x with
    | non => cases rx; exact SeqAt.EqAt.int_none a t'
    | bl b => cases rx; exact SeqAt.EqAt.int_bool a t' b
    | int b => obtain ⟨t,rfl⟩ := rx; exact SeqAt.EqAt.int_int a t' b t
    | str b => obtain ⟨t,rfl⟩ := rx; exact SeqAt.EqAt.int_str a t' b t
    | _ => exact absurd (show false = true from fx) Bool.false_ne_true
  | str a =>
    obtain ⟨t',rfl⟩ := ry
    cases x with
    | non => cases rx; exact SeqAt.EqAt.str_none a t'
    | bl b => cases rx; exact SeqAt.EqAt.str_bool a t' b
    | int b => obtain ⟨t,rfl⟩ := rx; exact SeqAt.EqAt.str_int a t' b t
    | str b => obtain ⟨t,rfl⟩ := rx; exact SeqAt.EqAt.str_str a t' b t
    | _ => exact absurd (show false = true from fx) Bool.false_ne_true
  | _ => exact absurd (show false = true from fy) Bool.false_ne_true
theorem call_list_of : CallR X (.type "list") (fun xs H Q => ∃ p ys,xs = [.ref p] ∧ (SqL X.K H p ys ∨ SqT X.K H p ys) ∧ ∀ l,H l = none → Q (.ref l) (upd H l (.lst ys))) := by
  intro pins s σ H xs us Q I r h
  obtain ⟨p,ys,rfl,hq,q⟩ := h
  obtain ⟨u,rfl,rx⟩ := vals1 r
  cases rx
  have fin : ∀ (its : List Value),Vals ys its → ys.length ≤ sizeLine → ∀ (h' : Heap) (c' : Nat),(∀ b o',s.heap.get? b = some o' → h'.get? b = some o') →
      h'.get? s.heap.objs.size = some { cls := .type "list",dict := none,data := .seq its.toArray c',slots := #[] } → EP X pins σ Q (.ref s.heap.objs.size) { s with heap := h' } := fun its r' hz h' c' kp e =>
    ⟨.ref s.heap.objs.size,_,I.laid (t' := s.toks) kp (Nat.le_refl _) (show ObjOk X.prog X.w _ h' _ (.lst ys) from ⟨hz,its,c',r',e⟩),rfl,q _ (I.hok.fresh (Nat.le_refl _))⟩
  rcases hq with hq | hq
  · obtain ⟨its,r',pl,hz⟩ := I.list hq
    have hlen := r'.length
    obtain ⟨o,ho,hc,n,hd⟩ := pl.isList
    exact call_list_seq p (.inl rfl) ho hc hd (fun h' c' kp e => fin its r' hz h' c' kp e) (by simp only [List.size_toArray] <;> omega)
  · obtain ⟨its,r',pl,hz⟩ := I.tuple hq
    have hlen := r'.length
    obtain ⟨o,ho,hc,n,hd⟩ := pl
    exact call_list_seq p (.inr rfl) ho hc hd (fun h' c' kp e => fin its r' hz h' c' kp e) (by simp only [List.size_toArray] <;> omega)
theorem call_tuple_of : CallR X (.type "tuple") (fun xs H Q => ∃ p ys,xs = [.ref p] ∧ ((SqL X.K H p ys ∧ ∀ l,H l = none → Q (.ref l) (upd H l (.tup ys))) ∨ (SqT X.K H p ys ∧ Q (.ref p) H))) := by
  intro pins s σ H xs us Q I r h
  obtain ⟨p,ys,rfl,h⟩ := h
  obtain ⟨u,rfl,rx⟩ := vals1 r
  cases rx
  rcases h with ⟨hq,q⟩ | ⟨hq,q⟩
  · obtain ⟨its,r',pl,hz⟩ := I.list hq
    have hlen := r'.length
    refine call_tuple_list pl.isList (fun h' kp => ?_) (by simp only [List.size_toArray] <;> omega)
    have I1 : Inv X pins σ H { s with heap := h' } := I.kept (t' := s.toks) kp
    have I2 : Inv X pins σ (upd H h'.objs.size (.tup ys)) { s with heap := h'.push { cls := .type "tuple",data := .seq its.toArray } } :=
      I1.laid (t' := s.toks) (fun b o e => Heap.get?_push_of_some _ e) (Nat.le_refl _) (show ObjOk X.prog X.w _ _ _ (.tup ys) from ⟨hz,its,r',IsTup.new _ _⟩)
    exact ⟨.ref h'.objs.size,_,I2,rfl,q _ (I1.hok.fresh (Nat.le_refl _))⟩
  · obtain ⟨its,r',pl,hz⟩ := I.tuple hq
    exact call_tuple_same pl ⟨.ref p,H,I,rfl,q⟩
noncomputable def tyV (K : PySem.W.Frag) (T : String) (x : V) (H : Hp) : Prop := match x with
  | .str _ => T = "str"
  | .int _ => T = "int"
  | .ref p => (T = "list" ∧ ∃ xs,SqL K H p xs) ∨ (T = "tuple" ∧ ∃ o,K.lookup p = some o ∧ o.cls = .type "tuple" ∧ o.dict = none) ∨
      (T = "dict" ∧ ((∃ kvs,H p = some (.dK kvs)) ∨ ∃ kvs,H p = some (.dT kvs))) ∨ (T = "set" ∧ ∃ S n,H p = some (.set S n))
  | _ => False
theorem tyV_is {pins : List (Addr × Obj)} {σ : St} {H : Hp} {s : Shared} {T : String} {x : V} {v : Value} (I : Inv X pins σ H s) (r : RelV x v) (ty : tyV X.K T x H) :
    s.TypeIs v T ∧ ∀ a,v = .ref a → ∃ ob,s.heap.get? a = some ob ∧ ob.dict = none := by
  cases x with
  | str z =>
    obtain ⟨t,rfl⟩ := r
    cases (show T = "str" from ty)
    exact ⟨typeIs_str s z t,fun _ e => nomatch e⟩
  | int i =>
    obtain ⟨t,rfl⟩ := r
    cases (show T = "int" from ty)
    exact ⟨typeIs_int s i t,fun _ e => nomatch e⟩
  | ref p =>
    cases r
    rcases ty with ⟨rfl,xs,hq⟩ | ⟨rfl,o,hk,hc,hd⟩ | ⟨rfl,hk⟩ | ⟨rfl,S,n,hk⟩
    · obtain ⟨its,_,pl,_⟩ := I.list hq
      refine ⟨pl.isList.typeIs,fun a e => ?_⟩
      cases e
      obtain ⟨o,n,e,c,hd,_⟩ := pl
      exact ⟨o,e,hd⟩
    · refine ⟨⟨o,I.kIn p o hk,hc⟩,fun a e => ?_⟩
      cases e
      exact ⟨o,I.kIn _ o hk,hd⟩
    · have z : ∃ o,s.heap.get? p = some o ∧ o.ExactDict := by
        rcases hk with ⟨kvs,hk⟩ | ⟨kvs,hk⟩
        · obtain ⟨_,_,_,_,o,_,_,e,ex,_⟩ := I.hok p _ hk
          exact ⟨o,e,ex⟩
        · obtain ⟨_,_,_,_,o,_,_,e,ex,_⟩ := I.hok p _ hk
          exact ⟨o,e,ex⟩
      obtain ⟨o,e,ex⟩ := z
      refine ⟨⟨o,e,ex.1⟩,fun a e2 => ?_⟩
      cases e2
      exact ⟨o,e,ex.2.1⟩
    · obtain ⟨o,_,_,_,e,ex,_⟩ := I.hok p _ hk
      refine ⟨⟨o,e,ex.1⟩,fun a e2 => ?_⟩
      cases e2
      exact ⟨o,e,ex.2.1⟩
  | _ => exact False.elim ty
noncomputable def tBM0 (K : PySem.W.Frag) (T : String) (r : V → List V → Hp → VK → Prop) (to : TE) : TE := fun σ H Q => to σ H fun x H1 => tyV K T x H1 ∧ r x [] H1 Q
noncomputable def tBM (K : PySem.W.Frag) (T : String) (r : V → List V → Hp → VK → Prop) (to : TE) (t : TA) : TE := fun σ H Q => to σ H fun x H1 => tyV K T x H1 ∧ t σ H1 fun xs H2 => r x xs H2 Q
variable {o e : Expr} {es : List Expr} {to : TE} {t : TA} {name : Str} {apos cpos : Pos} {T id : String} {r : V → List V → Hp → VK → Prop}
theorem pe_bm0 (pa : PlainAttrs T) (slot : Slot T name id) (hty : typeOf (.builtin id) = pure (.type "method_descriptor")) (hm : MtR X id r) (ho : PE X o to)
    (hbase : attributeBase o name X.env (eval o X.env) = eval o X.env := by rfl) (hline : (apos.endLine == cpos.line) = true := by rfl) : PE X (.Call (.Attribute o name apos) [] [] cpos) (tBM0 X.K T r to) := by
  intro pins s σ H Q I h
  refine wpAny_Call_method0_late hbase hline (thn (ho pins s σ H _ I h) fun v s1 ⟨x,H1,I1,r1,ty,q1⟩ => ?_)
  obtain ⟨h1,h2⟩ := tyV_is I1 r1 ty
  exact ⟨T,id,pa,slot,hty,h1,h2,Calls.callWith_builtin rfl (PySem.evalArgs_none (hm pins s1 σ H1 x [] v [] Q I1 r1 .nil q1))⟩
theorem pe_bm (pa : PlainAttrs T) (slot : Slot T name id) (hty : typeOf (.builtin id) = pure (.type "method_descriptor")) (hm : MtR X id r) (ho : PE X o to) (ha : PA X (e :: es) t)
    (hbase : attributeBase o name X.env (eval o X.env) = eval o X.env := by rfl)
    (hfew : ((backTo cpos (starEach (e :: es) X.env)).all (fun x => !x.1) && (backToKw cpos (keywordEach [] X.env)).all (fun x => x.1.isSome)
      && decide ((e :: es).length + ([] : List Keyword).length + (if ([] : List Keyword).isEmpty then 0 else 1) < 30)) = true := by rfl)
    (hline : (apos.endLine == cpos.line) = true := by rfl) (hs : starEach (e :: es) X.env = (false,eval e X.env) :: starEach es X.env := by rfl) (hplain : (backTo cpos (starEach es X.env)).any (·.1) = false := by rfl) :
    PE X (.Call (.Attribute o name apos) (e :: es) [] cpos) (tBM X.K T r to t) := by
  intro pins s σ H Q I h
  refine wpAny_Call_method_late hbase hfew hline rfl (thn (ho pins s σ H _ I h) fun v s1 ⟨x,H1,I1,r1,ty,q1⟩ => ?_)
  obtain ⟨h1,h2⟩ := tyV_is I1 r1 ty
  refine ⟨T,id,pa,slot,hty,h1,h2,?_⟩
  have hA := ha cpos pins s1 σ H1 _ I1 q1
  rw [hs] at hA ⊢
  refine Calls.callWith_builtin (by show (false || (backTo cpos (starEach es X.env)).any (·.1)) = false; rw [hplain] <;> rfl) (Calls.evalArgs_plain ?_)
  exact thn hA fun us s2 ⟨vs,H2,I2,r2,q2⟩ => hm pins s2 σ H2 x vs v us Q I2 r1 r2 q2
/- xs.append(e),list.index on a module's tuple .. are MtR facts of 06m -/
end
end L2
namespace L2
open PySem PySem.Spec PyProof.Rows
noncomputable def MtM (X : Cx) (id : String) (r : V → List V → Hp → VK → Prop) : Prop :=
  ∀ (pins : List (Addr × Obj)) (s : Shared) (σ : St) (H : Hp) (x : V) (xs : List V) (v : Value) (us : List Value) (Q : VK),Inv X pins σ H s → RelV x v → Vals xs us → r x xs H Q →
    wpAny (model X.prog X.w) X.A (call (.builtin id) (v :: us)) (EP X pins σ Q) X.xe s
theorem Vals.one {x : V} {us : List Value} (h : Vals [x] us) : ∃ u,us = [u] ∧ RelV x u := by
  cases h with
  | cons r h => cases h; exact ⟨_,rfl,r⟩
theorem Vals.two {x y : V} {us : List Value} (h : Vals [x,y] us) : ∃ u v,us = [u,v] ∧ RelV x u ∧ RelV y v := by
  cases h with
  | cons r h =>
    obtain ⟨v,rfl,q⟩ := Vals.one h
    exact ⟨_,_,rfl,r,q⟩
theorem Vals.rep {xs : List V} {us : List Value} (h : Vals xs us) : ∀ k : Nat,Vals (List.replicate k xs).flatten (List.replicate k us).flatten
  | 0 => .nil
  | k + 1 => by
    rw [List.replicate_succ,List.replicate_succ,List.flatten_cons,List.flatten_cons]
    exact Vals.append h (Vals.rep h k)
theorem foldl_rep (its : List Value) : ∀ (k : Nat) (acc : List Value),
    List.foldl (fun x1 x2 => x1 ++ x2) acc.toArray (List.replicate k its.toArray) = (acc ++ (List.replicate k its).flatten).toArray
  | 0,acc => by simp
  | k + 1,acc => by
    have e : acc.toArray ++ its.toArray = (acc ++ its).toArray := by simp
    have e2 : (acc ++ its) ++ (List.replicate k its).flatten = acc ++ (List.replicate (k + 1) its).flatten := by
      rw [List.replicate_succ,List.flatten_cons,List.append_assoc]
    rw [← e2,← foldl_rep its k (acc ++ its),← e,List.replicate_succ,List.foldl_cons]
section
variable {X : Cx} {pins : List (Addr × Obj)} {σ : St} {H : Hp} {s : Shared} {l b : Addr} {xs ys zs : List V}
theorem Inv.lset {its its' : List Value} {n : Nat} {f : Array Value → Array Value} {t' : Nat} (I : Inv X pins σ H s) (hH : H l = some (.lst xs))
    (e : s.heap.get? l = some { cls := .type "list",data := .seq its.toArray n }) (hf : f its.toArray = its'.toArray) (hv : Vals ys its') (hz : ys.length ≤ sizeLine) :
    Inv X pins σ (upd H l (.lst ys)) { s with heap := s.heap.update l (Obj.mapSeq f),toks := t' } := by
  have q := PySem.IsL.update e f
  rw [hf] at q
  refine I.write (x := l) (e := l) (by rw [hH]; exact trivial) (.inl rfl) (fun b' u hb hu => (Heap.get?_update_other s.heap (Obj.mapSeq f) (Ne.symm hb)).trans hu) ⟨_,q⟩ ?_
  exact ⟨hz,its',_,hv,q⟩
theorem Inv.lnew {its : List Value} {t' : Nat} (I : Inv X pins σ H s) (hv : Vals ys its) (hz : ys.length ≤ sizeLine) :
    Inv X pins σ (upd H s.heap.objs.size (.lst ys)) { s with heap := s.heap.push { cls := .type "list",data := .seq its.toArray },toks := t' } :=
  I.laid (fun _ _ q => Heap.get?_push_of_some _ q) (Nat.le_refl _) ⟨hz,its,0,hv,Heap.get?_push_size _ rfl⟩
theorem Inv.fresh (I : Inv X pins σ H s) : H s.heap.objs.size = none := I.hok.fresh (Nat.le_refl _)
theorem Inv.lstM (I : Inv X pins σ H s) (hH : H l = some (.lst xs)) : xs.length ≤ sizeLine ∧ ∃ (its : List Value) (n : Nat),Vals xs its ∧ xs.length = its.length ∧ s.heap.get? l = some { cls := .type "list",data := .seq its.toArray n } := by
  obtain ⟨z,its,n,r,e⟩ := I.hok l _ hH
  exact ⟨z,its,n,r,r.length,e⟩
theorem notLongL {n : Nat} (h : n ≤ sizeLine) : Builtin.List.listTooLong n = false := by
  unfold Builtin.List.listTooLong
  exact decide_eq_false (by omega)
end
section
variable {X : Cx}
inductive SApp (x : V) (vs : List V) (H : Hp) (Q : VK) : Prop | mk (l : Addr) (xs : List V) (y : V) (hx : x = .ref l) (hv : vs = [y]) (hl : H l = some (.lst xs)) (hz : xs.length < sizeLine) (q : Q .non (upd H l (.lst (xs ++ [y]))))
noncomputable def rAppend : V → List V → Hp → VK → Prop := fun x vs H Q => SApp x vs H Q
theorem mt_append : MtM X "list.append" rAppend := by
  intro pins s σ H x vs v us Q I rx rv h
  obtain ⟨l,xs,y,rfl,rfl,hH,hz,q⟩ := h
  cases rx
  obtain ⟨u,rfl,ru⟩ := rv.one
  obtain ⟨z,its,n,r,hl,e⟩ := I.lstM hH
  refine call_meets F.slot_list_append ⟨_,e,rfl⟩ F.entry_list_append (F.args_list_append_2 _ _) (PySem.list_append l its.toArray n u (by rw [List.size_toArray]; omega)) ⟨e,?_⟩
  refine ⟨.non,_,I.lset (its' := its ++ [u]) hH e (by simp) (r.append (.cons ru .nil)) ?_,rfl,q⟩
  rw [List.length_append,List.length_singleton]
  omega
noncomputable def rCat : R2 := fun x y H Q => ∃ l b xs zs,x = .ref l ∧ y = .ref b ∧ H l = some (.lst xs) ∧ H b = some (.lst zs) ∧ xs.length + zs.length ≤ sizeLine ∧ ∀ p,H p = none → Q (.ref p) (upd H p (.lst (xs ++ zs)))
theorem op_cat : OpR X (binaryOp .Add) rCat := by
  intro pins s σ H x y v u Q I rx ry h
  obtain ⟨l,b,xs,zs,rfl,rfl,hH,hB,hz,q⟩ := h
  cases rx
  cases ry
  obtain ⟨z,its,n,r,hl,e⟩ := I.lstM hH
  obtain ⟨z2,its2,n2,r2,hl2,e2⟩ := I.lstM hB
  refine PySem.P.add_list e e2 ?_ (by rw [List.size_toArray,List.size_toArray]; omega)
  have ea : its.toArray ++ its2.toArray = (its ++ its2).toArray := by simp
  rw [ea]
  exact ⟨.ref _,_,I.lnew (t' := s.toks) (r.append r2) (by rw [List.length_append]; omega),rfl,q _ I.fresh⟩
noncomputable def rRep : R2 := fun x y H Q => ∃ l k xs,x = .ref l ∧ y = .int k ∧ H l = some (.lst xs) ∧ -(2 ^ 63) ≤ k ∧ k < 2 ^ 63 ∧ xs.length * k.toNat ≤ sizeLine ∧
  ∀ p,H p = none → Q (.ref p) (upd H p (.lst (List.replicate k.toNat xs).flatten))
theorem len_rep {α : Type} (xs : List α) (k : Nat) : (List.replicate k xs).flatten.length = k * xs.length := by
  induction k with
  | zero => simp
  | succ k ih => rw [List.replicate_succ,List.flatten_cons,List.length_append,ih,Nat.succ_mul,Nat.add_comm]
theorem op_rep : OpR X (binaryOp .Mult) rRep := by
  intro pins s σ H x y v u Q I rx ry h
  obtain ⟨l,k,xs,rfl,rfl,hH,h1,h2,hz,q⟩ := h
  cases rx
  obtain ⟨t,rfl⟩ := ry
  obtain ⟨z,its,n,r,hl,e⟩ := I.lstM hH
  have hlen : its.toArray.size * k.toNat ≤ sizeLine := by rw [List.size_toArray,← hl]; exact hz
  have hcap : ¬ its.toArray.size * k.toNat > (2 ^ 63 - 1) / 8 := by
    have : (sizeLine : Nat) ≤ (2 ^ 63 - 1) / 8 := by decide
    omega
  have hfit : ¬ (!Builtin.List.listFitsIndex k) = true := by
    rw [fitsIndex_both h1 h2]
    exact Bool.false_ne_true
  have hlong : ¬ Builtin.List.listTooLong (its.toArray.size * k.toNat) = true := by
    rw [notLongL hlen]
    exact Bool.false_ne_true
  have hnew : List.foldl (fun x1 x2 => x1 ++ x2) #[] (List.replicate (if its.toArray.isEmpty = true then 0 else k.toNat) its.toArray) = (List.replicate k.toNat its).flatten.toArray := by
    have f0 : ∀ m : Nat,List.foldl (fun x1 x2 => x1 ++ x2) #[] (List.replicate m its.toArray) = (List.replicate m its).flatten.toArray := fun m => by
      have := foldl_rep its m []
      rw [List.nil_append] at this
      exact this
    rw [f0]
    cases its with
    | nil => simp
    | cons a r' => rw [if_neg (by simp)]
  refine wpAny_binaryOp_repeat_ref (T := "list") (U := "int") (by decide) ⟨_,e,rfl⟩ (fun s' => typeIs_int s' k t) noFill_list_mul F.fills_int_mul F.slot_int_rmul repeat_list F.slot_int_index.lookup
    (call_meets F.slot_int_rmul (typeIs_int s k t) F.entry_int_rmul (F.args_int_rmul_2 _ _) (int___rmul___int_list k t l its.toArray n)
      ⟨e,rfl,⟨_,e,rfl⟩,call_meets F.slot_list_mul ⟨_,e,rfl⟩ F.entry_list_mul (F.args_list_mul_2 _ _) (AutoListH.list___mul___list_int_3 l its.toArray n k t hfit hcap hlong) ⟨e,?_⟩⟩)
  rw [hnew]
  exact ⟨.ref _,_,I.lnew (t' := s.toks) (r.rep k.toNat) (by rw [len_rep,Nat.mul_comm]; exact hz),rfl,q _ I.fresh⟩
end
section
variable {prog : Program} {w : World} {A : Around} {E : Value → Shared → Prop} {s : Shared}
end
section
variable {X : Cx}
end
end L2
namespace L2
open PySem PySem.Spec PyProof.Rows
section
variable {κ : Type} [DecidableEq κ]
noncomputable def valV (kvs : List (κ × V)) (k : κ) : Option V := (kvs.find? fun kv => decide (kv.1 = k)).map (·.2)
theorem valV_pos {p : κ × V} {r : List (κ × V)} {k : κ} (e : p.1 = k) : valV (p :: r) k = some p.2 := by simp [valV,List.find?_cons,e]
theorem valV_neg {p : κ × V} {r : List (κ × V)} {k : κ} (e : ¬ p.1 = k) : valV (p :: r) k = valV r k := by simp [valV,List.find?_cons,e]
theorem KV.val {kvs : List (κ × V)} {vs : List (κ × Value)} (r : KV kvs vs) (k : κ) : RelO (valV kvs k) (valueAt vs k) := by
  unfold KV at r
  induction r with
  | nil => exact True.intro
  | @cons p q ps qs h t ih =>
    obtain ⟨h1,h2⟩ := h
    by_cases e : p.1 = k
    · have e' : q.1 = k := h1.symm.trans e
      have b : valueAt (q :: qs) k = some q.2 := by simp [valueAt,List.find?_cons,e']
      rw [valV_pos e,b]; exact h2
    · have e' : ¬ q.1 = k := fun z => e (h1.trans z)
      have b : valueAt (q :: qs) k = valueAt qs k := by simp [valueAt,List.find?_cons,e']
      rw [valV_neg e,b]; exact ih
end
section
variable {P : Program} {w : World} {H : Hp} {h : Heap} {a : Addr}
end
section
variable {X : Cx} {pins : List (Addr × Obj)} {σ : St} {H : Hp} {s : Shared} {a : Addr} {y v : V} {u r : Value} {o : Option V} {A : Around} {E : Value → Shared → Prop}
end
section
variable {X : Cx} {pins : List (Addr × Obj)} {σ : St} {H : Hp} {s : Shared} {a : Addr} {kvs : List (Key × V)} {k : Key} {u : Value} {A : Around} {E : Value → Shared → Prop}
end
section
variable {X : Cx} {o i e value : Expr} {pos pos' tpos : Pos} {td ty tv : TE}
end
section
variable {X : Cx} {pos : Pos}
end
section
variable {X : Cx} {pins : List (Addr × Obj)} {σ : St} {H : Hp} {s : Shared} {a : Addr} {y d : V} {u r : Value} {o : Option V} {A : Around} {E : Value → Shared → Prop}
end
section
variable {X : Cx} {o e f : Expr} {apos cpos : Pos} {td ty tx : TE}
end
section
variable {X : Cx} {pins : List (Addr × Obj)} {σ : St} {H : Hp} {s : Shared} {a : Addr} {kvs : List (Key × V)} {A : Around} {E : Value → Shared → Prop}
end
section
variable {X : Cx} {pins : List (Addr × Obj)} {σ : St} {H : Hp} {s : Shared} {a : Addr} {y : V} {u : Value} {A : Around} {E : Value → Shared → Prop}
end
end L2
namespace Att
open PySem PySem.W PySem.Calls PyProof.Rows
theorem ints_of_wellAll {P : Params} {h : Heap} : ∀ (ns : List Int) (vs : List Value),WellAll P h vs (ns.map WData.int) → IntsAre vs ns := by
  intro ns
  induction ns with
  | nil =>
    intro vs w
    rw [List.map_nil] at w
    cases w
    exact .nil
  | cons n ns ih =>
    intro vs w
    rw [List.map_cons] at w
    cases w with
    | cons a b =>
      cases a
      exact .cons _ _ (ih _ b)
theorem script_of {l : OpenLaw} {n : Nat} (hn : l.most = some n) {P : Params} {h : Heap} {args : List WData} {vals : List Value}
    (hpre : l.row.toRowW.claim.pre args = true) (hwl : WellAll P h vals args) :
    ∃ a vs ns,vals = [Value.ref a] ∧ args = [WData.list (ns.map WData.int)] ∧ h.get? a = some { cls := .type "list",data := .seq vs.toArray } ∧ IntsAre vs ns ∧ ns.length ≤ n := by
  have hsh : WShape.hasAll [] args [.list .int] = true := (pre_splitW hpre).1
  have hc : l.pre.holds [] { args := args } = true := (pre_splitW hpre).2
  obtain ⟨d,r,rfl,h1,h2⟩ := hasAllW_cons hsh
  obtain rfl := hasAllW_nil h2
  obtain ⟨xs,rfl,h3⟩ := hasW_list h1
  obtain ⟨ns,rfl⟩ := items_int h3
  have hlen : ns.length ≤ n := by
    unfold OpenLaw.pre at hc
    have h4 : (WTm.not (.lt (.lit (.int (n : Int))) (.len (.arg 0)))).holds [] { args := [.list (ns.map .int)] } = true := by
      have h4 := (holds_andW hc).1
      rw [hn] at h4
      exact h4
    have h5 := condW_of h4 (w_not (w_lt w_lit (w_len_list (w_arg rfl))))
    rw [List.length_map] at h5
    refine Nat.le_of_not_lt fun q => ?_
    have q' : (n : Int) < ((ns.length : Nat) : Int) := by omega
    first
      | (rw [decide_eq_true q'] at h5; exact absurd h5 (by decide))
      | (simp at h5; omega)
  cases hwl with
  | cons w1 w2 =>
    cases w2
    cases w1 with
    | list ho hall => exact ⟨_,_,ns,rfl,rfl,ho,ints_of_wellAll ns _ hall,hlen⟩
theorem post_true (l : OpenLaw) (args : List WData) : l.row.toRowW.claim.post args (.bool true) args = true :=
  postW_of (r := l.row.toRowW) (X := (true == true))
    (show WShape.has [] (.bool true) .bool = true by first | rfl | decide | simp [WShape.has,WShape.arms,WShape.armsAll])
    (show (WTm.eq .res (.lit (.bool true))).value [] { args := args,res := some (.bool true),after := args } = some (.bool (true == true)) from w_eq_bool (w_res rfl) w_lit) rfl
section
variable {prog : Program} {w : World} {A : Around} {E : Value → Shared → Prop} {s : Shared} {K : Frag}
end
end Att
namespace L2
open PySem PySem.Spec PyProof.Rows
theorem vals_ints {vs : List Value} {ns : List Int} (h : IntsAre vs ns) : Vals (ns.map V.int) vs := by
  induction h with
  | nil => exact .nil
  | cons n t h ih => exact .cons ⟨t,rfl⟩ ih
end L2
namespace L2
open PySem PySem.Spec PyProof.Rows
end L2
/- THE LAST THEOREM (shape; LID,My.* are yours):
   My.Adr: a structure of the addresses that your layer names (classes,functions); My.Txt K t: a structure (Prop) of the equations over K;
   My.txt_mk : {K} {implicit addresses ..} (e1 : nsIn K mainGlobals "law" = some (some (.ref f))) (e2 : K.lookup f = some ⟨oc,od,.func (fnOf "law" "law" params body scope dV kV doc pm an cdv ct),sl⟩) (e3 : codeIn K cdv "law" = true) .. : ∃ t,My.Txt K t
set_option maxRecDepth 100000 in
set_option maxHeartbeats 0 in
theorem PySem.Challenge.cw_LID_holds : PySem.Challenge.rw_LID.Holds := by
  w_on; o_law; k_head; (case hw => w_witness2)
  k_fill
  refine L2.walk_of (l := PySem.Challenge.rw_LID) (n := 63) (k := 40) (x := "script") (CX := fun w => ..) (sp := fun _ => My.sp_law) rfl (by decide) rfl ⟨rfl,by decide,by decide⟩ (fun w h Y => PySem.W.kIn_of Y) ?F ?S ?C
  case F =>
    intro w mg fa h KX G hmg
    have T : ∃ t,My.Txt (L2.KOf KX) t := by
      dsimp only [L2.KOf]                          -- K must stand as «<heap const> w.params» for k_is
      refine' My.txt_mk ?e1 ?e2 ?e3 ..
      (case e1 => PySem.W.k_is)                    -- in the order: a name -> its address -> its object -> its parts
      (case e2 => PySem.W.k_is)
      ..
    obtain ⟨t,T⟩ := T
    have e0 := hmg.symm.trans (PySem.W.mg_of KX G T.law)
    cases e0                                       -- fa is the law's own address
    exact ⟨_,fun s u => .of_eq rfl,fun base kb nb => My.law_fn T kb nb⟩     -- if «.of_eq rfl» comes too early: refine' ⟨_,?b,fun base kb nb => My.law_fn T kb nb⟩; exact fun s u => .of_eq rfl
  case S => exact fun w H a ns hl hO hS => ..
  case C => exact ..
(the tactic k_is has no namespace: write k_is) -/
namespace L2
open PySem PySem.Spec PyProof.Rows
noncomputable def defArgs (s : Stmt) : Arguments := match s with
  | .FunctionDef _ a _ _ _ _ _ _ _ _ => a
  | _ => { posonlyargs := [],args := [],vararg := none,kwonlyargs := [],kw_defaults := [],kwarg := none,defaults := [] }
noncomputable def defBody (s : Stmt) : List Stmt := match s with
  | .FunctionDef _ _ b _ _ _ _ _ _ _ => b
  | _ => []
noncomputable def defScope (s : Stmt) : Scope := match s with
  | .FunctionDef _ _ _ _ _ _ sc _ _ _ => sc
  | _ => { kind := .function,names := [],isGenerator := false,isCoroutine := false }
noncomputable abbrev E0 : XK := fun _ _ _ => False
structure Fun (K : PySem.W.Frag) (x qual : Str) (st : Stmt) (f : Addr) (fd : FuncData) : Prop where
  ex : ∃ (oc : Value) (od : Option Addr) (kV doc pm : Value) (an : Option Addr) (cdv ct : Value) (osl : Array (Option Value)),
    fd = PySem.W.fnOf x qual (defArgs st) (defBody st) (defScope st) .none kV doc pm an cdv ct ∧ K.lookup f = some ⟨oc,od,.func fd,osl⟩ ∧ PySem.W.codeIn K cdv qual = true
  kp : PySem.W.keepIn K (.ref f) = true
section
variable {P : Program} {w : World} {K : PySem.W.Frag} {mg : Str → Option Value} {base : Heap}
theorem Fun.binds {x qual : Str} {st : Stmt} {f : Addr} {fd : FuncData} {ps : List Str} (F : Fun K x qual st f fd)
    (h : ∀ (kV doc pm : Value) (an : Option Addr) (cdv ct : Value) (us : List Value),us.length = ps.length → bindArgs (PySem.W.fnOf x qual (defArgs st) (defBody st) (defScope st) .none kV doc pm an cdv ct) ⟨us,[]⟩ = pure (ps.zip us)) : Binds K fd ps [] := by
  obtain ⟨oc,od,kV,doc,pm,an,cdv,ct,osl,rfl,lk,hcd⟩ := F.ex
  exact .all (h kV doc pm an cdv ct)
theorem fun_mk {x qual : Str} {st : Stmt} {f : Addr} {oc : Value} {od an : Option Addr} {osl : Array (Option Value)} {kV doc pm cdv ct : Value} (l : K.lookup f = some ⟨oc,od,.func (PySem.W.fnOf x qual (defArgs st) (defBody st) (defScope st) .none kV doc pm an cdv ct),osl⟩)
    (c : PySem.W.codeIn K cdv qual = true) (k : PySem.W.keepIn K (.ref f) = true) : Fun K x qual st f (PySem.W.fnOf x qual (defArgs st) (defBody st) (defScope st) .none kV doc pm an cdv ct) := ⟨⟨oc,od,kV,doc,pm,an,cdv,ct,osl,rfl,l,c⟩,k⟩
end
theorem small1000 {n : Nat} (h : n ≤ 1000) : n < sizeLine := Nat.lt_of_le_of_lt h (by decide)
section
variable {X : Cx}
theorem pv (i : Nat) {x : Str} {pos : Pos} (hN : X.N[i]? = some x := by rfl) (hv : Vis X.env.scope x := by first | exact Or.inl rfl | exact Or.inr (Or.inl rfl) | exact Or.inr (Or.inr rfl)) (hd : (x == ("__debug__" : Str)) = false := by decide)
    (hcd : (x == ("__classdict__" : Str)) = false := by decide) : PE X (.Name x pos) (tVar i) := pe_var hN hv hd hcd
end
theorem iteF {A B : Prop} (h : B) : if false = true then A else B := by
  rw [if_neg Bool.false_ne_true]
  exact h
theorem iteT {A B : Prop} (h : A) : if true = true then A else B := by
  rw [if_pos rfl]
  exact h
theorem ite2 {c A B : Prop} [Decidable c] (h1 : c → A) (h2 : ¬ c → B) : if c then A else B := by
  by_cases h : c
  · rw [if_pos h]
    exact h1 h
  · rw [if_neg h]
    exact h2 h
noncomputable def Same (H H' : Hp) : Prop := ∀ b o,H b = some o → H' b = some o
theorem Same.refl (H : Hp) : Same H H := fun _ _ h => h
theorem Same.trans {H H1 H2 : Hp} (a : Same H H1) (b : Same H1 H2) : Same H H2 := fun c o h => b c o (a c o h)
theorem Same.free {H H' : Hp} (e : Same H H') {l : Addr} (h : H' l = Option.none) : H l = Option.none := by
  cases q : H l with
  | none => rfl
  | some o =>
    rw [e l o q] at h
    cases h
theorem Same.seq {K : PySem.W.Frag} {H H' : Hp} {a : Addr} {xs : List V} (e : Same H H') (h : SqL K H a xs) : SqL K H' a xs := by
  rcases h with (h | ⟨o,h⟩) | h
  · exact .inl (.inl (e _ _ h))
  · exact .inl (.inr ⟨o,e _ _ h⟩)
  · exact .inr h
section
variable {κ : Type} [DecidableEq κ]
end
end L2
namespace L2
open PySem PySem.Spec PyProof.Rows
theorem us0 {us : List Value} (h : us.length = 0) : us = [] := List.eq_nil_of_length_eq_zero h
theorem usS {us : List Value} {n : Nat} (h : us.length = n + 1) : ∃ a r,us = a :: r ∧ r.length = n := by
  cases us with
  | nil => cases h
  | cons a r => exact ⟨a,r,rfl,Nat.succ.inj h⟩
theorem us1 {us : List Value} (h : us.length = 1) : ∃ a,us = [a] := by
  obtain ⟨a,r,rfl,k⟩ := usS h
  obtain rfl := us0 k
  exact ⟨a,rfl⟩
theorem us2 {us : List Value} (h : us.length = 2) : ∃ a b,us = [a,b] := by
  obtain ⟨a,r,rfl,k⟩ := usS h
  obtain ⟨b,rfl⟩ := us1 k
  exact ⟨a,b,rfl⟩
theorem us3 {us : List Value} (h : us.length = 3) : ∃ a b c,us = [a,b,c] := by
  obtain ⟨a,r,rfl,k⟩ := usS h
  obtain ⟨b,c,rfl⟩ := us2 k
  exact ⟨a,b,c,rfl⟩
theorem us4 {us : List Value} (h : us.length = 4) : ∃ a b c d,us = [a,b,c,d] := by
  obtain ⟨a,r,rfl,k⟩ := usS h
  obtain ⟨b,c,d,rfl⟩ := us3 k
  exact ⟨a,b,c,d,rfl⟩
structure Flown (P : Program) (w : World) (outer : List Env) (H : Hp) (s : Shared) (E : XK) (e : Value) (s' : Shared) : Prop where
  ex : ∃ (ea C : Addr) (a0 : Value) (B : Heap) (H' : Hp),e = .ref ea ∧ s'.os = s.os ∧ AllBare s'.gens ∧ Heap.FlyingW B outer ea (.ref C) a0 s'.heap ∧ HOk P w H' B ∧ Un (frs outer) [] H H' s.heap s'.heap ∧
    (∀ b o,s.heap.get? b = some o → b ∈ frs outer ∨ ∃ o',B.get? b = some o') ∧ E (.ref C) none H'
theorem flown_none {P : Program} {w : World} {outer : List Env} {H : Hp} {s s' : Shared} {e : Value} (h : Flown P w outer H s E0 e s') : False := by
  obtain ⟨_,_,_,_,_,_,_,_,_,_,_,_,q⟩ := h.ex
  exact q
theorem passF0 {X : Cx} : Passes (Flown X.prog X.w) X E0 := fun _ _ _ _ _ _ _ h => (flown_none h).elim
section
variable {X : Cx} {pins : List (Addr × Obj)} {σ : St} {H : Hp} {s : Shared}
theorem Inv.notStk (I : Inv X pins σ H s) {b : Addr} {o : Obj} (e : X.s₀.heap.get? b = some o) (hb : b ∉ X.fs) : b ∉ frs X.stack := fun z => by
  rcases List.mem_cons.mp (I.stkSub b z) with q | q
  · exact absurd (Nat.lt_of_lt_of_le (Heap.lt_size e) I.ok.above) (by rw [← q]; exact Nat.lt_irrefl _)
  · exact hb q
theorem hideStk (I : Inv X pins σ H s) {b : Addr} {o : Obj} (e : s.heap.get? b = some o) (hb : b ∉ frs X.stack) : (PySem.W.hideAll s.heap (frs X.stack)).get? b = some o := PySem.W.hideAll_get _ e hb
theorem Inv.hokHid (I : Inv X pins σ H s) : HOk X.prog X.w H (PySem.W.hideAll s.heap (frs X.stack)) := fun b o e =>
  (I.hok b o e).stay (fun c u hc q => hideStk I q fun z => by
    have n := I.stkFree c z
    rcases hc with rfl | hc
    · rw [n] at e; cases e
    · rw [n] at hc; cases hc) (fun _ q => q) fun _ _ q => q
theorem Inv.unTo (I : Inv X pins σ H s) (hex : X.ex = []) {H' : Hp} {h' : Heap} (keep : ∀ b o,s.heap.get? b = some o → H b = none → b ∉ frs X.stack → h'.get? b = some o)
    (slot : ∀ b o,s.heap.get? b = some o → H b = none → b ∈ X.fs → ∃ sl,h'.get? b = some { o with slots := sl }) (free : ∀ b o,s.heap.get? b = some o → H b = none → H' b = none) (there : ∀ b o,s.heap.get? b = some o → ∃ o',h'.get? b = some o')
    (tups : ∀ b xs,H b = some (.tup xs) → H' b = some (.tup xs)) (frzs : ∀ b o u,H b = some (.frz o u) → H' b = some (.frz o u)) (tbls : ∀ b ps,H b = some (.tbl ps) → ∃ more,H' b = some (.tbl (ps ++ more))) :
    Un (frs X.outer) [] X.H₀ H' X.s₀.heap h' := by
  have nx : ∀ b : Addr,b ∉ X.ex := fun b => by rw [hex]; simp
  refine ⟨fun b o e n hb _ => ?_,fun b o e n hb _ => ?_,fun b o e n _ => ?_,fun b o e _ => ?_,fun b xs e => tups b xs (I.base.tups b xs e),fun b o u e => frzs b o u (I.base.frzs b o u e),fun b ps e => ?_⟩
  · exact keep b o (I.base.keep b o e n hb (nx b)) (I.base.free b o e n (nx b)) (I.notStk e hb)
  · obtain ⟨sl,e1⟩ := I.base.slot b o e n hb (nx b)
    obtain ⟨sl',e2⟩ := slot b _ e1 (I.base.free b o e n (nx b)) hb
    exact ⟨sl',e2⟩
  · obtain ⟨o',e1⟩ := I.base.there b o e (nx b)
    exact free b o' e1 (I.base.free b o e n (nx b))
  · obtain ⟨o',e1⟩ := I.base.there b o e (nx b)
    exact there b o' e1
  · obtain ⟨m1,e1⟩ := I.base.tbls b ps e
    obtain ⟨m2,e2⟩ := tbls b _ e1
    exact ⟨m1 ++ m2,by rw [e2,Array.append_assoc]⟩
end
noncomputable abbrev cxF (P : Program) (w : World) (K : PySem.W.Frag) (mg : Str → Option Value) (base : Heap) (N : List Str) (qual : Str) (scope : Scope) (f : Addr) (cdv : Value) (A : Around) (outer : List Env) (s : Shared) (H : Hp) (E : XK) : Cx :=
  cxOf (Flown P w) P w K mg base N qual scope f cdv A outer s H E
section
variable {P : Program} {w : World} {K : PySem.W.Frag} {mg : Str → Option Value} {base : Heap} {N : List Str} {qual : Str} {scope : Scope} {f : Addr} {cdv : Value} {A : Around} {outer : List Env} {s₀ : Shared} {H₀ : Hp} {E : XK}
theorem made_leaves {pins : List (Addr × Obj)} {σ : St} {H : Hp} {s : Shared} {h1 : Heap} {e C : Addr} {vs : List Value} (I : Inv (cxF P w K mg base N qual scope f cdv A outer s₀ H₀ E) pins σ H s) (hx : Heap.MadeExcOf s.heap h1 e (.ref C) vs) (q : E (.ref C) none H) :
    (cxF P w K mg base N qual scope f cdv A outer s₀ H₀ E).xe (.ref e) { s with heap := h1 } := by
  have hin : ∀ env ∈ envOfC qual scope s₀.heap.objs.size f cdv :: outer,∀ a,env.frame = some a → a ∈ frs (envOfC qual scope s₀.heap.objs.size f cdv :: outer) := fun env he a ha => List.mem_filterMap.mpr ⟨env,he,ha⟩
  refine wpAny_leaves_madeW (base := PySem.W.hideAll s.heap (frs (envOfC qual scope s₀.heap.objs.size f cdv :: outer))) (h := s.heap) (L := s₀.heap.objs.size) I.ok.frames rfl (fun b o q => PySem.W.of_hideAll _ q) (PySem.W.funFrames_hide I.stack hin) hx fun h' t x1 x2 x3 x4 => ?_
  have up : ∀ b o,s.heap.get? b = some o → b ∈ frs (envOfC qual scope s₀.heap.objs.size f cdv :: outer) → ∃ sl,h'.get? b = some { o with slots := sl } := fun b o e hb => by
    obtain ⟨_,o',ho',hd⟩ := I.stack.mem hb
    rw [e] at ho'; cases ho'
    exact x4 b o (hx.keeps b o e) hd
  refine ⟨e,C,.ref t,_,H,rfl,I.os,I.bare,x1,I.hokHid,I.unTo rfl (fun b o e _ hb => x1.1 b o (hideStk I e hb)) (fun b o e _ hb => up b o e (List.mem_cons_of_mem _ hb)) (fun _ _ _ n => n) (fun b o e => ?_) (fun _ _ z => z) (fun _ _ _ z => z) (fun b ps z => ⟨#[],by rw [z]; simp⟩),fun b o e => ?_,q⟩
  · by_cases hb : b ∈ frs (envOfC qual scope s₀.heap.objs.size f cdv :: outer)
    · obtain ⟨sl,z⟩ := up b o e hb
      exact ⟨_,z⟩
    · exact ⟨o,x1.1 b o (hideStk I e hb)⟩
  · by_cases hb : b ∈ frs outer
    · exact .inl hb
    · obtain ⟨o',e1⟩ := I.base.there b o e (by intro z; cases z)
      exact .inr ⟨o',hideStk I e1 (I.notStk e hb)⟩
theorem pass_on : Passes (Flown P w) (cxF P w K mg base N qual scope f cdv A outer s₀ H₀ E) E := by
  intro pins σ H s e s' I h
  obtain ⟨ea,C,a0,B,H',rfl,os,bare,fl,hok,un,old,q⟩ := h.ex
  refine wpAny_leaves_onW (L := s₀.heap.objs.size) I.ok.frames rfl fl fun h' x1 x2 => ?_
  have inB : ∀ b o,s.heap.get? b = some o → b ∉ frs (envOfC qual scope s₀.heap.objs.size f cdv :: outer) → ∃ o',B.get? b = some o' ∧ s'.heap.get? b = some o' := fun b o e hb => by
    rcases old b o e with z | ⟨o',z⟩
    · exact absurd z hb
    · exact ⟨o',z,fl.1 b o' z⟩
  have up : ∀ b o,s'.heap.get? b = some o → b ∈ frs (envOfC qual scope s₀.heap.objs.size f cdv :: outer) → ∃ sl,h'.get? b = some { o with slots := sl } := fun b o e hb => by
    obtain ⟨_,o',ho',hd⟩ := fl.2.2.1.mem hb
    rw [e] at ho'; cases ho'
    exact x2 b o e hd
  refine ⟨ea,C,a0,B,H',rfl,os.trans I.os,bare,x1,hok,I.unTo rfl (fun b o e n hb => ?_) (fun b o e n hb => ?_) (fun b o e n => un.free b o e n (by simp)) (fun b o e => ?_) un.tups un.frzs un.tbls,fun b o e => ?_,q⟩
  · obtain ⟨o',e1,e2⟩ := inB b o e hb
    have e3 := un.keep b o e n hb (by simp)
    rw [e2] at e3; cases e3
    exact x1.1 b _ e1
  · obtain ⟨sl,e1⟩ := un.slot b o e n (List.mem_cons_of_mem _ hb) (by simp)
    obtain ⟨sl',e2⟩ := up b _ e1 (List.mem_cons_of_mem _ hb)
    exact ⟨sl',e2⟩
  · by_cases hb : b ∈ frs (envOfC qual scope s₀.heap.objs.size f cdv :: outer)
    · obtain ⟨o',e1⟩ := un.there b o e (by simp)
      obtain ⟨sl,e2⟩ := up b o' e1 hb
      exact ⟨_,e2⟩
    · obtain ⟨o',e1,_⟩ := inB b o e hb
      exact ⟨o',x1.1 b o' e1⟩
  · by_cases hb : b ∈ frs outer
    · exact .inl hb
    · obtain ⟨o',e1⟩ := I.base.there b o e (by intro z; cases z)
      obtain ⟨o2,e2,_⟩ := inB b o' e1 (I.notStk e hb)
      exact .inr ⟨o2,e2⟩
end
noncomputable def tRaise (C : Addr) (E : XK) (t : TA) : TS := fun _ σ H => t σ H fun vs H1 => vs.length ≤ sizeLine ∧ E (.ref C) none H1
structure ExC (mg : Str → Option Value) (base : Heap) (x : Str) (C : Addr) : Prop where
  ex : ∃ bm newId,OwnCls x C bm newId mg base ∧ ∃ (Bn inN : String) (bmN : List Value) (B nid initId : String),ExcBaseFacts Bn newId inN bmN ∧ bm.contains (.type Bn) = true ∧ ExcBaseFacts B nid initId bm
theorem ps_raise {P : Program} {w : World} {K : PySem.W.Frag} {mg : Str → Option Value} {base : Heap} {N : List Str} {qual : Str} {scope : Scope} {f : Addr} {cdv : Value} {A : Around} {outer : List Env} {s₀ : Shared} {H₀ : Hp} {E : XK}
    {x : Str} {C : Addr} {np cpos pos : Pos} {e : Expr} {es : List Expr} {t : TA} (O : ExC mg base x C) (hg : Gl (cxF P w K mg base N qual scope f cdv A outer s₀ H₀ E) x) (ha : PA (cxF P w K mg base N qual scope f cdv A outer s₀ H₀ E) (e :: es) t)
    (hdb : (x == ("__debug__" : Str)) = false := by decide)
    (he : starEach (e :: es) (cxF P w K mg base N qual scope f cdv A outer s₀ H₀ E).env = (false,eval e (cxF P w K mg base N qual scope f cdv A outer s₀ H₀ E).env) :: starEach es (cxF P w K mg base N qual scope f cdv A outer s₀ H₀ E).env := by rfl)
    (hpl : (backTo cpos (starEach es (cxF P w K mg base N qual scope f cdv A outer s₀ H₀ E).env)).any (·.1) = false := by rfl) :
    PS (cxF P w K mg base N qual scope f cdv A outer s₀ H₀ E) (.Raise (some (.Call (.Name x np) (e :: es) [] cpos)) none pos) (tRaise C E t) := by
  intro pins s σ H D I h
  obtain ⟨bm,newId,O,Bn,inN,bmN,B,nid,initId,Fn,hBn,FB⟩ := O.ex
  obtain ⟨tl,Nn,nm,q,bs,hdct,sn,sub,ab,col,dd,k0,k1,k2,k3,k5,mN,hC,hN,hni,T⟩ := O.obj
  refine wpAny_Raise_call_subU (C := C) (nm := nm) (q := q) (N := Nn) (bs := bs) (bm := tl) (hdct := hdct) (sn := sn) (sub := sub) (ab := ab) (col := col) (dd := dd) (k0 := k0) (k1 := k1) (k2 := k2) (k3 := k3) (k5 := k5)
    Fn hBn FB (mN := mN) (T.hasType FB.hasBase) (I.ok.hd rfl) (by rw [he]; show (false || (backTo cpos (starEach es (cxF P w K mg base N qual scope f cdv A outer s₀ H₀ E).env)).any (·.1)) = false; rw [hpl]; rfl) hni (ld_glob I hg O.bound ⟨rfl,?_⟩ hdb)
  have h2 := ha cpos pins s σ H _ I h
  rw [he] at h2 ⊢
  refine Calls.evalArgs_plain (wpAny_mono h2 (fun us s2 ⟨vs,H2,I2,r,z,q⟩ => ⟨rfl,by rw [← r.length]; exact z,I2.bk _ _ hC,hN.keeps I2.bk,T.keeps I2.bk,fun h' e hm => made_leaves I2 hm q⟩) fun _ _ y => y)
theorem Fun.okF {P : Program} {w : World} {K : PySem.W.Frag} {mg : Str → Option Value} {base : Heap} {x qual : Str} {st : Stmt} {f : Addr} {fd : FuncData} {N ps : List Str} {k : Nat} {sp : Sp} (F : Fun K x qual st f fd) (S : FnScope N ps (defScope st)) (len : ∀ vs H Q E,sp vs H Q E → vs.length = ps.length)
    (hbody : ∀ (cdv : Value) (A : Around) (outer : List Env) (s : Shared) (H : Hp) (vs : List V) (Q : VK) (E : XK),Room k (A.deeper (envOfC qual (defScope st) s.heap.objs.size f cdv)) → sp vs H Q E →
      ∃ t,PSs (cxF P w K mg base N qual (defScope st) f cdv A outer s H E) (defBody st) t ∧ t { nx := fun _ H' => Q .non H',rt := Q } (start N vs) H) : FnOk P w K mg base (Flown P w) (k + 1) f fd ps sp := by
  obtain ⟨oc,od,kV,doc,pm,an,cdv,ct,osl,rfl,lk,hcd⟩ := F.ex
  exact fn_of lk hcd S len fun A outer s H vs Q E hr hsp => hbody cdv A outer s H vs Q E hr hsp
theorem Fun.okN {P : Program} {w : World} {K : PySem.W.Frag} {mg : Str → Option Value} {base : Heap} {x qual : Str} {st : Stmt} {f : Addr} {fd : FuncData} {N ps : List Str} {k : Nat} {sp : Sp} (F : Fun K x qual st f fd) (S : FnScope N ps (defScope st)) (len : ∀ vs H Q E,sp vs H Q E → vs.length = ps.length)
    (hbody : ∀ (cdv : Value) (A : Around) (outer : List Env) (s : Shared) (H : Hp) (vs : List V) (Q : VK) (E : XK),Room k (A.deeper (envOfC qual (defScope st) s.heap.objs.size f cdv)) → sp vs H Q E →
      ∃ t,PSs (cxF P w K mg base N qual (defScope st) f cdv A outer s H E).nox (defBody st) t ∧ t { nx := fun _ H' => Q .non H',rt := Q } (start N vs) H) : FnOk P w K mg base (Flown P w) (k + 1) f fd ps sp :=
  F.okF S len fun cdv A outer s H vs Q E hr h => let ⟨t,a,b⟩ := hbody cdv A outer s H vs Q E hr h; ⟨t,a.nox,b⟩
end L2
namespace L2
open PySem PySem.Spec PyProof.Rows
section
variable {X : Cx}
theorem OpR.imp {f : Value → Value → Sem Value} {r r' : R2} (h : OpR X f r) (i : ∀ x y H Q,r' x y H Q → r x y H Q) : OpR X f r' := fun pins s σ H x y v u Q I rx ry q => h pins s σ H x y v u Q I rx ry (i _ _ _ _ q)
theorem IxR.imp {r r' : R2} (h : IxR X r) (i : ∀ x y H Q,r' x y H Q → r x y H Q) : IxR X r' := fun value slice pins s σ H x y v u Q I rx ry q hs => h value slice pins s σ H x y v u Q I rx ry (i _ _ _ _ q) hs
theorem pe_globI {x : Str} {i : Int} {pos : Pos} (hg : Gl X x) (hm : ∃ t,X.mg x = some (.int i t)) (hd : (x == ("__debug__" : Str)) = false := by decide) : PE X (.Name x pos) (tC (.int i)) := by
  obtain ⟨t,e⟩ := hm
  exact pe_glob hg e ⟨t,rfl⟩ hd
theorem pe_tyB {x : Str} {n : String} {pos : Pos} (hg : Gl X x) (hm : X.mg x = none) (hv : bootBuiltins x = some (.type n)) (hn : x ≠ "__name__" := by decide) (hd : (x == ("__debug__" : Str)) = false := by decide) : PE X (.Name x pos) (tC (.ty n)) :=
  pe_bltn hg hm hv (v := .ty n) rfl hn hd
structure Cal (P : Program) (w : World) (K : PySem.W.Frag) (mg : Str → Option Value) (base : Heap) (x : Str) (k : Nat) (ps : List Str) (sp : Sp) : Prop where
  ex : ∃ (g : Addr) (gd : FuncData),mg x = some (.ref g) ∧ PySem.W.keepIn K (.ref g) = true ∧ Binds K gd ps [] ∧ FnOk P w K mg base (Flown P w) k g gd ps sp
theorem pe_callC {x : Str} {k k' : Nat} {ps : List Str} {sp : Sp} {p pos : Pos} {e : Expr} {es : List Expr} {t : TA} (C : Cal X.prog X.w X.K X.mg X.base x k ps sp) (hr : Room k' X.A) (hg : Gl X x) (ha : PA X (e :: es) t)
    (hk : k ≤ k' := by decide) (hd : (x == ("__debug__" : Str)) = false := by decide)
    (he : starEach (e :: es) X.env = (false,eval e X.env) :: starEach es X.env := by rfl) (hpl : (backTo pos (starEach es X.env)).any (·.1) = false := by rfl) : PE X (.Call (.Name x p) (e :: es) [] pos) (tCall sp [] E0 t) := by
  obtain ⟨g,gd,hm,hkp,hb,F⟩ := C.ex
  exact pe_call F (hr.mono hk) hg hm hkp hb .nil passF0 ha hd he hpl
theorem pe_callCF {P : Program} {w : World} {K : PySem.W.Frag} {mg : Str → Option Value} {base : Heap} {N : List Str} {qual : Str} {scope : Scope} {f : Addr} {cdv : Value} {A : Around} {outer : List Env} {s₀ : Shared} {H₀ : Hp} {E : XK}
    {x : Str} {k k' : Nat} {ps : List Str} {sp : Sp} {p pos : Pos} {e : Expr} {es : List Expr} {t : TA} (C : Cal P w K mg base x k ps sp) (hr : Room k' (cxF P w K mg base N qual scope f cdv A outer s₀ H₀ E).A) (hg : Gl (cxF P w K mg base N qual scope f cdv A outer s₀ H₀ E) x)
    (ha : PA (cxF P w K mg base N qual scope f cdv A outer s₀ H₀ E) (e :: es) t) (hk : k ≤ k' := by decide) (hd : (x == ("__debug__" : Str)) = false := by decide)
    (he : starEach (e :: es) (cxF P w K mg base N qual scope f cdv A outer s₀ H₀ E).env = (false,eval e (cxF P w K mg base N qual scope f cdv A outer s₀ H₀ E).env) :: starEach es (cxF P w K mg base N qual scope f cdv A outer s₀ H₀ E).env := by rfl)
    (hpl : (backTo pos (starEach es (cxF P w K mg base N qual scope f cdv A outer s₀ H₀ E).env)).any (·.1) = false := by rfl) :
    PE (cxF P w K mg base N qual scope f cdv A outer s₀ H₀ E) (.Call (.Name x p) (e :: es) [] pos) (tCall sp [] E t) := by
  obtain ⟨g,gd,hm,hkp,hb,F⟩ := C.ex
  exact pe_call (X := cxF P w K mg base N qual scope f cdv A outer s₀ H₀ E) F (hr.mono hk) hg hm hkp hb .nil pass_on ha hd he hpl
theorem cat_tup0 {prog : Program} {w : World} {A : Around} {E : Value → Shared → Prop} {s : Shared} {t b : Addr} {vs ws : List Value} {Q : Value → Shared → Prop} (ht : IsTup s.heap t vs.toArray) (hb : IsTup s.heap b ws.toArray) (hv : vs = [])
    (h1 : Q (.ref b) s) : wpAny (model prog w) A (binaryOp .Add (.ref t) (.ref b)) Q E s := by
  obtain ⟨⟨cls,dd,data,sl⟩,ho,hc,n,hd⟩ := id ht
  obtain ⟨⟨cls2,dd2,data2,sl2⟩,ho2,hc2,n2,hd2⟩ := id hb
  simp only at hc hd hc2 hd2
  subst hc hd hc2 hd2
  exact concat_meets ⟨_,ho,rfl⟩ ⟨_,ho2,rfl⟩ noFill_tuple_add seq_tuple_add PySem.F.slot_tuple_add PySem.F.entry_tuple_add (PySem.F.args_tuple_add_2 _ _)
      (tuple_addW0 t b vs.toArray ws.toArray n n2 dd dd2 sl sl2 (by simp [hv])) ⟨ho,ho2,h1⟩
noncomputable def rCat0 (K : PySem.W.Frag) : R2 := fun x y H Q => ∃ a b ys,x = .ref a ∧ y = .ref b ∧ SqT K H a [] ∧ SqT K H b ys ∧ Q (.ref b) H
theorem op_cat0 : OpR X (binaryOp .Add) (rCat0 X.K) := by
  intro pins s σ H x y v u Q I rx ry h
  obtain ⟨a,b,ys,rfl,rfl,ha,hb,q⟩ := h
  cases rx
  cases ry
  obtain ⟨its,r1,p1,_⟩ := I.tuple ha
  obtain ⟨its2,r2,p2,_⟩ := I.tuple hb
  exact cat_tup0 p1 p2 (r1.nil_iff.mpr rfl) ⟨.ref b,H,I,rfl,q⟩
noncomputable def rAddV (K : PySem.W.Frag) : R2 := fun x y H Q => match x,y with
  | .int i,.int j => Q (.int (i + j)) H
  | .str i,.str j => i.length + j.length ≤ sizeLine ∧ Q (.str (i ++ j)) H
  | .ref a,.ref b => (∃ xs ys,H a = some (.lst xs) ∧ H b = some (.lst ys) ∧ xs.length + ys.length ≤ sizeLine ∧ ∀ p,H p = none → Q (.ref p) (upd H p (.lst (xs ++ ys)))) ∨
      (∃ xs ys,SqT K H a xs ∧ SqT K H b ys ∧ xs.length + ys.length ≤ sizeLine ∧ (xs = [] → Q (.ref b) H) ∧ (xs ≠ [] → ys = [] → Q (.ref a) H) ∧ (xs ≠ [] → ys ≠ [] → ∀ p,H p = none → Q (.ref p) (upd H p (.tup (xs ++ ys)))))
  | _,_ => False
theorem v_add : OpR X (binaryOp .Add) (rAddV X.K) := by
  refine ((op_add.or op_add_str).or (op_cat.or (op_catT.or op_cat0))).imp fun x y H Q h => ?_
  unfold rAddV at h
  split at h
  · exact .inl (.inl ⟨_,_,rfl,rfl,h⟩)
  · exact .inl (.inr ⟨_,_,rfl,rfl,h⟩)
  · rcases h with ⟨xs,ys,h1,h2,h3,h4⟩ | ⟨xs,ys,h1,h2,h3,h4,h5,h6⟩
    · exact .inr (.inl ⟨_,_,xs,ys,rfl,rfl,h1,h2,h3,h4⟩)
    · by_cases hx : xs = []
      · subst hx
        exact .inr (.inr (.inr ⟨_,_,ys,rfl,rfl,h1,h2,h4 rfl⟩))
      · exact .inr (.inr (.inl ⟨_,_,xs,ys,rfl,rfl,h1,h2,hx,h3,h5 hx,h6 hx⟩))
  · exact h.elim
noncomputable def rMulV : R2 := fun x y H Q => match x,y with
  | .int i,.int j => IntMulOk i j ∧ Q (.int (i * j)) H
  | .ref l,.int k => ∃ xs,H l = some (.lst xs) ∧ -(2 ^ 63) ≤ k ∧ k < 2 ^ 63 ∧ xs.length * k.toNat ≤ sizeLine ∧ ∀ p,H p = none → Q (.ref p) (upd H p (.lst (List.replicate k.toNat xs).flatten))
  | _,_ => False
theorem op_mulG : OpR X (binaryOp .Mult) (rI IntMulOk fun i j => .int (i * j)) := opI fun _ _ _ _ _ _ _ hc q => mul_int q hc
theorem v_mul : OpR X (binaryOp .Mult) rMulV := by
  refine (op_mulG.or op_rep).imp fun x y H Q h => ?_
  unfold rMulV at h
  split at h
  · exact .inl ⟨_,_,rfl,rfl,h.1,h.2⟩
  · obtain ⟨xs,h1,h2,h3,h4,h5⟩ := h
    exact .inr ⟨_,_,xs,rfl,rfl,h1,h2,h3,h4,h5⟩
  · exact h.elim
inductive SIx (K : PySem.W.Frag) (p : Addr) (i : Int) (H : Hp) (Q : VK) : Prop | mk (xs : List V) (v : V) (hs : SqL K H p xs ∨ SqT K H p xs) (ha : atI xs i = some v) (q : Q v H)
noncomputable def rIxV (K : PySem.W.Frag) : R2 := fun x y H Q => match x,y with
  | .ref p,.int i => SIx K p i H Q
  | .str z,.int i => ∃ c,z.length ≤ sizeLine ∧ atI z.cps.toList i = some c ∧ Q (.str ⟨#[c]⟩) H
  | _,_ => False
theorem v_ix : IxR X (rIxV X.K) := by
  refine ix_seq.imp fun x y H Q h => ?_
  unfold rIxV at h
  split at h
  · obtain ⟨xs,v,h1 | h1,h2,h3⟩ := h
    · exact .inl ⟨_,xs,_,v,rfl,rfl,h1,h2,h3⟩
    · exact .inr (.inl ⟨_,xs,_,v,rfl,rfl,h1,h2,h3⟩)
  · obtain ⟨c,h1,h2,h3⟩ := h
    exact .inr (.inr ⟨_,_,c,rfl,rfl,h1,h2,h3⟩)
  · exact h.elim
noncomputable def tyNm (H : Hp) : V → Option String
  | .non => some "NoneType"
  | .bl _ => some "bool"
  | .int _ => some "int"
  | .str _ => some "str"
  | .ref a => match H a with
    | some (.lst _) => some "list"
    | some (.frz _ (.lst _)) => some "list"
    | some (.tup _) => some "tuple"
    | some (.dK _) => some "dict"
    | _ => none
  | _ => none
noncomputable def subB (t c : String) : Bool := t == c || (t == "bool" && c == "int")
theorem kit_b {K : PySem.W.Frag} {t c : String} (ht : t ∈ ["NoneType","bool","int","str","list","tuple","dict"]) (hc : c ∈ ["int","bool","tuple","list","str","dict"]) : PySem.W.kitOne K (.type t) (.type c) = some (subB t c) := by
  simp only [List.mem_cons,List.not_mem_nil,or_false] at ht hc
  rcases ht with rfl | rfl | rfl | rfl | rfl | rfl | rfl <;> rcases hc with rfl | rfl | rfl | rfl | rfl | rfl <;> kernel_rfl
theorem tyNm_of {K : PySem.W.Frag} {H : Hp} {x : V} {t : String} (h : tyNm H x = some t) : TyOf K H x (.type t) ∧ t ∈ ["NoneType","bool","int","str","list","tuple","dict"] := by
  unfold tyNm at h
  split at h
  · cases h; exact ⟨.non,by simp⟩
  · cases h; exact ⟨.bl _,by simp⟩
  · cases h; exact ⟨.int _,by simp⟩
  · cases h; exact ⟨.str _,by simp⟩
  · split at h
    · rename_i e; cases h; exact ⟨.lst e,by simp⟩
    · rename_i e; cases h; exact ⟨.frz e,by simp⟩
    · rename_i e; cases h; exact ⟨.tup e,by simp⟩
    · rename_i e; cases h; exact ⟨.dK e,by simp⟩
    · cases h
  · cases h
theorem v_isinstance : CallR X (.builtin "isinstance") (fun xs H Q => ∃ x c t,xs = [x,.ty c] ∧ tyNm H x = some t ∧ c ∈ ["int","bool","tuple","list","str","dict"] ∧ Q (.bl (subB t c)) H) := by
  intro pins s σ H xs us Q I r h
  obtain ⟨x,c,t,rfl,ht,hc,q⟩ := h
  obtain ⟨u,v,rfl,ru,rv⟩ := r.two
  cases rv
  obtain ⟨ty,hm⟩ := tyNm_of (K := X.K) ht
  exact isinst_ok I ru ty (kit_b hm hc) fun tk => ⟨.bl _,H,I.tok tk,rfl,q⟩
theorem v_sum (hc : X.calm = true) : CallR X (.builtin "sum") (fun xs H Q => ∃ (l : Addr) (ns : List Int),xs = [.ref l] ∧ SqL X.K H l (ns.map V.int) ∧ Q (.int ns.sum) H) := by
  intro pins s σ H xs us Q I r h
  obtain ⟨l,ns,rfl,hl,q⟩ := h
  obtain ⟨u,rfl,ru⟩ := r.one
  cases ru
  obtain ⟨its,rv,pl,hz⟩ := I.list hl
  have hi := intsAre_of rv
  obtain ⟨xs,hx⟩ := hi.allInts.items
  have hl' : s.heap.IsList l (intItems xs) := hx ▸ pl.isList
  refine sum_intListG (I.ok.hd hc) hl' fun h' tk t' hk => ?_
  have e1 : ns = xs.toList.map (·.1) := by
    rw [← nums_intItems,← hx]
    exact (show numsOf its.toArray.toList = ns from hi.numsOf).symm
  have e2 : preSum (numAt xs) xs.size = ns.sum := by
    rw [preSum_eq,List.take_of_length_le (by simp),e1]
  rw [e2]
  exact ⟨.int _,H,I.kept hk,⟨_,rfl⟩,q⟩
noncomputable def iSeq (K : PySem.W.Frag) (tl : TE) : TI := fun σ H R => tl σ H fun x H1 => ∃ a,x = .ref a ∧ (((∃ xs,SqL K H1 a xs) ∧ R (Itl K a) H1) ∨ ((∃ xs,SqT K H1 a xs) ∧ R (Itt K a) H1))
theorem pi_seq {tg l : Expr} {tl : TE} (hl : PE X l tl) : PI X tg l (iSeq X.K tl) := by
  intro pins s σ H R I h
  refine thn (hl pins s σ H _ I h) fun v s1 ⟨x,H1,I1,r1,a,e,q⟩ => ?_
  subst e
  cases r1
  rcases q with ⟨⟨xs,hq⟩,q⟩ | ⟨⟨xs,hq⟩,q⟩
  · have hh : PI X tg l (iList X.K fun σ' H' Q => Q (.ref a) H') → True := fun _ => trivial
    obtain ⟨its,rv,p,hz⟩ := I1.list hq
    refine wpAny_pyIter_list p.isList ?_
    refine ⟨s1.heap.objs.size,[s1.heap.objs.size],_,_,H1,rfl,I1.kept (t' := s1.toks) fun b o e => Heap.get?_push_of_some _ e,turn_list a _,⟨_,Heap.get?_push_size _ rfl,rfl,rfl⟩,fun b hb => ?_,q⟩
    have e : b = s1.heap.objs.size := by simpa using hb
    subst e
    exact I1.fpOk (Nat.le_refl _) (I1.hok.fresh (Nat.le_refl _))
  · obtain ⟨its,rv,p,hz⟩ := I1.tuple hq
    refine wpAny_pyIter_tuple (show s1.heap.IsTuple a its.toArray from p) ?_
    refine ⟨s1.heap.objs.size,[s1.heap.objs.size],_,_,H1,rfl,I1.kept (t' := s1.toks) fun b o e => Heap.get?_push_of_some _ e,turn_tuple a _,⟨_,Heap.get?_push_size _ rfl,rfl,rfl⟩,fun b hb => ?_,q⟩
    have e : b = s1.heap.objs.size := by simpa using hb
    subst e
    exact I1.fpOk (Nat.le_refl _) (I1.hok.fresh (Nat.le_refl _))
end
end L2
namespace L2
open PySem PySem.Spec PyProof.Rows
theorem closure_go {env : Env} : ∀ (names : List (Str × NameKind)) (acc : List (Str × Addr)),(∀ y ∈ names,y.2 = .free → ∃ c,env.cells.lookup y.1 = some c) → (∀ p ∈ acc,env.cells.lookup p.1 = some p.2) →
   ∃ cl,(forIn names acc fun (y : Str × NameKind) (cs : List (Str × Addr)) => match y with | (name,kind) => if (kind == .free) = true then do let a ← cellOf env name; pure (ForInStep.yield ((name,a) :: cs)) else pure (ForInStep.yield cs)) = (pure cl : Sem _) ∧ (∀ p ∈ cl,env.cells.lookup p.1 = some p.2) ∧ (∀ p ∈ acc,p ∈ cl) ∧ ∀ y ∈ names,y.2 = .free → ∃ c,(y.1,c) ∈ cl
  | [],acc,_,ha => ⟨acc,rfl,ha,fun _ h => h,fun _ h => nomatch h⟩
  | (n,k) :: r,acc,hf,ha => by
    have hr : ∀ y ∈ r,y.2 = .free → ∃ c,env.cells.lookup y.1 = some c := fun y hy => hf y (List.mem_cons_of_mem _ hy)
    by_cases hk : k = .free
    · subst hk
      obtain ⟨c,hc⟩ := hf (n,.free) List.mem_cons_self rfl
      obtain ⟨cl,e,h1,h2,h3⟩ := closure_go r ((n,c) :: acc) hr (fun p hp => by
        rcases List.mem_cons.mp hp with rfl | hp
        · exact hc
        · exact ha p hp)
      refine ⟨cl,?_,h1,fun p hp => h2 p (List.mem_cons_of_mem _ hp),fun y hy hyf => ?_⟩
      · rw [List.forIn_cons]
        simp only [beq_self_eq_true,if_true,cellOf,hc,pure_bind]
        exact e
      · rcases List.mem_cons.mp hy with rfl | hy
        · exact ⟨c,h2 _ List.mem_cons_self⟩
        · exact h3 y hy hyf
    · have hb : (k == NameKind.free) = false := by simpa using hk
      obtain ⟨cl,e,h1,h2,h3⟩ := closure_go r acc hr ha
      refine ⟨cl,?_,h1,h2,fun y hy hyf => ?_⟩
      · rw [List.forIn_cons]
        simp only [hb,Bool.false_eq_true,if_false,pure_bind]
        exact e
      · rcases List.mem_cons.mp hy with rfl | hy
        · exact absurd hyf hk
        · exact h3 y hy hyf
theorem closure_ok {env : Env} {scope : Scope} (hf : ∀ y ∈ scope.names,y.2 = .free → ∃ c,env.cells.lookup y.1 = some c) :
    ∃ cl,closureFor scope env = pure cl ∧ (∀ x c,cl.lookup x = some c → env.cells.lookup x = some c) ∧ ∀ y ∈ scope.names,y.2 = .free → ∃ c,cl.lookup y.1 = some c := by
  obtain ⟨cl,e,h1,_,h3⟩ := closure_go (env := env) scope.names [] hf (fun _ h => nomatch h)
  refine ⟨cl,?_,fun x c h => h1 (x,c) (PySem.mem_of_lookup h),fun y hy hyf => ?_⟩
  · unfold closureFor
    simp only [bind_pure_comp] at e ⊢
    rw [e]
    rfl
  · obtain ⟨c,hc⟩ := h3 y hy hyf
    cases q : cl.lookup y.1 with
    | some d => exact ⟨d,rfl⟩
    | none =>
      have z := List.lookup_eq_none_iff.mp q (y.1,c) hc
      simp at z
noncomputable def cEnv (sc : Scope) (cl : List (Str × Addr)) (C : Addr) (env : Env) : Env :=
  { scope := sc,locals := C,globals := env.globals,cells := cl,qual := env.qual,func := none,code := env.code,frame := env.frame,builtins := env.builtins }
noncomputable def cCx (X : Cx) (sc : Scope) (N : List Str) (cl : List (Str × Addr)) (C : Addr) (s₀ : Shared) (H₀ : Hp) (ex : List Addr) : Cx :=
  { X with env := cEnv sc cl C X.env,N := N,s₀ := s₀,H₀ := H₀,outer := X.stack,ex := ex,fn := fun _ => false,pn := [],xe := fun _ _ => False }
noncomputable def cst (ix : List (Option Nat)) (σ : St) : St := ix.map fun o => match o with
  | none => none
  | some i => match σ[i]? with
    | some v => v
    | none => none
noncomputable def PIf (X : Cx) (ifs : List Expr) (t : TT) : Prop :=
  ∀ (pins : List (Addr × Obj)) (s : Shared) (σ : St) (H : Hp) (Q : Bool → Hp → Prop),Inv X pins σ H s → t σ H Q →
    wpAny (model X.prog X.w) X.A (forIn ifs true fun c r => if r = true then do let ok ← isTrue c X.env (eval c X.env); pure (ForInStep.yield ok) else pure (ForInStep.yield r)) (TP X pins σ Q) X.xe s
noncomputable def tYes : TT := fun _ H Q => Q true H
theorem pif_nil {X : Cx} : PIf X [] tYes := fun _ _ _ H _ I h => wpAny_tests_nil ⟨H,I,h⟩
theorem pif_one {X : Cx} {c : Expr} {t : TT} (h : PT X c t) : PIf X [c] t := fun pins s σ H Q I q => wpAny_tests_one (h pins s σ H Q I q)
theorem codeAny_compLoop_any {prog : Program} {w : World} {A : Around} {R : Result → Shared → Prop} {s : Shared} {elt target iter : Expr} {ifs : List Expr} {scope : Scope} {pos : Pos} {it acc : Value} {env : Env} (I : Nat → Shared → Prop)
    (turn : ∀ n s,I n s → wpAny (model prog w) A (pyNext it) (fun r s₁ => match r with
      | none => R (.ok .next) s₁
      | some v => wpAny (model prog w) A (letOwnedTupleGo target it v) (fun _ s₀ => wpAny (model prog w) A (assign target env v) (fun _ s₂ =>
          wpAny (model prog w) A (forIn ifs true fun c r => if r = true then do let ok ← isTrue c env (eval c env); pure (ForInStep.yield ok) else pure (ForInStep.yield r)) (fun ok s₃ =>
            if ok = true then wpAny (model prog w) A (eval elt env) (fun x s₄ =>
              wpAny (model prog w) A (call (.builtin "list.append") [acc,x]) (fun _ s₅ => ∃ m,m < n ∧ I m s₅) (fun _ _ => False) s₄) (fun _ _ => False) s₃
            else ∃ m,m < n ∧ I m s₃) (fun _ _ => False) s₂) (fun _ _ => False) s₀) (fun _ _ => False) s₁) (fun _ _ => False) s)
    (n : Nat) (h : I n s) :
    codeAny (model prog w) A (.compLoop (.ListComp elt [⟨target,iter,ifs,0⟩] scope pos) 0 it acc env) R s := by
  refine codeAny_loop rfl I (fun n s hI => ?_) n h
  show wpAny _ A ((compTurn (.ListComp elt [⟨target,iter,ifs,0⟩] scope pos) 0 it acc env).onRaise (fun x => do noteFrame x env; theTreesLotGoes x)) _ _ s
  refine wpAny_noted ?_
  rw [compTurn_list]
  refine wpAny_bind (wpAny_standAt (wpAny_bind (wpAny_mono (turn n s hI) (fun r s₁ h₁ => ?_) fun _ _ h' => h'.elim)))
  cases r with
  | none => exact wpAny_pure h₁
  | some v =>
    refine wpAny_bind (wpAny_mono h₁ (fun _ s₀ h₀ => ?_) fun _ _ h' => h'.elim)
    refine wpAny_bind (wpAny_mono h₀ (fun _ s₂ h₂ => wpAny_bind (wpAny_mono h₂ (fun ok s₃ h₃ => ?_) fun _ _ h' => h'.elim)) fun _ _ h' => h'.elim)
    cases ok with
    | false => exact wpAny_pure ⟨rfl,h₃⟩
    | true =>
      exact wpAny_bind (wpAny_bind (wpAny_mono h₃ (fun x s₄ h₄ => wpAny_bind (wpAny_mono h₄ (fun _ s₅ h₅ => wpAny_pure (wpAny_pure ⟨rfl,h₅⟩)) fun _ _ h' => h'.elim)) fun _ _ h' => h'.elim))
structure CompK (ix : List (Option Nat)) (g : TG) (tc : TT) (te : TE) (σ : St) (Q : VK) (J : It) (H1 : Hp) : Prop where
  go : ∀ D,H1 D = none → ∃ W : Nat → Nat → St → Hp → Prop,(∃ m,W 0 m (cst ix σ) (upd H1 D (.lst []))) ∧
    ∀ i m σ' H',W i m σ' H' → (J.stop i H' ∧ Q (.ref D) H') ∨ (J.go i H' ∧ ∀ x H2,J.yld i H' x H2 → g x σ' H2 fun σ3 H3 => tc σ3 H3 fun b H4 =>
      if b = true then te σ3 H4 fun y H5 => ∃ ys,H5 D = some (.lst ys) ∧ ys.length < sizeLine ∧ ∃ m',m' < m ∧ W (i + 1) m' σ3 (upd H5 D (.lst (ys ++ [y])))
      else ∃ m',m' < m ∧ W (i + 1) m' σ3 H4)
noncomputable def tComp (ix : List (Option Nat)) (wi : TI) (g : TG) (tc : TT) (te : TE) : TE := fun σ H Q => wi σ H fun J H1 => CompK ix g tc te σ Q J H1
structure CompOk (X : Cx) (scope sc : Scope) (N : List Str) (ix : List (Option Nat)) : Prop where
  rel : relabel scope X.env = sc
  kind : scope.kind = .function
  cell : ∀ y ∈ scope.names,y.2 ≠ .cell
  names : ∀ x ∈ scope.names,x.2 = .local → scope.names.lookup x.1 = some .local
  free : ∀ y ∈ scope.names,y.2 = .free → X.env.kindOf y.1 = some .cell ∨ X.env.kindOf y.1 = some .free
  len : N.length = ix.length
  ix : ∀ (j : Nat) (x : Str) (i : Nat),N[j]? = some x → ix[j]? = some (some i) → X.N[i]? = some x ∧ (x,NameKind.free) ∈ scope.names ∧ (sc.names.lookup x = some .cell ∨ sc.names.lookup x = some .free)
  has : ∀ x,(sc.names.lookup x = some .cell ∨ sc.names.lookup x = some .free) → (x,NameKind.free) ∈ scope.names
theorem comp_core {X : Cx} {tg iter elt : Expr} {ifs : List Expr} {scope sc : Scope} {pos ip : Pos} {wi : TI} {g : TG} {tc : TT} {te : TE} {N : List Str} {ix : List (Option Nat)} (O : CompOk X scope sc N ix) (hc : X.calm = true) (hi : PI X tg iter wi)
    (hb : ∀ cl C s₀ H₀ ex,PG (cCx X sc N cl C s₀ H₀ ex) tg g ∧ PIf (cCx X sc N cl C s₀ H₀ ex) ifs tc ∧ PE (cCx X sc N cl C s₀ H₀ ex) elt te) (hs : ∀ x,foldedSetIterable iter X.env x = pure x)
    {use : Option (Value → Sem Unit)} {QQ : Value → Shared → Prop} {pins : List (Addr × Obj)} {s : Shared} {σ : St} {H : Hp} {Q : VK} (I : Inv X pins σ H s) (h : tComp ix wi g tc te σ H Q)
    (fin : ∀ (D C : Addr) (s6 : Shared) (H5 : Hp) (m : Str → Option Value),Inv X pins σ H5 s6 → s6.heap.Ns C m → FpOk X pins H5 C → Q (.ref D) H5 → compPost (model X.prog X.w) X.A X.xe use QQ (.ref D) C (.ok .next) s6) :
    wpAny (model X.prog X.w) X.A (comprehension (.ListComp elt [⟨tg,iter,ifs,0⟩] scope pos) scope X.env ip (newList []) false (eval iter X.env) use) QQ X.xe s := by
  have hcl : ∃ cl,closureFor scope X.env = pure cl ∧ (∀ x c,cl.lookup x = some c → X.env.cells.lookup x = some c) ∧ ∀ y ∈ scope.names,y.2 = .free → ∃ c,cl.lookup y.1 = some c :=
    closure_ok fun y hy hf => I.ok.has y.1 (O.free y hy hf)
  obtain ⟨cl,ecl,hcl1,hcl2⟩ := hcl
  refine wpAny_comprehension_free (use := use) rfl hs ecl O.kind O.names (thn (hi pins s σ H _ I h) fun v s1 h1 => thn h1 fun itv s2 h2 => ?_)
  obtain ⟨it,fp,tn,J,H2,e,I2,T,st2,f2,q2⟩ := h2
  subst e
  obtain ⟨W,⟨m0,w0⟩,turn⟩ := q2.go s2.heap.objs.size I2.fresh
  refine wpAny_newObj_type ?_
  have I3 := I2.lnew (its := []) (t' := s2.toks) (ys := []) .nil (Nat.zero_le _)
  generalize eH3 : upd H2 s2.heap.objs.size (.lst []) = H3 at I3 w0
  have eD : H3 s2.heap.objs.size = some (.lst []) := by rw [← eH3]; exact upd_same
  have hfp2 : ∀ b ∈ fp,b ≠ s2.heap.objs.size := fun b hb z => by
    obtain ⟨o,ho,_⟩ := T.obj _ _ st2 b hb
    exact absurd (Heap.lt_size ho) (by rw [z]; exact Nat.lt_irrefl _)
  have st3 : tn 0 (s2.heap.push { cls := .type "list",dict := none,data := .seq ([] : List Value).toArray }) := T.keep _ _ _ st2 fun b _ o e => Heap.get?_push_of_some _ e
  have f3 : ∀ b ∈ fp,FpOk X pins H3 b := fun b hb => ⟨by rw [← eH3,upd_ne (hfp2 b hb)]; exact (f2 b hb).1,(f2 b hb).2⟩
  generalize es3 : ({ s2 with heap := s2.heap.push { cls := .type "list",dict := none,data := .seq ([] : List Value).toArray },toks := s2.toks } : Shared) = s3 at I3
  have st3' : tn 0 s3.heap := by rw [← es3]; exact st3
  refine wpAny_newFunctionEnv O.cell (fun y hy => nomatch hy) (fun h4 hns4 hsb4 => ?_) O.kind
  have keep4 : ∀ b o,s3.heap.get? b = some o → h4.get? b = some o := fun b o e => (hsb4.2 b (Nat.ne_of_lt (Heap.lt_size e))).trans (Heap.get?_push_of_some _ e)
  have I4 : Inv X pins σ H3 { s3 with heap := h4,toks := s3.toks + ([] : List (Str × Value)).length } := I3.kept keep4
  have eenv : ({ newEnv scope s3.heap.objs.size X.env.globals cl X.env.qual none .none (some X.env) builtinsNs with scope := relabel scope X.env } : Env) = cEnv sc cl s3.heap.objs.size X.env := by rw [O.rel]; rfl
  rw [eenv]
  show codeAny _ _ _ (compPost (model X.prog X.w) X.A X.xe use QQ (.ref s2.heap.objs.size) s3.heap.objs.size) _
  generalize eC : s3.heap.objs.size = C
  generalize es4 : ({ s3 with heap := h4,toks := s3.toks + ([] : List (Str × Value)).length } : Shared) = s4 at I4
  have h4s : s4.heap = h4 := by rw [← es4]
  have o4s : s4.os = s3.os := by rw [← es4]
  have fC : ∀ b ∈ fp,b ≠ C := fun b hb z => by
    obtain ⟨o,ho,_⟩ := T.obj _ _ st3' b hb
    exact absurd (Heap.lt_size ho) (by rw [z,eC]; exact Nat.lt_irrefl _)
  have okC : (cCx X sc N cl C s3 H3 fp).Ok := by
    refine ⟨I3.ok.mod,?_,I3.ok.glob,I3.ok.blt,Nat.le_of_eq eC,fun x y c h1 h2 => I3.ok.inj x y c (hcl1 x c h1) (hcl1 y c h2),fun x hx => ?_,fun x c z _ => (nomatch z),I3.ok.hd,I3.ok.frames,.inl rfl,fun b hb => ⟨fC b hb,fun x c e => (f3 b hb).2.2.2.2.1 x c (hcl1 x c e)⟩,
      I3.bs,Nat.le_trans I3.ok.bsz I3.sz,fun b o e hb => ?_,fun b hb z => ?_,I3.stack,I3.stkFree⟩
    · show sc.kind = .function
      rw [← O.rel]; exact O.kind
    · exact hcl2 (x,.free) (O.has x hx) rfl
    · rcases (f3 b hb).2.2.2.1 with z | z
      · exact I3.ok.noex b o e z
      · exact absurd (Nat.lt_of_lt_of_le (Heap.lt_size e) (Nat.le_trans I3.ok.bsz z)) (Nat.lt_irrefl _)
    · rcases List.mem_cons.mp (I3.stkSub b z) with z | z
      · exact (f3 b hb).2.1 z
      · exact (f3 b hb).2.2.1 z
  have IC : Inv (cCx X sc N cl C s3 H3 fp) [] (cst ix σ) H3 s4 := by
    refine ⟨okC,o4s,I4.bare,?_,?_,fun x c e => I4.cell x c (hcl1 x c e),?_,fun x c e => I4.freeC x c (hcl1 x c e),fun p hp => (nomatch hp),I4.hok,?_⟩
    · rw [h4s]
      exact Un.kept keep4
    · refine ⟨_,by rw [h4s,← eC]; exact hns4,fun j x v e1 e2 e3 => ?_⟩
      have e2' : (cst ix σ)[j]? = some (some v) := e2
      unfold cst at e2'
      rw [List.getElem?_map] at e2'
      cases q : ix[j]? with
      | none => rw [q] at e2'; cases e2'
      | some o =>
        rw [q] at e2'
        cases o with
        | none => cases e2'
        | some i =>
          obtain ⟨hx,hm,hsc⟩ := O.ix j x i e1 q
          cases q2 : σ[i]? with
          | none => simp [q2] at e2'
          | some w' =>
            simp [q2] at e2'
            subst e2'
            obtain ⟨m,hn,hl⟩ := I4.loc
            have kf := O.free (x,.free) hm rfl
            have vis : Vis X.env.scope x := by
              rcases kf with k | k
              · exact .inr (.inl k)
              · exact .inr (.inr k)
            obtain ⟨u,r,l⟩ := hl i x v hx q2 vis
            refine ⟨u,r,?_⟩
            rcases l with ⟨k,_⟩ | ⟨_,c,e,z⟩
            · rcases kf with k' | k'
              · rw [k] at k'; cases k'
              · rw [k] at k'; cases k'
            · obtain ⟨c',e'⟩ := hcl2 (x,.free) hm rfl
              have := hcl1 x c' e'
              rw [e] at this; cases this
              exact .inr ⟨hsc,c,e',z⟩
    · rw [← eC]
      exact I3.fresh
    · show (cst ix σ).length = N.length
      rw [O.len]; simp [cst]
  have st4 : tn 0 s4.heap := T.keep _ _ _ st3' fun b _ o e => by rw [h4s]; exact keep4 b o e
  have stat : ∀ {H' : Hp},(∀ b ∈ fp,H' b = none) → ∀ b ∈ fp,FpOk (cCx X sc N cl C s3 H3 fp) [] H' b := fun hn b hb =>
    ⟨hn b hb,fC b hb,okC.exfs b hb,.inl hb,fun x c e => (f3 b hb).2.2.2.2.1 x c (hcl1 x c e),fun p hp => (nomatch hp)⟩
  obtain ⟨hg,ht,he⟩ := hb cl C s3 H3 fp
  have loop : codeAny (model X.prog X.w) X.A (.compLoop (.ListComp elt [⟨tg,iter,ifs,0⟩] scope pos) 0 (.ref it) (.ref s2.heap.objs.size) (cEnv sc cl C X.env))
      (compPost (model X.prog X.w) X.A X.xe use QQ (.ref s2.heap.objs.size) C) s4 := by
    refine codeAny_compLoop_any (fun n s' => ∃ i σ' H',Inv (cCx X sc N cl C s3 H3 fp) [] σ' H' s' ∧ tn i s'.heap ∧ (∀ b ∈ fp,H' b = none) ∧ W i n σ' H') ?_ m0 ⟨0,cst ix σ,H3,IC,st4,fun b hb => (f3 b hb).1,w0⟩
    rintro n s5 ⟨i,σ5,H5,I5,st5,fr5,w5⟩
    rcases turn i n σ5 H5 w5 with ⟨stop,qn⟩ | ⟨go,step⟩
    · refine thn (T.done (cCx X sc N cl C s3 H3 fp) rfl rfl rfl hc i [] s5 σ5 H5 (fun _ _ => False) I5 (stat fr5) st5 stop) fun r s6 ⟨hr,I6⟩ => ?_
      subst hr
      obtain ⟨m,hn,_⟩ := id I6.loc
      have I7 : Inv X pins σ H5 s6 := I3.call' (ch := fp) I6.os I6.base I6.hok I6.bare fun b hb => ⟨(f3 b hb).2.2.2.1,(f3 b hb).2.1,(f3 b hb).2.2.2.2.1,(f3 b hb).2.2.2.2.2⟩
      exact fin _ C s6 H5 m I7 hn (I3.fpOk (Nat.le_of_eq eC) I6.free) qn
    · refine thn (T.item (cCx X sc N cl C s3 H3 fp) rfl rfl rfl hc i [] s5 σ5 H5 (fun _ _ => False) I5 (stat fr5) st5 go) fun r s6 ⟨u,hr,h6⟩ => ?_
      subst hr
      refine thn h6 fun _ s7 ⟨x,H7,I7,r7,y7,st7,fr7⟩ => ?_
      have I7' := I7.pinned (stat fr7) (T.obj _ _ st7)
      have again : ∀ {σ9 : St} {H9 : Hp} {s9 : Shared} {m' : Nat},Inv (cCx X sc N cl C s3 H3 fp) ([] ++ pinsAt fp s7.heap) σ9 H9 s9 → m' < n → W (i + 1) m' σ9 H9 →
          ∃ m,m < n ∧ ∃ i σ' H',Inv (cCx X sc N cl C s3 H3 fp) [] σ' H' s9 ∧ tn i s9.heap ∧ (∀ b ∈ fp,H' b = none) ∧ W i m σ' H' := fun {σ9 H9 s9 m'} I9 hm w9 => by
        refine ⟨m',hm,i + 1,σ9,H9,I9.unpinned,T.keep _ _ _ st7 fun b hb o e => (I9.pin (b,o) (List.mem_append_right _ (List.mem_append_right _ (mem_pinsAt hb e)))).1,fun b hb => ?_,w9⟩
        obtain ⟨o,e,d⟩ := T.obj _ _ st7 b hb
        exact (I9.pin (b,o) (List.mem_append_right _ (List.mem_append_right _ (mem_pinsAt hb e)))).2.1
      refine thn (hg _ s7 σ5 H7 x u _ I7' r7 (step x H7 y7)) fun _ s8 ⟨σ8,H8,I8,q8⟩ => ?_
      refine thn (ht _ s8 σ8 H8 _ I8 q8) fun b s9 ⟨H9,I9,q9⟩ => ?_
      cases b with
      | false =>
        rw [if_neg Bool.false_ne_true] at q9
        obtain ⟨m',hm,w9⟩ := q9
        rw [if_neg Bool.false_ne_true]
        exact again I9 hm w9
      | true =>
        rw [if_pos rfl] at q9
        rw [if_pos rfl]
        refine thn (he _ s9 σ8 H9 _ I9 q9) fun y s10 ⟨yv,H10,I10,r10,ys,e10,z10,m',hm,w10⟩ => ?_
        refine thn (mt_append _ s10 σ8 H10 (.ref s2.heap.objs.size) [yv] (.ref s2.heap.objs.size) [y] (fun _ H' => W (i + 1) m' σ8 H') I10 rfl (.cons r10 .nil) ⟨_,ys,yv,rfl,rfl,e10,z10,w10⟩) fun _ s11 ⟨_,H11,I11,_,w11⟩ => ?_
        exact again I11 hm w11
  exact codeAny_compStart_list loop (T.self _ _ _ _ _ st4 loop)
theorem pe_comp {X : Cx} {tg iter elt : Expr} {ifs : List Expr} {scope sc : Scope} {pos : Pos} {wi : TI} {g : TG} {tc : TT} {te : TE} {N : List Str} {ix : List (Option Nat)} (O : CompOk X scope sc N ix) (hc : X.calm = true) (hi : PI X tg iter wi)
    (hb : ∀ cl C s₀ H₀ ex,PG (cCx X sc N cl C s₀ H₀ ex) tg g ∧ PIf (cCx X sc N cl C s₀ H₀ ex) ifs tc ∧ PE (cCx X sc N cl C s₀ H₀ ex) elt te)
    (hs : ∀ x,foldedSetIterable iter X.env x = pure x := by intro _; rfl) : PE X (.ListComp elt [⟨tg,iter,ifs,0⟩] scope pos) (tComp ix wi g tc te) := by
  intro pins s σ H Q I h
  rw [eval_ListComp]
  exact comp_core (use := none) (QQ := EP X pins σ Q) O hc hi hb hs I h fun D C s6 H5 m I7 hn f q => ⟨m,hn,fun h' hs' => ⟨.ref D,H5,I7.turned (it := C) (t' := s6.toks) (fun b o hb e => (hs'.2 b hb).trans e) f.1 f.2.1 f.2.2.2.1 f.2.2.2.2.1 f.2.2.2.2.2,rfl,q⟩⟩
theorem ps_setC {X : Cx} {i : Nat} {y : Str} {py spos : Pos} {tg iter elt : Expr} {ifs : List Expr} {scope sc : Scope} {pos : Pos} {wi : TI} {g : TG} {tc : TT} {te : TE} {N : List Str} {ix : List (Option Nat)} (hN : X.N.Nodup) (hi' : X.N[i]? = some y) (hx : Loc X.env.scope y)
    (O : CompOk X scope sc N ix) (hc : X.calm = true) (hi : PI X tg iter wi)
    (hb : ∀ cl C s₀ H₀ ex,PG (cCx X sc N cl C s₀ H₀ ex) tg g ∧ PIf (cCx X sc N cl C s₀ H₀ ex) ifs tc ∧ PE (cCx X sc N cl C s₀ H₀ ex) elt te)
    (hs : ∀ x,foldedSetIterable iter X.env x = pure x := by intro _; rfl) (hsw : swapsWith (.ListComp elt [⟨tg,iter,ifs,0⟩] scope pos) (some (.Name y py)) spos.line X.env = pure true := by rfl)
    (hf : X.fn y = true ∨ X.env.scope.names.lookup y = some .local := by first | exact .inl rfl | exact .inr rfl | assumption) :
    PS X (.Assign [.Name y py] (.ListComp elt [⟨tg,iter,ifs,0⟩] scope pos) spos) (tAsg (tComp ix wi g tc te) (gName i)) := by
  intro pins s σ H D I h
  rw [exec_Assign_Name_used _ _ _ _ hsw]
  refine wpAny_bind (wpAny_standAt (wpAny_bind ?_))
  show wpAny _ X.A (do let _ ← comprehension (.ListComp elt [⟨tg,iter,ifs,0⟩] scope pos) scope X.env _ (newList []) false (eval iter X.env) (some (assign (.Name y py) X.env))) _ _ s
  refine wpAny_bind (wpAny_mono (comp_core (use := some (assign (.Name y py) X.env)) (QQ := fun _ s' => ∃ σ' H',Inv X pins σ' H' s' ∧ D.nx σ' H') O hc hi hb hs I h fun D1 C s6 H5 m I7 hn f q => ?_) (fun _ s' ⟨σ',H',I',q'⟩ => wpAny_pure (wpAny_pure ⟨σ',H',I',q'⟩)) fun _ _ e => e)
  obtain ⟨o,es,ep,ho,hc1,hc2⟩ := id hn
  have I8 := I7.pinned (fp := [C]) (fun b hb => by
    have e : b = C := by simpa using hb
    subst e; exact f) (fun b hb => by
    have e : b = C := by simpa using hb
    subst e; exact ⟨o,ho,fun v z => by first | (rw [hc1.2] at z; cases z) | (rw [hc2.1] at z; cases z) | (rw [hc1] at z; cases z) | (simp_all)⟩)
  show wpAny _ X.A (assign (.Name y py) X.env (.ref D1)) _ _ _
  refine wpAny_assign_Name (store_ok I8 hN hi' hx (v := .ref D1) rfl (fun s7 I9 => ?_) hf)
  have hC := (I9.pin (C,o) (List.mem_append_right _ (List.mem_append_right _ (mem_pinsAt (by simp) ho)))).1
  refine ⟨m,⟨o,es,ep,hC,hc1,hc2⟩,fun h' hs' => ⟨_,H5,I9.unpinned.turned (it := C) (t' := s7.toks) (fun b o hb e => (hs'.2 b hb).trans e) f.1 f.2.1 f.2.2.2.1 f.2.2.2.2.1 f.2.2.2.2.2,q⟩⟩
end L2
namespace L2
open PySem PySem.Spec PyProof.Rows
mutual
inductive RdD (K : PySem.W.Frag) (H : Hp) : V → PyData → Prop
  | non : RdD K H .non .none
  | bl (b : Bool) : RdD K H (.bl b) (.bool b)
  | int (i : Int) : RdD K H (.int i) (.int i)
  | str (x : Str) : RdD K H (.str x) (.str x)
  | lst {a : Addr} {xs : List V} {ds : List PyData} : SqL K H a xs → RdDs K H xs ds → RdD K H (.ref a) (.list ds)
  | tup {a : Addr} {xs : List V} {ds : List PyData} : SqT K H a xs → RdDs K H xs ds → RdD K H (.ref a) (.tuple ds)
inductive RdDs (K : PySem.W.Frag) (H : Hp) : List V → List PyData → Prop
  | nil : RdDs K H [] []
  | cons {x : V} {d : PyData} {xs : List V} {ds : List PyData} : RdD K H x d → RdDs K H xs ds → RdDs K H (x :: xs) (d :: ds)
end
section
variable {X : Cx} {pins : List (Addr × Obj)} {σ : St} {H : Hp} {s : Shared}
mutual
theorem Inv.reads (I : Inv X pins σ H s) : ∀ {x : V} {d : PyData} {u : Value},RdD X.K H x d → RelV x u → ∃ as,Reads s.heap u d as
  | _,_,_,.non,r => by cases r; exact ⟨_,.none⟩
  | _,_,_,.bl b,r => by cases r; exact ⟨_,.bool b⟩
  | _,_,_,.int i,r => by obtain ⟨t,rfl⟩ := r; exact ⟨_,.int i t⟩
  | _,_,_,.str x,r => by obtain ⟨t,rfl⟩ := r; exact ⟨_,.str x t⟩
  | _,_,_,.lst hq hs,r => by
    cases r
    obtain ⟨its,rv,pl,_⟩ := I.list hq
    obtain ⟨as,ra⟩ := Inv.readsAll I hs rv
    obtain ⟨o,ho,hc,n,hd⟩ := pl.isList
    exact ⟨_,.list ho hc hd (by simpa using ra)⟩
  | _,_,_,.tup hq hs,r => by
    cases r
    obtain ⟨its,rv,pl,_⟩ := I.tuple hq
    obtain ⟨as,ra⟩ := Inv.readsAll I hs rv
    obtain ⟨o,ho,hc,n,hd⟩ := pl
    exact ⟨_,.tuple ho hc hd (by simpa using ra)⟩
theorem Inv.readsAll (I : Inv X pins σ H s) : ∀ {xs : List V} {ds : List PyData} {us : List Value},RdDs X.K H xs ds → Vals xs us → ∃ as,ReadsAll s.heap us ds as
  | _,_,_,.nil,.nil => ⟨_,.nil⟩
  | _,_,_,.cons h1 h2,.cons r1 r2 => by
    obtain ⟨as,a⟩ := Inv.reads I h1 r1
    obtain ⟨bs,b⟩ := Inv.readsAll I h2 r2
    exact ⟨_,.cons a b⟩
end
theorem RdDs.ints {K : PySem.W.Frag} {H : Hp} : ∀ ns : List Int,RdDs K H (ns.map V.int) (ns.map PyData.int)
  | [] => .nil
  | n :: r => .cons (.int n) (RdDs.ints r)
noncomputable def dictHits (kb : List (Key × V)) : List (Key × V) → Bool
  | [] => true
  | (k,v) :: r => match valV kb k with
    | none => false
    | some y => eqV v y && dictHits kb r
theorem hits_of {A : Around} {kb : List (Key × V)} {vb : List (Key × Value)} (hb : KV kb vb) (fb : kb.all (fun p => flatV p.2) = true) : ∀ {ka : List (Key × V)} {va : List (Key × Value)},KV ka va → ka.all (fun p => flatV p.2) = true →
    PySem.W.KeqHits A s vb va (dictHits kb ka)
  | [],_,.nil,_ => .nil
  | (k,v) :: r,(k',v') :: r',.cons ⟨e,rv⟩ t,f => by
    cases (show k = k' from e)
    rw [List.all_cons,Bool.and_eq_true] at f
    have hv := KV.val hb k
    cases q : valV kb k with
    | none =>
      have hn : valueAt vb k = none := RelO.none_of (by rw [q] at hv; exact hv)
      have e2 : dictHits kb ((k,v) :: r) = false := by simp [dictHits,q]
      rw [e2]
      exact .miss hn
    | some y =>
      rw [q] at hv
      obtain ⟨u,hu,ru⟩ := RelO.some_of hv
      have fy : flatV y = true := by
        unfold valV at q
        cases q2 : kb.find? (fun kv => decide (kv.1 = k)) with
        | none => rw [q2] at q; cases q
        | some p =>
          rw [q2] at q; cases q
          exact List.all_eq_true.mp fb p (List.mem_of_find?_eq_some q2)
      have e2 : dictHits kb ((k,v) :: r) = (eqV v y && dictHits kb r) := by simp [dictHits,q]
      rw [e2]
      exact .hit hu (eqAt_V rv ru f.1 fy) (hits_of hb fb t f.2)
end
section
variable {X : Cx}
noncomputable def rEqV (K : PySem.W.Frag) (g : Bool → Bool) : R2 := fun x y H Q => match x,y with
  | .int i,.int j => Q (.bl (g (decide (i = j)))) H
  | .bl i,.bl j => Q (.bl (g (decide (i = j)))) H
  | .str i,.str j => Q (.bl (g (decide (i = j)))) H
  | .non,.non => Q (.bl (g true)) H
  | .ref a,.ref b => (∃ d e,RdD K H (.ref a) d ∧ RdD K H (.ref b) e ∧ SeqAt.shaped d = true ∧ SeqAt.shaped e = true ∧ Q (.bl (g (PyData.eqv d e))) H) ∨
      (∃ ka kb,H a = some (.dK ka) ∧ H b = some (.dK kb) ∧ ka.all (fun p => flatV p.2) = true ∧ kb.all (fun p => flatV p.2) = true ∧ Q (.bl (g (ka.length == kb.length && dictHits kb ka))) H)
  | .non,.ref _ => False
  | .ref _,.non => False
  | x,y => scal x y = true ∧ Q (.bl (g (decide (x = y)))) H
theorem op_eqD {k : Nat} (hr : Room k X.A) : OpR X (compareOp .Eq) (fun x y H Q => ∃ d e,RdD X.K H x d ∧ RdD X.K H y e ∧ SeqAt.shaped d = true ∧ SeqAt.shaped e = true ∧ Q (.bl (PyData.eqv d e)) H) := by
  intro pins s σ H x y v u Q I rx ry h
  obtain ⟨d,e,h1,h2,h3,h4,q⟩ := h
  obtain ⟨as,ra⟩ := I.reads h1 rx
  obtain ⟨bs,rb⟩ := I.reads h2 ry
  exact eq_dataH ra rb h3 h4 hr.units ⟨.bl _,H,I,rfl,q⟩
theorem op_neD {k : Nat} (hr : Room k X.A) : OpR X (compareOp .NotEq) (fun x y H Q => ∃ d e,RdD X.K H x d ∧ RdD X.K H y e ∧ SeqAt.shaped d = true ∧ SeqAt.shaped e = true ∧ Q (.bl (!PyData.eqv d e)) H) := by
  intro pins s σ H x y v u Q I rx ry h
  obtain ⟨d,e,h1,h2,h3,h4,q⟩ := h
  obtain ⟨as,ra⟩ := I.reads h1 rx
  obtain ⟨bs,rb⟩ := I.reads h2 ry
  exact ne_dataH ra rb h3 h4 hr.units ⟨.bl _,H,I,rfl,q⟩
theorem op_eqK {k : Nat} (hr : Room k X.A) : OpR X (compareOp .Eq) (fun x y H Q => ∃ a b ka kb,x = .ref a ∧ y = .ref b ∧ H a = some (.dK ka) ∧ H b = some (.dK kb) ∧ ka.all (fun p => flatV p.2) = true ∧ kb.all (fun p => flatV p.2) = true ∧ Q (.bl (ka.length == kb.length && dictHits kb ka)) H) := by
  intro pins s σ H x y v u Q I rx ry h
  obtain ⟨a,b,ka,kb,rfl,rfl,h1,h2,h3,h4,q⟩ := h
  cases rx; cases ry
  obtain ⟨_,ea,va,ra,da⟩ : ka.length ≤ sizeLine ∧ (a == sysModules) = false ∧ ∃ vs,KV ka vs ∧ s.heap.DictOf (mixKind X.prog X.w) a vs := I.hok a _ h1
  obtain ⟨_,eb,vb,rb,db⟩ : kb.length ≤ sizeLine ∧ (b == sysModules) = false ∧ ∃ vs,KV kb vs ∧ s.heap.DictOf (mixKind X.prog X.w) b vs := I.hok b _ h2
  refine PySem.W.keq_eq ea eb da db hr.units0 (fun _ => hits_of rb h4 ra h3) ⟨.bl _,H,I,?_,q⟩
  show _ = Value.bool _
  rw [Paired.length ra,Paired.length rb]
theorem op_neK {k : Nat} (hr : Room k X.A) : OpR X (compareOp .NotEq) (fun x y H Q => ∃ a b ka kb,x = .ref a ∧ y = .ref b ∧ H a = some (.dK ka) ∧ H b = some (.dK kb) ∧ ka.all (fun p => flatV p.2) = true ∧ kb.all (fun p => flatV p.2) = true ∧ Q (.bl (!(ka.length == kb.length && dictHits kb ka))) H) := by
  intro pins s σ H x y v u Q I rx ry h
  obtain ⟨a,b,ka,kb,rfl,rfl,h1,h2,h3,h4,q⟩ := h
  cases rx; cases ry
  obtain ⟨_,ea,va,ra,da⟩ : ka.length ≤ sizeLine ∧ (a == sysModules) = false ∧ ∃ vs,KV ka vs ∧ s.heap.DictOf (mixKind X.prog X.w) a vs := I.hok a _ h1
  obtain ⟨_,eb,vb,rb,db⟩ : kb.length ≤ sizeLine ∧ (b == sysModules) = false ∧ ∃ vs,KV kb vs ∧ s.heap.DictOf (mixKind X.prog X.w) b vs := I.hok b _ h2
  refine PySem.W.keq_ne ea eb da db hr.units0 (fun _ => hits_of rb h4 ra h3) ⟨.bl _,H,I,?_,q⟩
  show _ = Value.bool _
  rw [Paired.length ra,Paired.length rb]
theorem dec_i {i j : Int} : decide (V.int i = V.int j) = decide (i = j) := by simp
theorem dec_b {i j : Bool} : decide (V.bl i = V.bl j) = decide (i = j) := by simp
theorem dec_s {i j : Str} : decide (V.str i = V.str j) = decide (i = j) := by simp
theorem v_eq {k : Nat} (hr : Room k X.A) : OpR X (compareOp .Eq) (rEqV X.K id) := by
  refine (op_eq.or ((op_eqD hr).or (op_eqK hr))).imp fun x y H Q h => ?_
  unfold rEqV at h
  split at h
  · exact .inl ⟨rfl,by rw [dec_i]; exact h⟩
  · exact .inl ⟨rfl,by rw [dec_b]; exact h⟩
  · exact .inl ⟨rfl,by rw [dec_s]; exact h⟩
  · exact .inl ⟨rfl,by rw [decide_eq_true rfl]; exact h⟩
  · rcases h with ⟨d,e,h⟩ | ⟨ka,kb,h⟩
    · exact .inr (.inl ⟨d,e,h⟩)
    · exact .inr (.inr ⟨_,_,ka,kb,rfl,rfl,h⟩)
  · exact h.elim
  · exact h.elim
  · exact .inl h
theorem v_ne {k : Nat} (hr : Room k X.A) : OpR X (compareOp .NotEq) (rEqV X.K not) := by
  refine (op_ne.or ((op_neD hr).or (op_neK hr))).imp fun x y H Q h => ?_
  unfold rEqV at h
  split at h
  · exact .inl ⟨rfl,by rw [dec_i]; exact h⟩
  · exact .inl ⟨rfl,by rw [dec_b]; exact h⟩
  · exact .inl ⟨rfl,by rw [dec_s]; exact h⟩
  · exact .inl ⟨rfl,by rw [decide_eq_true rfl]; exact h⟩
  · rcases h with ⟨d,e,h⟩ | ⟨ka,kb,h⟩
    · exact .inr (.inl ⟨d,e,h⟩)
    · exact .inr (.inr ⟨_,_,ka,kb,rfl,rfl,h⟩)
  · exact h.elim
  · exact h.elim
  · exact .inl h
end
end L2
namespace PySem.SeqAt
open AutoSeq1 (wpAny_loadPart')
open MeetsSeq MeetsSeq2 MeetsSeq3 SeqRoads2
section
variable {A : Around} {s : Shared}
end
end PySem.SeqAt
namespace L2
open PySem PySem.Spec PyProof.Rows
section
variable {X : Cx}
end
theorem boot_isinstance : bootBuiltins "isinstance" = some (.builtin "isinstance") := by decide +kernel
theorem boot_sum : bootBuiltins "sum" = some (.builtin "sum") := by decide +kernel
theorem boot_max : bootBuiltins "max" = some (.builtin "max") := by decide +kernel
theorem boot_int : bootBuiltins "int" = some (.type "int") := by decide +kernel
theorem boot_bool : bootBuiltins "bool" = some (.type "bool") := by decide +kernel
theorem boot_tuple : bootBuiltins "tuple" = some (.type "tuple") := by decide +kernel
theorem boot_list : bootBuiltins "list" = some (.type "list") := by decide +kernel
structure Fn (K : PySem.W.Frag) (mg : Str → Option Value) (x : Str) (st : Stmt) (ps : List Str) : Prop where
  ex : ∃ (f : Addr) (fd : FuncData),Fun K x x st f fd ∧ mg x = some (.ref f) ∧ Binds K fd ps []
theorem Fn.cal {P : Program} {w : World} {K : PySem.W.Frag} {mg : Str → Option Value} {base : Heap} {x : Str} {st : Stmt} {N ps : List Str} {k : Nat} {sp : Sp} (F : Fn K mg x st ps) (S : FnScope N ps (defScope st)) (len : ∀ vs H Q E,sp vs H Q E → vs.length = ps.length)
    (hbody : ∀ (f : Addr) (cdv : Value) (A : Around) (outer : List Env) (s : Shared) (H : Hp) (vs : List V) (Q : VK) (E : XK),Room k (A.deeper (envOfC x (defScope st) s.heap.objs.size f cdv)) → sp vs H Q E →
      ∃ t,PSs (cxF P w K mg base N x (defScope st) f cdv A outer s H E).nox (defBody st) t ∧ t { nx := fun _ H' => Q .non H',rt := Q } (start N vs) H) : Cal P w K mg base x (k + 1) ps sp := by
  obtain ⟨f,fd,F,m,b⟩ := F.ex
  exact ⟨f,fd,m,F.kp,b,F.okN S len fun cdv A outer s H vs Q E hr h => hbody f cdv A outer s H vs Q E hr h⟩
theorem Fn.calF {P : Program} {w : World} {K : PySem.W.Frag} {mg : Str → Option Value} {base : Heap} {x : Str} {st : Stmt} {N ps : List Str} {k : Nat} {sp : Sp} (F : Fn K mg x st ps) (S : FnScope N ps (defScope st)) (len : ∀ vs H Q E,sp vs H Q E → vs.length = ps.length)
    (hbody : ∀ (f : Addr) (cdv : Value) (A : Around) (outer : List Env) (s : Shared) (H : Hp) (vs : List V) (Q : VK) (E : XK),Room k (A.deeper (envOfC x (defScope st) s.heap.objs.size f cdv)) → sp vs H Q E →
      ∃ t,PSs (cxF P w K mg base N x (defScope st) f cdv A outer s H E) (defBody st) t ∧ t { nx := fun _ H' => Q .non H',rt := Q } (start N vs) H) : Cal P w K mg base x (k + 1) ps sp := by
  obtain ⟨f,fd,F,m,b⟩ := F.ex
  exact ⟨f,fd,m,F.kp,b,F.okF S len fun cdv A outer s H vs Q E hr h => hbody f cdv A outer s H vs Q E hr h⟩
theorem Same.new {H : Hp} {p : Addr} (h : H p = none) (o : HO) : Same H (upd H p o) := fun b u q => by rw [upd_ne (ne_of_none q h)]; exact q
theorem Same.upd {H H' : Hp} {p : Addr} (g : Same H H') (h : H p = none) (o : HO) : Same H (L2.upd H' p o) := fun b u q => by rw [upd_ne (ne_of_none q h)]; exact g b u q
theorem Same.seqT {K : PySem.W.Frag} {H H' : Hp} {a : Addr} {xs : List V} (e : Same H H') (h : SqT K H a xs) : SqT K H' a xs := by
  rcases h with (h | ⟨o,h⟩) | h
  · exact .inl (.inl (e _ _ h))
  · exact .inl (.inr ⟨o,e _ _ h⟩)
  · exact .inr h
theorem mulL {i j : Int} (h1 : -(2 ^ 64) < i) (h2 : i < 2 ^ 64) : IntMulOk i j := .of_left (intBits_le_64 h1 h2)
theorem mulR {i j : Int} (h1 : -(2 ^ 64) < j) (h2 : j < 2 ^ 64) : IntMulOk i j := .of_right (intBits_le_64 h1 h2)
theorem comp_mk {X : Cx} {scope sc : Scope} {N : List Str} {ix : List (Option Nat)} (sc' : relabel scope X.env = sc) (kind : scope.kind = .function) (cell : scope.names.all (fun y => y.2 != .cell) = true)
    (names : scope.names.all (fun x => x.2 != .local || scope.names.lookup x.1 == some .local) = true)
    (free : scope.names.all (fun y => y.2 != .free || (X.env.scope.names.lookup y.1 == some .cell || X.env.scope.names.lookup y.1 == some .free)) = true)
    (len : N.length = ix.length)
    (hix : (N.zip ix).all (fun p => match p.2 with
      | none => true
      | some i => X.N[i]? == some p.1 && scope.names.any (fun y => y.1 == p.1 && y.2 == .free) && (sc.names.lookup p.1 == some .cell || sc.names.lookup p.1 == some .free)) = true)
    (has : sc.names.all (fun y => (y.2 != .cell && y.2 != .free) || scope.names.any (fun z => z.1 == y.1 && z.2 == .free)) = true) : CompOk X scope sc N ix := by
  have mem : ∀ x : Str,scope.names.any (fun y => y.1 == x && y.2 == .free) = true → (x,NameKind.free) ∈ scope.names := fun x h => by
    obtain ⟨y,hy,e⟩ := List.any_eq_true.mp h
    rw [Bool.and_eq_true] at e
    obtain ⟨a,b⟩ := y
    have e1 : a = x := eq_of_beq e.1
    have e2 : b = .free := eq_of_beq e.2
    subst e1; subst e2
    exact hy
  refine ⟨sc',kind,fun y hy e => ?_,fun x hx e => ?_,fun y hy e => ?_,len,fun j x i h1 h2 => ?_,fun x hx => ?_⟩
  · have := List.all_eq_true.mp cell y hy
    rw [e] at this; cases this
  · have := List.all_eq_true.mp names x hx
    rw [e] at this
    simpa using this
  · have := List.all_eq_true.mp free y hy
    rw [e] at this
    simpa [Env.kindOf] using this
  · have hm : (x,some i) ∈ N.zip ix := by
      have : (N.zip ix)[j]? = some (x,some i) := by
        rw [List.getElem?_zip_eq_some]
        exact ⟨h1,h2⟩
      exact List.mem_of_getElem? this
    have := List.all_eq_true.mp hix _ hm
    simp only [Bool.and_eq_true] at this
    obtain ⟨⟨a1,a2⟩,a3⟩ := this
    refine ⟨eq_of_beq a1,mem x a2,?_⟩
    rw [Bool.or_eq_true] at a3
    rcases a3 with z | z
    · exact .inl (eq_of_beq z)
    · exact .inr (eq_of_beq z)
  · have hm : ∃ k,(x,k) ∈ sc.names ∧ (k = .cell ∨ k = .free) := by
      rcases hx with z | z
      · exact ⟨_,PySem.mem_of_lookup z,.inl rfl⟩
      · exact ⟨_,PySem.mem_of_lookup z,.inr rfl⟩
    obtain ⟨k,hk,e⟩ := hm
    have := List.all_eq_true.mp has _ hk
    rw [Bool.or_eq_true] at this
    rcases this with z | z
    · rcases e with e | e <;> (subst e; simp at z)
    · exact mem x z
end L2
namespace L2
open PySem PySem.Spec PyProof.Rows
structure FnIn (K : PySem.W.Frag) (x : Str) (st : Stmt) : Prop where
  ex : ∃ (f : Addr) (oc : Value) (od : Option Addr) (kV doc pm : Value) (an : Option Addr) (cdv ct : Value) (sl : Array (Option Value)),PySem.W.nsIn K mainGlobals x = some (some (.ref f)) ∧
    K.lookup f = some ⟨oc,od,.func (PySem.W.fnOf x x (defArgs st) (defBody st) (defScope st) .none kV doc pm an cdv ct),sl⟩ ∧ PySem.W.codeIn K cdv x = true ∧ PySem.W.keepIn K (.ref f) = true
theorem fnIn_mk {K : PySem.W.Frag} {x : Str} {st : Stmt} {f : Addr} {oc : Value} {od : Option Addr} {kV doc pm : Value} {an : Option Addr} {cdv ct : Value} {sl : Array (Option Value)} (a : PySem.W.nsIn K mainGlobals x = some (some (.ref f)))
    (l : K.lookup f = some ⟨oc,od,.func (PySem.W.fnOf x x (defArgs st) (defBody st) (defScope st) .none kV doc pm an cdv ct),sl⟩) (c : PySem.W.codeIn K cdv x = true) (k : PySem.W.keepIn K (.ref f) = true) : FnIn K x st :=
  ⟨f,oc,od,kV,doc,pm,an,cdv,ct,sl,a,l,c,k⟩
theorem FnIn.fn {K : PySem.W.Frag} {h : Heap} {mg : Str → Option Value} {x : Str} {st : Stmt} {ps : List Str} (F : FnIn K x st) (X : K.In h) (G : h.Ns mainGlobals mg)
    (hb : ∀ (kV doc pm : Value) (an : Option Addr) (cdv ct : Value) (us : List Value),us.length = ps.length → bindArgs (PySem.W.fnOf x x (defArgs st) (defBody st) (defScope st) .none kV doc pm an cdv ct) ⟨us,[]⟩ = pure (ps.zip us)) : Fn K mg x st ps := by
  obtain ⟨f,oc,od,kV,doc,pm,an,cdv,ct,sl,a,l,c,k⟩ := F.ex
  have FF := fun_mk (st := st) l c k
  exact ⟨f,_,FF,PySem.W.mg_of X G a,FF.binds hb⟩
end L2
namespace L2
open PySem PySem.Spec PyProof.Rows
structure ItS (J : It) (xs : List V) (H1 : Hp) : Prop where
  go : ∀ i H',Same H1 H' → i < xs.length → J.go i H'
  yld : ∀ i H' x H2,Same H1 H' → J.yld i H' x H2 → H2 = H' ∧ (i < xs.length → xs[i]? = some x)
  stop : ∀ i H',Same H1 H' → xs.length ≤ i → J.stop i H'
theorem its_list {K : PySem.W.Frag} {a : Addr} {xs : List V} {H1 : Hp} (hq : SqL K H1 a xs) : ItS (Itl K a) xs H1 :=
  ⟨fun i H' g h => ⟨xs,xs[i],g.seq hq,by simp [h]⟩,fun i H' x H2 g y => ⟨y.1,fun _ => y.2 xs (g.seq hq)⟩,fun i H' g h => ⟨xs,g.seq hq,h⟩⟩
theorem its_tup {K : PySem.W.Frag} {a : Addr} {xs : List V} {H1 : Hp} (hq : SqT K H1 a xs) : ItS (Itt K a) xs H1 :=
  ⟨fun i H' g h => ⟨xs,xs[i],g.seqT hq,by simp [h]⟩,fun i H' x H2 g y => ⟨y.1,fun _ => y.2 xs (g.seqT hq)⟩,fun i H' g h => ⟨xs,g.seqT hq,h⟩⟩
theorem its_range {lo : Int} {n : Nat} {H1 : Hp} : ItS (Itr lo n) ((List.range n).map fun i => V.int (lo + (i : Nat))) H1 :=
  ⟨fun i H' g h => show i < n by simpa using h,fun i H' x H2 g y => ⟨y.1,fun h => by
    have h' : i < n := by simpa using h
    rw [List.getElem?_map,List.getElem?_range h',y.2]; rfl⟩,fun i H' g h => show n ≤ i by simpa using h⟩
theorem comp_pure {J : It} {xs : List V} {ix : List (Option Nat)} {tc : TT} {te : TE} {σ : St} {H1 : Hp} {Q : VK} (I : ItS J xs H1) (hz : xs.length ≤ sizeLine) {rest : St} (hst : cst ix σ = none :: rest) (p : V → Bool) (F : V → V)
    (ht : ∀ H' x,Same H1 H' → x ∈ xs → ∀ k : Bool → Hp → Prop,k (p x) H' → tc (some x :: rest) H' k)
    (he : ∀ H' x,Same H1 H' → x ∈ xs → p x = true → ∀ k : VK,k (F x) H' → te (some x :: rest) H' k)
    (hQ : ∀ D,H1 D = none → Q (.ref D) (upd H1 D (.lst ((xs.filter p).map F)))) :
    CompK ix (gName 0) tc te σ Q J H1 := by
  constructor
  intro D hD
  refine ⟨fun i m σ' H' => m = xs.length - i ∧ i ≤ xs.length ∧ (∃ o,σ' = o :: rest) ∧ H' = upd H1 D (.lst (((xs.take i).filter p).map F)),⟨xs.length,by simp,Nat.zero_le _,⟨none,hst⟩,by simp⟩,?_⟩
  rintro i m σ' H' ⟨rfl,hi,⟨o,rfl⟩,rfl⟩
  have g : Same H1 (upd H1 D (.lst (((xs.take i).filter p).map F))) := Same.new hD _
  by_cases hlt : i < xs.length
  · refine .inr ⟨I.go i _ g hlt,fun x H2 y => ?_⟩
    obtain ⟨rfl,hx⟩ := I.yld i _ x H2 g y
    have hx := hx hlt
    have hm : x ∈ xs := List.mem_of_getElem? hx
    have et : xs.take (i + 1) = xs.take i ++ [x] := by
      rw [List.take_add_one,hx]; rfl
    show tc (some x :: rest) _ _
    refine ht _ x g hm _ ?_
    cases hp : p x with
    | true =>
      rw [if_pos rfl]
      refine he _ x g hm hp _ ⟨_,upd_same,?_,xs.length - (i + 1),by omega,rfl,hlt,⟨_,rfl⟩,?_⟩
      · have h1 : (((xs.take i).filter p).map F).length ≤ i := by
          rw [List.length_map]
          exact Nat.le_trans (List.length_filter_le _ _) (by rw [List.length_take]; omega)
        omega
      · rw [upd_upd,et,List.filter_append,List.map_append]
        simp [hp]
    | false =>
      rw [if_neg Bool.false_ne_true]
      refine ⟨xs.length - (i + 1),by omega,rfl,hlt,⟨_,rfl⟩,?_⟩
      rw [et,List.filter_append]
      simp [hp]
  · have e : i = xs.length := by omega
    subst e
    refine .inl ⟨I.stop _ _ g (Nat.le_refl _),?_⟩
    rw [List.take_length]
    exact hQ D hD
theorem for_its {J : It} {xs : List V} {g : TG} {tb : TS} {D : Ends} {σ : St} {H : Hp} (I : ItS J xs H) (Pv : Nat → St → Hp → Prop) (h0 : Pv 0 σ H) (hsame : ∀ i σ' H',Pv i σ' H' → Same H H')
    (hs : ∀ i x σ' H',xs[i]? = some x → Pv i σ' H' → g x σ' H' fun σ2 H2 => tb { D with nx := Pv (i + 1),ct := Pv (i + 1),bk := D.nx } σ2 H2) (hd : ∀ σ' H',Pv xs.length σ' H' → D.nx σ' H') :
    ∃ W : Nat → Nat → St → Hp → Prop,(∃ m,W 0 m σ H) ∧ ∀ i m σ H,W i m σ H →
      (J.stop i H ∧ D.nx σ H) ∨ (J.go i H ∧ ∃ N : St → Hp → Prop,(∀ σ' H',N σ' H' → ∃ m',m' < m ∧ W (i + 1) m' σ' H') ∧ ∀ x H',J.yld i H x H' → g x σ H' fun σ2 H2 => tb { D with nx := N,ct := N,bk := D.nx } σ2 H2) := by
  refine ⟨fun i m σ' H' => m = xs.length - i ∧ i ≤ xs.length ∧ Pv i σ' H',⟨xs.length,by simp,Nat.zero_le _,h0⟩,?_⟩
  rintro i m σ' H' ⟨rfl,hi,p⟩
  have gs := hsame i σ' H' p
  by_cases hlt : i < xs.length
  · refine .inr ⟨I.go i _ gs hlt,Pv (i + 1),fun σ2 H2 p' => ⟨xs.length - (i + 1),by omega,rfl,hlt,p'⟩,fun x H2 y => ?_⟩
    obtain ⟨rfl,hx⟩ := I.yld i _ x H2 gs y
    exact hs i x σ' _ (hx hlt) p
  · have e : i = xs.length := by omega
    subst e
    exact .inl ⟨I.stop _ _ gs (Nat.le_refl _),hd σ' H' p⟩
end L2
namespace L2
open PySem PySem.Spec PyProof.Rows
structure Bar (t : TE) (σ : St) (H : Hp) (Q : VK) : Prop where
  go : t σ H Q
noncomputable def tBar (t : TE) : TE := fun σ H Q => Bar t σ H Q
theorem Bar.by {t : TE} {σ : St} {H : Hp} {Q : VK} (R : V → Hp → Prop) (h : ∀ k : VK,(∀ v H1,R v H1 → k v H1) → t σ H k) (q : ∀ v H1,R v H1 → Q v H1) : Bar t σ H Q := ⟨h Q q⟩
theorem pe_bar {X : Cx} {e : Expr} {t : TE} (h : PE X e t) : PE X e (tBar t) := fun pins s σ H Q I q => h pins s σ H Q I q.go
structure BarS (t : TS) (D : Ends) (σ : St) (H : Hp) : Prop where
  go : t D σ H
noncomputable def tBarS (t : TS) : TS := fun D σ H => BarS t D σ H
theorem ps_bar {X : Cx} {st : Stmt} {t : TS} (h : PS X st t) : PS X st (tBarS t) := fun pins s σ H D I q => h pins s σ H D I q.go
theorem BarS.by {t : TS} {D : Ends} {σ : St} {H : Hp} (R : St → Hp → Prop) (h : ∀ N : St → Hp → Prop,(∀ σ' H',R σ' H' → N σ' H') → t { D with nx := N } σ H) (q : ∀ σ' H',R σ' H' → D.nx σ' H') : BarS t D σ H := by
  constructor
  exact h D.nx q
end L2
namespace HT
open PySem PyProof.Rows
section
variable {prog : Program} {w : World} {A : Around} {E : Value → Shared → Prop} {s : Shared}
theorem getItem_tuple_all {t sl : Addr} {items : Array Value} {vl vu : Value} {lo hi : Option Int} {Q : Value → Shared → Prop} (ht : IsTup s.heap t items) (hs : s.heap.IsSliceOf sl vl vu .none) (pl : IsPart vl lo) (pu : IsPart vu hi)
    (hw : sIx items.size 0 lo = 0 ∧ sIx items.size items.size hi = items.size) (h : Q (.ref t) s) : wpAny (model prog w) A (getItem (.ref t) (.ref sl)) Q E s := by
  obtain ⟨os,hos,hcs,hds⟩ := id hs
  have hTs : s.TypeIs (.ref sl) "slice" := ⟨os,hos,hcs⟩
  unfold getItem
  try with_reducible refine wpAny_holding ?_
  first | refine wpAny_bind (wpAny_pure ?_) | skip
  refine wpAny_bind (wpAny_sequenceKey ht.typeIs (by decide) ?_)
  refine wpAny_bind (wpAny_callSpecial?_slot (name := Str.ofString "__getitem__") ht.typeIs PyProof.Rows.slot_tuple_getitem
    (wpAny_call_entry PyProof.Rows.slot_tuple_getitem ht.typeIs entry_tuple_getitem ?_ (args_tuple_getitem _ _)))
  show wpAny _ _ (Builtin.Tuple.tupleItemsOf (.ref t) >>= _) _ _ s
  refine wpAny_bind (tupleItemsOf_ ht ?_)
  refine wpAny_bind (wpAny_typeOf hTs ?_)
  rw [if_pos (by decide)]
  refine wpAny_bind (sliceApplied_gen hs pl pu ?_)
  have hyes : (((sIx items.size 0 lo : Nat) : Int) == 0 && (1 : Int) == 1 && (sIx items.size items.size hi - sIx items.size 0 lo) == items.size) = true := by
    rw [hw.1,hw.2]; simp
  show wpAny _ _ (if (((sIx items.size 0 lo : Nat) : Int) == 0 && (1 : Int) == 1 && (sIx items.size items.size hi - sIx items.size 0 lo) == items.size) = true then _ else _) _ _ s
  rw [if_pos hyes]
  unfold Builtin.Tuple.tupleIsExact
  refine wpAny_bind (wpAny_bind (wpAny_typeOf ht.typeIs (wpAny_pure ?_)))
  rw [if_pos (by decide)]
  exact wpAny_bind (wpAny_rule (wpAny_pure ⟨_,rfl,wpAny_pure h⟩))
end
end HT
namespace L2
open PySem PySem.Spec PyProof.Rows
section
variable {X : Cx}
theorem sl_tupAll : SlR X (fun x lo hi H Q => ∃ a xs,x = .ref a ∧ SqT X.K H a xs ∧ (HT.sIx xs.length 0 lo = 0 ∧ HT.sIx xs.length xs.length hi = xs.length) ∧ Q (.ref a) H) := by
  intro pins s σ H x v vl vu lo hi sl Q I rx hs pl pu h
  obtain ⟨a,xs,rfl,hx,hw,q⟩ := h
  cases rx
  obtain ⟨its,r,ht,hz⟩ := I.tuple hx
  have hlen : its.toArray.size = xs.length := by rw [List.size_toArray]; exact r.length.symm
  refine ⟨"tuple",_,PyProof.Rows.slot_tuple_getitem.lookup,ht.typeIs,?_⟩
  exact HT.getItem_tuple_all ht hs pl pu (by rw [hlen]; exact hw) ⟨.ref a,H,I,rfl,q⟩
end
end L2
namespace L2
open PySem PySem.Spec PyProof.Rows
section
variable {X : Cx} (K : PySem.W.Frag)
theorem SlR.imp {r r' : V → Option Int → Option Int → Hp → VK → Prop} (h : SlR X r) (i : ∀ x lo hi H Q,r' x lo hi H Q → r x lo hi H Q) : SlR X r' := fun pins s σ H x v vl vu lo hi sl Q I rx hs pl pu q => h pins s σ H x v vl vu lo hi sl Q I rx hs pl pu (i _ _ _ _ _ q)
theorem xadd (hK : X.K = K := by rfl) : OpR X (binaryOp .Add) (rAddV K) := by subst hK; exact v_add
theorem xix (hK : X.K = K := by rfl) : IxR X (rIxV K) := by subst hK; exact v_ix
theorem xeq {k : Nat} (hr : Room k X.A) (hK : X.K = K := by rfl) : OpR X (compareOp .Eq) (rEqV K id) := by subst hK; exact v_eq hr
theorem xne {k : Nat} (hr : Room k X.A) (hK : X.K = K := by rfl) : OpR X (compareOp .NotEq) (rEqV K not) := by subst hK; exact v_ne hr
theorem xlen (hK : X.K = K := by rfl) : CallR X (.builtin "len") (fun xs H Q => ∃ x n,xs = [x] ∧ LenV K x H n ∧ Q (.int n) H) := by subst hK; exact call_len
theorem xsum (hc : X.calm = true) (hK : X.K = K := by rfl) : CallR X (.builtin "sum") (fun xs H Q => ∃ (l : Addr) (ns : List Int),xs = [.ref l] ∧ SqL K H l (ns.map V.int) ∧ Q (.int ns.sum) H) := by subst hK; exact v_sum hc
theorem xlist (hK : X.K = K := by rfl) : CallR X (.type "list") (fun xs H Q => ∃ p ys,xs = [.ref p] ∧ (SqL K H p ys ∨ SqT K H p ys) ∧ ∀ l,H l = none → Q (.ref l) (upd H l (.lst ys))) := by subst hK; exact call_list_of
theorem xtuple (hK : X.K = K := by rfl) : CallR X (.type "tuple") (fun xs H Q => ∃ p ys,xs = [.ref p] ∧ ((SqL K H p ys ∧ ∀ l,H l = none → Q (.ref l) (upd H l (.tup ys))) ∨ (SqT K H p ys ∧ Q (.ref p) H))) := by subst hK; exact call_tuple_of
noncomputable def rSlV (K : PySem.W.Frag) : V → Option Int → Option Int → Hp → VK → Prop := fun x lo hi H Q => match x with
  | .ref a => (∃ xs,SqL K H a xs ∧ ∀ p,H p = none → Q (.ref p) (upd H p (.lst (cutV xs lo hi)))) ∨
      (∃ xs,SqT K H a xs ∧ ¬ (HT.sIx xs.length 0 lo = 0 ∧ HT.sIx xs.length xs.length hi = xs.length) ∧ ∀ p,H p = none → Q (.ref p) (upd H p (.tup (cutV xs lo hi)))) ∨
      (∃ xs,SqT K H a xs ∧ (HT.sIx xs.length 0 lo = 0 ∧ HT.sIx xs.length xs.length hi = xs.length) ∧ Q (.ref a) H)
  | _ => False
theorem xsl (hK : X.K = K := by rfl) : SlR X (rSlV K) := by
  subst hK
  refine (sl_list.or (sl_tup.or sl_tupAll)).imp fun x lo hi H Q h => ?_
  unfold rSlV at h
  split at h
  · rcases h with ⟨xs,h⟩ | ⟨xs,h⟩ | ⟨xs,h⟩
    · exact .inl ⟨_,xs,rfl,h⟩
    · exact .inr (.inl ⟨_,xs,rfl,h⟩)
    · exact .inr (.inr ⟨_,xs,rfl,h⟩)
  · exact h.elim
theorem xseq {tg l : Expr} {tl : TE} (hl : PE X l tl) (hK : X.K = K := by rfl) : PI X tg l (iSeq K tl) := by subst hK; exact pi_seq hl
theorem xgtup {es : List Expr} {k : Nat} {t : TGs} {n : Nat} {pos : Pos} (hc : X.calm = true) (h : PGs X es t) (hK : X.K = K := by rfl)
    (hn : (assignEach es X.env).length = n := by rfl) (hst : (assignEach es X.env).findIdx? (·.1) = none := by rfl) : PG X (.Tuple es k pos) (gTup K n t) := by subst hK; exact pg_tup hc h hn hst
theorem xappend {o e : Expr} {to : TE} {te : TE} {apos cpos : Pos} (ho : PE X o to) (he : PE X e te) (hK : X.K = K := by rfl)
    (hbase : attributeBase o "append" X.env (eval o X.env) = eval o X.env := by rfl)
    (hfew : ((backTo cpos (starEach [e] X.env)).all (fun x => !x.1) && (backToKw cpos (keywordEach [] X.env)).all (fun x => x.1.isSome)
      && decide ([e].length + ([] : List Keyword).length + (if ([] : List Keyword).isEmpty then 0 else 1) < 30)) = true := by rfl)
    (hline : (apos.endLine == cpos.line) = true := by rfl) (hs : starEach [e] X.env = (false,eval e X.env) :: starEach [] X.env := by rfl) :
    PE X (.Call (.Attribute o "append" apos) [e] [] cpos) (tBM K "list" rAppend to (tCons te tNil)) := by
  subst hK
  exact pe_bm PySem.F.plainAttrs_list PySem.F.slot_list_append PySem.F.type_list_append mt_append ho (pa_cons he pa_nil hs) hbase hfew hline hs rfl
end
section
variable {X : Cx} {es : List Expr} {te : TE} {t : TA}
theorem pa_k {c : Const} {j} {p : Pos} (h : PE X (.Constant c j p) te) (hr : PA X es t) : PA X ((.Constant c j p) :: es) (tCons te t) := pa_cons h hr rfl
theorem pa_n {x : Str} {p : Pos} (h : PE X (.Name x p) te) (hr : PA X es t) : PA X ((.Name x p) :: es) (tCons te t) := pa_cons h hr rfl
theorem pa_t {as : List Expr} {j} {p : Pos} (h : PE X (.Tuple as j p) te) (hr : PA X es t) : PA X ((.Tuple as j p) :: es) (tCons te t) := pa_cons h hr rfl
theorem pa_b {a : Expr} {o : Operator} {b : Expr} {p : Pos} (h : PE X (.BinOp a o b p) te) (hr : PA X es t) : PA X ((.BinOp a o b p) :: es) (tCons te t) := pa_cons h hr rfl
theorem pa_u {o : UnaryOp} {a : Expr} {p : Pos} (h : PE X (.UnaryOp o a p) te) (hr : PA X es t) : PA X ((.UnaryOp o a p) :: es) (tCons te t) := pa_cons h hr rfl
end
end L2
namespace L2
open PySem PySem.Spec PyProof.Rows
noncomputable def excO (a C : Addr) : HO := .ext fun h => ∃ o vs,h.get? a = some o ∧ o.cls = .ref C ∧ o.data = .fields vs
theorem excO_ok {P : Program} {w : World} {H : Hp} {h : Heap} {a C : Addr} {o : Obj} {vs : Array Value} (e : h.get? a = some o) (hc : o.cls = .ref C) (hd : o.data = .fields vs) : ObjOk P w H h a (excO a C) :=
  ⟨⟨o,vs,e,hc,hd⟩,⟨o,e⟩,fun _ _ ⟨o,vs,e,r⟩ k => ⟨o,vs,k o e,r⟩⟩
theorem ObjOk.there {P : Program} {w : World} {H : Hp} {h : Heap} {a : Addr} {o : HO} (x : ObjOk P w H h a o) : ∃ u,h.get? a = some u := by
  cases o with
  | lst xs => obtain ⟨_,_,_,_,e⟩ := x; exact ⟨_,e⟩
  | tup xs => obtain ⟨_,_,_,o,e,_⟩ := x; exact ⟨_,e⟩
  | dK kvs => obtain ⟨_,_,_,_,o,_,_,e,_⟩ := x; exact ⟨_,e⟩
  | dT kvs => obtain ⟨_,_,_,_,o,_,_,e,_⟩ := x; exact ⟨_,e⟩
  | set S n => obtain ⟨o,_,_,_,e,_⟩ := x; exact ⟨_,e⟩
  | ins C dx fs => obtain ⟨_,_,_,e,_⟩ := x; exact ⟨_,e⟩
  | own y => exact x
  | xd fs => obtain ⟨_,⟨_,_,_,e,_⟩,_⟩ := x; exact ⟨_,e⟩
  | rng lo hi => obtain ⟨_,_,_,e⟩ := x; exact ⟨_,e⟩
  | frz ob u => obtain ⟨e,_⟩ := x; exact ⟨_,e⟩
  | tbl ps => exact ⟨_,(show h.get? a = some _ from x)⟩
  | met f y => exact ⟨_,(show h.get? a = some _ from x)⟩
  | ext φ => exact x.2.1
structure ExS (base : Heap) (C R : Addr) : Prop where
  cls : ∃ nm q N bs bm hdct sn sub ab col dd k0 k1 k2 k3 k5 newId,base.get? C = some (excClassObj nm q C N bs bm hdct sn sub ab col dd k0 k1 k2 k3 k5 newId) ∧ (Value.ref C :: bm).contains (.ref R) = true
  top : ∃ nm q N bs bm hdct sn sub ab col dd k0 k1 k2 k3 k5 newId,base.get? R = some (excClassObj nm q R N bs bm hdct sn sub ab col dd k0 k1 k2 k3 k5 newId) ∧ bm.contains (.type "BaseException") = true
theorem excMatches_own {M : Model} {A : Around} {E : Value → Shared → Prop} {h : Heap} {g : Array GenState} {d : Drawn} {t : Nat} {os : OsState} {e C R : Addr} {oe : Obj} {Q : Bool → Shared → Prop} {base : Heap} (S : ExS base C R) (kb : ∀ b o,base.get? b = some o → h.get? b = some o)
    (he : h.get? e = some oe) (hcls : oe.cls = .ref C) (hq : Q true ⟨h,g,d,t,os⟩) : wpAny M A (excMatches (.ref e) (.ref R)) Q E ⟨h,g,d,t,os⟩ := by
  obtain ⟨nm,q,N,bs,bm,hdct,sn,sub,ab,col,dd,k0,k1,k2,k3,k5,newId,hC,hs⟩ := S.cls
  obtain ⟨nm',q',N',bs',bm',hdct',sn',sub',ab',col',dd',k0',k1',k2',k3',k5',newId',hR,hB⟩ := S.top
  have hC := kb _ _ hC
  have hR := kb _ _ hR
  have hcB : (Value.ref R :: bm').contains (.type "BaseException") = true := by rw [List.contains_cons,hB,Bool.or_true]
  have f := tc_notTuple
  unfold excMatches
  repeat (first | (with_reducible refine wpAny_loadPart_at he ?_; rw [hcls]) | with_reducible refine wpAny_loadPart_at hR ?_ | (with_reducible refine wpAny_isSubtype_exc hR ?_; rw [hcB]) | (with_reducible refine wpAny_isSubtype_exc hC ?_; rw [hs]) | wp_step)
  exact hq
section
variable {X : Cx} {pins : List (Addr × Obj)} {σ : St} {H : Hp} {s : Shared}
theorem Inv.track {a : Addr} {o : HO} (I : Inv X pins σ H s) (hn : H a = none) (h0 : ∀ u,X.s₀.heap.get? a ≠ some u) (hL : a ≠ X.env.locals) (hc : ∀ x c,X.env.cells.lookup x = some c → c ≠ a) (hp : ∀ p ∈ X.pn ++ pins,p.1 ≠ a)
    (new : ObjOk X.prog X.w (upd H a o) s.heap a o) : Inv X pins σ (upd H a o) s := by
  have ne : ∀ b u,H b = some u → b ≠ a := fun b u e => ne_of_none e hn
  refine ⟨I.ok,I.os,I.bare,⟨I.base.keep,I.base.slot,fun b u e n hx => ?_,I.base.there,fun b xs e => ?_,fun b u xs e => ?_,fun b ps e => ?_⟩,I.loc,I.cell,?_,fun x c e => ?_,fun p q => ?_,fun b u e => ?_,I.len⟩
  · rw [upd_ne (fun z => h0 u (by rw [← z]; exact e))]; exact I.base.free b u e n hx
  · have := I.base.tups b xs e
    rw [upd_ne (ne b _ this)]; exact this
  · have := I.base.frzs b u xs e
    rw [upd_ne (ne b _ this)]; exact this
  · obtain ⟨m,this⟩ := I.base.tbls b ps e
    exact ⟨m,by rw [upd_ne (ne b _ this)]; exact this⟩
  · rw [upd_ne (Ne.symm hL)]; exact I.free
  · rw [upd_ne (hc x c e)]; exact I.freeC x c e
  · obtain ⟨e1,e2,e3⟩ := I.pin p q
    exact ⟨e1,by rw [upd_ne (hp p q)]; exact e2,e3⟩
  · by_cases hb : b = a
    · subst hb
      rw [upd_same] at e; cases e
      exact new
    · rw [upd_ne hb] at e
      exact (I.hok b u e).stay (fun _ _ _ q => q) (fun c q => by rw [upd_ne (ne c _ q)]; exact q) fun c xs q => by rw [upd_ne (ne c _ q)]; exact q
theorem Inv.unset {h' : Heap} {t' : Nat} {j : Nat} {n : Str} {v : Option Value} {m : Str → Option Value} (I : Inv X pins σ H s) (hN : X.N.Nodup) (hj : X.N[j]? = some n) (hm : s.heap.Ns X.env.locals m)
    (hn : h'.Ns X.env.locals fun y => if y = n then v else m y) (hs : Heap.SameBut X.env.locals s.heap h') : Inv X pins (σ.set j none) H { s with heap := h',toks := t' } := by
  obtain ⟨m2,hn2,hl⟩ := id I.loc
  obtain ⟨oL,_,_,hoL,_⟩ := id hm
  have em : m2 = m := by
    obtain ⟨o1,es1,ep1,ho1,hd1,hk1,hf1⟩ := hn2
    obtain ⟨o2,es2,ep2,ho2,hd2,hk2,hf2⟩ := hm
    rw [ho1] at ho2; cases ho2
    rw [hd1] at hd2; cases hd2
    funext y; rw [← hf1 y,← hf2 y]
  subst em
  refine ⟨I.ok,I.os,I.bare,⟨fun b o e nn hb hx => ?_,fun b o e nn hb hx => ?_,I.base.free,fun b o e hx => ?_,I.base.tups,I.base.frzs,I.base.tbls⟩,⟨_,hn,fun i y u e1 e2 e3 => ?_⟩,fun y c e => ?_,I.free,I.freeC,fun p hp => ?_,fun b u e => ?_,by simpa using I.len⟩
  · exact (hs.2 b (Nat.ne_of_lt (Nat.lt_of_lt_of_le (Heap.lt_size e) I.ok.above))).trans (I.base.keep b o e nn hb hx)
  · obtain ⟨sl,e1⟩ := I.base.slot b o e nn hb hx
    exact ⟨sl,(hs.2 b (Nat.ne_of_lt (Nat.lt_of_lt_of_le (Heap.lt_size e) I.ok.above))).trans e1⟩
  · obtain ⟨o',e1⟩ := I.base.there b o e hx
    exact ⟨o',(hs.2 b (Nat.ne_of_lt (Nat.lt_of_lt_of_le (Heap.lt_size e) I.ok.above))).trans e1⟩
  · by_cases hji : i = j
    · subst hji
      by_cases hlt : i < σ.length
      · rw [List.getElem?_set_self hlt] at e2; cases e2
      · rw [List.getElem?_eq_none (by simp; omega)] at e2; cases e2
    · rw [List.getElem?_set_ne (Ne.symm hji)] at e2
      obtain ⟨u',r',q⟩ := hl i y u e1 e2 e3
      refine ⟨u',r',?_⟩
      rcases q with ⟨k,e⟩ | ⟨k,c,e,z⟩
      · refine .inl ⟨k,?_⟩
        have : y ≠ n := fun z => hji (nodup_ix hN e1 (z ▸ hj))
        simp [this,e]
      · exact .inr ⟨k,c,e,z.sameBut hs (I.cne y c e)⟩
  · obtain ⟨w',z⟩ := I.cell y c e
    exact ⟨w',z.sameBut hs (I.cne y c e)⟩
  · obtain ⟨e,nn,ne,nf,d⟩ := I.pin p hp
    exact ⟨(hs.2 p.1 ne).trans e,nn,ne,nf,d⟩
  · refine (I.hok b u e).stay (fun c w' hc q => (hs.2 c ?_).trans q) (fun _ q => q) fun _ _ q => q
    rintro rfl
    rcases hc with z | hc
    · rw [← z,I.free] at e; cases e
    · rw [I.free] at hc; cases hc
end
noncomputable def cxS (X : Cx) (a : Addr) : Cx := { X with A := X.A.mark (some (.ref a)),calm := false,xe := fun _ _ => False }
theorem Inv.suite {X : Cx} {pins : List (Addr × Obj)} {σ : St} {H : Hp} {s : Shared} (I : Inv X pins σ H s) (a : Addr) : Inv (cxS X a) pins σ H s :=
  ⟨⟨I.ok.mod,I.ok.kind,I.ok.glob,I.ok.blt,I.ok.above,I.ok.inj,I.ok.has,I.ok.cab,(fun z => by cases z),I.ok.frames,I.ok.stk,I.ok.exf,I.ok.bs,I.ok.bsz,I.ok.noex,I.ok.exfs,I.ok.funs,I.ok.frf⟩,
    I.os,I.bare,I.base,I.loc,I.cell,I.free,I.freeC,I.pin,I.hok,I.len⟩
theorem Inv.unsuite {X : Cx} {pins : List (Addr × Obj)} {σ : St} {H : Hp} {s : Shared} {a : Addr} (ok : X.Ok) (I : Inv (cxS X a) pins σ H s) : Inv X pins σ H s :=
  ⟨ok,I.os,I.bare,I.base,I.loc,I.cell,I.free,I.freeC,I.pin,I.hok,I.len⟩
end L2
namespace L2
open PySem PySem.Spec PyProof.Rows
structure ExI (K : PySem.W.Frag) (C : Addr) : Prop where
  ga : PySem.W.findIn K (.ref C) "__getattribute__" = some (some (.builtin "BaseException.__getattribute__"))
  gt : PySem.W.findIn K (.ref C) "__getattr__" = some none
  cl : PySem.W.findIn K (.ref C) "__class__" = some (some (.builtin "object.__class__"))
  mb : PySem.W.mroIn K C (.type "BaseException") = some true
  mo : PySem.W.mroIn K C (.type "object") = some true
  is : (PySem.W.clsIn K C).isSome = true
section
variable {prog : Program} {w : World} {A : Around} {E : Value → Shared → Prop} {h : Heap} {g : Array GenState} {d : Drawn} {t : Nat} {os : OsState} {a C : Addr} {o : Obj} {K : PySem.W.Frag}
theorem xc_get {R : Result → Shared → Prop} (S : ExI K C) (X : K.In h) (hx : h.get? a = some o) (hc : o.cls = .ref C) (hq : R (.ok (.ret (.ref C))) ⟨h,g,d,t,os⟩) :
    codeAny (model prog w) A (.call (.builtin "getset_descriptor.__get__") ⟨[.builtin "object.__class__",.ref a,.ref C],[]⟩) R ⟨h,g,d,t,os⟩ := by
  have hT5 : (⟨h,g,d,t,os⟩ : Shared).TypeIs (.builtin "object.__class__") "getset_descriptor" := F.typeOf_object_class
  have L1 := PySem.W.looks_mroIn (M := model prog w) X S.mo
  rw [← F.owner_object_class] at L1
  refine codeAny_call_builtin F.slot_gs_get.plain F.entry_gs_get (F.slot_gs_get.check _ _ _ _ _ _ _ _ hT5 (F.args_gs_get _ _ _) ?_)
  repeat (any_goals (first | assumption | (with_reducible refine wpAny_loadPart_at hx ?_; rw [hc]) | with_reducible refine L1.at ?_ | wp_step))
  refine ⟨Code.quiet_builtin _ (by decide +kernel),codeAny_builtin F.entry_object_class ?_⟩
  repeat (any_goals (first | assumption | (with_reducible refine wpAny_loadPart_at hx ?_; rw [hc]) | wp_step))
theorem xc_entry {tk : Tok} {Q : Fin → Shared → Prop} (S : ExI K C) (X : K.In h) (hx : h.get? a = some o) (hc : o.cls = .ref C) (hq : Q (.done (.ret (.ref C))) ⟨h,g,d,t,os⟩) :
    wpAny (model prog w) A (Builtin.«object.__getattribute__» ⟨[.ref a,.str "__class__" tk],[]⟩) Q E ⟨h,g,d,t,os⟩ := by
  have hT5 : (⟨h,g,d,t,os⟩ : Shared).TypeIs (.builtin "object.__class__") "getset_descriptor" := F.typeOf_object_class
  have L1 := PySem.W.looks_findIn (M := model prog w) X S.cl
  have f5 := F.typeOf_object_class
  have f6 := F.slot_gs_get.lookup
  have f7 := F.slot_gs_set.lookup
  repeat (any_goals (first | assumption | (with_reducible refine wpAny_loadPart_at hx ?_; rw [hc]) | with_reducible refine L1.at ?_ | wp_step))
  refine xc_get S X hx hc ?_
  repeat (any_goals (first | assumption | wp_step))
theorem xc_check {nameV : Value} {Q : Unit → Shared → Prop} (S : ExI K C) (X : K.In h) (hx : h.get? a = some o) (hc : o.cls = .ref C) (hq : Q () ⟨h,g,d,t,os⟩) :
    wpAny (model prog w) A (checkBuiltinCall "BaseException.__getattribute__" ⟨[.ref a,nameV],[]⟩) Q E ⟨h,g,d,t,os⟩ := by
  have hk : builtinKind "BaseException.__getattribute__" = some .slot := by decide +kernel
  have hs : splitId "BaseException.__getattribute__" = some ("BaseException","__getattribute__") := by decide +kernel
  have L1 := PySem.W.looks_mroIn (M := model prog w) X S.mb
  have ha := F.args_bexc_ga (.ref a) nameV
  simp only [checkBuiltinCall,hk,hs]
  refine wpAny_bind ?_
  unfold isInstance
  repeat (first | (with_reducible refine wpAny_loadPart_at hx ?_; rw [hc]) | with_reducible refine L1.at ?_ | wp_step)
  exact hq
theorem xc_by {tk : Tok} {Q : Value → Shared → Prop} (S : ExI K C) (X : K.In h) (hx : h.get? a = some o) (hc : o.cls = .ref C) (hq : Q (.ref C) ⟨h,g,d,t,os⟩) :
    wpAny (model prog w) A (getAttrBy (.ref a) (.str "__class__" tk) false) Q E ⟨h,g,d,t,os⟩ := by
  have f3 := F.excAttr_ValueError.ga.bind (.ref a)
  have L1 := PySem.W.looks_findIn (M := model prog w) X S.ga
  have L2 := PySem.W.looks_findIn (M := model prog w) X S.gt
  have hx2 : (Value.builtin "BaseException.__getattribute__" == Value.builtin "object.__getattribute__") = false := by decide +kernel
  have hx1 : (onTheHeap (Value.ref C) && Value.builtin "BaseException.__getattribute__" == Value.builtin "object.__getattribute__") = false := by rw [hx2]; rfl
  repeat (any_goals (first | assumption | (with_reducible refine wpAny_loadPart_at hx ?_; rw [hc]) | with_reducible refine L1.at ?_ | with_reducible refine L2.at ?_ | wp_step))
  refine codeAny_call_builtin F.excAttr_ValueError.ga.plain F.entry_bexc_ga (xc_check S X hx hc (xc_entry S X hx hc ?_))
  repeat (any_goals (first | assumption | wp_step))
theorem xc_attr {Q : Option Value → Shared → Prop} (S : ExI K C) (X : K.In h) (hx : h.get? a = some o) (hc : o.cls = .ref C) (hq : Q (some (.ref C)) ⟨h,g,d,t + 1,os⟩) :
    wpAny (model prog w) A (getAttr? (.ref a) "__class__") Q E ⟨h,g,d,t,os⟩ := by
  unfold getAttr? getAttrBy?
  repeat (any_goals (first | assumption | with_reducible apply xc_by S X hx hc | wp_step))
end
end L2
namespace L2
open PySem PySem.Spec PyProof.Rows
theorem kitx_exc {K : PySem.W.Frag} {a C : Addr} (S : ExI K C) : PySem.W.KitX K (.ref a) (.ref C) (fun h => ∃ o vs,h.get? a = some o ∧ o.cls = .ref C ∧ o.data = .fields vs) where
  ty := fun M h _ p => by
    obtain ⟨o,_,h1,h2,_⟩ := p
    exact h2 ▸ (PySem.W.Looks.ld h1).andThen .now
  it := fun _ _ X _ => by
    have hi := S.is
    unfold PySem.W.clsIn at hi
    split at hi
    · rename_i c' d' cd' sl' ho
      intro A' Q' E' s' k q
      unfold isType loadHead
      exact wpAny_bind (wpAny_loadPart (k _ _ (X _ _ ho)) (wpAny_pure q))
    · cases hi
  ne := fun h tp dd its n sl X htp => by
    have hi := S.is
    refine Bool.eq_false_iff.mpr fun q => ?_
    have e : C = tp := Value.ref.inj (beq_iff_eq.mp q)
    subst e
    unfold PySem.W.clsIn at hi
    split at hi
    · rename_i c' d' cd' sl' ho
      have z := (X _ _ ho).symm.trans htp
      cases z
    · cases hi
  ca := fun {prog w A E Q s} X p k => by
    obtain ⟨o,vs,h1,h2,_⟩ := p
    obtain ⟨h0,g,d,t,os⟩ := s
    exact xc_attr S X h1 h2 k
theorem refs_of : ∀ {Ds : List Addr} {us : List Value},Vals (Ds.map V.ref) us → us = Ds.map Value.ref
  | [],_,.nil => rfl
  | D :: Ds,_,.cons r t => by
    have e := refs_of (Ds := Ds) t
    cases (show _ = Value.ref D from r)
    rw [e]; rfl
noncomputable def rIsiE (K : PySem.W.Frag) : List V → Hp → VK → Prop := fun xs H Q => ∃ a C y b,xs = [.ref a,y] ∧ H a = some (excO a C) ∧ ExI K C ∧
  ((∃ D,y = .ref D ∧ PySem.W.kitOne K (.ref C) (.ref D) = some b) ∨ (∃ T,y = .ty T ∧ PySem.W.kitOne K (.ref C) (.type T) = some b) ∨ (∃ (p : Addr) (Ds : List Addr),y = .ref p ∧ H p = some (.tup (Ds.map V.ref)) ∧ PySem.W.kitAny K (.ref C) (Ds.map Value.ref) = some b)) ∧ Q (.bl b) H
theorem v_isiE {X : Cx} : CallR X (.builtin "isinstance") (rIsiE X.K) := by
  intro pins s σ H xs us Q I r h
  obtain ⟨a,C,y,b,rfl,ha,S,h1,q⟩ := h
  obtain ⟨u,v,rfl,ru,rv⟩ := r.two
  cases ru
  have p : ∃ o vs,s.heap.get? a = some o ∧ o.cls = .ref C ∧ o.data = .fields vs := (I.hok a _ ha).1
  have fin : ∀ tk,EP X pins σ Q (.bool b) { s with toks := tk } := fun tk => ⟨.bl b,H,I.tok tk,rfl,q⟩
  rcases h1 with ⟨D,rfl,e⟩ | ⟨T,rfl,e⟩ | ⟨tp,Ds,rfl,ht,e⟩
  · cases rv
    exact PySem.W.kia_one (kitx_exc S) I.kIn p e (fun z => nomatch z) fin
  · cases rv
    exact PySem.W.kia_one (kitx_exc S) I.kIn p e (fun z => nomatch z) fin
  · cases rv
    obtain ⟨its,r2,p2,_⟩ := I.tuple (SqT.of ht)
    have ei := refs_of r2
    subst ei
    obtain ⟨⟨cls,dd,data,sl⟩,ho,hc,n,hd⟩ := id p2
    simp only at hc hd
    subst hc hd
    exact PySem.W.kia_tup (kitx_exc S) I.kIn p ho e (fun z => nomatch z) fin
theorem xisiE {X : Cx} (K : PySem.W.Frag) (hK : X.K = K := by rfl) : CallR X (.builtin "isinstance") (rIsiE K) := by subst hK; exact v_isiE
theorem pe_cls {X : Cx} {x : Str} {C : Addr} {pos : Pos} (hg : Gl X x) (hm : X.mg x = some (.ref C)) (hd : (x == ("__debug__" : Str)) = false := by decide) : PE X (.Name x pos) (tC (.ref C)) := pe_glob hg hm rfl hd
theorem exC_of {K : PySem.W.Frag} {h : Heap} {mg : Str → Option Value} {x : Str} {C : Addr} {newId inN Bn : String} {bmN : List Value} (X : K.In h) (G : h.Ns mainGlobals mg) (e : PySem.W.nsIn K mainGlobals x = some (some (.ref C)))
    (q : PySem.W.excIn K C [.type "ValueError",.type "Exception",.type "BaseException",.type "object"] newId = true) (Fn : ExcBaseFacts Bn newId inN bmN)
    (hBn : [Value.type "ValueError",.type "Exception",.type "BaseException",.type "object"].contains (.type Bn) = true) : ExC mg h x C := by
  refine ⟨_,newId,⟨PySem.W.mg_of X G e,?_⟩,Bn,inN,bmN,_,_,_,Fn,hBn,F.excBase_ValueError⟩
  unfold PySem.W.excIn at q
  split at q
  · rename_i dd cd sl ho
    split at q
    · rename_i C' bm k0 k1 k2 k3 n k5 hm hs
      simp only [Bool.and_eq_true,beq_iff_eq,Bool.not_eq_true'] at q
      obtain ⟨⟨⟨⟨⟨rfl,rfl⟩,hdel⟩,ht⟩,hok⟩,hni⟩ := q
      obtain ⟨nm,bs,mro,ns,qn,hdc,sn,sub,ab,col,del⟩ := cd
      dsimp only at hm hdel hok hni
      subst hm; subst hdel
      have hsl : sl = #[k0,k1,k2,k3,some (.builtin n),k5] := by
        obtain ⟨l⟩ := sl
        simp only at hs
        rw [hs]
      subst hsl
      exact ⟨bm,ns,nm,qn,bs,hdc,sn,sub,ab,col,dd,k0,k1,k2,k3,k5,_,X _ _ ho,.of_isNs (PySem.W.isNs_of_in X hok),PySem.W.nsMap_none_of_in X hok hni,PySem.W.tail_of_in X ht⟩
    · cases q
  · cases q
noncomputable def excSub (K : PySem.W.Frag) (C R : Addr) : Bool := match K.lookup C with
  | some ⟨.type "type",_,.cls cd,sl⟩ => (match cd.mro,sl.toList with
    | .ref C' :: bm,[_,_,_,_,some (.builtin _),_] => C' == C && !cd.hasDel && (Value.ref C' :: bm).contains (.ref R)
    | _,_ => false)
  | _ => false
theorem exS_of {K : PySem.W.Frag} {h : Heap} {C R : Addr} (X : K.In h) (q : excSub K C R = true) (qr : PySem.W.ktsIn K R "BaseException" = true) : ExS h C R := by
  refine ⟨?_,?_⟩
  · unfold excSub at q
    split at q
    · rename_i dd cd sl ho
      split at q
      · rename_i C' bm k0 k1 k2 k3 n k5 hm hs
        simp only [Bool.and_eq_true,beq_iff_eq,Bool.not_eq_true'] at q
        obtain ⟨⟨rfl,hdel⟩,ht⟩ := q
        obtain ⟨nm,bs,mro,ns,qn,hdc,sn,sub,ab,col,del⟩ := cd
        dsimp only at hm hdel
        subst hm; subst hdel
        have hsl : sl = #[k0,k1,k2,k3,some (.builtin n),k5] := by
          obtain ⟨l⟩ := sl
          simp only at hs
          rw [hs]
        subst hsl
        exact ⟨nm,qn,ns,bs,bm,hdc,sn,sub,ab,col,dd,k0,k1,k2,k3,k5,n,X _ _ ho,ht⟩
      · cases q
    · cases q
  · obtain ⟨nm,qn,N,bs,bm,hdct,sn,sub,ab,col,dd,k0,k1,k2,k3,k5,newId,hR,hb,_⟩ := PySem.W.kts_cls X qr
    exact ⟨nm,qn,N,bs,bm,hdct,sn,sub,ab,col,dd,k0,k1,k2,k3,k5,newId,hR,hb⟩
end L2
namespace L2
open PySem PySem.Spec PyProof.Rows
theorem boot_ValueError : bootBuiltins "ValueError" = some (.type "ValueError") := by decide +kernel
section
variable {X : Cx} {a : Expr} {ta : TE}
end
end L2
namespace L2
open PySem
theorem canLay_ints : ∀ ns : List Int,PyData.canLayAll0 (ns.map PyData.int) = true
  | [] => rfl
  | n :: r => by
    have := canLay_ints r
    simp [PyData.canLayAll0,PyData.canLay0,this]
theorem depth_ints : ∀ ns : List Int,PyData.depthAll (ns.map PyData.int) ≤ 1
  | [] => by simp [PyData.depthAll]
  | n :: r => by
    have := depth_ints r
    simp [PyData.depthAll,PyData.depth]
    omega
theorem shaped_list (ns : List Int) : SeqAt.shaped (.list (ns.map .int)) = true := by
  have h1 := canLay_ints ns
  have h2 := depth_ints ns
  simp only [SeqAt.shaped,PyData.canLay0,PyData.depth,h1,Bool.true_and]
  exact decide_eq_true (by omega)
theorem eqv_list (ns ms : List Int) : PyData.eqv (.list (ns.map .int)) (.list (ms.map .int)) = decide (ns = ms) := by
  rw [PyData.eqv]; exact PySem.W.ked_eqvAll ns ms
theorem eqv_tup (ns ms : List Int) : PyData.eqv (.tuple (ns.map .int)) (.tuple (ms.map .int)) = decide (ns = ms) := by
  rw [PyData.eqv]; exact PySem.W.ked_eqvAll ns ms
theorem eqLL {K : PySem.W.Frag} {g : Bool → Bool} {H : Hp} {a b : Addr} {ns ms : List Int} {Q : VK} (ha : SqL K H a (ns.map V.int)) (hb : SqL K H b (ms.map V.int)) (q : Q (.bl (g (decide (ns = ms)))) H) : rEqV K g (.ref a) (.ref b) H Q :=
  .inl ⟨_,_,.lst ha (RdDs.ints ns),.lst hb (RdDs.ints ms),shaped_list ns,shaped_list ms,by rw [eqv_list]; exact q⟩
end L2
set_option maxHeartbeats 4000000
namespace L2
open PySem PySem.Spec PyProof.Rows
noncomputable def Itd (lo : Int) (n : Nat) : It := ⟨fun i _ => i < n,fun i H x H' => H' = H ∧ x = .int (lo - i),fun i _ => n ≤ i⟩
theorem turn_down {P : Program} {w : World} {K : PySem.W.Frag} {tg : Expr} (it : Addr) (lo : Int) (n : Nat) : Turn P w K tg (Itd lo n) [it] it (fun i h => IsRangeIter h it (lo + (i : Nat) * (-1)) ((n : Int) - (i : Nat)) (-1)) where
  mem := by simp
  obj := fun i h st b hb => by
    have e : b = it := by simpa using hb
    subst e
    exact ⟨_,st,fun v z => by
      have z' : Data.fields _ = Data.cell v := z
      cases z'⟩
  keep := fun i h h' st k => k it (by simp) _ st
  item := by
    intro X hP hw hK hc i pins s σ H E I hf st hg
    subst hP hw hK
    obtain ⟨f0,f1,f2,f3,f4,f5⟩ := hf it (by simp)
    have W := Walks.range (prog := X.prog) (w := X.w) (I.ok.hd hc) it lo (-1) n
    refine W.item i s _ _ hg st fun v h' tk hv st' kk => ?_
    obtain ⟨t,rfl⟩ := hv
    have I1 : Inv X pins σ H { s with heap := h',toks := tk } := I.turned (fun b o hb e => kk b o (by simpa using hb) e) f0 f1 f3 f4 f5
    refine ⟨_,rfl,go_of (s := { s with heap := h',toks := tk }) (n := "range_iterator") st' rfl rfl (by decide) ⟨.int (lo - i),H,I1,⟨t,?_⟩,⟨rfl,rfl⟩,st',fun b hb => (hf b hb).1⟩⟩
    rw [Int.mul_neg_one]; rfl
  done := by
    intro X hP hw hK hc i pins s σ H E I hf st hg
    subst hP hw hK
    obtain ⟨f0,f1,f2,f3,f4,f5⟩ := hf it (by simp)
    exact wpAny_pyNext_range_end (I.ok.hd hc) st (by have : n ≤ i := hg; omega) fun h' eb => ⟨rfl,I.turned (t' := s.toks) (fun b o hb e => eb b o hb e) f0 f1 f3 f4 f5⟩
  self := fun _ _ _ _ _ st h => wpAny_pyIter_rangeiter st h
theorem rangeSize_down (a b : Int) : Builtin.Range.rangeSize a b (-1) = if b < a then a - b else 0 := by
  unfold Builtin.Range.rangeSize
  simp only [show ¬ (-1 : Int) > 0 by decide,if_false,Int.neg_neg,Int.ediv_one]
  split <;> omega
theorem small_down {a b : Int} (ha : -(2 ^ 62) ≤ a) (ha' : a < 2 ^ 62) (hb : -(2 ^ 62) ≤ b) (hb' : b < 2 ^ 62) : Builtin.Range.small a b (-1) = true := by
  unfold Builtin.Range.small
  rw [rangeSize_down]
  simp only [Builtin.Range.rangeFitsLong,Bool.and_eq_true,Bool.or_eq_true,decide_eq_true_eq,beq_iff_eq,show ¬ (-1 : Int) > 0 by decide,if_false]
  split <;> omega
section
variable {X : Cx} {tg : Expr}
theorem down_it {pins : List (Addr × Obj)} {σ : St} {H : Hp} {s : Shared} {R : It → Hp → Prop} {E : Value → Shared → Prop} {lo hi : Int} {t u v : Tok} {tk : Nat} (I : Inv X pins σ H s) (h1 : -(2 ^ 62) ≤ lo) (h2 : lo < 2 ^ 62) (h3 : -(2 ^ 62) ≤ hi) (h4 : hi < 2 ^ 62)
    (q : R (Itd lo (lo - hi).toNat) H) : wpAny (model X.prog X.w) X.A (pyIter (.ref s.heap.objs.size)) (PIE X pins σ tg R) E { s with heap := s.heap.push { cls := .type "range",data := .fields #[.int lo t,.int hi u,.int (-1) v] },toks := tk } := by
  refine wpAny_pyIter_range (IsRange.new ..) (small_down h1 h2 h3 h4) ?_
  have I1 : Inv X pins σ H { s with heap := s.heap.push { cls := .type "range",data := .fields #[.int lo t,.int hi u,.int (-1) v] },toks := tk } := I.kept fun b o e => Heap.get?_push_of_some _ e
  refine ⟨(s.heap.push { cls := .type "range",data := .fields #[.int lo t,.int hi u,.int (-1) v] }).objs.size,[(s.heap.push { cls := .type "range",data := .fields #[.int lo t,.int hi u,.int (-1) v] }).objs.size],_,_,H,rfl,
    I1.kept (t' := tk) fun b o e => Heap.get?_push_of_some _ e,turn_down _ lo (lo - hi).toNat,?_,fun b hb => ?_,q⟩
  · have e1 : lo + ((0 : Nat) : Int) * (-1) = lo := by simp
    have e2 : (((lo - hi).toNat : Nat) : Int) - ((0 : Nat) : Int) = Builtin.Range.rangeSize lo hi (-1) := by rw [rangeSize_down]; split <;> omega
    show IsRangeIter _ _ (lo + ((0 : Nat) : Int) * (-1)) ((((lo - hi).toNat : Nat) : Int) - ((0 : Nat) : Int)) (-1)
    rw [e1,e2]
    exact Heap.get?_push_size _ rfl
  · have e : b = (s.heap.push { cls := .type "range",data := .fields #[.int lo t,.int hi u,.int (-1) v] }).objs.size := by simpa using hb
    subst e
    exact I1.fpOk (Nat.le_refl _) (I1.hok.fresh (Nat.le_refl _))
noncomputable def iRngD (ta : TA) : TI := fun σ H R => ta σ H fun vs H1 => ∃ i j : Int,vs = [.int i,.int j,.int (-1)] ∧ (-(2 ^ 62) ≤ i ∧ i < 2 ^ 62 ∧ -(2 ^ 62) ≤ j ∧ j < 2 ^ 62) ∧ R (Itd i (i - j).toNat) H1
theorem pi_rangeD {a b c : Expr} {ta : TA} {p pos : Pos} (hg : Gl X "range") (hm : X.mg "range" = none) (ha : PA X [a,b,c] ta) (hs : starEach [a,b,c] X.env = (false,eval a X.env) :: starEach [b,c] X.env := by rfl) (hs2 : (backTo pos (starEach [b,c] X.env)).any (·.1) = false := by rfl) :
    PI X tg (.Call (.Name "range" p) [a,b,c] [] pos) (iRngD ta) := by
  intro pins s σ H R I h
  refine Call_ (ld_blt I hg hm boot_range (PyProof.Rows.callWith_type1 (thn (ha pos pins s σ H _ I h) fun us s1 ⟨vs,H1,I1,r1,q1⟩ => ?_) hs hs2))
  obtain ⟨i,j,e,⟨q1,q2,q3,q4⟩,q⟩ := q1
  subst e
  cases r1 with
  | cons r rr =>
    cases rr with
    | cons r' rr =>
      cases rr with
      | cons r'' rr =>
        cases rr
        obtain ⟨t,rfl⟩ := r
        obtain ⟨t',rfl⟩ := r'
        obtain ⟨t'',rfl⟩ := r''
        exact call_range_3 (by decide) (down_it (tk := s1.toks) I1 q1 q2 q3 q4 q) (.inl (PyProof.noPylong_small (by omega)))
end
theorem for_down {lo : Int} {n : Nat} {g : TG} {tb : TS} {D : Ends} {σ : St} {H : Hp} (Pv : Nat → St → Hp → Prop) (h0 : Pv 0 σ H)
    (hs : ∀ i σ H,i < n → Pv i σ H → g (.int (lo - i)) σ H fun σ2 H2 => tb { D with nx := Pv (i + 1),ct := Pv (i + 1),bk := D.nx } σ2 H2) (hd : ∀ σ H,Pv n σ H → D.nx σ H) :
    ∃ W : Nat → Nat → St → Hp → Prop,(∃ m,W 0 m σ H) ∧ ∀ i m σ H,W i m σ H →
      ((Itd lo n).stop i H ∧ D.nx σ H) ∨ ((Itd lo n).go i H ∧ ∃ N : St → Hp → Prop,(∀ σ' H',N σ' H' → ∃ m',m' < m ∧ W (i + 1) m' σ' H') ∧ ∀ x H',(Itd lo n).yld i H x H' → g x σ H' fun σ2 H2 => tb { D with nx := N,ct := N,bk := D.nx } σ2 H2) := by
  refine ⟨fun i m σ H => m = n - i ∧ i ≤ n ∧ Pv i σ H,⟨n,by simp,Nat.zero_le _,h0⟩,?_⟩
  rintro i m σ H ⟨rfl,hi,p⟩
  by_cases hlt : i < n
  · refine .inr ⟨hlt,Pv (i + 1),fun σ' H' p' => ⟨n - (i + 1),by omega,rfl,hlt,p'⟩,fun x H' y => ?_⟩
    obtain ⟨e,y⟩ := y
    subst e y
    exact hs i σ _ hlt p
  · have e : i = n := by omega
    subst e
    exact .inl ⟨Nat.le_refl _,hd σ H p⟩
end L2
namespace Att
open PySem PySem.W PySem.Calls PyProof.Rows
theorem bits_of_lay {ns : List Int} (h : WData.layableAll [WData.list (ns.map WData.int)] = true) : ∀ x ∈ ns,Builtin.Int.intBits x ≤ 1048576 := by
  intro x hx
  obtain ⟨h1,_,h3⟩ := layableW_iff.mp (layW_cons h).1
  simp only [WData.canLay] at h1
  simp only [WData.weight] at h3
  have hm : WData.int x ∈ ns.map WData.int := List.mem_map.mpr ⟨x,hx,rfl⟩
  have hc : WData.canLayAll (ns.map WData.int) = true := by simpa using h1
  obtain ⟨_,_,c⟩ := items_part hm hc
  have e : WData.weight (.int x) = Builtin.Int.intBits x := rfl
  rw [e] at c
  have : (2 : Nat) ^ 20 = 1048576 := by decide
  omega
theorem attach_callB {l : OpenLaw} {n : Nat} {q : Program} {loose : List Str} {XP : (Str → Option Value) → Heap → Prop} {YP : World → Heap → Prop} {d : DefRec}
    (hn : l.most = some n) (hdf : d.params.defaults = [])
    (call : ∀ (w : World) (s₀ s₁ : Shared) (mg mb : Str → Option Value) (fa : Addr) (o : Obj) (pm cd doc : Value) (a : Addr) (vs : List Value) (ns : List Int),
      Ground q loose [] XP w s₀ mg mb s₁.heap → YP w s₁.heap →
      s₁.heap.get? fa = some o → o.data = .func (docDef d.name d.params d.body d.scope pm cd doc) → s₁.heap.CodeRec cd d.name → mg d.name = some (.ref fa) →
      s₁.heap.get? a = some { cls := .type "list",data := .seq vs.toArray } → IntsAre vs ns → ns.length ≤ n → (∀ x ∈ ns,Builtin.Int.intBits x ≤ 1048576) → s₁.gens = #[] →
      codeAny (model l.prog w) callerA (.call (.ref fa) ⟨[.ref a],[]⟩) (fun r s' => r = .ok (.ret (.bool true)) ∧ OldK s₁.heap s'.heap ∧ s'.os = s₁.os ∧ AllBare s'.gens) s₁) :
    WalkO q loose XP YP l.row.toRowW d [] (fun f vs => PySem.call f vs) := by
  intro w s₀ s₁ mg mb G Y fa o pm cd doc dV kV ho hd hcd hD hmg hg args vals as hpre hlay hrd hwl hlo
  obtain rfl : dV = .none := Dflts.none hD hdf
  obtain rfl : kV = .none := Dflts.noKw hD
  obtain ⟨a,vs,ns,rfl,rfl,hobj,hints,hlen⟩ := script_of hn hpre hwl
  refine enter_call (codeAny_mono (call w s₀ s₁ mg mb fa o pm cd doc a vs ns G Y ho (fd_plain hd) hcd hmg hobj hints hlen (bits_of_lay hlay) hg) fun r s' hq => ?_)
  obtain ⟨rfl,h2,h3,h4⟩ := hq
  exact ⟨.inl ⟨.bool true,.bool true,[],rfl,fun _ => rfl,.bool true,post_true l _,fun _ => ⟨List.Pairwise.nil,fun _ hm => (nomatch hm)⟩⟩,h2,h3,h4⟩
end Att
namespace L2
open PySem PySem.Spec PyProof.Rows
section
variable {X : Cx}
noncomputable def rBits : V → List V → Hp → VK → Prop := fun x vs H Q => ∃ n : Int,x = .int n ∧ vs = [] ∧ Q (.int (Builtin.Int.intBits n : Nat)) H
theorem mt_bits : MtR X "int.bit_length" rBits := by
  intro pins s σ H x vs v us Q I rx rv h
  obtain ⟨n,rfl,rfl,q⟩ := h
  obtain ⟨t,rfl⟩ := rx
  cases rv
  exact call_gives F.slot_int_bit_length (typeIs_int s n t) F.entry_int_bit_length (F.args_int_bit_length_1 _) (AutoIntG2.int_bit_length_int_0 n t) ⟨.int _,H,I.tok _,⟨_,rfl⟩,q⟩
theorem xbits (K : PySem.W.Frag) {o : Expr} {to : TE} {apos cpos : Pos} (ho : PE X o to) (hK : X.K = K := by rfl) (hbase : attributeBase o "bit_length" X.env (eval o X.env) = eval o X.env := by rfl) (hline : (apos.endLine == cpos.line) = true := by rfl) :
    PE X (.Call (.Attribute o "bit_length" apos) [] [] cpos) (tBM0 K "int" rBits to) := by
  subst hK
  exact pe_bm0 PySem.F.plainAttrs_int PySem.F.slot_int_bit_length PySem.F.type_int_bit_length mt_bits ho hbase hline
end
end L2
namespace L2
open PySem PySem.Spec PyProof.Rows
section
variable {X : Cx}
end
end L2
namespace L2
open PySem PySem.Spec PyProof.Rows
noncomputable def tTaken (base : Heap) (R : Addr) (j : Nat) (ts : Addr → TS) (D : Ends) (σ : St) : XK := fun cls _ H2 => ∃ C,cls = .ref C ∧ ExS base C R ∧ ∀ a,H2 a = none →
    ts a { nx := fun σ' H' => D.nx (σ'.set j none) H',rt := D.rt,bk := fun σ' H' => D.bk (σ'.set j none) H',ct := fun σ' H' => D.ct (σ'.set j none) H' } (σ.set j (some (.ref a))) (upd H2 a (excO a C))
theorem try_lands {X : Cx} {n x : Str} {j : Nat} {R : Addr} {xp hpos : Pos} {b₀ : Stmt} {suite : List Stmt} {ts : Addr → TS} {pins : List (Addr × Obj)} {σ : St} {H H1 : Hp} {s s1 s2 : Shared} {D : Ends} {ev : Value}
    (hstk : X.stack = X.env :: X.outer) (hfr : X.env.frame = some X.env.locals) (hex : X.ex = []) (hN : X.N.Nodup)
    (hj : X.N[j]? = some n) (hn : X.env.scope.names.lookup n = some .local) (hx : Gl X x) (hR : X.mg x = some (.ref R)) (hs : ∀ a,PSs (cxS X a) (b₀ :: suite) (ts a))
    (hdx : (x == ("__debug__" : Str)) = false) (I : Inv X pins σ H s) (I1 : Inv X pins σ H1 s1) (hq : Flown X.prog X.w X.stack H1 s1 (tTaken X.base R j ts D σ) ev s2) :
    wpAny (model X.prog X.w) X.A (noteFrame ev X.env) (fun _ s₂ => wpAny (model X.prog X.w) X.A (setFlight ev none) (fun _ s₃ => wpAny (model X.prog X.w) X.A (handleBy ev X.env [.ExceptHandler (some (.Name x xp)) (some n) (b₀ :: suite) hpos]) (SP X pins D) X.xe s₃) X.xe s₂) X.xe s2 := by
  have nx : ∀ b : Addr,b ∉ X.ex := fun b => by rw [hex]; simp
  obtain ⟨ea,Cc,a0,B,H2,rfl,os,bare,fl,hok,un,old,C',eC,S,q2⟩ := Flown.ex hq
  cases eC
  rw [hstk] at fl
  have frs_eq : frs X.stack = (X.env :: X.outer).filterMap (·.frame) := by rw [hstk]; rfl
  have oe := fl.first
  have newE : ∀ u,s1.heap.get? ea ≠ some u := fun u z => by
    rcases old ea u z with hb | ⟨o',hb⟩
    · rw [frs_eq] at hb
      obtain ⟨_,o,ho,hd⟩ := fl.2.2.1.mem hb
      obtain ⟨o2,vs2,e1,_,e2,_⟩ := oe
      rw [e1] at ho; cases ho
      exact hd _ e2
    · rw [fl.2.1] at hb; cases hb
  have to : ∀ h6,Heap.FlyingW B (X.env :: X.outer) ea (.ref Cc) a0 h6 → s2.heap.UpToSlots h6 → Inv X pins σ H2 { s2 with heap := h6 } := fun h6 fl6 up => by
    refine I1.call' (ch := []) os ⟨fun b o e1 n1 hb _ => ?_,fun b o e1 n1 hb _ => ?_,fun b o e1 n1 _ => un.free b o e1 n1 (by simp),fun b o e1 _ => ?_,un.tups,un.frzs,un.tbls⟩ (hok.kept fl6.1) bare (fun _ z => nomatch z)
    · rcases old b o e1 with z | ⟨o',z⟩
      · exact absurd z hb
      · have e2 := un.keep b o e1 n1 hb (by simp)
        have e3 := fl.1 b o' z
        rw [e2] at e3; cases e3
        exact fl6.1 b _ z
    · obtain ⟨sl,e2⟩ := un.slot b o e1 n1 hb (by simp)
      rw [frs_eq] at hb
      obtain ⟨_,o2,ho,hd⟩ := fl.2.2.1.mem hb
      rw [e2] at ho; cases ho
      obtain ⟨sl',e3⟩ := up b _ e2 hd
      exact ⟨sl',e3⟩
    · rcases old b o e1 with z | ⟨o',z⟩
      · rw [frs_eq] at z
        obtain ⟨_,o2,ho,hd⟩ := fl.2.2.1.mem z
        obtain ⟨sl',e3⟩ := up b _ ho hd
        exact ⟨_,e3⟩
      · exact ⟨o',fl6.1 b o' z⟩
  have hfrm : X.A.frames = some (X.env :: X.outer) := by rw [I.ok.frames,hstk]
  refine wpAny_looks_onW hfrm hfr fl fun h4 held4 up4 => ?_
  refine wpAny_landsW held4 fun h5 fl5 up5 => ?_
  have I5 := to h5 fl5 (up4.trans up5)
  obtain ⟨ob,hob,hobc⟩ := fl5.there
  refine wpAny_handleBy_cons (codeAny_handlers_test (ld_glob (X := cxS X ea) (I5.suite ea) hx hR ?_ hdx)) (by intro z; cases z)
  refine excMatches_own S I5.bk hob hobc (codeAny_handlers_suite_as ?_)
  refine lands_againW fl5 fun h6 fl6 up6 => ?_
  have I6 := to h6 fl6 ((up4.trans up5).trans up6)
  obtain ⟨oe6,vs6,e6,c6,d6,_⟩ := fl6.first
  have hn2 : H2 ea = none := by
    cases z : H2 ea with
    | none => rfl
    | some u =>
      exfalso
      obtain ⟨o',z'⟩ := (hok ea u z).there
      rw [fl.2.1] at z'; cases z'
  have I7 : Inv X pins σ (upd H2 ea (excO ea Cc)) { s2 with heap := h6 } := by
    refine I6.track hn2 (fun u z => ?_) (fun z => ?_) (fun y c e z => ?_) (fun p hp z => ?_) (excO_ok e6 c6 d6)
    · obtain ⟨o',e1⟩ := I1.base.there ea u z (nx ea)
      exact newE o' e1
    · obtain ⟨m,⟨o,_,_,ho,_⟩,_⟩ := I1.loc
      exact newE o (by rw [z]; exact ho)
    · obtain ⟨v',o,ho,_⟩ := I1.cell y c e
      exact newE o (by rw [← z]; exact ho)
    · exact newE p.2 (by rw [← z]; exact (I1.pin p hp).1)
  refine store_ok (X := cxS X ea) (I7.suite ea) hN hj (.inl hn) (show RelV (.ref ea) (Value.ref ea) from rfl) (fun s8 I8 => ?_) (.inr hn)
  have q3 := q2 ea hn2
  have gone : ∀ {σ9 : St} {H9 : Hp} {s9 : Shared} {Q' : Unit → Shared → Prop},Inv (cxS X ea) pins σ9 H9 s9 → (∀ s10,Inv X pins (σ9.set j none) H9 s10 → Q' () s10) → wpAny (model X.prog X.w) X.A (do bindName X.env n .none; unbindBehindTheSuite X.env n hpos) Q' X.xe s9 :=
    fun {σ9 H9 s9 Q'} I9 k => by
      have I9' : Inv X pins σ9 H9 s9 := I9.unsuite I.ok
      obtain ⟨m,hm9,_⟩ := id I9'.loc
      exact wpAny_nameGoes_keeps hn hm9 (by rw [I.ok.kind]; rfl) fun h' v' n' sb => k _ (I9'.unset hN hj hm9 n' sb)
  refine wpAny_mono (hs ea pins s8 _ _ _ I8 q3) (fun fl9 s9 q9 => ?_) fun _ _ z => z.elim
  cases fl9 with
  | next =>
    obtain ⟨σ9,H9,I9,q9⟩ := q9
    exact gone I9 fun s10 I10 => ⟨_,H9,I10,q9⟩
  | brk =>
    obtain ⟨σ9,H9,I9,q9⟩ := q9
    exact gone I9 fun s10 I10 => ⟨_,H9,I10,q9⟩
  | cont =>
    obtain ⟨σ9,H9,I9,q9⟩ := q9
    exact gone I9 fun s10 I10 => ⟨_,H9,I10,q9⟩
  | ret u =>
    obtain ⟨y,σ9,H9,I9,r9,q9⟩ := q9
    exact gone I9 fun s10 I10 => ⟨y,_,H9,I10,r9,q9⟩
end L2
namespace L2
open PySem PySem.Spec PyProof.Rows
noncomputable abbrev SpS := Shared → Sp
structure FnOkS (P : Program) (w : World) (K : PySem.W.Frag) (mg : Str → Option Value) (base : Heap) (CX : CXT) (k : Nat) (f : Addr) (fd : FuncData) (ps : List Str) (sp : SpS) : Prop where
  len : ∀ s vs H Q E,sp s vs H Q E → vs.length = ps.length
  run : ∀ (A : Around) (outer : List Env) (s : Shared) (H : Hp) (args : Args) (us : List Value) (vs : List V) (Q : VK) (E : XK),Room k A → Env0 P w K mg base A outer s H → BindsTo s fd args (ps.zip us) → Vals vs us → sp s vs H Q E →
    codeAny (model P w) A (.call (.ref f) args) (CR CX outer P w H s Q E) s
structure CalS (P : Program) (w : World) (K : PySem.W.Frag) (mg : Str → Option Value) (base : Heap) (x : Str) (k : Nat) (ps : List Str) (sp : SpS) : Prop where
  ex : ∃ (g : Addr) (gd : FuncData),mg x = some (.ref g) ∧ PySem.W.keepIn K (.ref g) = true ∧ Binds K gd ps [] ∧ FnOkS P w K mg base (Flown P w) k g gd ps sp
structure MkC (mg : Str → Option Value) (base : Heap) (cdv : Value) (T : Addr) : Prop where
  ex : ∃ c,cdv = .ref c ∧ PySem.W.CodeHd base c T
  bm : ∃ bm ob,mg "__builtins__" = some (.ref bm) ∧ bm ≠ builtinsNs ∧ base.get? bm = some ob ∧ ob.cls = .type "module" ∧ ob.dict = some builtinsNs ∧ ob.data = .plain
structure MkD (mg : Str → Option Value) (base : Heap) (x : Str) (T : Addr) : Prop where
  ex : ∃ a o fd,mg x = some (.ref a) ∧ base.get? a = some o ∧ o.data = .func fd ∧ MkC mg base fd.code T
section
variable {P : Program} {w : World} {K : PySem.W.Frag} {mg : Str → Option Value} {base : Heap}
theorem fn_ofS {CX : CXT} {k : Nat} {f : Addr} {name qual : Str} {params : Arguments} {body : List Stmt} {scope : Scope} {dV kV doc pm cdv ct oc : Value} {an od : Option Addr}
    {osl : Array (Option Value)} {N ps : List Str} {sp : SpS} (lk : K.lookup f = some ⟨oc,od,.func (PySem.W.fnOf name qual params body scope dV kV doc pm an cdv ct),osl⟩) (hcd : PySem.W.codeIn K cdv qual = true) (S : FnScope N ps scope)
    (len : ∀ s vs H Q E,sp s vs H Q E → vs.length = ps.length)
    (hbody : ∀ (A : Around) (outer : List Env) (s : Shared) (H : Hp) (vs : List V) (Q : VK) (E : XK),K.In base → Room k (A.deeper (envOfC qual scope s.heap.objs.size f cdv)) → sp s vs H Q E →
      ∃ t,PSs (cxOf CX P w K mg base N qual scope f cdv A outer s H E) body t ∧ t { nx := fun _ H' => Q .non H',rt := Q } (start N vs) H) :
    FnOkS P w K mg base CX (k + 1) f (PySem.W.fnOf name qual params body scope dV kV doc pm an cdv ct) ps sp := by
  refine ⟨len,fun A outer s H args us vs Q E hr e0 hb r hsp => ?_⟩
  have hl := len _ _ _ _ _ hsp
  have KX : K.In s.heap := e0.mod.kin.keeps fun b o e => (e0.bs b o e).1
  have lim : s.heap.NoLimit := e0.mod.nolimit.keeps fun b o e => (e0.bs b o e).1
  have hkind : ∀ y ∈ ps.zip us,scope.names.lookup y.1 = some .local ∨ (scope.names.lookup y.1 = some .cell ∧ ((cellsFrom (s.heap.objs.size + 1) scope.names []).lookup y.1).isSome = true) := fun ⟨n,v⟩ hy => by
    rcases S.par n (List.of_mem_zip hy).1 with q | q
    · exact .inl q
    · exact .inr ⟨q,PySem.W.cellsFrom_some _ _ _ (.inl q)⟩
  refine codeAny_call_function hr.depth (KX _ _ lk) rfl S.co S.gen rfl (PySem.W.codeRec_of KX hcd) (hb _ _ _ _ ?_)
  refine wpAny_newFunctionEnv_cells S.kind hkind fun env he s1 x => ?_
  subst he
  refine ⟨lim.keeps x.toInCall.keep,codeAny_func ?_⟩
  obtain ⟨t,ht,hq⟩ := hbody A outer s H vs Q E e0.mod.kin (hr.deeper _) hsp
  have I : Inv (cxOf CX P w K mg base N qual scope f cdv A outer s H E) [] (start N vs) H s1 := inv_start S hr.hd e0 hl r x
  refine wpAny_mono (ht [] s1 (start N vs) H _ I hq) (fun fl s' hs => ?_) fun e s' hs => hs
  have fin : ∀ {σ' : St} {H' : Hp} {v : V} {u : Value},Inv (cxOf CX P w K mg base N qual scope f cdv A outer s H E) [] σ' H' s' → RelV v u → Q v H' → CE outer P w H s Q u s' :=
    fun {σ' H' v u} J rv q => ⟨v,H',J.os,J.bare,J.base,J.hok,rv,q⟩
  cases fl with
  | ret u =>
    obtain ⟨v,σ',H',J,rv,q⟩ := hs
    exact fin J rv q
  | next =>
    obtain ⟨σ',H',J,q⟩ := hs
    exact fin (v := V.non) (u := Value.none) J rfl q
  | brk =>
    obtain ⟨_,_,_,q⟩ := hs
    exact False.elim q
  | cont =>
    obtain ⟨_,_,_,q⟩ := hs
    exact False.elim q
theorem Fn.calS {x : Str} {st : Stmt} {N ps : List Str} {k : Nat} {sp : SpS} (F : Fn K mg x st ps) (S : FnScope N ps (defScope st)) (len : ∀ s vs H Q E,sp s vs H Q E → vs.length = ps.length)
    (hbody : ∀ (f : Addr) (cdv : Value) (A : Around) (outer : List Env) (s : Shared) (H : Hp) (vs : List V) (Q : VK) (E : XK),Room k (A.deeper (envOfC x (defScope st) s.heap.objs.size f cdv)) → sp s vs H Q E →
      ∃ t,PSs (cxF P w K mg base N x (defScope st) f cdv A outer s H E).nox (defBody st) t ∧ t { nx := fun _ H' => Q .non H',rt := Q } (start N vs) H) : CalS P w K mg base x (k + 1) ps sp := by
  obtain ⟨f,fd,F,m,b⟩ := F.ex
  have kp := F.kp
  obtain ⟨oc,od,kV,doc,pm,an,cdv,ct,osl,rfl,lk,hcd⟩ := F.ex
  refine ⟨f,_,m,kp,b,fn_ofS lk hcd S len fun A outer s H vs Q E _ hr h => ?_⟩
  obtain ⟨t,a,b⟩ := hbody f cdv A outer s H vs Q E hr h
  exact ⟨t,a.nox,b⟩
theorem Fun.okM {x qual : Str} {st : Stmt} {f : Addr} {fd : FuncData} {N ps : List Str} {k : Nat} {sp : Sp} {T : Addr} (F : Fun K x qual st f fd) (m : mg x = some (.ref f)) (M : MkD mg base x T) (KB : K.In base) (S : FnScope N ps (defScope st)) (len : ∀ vs H Q E,sp vs H Q E → vs.length = ps.length)
    (hbody : ∀ (cdv : Value) (A : Around) (outer : List Env) (s : Shared) (H : Hp) (vs : List V) (Q : VK) (E : XK),MkC mg base cdv T → Room k (A.deeper (envOfC qual (defScope st) s.heap.objs.size f cdv)) → sp vs H Q E →
      ∃ t,PSs (cxF P w K mg base N qual (defScope st) f cdv A outer s H E).nox (defBody st) t ∧ t { nx := fun _ H' => Q .non H',rt := Q } (start N vs) H) : FnOk P w K mg base (Flown P w) (k + 1) f fd ps sp := by
  obtain ⟨oc,od,kV,doc,pm,an,cdv,ct,osl,rfl,lk,hcd⟩ := F.ex
  have hM : MkC mg base cdv T := by
    obtain ⟨a,o,fd,e1,e2,e3,C⟩ := M.ex
    rw [m] at e1; cases e1
    rw [KB _ _ lk] at e2; cases e2
    cases e3
    exact C
  refine fn_of lk hcd S len fun A outer s H vs Q E hr h => ?_
  obtain ⟨t,a,b⟩ := hbody cdv A outer s H vs Q E hM hr h
  exact ⟨t,a.nox,b⟩
theorem Fn.calM {x : Str} {st : Stmt} {N ps : List Str} {k : Nat} {sp : Sp} {T : Addr} (F : Fn K mg x st ps) (M : MkD mg base x T) (KB : K.In base) (S : FnScope N ps (defScope st)) (len : ∀ vs H Q E,sp vs H Q E → vs.length = ps.length)
    (hbody : ∀ (f : Addr) (cdv : Value) (A : Around) (outer : List Env) (s : Shared) (H : Hp) (vs : List V) (Q : VK) (E : XK),MkC mg base cdv T → Room k (A.deeper (envOfC x (defScope st) s.heap.objs.size f cdv)) → sp vs H Q E →
      ∃ t,PSs (cxF P w K mg base N x (defScope st) f cdv A outer s H E).nox (defBody st) t ∧ t { nx := fun _ H' => Q .non H',rt := Q } (start N vs) H) : Cal P w K mg base x (k + 1) ps sp := by
  obtain ⟨f,fd,F,m,b⟩ := F.ex
  exact ⟨f,fd,m,F.kp,b,F.okM m M KB S len fun cdv A outer s H vs Q E hM hr h => hbody f cdv A outer s H vs Q E hM hr h⟩
end
noncomputable def cxE (P : Program) (w : World) (K : PySem.W.Frag) (mg : Str → Option Value) (base : Heap) (N : List Str) (env : Env) (A : Around) (outer : List Env) (s : Shared) (H : Hp) (E : XK) : Cx where
  prog := P
  w := w
  K := K
  mg := mg
  base := base
  A := A.deeper env
  N := N
  s₀ := s
  H₀ := H
  env := env
  outer := outer
  stack := env :: outer
  ex := []
  calm := true
  fn := fun _ => false
  pn := []
  xe := fun e s' => wpAny (model P w) (A.deeper env) (leaving env e) (fun _ s'' => Flown P w outer H s E e s'') (fun e' s'' => Flown P w outer H s E e' s'') s'
noncomputable abbrev cxL (P : Program) (w : World) (K : PySem.W.Frag) (mg : Str → Option Value) (base : Heap) (N : List Str) (qual : Str) (scope : Scope) (f : Addr) (cd : Value) (cl : List (Str × Addr)) (A : Around) (outer : List Env) (s : Shared) (H : Hp) (E : XK) : Cx :=
  cxE P w K mg base N (PySem.W.envX qual scope s.heap.objs.size f cd cl) A outer s H E
section
variable {P : Program} {w : World} {K : PySem.W.Frag} {mg : Str → Option Value} {base : Heap} {N : List Str} {qual : Str} {scope : Scope} {f : Addr} {cd : Value} {cl : List (Str × Addr)} {A : Around} {outer : List Env} {s₀ : Shared} {H₀ : Hp} {E : XK}
theorem pass_onL : Passes (Flown P w) (cxL P w K mg base N qual scope f cd cl A outer s₀ H₀ E) E := by
  intro pins σ H s e s' I h
  obtain ⟨ea,C,a0,B,H',rfl,os,bare,fl,hok,un,old,q⟩ := h.ex
  refine wpAny_leaves_onW (L := s₀.heap.objs.size) I.ok.frames rfl fl fun h' x1 x2 => ?_
  have inB : ∀ b o,s.heap.get? b = some o → b ∉ frs (PySem.W.envX qual scope s₀.heap.objs.size f cd cl :: outer) → ∃ o',B.get? b = some o' ∧ s'.heap.get? b = some o' := fun b o e hb => by
    rcases old b o e with z | ⟨o',z⟩
    · exact absurd z hb
    · exact ⟨o',z,fl.1 b o' z⟩
  have up : ∀ b o,s'.heap.get? b = some o → b ∈ frs (PySem.W.envX qual scope s₀.heap.objs.size f cd cl :: outer) → ∃ sl,h'.get? b = some { o with slots := sl } := fun b o e hb => by
    obtain ⟨_,o',ho',hd⟩ := fl.2.2.1.mem hb
    rw [e] at ho'; cases ho'
    exact x2 b o e hd
  refine ⟨ea,C,a0,B,H',rfl,os.trans I.os,bare,x1,hok,I.unTo rfl (fun b o e n hb => ?_) (fun b o e n hb => ?_) (fun b o e n => un.free b o e n (by simp)) (fun b o e => ?_) un.tups un.frzs un.tbls,fun b o e => ?_,q⟩
  · obtain ⟨o',e1,e2⟩ := inB b o e hb
    have e3 := un.keep b o e n hb (by simp)
    rw [e2] at e3; cases e3
    exact x1.1 b _ e1
  · obtain ⟨sl,e1⟩ := un.slot b o e n (List.mem_cons_of_mem _ hb) (by simp)
    obtain ⟨sl',e2⟩ := up b _ e1 (List.mem_cons_of_mem _ hb)
    exact ⟨sl',e2⟩
  · by_cases hb : b ∈ frs (PySem.W.envX qual scope s₀.heap.objs.size f cd cl :: outer)
    · obtain ⟨o',e1⟩ := un.there b o e (by simp)
      obtain ⟨sl,e2⟩ := up b o' e1 hb
      exact ⟨_,e2⟩
    · obtain ⟨o',e1,_⟩ := inB b o e hb
      exact ⟨o',x1.1 b o' e1⟩
  · by_cases hb : b ∈ frs outer
    · exact .inl hb
    · obtain ⟨o',e1⟩ := I.base.there b o e (by intro z; cases z)
      obtain ⟨o2,e2,_⟩ := inB b o' e1 (I.notStk e hb)
      exact .inr ⟨o2,e2⟩
theorem pe_callCL {x : Str} {k k' : Nat} {ps : List Str} {sp : Sp} {p pos : Pos} {e : Expr} {es : List Expr} {t : TA} (C : Cal P w K mg base x k ps sp) (hr : Room k' (cxL P w K mg base N qual scope f cd cl A outer s₀ H₀ E).A) (hg : Gl (cxL P w K mg base N qual scope f cd cl A outer s₀ H₀ E) x)
    (ha : PA (cxL P w K mg base N qual scope f cd cl A outer s₀ H₀ E) (e :: es) t) (hk : k ≤ k' := by decide) (hd : (x == ("__debug__" : Str)) = false := by decide)
    (he : starEach (e :: es) (cxL P w K mg base N qual scope f cd cl A outer s₀ H₀ E).env = (false,eval e (cxL P w K mg base N qual scope f cd cl A outer s₀ H₀ E).env) :: starEach es (cxL P w K mg base N qual scope f cd cl A outer s₀ H₀ E).env := by rfl)
    (hpl : (backTo pos (starEach es (cxL P w K mg base N qual scope f cd cl A outer s₀ H₀ E).env)).any (·.1) = false := by rfl) :
    PE (cxL P w K mg base N qual scope f cd cl A outer s₀ H₀ E) (.Call (.Name x p) (e :: es) [] pos) (tCall sp [] E t) := by
  obtain ⟨g,gd,hm,hkp,hb,F⟩ := C.ex
  exact pe_call F (hr.mono hk) hg hm hkp hb .nil pass_onL ha hd he hpl
end
structure Lam (P : Program) (w : World) (K : PySem.W.Frag) (mg : Str → Option Value) (base : Heap) (k : Nat) (s : Shared) (H : Hp) (f : Addr) (sp0 : Hp → VK → XK → Prop) : Prop where
  fn : ∃ o fd,s.heap.get? f = some o ∧ o.data = .func fd
  un : H f = none
  run : ∀ (A : Around) (outer : List Env) (s' : Shared) (H' : Hp) (fs : List Addr) (Q : VK) (E : XK),Room k A → Env0 P w K mg base A outer s' H' → Un fs [] H H' s.heap s'.heap → sp0 H' Q E →
    codeAny (model P w) A (.call (.ref f) ⟨[],[]⟩) (CR (Flown P w) outer P w H' s' Q E) s'
noncomputable def spHear (P : Program) (w : World) (K : PySem.W.Frag) (mg : Str → Option Value) (base : Heap) (k : Nat) (spG : (Hp → VK → XK → Prop) → Hp → VK → XK → Prop) : SpS :=
  fun s vs H Q E => ∃ f sp0,vs = [.ref f] ∧ Lam P w K mg base k s H f sp0 ∧ spG sp0 H Q E
noncomputable def TblOk (H : Hp) (T : Addr) (qual : Str) : Prop := ∃ ps,H T = some (.tbl ps) ∧ TriplesOk ps.toList ∧
  ∀ pos cv,codeAmong pos ps.toList = some cv → ∃ c' oc vs t,cv = .ref c' ∧ H c' = some (.frz oc (.own 0)) ∧ oc.data = .fields vs ∧ vs[1]? = some (.str qual t)
noncomputable def SameT (H H' : Hp) : Prop := ∀ b o,(∀ ps,o ≠ .tbl ps) → H b = some o → H' b = some o
theorem Same.t {H H' : Hp} (g : Same H H') : SameT H H' := fun b o _ h => g b o h
theorem SameT.refl (H : Hp) : SameT H H := fun _ _ _ h => h
theorem SameT.trans {H H1 H2 : Hp} (a : SameT H H1) (b : SameT H1 H2) : SameT H H2 := fun c o n h => b c o n (a c o n h)
theorem SameT.tup {H H' : Hp} (g : SameT H H') {a : Addr} {xs : List V} (h : H a = some (.tup xs)) : H' a = some (.tup xs) := g a _ (fun _ z => nomatch z) h
theorem TblOk.same {H H' : Hp} {T : Addr} {q : Str} (h : TblOk H T q) (g : Same H H') : TblOk H' T q := by
  obtain ⟨ps,e,t,k⟩ := h
  refine ⟨ps,g _ _ e,t,fun pos cv z => ?_⟩
  obtain ⟨c',oc,vs,t',a,b,r⟩ := k pos cv z
  exact ⟨c',oc,vs,t',a,g _ _ b,r⟩
theorem among_snoc {a b : Int} {c cv : Value} {pos : Pos} {l : List Value} (h : TriplesOk l) (z : codeAmong pos (l ++ [rawInt a,rawInt b,c]) = some cv) : codeAmong pos l = some cv ∨ cv = c := by
  revert z
  fun_induction TriplesOk l with
  | case1 =>
    intro z
    simp only [List.nil_append,codeAmong,rawInt] at z
    split at z
    · exact .inr (Option.some.inj z).symm
    · cases z
  | case2 a' t b' u x rest ih =>
    intro z
    simp only [List.cons_append,codeAmong] at z ⊢
    split at z
    · rename_i hc; rw [if_pos hc]; exact .inl z
    · rename_i hc; rw [if_neg hc]; exact ih h z
  | case3 l h1 h2 => exact h.elim
structure LamOk (X : Cx) (scope : Scope) (N : List Str) (ix : List (Option Nat)) : Prop where
  kind : scope.kind = .function
  co : scope.isCoroutine = false
  gen : scope.isGenerator = false
  cell : ∀ y ∈ scope.names,y.2 ≠ .cell
  free : ∀ y ∈ scope.names,y.2 = .free → X.env.kindOf y.1 = some .cell ∨ X.env.kindOf y.1 = some .free
  len : N.length = ix.length
  ix : ∀ (j : Nat) (x : Str) (i : Nat),N[j]? = some x → ix[j]? = some (some i) → X.N[i]? = some x ∧ (x,NameKind.free) ∈ scope.names ∧ scope.names.lookup x = some .free
  has : ∀ x,(scope.names.lookup x = some .cell ∨ scope.names.lookup x = some .free) → (x,NameKind.free) ∈ scope.names
theorem lam_mk {X : Cx} {scope : Scope} {N : List Str} {ix : List (Option Nat)} (kind : scope.kind = .function) (co : scope.isCoroutine = false) (gen : scope.isGenerator = false) (cell : scope.names.all (fun y => y.2 != .cell) = true)
    (free : scope.names.all (fun y => y.2 != .free || (X.env.scope.names.lookup y.1 == some .cell || X.env.scope.names.lookup y.1 == some .free)) = true)
    (len : N.length = ix.length)
    (hix : (N.zip ix).all (fun p => match p.2 with
      | none => true
      | some i => X.N[i]? == some p.1 && scope.names.any (fun y => y.1 == p.1 && y.2 == .free) && scope.names.lookup p.1 == some .free) = true)
    (has : scope.names.all (fun y => (y.2 != .cell && y.2 != .free) || scope.names.any (fun z => z.1 == y.1 && z.2 == .free)) = true) : LamOk X scope N ix := by
  have mem : ∀ x : Str,scope.names.any (fun y => y.1 == x && y.2 == .free) = true → (x,NameKind.free) ∈ scope.names := fun x h => by
    obtain ⟨y,hy,e⟩ := List.any_eq_true.mp h
    rw [Bool.and_eq_true] at e
    obtain ⟨a,b⟩ := y
    have e1 : a = x := eq_of_beq e.1
    have e2 : b = .free := eq_of_beq e.2
    subst e1; subst e2
    exact hy
  refine ⟨kind,co,gen,fun y hy e => ?_,fun y hy e => ?_,len,fun j x i h1 h2 => ?_,fun x hx => ?_⟩
  · have := List.all_eq_true.mp cell y hy
    rw [e] at this; cases this
  · have := List.all_eq_true.mp free y hy
    rw [e] at this
    simpa [Env.kindOf] using this
  · have hm : (x,some i) ∈ N.zip ix := by
      have : (N.zip ix)[j]? = some (x,some i) := by
        rw [List.getElem?_zip_eq_some]
        exact ⟨h1,h2⟩
      exact List.mem_of_getElem? this
    have := List.all_eq_true.mp hix _ hm
    simp only [Bool.and_eq_true] at this
    obtain ⟨⟨a1,a2⟩,a3⟩ := this
    exact ⟨eq_of_beq a1,mem x a2,eq_of_beq a3⟩
  · have hm : ∃ k,(x,k) ∈ scope.names ∧ (k = .cell ∨ k = .free) := by
      rcases hx with z | z
      · exact ⟨_,PySem.mem_of_lookup z,.inl rfl⟩
      · exact ⟨_,PySem.mem_of_lookup z,.inr rfl⟩
    obtain ⟨k,hk,e⟩ := hm
    have := List.all_eq_true.mp has _ hk
    rw [Bool.or_eq_true] at this
    rcases this with z | z
    · rcases e with e | e <;> (subst e; simp at z)
    · exact mem x z
section
variable {X : Cx} {pins : List (Addr × Obj)} {σ : St} {H : Hp} {s : Shared}
theorem Inv.grown {T c' : Addr} {ps more : Array Value} {oc : Obj} {h' : Heap} {t' : Nat} (I : Inv X pins σ H s) (hT : H T = some (.tbl ps)) (hx : Heap.ExtBut T s.heap h') (hge : s.heap.objs.size ≤ c') (hoc : h'.get? c' = some oc) (htb : h'.get? T = some (PySem.W.tabObj (ps ++ more))) :
    Inv X pins σ (upd (upd H T (.tbl (ps ++ more))) c' (.frz oc (.own 0))) { s with heap := h',toks := t' } := by
  have hTc : T ≠ c' := Nat.ne_of_lt (Nat.lt_of_lt_of_le (I.hok.lt hT) hge)
  have nT : ∀ b,H b = none → b ≠ T := fun b n z => by rw [z,hT] at n; cases n
  have nT' : ∀ b u,H b = some u → (∀ q,u ≠ .tbl q) → b ≠ T := fun b u e n z => by rw [z,hT] at e; cases e; exact n _ rfl
  have nc : ∀ b u,H b = some u → b ≠ c' := fun b u e => Nat.ne_of_lt (Nat.lt_of_lt_of_le (I.hok.lt e) hge)
  have at_ : ∀ b u,H b = some u → (∀ q,u ≠ .tbl q) → upd (upd H T (.tbl (ps ++ more))) c' (.frz oc (.own 0)) b = some u := fun b u e n => by
    rw [upd_ne (nc b u e),upd_ne (nT' b u e n)]; exact e
  refine I.step (g' := s.gens) (d' := s.drawn) (ch := []) (fun _ z => nomatch z) (fun b o _ _ _ e n => hx b o (nT b n) e) (fun b o _ _ _ e n => ⟨o.slots,hx b o (nT b n) e⟩)
    (fun b o _ e n => ?_) (fun b o _ e => ?_) (fun b xs e => at_ b _ e fun _ z => nomatch z) (fun b o u e => at_ b _ e fun _ z => nomatch z) (fun b q e => ?_) (fun m hm => hm.extBut hx (nT _ I.free)) (fun b u e => ?_) I.bare
  · rw [upd_ne (Nat.ne_of_lt (Nat.lt_of_lt_of_le (Heap.lt_size e) hge)),upd_ne (nT b n)]; exact n
  · by_cases hb : b = T
    · exact ⟨_,hb ▸ htb⟩
    · exact ⟨o,hx b o hb e⟩
  · by_cases hb : b = T
    · subst hb
      rw [hT] at e; cases e
      exact ⟨more,by rw [upd_ne hTc,upd_same]⟩
    · exact ⟨#[],by rw [upd_ne (nc b _ e),upd_ne hb,e]; simp⟩
  · by_cases hc : b = c'
    · subst hc
      rw [upd_same] at e; cases e
      exact ⟨hoc,_,hoc⟩
    · rw [upd_ne hc] at e
      by_cases hb : b = T
      · subst hb
        rw [upd_same] at e; cases e
        exact htb
      · rw [upd_ne hb] at e
        refine (I.hok b u e).stay (fun d v hd q => hx d v ?_ q) (fun d q => at_ d _ q fun _ z => nomatch z) fun d xs q => at_ d _ q fun _ z => nomatch z
        rcases hd with rfl | hd
        · exact hb
        · exact nT' d _ hd fun _ z => nomatch z
theorem ev_lam {params : Arguments} {body : Expr} {scope : Scope} {lpos : Pos} {T : Addr} {qual : Str} {cl : List (Str × Addr)} (I : Inv X pins σ H s) (M : MkC X.mg X.base X.env.code T) (hT : TblOk H T qual) (hq : X.env.qual ++ "<lambda>" = qual)
    (hcl : closureFor scope X.env = pure cl) (hdef : defaultsOf params X.env = ([],[]))
    {Q : Value → Shared → Prop} (h : ∀ (f c' : Addr) (ctv : Value) (s1 : Shared) (H1 : Hp),Inv X pins σ H1 s1 → SameT H H1 → TblOk H1 T qual → H1 f = none →
      s1.heap.get? f = some (PySem.W.kla_obj "<lambda>" qual params body scope cl ((X.mg "__name__").getD .none) c' ctv) → (∃ oc vs t,H1 c' = some (.frz oc (.own 0)) ∧ oc.data = .fields vs ∧ vs[1]? = some (.str qual t)) → Q (.ref f) s1) :
    wpAny (model X.prog X.w) X.A (eval (.Lambda params body scope lpos) X.env) Q X.xe s := by
  subst hq
  obtain ⟨ps,eT,ht,hk⟩ := hT
  obtain ⟨c,hcode,C⟩ := M.ex
  obtain ⟨bm,ob,b1,b2,b3,b4,b5,b6⟩ := M.bm
  have hP : s.heap.get? T = some (PySem.W.tabObj ps) := I.hok T _ eT
  have hgs : s.heap.Ns mainGlobals X.mg := I.ok.mod.glob.keeps I.bk
  have nT : ∀ b o,X.base.get? b = some o → b ≠ T := fun b o e z => by
    have := (I.bs b o e).2
    rw [z,eT] at this; cases this
  have hgP : mainGlobals ≠ T := by
    obtain ⟨o,es,ep,e,_⟩ := I.ok.mod.glob
    exact nT _ _ e
  have hbG : bm ≠ mainGlobals := fun q => by
    obtain ⟨o,es,ep,e,hd,_⟩ := I.ok.mod.glob
    rw [q,e] at b3; cases b3; rw [hd] at b6; cases b6
  have hb : s.heap.BuiltinsAt X.mg T := ⟨bm,ob,b1,b2,hbG,nT _ _ b3,I.bk _ _ b3,b4,b5,b6⟩
  refine PySem.W.kla_eval hdef ?_
  cases hf : codeAmong lpos ps.toList with
  | none =>
    refine PySem.W.kla_makeFunction (mg := X.mg) hcl I.ok.glob hgs hcode (C.keeps I.bk) hP ht hf hgP hb fun c' ctv h' tk hx hge hlt hrec htb => ?_
    obtain ⟨c₂,oc,vs,t,e2,hoc,hd,hv⟩ := hrec
    cases e2
    have I1 := I.grown (t' := tk) eT hx hge hoc htb
    have I2 := I1.kept (h' := h'.push (PySem.W.kla_obj "<lambda>" (X.env.qual ++ "<lambda>") params body scope cl ((X.mg "__name__").getD .none) c' ctv)) (t' := tk) (fun b u e => Heap.get?_push_of_some _ e)
    have hTc : T ≠ c' := Nat.ne_of_lt (Nat.lt_of_lt_of_le (I.hok.lt eT) hge)
    have at_ : ∀ b u,(∀ q,u ≠ .tbl q) → H b = some u → upd (upd H T (.tbl (ps ++ #[rawInt lpos.line,rawInt lpos.col,.ref c']))) c' (.frz oc (.own 0)) b = some u := fun b u n e => by
      rw [upd_ne (Nat.ne_of_lt (Nat.lt_of_lt_of_le (I.hok.lt e) hge)),upd_ne (fun z => by rw [z,eT] at e; cases e; exact n _ rfl)]; exact e
    refine h _ c' ctv _ _ I2 at_ ⟨ps ++ #[rawInt lpos.line,rawInt lpos.col,.ref c'],by rw [upd_ne hTc,upd_same],?_,fun pos cv z => ?_⟩ (I1.hok.fresh (Nat.le_refl _)) (Heap.get?_push_size _ rfl) ⟨oc,vs,t,upd_same,hd,hv⟩
    · rw [Array.toList_append]; exact TriplesOk_snoc _ _ _ _ ht
    · rw [Array.toList_append] at z
      rcases among_snoc ht z with z | z
      · obtain ⟨c3,oc3,vs3,t3,e3,f3,r3⟩ := hk pos cv z
        exact ⟨c3,oc3,vs3,t3,e3,at_ _ _ (fun _ z => nomatch z) f3,r3⟩
      · exact ⟨c',oc,vs,t,z,upd_same,hd,hv⟩
  | some cv =>
    obtain ⟨c',oc,vs,t,rfl,fc,hd,hv⟩ := hk lpos cv hf
    refine PySem.W.kla_makeFunctionHit (mg := X.mg) hcl I.ok.glob hgs hcode (C.keeps I.bk) hP ht hf hb fun ctv h' tk hk' hsz => ?_
    have I1 := I.kept (h' := h') (t' := tk) hk'
    have I2 := I1.kept (h' := h'.push (PySem.W.kla_obj "<lambda>" (X.env.qual ++ "<lambda>") params body scope cl ((X.mg "__name__").getD .none) c' ctv)) (t' := tk) (fun b u e => Heap.get?_push_of_some _ e)
    exact h _ c' ctv _ _ I2 (SameT.refl _) ⟨ps,eT,ht,hk⟩ (I1.hok.fresh (Nat.le_refl _)) (Heap.get?_push_size _ rfl) ⟨oc,vs,t,fc,hd,hv⟩
theorem inv_lam {P : Program} {w : World} {K : PySem.W.Frag} {mg : Str → Option Value} {base : Heap} {N : List Str} {qual : Str} {scope : Scope} {f : Addr} {cd : Value} {cl : List (Str × Addr)} {A : Around} {outer : List Env} {s : Shared} {H : Hp} {E : XK} {σ : St} {h₁ : Heap} {tk : Nat}
    (hk : scope.kind = .function) (hd : A.handled = none) (e0 : Env0 P w K mg base A outer s H)
    (cells : ∀ x c,cl.lookup x = some c → ∃ v,s.heap.IsCell c v ∧ H c = none) (inj : ∀ x y c,cl.lookup x = some c → cl.lookup y = some c → x = y)
    (has : ∀ x,(scope.names.lookup x = some .cell ∨ scope.names.lookup x = some .free) → ∃ c,cl.lookup x = some c)
    (vals : ∀ (i : Nat) (x : Str) (v : V),N[i]? = some x → σ[i]? = some (some v) → ∃ u,RelV v u ∧ scope.names.lookup x = some .free ∧ ∃ c,cl.lookup x = some c ∧ s.heap.IsCell c (some u)) (len : σ.length = N.length)
    (hns : h₁.Ns s.heap.objs.size fun _ => none) (keep : ∀ b o,s.heap.get? b = some o → h₁.get? b = some o) :
    Inv (cxL P w K mg base N qual scope f cd cl A outer s H E) [] σ H { s with heap := h₁,toks := tk } := by
  have noA : ∀ b : Addr,b ∉ (cxL P w K mg base N qual scope f cd cl A outer s H E).ex := fun b z => absurd (show b ∈ ([] : List Addr) from z) (by simp)
  have ck : ∀ c v,s.heap.IsCell c v → h₁.IsCell c v := fun c v ⟨o,a,b⟩ => ⟨o,keep _ _ a,b⟩
  refine ⟨⟨e0.mod,hk,rfl,rfl,Nat.le_refl _,inj,has,(fun y c h => nomatch h),fun _ => hd,Around.frames_deeper e0.frames,.inr ⟨rfl,rfl⟩,fun b z => absurd z (noA b),e0.bs,e0.bsz,fun b _ _ => noA b,fun b z => absurd z (noA b),e0.funs,e0.frf⟩,
    rfl,e0.bare,Un.kept keep,⟨_,hns,fun i y v h1 h2 h3 => ?_⟩,fun y c h => ?_,e0.hok.fresh (Nat.le_refl _),fun y c h => ?_,fun p hp => absurd (show p ∈ ([] : List (Addr × Obj)) from hp) (by simp),e0.hok.kept keep,len⟩
  · obtain ⟨u,r,k,c,e,z⟩ := vals i y v h1 h2
    exact ⟨u,r,.inr ⟨.inr k,c,e,ck _ _ z⟩⟩
  · obtain ⟨v,z,_⟩ := cells y c h
    exact ⟨v,ck _ _ z⟩
  · obtain ⟨_,_,n⟩ := cells y c h
    exact n
noncomputable def tHear (T : Addr) (qual : Str) (ix : List (Option Nat)) (spG : (Hp → VK → XK → Prop) → Hp → VK → XK → Prop) (tb : XK → TE) : TE :=
  fun σ H Q => TblOk H T qual ∧ ∀ H1,SameT H H1 → TblOk H1 T qual → spG (fun H' Q' E' => tb E' (cst ix σ) H' Q') H1 Q E0
theorem pe_hear {g : Str} {k k' kl : Nat} {spG : (Hp → VK → XK → Prop) → Hp → VK → XK → Prop} {par : Str} {T : Addr} {qual : Str} {params : Arguments} {body : Expr} {scope : Scope} {lpos p pos : Pos} {N : List Str} {ix : List (Option Nat)} {tb : XK → TE}
    (C : CalS X.prog X.w X.K X.mg X.base g k [par] (spHear X.prog X.w X.K X.mg X.base (kl + 1) spG)) (hr : Room k' X.A) (hg : Gl X g) (M : MkC X.mg X.base X.env.code T) (O : LamOk X scope N ix)
    (hb : ∀ (f : Addr) (cd : Value) (cl : List (Str × Addr)) (A : Around) (outer : List Env) (s : Shared) (H : Hp) (E : XK),Room kl (A.deeper (PySem.W.envX qual scope s.heap.objs.size f cd cl)) → PE (cxL X.prog X.w X.K X.mg X.base N qual scope f cd cl A outer s H E) body (tb E))
    (hq : X.env.qual ++ "<lambda>" = qual) (hp : params = { posonlyargs := [],args := [],vararg := none,kwonlyargs := [],kw_defaults := [],kwarg := none,defaults := [] } := by rfl)
    (hk : k ≤ k' := by decide) (hd : (g == ("__debug__" : Str)) = false := by decide) :
    PE X (.Call (.Name g p) [.Lambda params body scope lpos] [] pos) (tHear T qual ix spG tb) := by
  intro pins s σ H Q I ⟨hT,h⟩
  subst hp
  obtain ⟨gf,gd,hm,hkp,hbd,F⟩ := C.ex
  obtain ⟨cl,ecl,hcl1,hcl2⟩ := closure_ok (env := X.env) (scope := scope) fun y hy hf => I.ok.has y.1 (O.free y hy hf)
  refine wpAny_Call_Name_kw (ld_glob I hg hm ?_ hd)
  refine PySem.W.callWith_K (h₀ := X.base) I.ok.mod.kin hkp (Calls.spliced_cons ?_) rfl rfl
  refine ev_lam (params := { posonlyargs := [],args := [],vararg := none,kwonlyargs := [],kw_defaults := [],kwarg := none,defaults := [] }) (body := body) (lpos := lpos) I M hT hq ecl rfl fun f c' ctv s1 H1 I1 g1 hT1 hf1 ho hc' => ?_
  refine Calls.spliced_nil ⟨I1.kIn,?_⟩
  have L : Lam X.prog X.w X.K X.mg X.base (kl + 1) s1 H1 f (fun H' Q' E' => tb E' (cst ix σ) H' Q') := by
    refine ⟨⟨_,_,ho,rfl⟩,hf1,fun A outer s' H' fs Q' E' hr' e0 un hsp => ?_⟩
    obtain ⟨sl,ho'⟩ := un.any ho hf1 (by simp)
    obtain ⟨oc,vs,t,fc,hdc,hv⟩ := hc'
    have fc' := un.frzs _ _ _ fc
    have hoc := (e0.hok _ _ fc').1
    have lim : s'.heap.NoLimit := e0.mod.nolimit.keeps fun b o e => (e0.bs b o e).1
    refine PySem.W.kla_callFunE hr'.depth ho' rfl O.co O.gen rfl ⟨c',oc,vs,t,rfl,hoc,hdc,hv⟩ ?_
    refine wpAny_pure (wpAny_newFunctionEnv (binds := []) O.cell (fun _ z => nomatch z) (fun h₁ hns hsb => ?_) O.kind)
    have keep : ∀ b o,s'.heap.get? b = some o → h₁.get? b = some o := fun b o e => hsb.extBut b o (Nat.ne_of_lt (Heap.lt_size e)) (Heap.get?_push_of_some _ e)
    refine ⟨lim.keeps keep,?_⟩
    have cellAt : ∀ x c,X.env.cells.lookup x = some c → ∀ v,s1.heap.IsCell c v → s'.heap.IsCell c v := fun x c e v ⟨o,a,b⟩ => by
      obtain ⟨sl,a'⟩ := un.any a (I1.freeC x c e) (by simp)
      exact ⟨_,a',b⟩
    have hI : Inv (cxL X.prog X.w X.K X.mg X.base N qual scope f (.ref c') cl A outer s' H' E') [] (cst ix σ) H' { s' with heap := h₁,toks := s'.toks + 0 } := by
      refine inv_lam O.kind hr'.hd e0 (fun x c e => ?_) (fun x y c e1 e2 => I.ok.inj x y c (hcl1 _ _ e1) (hcl1 _ _ e2)) (fun x hx => hcl2 (x,.free) (O.has x hx) rfl) (fun i x v h1 h2 => ?_) ?_ hns keep
      · obtain ⟨v,o,a,b⟩ := I1.cell x c (hcl1 _ _ e)
        exact ⟨v,cellAt x c (hcl1 _ _ e) v ⟨o,a,b⟩,un.free c o a (I1.freeC x c (hcl1 _ _ e)) (by simp)⟩
      · have h2' : ∃ i',ix[i]? = some (some i') ∧ σ[i']? = some (some v) := by
          unfold cst at h2
          rw [List.getElem?_map] at h2
          cases e : ix[i]? with
          | none => rw [e] at h2; cases h2
          | some oi =>
            rw [e] at h2
            cases oi with
            | none => cases h2
            | some i' =>
              refine ⟨i',rfl,?_⟩
              have h3 : (match σ[i']? with | some v => v | none => none) = some v := Option.some.inj h2
              cases e2 : σ[i']? with
              | none => rw [e2] at h3; cases h3
              | some z => rw [e2] at h3; rw [← h3]
        obtain ⟨i',e1,e2⟩ := h2'
        obtain ⟨hX,hmem,hfree⟩ := O.ix i x i' h1 e1
        have hkind := O.free _ hmem rfl
        have hvis : Vis X.env.scope x := by
          rcases hkind with z | z
          · exact .inr (.inl z)
          · exact .inr (.inr z)
        obtain ⟨m,hn,hl⟩ := I1.loc
        obtain ⟨u,r,l⟩ := hl i' x v hX e2 hvis
        rcases l with ⟨z,_⟩ | ⟨_,c,ec,hcell⟩
        · rcases hkind with y | y <;> (rw [y] at z; cases z)
        · obtain ⟨c2,hc2⟩ := hcl2 (x,.free) hmem rfl
          have := hcl1 _ _ hc2
          rw [ec] at this; cases this
          exact ⟨u,r,hfree,c,hc2,cellAt x c ec _ hcell⟩
      · unfold cst
        rw [List.length_map,O.len]
    refine PySem.W.kla_codeExpr (env := PySem.W.envX qual scope s'.heap.objs.size f (.ref c') cl) ?_
    refine wpAny_mono (hb f (.ref c') cl A outer s' H' E' (hr'.deeper _) [] _ _ _ _ hI hsp) (fun u s'' ⟨v,H'',J,rv,q⟩ => ?_) fun e s'' z => z
    exact ⟨v,H'',J.os,J.bare,J.base,J.hok,rv,q⟩
  have hsp : spHear X.prog X.w X.K X.mg X.base (kl + 1) spG s1 [.ref f] H1 Q E0 := ⟨f,_,rfl,L,h H1 g1 hT1⟩
  refine wpAny_call (codeAny_mono (F.run X.A X.stack s1 H1 ⟨[.ref f],[]⟩ [.ref f] [.ref f] Q E0 (hr.mono hk) I1.env0 (hbd s1 [.ref f] I1.kIn rfl) (.cons rfl .nil) hsp) fun r s' hq => ?_)
  cases r with
  | error e => exact (flown_none hq).elim
  | ok fl =>
    cases fl with
    | ret u => exact I1.after hq
    | next => exact False.elim hq
    | brk => exact False.elim hq
    | cont => exact False.elim hq
theorem ev_told {told : Str} {i k k' : Nat} {tp cpos : Pos} {f : Addr} {sp0 : Hp → VK → XK → Prop} {Q : VK} {E : XK} {R : Value → Shared → Prop} {EE : Value → Shared → Prop} (L : Lam X.prog X.w X.K X.mg X.base k X.s₀ X.H₀ f sp0) (hr : Room k' X.A) (hex : X.ex = []) (hN : X.N[i]? = some told) (hv : Vis X.env.scope told) (hk : k ≤ k')
    (hd : (told == ("__debug__" : Str)) = false) (hcd : (told == ("__classdict__" : Str)) = false) (I : Inv X pins σ H s) (hσ : σ[i]? = some (some (.ref f))) (h : sp0 H Q E)
    (ok : ∀ u s',EP X pins σ Q u s' → R u s') (er : ∀ s1 e s',Inv X pins σ H s1 → Flown X.prog X.w X.stack H s1 E e s' → EE e s') :
    wpAny (model X.prog X.w) X.A (eval (.Call (.Name told tp) [] [] cpos) X.env) R EE s := by
  refine wpAny_Call_Name_kw ?_
  refine thn (pe_var (X := X.wish EE) hN hv hd hcd pins s σ H (fun v H' => v = .ref f ∧ H' = H) (I.wish EE) ⟨.ref f,hσ,rfl,rfl⟩) fun u s1 ⟨v,H1,I1',r,e1,e2⟩ => ?_
  subst e1; subst e2
  obtain rfl : u = Value.ref f := r
  have I1 : Inv X pins σ H1 s1 := I1'.unwish
  have un : Un X.fs [] X.H₀ H1 X.s₀.heap s1.heap := by have := I1.base; rw [hex] at this; exact this
  obtain ⟨⟨oc,od,odt,osl⟩,fd,ho,hdf⟩ := L.fn
  obtain rfl : odt = .func fd := hdf
  obtain ⟨sl,ho'⟩ := un.any ho L.un (by simp)
  refine PySem.W.callWith_of (P := fun h => h.get? f = some ⟨oc,od,.func fd,sl⟩) rfl (fun h e => ⟨.frame,.inl rfl,(PySem.W.Looks.ld (part := none) e).andThen .now⟩) (PyProof.Rows.evalArgs_nil3 ⟨ho',?_⟩)
  refine wpAny_call (codeAny_mono (L.run X.A X.stack s1 H1 X.fs Q E (hr.mono hk) I1.env0 un h) fun rs s2 hq => ?_)
  cases rs with
  | ok fl =>
    cases fl with
    | ret u => exact ok u s2 (I1.after hq)
    | next => exact False.elim hq
    | brk => exact False.elim hq
    | cont => exact False.elim hq
  | error ev => exact er s1 ev s2 I1 hq
noncomputable def tTryTold (base : Heap) (R : Addr) (f : Addr) (sp0 : Hp → VK → XK → Prop) (i j : Nat) (ts : Addr → TS) : TS := fun D σ H => σ[i]? = some (some (.ref f)) ∧ sp0 H (fun _ H2 => D.nx σ H2) (tTaken base R j ts D σ)
theorem ps_tryTold {n x told : Str} {i j k k' : Nat} {f : Addr} {sp0 : Hp → VK → XK → Prop} {R : Addr} {tp cpos epos xp hpos pos : Pos} {b₀ : Stmt} {suite : List Stmt} {ts : Addr → TS}
    (L : Lam X.prog X.w X.K X.mg X.base k X.s₀ X.H₀ f sp0) (hr : Room k' X.A) (hstk : X.stack = X.env :: X.outer) (hfr : X.env.frame = some X.env.locals) (hex : X.ex = []) (hi : X.N[i]? = some told) (hv : Vis X.env.scope told) (hN : X.N.Nodup)
    (hj : X.N[j]? = some n) (hn : X.env.scope.names.lookup n = some .local) (hx : Gl X x) (hR : X.mg x = some (.ref R)) (hs : ∀ a,PSs (cxS X a) (b₀ :: suite) (ts a)) (hk : k ≤ k' := by decide)
    (hdf : (told == ("__debug__" : Str)) = false := by decide) (hcd : (told == ("__classdict__" : Str)) = false := by decide) (hdx : (x == ("__debug__" : Str)) = false := by decide)
    (hsw : swapsWith (.Call (.Name told tp) [] [] cpos) none epos.line X.env = pure false := by rfl) :
    PS X (.Try [.Expr (.Call (.Name told tp) [] [] cpos) epos] [.ExceptHandler (some (.Name x xp)) (some n) (b₀ :: suite) hpos] [] [] pos) (tTryTold X.base R f sp0 i j ts) := by
  intro pins s σ H D I ⟨hσ,h⟩
  refine wpAny_Try_except (wpAny_execs_cons (wpAny_Expr_any (ev_told L hr hex hi hv hk hdf hcd I hσ h (fun u s' ⟨v,H2,I2,ry,q2⟩ => ?_) fun s1 e s' I1 hq => ?_) I.quiet hsw))
  · exact wpAny_execs_nil (wpAny_execs_nil ⟨_,H2,I2,q2⟩)
  · exact try_lands hstk hfr hex hN hj hn hx hR hs hdx I I1 hq
end
noncomputable def isTab0 (o : Obj) : Bool := match o.cls,o.data with
  | .none,.fields vs => vs.isEmpty
  | _,_ => false
theorem law_callT {P : Program} {w : World} {K : PySem.W.Frag} {mg mb : Str → Option Value} {CX : CXT} {k : Nat} {fa a T : Addr} {fd : FuncData} {x x₀ : Str} {sp : Sp} {s₁ : Shared} {vs : List Value} {ns : List Int}
    (KX : K.In s₁.heap) (hns : s₁.heap.Ns mainGlobals mg) (hb : s₁.heap.Ns builtinsNs mb) (hbb : ∀ x : Str,x ≠ "__name__" → mb x = bootBuiltins x) (hlim : s₁.heap.NoLimit) (hdig : s₁.heap.NoDigits) (hg : s₁.gens = #[])
    (hT : s₁.heap.get? T = some (PySem.W.tabObj #[])) (hKT : K.lookup T = none) (M : MkD mg s₁.heap x₀ T) (hcT : isCodeTable s₁.heap T)
    (ha : s₁.heap.get? a = some { cls := .type "list",data := .seq vs.toArray }) (hi : IntsAre vs ns) (hl : ns.length ≤ sizeLine) (hr : Room k callerA)
    (F : ∀ base : Heap,K.In base → base.Ns mainGlobals mg → MkD mg base x₀ T → FnOk P w K mg base CX k fa fd [x] sp) (hbind : ∀ (s : Shared) (u : Value),BindsTo s fd ⟨[u],[]⟩ [(x,u)])
    (hsp : ∀ H : Hp,SqL K H a (ns.map V.int) → (∀ q,TblOk H T q) → sp [.ref a] H (fun v _ => v = .bl true) fun _ _ _ => False)
    (hCX : ∀ H e s',CX [] H s₁ (fun _ _ _ => False) e s' → False) :
    codeAny (model P w) callerA (.call (.ref fa) ⟨[.ref a],[]⟩) (fun r s' => r = .ok (.ret (.bool true)) ∧ OldK s₁.heap s'.heap ∧ s'.os = s₁.os ∧ AllBare s'.gens) s₁ := by
  have rv := vals_ints hi
  have lenV := hi.length
  have core : ∀ H : Hp,H T = some (.tbl #[]) → (∀ b,b ≠ T → H b = none ∨ ∃ o xs,H b = some (.frz o (.lst xs))) → SqL K H a (ns.map V.int) → HOk P w H s₁.heap → (∀ b,H b ≠ none → b = a ∨ b = T) → (H a ≠ none → K.lookup a = none) →
      codeAny (model P w) callerA (.call (.ref fa) ⟨[.ref a],[]⟩) (fun r s' => r = .ok (.ret (.bool true)) ∧ OldK s₁.heap s'.heap ∧ s'.os = s₁.os ∧ AllBare s'.gens) s₁ := by
    intro H eT hO hS hok hA hK
    have base_of : ∀ {b : Addr} {o : Obj},s₁.heap.get? b = some o → H b = none → (hidT s₁.heap H).get? b = some o := fun e n => hidT_get e n
    have no2 : ∀ {b : Addr} {o : Obj},s₁.heap.get? b = some o → (∀ xs n,o.data ≠ .seq xs n) → o.cls ≠ .none → H b = none := fun {b o} e d c => by
      cases q : H b with
      | none => rfl
      | some u =>
        rcases hA b (by rw [q]; simp) with e' | e'
        · subst e'
          rw [ha] at e; cases e
          exact absurd rfl (d _ _)
        · subst e'
          rw [hT] at e; cases e
          exact absurd rfl c
    have noA : ∀ {b : Addr} {o : Obj} {es : Array DictEntry} {ep : Nat},s₁.heap.get? b = some o → o.data = .dict es ep → H b = none := fun {b o es ep} e d => by
      cases q : H b with
      | none => rfl
      | some u =>
        rcases hA b (by rw [q]; simp) with e' | e'
        · subst e'
          rw [ha] at e; cases e
          have d' : Data.seq vs.toArray _ = Data.dict es ep := d
          cases d'
        · subst e'
          rw [hT] at e; cases e
          have d' : Data.fields _ = Data.dict es ep := d
          cases d'
    have nsK : ∀ {b : Addr} {m : Str → Option Value},s₁.heap.Ns b m → (hidT s₁.heap H).Ns b m := fun {b m} ⟨o,es,ep,e,d,r⟩ => ⟨o,es,ep,base_of e (noA e d),d,r⟩
    have hKb : K.In (hidT s₁.heap H) := fun b o e => base_of (KX b o e) (by
      cases q : H b with
      | none => rfl
      | some u =>
        rcases hA b (by rw [q]; simp) with e' | e'
        · subst e'
          rw [hK (by rw [q]; simp)] at e; cases e
        · subst e'
          rw [hKT] at e; cases e)
    have hM : Mod K mg (hidT s₁.heap H) := ⟨hKb,nsK hns,⟨mb,nsK hb,hbb⟩,let ⟨mc,h1,h2⟩ := hlim; ⟨mc,nsK h1,h2⟩,let ⟨mc,h1,h2⟩ := hdig; ⟨mc,nsK h1,h2⟩⟩
    have e0 : Env0 P w K mg (hidT s₁.heap H) callerA [] s₁ H := ⟨rfl,hM,fun b o e => of_hidT e,Nat.le_of_eq (hidT_size _ _),trivial,fun b hb => absurd (show b ∈ ([] : List Addr) from hb) (by simp),hok,.of_eq hg⟩
    have mk : MkD mg (hidT s₁.heap H) x₀ T := by
      obtain ⟨a0,o,fd0,m1,m2,m3,⟨c,c1,oc,ws,file,tf,flags,tg,inF,text,tt,g1,g2,g3,g4,g5,g6,g7,g8,g9,g10⟩,⟨bm,ob,b1,b2,b3,b4,b5,b6⟩⟩ := M.ex
      have n1 : H a0 = none := by
        cases q : H a0 with
        | none => rfl
        | some u =>
          rcases hA a0 (by rw [q]; simp) with e' | e'
          · subst e'; rw [ha] at m2; cases m2; cases m3
          · subst e'; rw [hT] at m2; cases m2; cases m3
      have n2 : H c = none := no2 g1 (fun xs n z => by rw [g3] at z; cases z) (fun z => by rw [g2] at z; cases z)
      have n3 : H bm = none := no2 b3 (fun xs n z => by rw [b6] at z; cases z) (fun z => by rw [b4] at z; cases z)
      exact ⟨a0,o,fd0,m1,base_of m2 n1,m3,⟨c,c1,oc,ws,file,tf,flags,tg,inF,text,tt,base_of g1 n2,g2,g3,g4,g5,g6,g7,g8,g9,g10⟩,⟨bm,ob,b1,b2,base_of b3 n3,b4,b5,b6⟩⟩
    refine codeAny_mono ((F _ hKb (nsK hns) mk).run callerA [] s₁ H ⟨[.ref a],[]⟩ [.ref a] [.ref a] _ _ hr e0 (hbind s₁ (.ref a)) (.cons rfl .nil) (hsp H hS fun q => ⟨#[],eT,trivial,fun pos cv z => by cases z⟩)) fun r s' h => ?_
    cases r with
    | error e => exact (hCX H e s' h).elim
    | ok fl =>
      cases fl with
      | next => exact False.elim h
      | brk => exact False.elim h
      | cont => exact False.elim h
      | ret u =>
        obtain ⟨v,H',os,bare,un,hok',r',q⟩ := h
        have q' : v = .bl true := q
        subst q'
        obtain rfl : u = Value.bool true := r'
        have nofs : ∀ b : Addr,b ∉ frs [] := fun b z => absurd (show b ∈ ([] : List Addr) from z) (by simp)
        refine ⟨rfl,⟨fun b o e => ?_,fun b o e => un.there b o e (by simp)⟩,os,bare⟩
        by_cases hbT : b = T
        · subst hbT
          rw [hT] at e; cases e
          obtain ⟨more,z⟩ := un.tbls b _ eT
          exact .inr (.inl ⟨hcT,rfl,#[],more,rfl,hok' b _ z⟩)
        · refine .inl ?_
          cases q : H b with
          | none => exact un.keep b o e q (nofs b) (by simp)
          | some u =>
            rcases hO b hbT with z | ⟨ob,xs,z⟩
            · rw [q] at z; cases z
            · have z2 := un.frzs b ob _ z
              obtain ⟨e1,_⟩ := hok b _ z
              obtain ⟨e2,_⟩ := hok' b _ z2
              rw [e] at e1; cases e1
              exact e2
  have haT : a ≠ T := fun z => by rw [z,hT] at ha; cases ha
  cases hk : K.lookup a with
  | some o =>
    have e := KX a o hk
    rw [ha] at e
    cases e
    refine core (fun b => if b = T then some (.tbl #[]) else none) (if_pos rfl) (fun b hb => .inl (if_neg hb)) (.inr ⟨_,vs.toArray,_,hk,rfl,rfl,rfl,by rw [List.size_toArray,lenV]; exact hl,by simpa using rv⟩) (fun b u z => ?_) (fun b z => ?_) fun z => absurd (if_neg haT) z
    · by_cases hb : b = T
      · have z' := (if_pos hb).symm.trans z
        cases z'
        subst hb
        exact hT
      · have z' := (if_neg hb).symm.trans z
        cases z'
    · by_cases hb : b = T
      · exact .inr hb
      · exact absurd (if_neg hb) z
  | none =>
    have at_ : ∀ b : Addr,b ≠ T → (if b = T then some (HO.tbl #[]) else if b = a then some (HO.frz { cls := .type "list",data := .seq vs.toArray } (.lst (ns.map V.int))) else none) = if b = a then some (HO.frz { cls := .type "list",data := .seq vs.toArray } (.lst (ns.map V.int))) else none := fun b hb => if_neg hb
    refine core (fun b => if b = T then some (.tbl #[]) else if b = a then some (.frz { cls := .type "list",data := .seq vs.toArray } (.lst (ns.map V.int))) else none) (if_pos rfl) (fun b hbT => ?_)
      (.inl (.inr ⟨{ cls := .type "list",data := .seq vs.toArray },(at_ a haT).trans (if_pos rfl)⟩)) (fun b u z => ?_) (fun b z => ?_) fun _ => hk
    · by_cases hb : b = a
      · exact .inr ⟨_,_,(at_ b hbT).trans (if_pos hb)⟩
      · exact .inl ((at_ b hbT).trans (if_neg hb))
    · by_cases hbT : b = T
      · have z' := (if_pos hbT).symm.trans z
        cases z'
        subst hbT
        exact hT
      · have z := (at_ b hbT).symm.trans z
        by_cases hb : b = a
        · have z' := (if_pos hb).symm.trans z
          cases z'
          subst hb
          exact ⟨ha,by rw [List.length_map]; exact hl,vs,_,rv,ha⟩
        · have z' := (if_neg hb).symm.trans z
          cases z'
    · by_cases hbT : b = T
      · exact .inr hbT
      · by_cases hb : b = a
        · exact .inl hb
        · exact absurd ((at_ b hbT).trans (if_neg hb)) z
theorem walk_ofT {l : PySem.W.OpenLaw} {n k : Nat} {q : Program} {loose : List Str} {XP : (Str → Option Value) → Heap → Prop} {YP : World → Heap → Prop} {d : DefRec} {K : Params → PySem.W.Frag} {CX : World → CXT} {sp : World → Addr → Sp} {x : Str} (x₀ : Str)
    (hn : l.most = some n) (hn2 : n ≤ sizeLine) (hdf : d.params.defaults = []) (hr : Room k callerA)
    (hY : ∀ (w : World) (h : Heap),YP w h → (K w.params).In h)
    (hx : (recsOf q).any (fun d => d.name == x₀) = true) (hno : ∀ P : Params,(K P).all (fun p => !isTab0 p.2) = true)
    (F : ∀ (w : World) (mg : Str → Option Value) (fa : Addr) (h : Heap),(K w.params).In h → h.Ns mainGlobals mg → mg d.name = some (.ref fa) →
      ∃ fd : FuncData,(∀ (s : Shared) (u : Value),BindsTo s fd ⟨[u],[]⟩ [(x,u)]) ∧
        ∀ (T : Addr) (base : Heap),(K w.params).In base → base.Ns mainGlobals mg → MkD mg base x₀ T → FnOk l.prog w (K w.params) mg base (CX w) k fa fd [x] (sp w T))
    (hsp : ∀ (w : World) (T : Addr) (H : Hp) (a : Addr) (ns : List Int),ns.length ≤ n → (∀ x ∈ ns,Builtin.Int.intBits x ≤ 1048576) → (∀ q,TblOk H T q) → SqL (K w.params) H a (ns.map V.int) → sp w T [.ref a] H (fun v _ => v = .bl true) fun _ _ _ => False)
    (hCX : ∀ (w : World) (H : Hp) (s : Shared) (e : Value) (s' : Shared),CX w [] H s (fun _ _ _ => False) e s' → False) :
    PySem.W.WalkO q loose XP YP l.row.toRowW d [] (fun f vs => PySem.call f vs) := by
  refine Att.attach_callB hn hdf fun w s₀ s₁ mg mb fa o pm cd doc a vs ns G Y ho hd hcd hmg hobj hints hlen hbits hg => ?_
  have KX := hY w _ Y
  obtain ⟨fd,hb,hF⟩ := F w mg fa _ KX G.T.g hmg
  obtain ⟨d0,hd0,en⟩ := List.any_eq_true.mp hx
  obtain ⟨a0,o0,fd0,c,T,t1,t2,t3,t4,t5,t6⟩ := G.T.tab d0 hd0
  rw [eq_of_beq en] at t1
  have hKT : (K w.params).lookup T = none := by
    cases q : (K w.params).lookup T with
    | none => rfl
    | some u =>
      exfalso
      have e := KX T u q
      rw [t6.2] at e; cases e
      have := List.all_eq_true.mp (hno w.params) _ (PySem.W.mem_of_lookupK q)
      cases this
  exact law_callT (x₀ := x₀) KX G.T.g G.T.b G.T.builtins G.T.nolimit G.T.nodigits hg t6.2 hKT ⟨a0,o0,fd0,t1,t2,t3,⟨c,t4,PySem.W.CodeHd.of t5 t6⟩,G.T.bmain⟩ t6.isCodeTable hobj hints (Nat.le_trans hlen hn2) hr (hF T) hb
    (fun H hS hT => hsp w T H a ns hlen hbits hT hS) fun H e s' => hCX w H s₁ e s'
end L2
namespace Rm
noncomputable def tk (b n : Int) : Int := if b = 0 then n else n % b
theorem tk_zero (n : Int) : tk 0 n = n := if_pos rfl
theorem tk_pos {b : Int} (h : b ≠ 0) (n : Int) : tk b n = n % b := if_neg h
theorem tk_tk (b n : Int) : tk b (tk b n) = tk b n := by
  unfold tk; split
  · rfl
  · exact Int.emod_emod_of_dvd _ (Int.dvd_refl b)
theorem tk_add_l (b x y : Int) : tk b (tk b x + y) = tk b (x + y) := by
  unfold tk; split
  · rfl
  · exact Int.emod_add_emod ..
theorem tk_add_r (b x y : Int) : tk b (x + tk b y) = tk b (x + y) := by
  rw [Int.add_comm,tk_add_l,Int.add_comm]
theorem tk_mul_r (b x y : Int) : tk b (x * tk b y) = tk b (x * y) := by
  unfold tk; split
  · rfl
  · rw [Int.mul_emod,Int.emod_emod_of_dvd _ (Int.dvd_refl b),← Int.mul_emod]
theorem tk_mul_l (b x y : Int) : tk b (tk b x * y) = tk b (x * y) := by
  rw [Int.mul_comm,tk_mul_r,Int.mul_comm]
theorem tk_congr_add {b x x' y y' : Int} (h : tk b x = tk b x') (h' : tk b y = tk b y') : tk b (x + y) = tk b (x' + y') := by
  rw [← tk_add_l,← tk_add_r,h,h',tk_add_r,tk_add_l]
noncomputable def S (rule : List Int) (f : Nat → Int) (n : Nat) : Nat → Int
  | 0 => 0
  | m + 1 => S rule f n m + rule.getD m 0 * f (n - 1 - m)
theorem S_congr {rule : List Int} {f g : Nat → Int} {n : Nat} : ∀ {m : Nat},(∀ k,k < m → f (n - 1 - k) = g (n - 1 - k)) → S rule f n m = S rule g n m
  | 0,_ => rfl
  | m + 1,h => by
    unfold S
    rw [S_congr fun k hk => h k (by omega),h m (by omega)]
theorem S_shift {rule : List Int} {f : Nat → Int} {n d : Nat} : ∀ {m : Nat},m ≤ n → S rule (fun i => f (d + i)) n m = S rule f (d + n) m
  | 0,_ => rfl
  | m + 1,h => by
    unfold S
    rw [S_shift (by omega),show d + n - 1 - m = d + (n - 1 - m) by omega]
theorem S_lin (b : Int) {rule : List Int} {f g : Nat → Int} {c : Int} {n : Nat} : ∀ m : Nat,tk b (S rule (fun i => tk b (f i + c * g i)) n m) = tk b (S rule f n m + c * S rule g n m)
  | 0 => by simp [S]
  | m + 1 => by
    unfold S
    have h1 := S_lin b (rule := rule) (f := f) (g := g) (c := c) (n := n) m
    have h2 : tk b (rule.getD m 0 * tk b (f (n - 1 - m) + c * g (n - 1 - m))) = tk b (rule.getD m 0 * (f (n - 1 - m) + c * g (n - 1 - m))) := tk_mul_r ..
    rw [tk_congr_add h1 h2]
    congr 1
    rw [Int.mul_add,Int.mul_add,Int.mul_left_comm (rule.getD m 0) c]
    omega
noncomputable def row (b : Int) (rule starts : List Int) : Nat → List Int
  | 0 => []
  | n + 1 => row b rule starts n ++ [if n < starts.length then starts.getD n 0 else tk b (S rule (fun i => (row b rule starts n).getD i 0) n rule.length)]
theorem row_len (b : Int) (rule starts : List Int) : ∀ n,(row b rule starts n).length = n
  | 0 => rfl
  | n + 1 => by simp [row,row_len b rule starts n]
noncomputable def at_ (b : Int) (rule starts : List Int) (n : Nat) : Int := (row b rule starts (n + 1)).getD n 0
theorem row_get (b : Int) (rule starts : List Int) : ∀ {n i : Nat},i < n → (row b rule starts n).getD i 0 = at_ b rule starts i
  | n + 1,i,h => by
    by_cases e : i = n
    · subst e; rfl
    · have hi : i < n := by omega
      have hl := row_len b rule starts n
      have := row_get b rule starts (n := n) (i := i) hi
      rw [← this]
      show (row b rule starts n ++ _).getD i 0 = _
      rw [List.getD_eq_getElem?_getD,List.getElem?_append_left (by omega),← List.getD_eq_getElem?_getD]
theorem at_val (b : Int) (rule starts : List Int) (n : Nat) : at_ b rule starts n = if n < starts.length then starts.getD n 0 else tk b (S rule (fun i => (row b rule starts n).getD i 0) n rule.length) := by
  unfold at_
  have hl := row_len b rule starts n
  show (row b rule starts n ++ _).getD n 0 = _
  rw [List.getD_eq_getElem?_getD,List.getElem?_append_right (by omega),hl]
  simp
theorem at_lt {b : Int} {rule starts : List Int} {n : Nat} (h : n < starts.length) : at_ b rule starts n = starts.getD n 0 := by
  rw [at_val,if_pos h]
theorem at_ge {b : Int} {rule starts : List Int} {n : Nat} (hl : rule.length = starts.length) (h : starts.length ≤ n) : at_ b rule starts n = tk b (S rule (at_ b rule starts) n rule.length) := by
  rw [at_val,if_neg (by omega)]
  congr 1
  refine S_congr fun k hk => row_get b rule starts (by omega)
theorem row_eq (b : Int) (rule starts : List Int) : ∀ n,row b rule starts n = (List.range n).map (at_ b rule starts)
  | 0 => rfl
  | n + 1 => by
    rw [List.range_succ,List.map_append,← row_eq b rule starts n]
    show _ ++ [_] = _ ++ [at_ b rule starts n]
    rw [at_val]
theorem row_succ (b : Int) (rule starts : List Int) (n : Nat) : row b rule starts (n + 1) = row b rule starts n ++ [at_ b rule starts n] := by
  rw [at_val]; rfl
theorem at_uniq {b : Int} {rule starts : List Int} (hl : rule.length = starts.length) {g : Nat → Int} (h1 : ∀ i,i < starts.length → g i = starts.getD i 0)
    (h2 : ∀ i,starts.length ≤ i → g i = tk b (S rule g i rule.length)) : ∀ n,at_ b rule starts n = g n := by
  intro n
  induction n using Nat.strongRecOn with
  | ind n ih =>
    by_cases h : n < starts.length
    · rw [at_lt h,h1 n h]
    · rw [at_ge hl (by omega),h2 n (by omega)]
      congr 1
      exact S_congr fun k hk => ih _ (by omega)
theorem row_starts {b : Int} {rule starts : List Int} : ∀ {n : Nat},n ≤ starts.length → row b rule starts n = starts.take n
  | 0,_ => by simp [row]
  | n + 1,h => by
    rw [row_succ,row_starts (by omega),at_lt (by omega),List.take_add_one,List.getD_eq_getElem?_getD,List.getElem?_eq_getElem (by omega)]
    rfl
theorem at_window {b : Int} {rule starts w : List Int} {d : Nat} (hl : rule.length = starts.length) (hw : w.length = starts.length) (h : ∀ i,i < w.length → w.getD i 0 = at_ b rule starts (d + i)) (n : Nat) :
    at_ b rule w n = at_ b rule starts (d + n) := by
  refine at_uniq (by omega) (g := fun i => at_ b rule starts (d + i)) (fun i hi => (h i hi).symm) (fun i hi => ?_) n
  rw [S_shift (by omega),at_ge hl (by omega)]
theorem at_both {b c : Int} {rule s1 s2 s3 : List Int} (h1 : rule.length = s1.length) (h2 : rule.length = s2.length) (h3 : rule.length = s3.length)
    (h : ∀ i,i < s3.length → s3.getD i 0 = tk b (s1.getD i 0 + c * s2.getD i 0)) (n : Nat) : at_ b rule s3 n = tk b (at_ b rule s1 n + c * at_ b rule s2 n) := by
  refine at_uniq h3 (g := fun i => tk b (at_ b rule s1 i + c * at_ b rule s2 i)) (fun i hi => ?_) (fun i hi => ?_) n
  · rw [at_lt (by omega),at_lt (by omega),h i hi]
  · rw [S_lin,at_ge h1 (by omega),at_ge h2 (by omega),tk_add_l,← tk_add_r,tk_mul_r,tk_add_r]
noncomputable def Bd (n : Nat) (x : Int) : Prop := x.natAbs < 2 ^ n
theorem Bd.mono {m n : Nat} {x : Int} (h : Bd m x) (hmn : m ≤ n) : Bd n x := Nat.lt_of_lt_of_le h (Nat.pow_le_pow_right (by decide) hmn)
theorem Bd.mul {m n : Nat} {x y : Int} (h : Bd m x) (h' : Bd n y) : Bd (m + n) (x * y) := by
  unfold Bd at *
  rw [Int.natAbs_mul,Nat.pow_add]
  exact Nat.mul_lt_mul'' h h'
theorem Bd.add {n : Nat} {x y : Int} (h : Bd n x) (h' : Bd n y) : Bd (n + 1) (x + y) := by
  unfold Bd at *
  have := Int.natAbs_add_le x y
  rw [Nat.pow_succ]
  omega
theorem Bd.zero (n : Nat) : Bd n 0 := Nat.pow_pos (by decide)
theorem Bd.of {n : Nat} {x : Int} (h1 : -(2 ^ n) < x) (h2 : x < 2 ^ n) : Bd n x := by
  unfold Bd
  have e : ((2 ^ n : Nat) : Int) = (2 : Int) ^ n := by simp
  omega
theorem Bd.emod {n : Nat} {x b : Int} (hb : 0 < b) (h : Bd n b) : Bd n (x % b) := by
  unfold Bd at *
  have := Int.emod_nonneg x (show b ≠ 0 by omega)
  have := Int.emod_lt_of_pos x hb
  omega
theorem Bd.S {rule : List Int} {f : Nat → Int} {n a c : Nat} (hr : ∀ k,Bd a (rule.getD k 0)) : ∀ m : Nat,(∀ k,k < m → Bd c (f (n - 1 - k))) → Bd (a + c + m) (Rm.S rule f n m)
  | 0,_ => Bd.zero _
  | m + 1,h => by
    unfold Rm.S
    refine Bd.add (n := a + c + m) (Bd.S hr m fun k hk => h k (by omega)) (((hr m).mul (h m (by omega))).mono (by omega))
theorem getD_mem_or (l : List Int) (k : Nat) : l.getD k 0 = 0 ∨ l.getD k 0 ∈ l := by
  by_cases h : k < l.length
  · right
    rw [List.getD_eq_getElem?_getD,List.getElem?_eq_getElem h]
    exact List.getElem_mem h
  · left
    rw [List.getD_eq_getElem?_getD,List.getElem?_eq_none (by omega)]
    rfl
theorem Bd.getD {l : List Int} {n : Nat} (h : ∀ x ∈ l,Bd n x) (k : Nat) : Bd n (l.getD k 0) := by
  rcases getD_mem_or l k with e | e
  · rw [e]; exact .zero n
  · exact h _ e
theorem tk_bd {b x : Int} {n : Nat} (hb : 0 ≤ b) (hb' : Bd n b) (h : Bd n x) : Bd n (tk b x) := by
  unfold tk
  split
  · exact h
  · exact Bd.emod (by omega) hb'
theorem at_bd {b : Int} {rule starts : List Int} {a c : Nat} (hl : rule.length = starts.length) (hb : 0 ≤ b) (hb' : Bd c b) (hr : ∀ x ∈ rule,Bd a x) (hs : ∀ x ∈ starts,Bd c x) :
    ∀ n,Bd (c + n * (a + rule.length)) (at_ b rule starts n) := by
  intro n
  induction n using Nat.strongRecOn with
  | ind n ih =>
    by_cases h : n < starts.length
    · rw [at_lt h]
      exact (Bd.getD hs n).mono (by omega)
    · rw [at_ge hl (by omega)]
      by_cases h0 : rule.length = 0
      · rw [h0]
        exact tk_bd hb (hb'.mono (by omega)) (.zero _)
      · have hn : 0 < n := by omega
        have q := Bd.S (rule := rule) (f := at_ b rule starts) (n := n) (a := a) (c := c + (n - 1) * (a + rule.length)) (fun k => Bd.getD hr k) rule.length fun k hk => by
          refine (ih (n - 1 - k) (by omega)).mono ?_
          have : (n - 1 - k) * (a + rule.length) ≤ (n - 1) * (a + rule.length) := Nat.mul_le_mul_right _ (by omega)
          omega
        have e : n * (a + rule.length) = (n - 1) * (a + rule.length) + (a + rule.length) := by
          obtain ⟨m,rfl⟩ : ∃ m,n = m + 1 := ⟨n - 1,by omega⟩
          rw [Nat.add_sub_cancel,Nat.succ_mul]
        exact tk_bd hb (hb'.mono (by omega)) (q.mono (by omega))
end Rm
namespace Om
end Om
namespace Pm
open Rm
noncomputable def sm : Nat → (Nat → Int) → Int
  | 0,_ => 0
  | n + 1,f => sm n f + f n
theorem sm_congr {f g : Nat → Int} : ∀ {n : Nat},(∀ k,k < n → f k = g k) → sm n f = sm n g
  | 0,_ => rfl
  | n + 1,h => by rw [sm,sm,sm_congr fun k hk => h k (by omega),h n (by omega)]
theorem sm_zero : ∀ n : Nat,sm n (fun _ => 0) = 0
  | 0 => rfl
  | n + 1 => by rw [sm,sm_zero n]; rfl
theorem sm_none {f : Nat → Int} {n : Nat} (h : ∀ k,k < n → f k = 0) : sm n f = 0 := by rw [sm_congr h,sm_zero]
theorem sm_head (f : Nat → Int) : ∀ n : Nat,sm (n + 1) f = f 0 + sm n (fun i => f (i + 1))
  | 0 => by simp [sm]
  | n + 1 => by
    rw [sm,sm_head f n,sm,Int.add_assoc]
theorem sm_add (f g : Nat → Int) : ∀ n : Nat,sm n (fun k => f k + g k) = sm n f + sm n g
  | 0 => rfl
  | n + 1 => by rw [sm,sm,sm,sm_add f g n]; omega
theorem sm_mul (c : Int) (f : Nat → Int) : ∀ n : Nat,sm n (fun k => c * f k) = c * sm n f
  | 0 => by simp [sm]
  | n + 1 => by rw [sm,sm,sm_mul c f n,Int.mul_add]
theorem sm_more {f : Nat → Int} {m : Nat} : ∀ {n : Nat},m ≤ n → (∀ k,m ≤ k → k < n → f k = 0) → sm n f = sm m f
  | 0,h,_ => by rw [show m = 0 by omega]
  | n + 1,h,h0 => by
    by_cases e : m = n + 1
    · rw [e]
    · rw [sm,sm_more (n := n) (by omega) (fun k h1 h2 => h0 k h1 (by omega)),h0 n (by omega) (by omega),Int.add_zero]
theorem tk0 (b : Int) : tk b 0 = 0 := by unfold tk; split <;> simp
theorem tk_sm {b : Int} {f g : Nat → Int} : ∀ {n : Nat},(∀ k,k < n → tk b (f k) = tk b (g k)) → tk b (sm n f) = tk b (sm n g)
  | 0,_ => rfl
  | n + 1,h => by
    rw [sm,sm]
    exact tk_congr_add (tk_sm fun k hk => h k (by omega)) (h n (by omega))
theorem list_sum (f : Nat → Int) : ∀ n : Nat,((List.range n).map f).sum = sm n f
  | 0 => rfl
  | n + 1 => by rw [List.range_succ,List.map_append,List.sum_append,list_sum f n]; simp [sm]
noncomputable def cv : (Nat → Int) → (Nat → Int) → Nat → Int
  | f,g,0 => f 0 * g 0
  | f,g,k + 1 => f 0 * g (k + 1) + cv (fun i => f (i + 1)) g k
theorem cv_sm : ∀ (f g : Nat → Int) (k : Nat),cv f g k = sm (k + 1) (fun j => f j * g (k - j))
  | f,g,0 => by simp [cv,sm]
  | f,g,k + 1 => by
    rw [cv,cv_sm _ g k,sm_head (fun j => f j * g (k + 1 - j))]
    refine congrArg (_ + ·) (sm_congr fun j hj => ?_)
    rw [show k + 1 - (j + 1) = k - j by omega]
theorem cv_congr {f f' g g' : Nat → Int} {k : Nat} (h : ∀ i,i ≤ k → f i = f' i) (h' : ∀ i,i ≤ k → g i = g' i) : cv f g k = cv f' g' k := by
  rw [cv_sm,cv_sm]
  exact sm_congr fun j hj => by rw [h j (by omega),h' _ (by omega)]
theorem cv_addl (f f' g : Nat → Int) (k : Nat) : cv (fun i => f i + f' i) g k = cv f g k + cv f' g k := by
  rw [cv_sm,cv_sm,cv_sm,← sm_add]
  exact sm_congr fun j _ => Int.add_mul ..
theorem cv_zero {f g : Nat → Int} {k : Nat} (h : ∀ i,i ≤ k → f i = 0 ∨ g (k - i) = 0) : cv f g k = 0 := by
  rw [cv_sm]
  exact sm_none fun j hj => by rcases h j (by omega) with e | e <;> rw [e] <;> simp
noncomputable def co (p : List Int) (k : Nat) : Int := p.getD k 0
theorem co_nil (k : Nat) : co [] k = 0 := by simp [co]
theorem co_zero (x : Int) (r : List Int) : co (x :: r) 0 = x := by simp [co]
theorem co_succ (x : Int) (r : List Int) (k : Nat) : co (x :: r) (k + 1) = co r k := by simp [co]
theorem co_ge {p : List Int} {k : Nat} (h : p.length ≤ k) : co p k = 0 := by
  rw [co,List.getD_eq_getElem?_getD,List.getElem?_eq_none h]; rfl
theorem co_lt {p : List Int} {k : Nat} (h : k < p.length) : co p k = p[k] := by
  rw [co,List.getD_eq_getElem?_getD,List.getElem?_eq_getElem h]; rfl
theorem co_mem {p : List Int} {k : Nat} (h : k < p.length) : co p k ∈ p := by rw [co_lt h]; exact List.getElem_mem h
noncomputable def ofF (n : Nat) (f : Nat → Int) : List Int := (List.range n).map f
theorem ofF_len (n : Nat) (f : Nat → Int) : (ofF n f).length = n := by simp [ofF]
theorem co_ofF (n : Nat) (f : Nat → Int) (k : Nat) : co (ofF n f) k = if k < n then f k else 0 := by
  by_cases h : k < n
  · rw [if_pos h,co,ofF,List.getD_eq_getElem?_getD,List.getElem?_map,List.getElem?_range h]; rfl
  · rw [if_neg h,co_ge (by rw [ofF_len]; omega)]
theorem ofF_succ (n : Nat) (f : Nat → Int) : ofF (n + 1) f = ofF n f ++ [f n] := by
  rw [ofF,List.range_succ,List.map_append]; rfl
theorem ofF_co (p : List Int) : ofF p.length (co p) = p := by
  apply List.ext_getElem (by rw [ofF_len])
  intro i h1 h2
  simp only [ofF,List.getElem_map,List.getElem_range]
  exact co_lt h2
theorem co_ext {p q : List Int} (hl : p.length = q.length) (h : ∀ k,co p k = co q k) : p = q := by
  rw [← ofF_co p,← ofF_co q,hl]
  exact List.map_congr_left fun k _ => h k
theorem co_set (p : List Int) (i : Nat) (x : Int) (k : Nat) (hi : i < p.length) : co (p.set i x) k = if k = i then x else co p k := by
  unfold co
  rw [List.getD_eq_getElem?_getD,List.getElem?_set,List.getD_eq_getElem?_getD]
  by_cases e : i = k
  · subst e; simp [hi]
  · rw [if_neg e,if_neg (fun z => e z.symm)]
theorem co_append (p q : List Int) (k : Nat) : co (p ++ q) k = if k < p.length then co p k else co q (k - p.length) := by
  unfold co
  by_cases h : k < p.length
  · rw [if_pos h,List.getD_eq_getElem?_getD,List.getElem?_append_left h,← List.getD_eq_getElem?_getD]
  · rw [if_neg h,List.getD_eq_getElem?_getD,List.getElem?_append_right (by omega),← List.getD_eq_getElem?_getD]
noncomputable def trim : List Int → List Int
  | [] => []
  | x :: r => if x = 0 ∧ trim r = [] then [] else x :: trim r
theorem co_trim : ∀ (p : List Int) (k : Nat),co (trim p) k = co p k
  | [],k => rfl
  | x :: r,k => by
    rw [trim]
    have ih := co_trim r
    by_cases h : x = 0 ∧ trim r = []
    · rw [if_pos h]
      rw [h.2] at ih
      cases k with
      | zero => rw [co_nil,co_zero,h.1]
      | succ k => rw [co_succ,← ih k,co_nil,co_nil]
    · rw [if_neg h]
      cases k with
      | zero => rw [co_zero,co_zero]
      | succ k => rw [co_succ,co_succ,ih k]
theorem trim_nil {p : List Int} : trim p = [] ↔ ∀ k,co p k = 0 := by
  constructor
  · intro h k; rw [← co_trim,h,co_nil]
  · intro h
    induction p with
    | nil => rfl
    | cons x r ih =>
      rw [trim,if_pos ⟨by have := h 0; rwa [co_zero] at this,ih fun k => by have := h (k + 1); rwa [co_succ] at this⟩]
theorem trim_ext : ∀ {p q : List Int},(∀ k,co p k = co q k) → trim p = trim q
  | [],q,h => by rw [show trim q = [] from trim_nil.mpr fun k => by rw [← h k,co_nil]]; rfl
  | x :: r,[],h => by rw [show trim (x :: r) = [] from trim_nil.mpr fun k => by rw [h k,co_nil]]; rfl
  | x :: r,y :: s,h => by
    have e1 := h 0
    rw [co_zero,co_zero] at e1
    have e2 : trim r = trim s := trim_ext fun k => by have := h (k + 1); rwa [co_succ,co_succ] at this
    rw [trim,trim,e1,e2]
theorem trim_trim (p : List Int) : trim (trim p) = trim p := trim_ext (co_trim p)
theorem trim_len_le : ∀ p : List Int,(trim p).length ≤ p.length
  | [] => Nat.le_refl _
  | x :: r => by
    have := trim_len_le r
    rw [trim]; split
    · simp
    · simp; omega
theorem trim_len_of : ∀ {p : List Int} {n : Nat},(∀ k,n ≤ k → co p k = 0) → (trim p).length ≤ n
  | [],n,_ => Nat.zero_le _
  | x :: r,0,h => by rw [trim_nil.mpr fun k => h k (Nat.zero_le _)]; exact Nat.le_refl 0
  | x :: r,n + 1,h => by
    have := trim_len_of (p := r) (n := n) fun k hk => by have := h (k + 1) (by omega); rwa [co_succ] at this
    rw [trim]; split
    · simp
    · simp; omega
theorem trim_zero (p : List Int) : trim (p ++ [0]) = trim p := trim_ext fun k => by
  rw [co_append]
  by_cases h : k < p.length
  · rw [if_pos h]
  · rw [if_neg h,co_ge (p := p) (by omega)]
    cases k - p.length with
    | zero => rfl
    | succ j => rw [co_succ,co_nil]
theorem trim_last : ∀ (p : List Int) {x : Int},x ≠ 0 → trim (p ++ [x]) = p ++ [x]
  | [],x,h => by simp [trim,h]
  | y :: r,x,h => by
    show trim (y :: (r ++ [x])) = _
    rw [trim,trim_last r h,if_neg (by simp)]; rfl
theorem trim_mem {p : List Int} {x : Int} (h : x ∈ trim p) : x ∈ p := by
  induction p with
  | nil => exact h
  | cons y r ih =>
    rw [trim] at h
    split at h
    · cases h
    · rcases List.mem_cons.mp h with rfl | h
      · exact List.mem_cons_self
      · exact List.mem_cons_of_mem _ (ih h)
structure Py (b : Int) (p : List Int) : Prop where
  tr : trim p = p
  nu : ∀ x ∈ p,tk b x = x
theorem Py.co {b : Int} {p : List Int} (h : Py b p) (k : Nat) : tk b (co p k) = co p k := by
  by_cases hk : k < p.length
  · exact h.nu _ (co_mem hk)
  · rw [co_ge (by omega),tk0]
theorem Py.of {b : Int} {p : List Int} (h : ∀ x ∈ p,tk b x = x) : Py b (trim p) := ⟨trim_trim p,fun x hx => h x (trim_mem hx)⟩
theorem mem_ofF {n : Nat} {f : Nat → Int} {x : Int} (h : x ∈ ofF n f) : ∃ k,k < n ∧ x = f k := by
  obtain ⟨k,hk,e⟩ := List.mem_map.mp h
  exact ⟨k,List.mem_range.mp hk,e.symm⟩
theorem Py.ofF (b : Int) (n : Nat) (f : Nat → Int) : Py b (trim (Pm.ofF n fun k => tk b (f k))) := Py.of fun x hx => by
  obtain ⟨k,_,rfl⟩ := mem_ofF hx
  exact tk_tk ..
noncomputable def add (b : Int) (p q : List Int) : List Int := trim (ofF (max p.length q.length) fun k => tk b (co p k + co q k))
noncomputable def mul (b : Int) (p q : List Int) : List Int := trim (ofF (p.length + q.length) fun k => tk b (cv (co p) (co q) k))
theorem mul_py (b : Int) (p q : List Int) : Py b (mul b p q) := Py.ofF ..
theorem add_co (b : Int) (p q : List Int) (k : Nat) : co (add b p q) k = tk b (co p k + co q k) := by
  rw [add,co_trim,co_ofF]
  split
  · rfl
  · rw [co_ge (p := p) (by omega),co_ge (p := q) (by omega),Int.add_zero,tk0]
theorem mul_co (b : Int) (p q : List Int) (k : Nat) : co (mul b p q) k = tk b (cv (co p) (co q) k) := by
  rw [mul,co_trim,co_ofF]
  split
  · rfl
  · rw [cv_zero,tk0]
    intro i hi
    by_cases h : i < p.length
    · exact .inr (co_ge (by omega))
    · exact .inl (co_ge (by omega))
noncomputable def W (f g : Nat → Int) (i k c : Nat) : Int := sm i (fun j => if j ≤ c then f j * g (c - j) else 0) + (if i ≤ c ∧ c - i < k then f i * g (c - i) else 0)
theorem W_zero (f g : Nat → Int) (c : Nat) : W f g 0 0 c = 0 := by simp [W,sm]
theorem W_step {f g : Nat → Int} {i k c : Nat} : W f g i (k + 1) c = W f g i k c + (if c = i + k then f i * g k else 0) := by
  unfold W
  by_cases h : c = i + k
  · rw [if_pos h,if_pos (by omega),if_neg (by omega),show c - i = k by omega]; omega
  · rw [if_neg h]
    by_cases h2 : i ≤ c ∧ c - i < k
    · rw [if_pos h2,if_pos (by omega)]; omega
    · rw [if_neg h2,if_neg (by omega)]; omega
theorem W_row {f g : Nat → Int} {i n c : Nat} (hg : ∀ k,n ≤ k → g k = 0) : W f g i n c = W f g (i + 1) 0 c := by
  unfold W
  rw [sm,if_neg (show ¬ (i + 1 ≤ c ∧ c - (i + 1) < 0) by omega)]
  by_cases h : i ≤ c
  · rw [if_pos h]
    by_cases h2 : c - i < n
    · rw [if_pos ⟨h,h2⟩]; omega
    · rw [if_neg (by omega),hg _ (by omega),Int.mul_zero]; omega
  · rw [if_neg (by omega),if_neg h]; omega
theorem W_end {f g : Nat → Int} {m c : Nat} (hf : ∀ k,m ≤ k → f k = 0) : W f g m 0 c = cv f g c := by
  unfold W
  rw [if_neg (by omega),Int.add_zero,cv_sm]
  by_cases h : m ≤ c + 1
  · rw [sm_more (n := c + 1) h fun k h1 _ => by rw [hf k h1,Int.zero_mul]]
    exact sm_congr fun j hj => if_pos (by omega)
  · rw [sm_more (m := c + 1) (n := m) (by omega) fun k h1 _ => if_neg (by omega)]
    exact sm_congr fun j hj => if_pos (by omega)
end Pm
namespace Pm
open Rm
theorem sm_swap (F : Nat → Nat → Int) (m : Nat) : ∀ n : Nat,sm m (fun k => sm n (fun j => F k j)) = sm n (fun j => sm m (fun k => F k j))
  | 0 => by simp only [sm]; exact sm_zero m
  | n + 1 => by
    simp only [sm]
    rw [sm_add,sm_swap F m n]
theorem S_sm (rule : List Int) (f : Nat → Int) (n : Nat) : ∀ m : Nat,S rule f n m = sm m (fun k => co rule k * f (n - 1 - k))
  | 0 => rfl
  | m + 1 => by rw [S,sm,S_sm rule f n m]; rfl
noncomputable def ks (p : List Int) (a : Nat → Int) (n : Nat) : Int := sm p.length (fun k => co p k * a (n + k))
noncomputable def ofRule (b : Int) (c : List Int) : List Int := ofF c.length (fun k => tk b (0 - co c (c.length - 1 - k))) ++ [1]
theorem ofRule_len (b : Int) (c : List Int) : (ofRule b c).length = c.length + 1 := by simp [ofRule,ofF_len]
theorem at_rec {b : Int} {rule starts : List Int} (hl : rule.length = starts.length) : ∀ n,rule.length ≤ n → tk b (at_ b rule starts n) = tk b (S rule (at_ b rule starts) n rule.length) := fun n hn => by
  rw [at_ge hl (by omega),tk_tk]
theorem Bd_sm {f : Nat → Int} {c : Nat} : ∀ n : Nat,(∀ k,k < n → Bd c (f k)) → Bd (c + n) (sm n f)
  | 0,_ => Bd.zero _
  | n + 1,h => by
    rw [sm]
    exact Bd.add (n := c + n) (Bd_sm n fun k hk => h k (by omega)) ((h n (by omega)).mono (by omega))
theorem Bd_co {p : List Int} {u : Nat} (h : ∀ x ∈ p,Bd u x) (k : Nat) : Bd u (co p k) := Bd.getD h k
theorem Bd_cv {p q : List Int} {u v : Nat} (h : ∀ x ∈ p,Bd u x) (h' : ∀ x ∈ q,Bd v x) (k : Nat) : Bd (u + v + p.length) (cv (co p) (co q) k) := by
  rw [← W_end (m := p.length) fun j hj => co_ge hj,W,if_neg (by omega),Int.add_zero]
  refine Bd_sm _ fun j _ => ?_
  split
  · exact (Bd_co h j).mul (Bd_co h' _)
  · exact Bd.zero _
theorem mul_bd {b : Int} {p q : List Int} {u v : Nat} (hb : 0 ≤ b) (hb1 : b < 1000) (hu : 10 ≤ u) (h : ∀ x ∈ p,Bd u x) (h' : ∀ x ∈ q,Bd v x) : ∀ x ∈ mul b p q,Bd (u + v + p.length) x := by
  intro x hx
  obtain ⟨k,_,rfl⟩ := mem_ofF (trim_mem hx)
  refine tk_bd hb ?_ (Bd_cv h h' k)
  exact (Bd.of (n := 10) (by omega) (by omega)).mono (by omega)
theorem ofRule_bd {b : Int} {c : List Int} {u : Nat} (hb : 0 ≤ b) (hb1 : b < 1000) (hu : 10 ≤ u) (h : ∀ x ∈ c,Bd u x) : ∀ x ∈ ofRule b c,Bd u x := by
  intro x hx
  rcases List.mem_append.mp hx with hx | hx
  · obtain ⟨k,_,rfl⟩ := mem_ofF hx
    refine tk_bd hb ((Bd.of (n := 10) (by omega) (by omega)).mono (by omega)) ?_
    have := Bd_co h (c.length - 1 - k)
    unfold Bd at this ⊢
    rw [Int.zero_sub,Int.natAbs_neg]; exact this
  · rw [List.mem_singleton.mp hx]
    exact (Bd.of (n := 10) (by decide) (by decide)).mono hu
end Pm
namespace Pm
open Rm
theorem sm_single (x : Int) (j : Nat) : ∀ n : Nat,sm n (fun i => if i = j then x else 0) = if j < n then x else 0
  | 0 => by simp [sm]
  | n + 1 => by
    rw [sm,sm_single x j n]
    by_cases h : n = j
    · rw [if_pos h,if_neg (by omega),if_pos (by omega)]; omega
    · rw [if_neg h]
      by_cases h2 : j < n
      · rw [if_pos h2,if_pos (by omega)]; omega
      · rw [if_neg h2,if_neg (by omega)]; omega
theorem cv_point (f : Int) (s : Nat) (g : Nat → Int) (k : Nat) : cv (fun i => if i = s then f else 0) g k = if s ≤ k then f * g (k - s) else 0 := by
  rw [cv_sm]
  have e : sm (k + 1) (fun j => (if j = s then f else 0) * g (k - j)) = sm (k + 1) (fun j => if j = s then f * g (k - s) else 0) := sm_congr fun j _ => by
    by_cases h : j = s
    · rw [if_pos h,if_pos h,h]
    · rw [if_neg h,if_neg h,Int.zero_mul]
  rw [e,sm_single]
  by_cases h : s ≤ k
  · rw [if_pos h,if_pos (by omega)]
  · rw [if_neg h,if_neg (by omega)]
structure Mon (m : List Int) : Prop where
  pos : 0 < m.length
  one : co m (m.length - 1) = 1
structure Div (b : Int) (p m q r : List Int) : Prop where
  qy : Py b q
  ry : Py b r
  short : r.length < m.length
  eq : ∀ k,tk b (cv (co q) (co m) k + co r k) = tk b (co p k)
structure DivI (b : Int) (p m : List Int) (s : Nat) (o l : List Int) : Prop where
  eq : ∀ k,tk b (cv (co o) (co m) k + co l k) = tk b (co p k)
  zero : ∀ k,s + (m.length - 1) ≤ k → co l k = 0
  low : ∀ k,k < s → co o k = 0
  ol : o.length = p.length - (m.length - 1)
  ll : l.length = p.length
  on : ∀ k,tk b (co o k) = co o k
  ln : ∀ k,tk b (co l k) = co l k
theorem DivI.start {b : Int} {p m : List Int} (hp : ∀ k,tk b (co p k) = co p k) : DivI b p m (p.length - (m.length - 1)) (ofF (p.length - (m.length - 1)) fun _ => 0) p := by
  have z : ∀ k,co (ofF (p.length - (m.length - 1)) fun _ => 0) k = 0 := fun k => by rw [co_ofF]; split <;> rfl
  exact ⟨fun k => by rw [cv_zero fun i _ => .inl (z i),Int.zero_add],fun k hk => co_ge (by omega),fun k _ => z k,ofF_len _ _,rfl,fun k => by rw [z,tk0],hp⟩
noncomputable def lf (b f : Int) (s t : Nat) (l m : List Int) (k : Nat) : Int := if s ≤ k ∧ k < s + t then tk b (co l k - f * co m (k - s)) else co l k
theorem lf_zero (b f : Int) (s : Nat) (l m : List Int) (k : Nat) : lf b f s 0 l m k = co l k := if_neg (by omega)
theorem lf_step (b f : Int) (s t : Nat) (l m : List Int) (k : Nat) : lf b f s (t + 1) l m k = if k = s + t then tk b (lf b f s t l m k - f * co m t) else lf b f s t l m k := by
  unfold lf
  by_cases h : k = s + t
  · rw [if_pos h,if_pos (by omega),if_neg (by omega),show k - s = t by omega]
  · rw [if_neg h]
    by_cases h2 : s ≤ k ∧ k < s + t
    · rw [if_pos h2,if_pos (by omega)]
    · rw [if_neg h2,if_neg (by omega)]
theorem lf_all {b f : Int} {s : Nat} {l m : List Int} (hl : ∀ k,tk b (co l k) = co l k) (k : Nat) : lf b f s m.length l m k = tk b (co l k - (if s ≤ k then f * co m (k - s) else 0)) := by
  unfold lf
  by_cases h : s ≤ k
  · rw [if_pos h]
    by_cases h2 : k < s + m.length
    · rw [if_pos ⟨h,h2⟩]
    · rw [if_neg (by omega),co_ge (p := m) (by omega),Int.mul_zero,Int.sub_zero,hl]
  · rw [if_neg (by omega),if_neg h,Int.sub_zero,hl]
theorem DivI.step {b : Int} {p m o l l' : List Int} {s : Nat} (hm : Mon m) (h : DivI b p m (s + 1) o l) (hs : s < p.length - (m.length - 1)) (hl : l'.length = l.length) (e : ∀ k,co l' k = lf b (co l (s + (m.length - 1))) s m.length l m k) :
    DivI b p m s (o.set s (co l (s + (m.length - 1)))) l' := by
  have hp := hm.pos
  have ho := h.ol
  have eo : co (o.set s (co l (s + (m.length - 1)))) = fun k => co o k + (if k = s then co l (s + (m.length - 1)) else 0) := by
    funext k
    rw [co_set _ _ _ _ (by omega)]
    by_cases c : k = s
    · rw [if_pos c,if_pos c,c,h.low s (by omega),Int.zero_add]
    · rw [if_neg c,if_neg c,Int.add_zero]
  have el : ∀ k,co l' k = tk b (co l k - (if s ≤ k then co l (s + (m.length - 1)) * co m (k - s) else 0)) := fun k => by rw [e,lf_all h.ln]
  refine ⟨fun k => ?_,fun k hk => ?_,fun k hk => ?_,by rw [List.length_set,ho],by rw [hl,h.ll],fun k => ?_,fun k => by rw [el,tk_tk]⟩
  · rw [eo,cv_addl (co o),cv_point,el,tk_add_r,← h.eq k]
    congr 1; omega
  · rw [el,if_pos (by omega)]
    by_cases c : k = s + (m.length - 1)
    · rw [c,show s + (m.length - 1) - s = m.length - 1 by omega,hm.one,Int.mul_one,Int.sub_self,tk0]
    · rw [h.zero k (by omega),co_ge (p := m) (by omega),Int.mul_zero,Int.sub_zero,tk0]
  · rw [eo]; simp only; rw [h.low k (by omega),if_neg (by omega),Int.add_zero]
  · rw [co_set _ _ _ _ (by omega)]
    split
    · exact h.ln _
    · exact h.on _
theorem DivI.stop {b : Int} {p m o l : List Int} (hm : Mon m) (h : DivI b p m 0 o l) : Div b p m (trim o) (trim l) := by
  have hp := hm.pos
  have y : ∀ {x : List Int},(∀ k,tk b (co x k) = co x k) → Py b (trim x) := fun hx => Py.of fun z hz => by
    obtain ⟨k,hk,e⟩ := List.mem_iff_getElem.mp hz
    rw [← e,← co_lt hk]; exact hx k
  refine ⟨y h.on,y h.ln,?_,fun k => ?_⟩
  · have := trim_len_of (p := l) (n := m.length - 1) fun k hk => h.zero k (by omega)
    omega
  · rw [co_trim,← h.eq k]
    congr 2
    exact cv_congr (fun i _ => co_trim _ _) (fun _ _ => rfl)
theorem lf_bd {b f : Int} {s t : Nat} {l m : List Int} {u v : Nat} (hb : 0 ≤ b) (hb1 : b < 1000) (hu : 10 ≤ u) (hf : Bd u f) (hl : ∀ k,Bd u (co l k)) (hm : ∀ x ∈ m,Bd v x) (k : Nat) : Bd (u + v + 1) (lf b f s t l m k) := by
  unfold lf
  split
  · refine tk_bd hb ((Bd.of (n := 10) (by omega) (by omega)).mono (by omega)) ?_
    rw [Int.sub_eq_add_neg]
    refine Bd.add ((hl k).mono (by omega)) ?_
    have := hf.mul (Bd_co hm (k - s))
    unfold Bd at this ⊢
    rw [Int.natAbs_neg]; exact this
  · exact (hl k).mono (by omega)
end Pm
namespace Pm
open Rm
theorem sm_shift (g : Nat → Int) (j : Nat) : ∀ m : Nat,sm (j + m) (fun k => if j ≤ k then g (k - j) else 0) = sm m g
  | 0 => by
    rw [Nat.add_zero]
    exact sm_none fun k hk => if_neg (by omega)
  | m + 1 => by
    rw [← Nat.add_assoc,sm,sm,sm_shift g j m,if_pos (by omega),Nat.add_sub_cancel_left]
theorem ks_more (p : List Int) (a : Nat → Int) (n : Nat) {N : Nat} (h : p.length ≤ N) : sm N (fun k => co p k * a (n + k)) = ks p a n :=
  sm_more h fun k h1 _ => by rw [co_ge h1,Int.zero_mul]
theorem ks_tk {b : Int} {p q : List Int} {a : Nat → Int} (h : ∀ k,tk b (co p k) = tk b (co q k)) (n : Nat) : tk b (ks p a n) = tk b (ks q a n) := by
  rw [← ks_more p a n (Nat.le_max_left p.length q.length),← ks_more q a n (Nat.le_max_right p.length q.length)]
  exact tk_sm fun k _ => by rw [← tk_mul_l,h k,tk_mul_l]
theorem ks_add {b : Int} (p q : List Int) (a : Nat → Int) (n : Nat) : tk b (ks (add b p q) a n) = tk b (ks p a n + ks q a n) := by
  have hl : (add b p q).length ≤ max p.length q.length := by
    have := trim_len_le (ofF (max p.length q.length) fun k => tk b (co p k + co q k))
    rwa [ofF_len] at this
  rw [← ks_more _ a n hl,← ks_more p a n (Nat.le_max_left p.length q.length),← ks_more q a n (Nat.le_max_right p.length q.length),← sm_add]
  exact tk_sm fun k _ => by rw [add_co,tk_mul_l,Int.add_mul]
theorem ks_mul {b : Int} (p q : List Int) (a : Nat → Int) (n : Nat) : tk b (ks (mul b p q) a n) = tk b (ks p (ks q a) n) := by
  have hl : (mul b p q).length ≤ p.length + q.length := by
    have := trim_len_le (ofF (p.length + q.length) fun k => tk b (cv (co p) (co q) k))
    rwa [ofF_len] at this
  rw [← ks_more _ a n hl]
  have e1 : tk b (sm (p.length + q.length) fun k => co (mul b p q) k * a (n + k)) = tk b (sm (p.length + q.length) fun k => sm p.length fun j => co p j * (if j ≤ k then co q (k - j) * a (n + k) else 0)) := tk_sm fun k _ => by
    rw [mul_co,tk_mul_l,← W_end (m := p.length) fun j hj => co_ge hj,W,if_neg (by omega),Int.add_zero,Int.mul_comm,← sm_mul]
    congr 1
    refine sm_congr fun j _ => ?_
    by_cases h : j ≤ k
    · rw [if_pos h,if_pos h,Int.mul_comm,Int.mul_assoc]
    · rw [if_neg h,if_neg h,Int.mul_zero,Int.mul_zero]
  rw [e1,sm_swap]
  congr 1
  refine sm_congr fun j hj => ?_
  rw [sm_mul]
  congr 1
  have e2 : (fun k => if j ≤ k then co q (k - j) * a (n + k) else 0) = fun k => if j ≤ k then (fun i => co q i * a (n + j + i)) (k - j) else 0 := by
    funext k
    by_cases h : j ≤ k
    · rw [if_pos h,if_pos h]
      show _ = co q (k - j) * a (n + j + (k - j))
      rw [show n + j + (k - j) = n + k by omega]
    · rw [if_neg h,if_neg h]
  rw [e2,show p.length + q.length = j + (p.length - j + q.length) by omega]
  refine (sm_shift (fun i => co q i * a (n + j + i)) j _).trans ?_
  exact ks_more q a (n + j) (by omega)
theorem ks_zero {b : Int} {p : List Int} {a : Nat → Int} (h : ∀ n,tk b (a n) = 0) (n : Nat) : tk b (ks p a n) = 0 := by
  have : tk b (ks p a n) = tk b (sm p.length fun _ => 0) := tk_sm fun k _ => by rw [← tk_mul_r,h,Int.mul_zero]
  rw [this,sm_zero,tk0]
noncomputable def Kp (b : Int) (p : List Int) (a : Nat → Int) : Prop := ∀ n,tk b (ks p a n) = 0
theorem Kp.mulr {b : Int} {q : List Int} {a : Nat → Int} (h : Kp b q a) (p : List Int) : Kp b (mul b p q) a := fun n => by rw [ks_mul]; exact ks_zero h n
theorem Kp.ofRule {b : Int} {rule : List Int} {a : Nat → Int} (ha : ∀ n,rule.length ≤ n → tk b (a n) = tk b (S rule a n rule.length)) : Kp b (ofRule b rule) a := fun n => by
  unfold ks
  rw [ofRule_len,sm]
  have e1 : co (Pm.ofRule b rule) rule.length = 1 := by
    rw [Pm.ofRule,co_append,ofF_len,if_neg (by omega),Nat.sub_self]; rfl
  have e2 : tk b (sm rule.length fun k => co (Pm.ofRule b rule) k * a (n + k)) = tk b (sm rule.length fun k => -1 * (co rule (rule.length - 1 - k) * a (n + k))) := tk_sm fun k hk => by
    rw [Pm.ofRule,co_append,ofF_len,if_pos hk,co_ofF,if_pos hk,tk_mul_l,Int.zero_sub,Int.neg_mul,Int.neg_one_mul]
  have e3 : S rule a (n + rule.length) rule.length = sm rule.length fun k => co rule (rule.length - 1 - k) * a (n + k) := by
    rw [S_sm]
    have rev : ∀ (m : Nat) (f : Nat → Int),sm m f = sm m fun k => f (m - 1 - k) := by
      intro m
      induction m with
      | zero => intro f; rfl
      | succ m ih =>
        intro f
        rw [sm_head,sm,ih fun i => f (i + 1),Int.add_comm]
        have : m + 1 - 1 - m = 0 := by omega
        rw [this]
        congr 1
        exact sm_congr fun k hk => by rw [show m - 1 - k + 1 = m + 1 - 1 - k by omega]
    rw [rev]
    exact sm_congr fun k hk => by rw [show n + rule.length - 1 - (rule.length - 1 - k) = n + k by omega]
  rw [e1,Int.one_mul,← tk_add_l,e2,tk_add_l,sm_mul,← e3,← tk_add_r,ha (n + rule.length) (by omega),tk_add_r,Int.neg_one_mul,Int.add_left_neg,tk0]
end Pm
namespace Pm
open Rm
end Pm
namespace Pm
open Rm
theorem ofRule_mon (b : Int) (c : List Int) : Mon (ofRule b c) := ⟨by rw [ofRule_len]; omega,by
  rw [ofRule_len,ofRule,co_append,ofF_len,if_neg (by omega),show c.length + 1 - 1 - c.length = 0 by omega]; rfl⟩
end Pm
namespace Pm
open Rm
noncomputable def unit (n j : Nat) : List Int := ofF n fun i => if i = j then 1 else 0
theorem unit_len (n j : Nat) : (unit n j).length = n := ofF_len ..
theorem unit_get (n j i : Nat) : (unit n j).getD i 0 = if i < n then (if i = j then 1 else 0) else 0 := co_ofF ..
noncomputable def ej (b : Int) (rule : List Int) (j n : Nat) : Int := at_ b rule (unit rule.length j) n
theorem ej_start {b : Int} {rule : List Int} {j n : Nat} (h : n < rule.length) : ej b rule j n = if n = j then 1 else 0 := by
  rw [ej,at_lt (by rw [unit_len]; exact h),unit_get,if_pos h]
theorem ej_rec {b : Int} {rule : List Int} (j : Nat) : ∀ n,rule.length ≤ n → tk b (ej b rule j n) = tk b (S rule (ej b rule j) n rule.length) := at_rec (by rw [unit_len])
theorem ej_tk {b : Int} (h1 : tk b 1 = 1) {rule : List Int} (j n : Nat) : tk b (ej b rule j n) = ej b rule j n := by
  by_cases h : n < rule.length
  · rw [ej_start h]; split
    · exact h1
    · exact tk0 b
  · have e : ej b rule j n = tk b (S rule (ej b rule j) n rule.length) := at_ge (by rw [unit_len]) (by rw [unit_len]; omega)
    rw [e,tk_tk]
theorem S_point {rule : List Int} {f : Nat → Int} {n j : Nat} (hn : rule.length ≤ n) (hj : j < rule.length) (h : ∀ i,i < n → f i = if i = n - rule.length + j then 1 else 0) :
    S rule f n rule.length = co rule (rule.length - 1 - j) := by
  rw [S_sm]
  have e : sm rule.length (fun k => co rule k * f (n - 1 - k)) = sm rule.length (fun k => if k = rule.length - 1 - j then co rule (rule.length - 1 - j) else 0) := by
    refine sm_congr fun k hk => ?_
    rw [h _ (by omega)]
    by_cases e : k = rule.length - 1 - j
    · rw [if_pos e,if_pos (by omega),Int.mul_one,e]
    · rw [if_neg e,if_neg (by omega),Int.mul_zero]
  rw [e,sm_single,if_pos (by omega)]
theorem ej_next {b : Int} (h1 : tk b 1 = 1) {rule : List Int} {j : Nat} (hj : j < rule.length) (n : Nat) :
    ej b rule j (n + 1) = tk b ((if j = 0 then 0 else ej b rule (j - 1) n) + ej b rule (rule.length - 1) n * co rule (rule.length - 1 - j)) := by
  have hw := at_window (b := b) (rule := rule) (starts := unit rule.length j) (w := ofF rule.length fun i => ej b rule j (1 + i)) (d := 1) (by rw [unit_len]) (by rw [ofF_len,unit_len]) (fun i hi => by
    rw [ofF_len] at hi
    have := co_ofF rule.length (fun i => ej b rule j (1 + i)) i
    rw [if_pos hi] at this
    exact this) n
  have e : ej b rule j (n + 1) = at_ b rule (ofF rule.length fun i => ej b rule j (1 + i)) n := by rw [hw,Nat.add_comm]; rfl
  have hN : ej b rule j rule.length = tk b (co rule (rule.length - 1 - j)) := by
    have q : ej b rule j rule.length = tk b (S rule (ej b rule j) rule.length rule.length) := at_ge (by rw [unit_len]) (by rw [unit_len]; omega)
    rw [q,S_point (Nat.le_refl _) hj]
    intro i hi
    rw [ej_start hi,Nat.sub_self,Nat.zero_add]
  by_cases h0 : j = 0
  · rw [e,if_pos h0]
    have q := at_both (b := b) (c := co rule (rule.length - 1 - j)) (rule := rule) (s1 := ofF rule.length fun _ => 0) (s2 := unit rule.length (rule.length - 1)) (s3 := ofF rule.length fun i => ej b rule j (1 + i)) (by rw [ofF_len]) (by rw [unit_len]) (by rw [ofF_len]) (fun i hi => by
      rw [ofF_len] at hi
      have e1 := co_ofF rule.length (fun i => ej b rule j (1 + i)) i
      have e2 := co_ofF rule.length (fun _ => (0 : Int)) i
      rw [if_pos hi] at e1 e2
      show co _ i = tk b (co _ i + _ * (unit rule.length (rule.length - 1)).getD i 0)
      rw [e1,e2,unit_get,if_pos hi]
      by_cases c : i = rule.length - 1
      · rw [if_pos c,Int.mul_one,Int.zero_add,show 1 + i = rule.length by omega,hN]
      · rw [if_neg c,Int.mul_zero,Int.zero_add,tk0,ej_start (by omega),if_neg (by omega)]) n
    rw [q]
    have z : at_ b rule (ofF rule.length fun _ => 0) n = 0 := by
      refine at_uniq (by rw [ofF_len]) (g := fun _ => 0) (fun i hi => ?_) (fun i _ => ?_) n
      · have := co_ofF rule.length (fun _ => (0 : Int)) i
        show (0 : Int) = co _ i
        rw [this]; split <;> rfl
      · rw [S_sm,sm_none (fun k _ => Int.mul_zero _),tk0]
    rw [z,Int.mul_comm]; rfl
  · rw [e,if_neg h0]
    have q := at_both (b := b) (c := co rule (rule.length - 1 - j)) (rule := rule) (s1 := unit rule.length (j - 1)) (s2 := unit rule.length (rule.length - 1)) (s3 := ofF rule.length fun i => ej b rule j (1 + i)) (by rw [unit_len]) (by rw [unit_len]) (by rw [ofF_len]) (fun i hi => by
      rw [ofF_len] at hi
      have e1 := co_ofF rule.length (fun i => ej b rule j (1 + i)) i
      rw [if_pos hi] at e1
      show co _ i = tk b ((unit rule.length (j - 1)).getD i 0 + _ * (unit rule.length (rule.length - 1)).getD i 0)
      rw [e1,unit_get,unit_get,if_pos hi,if_pos hi]
      by_cases c : i = rule.length - 1
      · rw [if_pos c,if_neg (by omega),Int.mul_one,Int.zero_add,show 1 + i = rule.length by omega,hN]
      · rw [if_neg c,Int.mul_zero,Int.add_zero,ej_start (by omega)]
        by_cases d : i = j - 1
        · rw [if_pos d,if_pos (by omega),h1]
        · rw [if_neg d,if_neg (by omega),tk0]) n
    rw [q,Int.mul_comm]; rfl
theorem sm_rev (f : Nat → Int) : ∀ n : Nat,sm n f = sm n (fun k => f (n - 1 - k))
  | 0 => rfl
  | n + 1 => by
    rw [sm_head,sm_rev (fun i => f (i + 1)) n,sm]
    rw [Int.add_comm]
    congr 1
    · exact sm_congr fun k hk => by rw [show n - 1 - k + 1 = n + 1 - 1 - k by omega]
    · rw [show n + 1 - 1 - n = 0 by omega]
theorem jump_sum {b : Int} (h1 : tk b 1 = 1) {rule : List Int} {a : Nat → Int} (ha : ∀ n,rule.length ≤ n → tk b (a n) = tk b (S rule a n rule.length)) :
    ∀ n m,tk b (sm rule.length fun k => ej b rule k n * a (m + k)) = tk b (a (m + n))
  | 0,m => by
    by_cases h0 : rule.length = 0
    · rw [h0,ha (m + 0) (by omega),h0]; rfl
    · have e : sm rule.length (fun k => ej b rule k 0 * a (m + k)) = sm rule.length (fun k => if k = 0 then a m else 0) := by
        refine sm_congr fun k _ => ?_
        rw [ej_start (by omega)]
        by_cases e : k = 0
        · rw [if_pos e,if_pos e.symm,Int.one_mul,e]; rfl
        · rw [if_neg e,if_neg (fun z => e z.symm),Int.zero_mul]
      rw [e,sm_single,if_pos (by omega)]; rfl
  | n + 1,m => by
    by_cases h0 : rule.length = 0
    · rw [h0,ha (m + (n + 1)) (by omega),h0]; rfl
    obtain ⟨N,hN⟩ : ∃ N,rule.length = N + 1 := ⟨rule.length - 1,by omega⟩
    have ih := jump_sum h1 ha n (m + 1)
    rw [show m + (n + 1) = m + 1 + n by omega,← ih]
    have e1 : tk b (sm rule.length fun k => ej b rule k (n + 1) * a (m + k)) = tk b (sm rule.length fun k => (if k = 0 then 0 else ej b rule (k - 1) n) * a (m + k) + ej b rule N n * (co rule (N - k) * a (m + k))) := by
      refine tk_sm fun k hk => ?_
      rw [ej_next h1 hk,tk_mul_l,Int.add_mul,Int.mul_assoc,hN]; rfl
    rw [e1,sm_add,sm_mul,hN]
    have e2 : sm (N + 1) (fun k => (if k = 0 then 0 else ej b rule (k - 1) n) * a (m + k)) = sm N (fun k => ej b rule k n * a (m + 1 + k)) := by
      rw [sm_head,if_pos rfl,Int.zero_mul,Int.zero_add]
      refine sm_congr fun k _ => ?_
      rw [if_neg (by omega),Nat.add_sub_cancel,show m + (k + 1) = m + 1 + k by omega]
    have e3 : tk b (sm (N + 1) fun k => co rule (N - k) * a (m + k)) = tk b (a (m + 1 + N)) := by
      rw [show m + 1 + N = m + (N + 1) by omega,ha (m + (N + 1)) (by omega),S_sm,hN]
      congr 1
      rw [sm_rev]
      refine sm_congr fun k hk => ?_
      rw [show N - (N + 1 - 1 - k) = k by omega,show m + (N + 1 - 1 - k) = m + (N + 1) - 1 - k by omega]
    rw [e2]
    show _ = tk b (sm N _ + _)
    rw [← tk_add_r,← tk_mul_r,e3,tk_mul_r,tk_add_r]
noncomputable def Gr (b : Int) (rule : List Int) (a : Nat → Int) : Prop := ∀ n,rule.length ≤ n → tk b (a n) = tk b (S rule a n rule.length)
theorem Gr.shift {b : Int} {rule : List Int} {a : Nat → Int} (h : Gr b rule a) (m : Nat) : Gr b rule fun n => a (n + m) := fun n hn => by
  have e : (fun n => a (n + m)) = fun n => a (m + n) := funext fun n => by rw [Nat.add_comm]
  rw [e,S_shift hn]
  exact h (m + n) (by omega)
theorem ks_seq {b : Int} {p : List Int} {a a' : Nat → Int} (h : ∀ n,tk b (a n) = tk b (a' n)) (n : Nat) : tk b (ks p a n) = tk b (ks p a' n) :=
  tk_sm fun k _ => by rw [← tk_mul_r,h,tk_mul_r]
noncomputable def Pw (b : Int) (rule : List Int) (m : Nat) (p : List Int) : Prop := ∀ a,Gr b rule a → ∀ n,tk b (ks p a n) = tk b (a (n + m))
theorem Pw.one (b : Int) (rule : List Int) : Pw b rule 0 [1] := fun a _ n => by simp [ks,sm,co_zero]
theorem Pw.x (b : Int) (rule : List Int) : Pw b rule 1 [0,1] := fun a _ n => by simp [ks,sm,co_zero,co_succ]
theorem Pw.mul {b : Int} {rule : List Int} {m m' : Nat} {p q : List Int} (h : Pw b rule m p) (h' : Pw b rule m' q) : Pw b rule (m + m') (mul b p q) := fun a ha n => by
  rw [ks_mul,ks_seq (h' a ha),h _ (ha.shift m'),Nat.add_assoc]
theorem Pw.left {b : Int} {rule : List Int} {m : Nat} {p q r : List Int} (h : Pw b rule m p) (d : Div b p (ofRule b rule) q r) : Pw b rule m r := fun a ha n => by
  rw [← h a ha n]
  have e1 : ∀ k,tk b (co (Pm.add b (Pm.mul b q (ofRule b rule)) r) k) = tk b (co p k) := fun k => by rw [add_co,mul_co,tk_tk,tk_add_l]; exact d.eq k
  rw [← ks_tk e1,ks_add,← tk_add_l,(Kp.ofRule ha).mulr q n,Int.zero_add]
theorem ej_gr (b : Int) (rule : List Int) (j : Nat) : Gr b rule (ej b rule j) := ej_rec j
theorem Pw.co {b : Int} (h1 : tk b 1 = 1) {rule : List Int} {m : Nat} {r : List Int} (h : Pw b rule m r) (hy : Py b r) (hs : r.length ≤ rule.length) {j : Nat} (hj : j < rule.length) : Pm.co r j = ej b rule j m := by
  have q := h _ (ej_gr b rule j) 0
  rw [Nat.zero_add,ej_tk h1,← ks_more r _ 0 hs] at q
  have e : sm rule.length (fun k => Pm.co r k * ej b rule j (0 + k)) = sm rule.length (fun k => if k = j then Pm.co r j else 0) := sm_congr fun k hk => by
    rw [Nat.zero_add,ej_start hk]
    by_cases c : k = j
    · rw [if_pos c,if_pos c,Int.mul_one,c]
    · rw [if_neg c,if_neg c,Int.mul_zero]
  rw [e,sm_single,if_pos hj,hy.co] at q
  exact q
noncomputable def rest (b : Int) (rule : List Int) (m : Nat) : List Int := ofF rule.length fun j => ej b rule j m
theorem rest_len (b : Int) (rule : List Int) (m : Nat) : (rest b rule m).length = rule.length := ofF_len ..
theorem co_rest {b : Int} {rule : List Int} {m j : Nat} (hj : j < rule.length) : Pm.co (rest b rule m) j = ej b rule j m := by rw [rest,co_ofF,if_pos hj]
theorem rest_zero (b : Int) (rule : List Int) : rest b rule 0 = ofF rule.length fun j => if j = 0 then 1 else 0 := co_ext (by rw [rest_len,ofF_len]) fun k => by
  rw [rest,co_ofF,co_ofF]
  by_cases h : k < rule.length
  · rw [if_pos h,if_pos h,ej_start (by omega)]
    by_cases c : k = 0
    · rw [if_pos c,if_pos c.symm]
    · rw [if_neg c,if_neg (fun z => c z.symm)]
  · rw [if_neg h,if_neg h]
theorem jump_rest {b : Int} (h1 : tk b 1 = 1) {rule : List Int} {a : Nat → Int} (ha : Gr b rule a) (n m : Nat) : tk b (sm rule.length fun k => Pm.co (rest b rule n) k * a (m + k)) = tk b (a (m + n)) := by
  rw [← jump_sum h1 ha n m]
  exact congrArg (tk b) (sm_congr fun k hk => by rw [co_rest hk])
theorem rest_add {b : Int} (h1 : tk b 1 = 1) {rule : List Int} (m n : Nat) {j : Nat} (hj : j < rule.length) : tk b (sm rule.length fun i => Pm.co (rest b rule m) i * Pm.co (rest b rule (n + i)) j) = Pm.co (rest b rule (n + m)) j := by
  have q := jump_rest h1 (ej_gr b rule j) m n
  rw [co_rest hj,← ej_tk h1,← q]
  exact congrArg (tk b) (sm_congr fun k hk => by rw [co_rest hj])
theorem tk_range {b x : Int} (hb : 0 < b) : 0 ≤ tk b x ∧ tk b x < b := by
  rw [tk_pos (by omega)]
  exact ⟨Int.emod_nonneg _ (by omega),Int.emod_lt_of_pos _ hb⟩
theorem ej_bd {b : Int} (h1 : tk b 1 = 1) (hb : 0 ≤ b) (hb1 : b < 1000) {rule : List Int} {a : Nat} (ha : 10 ≤ a) (hr : ∀ x ∈ rule,Bd a x) (j n : Nat) (hn : b = 0 → n ≤ 1100) : Bd (10 + 1100 * (a + rule.length)) (ej b rule j n) := by
  by_cases h0 : b = 0
  · have q := at_bd (b := b) (rule := rule) (starts := unit rule.length j) (a := a) (c := 10) (by rw [unit_len]) hb (Bd.of (by omega) (by omega)) hr (fun x hx => by
      obtain ⟨k,_,rfl⟩ := mem_ofF hx
      split
      · exact Bd.of (by decide) (by decide)
      · exact Bd.zero _) n
    have : n * (a + rule.length) ≤ 1100 * (a + rule.length) := Nat.mul_le_mul_right _ (hn h0)
    exact q.mono (by omega)
  · rw [← ej_tk h1]
    have := tk_range (b := b) (x := ej b rule j n) (by omega)
    exact (Bd.of (n := 10) (by omega) (by omega)).mono (by omega)
end Pm
namespace K39
open PySem L2
seal PA PE PS PSs PT PW PI PG PGs PO PIf
def top (i : Nat) : Stmt := PySem.Challenge.pw_nextbyrule_k39_rows_from_a_place_on.main.body.getD i (.Pass ⟨0,0,0,0⟩)
noncomputable abbrev s_taken : Stmt := top 11
noncomputable abbrev s_next_place : Stmt := top 13
noncomputable abbrev s_first_places : Stmt := top 14
noncomputable abbrev s_trimmed : Stmt := top 16
noncomputable abbrev s_number_at : Stmt := top 17
noncomputable abbrev s_times : Stmt := top 18
noncomputable abbrev s_divided : Stmt := top 19
noncomputable abbrev s_of_rule : Stmt := top 20
noncomputable abbrev s_sum_at : Stmt := top 21
noncomputable abbrev s_refuse_far_jump : Stmt := top 24
noncomputable abbrev s_power_left : Stmt := top 25
noncomputable abbrev s_jump : Stmt := top 26
noncomputable abbrev s_place_at : Stmt := top 27
noncomputable abbrev s_onward : Stmt := top 28
noncomputable abbrev s_Lcell_at : Stmt := top 30
noncomputable abbrev s_Lmix : Stmt := top 31
noncomputable abbrev s_Ldrawn_by : Stmt := top 32
noncomputable abbrev s_Ltaken : Stmt := top 33
noncomputable abbrev s_Lone_number : Stmt := top 34
noncomputable abbrev s_Lmade_longer : Stmt := top 35
noncomputable abbrev s_Ldrawn_row : Stmt := top 36
noncomputable abbrev s_Lplaces : Stmt := top 37
noncomputable abbrev s_Ltimes_x : Stmt := top 38
noncomputable abbrev s_Lstep_by_step : Stmt := top 39
noncomputable abbrev s_Lrolled_rests : Stmt := top 40
noncomputable abbrev s_Lrest_far : Stmt := top 41
noncomputable abbrev s_Lrefused : Stmt := top 42
noncomputable abbrev s_Lall_refused : Stmt := top 43
noncomputable abbrev s_Lis_row : Stmt := top 44
noncomputable abbrev s_law : Stmt := top 45
theorem sc_taken : FnScope ["by","number"] ["by","number"] (defScope s_taken) := ⟨rfl,rfl,rfl,by decide +kernel,rfl,by decide +kernel,by decide +kernel⟩
theorem sc_next_place : FnScope ["by","rule","before","total","k"] ["by","rule","before"] (defScope s_next_place) := ⟨rfl,rfl,rfl,by decide +kernel,rfl,by decide +kernel,by decide +kernel⟩
theorem sc_first_places : FnScope ["row","count","by","rule","starts","found"] ["row","count"] (defScope s_first_places) := ⟨rfl,rfl,rfl,by decide +kernel,rfl,by decide +kernel,by decide +kernel⟩
theorem sc_trimmed : FnScope ["numbers","end"] ["numbers"] (defScope s_trimmed) := ⟨rfl,rfl,rfl,by decide +kernel,rfl,by decide +kernel,by decide +kernel⟩
theorem sc_number_at : FnScope ["poly","k"] ["poly","k"] (defScope s_number_at) := ⟨rfl,rfl,rfl,by decide +kernel,rfl,by decide +kernel,by decide +kernel⟩
theorem sc_times : FnScope ["by","one","other","total","i","k"] ["by","one","other"] (defScope s_times) := ⟨rfl,rfl,rfl,by decide +kernel,rfl,by decide +kernel,by decide +kernel⟩
theorem sc_divided : FnScope ["by","one","other","top","often","left","shift","factor","k"] ["by","one","other"] (defScope s_divided) := ⟨rfl,rfl,rfl,by decide +kernel,rfl,by decide +kernel,by decide +kernel⟩
theorem sc_of_rule : FnScope ["by","rule","length","numbers"] ["by","rule"] (defScope s_of_rule) := ⟨rfl,rfl,rfl,by decide +kernel,rfl,by decide +kernel,by decide +kernel⟩
theorem sc_sum_at : FnScope ["by","poly","found","n"] ["by","poly","found","n"] (defScope s_sum_at) := ⟨rfl,rfl,rfl,by decide +kernel,rfl,by decide +kernel,by decide +kernel⟩
theorem sc_refuse_far_jump : FnScope ["by","n"] ["by","n"] (defScope s_refuse_far_jump) := ⟨rfl,rfl,rfl,by decide +kernel,rfl,by decide +kernel,by decide +kernel⟩
theorem sc_power_left : FnScope ["by","poly","n","left","figure","doubled"] ["by","poly","n"] (defScope s_power_left) := ⟨rfl,rfl,rfl,by decide +kernel,rfl,by decide +kernel,by decide +kernel⟩
theorem sc_jump : FnScope ["row","n","by","rule","left"] ["row","n"] (defScope s_jump) := ⟨rfl,rfl,rfl,by decide +kernel,rfl,by decide +kernel,by decide +kernel⟩
theorem sc_place_at : FnScope ["row","n"] ["row","n"] (defScope s_place_at) := ⟨rfl,rfl,rfl,by decide +kernel,rfl,by decide +kernel,by decide +kernel⟩
theorem sc_onward : FnScope ["row","n","by","numbers","near","starts"] ["row","n"] (defScope s_onward) := ⟨rfl,rfl,rfl,by decide +kernel,rfl,by decide +kernel,by decide +kernel⟩
theorem sc_Lcell_at : FnScope ["_law_script","_law_k"] ["_law_script","_law_k"] (defScope s_Lcell_at) := ⟨rfl,rfl,rfl,by decide +kernel,rfl,by decide +kernel,by decide +kernel⟩
theorem sc_Lmix : FnScope ["_law_cell","_law_k","_law_number"] ["_law_cell","_law_k"] (defScope s_Lmix) := ⟨rfl,rfl,rfl,by decide +kernel,rfl,by decide +kernel,by decide +kernel⟩
theorem sc_Ldrawn_by : FnScope ["_law_cell"] ["_law_cell"] (defScope s_Ldrawn_by) := ⟨rfl,rfl,rfl,by decide +kernel,rfl,by decide +kernel,by decide +kernel⟩
theorem sc_Ltaken : FnScope ["_law_by","_law_number"] ["_law_by","_law_number"] (defScope s_Ltaken) := ⟨rfl,rfl,rfl,by decide +kernel,rfl,by decide +kernel,by decide +kernel⟩
theorem sc_Lone_number : FnScope ["_law_by","_law_cell","_law_k","_law_far","_law_small"] ["_law_by","_law_cell","_law_k"] (defScope s_Lone_number) := ⟨rfl,rfl,rfl,by decide +kernel,rfl,by decide +kernel,by decide +kernel⟩
theorem sc_Lmade_longer : FnScope ["_law_row","_law_number","_law_by","_law_rule","_law_starts","_law_some","_law_longer","_law_k"] ["_law_row","_law_number"] (defScope s_Lmade_longer) := ⟨rfl,rfl,rfl,by decide +kernel,rfl,by decide +kernel,by decide +kernel⟩
theorem sc_Ldrawn_row : FnScope ["_law_script","_law_start","_law_by","_law_most","_law_cell","_law_size","_law_mine","_law_rule","_law_k","_law_row"] ["_law_script","_law_start","_law_by","_law_most"] (defScope s_Ldrawn_row) := ⟨rfl,rfl,rfl,by decide +kernel,rfl,by decide +kernel,by decide +kernel⟩
theorem sc_Lplaces : FnScope ["_law_row","_law_count","_law_by","_law_rule","_law_starts","_law_found","_law_total"] ["_law_row","_law_count"] (defScope s_Lplaces) := ⟨rfl,rfl,rfl,by decide +kernel,rfl,by decide +kernel,by decide +kernel⟩
theorem sc_Ltimes_x : FnScope ["_law_by","_law_row","_law_rest","_law_rule","_law_starts","_law_top","_law_found"] ["_law_by","_law_row","_law_rest"] (defScope s_Ltimes_x) := ⟨rfl,rfl,rfl,by decide +kernel,rfl,by decide +kernel,by decide +kernel⟩
theorem sc_Lstep_by_step : FnScope ["_law_by","_law_row","_law_n","_law_size","_law_rest","_law_k"] ["_law_by","_law_row","_law_n"] (defScope s_Lstep_by_step) := ⟨rfl,rfl,rfl,by decide +kernel,rfl,by decide +kernel,by decide +kernel⟩
theorem sc_Lrolled_rests : FnScope ["_law_by","_law_row","_law_one","_law_other","_law_total","_law_part","_law_number"] ["_law_by","_law_row","_law_one","_law_other"] (defScope s_Lrolled_rests) := ⟨rfl,rfl,rfl,by decide +kernel,rfl,by decide +kernel,by decide +kernel⟩
theorem sc_Lrest_far : FnScope ["_law_by","_law_row","_law_n","_law_found","_law_square"] ["_law_by","_law_row","_law_n"] (defScope s_Lrest_far) := ⟨rfl,rfl,rfl,by decide +kernel,rfl,by decide +kernel,by decide +kernel⟩
theorem sc_Lrefused : FnScope ["_law_told","_law_kept","e"] ["_law_told"] (defScope s_Lrefused) := ⟨rfl,rfl,rfl,by decide +kernel,rfl,by decide +kernel,by decide +kernel⟩
theorem sc_Lall_refused : FnScope ["_law_row","_law_n"] ["_law_row","_law_n"] (defScope s_Lall_refused) := ⟨rfl,rfl,rfl,by decide +kernel,rfl,by decide +kernel,by decide +kernel⟩
theorem sc_Lis_row : FnScope ["_law_found","_law_due"] ["_law_found","_law_due"] (defScope s_Lis_row) := ⟨rfl,rfl,rfl,by decide +kernel,rfl,by decide +kernel,by decide +kernel⟩
theorem sc_law : FnScope ["_law_script","_law_by","_law_row","_law_cell","_law_size","_law_whole","_law_n","_law_found","_law_far","_law_due","_law_rest","_law_m"] ["_law_script"] (defScope s_law) := ⟨rfl,rfl,rfl,by decide +kernel,rfl,by decide +kernel,by decide +kernel⟩
noncomputable abbrev cs_of_rule1 : Scope := { kind := .function,names := [(".0",.local),("k",.local),("taken",.globalImplicit),("by",.cell),("length",.cell),("rule",.cell)],isGenerator := false,isCoroutine := false }
noncomputable abbrev cs_sum_at1 : Scope := { kind := .function,names := [(".0",.local),("k",.local),("found",.cell),("n",.cell),("poly",.cell)],isGenerator := false,isCoroutine := false }
noncomputable abbrev cs_jump1 : Scope := { kind := .function,names := [(".0",.local),("i",.local),("number_at",.globalImplicit),("left",.cell)],isGenerator := false,isCoroutine := false }
noncomputable abbrev cs_onward1 : Scope := { kind := .function,names := [(".0",.local),("m",.local),("sum_at",.globalImplicit),("by",.cell),("near",.cell),("numbers",.cell)],isGenerator := false,isCoroutine := false }
noncomputable abbrev cs_Lmade_longer1 : Scope := { kind := .function,names := [(".0",.local),("_law_one",.local),("_law_taken",.globalImplicit),("_law_by",.cell)],isGenerator := false,isCoroutine := false }
noncomputable abbrev cs_Ldrawn_row1 : Scope := { kind := .function,names := [(".0",.local),("_law_k",.local),("_law_one_number",.globalImplicit),("_law_by",.cell),("_law_mine",.cell)],isGenerator := false,isCoroutine := false }
noncomputable abbrev cs_Ldrawn_row2 : Scope := { kind := .function,names := [(".0",.local),("_law_k",.local),("_law_one_number",.globalImplicit),("_law_by",.cell),("_law_mine",.cell)],isGenerator := false,isCoroutine := false }
noncomputable abbrev cs_Lplaces1 : Scope := { kind := .function,names := [(".0",.local),("_law_k",.local),("_law_found",.cell),("_law_rule",.cell)],isGenerator := false,isCoroutine := false }
noncomputable abbrev cs_Ltimes_x1 : Scope := { kind := .function,names := [(".0",.local),("_law_k",.local),("_law_taken",.globalImplicit),("len",.globalImplicit),("_law_by",.cell),("_law_found",.cell),("_law_rule",.cell),("_law_top",.cell)],isGenerator := false,isCoroutine := false }
noncomputable abbrev cs_Lrolled_rests1 : Scope := { kind := .function,names := [(".0",.local),("_law_k",.local),("_law_taken",.globalImplicit),("_law_by",.cell),("_law_number",.cell),("_law_part",.cell),("_law_total",.cell)],isGenerator := false,isCoroutine := false }
noncomputable abbrev cs_Lis_row1 : Scope := { kind := .function,names := [(".0",.local),("_law_one",.local),("isinstance",.globalImplicit),("bool",.globalImplicit)],isGenerator := false,isCoroutine := false }
noncomputable abbrev cs_law1 : Scope := { kind := .function,names := [(".0",.local),("_law_k",.local),("_law_m",.cell),("_law_rest",.cell),("_law_whole",.cell)],isGenerator := false,isCoroutine := false }
structure Bt (mg : Str → Option Value) : Prop where
  b_ValueError : mg "ValueError" = none
  b_bool : mg "bool" = none
  b_int : mg "int" = none
  b_isinstance : mg "isinstance" = none
  b_len : mg "len" = none
  b_list : mg "list" = none
  b_max : mg "max" = none
  b_range : mg "range" = none
  b_sum : mg "sum" = none
  b_tuple : mg "tuple" = none
  g_FARTHEST_BY_0 : ∃ t,mg "FARTHEST_BY_0" = some (.int 400 t)
structure Ms (K : PySem.W.Frag) (mg : Str → Option Value) (base : Heap) (A_NoBy A_NoName A_NoNumber A_NoRow A_NoText A_RuleError A_TooBig A_TooFar A_TooLong : Addr) : Prop where
  m_NoBy : mg "NoBy" = some (.ref A_NoBy)
  m_NoName : mg "NoName" = some (.ref A_NoName)
  m_NoNumber : mg "NoNumber" = some (.ref A_NoNumber)
  m_NoRow : mg "NoRow" = some (.ref A_NoRow)
  m_NoText : mg "NoText" = some (.ref A_NoText)
  m_RuleError : mg "RuleError" = some (.ref A_RuleError)
  m_TooBig : mg "TooBig" = some (.ref A_TooBig)
  m_TooFar : mg "TooFar" = some (.ref A_TooFar)
  m_TooLong : mg "TooLong" = some (.ref A_TooLong)
  x_TooFar : ExC mg base "TooFar" A_TooFar
  s_TooFar_RuleError : ExS base A_TooFar A_RuleError
  i_TooFar : ExI K A_TooFar
  k_TooFar_NoBy : PySem.W.kitOne K (.ref A_TooFar) (.ref A_NoBy) = some false
  k_TooFar_NoName : PySem.W.kitOne K (.ref A_TooFar) (.ref A_NoName) = some false
  k_TooFar_NoNumber : PySem.W.kitOne K (.ref A_TooFar) (.ref A_NoNumber) = some false
  k_TooFar_NoRow : PySem.W.kitOne K (.ref A_TooFar) (.ref A_NoRow) = some false
  k_TooFar_NoText : PySem.W.kitOne K (.ref A_TooFar) (.ref A_NoText) = some false
  k_TooFar_RuleError : PySem.W.kitOne K (.ref A_TooFar) (.ref A_RuleError) = some true
  k_TooFar_TooBig : PySem.W.kitOne K (.ref A_TooFar) (.ref A_TooBig) = some false
  k_TooFar_TooFar : PySem.W.kitOne K (.ref A_TooFar) (.ref A_TooFar) = some true
  k_TooFar_TooLong : PySem.W.kitOne K (.ref A_TooFar) (.ref A_TooLong) = some false
  k_TooFar_ValueError : PySem.W.kitOne K (.ref A_TooFar) (.type "ValueError") = some true
noncomputable abbrev KLAW : Nat := 9
theorem emod_lo (a : Int) {b : Int} (h : 0 < b) : 0 ≤ a % b := Int.emod_nonneg _ (by omega)
theorem emod_hi (a : Int) {b : Int} (h : 0 < b) : a % b < b := Int.emod_lt_of_pos _ h
theorem atI_ints {ns : List Int} {k : Int} (h0 : 0 ≤ k) (h1 : k < (ns.length : Int)) : atI (ns.map V.int) k = some (.int (ns.getD k.toNat 0)) := by
  have e : k = ((k.toNat : Nat) : Int) := by omega
  have hk : k.toNat < ns.length := by omega
  conv => lhs; rw [e]
  exact atI_nat (by rw [List.getElem?_map,List.getElem?_eq_getElem hk,List.getD_eq_getElem?_getD,List.getElem?_eq_getElem hk] <;> rfl)
theorem dec_true {p : Prop} [Decidable p] (c : decide p = true) : p := of_decide_eq_true c
theorem dec_false {p : Prop} [Decidable p] (c : ¬ decide p = true) : ¬ p := of_decide_eq_false (Bool.eq_false_iff.mpr c)
noncomputable def IsNum (b x : Int) : Prop := b = 0 ∨ (0 ≤ x ∧ x < b)
structure Rw where
  b : Int
  rule : List Int
  starts : List Int
structure RwOk (r : Rw) : Prop where
  len : r.rule.length = r.starts.length
  short : r.rule.length ≤ 12
  by0 : 0 ≤ r.b
  by1 : r.b < 1000
  ruleNum : ∀ x ∈ r.rule,IsNum r.b x
  startsNum : ∀ x ∈ r.starts,IsNum r.b x
  ruleBd : ∀ x ∈ r.rule,Rm.Bd 200 x
  startsBd : ∀ x ∈ r.starts,Rm.Bd 200 x
noncomputable def Rw.row (r : Rw) (n : Nat) : List Int := Rm.row r.b r.rule r.starts n
noncomputable def Rw.at (r : Rw) (n : Nat) : Int := Rm.at_ r.b r.rule r.starts n
theorem RwOk.bd {r : Rw} (h : RwOk r) (n : Nat) (hn : n ≤ 1000) : Rm.Bd 300000 (r.at n) := by
  have q := Rm.at_bd (b := r.b) (rule := r.rule) (starts := r.starts) (a := 200) (c := 200) h.len h.by0 (Rm.Bd.of (by have := h.by0; omega) (by have := h.by1; omega)) h.ruleBd h.startsBd n
  refine q.mono ?_
  have h1 := h.short
  have h2 : n * (200 + r.rule.length) ≤ 1000 * 212 := Nat.mul_le_mul hn (by omega)
  omega
theorem RwOk.rowBd {r : Rw} (h : RwOk r) (n : Nat) (hn : n ≤ 1000) : ∀ x ∈ r.row n,Rm.Bd 300000 x := by
  intro x hx
  have e : r.row n = (List.range n).map r.at := Rm.row_eq ..
  rw [e] at hx
  obtain ⟨i,hi,rfl⟩ := List.mem_map.mp hx
  exact h.bd i (by have := List.mem_range.mp hi; omega)
theorem Rw.row_len (r : Rw) (n : Nat) : (r.row n).length = n := Rm.row_len ..
theorem mulBd {x y : Int} {m n : Nat} (h : Rm.Bd m x) (h' : Rm.Bd n y) (hn : m + n ≤ 134217728) : IntMulOk x y :=
  IntMulOk.of_le (intBits_le_iff.mpr h) (intBits_le_iff.mpr h') hn
noncomputable def RowIs (H : Hp) (v : V) (r : Rw) : Prop :=
  ∃ a p q,v = .ref a ∧ H a = some (.tup [.int r.b,.ref p,.ref q]) ∧ H p = some (.tup (r.rule.map V.int)) ∧ H q = some (.tup (r.starts.map V.int))
theorem RowIs.same {H H' : Hp} {v : V} {r : Rw} (h : RowIs H v r) (g : Same H H') : RowIs H' v r := by
  obtain ⟨a,p,q,e,h1,h2,h3⟩ := h
  exact ⟨a,p,q,e,g _ _ h1,g _ _ h2,g _ _ h3⟩
theorem sum_S (rule : List Int) (f : Nat → Int) (n : Nat) : ∀ m : Nat,((List.range m).map fun k => rule.getD k 0 * f (n - 1 - k)).sum = Rm.S rule f n m
  | 0 => rfl
  | m + 1 => by
    rw [List.range_succ,List.map_append,List.sum_append,sum_S rule f n m]
    simp [Rm.S]
theorem map_snoc (xs : List Int) (x : Int) : (xs ++ [x]).map V.int = xs.map V.int ++ [.int x] := by rw [List.map_append]; rfl
noncomputable def Told (H : Hp) (Q : VK) (xs : List V) : Prop := ∀ r H',Same H H' → H r = none → H' r = some (.lst xs) → Q (.ref r) H'
theorem cut_to (xs : List V) (k : Nat) : cutV xs none (some (k : Int)) = xs.take k := by
  unfold cutV
  rw [HT.sIx_nat,HT.sIx_none,List.drop_zero,Nat.sub_zero,List.take_eq_take_iff]
  omega
noncomputable def ToldT (H : Hp) (Q : VK) (ns : List Int) : Prop := ∀ p H',Same H H' → H' p = some (.tup (ns.map V.int)) → Q (.ref p) H'
theorem take_step {xs : List Int} {n : Nat} (h : 0 < n) (hn : n ≤ xs.length) : xs.take n = xs.take (n - 1) ++ [xs.getD (n - 1) 0] := by
  obtain ⟨m,rfl⟩ : ∃ m,n = m + 1 := ⟨n - 1,by omega⟩
  rw [Nat.add_sub_cancel,List.take_add_one,List.getElem?_eq_getElem (by omega),List.getD_eq_getElem?_getD,List.getElem?_eq_getElem (by omega)]
  rfl
theorem trim_down {xs : List Int} {n : Nat} (h : 0 < n) (hn : n ≤ xs.length) (ht : Pm.trim (xs.take n) = Pm.trim xs) (h0 : xs.getD (n - 1) 0 = 0) : Pm.trim (xs.take (n - 1)) = Pm.trim xs := by
  rw [take_step h hn,h0,Pm.trim_zero] at ht
  exact ht
theorem trim_stop {xs : List Int} {n : Nat} (hn : n ≤ xs.length) (ht : Pm.trim (xs.take n) = Pm.trim xs) (h0 : n = 0 ∨ xs.getD (n - 1) 0 ≠ 0) : xs.take n = Pm.trim xs := by
  rcases h0 with h0 | h0
  · subst h0; rw [← ht]; rfl
  · by_cases hz : n = 0
    · subst hz; rw [← ht]; rfl
    · rw [← ht,take_step (by omega) hn,Pm.trim_last _ h0]
theorem ixN_of {n j : Nat} {i : Int} (e : i = (j : Int)) (h : j < n) : ixN n i = some j := by
  subst e
  unfold ixN
  rw [if_pos (by omega),if_pos (by omega),Int.toNat_natCast]
theorem map_set_int (L : List Int) (j : Nat) (x : Int) : (L.map V.int).set j (.int x) = (L.set j x).map V.int := by rw [List.map_set]
theorem replicate_ofF (n : Nat) : (List.replicate n [V.int 0]).flatten = (Pm.ofF n fun _ => 0).map V.int := by
  induction n with
  | zero => rfl
  | succ n ih =>
    rw [Pm.ofF_succ,List.map_append,← ih,List.replicate_succ',List.flatten_append]
    rfl
theorem comp_rng {n : Nat} {ix : List (Option Nat)} {te : TE} {σ : St} {H1 : Hp} {Q : VK} (hz : n ≤ 1000) {rest : St} (hst : cst ix σ = none :: rest) (f : Nat → Int)
    (he : ∀ H' k,Same H1 H' → k < n → ∀ kk : VK,kk (.int (f k)) H' → te (some (.int (0 + (k : Int))) :: rest) H' kk)
    (hQ : ∀ D,H1 D = none → Q (.ref D) (upd H1 D (.lst ((Pm.ofF n f).map V.int)))) : CompK ix (gName 0) tYes te σ Q (Itr 0 n) H1 := by
  refine comp_pure its_range (by rw [List.length_map,List.length_range]; exact Nat.le_of_lt (small1000 hz)) hst (fun _ => true) (fun x => match x with | .int k => .int (f k.toNat) | _ => .non) ?_ ?_ ?_
  · intro H2 x g2 hx k hk; exact hk
  · intro H2 x g2 hx _ k hk
    obtain ⟨j,hj,rfl⟩ := List.mem_map.mp hx
    have e1 : (0 + (j : Int)).toNat = j := by omega
    refine he H2 j g2 (List.mem_range.mp hj) k ?_
    have hk' : k (V.int (f (0 + (j : Int)).toNat)) H2 := hk
    rwa [e1] at hk'
  · intro D hD
    have el : ((((List.range n).map fun i => V.int (0 + (i : Nat))).filter fun _ => true).map fun x => match x with | .int k => V.int (f k.toNat) | _ => V.non) = (Pm.ofF n f).map V.int := by
      rw [List.filter_eq_self.mpr (by simp),List.map_map,Pm.ofF,List.map_map]
      refine List.map_congr_left fun k _ => ?_
      show V.int (f (0 + (k : Int)).toNat) = V.int (f k)
      rw [show (0 + (k : Int)).toNat = k by omega]
    rw [el]
    exact hQ D hD
theorem numTk {b x : Int} (h : IsNum b x) : Rm.tk b x = x := by
  unfold Rm.tk
  rcases h with h | ⟨h1,h2⟩
  · rw [if_pos h]
  · split
    · rfl
    · exact Int.emod_eq_of_lt h1 h2
theorem comp_lst {K : PySem.W.Frag} {a : Addr} {xs : List Int} {ix : List (Option Nat)} {te : TE} {σ : St} {H1 : Hp} {Q : VK} (hA : H1 a = some (.lst (xs.map V.int))) (hz : xs.length ≤ 1000) {rest : St} (hst : cst ix σ = none :: rest) (f : Int → Int)
    (he : ∀ H' x,Same H1 H' → x ∈ xs → ∀ kk : VK,kk (.int (f x)) H' → te (some (.int x) :: rest) H' kk)
    (hQ : ∀ D,H1 D = none → Q (.ref D) (upd H1 D (.lst ((xs.map f).map V.int)))) : CompK ix (gName 0) tYes te σ Q (Itl K a) H1 := by
  refine comp_pure (its_list (SqL.of hA)) (by rw [List.length_map]; exact Nat.le_of_lt (small1000 hz)) hst (fun _ => true) (fun x => match x with | .int k => .int (f k) | _ => .non) ?_ ?_ ?_
  · intro H2 x g2 hx k hk; exact hk
  · intro H2 x g2 hx _ k hk
    obtain ⟨y,hy,rfl⟩ := List.mem_map.mp hx
    exact he H2 y g2 hy k hk
  · intro D hD
    have el : (((xs.map V.int).filter fun _ => true).map fun x => match x with | .int k => V.int (f k) | _ => V.non) = (xs.map f).map V.int := by
      rw [List.filter_eq_self.mpr (by simp),List.map_map,List.map_map]; rfl
    rw [el]
    exact hQ D hD
theorem map_int_get {p : List Int} {i : Nat} {x : V} (h : (p.map V.int)[i]? = some x) : x = .int (Pm.co p i) ∧ i < p.length := by
  by_cases hi : i < p.length
  · rw [List.getElem?_map,List.getElem?_eq_getElem hi] at h
    cases h
    refine ⟨?_,hi⟩
    show V.int _ = V.int (p.getD i 0)
    rw [List.getD_eq_getElem?_getD,List.getElem?_eq_getElem hi]; rfl
  · rw [List.getElem?_eq_none (by rw [List.length_map]; omega)] at h; cases h
theorem comp_rngP {n : Nat} {ix : List (Option Nat)} {te : TE} {σ : St} {H1 : Hp} {Q : VK} (hz : n ≤ 1000) {rest : St} (hst : cst ix σ = none :: rest) (P : Int → Prop)
    (he : ∀ H' k,Same H1 H' → k < n → ∀ kk : VK,(∀ x H2,Same H' H2 → P x → kk (.int x) H2) → te (some (.int (0 + (k : Int))) :: rest) H' kk)
    (hQ : ∀ D H' xs,H1 D = none → Same H1 H' → H' D = some (.lst (List.map V.int xs)) → xs.length = n → (∀ x ∈ xs,P x) → Q (.ref D) H') : CompK ix (gName 0) tYes te σ Q (Itr 0 n) H1 := by
  have I : ItS (Itr 0 n) ((List.range n).map fun i => V.int (0 + (i : Nat))) H1 := its_range
  have lI : ((List.range n).map fun i => V.int (0 + (i : Nat))).length = n := by rw [List.length_map,List.length_range]
  constructor
  intro D hD
  refine ⟨fun i m σ' H' => m = n - i ∧ i ≤ n ∧ (∃ o,σ' = o :: rest) ∧ Same H1 H' ∧ ∃ xs : List Int,H' D = some (.lst (xs.map V.int)) ∧ xs.length = i ∧ ∀ x ∈ xs,P x,⟨n,rfl,Nat.zero_le _,⟨none,hst⟩,Same.new hD _,[],upd_same,rfl,fun _ h => nomatch h⟩,?_⟩
  rintro i m σ' H' ⟨rfl,hi,⟨o,rfl⟩,g,xs,hl,lx,hP⟩
  by_cases hlt : i < n
  · refine .inr ⟨I.go i _ g (by rw [lI]; exact hlt),fun x H2 y => ?_⟩
    obtain ⟨rfl,hx⟩ := I.yld i _ x H2 g y
    have hx := hx (by rw [lI]; exact hlt)
    rw [List.getElem?_map,List.getElem?_range hlt] at hx
    cases hx
    change te (some (.int (0 + (i : Int))) :: rest) H2 _
    refine he H2 i g hlt _ fun x H3 g3 hx => ⟨_,g3 _ _ hl,by rw [List.length_map,lx]; exact small1000 (by omega),n - (i + 1),by omega,rfl,hlt,⟨_,rfl⟩,Same.upd (g.trans g3) hD _,xs ++ [x],?_,by rw [List.length_append,lx]; rfl,fun z hz => ?_⟩
    · rw [upd_same,map_snoc]
    · rcases List.mem_append.mp hz with hz | hz
      · exact hP z hz
      · rw [List.mem_singleton.mp hz]; exact hx
  · have e : i = n := by omega
    subst e
    exact .inl ⟨I.stop _ _ g (by rw [lI]; exact Nat.le_refl _),hQ D H' xs hD g hl lx hP⟩
theorem atI_back {ns : List Int} {k : Int} (j : Nat) (h0 : k < 0) (e : k + (ns.length : Int) = (j : Int)) : atI (ns.map V.int) k = some (.int (ns.getD j 0)) := by
  have hj : j < ns.length := by omega
  unfold atI ixN
  rw [List.length_map,if_neg (by omega),if_pos (by omega),show (k + (ns.length : Int)).toNat = j by omega]
  show (ns.map V.int)[j]? = _
  rw [List.getElem?_map,List.getElem?_eq_getElem hj,List.getD_eq_getElem?_getD,List.getElem?_eq_getElem hj]
  rfl
theorem Bd_pow {x : Int} {n : Nat} (h : Rm.Bd n x) : ∀ k : Nat,Rm.Bd (n * k + 1) (x ^ k)
  | 0 => by rw [Int.pow_zero,Nat.mul_zero]; exact Rm.Bd.of (by decide) (by decide)
  | k + 1 => by
    rw [Int.pow_succ]
    exact ((Bd_pow h k).mul h).mono (by rw [Nat.mul_succ]; omega)
noncomputable def byF : List Int := [0,0,0,2,3,5,7,11,101,997]
structure ByF (b : Int) : Prop where
  lo : 0 ≤ b
  hi : b < 1000
  one : Rm.tk b 1 = 1
theorem byF_ok : ∀ k < 10,0 ≤ byF.getD k 0 ∧ byF.getD k 0 < 1000 ∧ Rm.tk (byF.getD k 0) 1 = 1 := by decide
theorem tk_num {b : Int} (hb : 0 ≤ b) (x : Int) : IsNum b (Rm.tk b x) := by
  by_cases h : b = 0
  · exact .inl h
  · exact .inr (Pm.tk_range (by omega))
theorem tk_bdF {b x : Int} {n : Nat} (hb : ByF b) (hn : 10 ≤ n) (h : Rm.Bd n x) : Rm.Bd n (Rm.tk b x) :=
  Rm.tk_bd hb.lo ((Rm.Bd.of (n := 10) (by have := hb.lo; omega) (by have := hb.hi; omega)).mono hn) h
noncomputable def uS (s : Nat) : Nat := 31 + 12 * s
noncomputable def vS : Nat → Nat
  | 0 => 31
  | s + 1 => uS s + vS s + 12
structure RwS (b : Int) (s : Nat) (r : Rw) : Prop where
  by_ : r.b = b
  len : r.rule.length = r.starts.length
  short : r.rule.length ≤ 12
  ruleNum : ∀ x ∈ r.rule,IsNum b x
  startsNum : ∀ x ∈ r.starts,IsNum b x
  ruleBd : ∀ x ∈ r.rule,Rm.Bd (uS s) x
  startsBd : ∀ x ∈ r.starts,Rm.Bd (vS s) x
theorem vS_le : ∀ s,vS s ≤ vS (s + 1) := fun s => by rw [vS]; omega
theorem RwS.up {b : Int} {s : Nat} {r : Rw} (h : RwS b s r) : RwS b (s + 1) r :=
  ⟨h.by_,h.len,h.short,h.ruleNum,h.startsNum,fun x hx => (h.ruleBd x hx).mono (by unfold uS; omega),fun x hx => (h.startsBd x hx).mono (vS_le s)⟩
theorem vS_3 : ∀ s,s ≤ 3 → vS s ≤ 200 ∧ uS s ≤ 67
  | 0,_ => by decide
  | 1,_ => by decide
  | 2,_ => by decide
  | 3,_ => by decide
theorem RwS.ok {b : Int} {s : Nat} {r : Rw} (hb : ByF b) (h : RwS b s r) (hs : s ≤ 3) : RwOk r := by
  have e := h.by_
  have := vS_3 s hs
  exact ⟨h.len,h.short,by rw [e]; exact hb.lo,by rw [e]; exact hb.hi,by rw [e]; exact h.ruleNum,by rw [e]; exact h.startsNum,fun x hx => (h.ruleBd x hx).mono (by omega),fun x hx => (h.startsBd x hx).mono (by omega)⟩
structure RwF (r : Rw) : Prop where
  ok : RwOk r
  one : Rm.tk r.b 1 = 1
  bd : ∀ x ∈ r.rule,Rm.Bd 67 x
theorem RwS.far {b : Int} {s : Nat} {r : Rw} (hb : ByF b) (h : RwS b s r) (hs : s ≤ 3) : RwF r := ⟨h.ok hb hs,by rw [h.by_]; exact hb.one,fun x hx => (h.ruleBd x hx).mono (vS_3 s hs).2⟩
theorem RwF.byF {r : Rw} (h : RwF r) : ByF r.b := ⟨h.ok.by0,h.ok.by1,h.one⟩
theorem RwF.rest_bd {r : Rw} (h : RwF r) {m : Nat} (hm : r.b = 0 → m ≤ 1100) : ∀ x ∈ Pm.rest r.b r.rule m,Rm.Bd 100000 x := fun x hx => by
  obtain ⟨j,_,rfl⟩ := Pm.mem_ofF hx
  refine (Pm.ej_bd h.one h.ok.by0 h.ok.by1 (a := 67) (by decide) h.bd j m hm).mono ?_
  have := h.ok.short
  have : 1100 * (67 + r.rule.length) ≤ 1100 * 79 := Nat.mul_le_mul_left _ (by omega)
  omega
theorem RwF.gr {r : Rw} (h : RwF r) : Pm.Gr r.b r.rule r.at := Pm.at_rec h.ok.len
theorem RwF.at_tk {r : Rw} (h : RwF r) (n : Nat) : Rm.tk r.b (r.at n) = r.at n := by
  by_cases c : n < r.starts.length
  · have e : r.at n = r.starts.getD n 0 := Rm.at_lt c
    rw [e]
    exact numTk (h.ok.startsNum _ (Pm.co_mem c))
  · have e : r.at n = Rm.tk r.b (Rm.S r.rule r.at n r.rule.length) := Rm.at_ge h.ok.len (by omega)
    rw [e,Rm.tk_tk]
noncomputable def longW (n : Int) (rule : List Int) (i k : Nat) : Int := (if k = 0 then n else if k ≤ i then -(n * Pm.co rule (k - 1)) else 0) + (if k < i then Pm.co rule k else 0)
noncomputable def longL (n : Int) (rule : List Int) (i : Nat) : List Int := Pm.ofF (rule.length + 1) fun k => longW n rule i k
theorem longL_len (n : Int) (rule : List Int) (i : Nat) : (longL n rule i).length = rule.length + 1 := Pm.ofF_len ..
theorem longL_co {n : Int} {rule : List Int} {i k : Nat} (h : k < rule.length + 1) : Pm.co (longL n rule i) k = longW n rule i k := by rw [longL,Pm.co_ofF,if_pos h]
theorem longL_zero (n : Int) (rule : List Int) : longL n rule 0 = [n] ++ Pm.ofF rule.length fun _ => 0 := by
  refine Pm.co_ext (by rw [longL_len,List.length_append,Pm.ofF_len]; simp; omega) fun k => ?_
  by_cases h : k < rule.length + 1
  · rw [longL_co h,Pm.co_append,Pm.co_ofF]
    unfold longW
    rw [if_neg (Nat.not_lt_zero _),Int.add_zero]
    by_cases c : k = 0
    · rw [if_pos c,if_pos (by simp; omega),c]; rfl
    · rw [if_neg c,if_neg (by omega),if_neg (by simp; omega)]
      split <;> rfl
  · rw [Pm.co_ge (by rw [longL_len]; omega),Pm.co_ge (by rw [List.length_append,Pm.ofF_len]; simp; omega)]
theorem longL_step {n : Int} {rule : List Int} {i : Nat} (hi : i < rule.length) :
    ((longL n rule i).set i (Pm.co (longL n rule i) i + Pm.co rule i)).set (i + 1) (Pm.co ((longL n rule i).set i (Pm.co (longL n rule i) i + Pm.co rule i)) (i + 1) - n * Pm.co rule i) = longL n rule (i + 1) := by
  refine Pm.co_ext (by rw [List.length_set,List.length_set,longL_len,longL_len]) fun k => ?_
  rw [Pm.co_set _ _ _ _ (by rw [List.length_set,longL_len]; omega),Pm.co_set _ _ _ _ (by rw [longL_len]; omega),Pm.co_set _ _ _ _ (by rw [longL_len]; omega)]
  by_cases h : k < rule.length + 1
  · rw [longL_co h,longL_co (by omega),longL_co (by omega),longL_co h,if_neg (by omega : ¬ i + 1 = i)]
    unfold longW
    by_cases c : k = i + 1
    · rw [if_pos c,if_neg (by omega),if_neg (by omega),if_neg (by omega),if_neg (by omega),if_pos (by omega),if_neg (by omega),c,Nat.add_sub_cancel]
      omega
    · rw [if_neg c]
      by_cases d : k = i
      · rw [if_pos d,d,if_neg (Nat.lt_irrefl i),if_pos (by omega : i < i + 1)]
        by_cases z : i = 0
        · rw [if_pos z,if_pos z]; omega
        · rw [if_neg z,if_neg z,if_pos (by omega),if_pos (by omega)]; omega
      · rw [if_neg d]
        by_cases z : k = 0
        · rw [if_pos z,if_pos z]
          by_cases y : k < i
          · rw [if_pos y,if_pos (by omega)]
          · rw [if_neg y,if_neg (by omega)]
        · rw [if_neg z,if_neg z]
          by_cases y : k < i
          · rw [if_pos (by omega : k ≤ i),if_pos y,if_pos (by omega : k ≤ i + 1),if_pos (by omega : k < i + 1)]
          · rw [if_neg (by omega : ¬ k ≤ i),if_neg y,if_neg (by omega : ¬ k ≤ i + 1),if_neg (by omega : ¬ k < i + 1)]
  · rw [if_neg (by omega),if_neg (by omega),Pm.co_ge (by rw [longL_len]; omega),Pm.co_ge (by rw [longL_len]; omega)]
theorem longL_bd {n : Int} {rule : List Int} {u : Nat} (hu : 10 ≤ u) (hn : Rm.Bd 10 n) (h : ∀ x ∈ rule,Rm.Bd u x) (i : Nat) : ∀ x ∈ longL n rule i,Rm.Bd (u + 12) x := fun x hx => by
  obtain ⟨k,_,rfl⟩ := Pm.mem_ofF hx
  unfold longW
  refine (Rm.Bd.add (n := u + 11) ?_ ?_).mono (by omega)
  · split
    · exact hn.mono (by omega)
    · split
      · have := (hn.mul (Pm.Bd_co h (k - 1))).mono (show 10 + u ≤ u + 11 by omega)
        unfold Rm.Bd at this ⊢
        rw [Int.natAbs_neg]; exact this
      · exact Rm.Bd.zero _
  · split
    · exact (Pm.Bd_co h k).mono (by omega)
    · exact Rm.Bd.zero _
theorem RwS.longer {b : Int} {s : Nat} {r : Rw} (hb : ByF b) (h : RwS b s r) (hs : r.rule.length < 12) {n : Int} (hn : Rm.Bd 10 n) :
    RwS b (s + 1) ⟨b,(longL n r.rule r.rule.length).map (Rm.tk b),r.row (r.rule.length + 1)⟩ := by
  have e := h.by_
  have el : ∀ x ∈ r.row (r.rule.length + 1),x = Rm.tk b (Rm.S r.rule r.at r.rule.length r.rule.length) ∨ x ∈ r.starts := fun x hx => by
    have e1 : r.row (r.rule.length + 1) = r.row r.rule.length ++ [r.at r.rule.length] := Rm.row_succ ..
    have e2 : r.row r.rule.length = r.starts := by
      have q : r.row r.rule.length = r.starts.take r.rule.length := Rm.row_starts (by have := h.len; omega)
      rw [q,h.len,List.take_length]
    rw [e1,e2] at hx
    rcases List.mem_append.mp hx with hx | hx
    · exact .inr hx
    · left
      rw [List.mem_singleton.mp hx,← e]
      exact Rm.at_ge h.len (by have := h.len; omega)
  refine ⟨rfl,?_,?_,?_,?_,?_,?_⟩
  · show ((longL n r.rule r.rule.length).map (Rm.tk b)).length = (r.row (r.rule.length + 1)).length
    rw [List.length_map,longL_len,Rw.row_len]
  · show ((longL n r.rule r.rule.length).map (Rm.tk b)).length ≤ 12
    rw [List.length_map,longL_len]; omega
  · intro x hx
    obtain ⟨y,_,rfl⟩ := List.mem_map.mp hx
    exact tk_num hb.lo y
  · intro x hx
    rcases el x hx with rfl | hx
    · exact tk_num hb.lo _
    · exact h.startsNum x hx
  · intro x hx
    obtain ⟨y,hy,rfl⟩ := List.mem_map.mp hx
    exact tk_bdF hb (by unfold uS; omega) ((longL_bd (by unfold uS; omega) hn h.ruleBd _ y hy).mono (by unfold uS; omega))
  · intro x hx
    rcases el x hx with rfl | hx
    · refine tk_bdF hb (by rw [vS]; omega) ((Rm.Bd.S (rule := r.rule) (f := r.at) (n := r.rule.length) (a := uS s) (c := vS s) (fun k => Rm.Bd.getD h.ruleBd k) r.rule.length fun k hk => ?_).mono (by rw [vS]; omega))
      have q : r.at (r.rule.length - 1 - k) = r.starts.getD (r.rule.length - 1 - k) 0 := Rm.at_lt (by have := h.len; omega)
      rw [q]
      exact Rm.Bd.getD h.startsBd _
    · exact (h.startsBd x hx).mono (vS_le s)
noncomputable def timesX (b : Int) (rule xs : List Int) : List Int := Pm.ofF rule.length fun k => Rm.tk b ((if k = 0 then 0 else Pm.co xs (k - 1)) + Pm.co xs (rule.length - 1) * Pm.co rule (rule.length - 1 - k))
theorem timesX_rest {b : Int} (h1 : Rm.tk b 1 = 1) (rule : List Int) (m : Nat) : timesX b rule (Pm.rest b rule m) = Pm.rest b rule (m + 1) := by
  refine Pm.co_ext (by rw [timesX,Pm.ofF_len,Pm.rest_len]) fun k => ?_
  rw [timesX,Pm.co_ofF]
  by_cases h : k < rule.length
  · rw [if_pos h,Pm.co_rest h,Pm.ej_next h1 h,Pm.co_rest (j := rule.length - 1) (by omega)]
    by_cases z : k = 0
    · rw [if_pos z,if_pos z]
    · rw [if_neg z,if_neg z,Pm.co_rest (by omega)]
  · rw [if_neg h,Pm.co_ge (by rw [Pm.rest_len]; omega)]
noncomputable def rollI (b : Int) (rule : List Int) (m n i : Nat) : List Int := Pm.ofF rule.length fun k => Rm.tk b (Pm.sm i fun t => Pm.co (Pm.rest b rule m) t * Pm.co (Pm.rest b rule (n + t)) k)
theorem rollI_end {b : Int} (h1 : Rm.tk b 1 = 1) (rule : List Int) (m n : Nat) : rollI b rule m n rule.length = Pm.rest b rule (n + m) := by
  refine Pm.co_ext (by rw [rollI,Pm.ofF_len,Pm.rest_len]) fun k => ?_
  rw [rollI,Pm.co_ofF]
  by_cases h : k < rule.length
  · rw [if_pos h,Pm.rest_add h1 m n h]
  · rw [if_neg h,Pm.co_ge (by rw [Pm.rest_len]; omega)]
theorem rollI_zero (b : Int) (rule : List Int) (m n : Nat) : rollI b rule m n 0 = Pm.ofF rule.length fun _ => 0 := by
  unfold rollI
  congr 1
  funext k
  exact Pm.tk0 b
theorem rollI_step (b : Int) (rule : List Int) (m n i : Nat) : rollI b rule m n (i + 1) = Pm.ofF rule.length fun k => Rm.tk b (Pm.co (rollI b rule m n i) k + Pm.co (Pm.rest b rule m) i * Pm.co (Pm.rest b rule (n + i)) k) := by
  refine Pm.co_ext (by rw [rollI,Pm.ofF_len,Pm.ofF_len]) fun k => ?_
  rw [rollI,Pm.co_ofF,Pm.co_ofF]
  by_cases h : k < rule.length
  · rw [if_pos h,if_pos h,rollI,Pm.co_ofF,if_pos h,Rm.tk_add_l]; rfl
  · rw [if_neg h,if_neg h]
theorem rest_one (b : Int) (rule : List Int) (h : 0 < rule.length) : Pm.rest b rule 0 = [1] ++ Pm.ofF (rule.length - 1) fun _ => 0 := by
  rw [Pm.rest_zero]
  refine Pm.co_ext (by rw [List.length_append,Pm.ofF_len,Pm.ofF_len]; show _ = 1 + (rule.length - 1); omega) fun k => ?_
  rw [Pm.co_ofF,Pm.co_append,Pm.co_ofF]
  by_cases c : k = 0
  · rw [c,if_pos h,if_pos rfl,if_pos (by simp)]; rfl
  · rw [if_neg (show ¬ k < [(1 : Int)].length by show ¬ k < 1; omega),if_neg c]
    split <;> split <;> rfl
theorem rest_nil {b : Int} {rule : List Int} (h : rule.length = 0) (m : Nat) : Pm.rest b rule m = [] := List.eq_nil_of_length_eq_zero (by rw [Pm.rest_len,h])
inductive SpTaken_  (vs : List V) (H : Hp) (Q : VK) (E : XK) : Prop | mk (b n : Int) (z_0 : vs = [.int b,.int n]) (z_1 : 0 ≤ b) (z_2 : Q (.int (Rm.tk b n)) H)
noncomputable def spTaken : Sp := fun vs H Q E => SpTaken_  vs H Q E
inductive SpTrim_  (K : PySem.W.Frag) (vs : List V) (H : Hp) (Q : VK) (E : XK) : Prop | mk (l : Addr) (xs : List Int) (z_0 : vs = [.ref l]) (z_1 : SqL K H l (xs.map V.int)) (z_2 : ToldT H Q (Pm.trim xs))
noncomputable def spTrim  (K : PySem.W.Frag) : Sp := fun vs H Q E => SpTrim_ K vs H Q E
inductive SpNumAt_  (vs : List V) (H : Hp) (Q : VK) (E : XK) : Prop | mk (a : Addr) (p : List Int) (k : Int) (z_0 : vs = [.ref a,.int k]) (z_1 : H a = some (.tup (p.map V.int))) (z_2 : 0 ≤ k) (z_3 : Q (.int (Pm.co p k.toNat)) H)
noncomputable def spNumAt : Sp := fun vs H Q E => SpNumAt_  vs H Q E
inductive SpTimes_  (vs : List V) (H : Hp) (Q : VK) (E : XK) : Prop | mk (b : Int) (a c : Addr) (p r : List Int) (z_0 : vs = [.int b,.ref a,.ref c]) (z_1 : 0 ≤ b) (z_2 : H a = some (.tup (p.map V.int))) (z_3 : H c = some (.tup (r.map V.int))) (z_4 : p.length ≤ 400) (z_5 : r.length ≤ 400) (z_6 : (∀ x ∈ p,Rm.Bd 1000000 x)) (z_7 : (∀ x ∈ r,Rm.Bd 1000000 x)) (z_8 : ToldT H Q (Pm.mul b p r))
noncomputable def spTimes : Sp := fun vs H Q E => SpTimes_  vs H Q E
noncomputable def ToldD (H : Hp) (Q : VK) (b : Int) (P M : List Int) : Prop := ∀ t x y q r H',Same H H' → H' t = some (.tup [.ref x,.ref y]) → H' x = some (.tup (List.map V.int q)) → H' y = some (.tup (List.map V.int r)) → Pm.Div b P M q r →
  (∀ z ∈ q,Rm.Bd 500000 z) → (∀ z ∈ r,Rm.Bd 500000 z) → q.length ≤ P.length → Q (.ref t) H'
inductive SpDivided_  (vs : List V) (H : Hp) (Q : VK) (E : XK) : Prop | mk (b : Int) (a c : Addr) (P M : List Int) (z_0 : vs = [.int b,.ref a,.ref c]) (z_1 : 0 ≤ b) (z_2 : b < 1000) (z_3 : H a = some (.tup (P.map V.int))) (z_4 : H c = some (.tup (M.map V.int))) (z_5 : P.length ≤ 100) (z_6 : M.length ≤ 100) (z_7 : Pm.Mon M) (z_8 : (∀ k,Rm.tk b (Pm.co P k) = Pm.co P k)) (z_9 : (∀ x ∈ P,Rm.Bd 300000 x)) (z_10 : (∀ x ∈ M,Rm.Bd 1000 x)) (z_11 : ToldD H Q b P M)
noncomputable def spDivided : Sp := fun vs H Q E => SpDivided_  vs H Q E
theorem bd_trim {L : List Int} {u : Nat} (h : ∀ k,Rm.Bd u (Pm.co L k)) : ∀ x ∈ Pm.trim L,Rm.Bd u x := fun x hx => by
  obtain ⟨k,hk,e⟩ := List.mem_iff_getElem.mp hx
  rw [← e,← Pm.co_lt hk,Pm.co_trim]; exact h k
theorem max_zero (m n : Nat) : (if (m : Int) - ((n : Int) - 1) > 0 then (m : Int) - ((n : Int) - 1) else 0).toNat = m - (n - 1) ∨ n = 0 := by
  by_cases h : n = 0
  · exact .inr h
  · left; split <;> omega
inductive SpOfRule_  (vs : List V) (H : Hp) (Q : VK) (E : XK) : Prop | mk (b : Int) (a : Addr) (c : List Int) (z_0 : vs = [.int b,.ref a]) (z_1 : 0 ≤ b) (z_2 : H a = some (.tup (c.map V.int))) (z_3 : c.length ≤ 100) (z_4 : ToldT H Q (Pm.ofRule b c))
noncomputable def spOfRule : Sp := fun vs H Q E => SpOfRule_  vs H Q E
theorem comp_val {J : It} {xs : List V} {ix : List (Option Nat)} {te : TE} {σ : St} {H1 : Hp} {Q : VK} (I : ItS J xs H1) (hz : xs.length ≤ sizeLine) {rest : St} (hst : cst ix σ = none :: rest) (F : V → V)
    (he : ∀ (H' : Hp) (x : V),Same H1 H' → x ∈ xs → ∀ k : VK,(∀ H2,Same H' H2 → k (F x) H2) → te (some x :: rest) H' k)
    (hQ : ∀ D H',H1 D = none → Same H1 H' → H' D = some (.lst (xs.map F)) → Q (.ref D) H') :
    CompK ix (gName 0) tYes te σ Q J H1 := by
  constructor
  intro D hD
  refine ⟨fun i m σ' H' => m = xs.length - i ∧ i ≤ xs.length ∧ (∃ o,σ' = o :: rest) ∧ Same H1 H' ∧ H' D = some (.lst ((xs.take i).map F)),⟨xs.length,by simp,Nat.zero_le _,⟨none,hst⟩,Same.new hD _,by rw [upd_same]; rfl⟩,?_⟩
  rintro i m σ' H' ⟨rfl,hi,⟨o,rfl⟩,g,hl⟩
  by_cases hlt : i < xs.length
  · refine .inr ⟨I.go i _ g hlt,fun x H2 y => ?_⟩
    obtain ⟨rfl,hx⟩ := I.yld i _ x H2 g y
    have hx := hx hlt
    have hm : x ∈ xs := List.mem_of_getElem? hx
    have et : xs.take (i + 1) = xs.take i ++ [x] := by rw [List.take_add_one,hx]; rfl
    change te (some x :: rest) H2 _
    refine he H2 x g hm _ fun H3 g3 => ⟨_,g3 _ _ hl,by rw [List.length_map,List.length_take]; omega,xs.length - (i + 1),by omega,rfl,hlt,⟨_,rfl⟩,Same.upd (g.trans g3) hD _,?_⟩
    rw [upd_same,et,List.map_append]; rfl
  · have e : i = xs.length := by omega
    subst e
    rw [List.take_length] at hl
    exact .inl ⟨I.stop _ _ g (Nat.le_refl _),hQ D H' hD g hl⟩
theorem comp_rngV {n : Nat} {ix : List (Option Nat)} {te : TE} {σ : St} {H1 : Hp} {Q : VK} (hz : n ≤ 1000) {rest : St} (hst : cst ix σ = none :: rest) (f : Nat → Int)
    (he : ∀ H' k,Same H1 H' → k < n → ∀ kk : VK,(∀ H2,Same H' H2 → kk (.int (f k)) H2) → te (some (.int (0 + (k : Int))) :: rest) H' kk)
    (hQ : ∀ D H',H1 D = none → Same H1 H' → H' D = some (.lst ((Pm.ofF n f).map V.int)) → Q (.ref D) H') : CompK ix (gName 0) tYes te σ Q (Itr 0 n) H1 := by
  refine comp_val its_range (by rw [List.length_map,List.length_range]; exact Nat.le_of_lt (small1000 hz)) hst (fun x => match x with | .int k => .int (f k.toNat) | _ => .non) ?_ ?_
  · intro H2 x g2 hx k hk
    obtain ⟨j,hj,rfl⟩ := List.mem_map.mp hx
    have e1 : (0 + (j : Int)).toNat = j := by omega
    refine he H2 j g2 (List.mem_range.mp hj) k fun H3 g3 => ?_
    have hk' : k (V.int (f (0 + (j : Int)).toNat)) H3 := hk H3 g3
    rwa [e1] at hk'
  · intro D H' hD g hl
    refine hQ D H' hD g ?_
    rw [hl,Pm.ofF,List.map_map,List.map_map]
    refine congrArg (fun z => some (HO.lst z)) (List.map_congr_left fun k _ => ?_)
    show V.int (f (0 + (k : Int)).toNat) = V.int (f k)
    rw [show (0 + (k : Int)).toNat = k by omega]
theorem eqv_row (b b' : Int) (p s p' s' : List Int) : PyData.eqv (.tuple [.int b,.tuple (p.map .int),.tuple (s.map .int)]) (.tuple [.int b',.tuple (p'.map .int),.tuple (s'.map .int)]) = decide (b = b' ∧ p = p' ∧ s = s') := by
  have e1 := eqv_tup p p'
  have e2 := eqv_tup s s'
  rw [PyData.eqv] at e1 e2
  simp only [PyData.eqvAll,PyData.eqv,e1,e2,Bool.and_true,Bool.decide_and]
  rfl
theorem shaped_row (b : Int) (p r : List Int) : SeqAt.shaped (.tuple [.int b,.tuple (p.map .int),.tuple (r.map .int)]) = true := by
  have h1 := canLay_ints p
  have h2 := canLay_ints r
  have h3 := depth_ints p
  have h4 := depth_ints r
  simp only [SeqAt.shaped,PyData.canLay0,PyData.canLayAll0,PyData.depth,PyData.depthAll,h1,h2,Bool.true_and,Bool.and_true]
  exact decide_eq_true (by omega)
theorem eqRR {K : PySem.W.Frag} {g : Bool → Bool} {H : Hp} {v v' : V} {r r' : Rw} {Q : VK} (h : RowIs H v r) (h' : RowIs H v' r') (q : Q (.bl (g (decide (r.b = r'.b ∧ r.rule = r'.rule ∧ r.starts = r'.starts)))) H) : rEqV K g v v' H Q := by
  obtain ⟨a,x,y,rfl,ha,hx,hy⟩ := h
  obtain ⟨c,x',y',rfl,hc,hx',hy'⟩ := h'
  exact .inl ⟨_,_,.tup (SqT.of ha) (.cons (.int _) (.cons (.tup (SqT.of hx) (RdDs.ints _)) (.cons (.tup (SqT.of hy) (RdDs.ints _)) .nil))),.tup (SqT.of hc) (.cons (.int _) (.cons (.tup (SqT.of hx') (RdDs.ints _)) (.cons (.tup (SqT.of hy') (RdDs.ints _)) .nil))),
    shaped_row ..,shaped_row ..,by rw [eqv_row]; exact q⟩
inductive SpNext_  (K : PySem.W.Frag) (vs : List V) (H : Hp) (Q : VK) (E : XK) : Prop | mk (b : Int) (r s : Addr) (rule before : List Int) (z_0 : vs = [.int b,.ref r,.ref s]) (z_1 : 0 ≤ b) (z_2 : SqT K H r (rule.map V.int)) (z_3 : SqL K H s (before.map V.int)) (z_4 : rule.length ≤ before.length) (z_5 : rule.length ≤ 12) (z_6 : before.length ≤ 1000) (z_7 : (∀ x ∈ rule,Rm.Bd 200 x)) (z_8 : (∀ x ∈ before,Rm.Bd 300000 x)) (z_9 : Q (.int (Rm.tk b (Rm.S rule (fun i => before.getD i 0) before.length rule.length))) H)
noncomputable def spNext  (K : PySem.W.Frag) : Sp := fun vs H Q E => SpNext_ K vs H Q E
inductive SpFirst_  (K : PySem.W.Frag) (vs : List V) (H : Hp) (Q : VK) (E : XK) : Prop | mk (v : V) (r : Rw) (c : Int) (z_0 : vs = [v,.int c]) (z_1 : RowIs H v r) (z_2 : RwOk r) (z_3 : 0 ≤ c) (z_4 : c ≤ 900) (z_5 : Told H Q ((r.row c.toNat).map V.int))
noncomputable def spFirst  (K : PySem.W.Frag) : Sp := fun vs H Q E => SpFirst_ K vs H Q E
noncomputable def FarBad (b n : Int) : Prop := n < 0 ∨ (b = 0 ∧ 400 < n)
theorem FarBad.not {b n : Int} (h : ¬ FarBad b n) : 0 ≤ n ∧ (b = 0 → n ≤ 400) := by
  unfold FarBad at h
  refine ⟨?_,fun z => ?_⟩ <;> omega
inductive SpRefJ_  (C : Addr) (vs : List V) (H : Hp) (Q : VK) (E : XK) : Prop | mk (b n : Int) (z_0 : vs = [.int b,.int n]) (z_1 : (¬ FarBad b n → Q .non H)) (z_2 : (FarBad b n → E (.ref C) none H))
noncomputable def spRefJ  (C : Addr) : Sp := fun vs H Q E => SpRefJ_ C vs H Q E
theorem figs_lt {n : Nat} {k : Nat} (h : PySem.Builtin.Int.intBits (n : Int) ≤ k) : n / 2 ^ k = 0 := by
  have : (n : Int).natAbs < 2 ^ k := intBits_le_iff.mp h
  exact Nat.div_eq_of_lt (by omega)
theorem figs_step (n k : Nat) : n / 2 ^ k = 2 * (n / 2 ^ (k + 1)) + n / 2 ^ k % 2 := by
  rw [Nat.pow_succ,← Nat.div_div_eq_div_mul]
  omega
theorem figs_le {n k : Nat} : n / 2 ^ k ≤ n := Nat.div_le_self ..
inductive SpPower_  (vs : List V) (H : Hp) (Q : VK) (E : XK) : Prop | mk (b : Int) (a : Addr) (rule : List Int) (n : Nat) (z_0 : vs = [.int b,.ref a,.int n]) (z_1 : ByF b) (z_2 : H a = some (.tup ((Pm.ofRule b rule).map V.int))) (z_3 : rule.length ≤ 12) (z_4 : (∀ x ∈ rule,Rm.Bd 67 x)) (z_5 : (b = 0 → n ≤ 400)) (z_6 : Rm.Bd 400 (n : Int)) (z_7 : ∀ p H' l,Same H H' → H' p = some (.tup (List.map V.int l)) → Pm.Pw b rule n l → Pm.Py b l → l.length ≤ rule.length → Q (.ref p) H')
noncomputable def spPower : Sp := fun vs H Q E => SpPower_  vs H Q E
theorem pw_bd {b : Int} (hb : ByF b) {rule l : List Int} (hr : rule.length ≤ 12) (hR : ∀ x ∈ rule,Rm.Bd 67 x) {m : Nat} (hm : b = 0 → m ≤ 400) (h : Pm.Pw b rule m l) (hy : Pm.Py b l) (hl : l.length ≤ rule.length) : ∀ x ∈ l,Rm.Bd 100000 x := fun x hx => by
  obtain ⟨k,hk,e⟩ := List.mem_iff_getElem.mp hx
  rw [← e,← Pm.co_lt hk,h.co hb.one hy hl (by omega)]
  refine (Pm.ej_bd hb.one hb.lo hb.hi (a := 67) (by decide) hR k m (fun z => by have := hm z; omega)).mono ?_
  have : 1100 * (67 + rule.length) ≤ 1100 * 79 := Nat.mul_le_mul_left _ (by omega)
  omega
theorem mul_lenF (b : Int) (p q : List Int) : (Pm.mul b p q).length ≤ p.length + q.length := by
  refine Nat.le_trans (Pm.trim_len_le _) ?_
  rw [Pm.ofF_len]
  exact Nat.le_refl _
theorem one_tk {b : Int} (hb : ByF b) (k : Nat) : Rm.tk b (Pm.co [1] k) = Pm.co [1] k := by
  cases k with
  | zero => rw [Pm.co_zero]; exact hb.one
  | succ k => rw [Pm.co_succ,Pm.co_nil]; exact Pm.tk0 b
inductive SpJump_  (C : Addr) (vs : List V) (H : Hp) (Q : VK) (E : XK) : Prop | mk (v : V) (r : Rw) (n : Int) (z_0 : vs = [v,.int n]) (z_1 : RowIs H v r) (z_2 : RwF r) (z_3 : (¬ FarBad r.b n → Rm.Bd 400 n ∧ ToldT H Q (Pm.rest r.b r.rule n.toNat))) (z_4 : (FarBad r.b n → E (.ref C) none H))
noncomputable def spJump  (C : Addr) : Sp := fun vs H Q E => SpJump_ C vs H Q E
inductive SpSumAt_  (vs : List V) (H : Hp) (Q : VK) (E : XK) : Prop | mk (b : Int) (a l : Addr) (p f : List Int) (n : Nat) (z_0 : vs = [.int b,.ref a,.ref l,.int (0 + (n : Int))]) (z_1 : 0 ≤ b) (z_2 : H a = some (.tup (p.map V.int))) (z_3 : (H l = some (.lst (f.map V.int)) ∨ H l = some (.tup (f.map V.int)))) (z_4 : n + p.length ≤ f.length) (z_5 : p.length ≤ 1000) (z_6 : (∀ x ∈ p,Rm.Bd 1000000 x)) (z_7 : (∀ x ∈ f,Rm.Bd 300000 x)) (z_8 : ∀ H',Same H H' → Q (.int (Rm.tk b (Pm.ks p (Pm.co f) n))) H')
noncomputable def spSumAt : Sp := fun vs H Q E => SpSumAt_  vs H Q E
theorem RwF.sum_at {r : Rw} (h : RwF r) (n m N : Nat) (hN : m + r.rule.length ≤ N) : Rm.tk r.b (Pm.ks (Pm.rest r.b r.rule n) (Pm.co (r.row N)) m) = r.at (m + n) := by
  rw [← h.at_tk,← Pm.jump_rest h.one h.gr n m]
  unfold Pm.ks
  rw [Pm.rest_len]
  refine congrArg (Rm.tk r.b) (Pm.sm_congr fun k hk => ?_)
  have e2 : Pm.co (r.row N) (m + k) = r.at (m + k) := Rm.row_get _ _ _ (by omega)
  rw [e2]
theorem RwF.row_starts {r : Rw} (h : RwF r) : r.row r.rule.length = r.starts := by
  have q : r.row r.rule.length = r.starts.take r.rule.length := Rm.row_starts (by have := h.ok.len; omega)
  rw [q,h.ok.len,List.take_length]
inductive SpPlaceAt_  (C : Addr) (vs : List V) (H : Hp) (Q : VK) (E : XK) : Prop | mk (v : V) (r : Rw) (n : Int) (z_0 : vs = [v,.int n]) (z_1 : RowIs H v r) (z_2 : RwF r) (z_3 : (¬ FarBad r.b n → Rm.Bd 400 n ∧ ∀ H',Same H H' → Q (.int (r.at n.toNat)) H')) (z_4 : (FarBad r.b n → E (.ref C) none H))
noncomputable def spPlaceAt  (C : Addr) : Sp := fun vs H Q E => SpPlaceAt_ C vs H Q E
noncomputable def Rw.on (r : Rw) (n : Nat) : Rw := ⟨r.b,r.rule,Pm.ofF r.rule.length fun m => r.at (m + n)⟩
inductive SpOnward_  (C : Addr) (vs : List V) (H : Hp) (Q : VK) (E : XK) : Prop | mk (v : V) (r : Rw) (n : Int) (z_0 : vs = [v,.int n]) (z_1 : RowIs H v r) (z_2 : RwF r) (z_3 : (¬ FarBad r.b n → Rm.Bd 400 n ∧ ∀ v' H',Same H H' → RowIs H' v' (r.on n.toNat) → Q v' H')) (z_4 : (FarBad r.b n → E (.ref C) none H))
noncomputable def spOnward  (C : Addr) : Sp := fun vs H Q E => SpOnward_ C vs H Q E
inductive SpCellF_  (K : PySem.W.Frag) (vs : List V) (H : Hp) (Q : VK) (E : XK) : Prop | mk (a : Addr) (ns : List Int) (k : Int) (z_0 : vs = [.ref a,.int k]) (z_1 : SqL K H a (ns.map V.int)) (z_2 : 0 ≤ k) (z_3 : k ≤ 1000) (z_4 : (∀ x ∈ ns,PySem.Builtin.Int.intBits x ≤ 1048576)) (z_5 : ∀ c,Rm.Bd 1048576 c → Q (.int c) H)
noncomputable def spCellF  (K : PySem.W.Frag) : Sp := fun vs H Q E => SpCellF_ K vs H Q E
inductive SpMixF_  (vs : List V) (H : Hp) (Q : VK) (E : XK) : Prop | mk (c k : Int) (z_0 : vs = [.int c,.int k]) (z_1 : 0 ≤ k) (z_2 : k ≤ 1000) (z_3 : ∀ x,0 ≤ x → x < 2147483587 → Q (.int x) H)
noncomputable def spMixF : Sp := fun vs H Q E => SpMixF_  vs H Q E
inductive SpByF_  (vs : List V) (H : Hp) (Q : VK) (E : XK) : Prop | mk (c : Int) (z_0 : vs = [.int c]) (z_1 : ∀ b H',Same H H' → ByF b → Q (.int b) H')
noncomputable def spByF : Sp := fun vs H Q E => SpByF_  vs H Q E
noncomputable def smallF : List Int := [0,1,-1,2,1,-2,3,0,1,5]
theorem smallF_ok : ∀ k < 10,-10 < smallF.getD k 0 ∧ smallF.getD k 0 < 10 := by decide
inductive SpOneF_  (vs : List V) (H : Hp) (Q : VK) (E : XK) : Prop | mk (b c k : Int) (z_0 : vs = [.int b,.int c,.int k]) (z_1 : ByF b) (z_2 : Rm.Bd 1048576 c) (z_3 : 0 ≤ k) (z_4 : k ≤ 30) (z_5 : ∀ x H',Same H H' → IsNum b x → Rm.Bd 31 x → Q (.int x) H')
noncomputable def spOneF : Sp := fun vs H Q E => SpOneF_  vs H Q E
structure RwW (r : Rw) (c : Nat) : Prop where
  len : r.rule.length = r.starts.length
  short : r.rule.length ≤ 12
  by0 : 0 ≤ r.b
  ruleBd : ∀ x ∈ r.rule,Rm.Bd 200 x
  rowBd : ∀ n,n ≤ c → ∀ x ∈ r.row n,Rm.Bd 300000 x
theorem RwOk.w {r : Rw} (h : RwOk r) {c : Nat} (hc : c ≤ 1000) : RwW r c := ⟨h.len,h.short,h.by0,h.ruleBd,fun n hn => h.rowBd n (by omega)⟩
inductive SpPlacesF_  (vs : List V) (H : Hp) (Q : VK) (E : XK) : Prop | mk (v : V) (r : Rw) (c : Int) (z_0 : vs = [v,.int c]) (z_1 : RowIs H v r) (z_2 : RwW r c.toNat) (z_3 : 0 ≤ c) (z_4 : c ≤ 900) (z_5 : Told H Q ((r.row c.toNat).map V.int))
noncomputable def spPlacesF : Sp := fun vs H Q E => SpPlacesF_  vs H Q E
inductive SpLonger_  (vs : List V) (H : Hp) (Q : VK) (E : XK) : Prop | mk (b : Int) (s : Nat) (v : V) (r : Rw) (n : Int) (z_0 : vs = [v,.int n]) (z_1 : RowIs H v r) (z_2 : ByF b) (z_3 : RwS b s r) (z_4 : s < 3) (z_5 : r.rule.length < 12) (z_6 : Rm.Bd 10 n) (z_7 : ∀ v' r' H',Same H H' → RowIs H' v' r' → RwS b (s + 1) r' → Q v' H')
noncomputable def spLonger : Sp := fun vs H Q E => SpLonger_  vs H Q E
noncomputable def timesL : List Int := [0,0,1,0,2,0,0,3]
theorem timesL_ok : ∀ k < 8,0 ≤ timesL.getD k 0 ∧ timesL.getD k 0 ≤ 3 := by decide
inductive SpDrawn_  (K : PySem.W.Frag) (vs : List V) (H : Hp) (Q : VK) (E : XK) : Prop | mk (a : Addr) (ns : List Int) (st b m : Int) (z_0 : vs = [.ref a,.int st,.int b,.int m]) (z_1 : SqL K H a (ns.map V.int)) (z_2 : 0 ≤ st) (z_3 : st ≤ 500) (z_4 : (∀ x ∈ ns,PySem.Builtin.Int.intBits x ≤ 1048576)) (z_5 : ByF b) (z_6 : 0 ≤ m) (z_7 : m ≤ 12) (z_8 : ∀ v r H',Same H H' → RowIs H' v r → RwF r → r.b = b → Q v H')
noncomputable def spDrawn  (K : PySem.W.Frag) : Sp := fun vs H Q E => SpDrawn_ K vs H Q E
inductive SpTimesX_  (vs : List V) (H : Hp) (Q : VK) (E : XK) : Prop | mk (b : Int) (v : V) (r : Rw) (l : Addr) (xs : List Int) (z_0 : vs = [.int b,v,.ref l]) (z_1 : RowIs H v r) (z_2 : RwF r) (z_3 : H l = some (.lst (xs.map V.int))) (z_4 : xs.length = r.rule.length) (z_5 : (∀ x ∈ xs,Rm.Bd 100000 x)) (z_6 : Told H Q ((timesX r.b r.rule xs).map V.int))
noncomputable def spTimesX : Sp := fun vs H Q E => SpTimesX_  vs H Q E
inductive SpSteps_  (vs : List V) (H : Hp) (Q : VK) (E : XK) : Prop | mk (b : Int) (v : V) (r : Rw) (n : Nat) (z_0 : vs = [.int b,v,.int n]) (z_1 : RowIs H v r) (z_2 : RwF r) (z_3 : n ≤ 100) (z_4 : Told H Q ((Pm.rest r.b r.rule n).map V.int))
noncomputable def spSteps : Sp := fun vs H Q E => SpSteps_  vs H Q E
inductive SpRolled_  (vs : List V) (H : Hp) (Q : VK) (E : XK) : Prop | mk (b : Int) (v : V) (r : Rw) (l1 l2 : Addr) (m n : Nat) (z_0 : vs = [.int b,v,.ref l1,.ref l2]) (z_1 : b = r.b) (z_2 : RowIs H v r) (z_3 : RwF r) (z_4 : H l1 = some (.lst ((Pm.rest r.b r.rule m).map V.int))) (z_5 : H l2 = some (.lst ((Pm.rest r.b r.rule n).map V.int))) (z_6 : (r.b = 0 → m + n ≤ 1024)) (z_7 : Told H Q ((Pm.rest r.b r.rule (n + m)).map V.int))
noncomputable def spRolled : Sp := fun vs H Q E => SpRolled_  vs H Q E
inductive SpRestFar_  (vs : List V) (H : Hp) (Q : VK) (E : XK) : Prop | mk (b : Int) (v : V) (r : Rw) (n : Nat) (z_0 : vs = [.int b,v,.int n]) (z_1 : b = r.b) (z_2 : RowIs H v r) (z_3 : RwF r) (z_4 : (r.b = 0 → n ≤ 400)) (z_5 : Told H Q ((Pm.rest r.b r.rule n).map V.int))
noncomputable def spRestFar : Sp := fun vs H Q E => SpRestFar_  vs H Q E
theorem RowIs.sameT {H H' : Hp} {v : V} {r : Rw} (h : RowIs H v r) (g : SameT H H') : RowIs H' v r := by
  obtain ⟨a,p,q,e,h1,h2,h3⟩ := h
  exact ⟨a,p,q,e,g.tup h1,g.tup h2,g.tup h3⟩
theorem Rw.on_at {r : Rw} (hl : r.rule.length = r.starts.length) (n m : Nat) : (r.on n).at m = r.at (m + n) := by
  have h := Rm.at_window (b := r.b) (rule := r.rule) (starts := r.starts) (w := (r.on n).starts) (d := n) hl (by show (Pm.ofF _ _).length = _; rw [Pm.ofF_len,hl]) (fun i hi => by
    have e : (r.on n).starts.getD i 0 = Pm.co (Pm.ofF r.rule.length fun m => r.at (m + n)) i := rfl
    have hi' : i < r.rule.length := by rw [← Pm.ofF_len r.rule.length fun m => r.at (m + n)]; exact hi
    rw [e,Pm.co_ofF,if_pos hi',Nat.add_comm i n]; rfl) m
  rw [Nat.add_comm m n]
  exact h
theorem Rw.on_row {r : Rw} (hl : r.rule.length = r.starts.length) (n c : Nat) : (r.on n).row c = Pm.ofF c fun m => r.at (m + n) := by
  have e : (r.on n).row c = (List.range c).map (r.on n).at := Rm.row_eq ..
  rw [e]
  exact List.map_congr_left fun m _ => Rw.on_at hl n m
theorem RwF.onW {r : Rw} (h : RwF r) {n c : Nat} (hn : n + c ≤ 1000) : RwW (r.on n) c :=
  ⟨by show _ = (Pm.ofF _ _).length; rw [Pm.ofF_len]; rfl,h.ok.short,h.ok.by0,h.ok.ruleBd,fun m hm x hx => by
    rw [Rw.on_row h.ok.len] at hx
    obtain ⟨k,hk,rfl⟩ := Pm.mem_ofF hx
    exact h.ok.bd _ (by omega)⟩
theorem cut_row (r : Rw) {n s N : Nat} (h : n + s ≤ N) : cutV ((r.row N).map V.int) (some (n : Int)) (some ((n : Int) + (s : Int))) = (Pm.ofF s fun m => r.at (m + n)).map V.int := by
  have lN : ((r.row N).map V.int).length = N := by rw [List.length_map,Rw.row_len]
  unfold cutV
  rw [show (n : Int) + (s : Int) = ((n + s : Nat) : Int) by omega,HT.sIx_nat,HT.sIx_nat,lN,Nat.min_eq_left h,Nat.min_eq_left (show n ≤ N by omega),show n + s - n = s by omega]
  have e : r.row N = (List.range N).map r.at := Rm.row_eq ..
  rw [e]
  apply List.ext_getElem
  · simp [Pm.ofF]; omega
  · intro i h1 h2
    simp [Pm.ofF,Nat.add_comm]
noncomputable def spRefL (C : Addr) : (Hp → VK → XK → Prop) → Hp → VK → XK → Prop := fun sp0 H Q _ => (∀ Q' E',(∀ H2,Same H H2 → E' (.ref C) none H2) → sp0 H Q' E') ∧ ∀ H3,Same H H3 → Q (.bl true) H3
noncomputable abbrev lamQ (x : Str) : Str := (x ++ ".<locals>.") ++ "<lambda>"
inductive SpAllRef_  (T : Addr) (vs : List V) (H : Hp) (Q : VK) (E : XK) : Prop | mk (v : V) (r : Rw) (n : Int) (z_0 : vs = [v,.int n]) (z_1 : RowIs H v r) (z_2 : RwF r) (z_3 : FarBad r.b n) (z_4 : TblOk H T (lamQ "_law_all_refused")) (z_5 : ∀ H',SameT H H' → TblOk H' T (lamQ "_law_all_refused") → Q (.bl true) H')
noncomputable def spAllRef  (T : Addr) : Sp := fun vs H Q E => SpAllRef_ T vs H Q E
inductive SpIsRow_  (vs : List V) (H : Hp) (Q : VK) (E : XK) : Prop | mk (v v' : V) (r : Rw) (z_0 : vs = [v,v']) (z_1 : RowIs H v r) (z_2 : RowIs H v' r) (z_3 : r.starts.length ≤ 12) (z_4 : ∀ H',Same H H' → Q (.bl true) H')
noncomputable def spIsRow : Sp := fun vs H Q E => SpIsRow_  vs H Q E
inductive SpLawT_  (K : PySem.W.Frag) (T : Addr) (vs : List V) (H : Hp) (Q : VK) (E : XK) : Prop | mk (a : Addr) (ns : List Int) (z_0 : vs = [.ref a]) (z_1 : SqL K H a (ns.map V.int)) (z_2 : ns.length ≤ 63) (z_3 : (∀ x ∈ ns,PySem.Builtin.Int.intBits x ≤ 1048576)) (z_4 : (∀ q,TblOk H T q)) (z_5 : ∀ H',Q (.bl true) H')
noncomputable def spLawT  (K : PySem.W.Frag) (T : Addr) : Sp := fun vs H Q E => SpLawT_ K T vs H Q E
section
variable {P : Program} {w : World} {K : PySem.W.Frag} {mg : Str → Option Value} {base : Heap}
variable {A_NoBy A_NoName A_NoNumber A_NoRow A_NoText A_RuleError A_TooBig A_TooFar A_TooLong : Addr}
theorem ok_taken (B : Bt mg) (F : Fn K mg "taken" s_taken ["by","number"]) (M : Ms K mg base A_NoBy A_NoName A_NoNumber A_NoRow A_NoText A_RuleError A_TooBig A_TooFar A_TooLong) : Cal P w K mg base "taken" 1 ["by","number"] spTaken := by
  refine F.cal sc_taken (fun vs H Q E h => ?_) (fun f cdv A outer s H vs Q E hr h => ?_)
  · obtain ⟨b,n,rfl,_⟩ := h; rfl
  · obtain ⟨b,n,rfl,h0,q⟩ := h
    refine ⟨_,(pss_cons (ps_if (pt_cmpR (xeq K hr) (pv 0) pe_int (nomark _))
      (pss_one (ps_ret (pv 1)))
      pss_nil)
      (pss_one (ps_ret (pe_op op_mod (pv 1) (pv 0))))),?_⟩
    refine ⟨_,rfl,_,rfl,?_⟩
    refine ite2 (fun c => ?_) (fun c => ?_)
    · refine ⟨_,rfl,?_⟩
      have c' : b = 0 := dec_true c
      have e : Rm.tk b n = n := by rw [c',Rm.tk_zero]
      rw [e] at q; exact q
    · have c' : ¬ b = 0 := dec_false c
      refine ⟨_,rfl,_,rfl,_,_,rfl,rfl,(by omega : (0 : Int) < b),?_⟩
      rw [Rm.tk_pos c'] at q; exact q
theorem ok_trimmed (B : Bt mg) (F : Fn K mg "trimmed" s_trimmed ["numbers"]) (M : Ms K mg base A_NoBy A_NoName A_NoNumber A_NoRow A_NoText A_RuleError A_TooBig A_TooFar A_TooLong) : Cal P w K mg base "trimmed" 1 ["numbers"] (spTrim K) := by
  refine F.cal sc_trimmed (fun vs H Q E h => ?_) (fun f cdv A outer s H vs Q E hr h => ?_)
  · obtain ⟨l,xs,rfl,_⟩ := h; rfl
  · obtain ⟨l,xs,rfl,hL,q⟩ := h
    refine ⟨_,(pss_cons (ps_set (i := 1) sc_trimmed.nd rfl (Or.inl rfl) (pe_callB (xlen K) rfl B.b_len boot_len (pa_n (pv 0) pa_nil)))
      (pss_cons (ps_while PassesOwn.never (PW.pt (pw_and (pt_cmpR op_gt (pv 1) pe_int (nomark _)) (pw_and1 (pt_cmpR (xeq K hr) (pe_ix (xix K) (pv 0) (pe_op op_sub (pv 1) pe_int) (fun _ _ => rfl)) pe_int (nomark _)))))
      (pss_one (ps_set (i := 1) sc_trimmed.nd rfl (Or.inl rfl) (pe_op op_sub (pv 1) pe_int))))
      (pss_one (ps_ret (pe_callTy (xtuple K) rfl B.b_tuple boot_tuple (pa_cons (pe_slice (xsl K) (pv 0) po_none (po_some (pv 1))) pa_nil)))))),?_⟩
    have lL : (xs.map V.int).length = xs.length := List.length_map _
    refine ⟨_,rfl,.ref l,xs.length,rfl,.inl ⟨_,hL,lL.symm⟩,?_⟩
    refine ⟨fun m σ' H' => ∃ n : Nat,m = n ∧ n ≤ xs.length ∧ σ' = [some (.ref l),some (.int (n : Int))] ∧ H' = H ∧ Pm.trim (xs.take n) = Pm.trim xs,⟨_,xs.length,rfl,Nat.le_refl _,rfl,rfl,by rw [List.take_length]⟩,?_⟩
    rintro m σ' H' ⟨n,e0,hn,rfl,rfl,ht⟩
    refine ⟨_,rfl,_,_,rfl,rfl,_,rfl,?_⟩
    refine ite2 (fun c => ?_) (fun c => iteF ?_)
    · have h0 : 0 < n := by have := dec_true c; omega
      have e1 : ((n : Int) - 1).toNat = n - 1 := by omega
      refine ⟨_,rfl,_,rfl,_,_,rfl,rfl,_,_,.inl hL,atI_ints (ns := xs) (by omega : (0 : Int) ≤ (n : Int) - 1) (by omega),_,rfl,?_⟩
      refine ite2 (fun c2 => ?_) (fun c2 => ?_)
      · have hz := dec_true c2
        rw [e1] at hz
        refine ⟨_,fun _ _ z => z,?_⟩
        refine ⟨_,rfl,_,_,rfl,rfl,?_⟩
        refine ⟨n - 1,by omega,n - 1,rfl,by omega,?_,rfl,trim_down h0 hn ht hz⟩
        rw [show ((n - 1 : Nat) : Int) = (n : Int) - 1 by omega]
        rfl
      · have hz := dec_false c2
        rw [e1] at hz
        refine ⟨_,rfl,_,rfl,_,rfl,.inl ⟨_,hL,fun p hp => ?_⟩⟩
        refine ⟨p,_,rfl,.inl ⟨SqL.of upd_same,fun p2 hp2 => ?_⟩⟩
        refine q p2 _ ((Same.new hp _).trans (Same.new hp2 _)) ?_
        rw [upd_same,cut_to,← List.map_take,trim_stop hn ht (.inr hz)]
    · have h0 : n = 0 := by have := dec_false c; omega
      refine ⟨_,rfl,_,rfl,_,rfl,.inl ⟨_,hL,fun p hp => ?_⟩⟩
      refine ⟨p,_,rfl,.inl ⟨SqL.of upd_same,fun p2 hp2 => ?_⟩⟩
      refine q p2 _ ((Same.new hp _).trans (Same.new hp2 _)) ?_
      rw [upd_same,cut_to,← List.map_take,trim_stop hn ht (.inl h0)]
theorem ok_number_at (B : Bt mg) (F : Fn K mg "number_at" s_number_at ["poly","k"]) (M : Ms K mg base A_NoBy A_NoName A_NoNumber A_NoRow A_NoText A_RuleError A_TooBig A_TooFar A_TooLong) : Cal P w K mg base "number_at" 1 ["poly","k"] spNumAt := by
  refine F.cal sc_number_at (fun vs H Q E h => ?_) (fun f cdv A outer s H vs Q E hr h => ?_)
  · obtain ⟨a,p,k,rfl,_⟩ := h; rfl
  · obtain ⟨a,p,k,rfl,hA,h0,q⟩ := h
    refine ⟨_,(pss_one (ps_ret (pe_ifExp (pt_cmpR op_lt (pv 1) (pe_callB (xlen K) rfl B.b_len boot_len (pa_n (pv 0) pa_nil)) (nomark _)) (pe_ix (xix K) (pv 0) (pv 1) (fun _ _ => rfl)) pe_int))),?_⟩
    have lP : (p.map V.int).length = p.length := List.length_map _
    refine ⟨_,rfl,_,rfl,.ref a,p.length,rfl,.inr ⟨_,SqT.of hA,lP.symm⟩,_,_,rfl,rfl,_,rfl,?_⟩
    refine ite2 (fun c => ?_) (fun c => ?_)
    · exact ⟨_,rfl,_,rfl,_,_,.inr (SqT.of hA),atI_ints (ns := p) h0 (dec_true c),q⟩
    · have c' := dec_false c
      have e : Pm.co p k.toNat = 0 := Pm.co_ge (by omega)
      rw [e] at q
      exact q
theorem ok_times (B : Bt mg) (F : Fn K mg "times" s_times ["by","one","other"]) (M : Ms K mg base A_NoBy A_NoName A_NoNumber A_NoRow A_NoText A_RuleError A_TooBig A_TooFar A_TooLong) (C_taken : Cal P w K mg base "taken" 1 ["by","number"] spTaken) (C_trimmed : Cal P w K mg base "trimmed" 1 ["numbers"] (spTrim K)) : Cal P w K mg base "times" 2 ["by","one","other"] spTimes := by
  refine F.cal sc_times (fun vs H Q E h => ?_) (fun f cdv A outer s H vs Q E hr h => ?_)
  · obtain ⟨b,a,c,p,r,rfl,_⟩ := h; rfl
  · obtain ⟨b,a,c,p,r,rfl,hb,hA,hC,zA,zC,bA,bC,q⟩ := h
    refine ⟨_,(pss_cons (ps_set (i := 3) sc_times.nd rfl (Or.inl rfl) (pe_op v_mul (pe_lst (pa_k pe_int pa_nil)) (pe_op (xadd K) (pe_callB (xlen K) rfl B.b_len boot_len (pa_n (pv 1) pa_nil)) (pe_callB (xlen K) rfl B.b_len boot_len (pa_n (pv 2) pa_nil)))))
      (pss_cons (ps_for PassesOwn.never rfl (pi_range1 rfl B.b_range (pa_cons (pe_callB (xlen K) rfl B.b_len boot_len (pa_n (pv 1) pa_nil)) pa_nil)) (pg_name (i := 4) sc_times.nd rfl (Or.inl rfl))
      (pss_one (ps_for PassesOwn.never rfl (pi_range1 rfl B.b_range (pa_cons (pe_callB (xlen K) rfl B.b_len boot_len (pa_n (pv 2) pa_nil)) pa_nil)) (pg_name (i := 5) sc_times.nd rfl (Or.inl rfl))
      (pss_one (ps_asg (pe_callC C_taken hr rfl (pa_n (pv 0) (pa_b (pe_op (xadd K) (pe_ix (xix K) (pv 3) (pe_op (xadd K) (pv 4) (pv 5)) (fun _ _ => rfl)) (pe_op v_mul (pe_ix (xix K) (pv 1) (pv 4) (fun _ _ => rfl)) (pe_ix (xix K) (pv 2) (pv 5) (fun _ _ => rfl)))) pa_nil))) (pg_sub (pv 3) (pe_op (xadd K) (pv 4) (pv 5)) set_list))))))
      (pss_one (ps_ret (pe_callC C_trimmed hr rfl (pa_n (pv 3) pa_nil)))))),?_⟩
    have lP : (p.map V.int).length = p.length := List.length_map _
    have lR : (r.map V.int).length = r.length := List.length_map _
    refine ⟨(by show 1 ≤ sizeLine; decide),fun l0 h0 => ?_⟩
    have g0 := Same.new h0 (.lst [.int 0])
    refine ⟨_,rfl,.ref a,p.length,rfl,.inr ⟨_,SqT.of (g0 _ _ hA),lP.symm⟩,_,rfl,.ref c,r.length,rfl,.inr ⟨_,SqT.of (g0 _ _ hC),lR.symm⟩,?_⟩
    have en : ((p.length : Int) + (r.length : Int)).toNat = p.length + r.length := by omega
    refine ⟨_,upd_same,(by omega : -(2 ^ 63) ≤ (p.length : Int) + (r.length : Int)),(by omega : (p.length : Int) + (r.length : Int) < 2 ^ 63),?_,fun l hl => ?_⟩
    · rw [en]; show 1 * (p.length + r.length) ≤ sizeLine; rw [Nat.one_mul]; exact Nat.le_of_lt (small1000 (by omega))
    have g1 := g0.trans (Same.new hl (.lst (List.replicate ((p.length : Int) + (r.length : Int)).toNat [V.int 0]).flatten))
    have hl0 : H l = none := g0.free hl
    refine ⟨_,rfl,.ref a,p.length,rfl,.inr ⟨_,SqT.of (g1 _ _ hA),lP.symm⟩,?_⟩
    refine ⟨(p.length : Int),rfl,(by omega : -(2 ^ 62) ≤ (p.length : Int)),(by omega : (p.length : Int) < 2 ^ 62),?_⟩
    refine for_range (lo := 0) (n := (p.length : Int).toNat) (fun i σ' H' => ∃ o4 o5 L,σ' = [some (.int b),some (.ref a),some (.ref c),some (.ref l),o4,o5] ∧ Same H H' ∧ H' l = some (.lst (L.map V.int)) ∧ L.length = p.length + r.length ∧ ∀ k,Pm.co L k = Rm.tk b (Pm.W (Pm.co p) (Pm.co r) i 0 k))
      ⟨_,_,Pm.ofF (p.length + r.length) (fun _ => 0),rfl,g1,(by rw [upd_same,en,replicate_ofF]),Pm.ofF_len _ _,fun k => by rw [Pm.co_ofF,Pm.W_zero,Pm.tk0]; split <;> rfl⟩ ?_ ?_
    · rintro i σ' H' hi ⟨o4,o5,L,rfl,g,hL,zL,hW⟩
      have hi' : i < p.length := by omega
      refine ⟨_,rfl,.ref c,r.length,rfl,.inr ⟨_,SqT.of (g _ _ hC),lR.symm⟩,?_⟩
      refine ⟨(r.length : Int),rfl,(by omega : -(2 ^ 62) ≤ (r.length : Int)),(by omega : (r.length : Int) < 2 ^ 62),?_⟩
      refine for_range (lo := 0) (n := (r.length : Int).toNat) (fun k σ' H' => ∃ o5 L,σ' = [some (.int b),some (.ref a),some (.ref c),some (.ref l),some (.int (0 + (i : Int))),o5] ∧ Same H H' ∧ H' l = some (.lst (L.map V.int)) ∧ L.length = p.length + r.length ∧ ∀ j,Pm.co L j = Rm.tk b (Pm.W (Pm.co p) (Pm.co r) i k j))
        ⟨_,L,rfl,g,hL,zL,hW⟩ ?_ ?_
      · rintro k σ' H2 hk ⟨o5,L,rfl,g,hL,zL,hW⟩
        have hk' : k < r.length := by omega
        have lL : (L.map V.int).length = L.length := List.length_map _
        have e1 : (0 + (i : Int) + (0 + (k : Int))).toNat = i + k := by omega
        have e2 : (0 + (i : Int)).toNat = i := by omega
        have e3 : (0 + (k : Int)).toNat = k := by omega
        refine ⟨_,rfl,_,rfl,_,rfl,_,rfl,_,_,.inl (SqL.of hL),atI_ints (ns := L) (by omega : (0 : Int) ≤ 0 + (i : Int) + (0 + (k : Int))) (by omega),?_⟩
        refine ⟨_,rfl,_,rfl,_,_,.inr (SqT.of (g _ _ hA)),atI_ints (ns := p) (by omega : (0 : Int) ≤ 0 + (i : Int)) (by omega),?_⟩
        refine ⟨_,rfl,_,rfl,_,_,.inr (SqT.of (g _ _ hC)),atI_ints (ns := r) (by omega : (0 : Int) ≤ 0 + (k : Int)) (by omega),?_⟩
        refine ⟨mulBd (Rm.Bd.getD bA _) (Rm.Bd.getD bC _) (by decide),?_⟩
        refine ⟨b,_,rfl,hb,?_⟩
        refine ⟨_,rfl,_,rfl,_,rfl,l,_,_,i + k,rfl,rfl,hL,ixN_of (by omega) (by rw [lL]; omega),?_⟩
        refine ⟨_,L.set (i + k) _,rfl,g.upd hl0 _,(by rw [upd_same,map_set_int]),(by rw [List.length_set]; exact zL),fun j => ?_⟩
        rw [Pm.co_set _ _ _ _ (by omega),Pm.W_step,e1,e2,e3]
        by_cases ej : j = i + k
        · have hw := hW j
          rw [if_pos ej,if_pos ej]
          rw [ej] at hw ⊢
          rw [← Rm.tk_add_l b (Pm.W (Pm.co p) (Pm.co r) i k (i + k)),← hw]; rfl
        · rw [if_neg ej,if_neg ej,Int.add_zero]; exact hW j
      · rintro σ' H2 ⟨o5,L,rfl,g,hL,zL,hW⟩
        refine ⟨_,_,L,rfl,g,hL,zL,fun k => ?_⟩
        rw [hW k,Int.toNat_natCast,Pm.W_row fun k hk => Pm.co_ge hk]
    · rintro σ' H' ⟨o4,o5,L,rfl,g,hL,zL,hW⟩
      refine ⟨_,rfl,l,L,rfl,SqL.of hL,fun t H2 g2 ht => q t H2 (g.trans g2) ?_⟩
      have e : Pm.trim L = Pm.mul b p r := by
        refine Pm.trim_ext fun k => ?_
        rw [hW k,Int.toNat_natCast,Pm.W_end fun k hk => Pm.co_ge hk,Pm.co_ofF]
        split
        · rfl
        · rw [← Pm.mul_co,Pm.mul,Pm.co_trim,Pm.co_ofF,if_neg (by assumption)]
      rw [← e]; exact ht
theorem ok_divided (B : Bt mg) (F : Fn K mg "divided" s_divided ["by","one","other"]) (M : Ms K mg base A_NoBy A_NoName A_NoNumber A_NoRow A_NoText A_RuleError A_TooBig A_TooFar A_TooLong) (C_taken : Cal P w K mg base "taken" 1 ["by","number"] spTaken) (C_trimmed : Cal P w K mg base "trimmed" 1 ["numbers"] (spTrim K)) : Cal P w K mg base "divided" 2 ["by","one","other"] spDivided := by
  refine F.cal sc_divided (fun vs H Q E h => ?_) (fun f cdv A outer s H vs Q E hr h => ?_)
  · obtain ⟨b,a,c,P,M,rfl,_⟩ := h; rfl
  · obtain ⟨b,a,c,P,M,rfl,hb,hb1,hA,hC,zA,zC,hM,nP,bA,bC,q⟩ := h
    refine ⟨_,(pss_cons (ps_set (i := 3) sc_divided.nd rfl (Or.inl rfl) (pe_op op_sub (pe_callB (xlen K) rfl B.b_len boot_len (pa_n (pv 2) pa_nil)) pe_int))
      (pss_cons (ps_set (i := 4) sc_divided.nd rfl (Or.inl rfl) (pe_op v_mul (pe_lst (pa_k pe_int pa_nil)) (pe_callB (call_max2 rfl) rfl B.b_max boot_max (pa_k pe_int (pa_b (pe_op op_sub (pe_callB (xlen K) rfl B.b_len boot_len (pa_n (pv 1) pa_nil)) (pv 3)) pa_nil)))))
      (pss_cons (ps_set (i := 5) sc_divided.nd rfl (Or.inl rfl) (pe_callTy (xlist K) rfl B.b_list boot_list (pa_n (pv 1) pa_nil)))
      (pss_cons (ps_for PassesOwn.never rfl (pi_rangeD rfl B.b_range (pa_b (pe_op op_sub (pe_callB (xlen K) rfl B.b_len boot_len (pa_n (pv 4) pa_nil)) pe_int) (pa_u (pe_un un_neg pe_int) (pa_u (pe_un un_neg pe_int) pa_nil)))) (pg_name (i := 6) sc_divided.nd rfl (Or.inl rfl))
      (pss_cons (ps_set (i := 7) sc_divided.nd rfl (Or.inl rfl) (pe_ix (xix K) (pv 5) (pe_op (xadd K) (pv 6) (pv 3)) (fun _ _ => rfl)))
      (pss_cons (ps_asg (pv 7) (pg_sub (pv 4) (pv 6) set_list))
      (pss_one (ps_for PassesOwn.never rfl (pi_range1 rfl B.b_range (pa_cons (pe_callB (xlen K) rfl B.b_len boot_len (pa_n (pv 2) pa_nil)) pa_nil)) (pg_name (i := 8) sc_divided.nd rfl (Or.inl rfl))
      (pss_one (ps_asg (pe_callC C_taken hr rfl (pa_n (pv 0) (pa_b (pe_op op_sub (pe_ix (xix K) (pv 5) (pe_op (xadd K) (pv 6) (pv 8)) (fun _ _ => rfl)) (pe_op v_mul (pv 7) (pe_ix (xix K) (pv 2) (pv 8) (fun _ _ => rfl)))) pa_nil))) (pg_sub (pv 5) (pe_op (xadd K) (pv 6) (pv 8)) set_list))))))))
      (pss_one (ps_ret (pe_tup (pa_cons (pe_callC C_trimmed hr rfl (pa_n (pv 4) pa_nil)) (pa_cons (pe_callC C_trimmed hr rfl (pa_n (pv 5) pa_nil)) pa_nil))))))))),?_⟩
    have lP : (P.map V.int).length = P.length := List.length_map _
    have lM : (M.map V.int).length = M.length := List.length_map _
    have hMp := hM.pos
    refine ⟨_,rfl,.ref c,M.length,rfl,.inr ⟨_,SqT.of hC,lM.symm⟩,_,_,rfl,rfl,?_⟩
    refine ⟨(by show 1 ≤ sizeLine; decide),fun l0 h0 => ?_⟩
    have g0 := Same.new h0 (.lst [.int 0])
    refine ⟨_,rfl,.ref a,P.length,rfl,.inr ⟨_,SqT.of (g0 _ _ hA),lP.symm⟩,_,rfl,_,_,rfl,rfl,_,_,rfl,?_⟩
    have en : (if (P.length : Int) - ((M.length : Int) - 1) > 0 then (P.length : Int) - ((M.length : Int) - 1) else 0).toNat = P.length - (M.length - 1) := (max_zero P.length M.length).resolve_right (by omega)
    refine ⟨_,upd_same,?_,?_,?_,fun lo hlo => ?_⟩
    · split <;> omega
    · split <;> omega
    · rw [en]; show 1 * (P.length - (M.length - 1)) ≤ sizeLine; rw [Nat.one_mul]; exact Nat.le_of_lt (small1000 (by omega))
    rw [en,replicate_ofF]
    have hlo0 : H lo = none := g0.free hlo
    have g1 := g0.trans (Same.new hlo (.lst ((Pm.ofF (P.length - (M.length - 1)) fun _ => 0).map V.int)))
    have hO0 : (upd (upd H l0 (.lst [.int 0])) lo (.lst ((Pm.ofF (P.length - (M.length - 1)) fun _ => 0).map V.int))) lo = some (.lst ((Pm.ofF (P.length - (M.length - 1)) fun _ => 0).map V.int)) := upd_same
    generalize upd (upd H l0 (.lst [.int 0])) lo (.lst ((Pm.ofF (P.length - (M.length - 1)) fun _ => 0).map V.int)) = H1 at g1 hO0
    refine ⟨_,rfl,a,_,rfl,.inr (SqT.of (g1 _ _ hA)),fun ll hll => ?_⟩
    have hll0 : H ll = none := g1.free hll
    have hne : lo ≠ ll := ne_of_none hO0 hll
    have gll := Same.new hll (.lst (P.map V.int))
    have g2 := g1.trans gll
    have hO2 := gll _ _ hO0
    have hL2 : (upd H1 ll (.lst (P.map V.int))) ll = some (.lst (P.map V.int)) := upd_same
    generalize upd H1 ll (.lst (P.map V.int)) = H2 at gll g2 hO2 hL2
    generalize hn : P.length - (M.length - 1) = n at hO2
    refine ⟨_,rfl,.ref lo,n,rfl,.inl ⟨_,SqL.of hO2,by rw [List.length_map,Pm.ofF_len]⟩,_,_,rfl,rfl,_,rfl,_,rfl,(n : Int) - 1,-1,rfl,⟨by omega,by omega,by omega,by omega⟩,?_⟩
    refine for_down (lo := (n : Int) - 1) (n := ((n : Int) - 1 - (-1)).toNat) (fun i σ' H' => ∃ o6 o7 o8 O L,σ' = [some (.int b),some (.ref a),some (.ref c),some (.int ((M.length : Int) - 1)),some (.ref lo),some (.ref ll),o6,o7,o8] ∧ Same H H' ∧ H' lo = some (.lst (List.map V.int O)) ∧ H' ll = some (.lst (List.map V.int L)) ∧ Pm.DivI b P M (n - i) O L ∧ (∀ k,Rm.Bd (300000 + i * 1001) (Pm.co O k)) ∧ ∀ k,Rm.Bd (300000 + i * 1001) (Pm.co L k))
      ⟨_,_,_,_,P,rfl,g2,hO2,hL2,(by rw [Nat.sub_zero,← hn]; exact Pm.DivI.start nP),fun k => by rw [Pm.co_ofF]; split <;> exact Rm.Bd.zero _,fun k => (Pm.Bd_co bA k).mono (by omega)⟩ ?_ ?_
    · rintro i σ' H' hi ⟨o6,o7,o8,O,L,rfl,g,hO,hL,I,bO,bL⟩
      have hi' : i < n := by omega
      have hs : n - i = n - (i + 1) + 1 := by omega
      rw [hs] at I
      generalize es : n - (i + 1) = s at I
      have esI : (n : Int) - 1 - (i : Int) = (s : Int) := by omega
      rw [esI]
      have hlL := I.ll
      have hlO := I.ol
      have lO : (O.map V.int).length = O.length := List.length_map _
      have e1 : ((s : Int) + ((M.length : Int) - 1)).toNat = s + (M.length - 1) := by omega
      refine ⟨_,rfl,_,rfl,_,rfl,_,_,.inl (SqL.of hL),atI_ints (ns := L) (by omega : (0 : Int) ≤ (s : Int) + ((M.length : Int) - 1)) (by omega),?_⟩
      rw [e1]
      have hF : Rm.Bd (300000 + i * 1001) (L.getD (s + (M.length - 1)) 0) := bL _
      have eF : L.getD (s + (M.length - 1)) 0 = Pm.co L (s + (M.length - 1)) := rfl
      rw [eF] at hF ⊢
      generalize hf : Pm.co L (s + (M.length - 1)) = f at hF
      refine ⟨_,rfl,_,rfl,_,rfl,lo,_,_,s,rfl,rfl,hO,ixN_of rfl (by rw [lO]; omega),?_⟩
      have hO3 : (upd H' lo (.lst ((O.map V.int).set s (.int f)))) lo = some (.lst ((O.set s f).map V.int)) := by rw [upd_same,map_set_int]
      have hL3 : (upd H' lo (.lst ((O.map V.int).set s (.int f)))) ll = some (.lst (L.map V.int)) := by rw [upd_ne hne.symm]; exact hL
      have g3 := g.upd hlo0 (.lst ((O.map V.int).set s (.int f)))
      generalize upd H' lo (.lst ((O.map V.int).set s (.int f))) = H3 at hO3 hL3 g3
      refine ⟨_,rfl,.ref c,M.length,rfl,.inr ⟨_,SqT.of (g3 _ _ hC),lM.symm⟩,?_⟩
      refine ⟨(M.length : Int),rfl,(by omega : -(2 ^ 62) ≤ (M.length : Int)),(by omega : (M.length : Int) < 2 ^ 62),?_⟩
      refine for_range (lo := 0) (n := (M.length : Int).toNat) (fun t σ' H' => ∃ o8 L',σ' = [some (.int b),some (.ref a),some (.ref c),some (.int ((M.length : Int) - 1)),some (.ref lo),some (.ref ll),some (.int (s : Int)),some (.int f),o8] ∧ Same H H' ∧ H' lo = some (.lst ((O.set s f).map V.int)) ∧ H' ll = some (.lst (List.map V.int L')) ∧ L'.length = L.length ∧ ∀ k,Pm.co L' k = Pm.lf b f s t L M k)
        ⟨_,L,rfl,g3,hO3,hL3,rfl,fun k => (Pm.lf_zero ..).symm⟩ ?_ ?_
      · rintro t σ' H4 ht ⟨o8,L',rfl,g4,hO4,hL4,zL',eL'⟩
        have ht' : t < M.length := by omega
        have lL' : (L'.map V.int).length = L'.length := List.length_map _
        have e2 : ((s : Int) + (0 + (t : Int))).toNat = s + t := by omega
        have e3 : (0 + (t : Int)).toNat = t := by omega
        refine ⟨_,rfl,_,rfl,_,rfl,_,rfl,_,_,.inl (SqL.of hL4),atI_ints (ns := L') (by omega : (0 : Int) ≤ (s : Int) + (0 + (t : Int))) (by omega),?_⟩
        refine ⟨_,rfl,_,rfl,_,rfl,_,_,.inr (SqT.of (g4 _ _ hC)),atI_ints (ns := M) (by omega : (0 : Int) ≤ 0 + (t : Int)) (by omega),?_⟩
        refine ⟨mulBd hF (Rm.Bd.getD bC _) (by have : i * 1001 ≤ 100 * 1001 := Nat.mul_le_mul_right _ (by omega); omega),_,_,rfl,rfl,?_⟩
        refine ⟨b,_,rfl,hb,?_⟩
        refine ⟨_,rfl,_,rfl,_,rfl,ll,_,_,s + t,rfl,rfl,hL4,ixN_of (by omega) (by rw [lL']; omega),?_⟩
        refine ⟨_,L'.set (s + t) _,rfl,g4.upd hll0 _,(by rw [upd_ne hne]; exact hO4),(by rw [upd_same,map_set_int]),(by rw [List.length_set]; exact zL'),fun k => ?_⟩
        rw [Pm.co_set _ _ _ _ (by omega),Pm.lf_step,e2,e3,← eL' k]
        by_cases ek : k = s + t
        · rw [if_pos ek,if_pos ek,ek]; rfl
        · rw [if_neg ek,if_neg ek]
      · rintro σ' H4 ⟨o8,L',rfl,g4,hO4,hL4,zL',eL'⟩
        rw [Int.toNat_natCast] at eL'
        refine ⟨_,_,_,O.set s f,L',rfl,g4,hO4,hL4,?_,fun k => ?_,fun k => ?_⟩
        · rw [← hf]
          rw [← hf] at eL'
          exact I.step hM (by omega) zL' eL'
        · rw [Pm.co_set _ _ _ _ (by omega)]
          split
          · exact hF.mono (by omega)
          · exact (bO k).mono (by omega)
        · rw [eL' k]
          exact (Pm.lf_bd hb hb1 (by omega) hF bL bC k).mono (by omega)
    · rintro σ' H' ⟨o6,o7,o8,O,L,rfl,g,hO,hL,I,bO,bL⟩
      have e9 : ((n : Int) - 1 - (-1)).toNat = n := by omega
      rw [e9] at I bO bL
      rw [Nat.sub_self] at I
      refine ⟨_,rfl,lo,O,rfl,SqL.of hO,fun t1 H3 g3 h3 => ?_⟩
      refine ⟨_,rfl,ll,L,rfl,SqL.of (g3 _ _ hL),fun t2 H4 g4 h4 => ?_⟩
      refine ⟨(by show 2 ≤ sizeLine; decide),fun t ht => ?_⟩
      have gt := Same.new ht (.tup [.ref t1,.ref t2])
      have hz : 300000 + n * 1001 ≤ 500000 := by have : n * 1001 ≤ 100 * 1001 := Nat.mul_le_mul_right _ (by omega); omega
      refine q t t1 t2 (Pm.trim O) (Pm.trim L) _ (g.trans (g3.trans (g4.trans gt))) upd_same (gt _ _ (g4 _ _ h3)) (gt _ _ h4) (I.stop hM) (fun z hz' => (bd_trim bO z hz').mono hz) (fun z hz' => (bd_trim bL z hz').mono hz) ?_
      have := Pm.trim_len_le O
      have := I.ol
      omega
theorem ok_of_rule (B : Bt mg) (F : Fn K mg "of_rule" s_of_rule ["by","rule"]) (M : Ms K mg base A_NoBy A_NoName A_NoNumber A_NoRow A_NoText A_RuleError A_TooBig A_TooFar A_TooLong) (C_taken : Cal P w K mg base "taken" 1 ["by","number"] spTaken) : Cal P w K mg base "of_rule" 2 ["by","rule"] spOfRule := by
  refine F.cal sc_of_rule (fun vs H Q E h => ?_) (fun f cdv A outer s H vs Q E hr h => ?_)
  · obtain ⟨b,a,c,rfl,_⟩ := h; rfl
  · obtain ⟨b,a,c,rfl,hb,hA,zA,q⟩ := h
    refine ⟨_,(pss_cons (ps_set (i := 2) sc_of_rule.nd rfl (Or.inr rfl) (pe_callB (xlen K) rfl B.b_len boot_len (pa_n (pv 1) pa_nil)))
      (pss_cons (ps_setC (i := 3) (hN := sc_of_rule.nd) (hi' := rfl) (hx := (Or.inl rfl)) (sc := cs_of_rule1) (N := ["k","by","length","rule"]) (ix := [none,some 0,some 2,some 1]) (comp_mk (by kernel_rfl) (by kernel_rfl) (by kernel_rfl) (by kernel_rfl) (by kernel_rfl) (by kernel_rfl) (by kernel_rfl) (by kernel_rfl)) rfl (pi_range1 rfl B.b_range (pa_n (pv 2) pa_nil)) (fun cl C s₀ H₀ ex => ⟨(pg_name (i := 0) (show (["k","by","length","rule"] : List Str).Nodup by decide +kernel) rfl (Or.inl rfl)),pif_nil,(pe_callC C_taken hr rfl (pa_n (pv 1) (pa_b (pe_op op_sub pe_int (pe_ix (xix K) (pv 3) (pe_op op_sub (pe_op op_sub (pv 2) pe_int) (pv 0)) (fun _ _ => rfl))) pa_nil)))⟩))
      (pss_one (ps_ret (pe_callTy (xtuple K) rfl B.b_tuple boot_tuple (pa_b (pe_op (xadd K) (pv 3) (pe_lst (pa_k pe_int pa_nil))) pa_nil)))))),?_⟩
    have lC : (c.map V.int).length = c.length := List.length_map _
    refine ⟨_,rfl,.ref a,c.length,rfl,.inr ⟨_,SqT.of hA,lC.symm⟩,?_⟩
    refine ⟨_,rfl,(c.length : Int),rfl,(by omega : -(2 ^ 62) ≤ (c.length : Int)),(by omega : (c.length : Int) < 2 ^ 62),?_⟩
    rw [Int.toNat_natCast]
    refine comp_rng (n := c.length) (by omega) rfl (fun k => Rm.tk b (0 - Pm.co c (c.length - 1 - k))) ?_ ?_
    · intro H2 k g2 hk kk hkk
      have e1 : ((c.length : Int) - 1 - (0 + (k : Int))).toNat = c.length - 1 - k := by omega
      refine ⟨_,rfl,_,rfl,_,rfl,_,_,rfl,rfl,_,rfl,_,_,rfl,rfl,_,_,.inr (SqT.of (g2 _ _ hA)),atI_ints (ns := c) (by omega : (0 : Int) ≤ (c.length : Int) - 1 - (0 + (k : Int))) (by omega),_,_,rfl,rfl,?_⟩
      refine ⟨b,_,rfl,hb,?_⟩
      rw [e1]
      exact hkk
    · intro D hD
      have g1 := Same.new hD (.lst ((Pm.ofF c.length fun k => Rm.tk b (0 - Pm.co c (c.length - 1 - k))).map V.int))
      refine ⟨_,rfl,(by show 1 ≤ sizeLine; decide),fun l2 hl2 => ?_⟩
      have g2 := Same.new hl2 (.lst [.int 1])
      refine .inl ⟨_,_,g2 _ _ upd_same,upd_same,?_,fun l3 hl3 => ?_⟩
      · rw [List.length_map,Pm.ofF_len]; exact Nat.le_of_lt (small1000 (by show _ + 1 ≤ 1000; omega))
      refine ⟨l3,_,rfl,.inl ⟨SqL.of upd_same,fun t ht => ?_⟩⟩
      refine q t _ (g1.trans (g2.trans ((Same.new hl3 _).trans (Same.new ht _)))) ?_
      rw [upd_same,Pm.ofRule,map_snoc]
theorem ok_next_place (B : Bt mg) (F : Fn K mg "next_place" s_next_place ["by","rule","before"]) (M : Ms K mg base A_NoBy A_NoName A_NoNumber A_NoRow A_NoText A_RuleError A_TooBig A_TooFar A_TooLong) (C_taken : Cal P w K mg base "taken" 1 ["by","number"] spTaken) : Cal P w K mg base "next_place" 2 ["by","rule","before"] (spNext K) := by
  refine F.cal sc_next_place (fun vs H Q E h => ?_) (fun f cdv A outer s H vs Q E hr h => ?_)
  · obtain ⟨b,r,s,rule,before,rfl,_⟩ := h; rfl
  · obtain ⟨b,r,s',rule,before,rfl,hb,hR,hS,hl,hl2,hl3,bR,bS,q⟩ := h
    refine ⟨_,(pss_cons (ps_set (i := 3) sc_next_place.nd rfl (Or.inl rfl) pe_int)
      (pss_cons (ps_for PassesOwn.never rfl (pi_range1 rfl B.b_range (pa_cons (pe_callB (xlen K) rfl B.b_len boot_len (pa_n (pv 1) pa_nil)) pa_nil)) (pg_name (i := 4) sc_next_place.nd rfl (Or.inl rfl))
      (pss_one (ps_set (i := 3) sc_next_place.nd rfl (Or.inl rfl) (pe_op (xadd K) (pv 3) (pe_op v_mul (pe_ix (xix K) (pv 1) (pv 4) (fun _ _ => rfl)) (pe_ix (xix K) (pv 2) (pe_op op_sub (pe_op op_sub (pe_callB (xlen K) rfl B.b_len boot_len (pa_n (pv 2) pa_nil)) pe_int) (pv 4)) (fun _ _ => rfl)))))))
      (pss_one (ps_ret (pe_callC C_taken hr rfl (pa_n (pv 0) (pa_n (pv 3) pa_nil))))))),?_⟩
    have lR : (rule.map V.int).length = rule.length := List.length_map _
    have lS : (before.map V.int).length = before.length := List.length_map _
    refine ⟨_,rfl,.ref r,rule.length,rfl,.inr ⟨_,hR,lR.symm⟩,?_⟩
    refine ⟨(rule.length : Int),rfl,(by omega : -(2 ^ 62) ≤ (rule.length : Int)),(by omega : (rule.length : Int) < 2 ^ 62),?_⟩
    refine for_range (lo := 0) (n := (rule.length : Int).toNat) (fun i σ' H' => ∃ o,σ' = [some (.int b),some (.ref r),some (.ref s'),some (.int (Rm.S rule (fun i => before.getD i 0) before.length i)),o] ∧ H' = H) ⟨none,rfl,rfl⟩ ?_ ?_
    · rintro i σ' H' hi ⟨o,rfl,rfl⟩
      have hi' : i < rule.length := by omega
      have e0 : (0 : Int) + (i : Int) = (i : Int) := by omega
      have e1 : (before.length : Int) - 1 - (0 + (i : Int)) = ((before.length - 1 - i : Nat) : Int) := by omega
      refine ⟨_,rfl,?_⟩
      refine ⟨_,rfl,_,rfl,_,_,.inr hR,atI_ints (ns := rule) (by omega : (0 : Int) ≤ 0 + (i : Int)) (by omega),?_⟩
      refine ⟨_,rfl,_,rfl,.ref s',before.length,rfl,.inl ⟨_,hS,lS.symm⟩,_,_,rfl,rfl,_,rfl,_,_,rfl,rfl,?_⟩
      refine ⟨_,_,.inl hS,atI_ints (ns := before) (by omega : (0 : Int) ≤ (before.length : Int) - 1 - (0 + (i : Int))) (by omega),?_⟩
      refine ⟨mulBd (Rm.Bd.getD bR _) (Rm.Bd.getD bS _) (by decide),?_⟩
      refine ⟨some (.int (0 + (i : Int))),?_,rfl⟩
      rw [e1,e0,Int.toNat_natCast,Int.toNat_natCast]
      rfl
    · rintro σ' H' ⟨o,rfl,rfl⟩
      refine ⟨_,rfl,_,rfl,b,_,rfl,hb,?_⟩
      rw [show (rule.length : Int).toNat = rule.length from Int.toNat_natCast _]
      exact q
theorem ok_first_places (B : Bt mg) (F : Fn K mg "first_places" s_first_places ["row","count"]) (M : Ms K mg base A_NoBy A_NoName A_NoNumber A_NoRow A_NoText A_RuleError A_TooBig A_TooFar A_TooLong) (C_next_place : Cal P w K mg base "next_place" 2 ["by","rule","before"] (spNext K)) : Cal P w K mg base "first_places" 3 ["row","count"] (spFirst K) := by
  refine F.cal sc_first_places (fun vs H Q E h => ?_) (fun f cdv A outer s H vs Q E hr h => ?_)
  · obtain ⟨v,r,c,rfl,_⟩ := h; rfl
  · obtain ⟨v,r,c,rfl,⟨a,p,p2,rfl,hA,hR,hS⟩,ok,hc0,hc1,q⟩ := h
    refine ⟨_,(pss_cons (ps_set (i := 2) sc_first_places.nd rfl (Or.inl rfl) (pe_ix (xix K) (pv 0) pe_int (fun _ _ => rfl)))
      (pss_cons (ps_set (i := 3) sc_first_places.nd rfl (Or.inl rfl) (pe_ix (xix K) (pv 0) pe_int (fun _ _ => rfl)))
      (pss_cons (ps_set (i := 4) sc_first_places.nd rfl (Or.inl rfl) (pe_ix (xix K) (pv 0) pe_int (fun _ _ => rfl)))
      (pss_cons (ps_set (i := 5) sc_first_places.nd rfl (Or.inl rfl) (pe_bar (pe_callTy (xlist K) rfl B.b_list boot_list (pa_cons (pe_slice (xsl K) (pv 4) po_none (po_some (pv 1))) pa_nil))))
      (pss_cons (ps_while PassesOwn.never (pt_cmpR op_lt (pe_callB (xlen K) rfl B.b_len boot_len (pa_n (pv 5) pa_nil)) (pv 1) (nomark _))
      (pss_one (ps_expr (xappend K (pv 5) (pe_callC C_next_place hr rfl (pa_n (pv 2) (pa_n (pv 3) (pa_n (pv 5) pa_nil))))))))
      (pss_one (ps_ret (pv 5)))))))),?_⟩
    have hl := ok.len
    have hl2 := ok.short
    have lS : (r.starts.map V.int).length = r.starts.length := List.length_map _
    refine ⟨_,rfl,_,_,.inr (SqT.of hA),rfl,?_⟩
    refine ⟨_,rfl,_,_,.inr (SqT.of hA),rfl,?_⟩
    refine ⟨_,rfl,_,_,.inr (SqT.of hA),rfl,?_⟩
    have hcut : cutV (r.starts.map V.int) none (some c) = (r.row (min c.toNat r.starts.length)).map V.int := by
      have e : r.row (min c.toNat r.starts.length) = r.starts.take (min c.toNat r.starts.length) := Rm.row_starts (Nat.min_le_right _ _)
      rw [e]
      have e2 : c = ((c.toNat : Nat) : Int) := by omega
      unfold cutV
      rw [e2,HT.sIx_nat,HT.sIx_none,List.drop_zero,Nat.sub_zero,lS,List.map_take,Int.toNat_natCast]
    refine Bar.by (fun v H1 => ∃ l,v = .ref l ∧ Same H H1 ∧ H l = none ∧ H1 l = some (.lst ((r.row (min c.toNat r.starts.length)).map V.int))) (fun kk hkk => ?_) ?_
    · refine ⟨_,rfl,_,rfl,_,rfl,?_⟩
      by_cases hw : r.starts.length ≤ c.toNat
      · -- the whole of it
        refine .inr (.inr ⟨_,SqT.of hS,?_,?_⟩)
        · have e2 : c = ((c.toNat : Nat) : Int) := by omega
          rw [e2,HT.sIx_nat,HT.sIx_none,lS]; omega
        · refine ⟨p2,_,rfl,.inr (SqT.of hS),fun l hl1 => hkk _ _ ⟨l,rfl,Same.new hl1 _,hl1,?_⟩⟩
          rw [upd_same,Nat.min_eq_right hw]
          have e : r.row r.starts.length = r.starts := (Rm.row_starts (Nat.le_refl _)).trans (List.take_length ..)
          rw [e]
      · refine .inr (.inl ⟨_,SqT.of hS,?_,fun p3 hp3 => ?_⟩)
        · have e2 : c = ((c.toNat : Nat) : Int) := by omega
          rw [e2,HT.sIx_nat,HT.sIx_none,lS]; omega
        · refine ⟨p3,_,rfl,.inr (SqT.of upd_same),fun l hl1 => ?_⟩
          have g3 := Same.new hp3 (.tup (cutV (r.starts.map V.int) none (some c)))
          refine hkk _ _ ⟨l,rfl,g3.trans (Same.new hl1 _),g3.free hl1,?_⟩
          rw [upd_same,hcut]
    rintro v H1 ⟨l,rfl,g1,hl1,hr1⟩
    refine ⟨fun m σ' H' => ∃ n : Nat,m = c.toNat - n ∧ min c.toNat r.starts.length ≤ n ∧ n ≤ c.toNat ∧ σ' = [some (.ref a),some (.int c),some (.int r.b),some (.ref p),some (.ref p2),some (.ref l)] ∧ Same H H' ∧ H' l = some (.lst ((r.row n).map V.int)),
      ⟨_,min c.toNat r.starts.length,rfl,Nat.le_refl _,Nat.min_le_left _ _,rfl,g1,hr1⟩,?_⟩
    rintro m σ' H' ⟨n,rfl,h1,h2,rfl,g,hL⟩
    have lL : ((r.row n).map V.int).length = n := by rw [List.length_map,Rw.row_len]
    refine ⟨_,rfl,.ref l,n,rfl,.inl ⟨_,SqL.of hL,lL.symm⟩,_,rfl,_,_,rfl,rfl,_,rfl,?_⟩
    refine ite2 (fun cc => ?_) (fun cc => ?_)
    · have hn : n < c.toNat := by have := dec_true cc; omega
      refine ⟨_,fun _ _ z => z,?_⟩
      refine ⟨_,rfl,.inl ⟨rfl,_,SqL.of hL⟩,_,rfl,_,rfl,_,rfl,r.b,p,l,r.rule,r.row n,rfl,ok.by0,SqT.of (g _ _ hR),SqL.of hL,?_,hl2,?_,ok.ruleBd,ok.rowBd n (by omega),?_⟩
      · rw [Rw.row_len]; omega
      · rw [Rw.row_len]; omega
      · refine ⟨l,_,_,rfl,rfl,hL,?_,?_⟩
        · rw [lL]; exact small1000 (by omega)
        · refine ⟨c.toNat - (n + 1),by omega,n + 1,rfl,by omega,by omega,rfl,g.upd hl1 _,?_⟩
          rw [upd_same,Rw.row_len]
          have e : r.row (n + 1) = r.row n ++ [Rm.tk r.b (Rm.S r.rule (fun i => (r.row n).getD i 0) n r.rule.length)] := by
            show _ ++ [if n < r.starts.length then r.starts.getD n 0 else _] = _
            rw [if_neg (by omega)]; rfl
          rw [e,List.map_append]; rfl
    · have hn : n = c.toNat := by have := dec_false cc; omega
      subst hn
      refine ⟨_,rfl,?_⟩
      exact q l H' g hl1 hL
theorem ok_refuse_far_jump (B : Bt mg) (F : Fn K mg "refuse_far_jump" s_refuse_far_jump ["by","n"]) (M : Ms K mg base A_NoBy A_NoName A_NoNumber A_NoRow A_NoText A_RuleError A_TooBig A_TooFar A_TooLong) : Cal P w K mg base "refuse_far_jump" 1 ["by","n"] (spRefJ A_TooFar) := by
  refine F.calF sc_refuse_far_jump (fun vs H Q E h => ?_) (fun f cdv A outer s H vs Q E hr h => ?_)
  · obtain ⟨b,n,rfl,_⟩ := h; rfl
  · obtain ⟨b,n,rfl,q1,q2⟩ := h
    refine ⟨_,(pss_one (ps_if (PW.pt (pw_or (pt_cmpR op_lt (pv 1) pe_int (nomark _)) (pw_or1 (PW.pt (pw_and (pt_cmpR (xeq K hr) (pv 0) pe_int (nomark _)) (pw_and1 (pt_cmpR op_gt (pv 1) (pe_globI rfl B.g_FARTHEST_BY_0) (nomark _))))))))
      (pss_one (ps_raise M.x_TooFar rfl (pa_k pe_str pa_nil)))
      pss_nil)),?_⟩
    have no : FarBad b n → tRaise A_TooFar E (tCons (tC (.str "a far place is from 0 on, by 0 up to 400")) tNil) { nx := fun _ H' => Q .non H',rt := Q } (start ["by","n"] [.int b,.int n]) H := fun h => ⟨(by show 1 ≤ sizeLine; decide),q2 h⟩
    refine ⟨_,rfl,_,_,rfl,rfl,_,rfl,?_⟩
    refine ite2 (fun c => no (.inl (dec_true c))) (fun c => ?_)
    have c0 := dec_false c
    refine ⟨_,rfl,_,rfl,?_⟩
    refine ite2 (fun c => ?_) (fun c => ?_)
    · have cb := dec_true c
      refine ⟨_,rfl,_,_,rfl,rfl,_,rfl,?_⟩
      refine ite2 (fun c => no (.inr ⟨cb,dec_true c⟩)) (fun c => q1 ?_)
      have c1 := dec_false c
      intro z; unfold FarBad at z; omega
    · have cb := dec_false c
      exact iteF (q1 (fun z => by unfold FarBad at z; omega))
theorem ok_power_left (B : Bt mg) (F : Fn K mg "power_left" s_power_left ["by","poly","n"]) (M : Ms K mg base A_NoBy A_NoName A_NoNumber A_NoRow A_NoText A_RuleError A_TooBig A_TooFar A_TooLong) (C_divided : Cal P w K mg base "divided" 2 ["by","one","other"] spDivided) (C_times : Cal P w K mg base "times" 2 ["by","one","other"] spTimes) : Cal P w K mg base "power_left" 3 ["by","poly","n"] spPower := by
  refine F.cal sc_power_left (fun vs H Q E h => ?_) (fun f cdv A outer s H vs Q E hr h => ?_)
  · obtain ⟨b,a,rule,n,rfl,_⟩ := h; rfl
  · obtain ⟨b,a,rule,n,rfl,hb,hA,hrl,hR,hn,hN,q⟩ := h
    refine ⟨_,(pss_cons (ps_set (i := 3) sc_power_left.nd rfl (Or.inl rfl) (pe_ix (xix K) (pe_callC C_divided hr rfl (pa_n (pv 0) (pa_t (pe_tup (pa_k pe_int pa_nil)) (pa_n (pv 1) pa_nil)))) pe_int (fun _ _ => rfl)))
      (pss_cons (ps_for PassesOwn.never rfl (pi_rangeD rfl B.b_range (pa_b (pe_op op_sub (xbits K (pv 2)) pe_int) (pa_u (pe_un un_neg pe_int) (pa_u (pe_un un_neg pe_int) pa_nil)))) (pg_name (i := 4) sc_power_left.nd rfl (Or.inl rfl))
      (pss_cons (ps_set (i := 5) sc_power_left.nd rfl (Or.inl rfl) (pe_callC C_times hr rfl (pa_n (pv 0) (pa_n (pv 3) (pa_n (pv 3) pa_nil)))))
      (pss_cons (ps_bar (ps_if (pt_cmpR (xeq K hr) (pe_op op_mod (pe_op op_shr (pv 2) (pv 4)) pe_int) pe_int (nomark _))
      (pss_one (ps_set (i := 5) sc_power_left.nd rfl (Or.inl rfl) (pe_callC C_times hr rfl (pa_n (pv 0) (pa_n (pv 5) (pa_t (pe_tup (pa_k pe_int (pa_k pe_int pa_nil))) pa_nil))))))
      pss_nil))
      (pss_one (ps_set (i := 3) sc_power_left.nd rfl (Or.inl rfl) (pe_ix (xix K) (pe_callC C_divided hr rfl (pa_n (pv 0) (pa_n (pv 5) (pa_n (pv 1) pa_nil)))) pe_int (fun _ _ => rfl)))))))
      (pss_one (ps_ret (pv 3))))),?_⟩
    have hM := Pm.ofRule_mon b rule
    have lM := Pm.ofRule_len b rule
    have bM : ∀ x ∈ Pm.ofRule b rule,Rm.Bd 1000 x := fun x hx => (Pm.ofRule_bd hb.lo hb.hi (u := 67) (by decide) hR x hx).mono (by decide)
    refine ⟨_,rfl,(by show 1 ≤ sizeLine; decide),fun t0 ht0 => ?_⟩
    have g0 := Same.new ht0 (.tup [.int 1])
    refine ⟨_,rfl,b,t0,a,[1],Pm.ofRule b rule,rfl,hb.lo,hb.hi,upd_same,g0 _ _ hA,by decide,by omega,hM,one_tk hb,fun x hx => by
      rw [List.mem_singleton.mp hx]; exact (Rm.Bd.of (n := 1) (by decide) (by decide)).mono (by decide),bM,fun t x y q1 r1 H1 g1 ht hx hy d1 bq1 br1 lq1 => ?_⟩
    refine ⟨_,_,.inr (SqT.of ht),rfl,?_⟩
    refine ⟨_,rfl,rfl,_,rfl,rfl,?_⟩
    have hB4 : PySem.Builtin.Int.intBits (n : Int) ≤ 400 := intBits_le_iff.mpr hN
    generalize hB : PySem.Builtin.Int.intBits (n : Int) = B at hB4
    have hB0 : n / 2 ^ B = 0 := figs_lt (Nat.le_of_eq hB)
    refine ⟨_,_,rfl,rfl,_,rfl,_,rfl,(B : Int) - 1,-1,rfl,⟨by omega,by omega,by omega,by omega⟩,?_⟩
    refine for_down (lo := (B : Int) - 1) (n := ((B : Int) - 1 - (-1)).toNat) (fun i σ' H' => ∃ (p : Addr) (l : List Int) (o4 o5 : Option V),σ' = [some (.int b),some (.ref a),some (.int n),some (.ref p),o4,o5] ∧ Same H H' ∧ H' p = some (.tup (List.map V.int l)) ∧ Pm.Pw b rule (n / 2 ^ (B - i)) l ∧ Pm.Py b l ∧ l.length ≤ rule.length)
      ⟨y,r1,_,_,rfl,g0.trans g1,hy,?_,d1.ry,?_⟩ ?_ ?_
    · rw [Nat.sub_zero,hB0]
      exact (Pm.Pw.one b rule).left d1
    · have := d1.short; omega
    · rintro i σ' H' hi ⟨p,l,o4,o5,rfl,g,hp,hw,hy2,hl⟩
      have hi' : i < B := by omega
      obtain ⟨k,hk⟩ : ∃ k,B - i = k + 1 := ⟨B - i - 1,by omega⟩
      rw [hk] at hw
      have ek : B - (i + 1) = k := by omega
      have ekI : (B : Int) - 1 - (i : Int) = (k : Int) := by omega
      rw [ekI]
      have hm1 : b = 0 → n / 2 ^ (k + 1) ≤ 400 := fun z => Nat.le_trans figs_le (hn z)
      have bl := pw_bd hb hrl hR hm1 hw hy2 hl
      have bl2 : ∀ x ∈ l,Rm.Bd 1000000 x := fun x hx => (bl x hx).mono (by decide)
      refine ⟨_,rfl,_,rfl,_,rfl,b,p,p,l,l,rfl,hb.lo,hp,hp,by omega,by omega,bl2,bl2,fun p2 H2 g2 hp2 => ?_⟩
      have hw2 : Pm.Pw b rule (n / 2 ^ (k + 1) + n / 2 ^ (k + 1)) (Pm.mul b l l) := hw.mul hw
      have bD : ∀ x ∈ Pm.mul b l l,Rm.Bd 200012 x := fun x hx => (Pm.mul_bd hb.lo hb.hi (by decide) bl bl x hx).mono (by omega)
      have lD := mul_lenF b l l
      refine BarS.by (fun σ' H' => ∃ (p3 : Addr) (l3 : List Int),σ' = [some (.int b),some (.ref a),some (.int n),some (.ref p),some (.int (k : Int)),some (.ref p3)] ∧ Same H H' ∧ H' p3 = some (.tup (List.map V.int l3)) ∧ Pm.Pw b rule (n / 2 ^ k) l3 ∧ (∀ j,Rm.tk b (Pm.co l3 j) = Pm.co l3 j) ∧ l3.length ≤ 40 ∧ ∀ x ∈ l3,Rm.Bd 300000 x) (fun NN hNN => ?_) ?_
      · refine ⟨_,rfl,_,rfl,_,_,rfl,rfl,(by omega : (0 : Int) ≤ (k : Int)),_,_,rfl,rfl,(by decide : (0 : Int) < 2),_,rfl,?_⟩
        have eshift : ((n : Int) / 2 ^ (k : Int).toNat) % 2 = ((n / 2 ^ k % 2 : Nat) : Int) := by
          rw [Int.toNat_natCast]
          norm_cast
        rw [eshift]
        have fs := figs_step n k
        refine ite2 (fun c => ?_) (fun c => ?_)
        · have c' : n / 2 ^ k % 2 = 1 := by have := dec_true c; omega
          refine ⟨_,rfl,_,rfl,(by show 2 ≤ sizeLine; decide),fun t2 ht2 => ?_⟩
          have g3 := Same.new ht2 (.tup [.int 0,.int 1])
          refine ⟨b,p2,t2,Pm.mul b l l,[0,1],rfl,hb.lo,g3 _ _ hp2,upd_same,by omega,by decide,fun x hx => (bD x hx).mono (by decide),fun x hx => ?_,fun p4 H4 g4 hp4 => ?_⟩
          · rcases List.mem_cons.mp hx with rfl | hx
            · exact Rm.Bd.zero _
            · rw [List.mem_singleton.mp hx]; exact (Rm.Bd.of (n := 1) (by decide) (by decide)).mono (by decide)
          · refine hNN _ _ ⟨p4,_,rfl,g.trans (g2.trans (g3.trans g4)),hp4,?_,fun j => (Pm.mul_py b _ _).co j,?_,?_⟩
            · have := hw2.mul (Pm.Pw.x b rule)
              rw [fs,c',show 2 * (n / 2 ^ (k + 1)) + 1 = n / 2 ^ (k + 1) + n / 2 ^ (k + 1) + 1 by omega]
              exact this
            · have := mul_lenF b (Pm.mul b l l) [0,1]
              have e2 : ([0,1] : List Int).length = 2 := rfl
              omega
            · intro x hx
              refine (Pm.mul_bd hb.lo hb.hi (u := 200012) (v := 2) (by decide) bD (fun x hx => ?_) x hx).mono (by omega)
              rcases List.mem_cons.mp hx with rfl | hx
              · exact Rm.Bd.zero _
              · rw [List.mem_singleton.mp hx]; exact Rm.Bd.of (by decide) (by decide)
        · have c' : n / 2 ^ k % 2 = 0 := by have := dec_false c; omega
          refine hNN _ _ ⟨p2,_,rfl,g.trans g2,hp2,?_,fun j => (Pm.mul_py b _ _).co j,by omega,fun x hx => (bD x hx).mono (by decide)⟩
          rw [fs,c',show 2 * (n / 2 ^ (k + 1)) + 0 = n / 2 ^ (k + 1) + n / 2 ^ (k + 1) by omega]
          exact hw2
      · rintro σ' H3 ⟨p3,l3,rfl,g3,hp3,hw3,ht3,z3,b3⟩
        refine ⟨_,rfl,_,rfl,_,rfl,b,p3,a,l3,Pm.ofRule b rule,rfl,hb.lo,hb.hi,hp3,g3 _ _ hA,by omega,by omega,hM,ht3,b3,bM,fun t x y q4 r4 H4 g4 ht hx hy d4 _ _ _ => ?_⟩
        refine ⟨_,_,.inr (SqT.of ht),rfl,?_⟩
        refine ⟨y,r4,_,_,rfl,g3.trans g4,hy,?_,d4.ry,?_⟩
        · rw [ek]; exact hw3.left d4
        · have := d4.short; omega
    · rintro σ' H' ⟨p,l,o4,o5,rfl,g,hp,hw,hy2,hl⟩
      have e9 : B - ((B : Int) - 1 - (-1)).toNat = 0 := by omega
      rw [e9,Nat.pow_zero,Nat.div_one] at hw
      exact ⟨_,rfl,q p H' l g hp hw hy2 hl⟩
theorem ok_jump (B : Bt mg) (F : Fn K mg "jump" s_jump ["row","n"]) (M : Ms K mg base A_NoBy A_NoName A_NoNumber A_NoRow A_NoText A_RuleError A_TooBig A_TooFar A_TooLong) (C_refuse_far_jump : Cal P w K mg base "refuse_far_jump" 1 ["by","n"] (spRefJ A_TooFar)) (C_power_left : Cal P w K mg base "power_left" 3 ["by","poly","n"] spPower) (C_of_rule : Cal P w K mg base "of_rule" 2 ["by","rule"] spOfRule) (C_number_at : Cal P w K mg base "number_at" 1 ["poly","k"] spNumAt) : Cal P w K mg base "jump" 4 ["row","n"] (spJump A_TooFar) := by
  refine F.calF sc_jump (fun vs H Q E h => ?_) (fun f cdv A outer s H vs Q E hr h => ?_)
  · obtain ⟨v,r,n,rfl,_⟩ := h; rfl
  · obtain ⟨v,r,n0,rfl,⟨a,p,p2,rfl,hA,hR,hS⟩,ok,q1,q2⟩ := h
    refine ⟨_,(pss_cons (ps_set (i := 2) sc_jump.nd rfl (Or.inl rfl) (pe_ix (xix K) (pv 0) pe_int (fun _ _ => rfl)))
      (pss_cons (ps_set (i := 3) sc_jump.nd rfl (Or.inl rfl) (pe_ix (xix K) (pv 0) pe_int (fun _ _ => rfl)))
      (pss_cons (ps_expr (pe_callCF C_refuse_far_jump hr rfl (pa_n (pv 2) (pa_n (pv 1) pa_nil))))
      (pss_cons (ps_set (i := 4) sc_jump.nd rfl (Or.inr rfl) (pe_callC C_power_left hr rfl (pa_n (pv 2) (pa_cons (pe_callC C_of_rule hr rfl (pa_n (pv 2) (pa_n (pv 3) pa_nil))) (pa_n (pv 1) pa_nil)))))
      (pss_one (ps_ret (pe_callTy (xtuple K) rfl B.b_tuple boot_tuple (pa_cons (pe_comp (sc := cs_jump1) (N := ["i","left"]) (ix := [none,some 4]) (comp_mk (by kernel_rfl) (by kernel_rfl) (by kernel_rfl) (by kernel_rfl) (by kernel_rfl) (by kernel_rfl) (by kernel_rfl) (by kernel_rfl)) rfl (pi_range1 rfl B.b_range (pa_cons (pe_callB (xlen K) rfl B.b_len boot_len (pa_n (pv 3) pa_nil)) pa_nil)) (fun cl C s₀ H₀ ex => ⟨(pg_name (i := 0) (show (["i","left"] : List Str).Nodup by decide +kernel) rfl (Or.inl rfl)),pif_nil,(pe_callC C_number_at hr rfl (pa_n (pv 1) (pa_n (pv 0) pa_nil)))⟩)) pa_nil)))))))),?_⟩
    have hb := ok.byF
    have hl := ok.ok.short
    refine ⟨_,rfl,_,_,.inr (SqT.of hA),rfl,?_⟩
    refine ⟨_,rfl,_,_,.inr (SqT.of hA),rfl,?_⟩
    refine ⟨_,rfl,_,rfl,r.b,n0,rfl,fun hg => ?_,q2⟩
    obtain ⟨hN,q⟩ := q1 hg
    obtain ⟨g0,hn0⟩ := FarBad.not hg
    obtain ⟨n,rfl⟩ : ∃ n : Nat,n0 = (n : Int) := ⟨n0.toNat,by omega⟩
    rw [Int.toNat_natCast] at q
    have hn : r.b = 0 → n ≤ 400 := fun z => by have := hn0 z; omega
    refine ⟨_,rfl,_,rfl,_,rfl,r.b,p,r.rule,rfl,hb.lo,hR,by omega,fun t1 H1 g1 h1 => ?_⟩
    refine ⟨_,rfl,r.b,t1,r.rule,n,rfl,hb,h1,hl,ok.bd,hn,hN,fun t2 H2 l g2 h2 hw hy hz => ?_⟩
    have g12 := g1.trans g2
    refine ⟨_,rfl,.ref p,r.rule.length,rfl,.inr ⟨_,SqT.of (g12 _ _ hR),(List.length_map _).symm⟩,?_⟩
    refine ⟨(r.rule.length : Int),rfl,(by omega : -(2 ^ 62) ≤ (r.rule.length : Int)),(by omega : (r.rule.length : Int) < 2 ^ 62),?_⟩
    rw [Int.toNat_natCast]
    refine comp_rng (n := r.rule.length) (by omega) rfl (fun j => Pm.ej r.b r.rule j n) ?_ ?_
    · intro H3 k g3 hk kk hkk
      refine ⟨_,rfl,_,rfl,t2,l,0 + (k : Int),rfl,g3 _ _ h2,by omega,?_⟩
      rw [show (0 + (k : Int)).toNat = k by omega,hw.co hb.one hy hz hk]
      exact hkk
    · intro D hD
      refine ⟨D,_,rfl,.inl ⟨SqL.of upd_same,fun t ht => ?_⟩⟩
      exact q t _ (g12.trans ((Same.new hD _).trans (Same.new ht _))) upd_same
theorem ok_sum_at (B : Bt mg) (F : Fn K mg "sum_at" s_sum_at ["by","poly","found","n"]) (M : Ms K mg base A_NoBy A_NoName A_NoNumber A_NoRow A_NoText A_RuleError A_TooBig A_TooFar A_TooLong) (C_taken : Cal P w K mg base "taken" 1 ["by","number"] spTaken) : Cal P w K mg base "sum_at" 2 ["by","poly","found","n"] spSumAt := by
  refine F.cal sc_sum_at (fun vs H Q E h => ?_) (fun f cdv A outer s H vs Q E hr h => ?_)
  · obtain ⟨b,a,l,p,f,n,rfl,_⟩ := h; rfl
  · obtain ⟨b,a,l,p,fo,n,rfl,hb,hA,hL,hn,zA,bA,bF,q⟩ := h
    refine ⟨_,(pss_one (ps_ret (pe_callC C_taken hr rfl (pa_n (pv 0) (pa_cons (pe_callB (xsum K rfl) rfl B.b_sum boot_sum (pa_cons (pe_comp (sc := cs_sum_at1) (N := ["k","found","n","poly"]) (ix := [none,some 2,some 3,some 1]) (comp_mk (by kernel_rfl) (by kernel_rfl) (by kernel_rfl) (by kernel_rfl) (by kernel_rfl) (by kernel_rfl) (by kernel_rfl) (by kernel_rfl)) rfl (pi_range1 rfl B.b_range (pa_cons (pe_callB (xlen K) rfl B.b_len boot_len (pa_n (pv 1) pa_nil)) pa_nil)) (fun cl C s₀ H₀ ex => ⟨(pg_name (i := 0) (show (["k","found","n","poly"] : List Str).Nodup by decide +kernel) rfl (Or.inl rfl)),pif_nil,(pe_op v_mul (pe_ix (xix K) (pv 3) (pv 0) (fun _ _ => rfl)) (pe_ix (xix K) (pv 1) (pe_op (xadd K) (pv 2) (pv 0)) (fun _ _ => rfl)))⟩)) pa_nil)) pa_nil))))),?_⟩
    have lC : (p.map V.int).length = p.length := List.length_map _
    refine ⟨_,rfl,_,rfl,.ref a,p.length,rfl,.inr ⟨_,SqT.of hA,lC.symm⟩,?_⟩
    refine ⟨(p.length : Int),rfl,(by omega : -(2 ^ 62) ≤ (p.length : Int)),(by omega : (p.length : Int) < 2 ^ 62),?_⟩
    rw [Int.toNat_natCast]
    refine comp_rng (n := p.length) zA rfl (fun k => Pm.co p k * Pm.co fo (n + k)) ?_ ?_
    · intro H2 k g2 hk kk hkk
      have e1 : (0 + (k : Int)).toNat = k := by omega
      have e2 : (0 + (n : Int) + (0 + (k : Int))).toNat = n + k := by omega
      refine ⟨_,rfl,_,rfl,_,_,.inr (SqT.of (g2 _ _ hA)),atI_ints (ns := p) (by omega : (0 : Int) ≤ 0 + (k : Int)) (by omega),?_⟩
      refine ⟨_,rfl,_,rfl,_,rfl,_,_,hL.imp (fun z => SqL.of (g2 _ _ z)) (fun z => SqT.of (g2 _ _ z)),atI_ints (ns := fo) (by omega : (0 : Int) ≤ 0 + (n : Int) + (0 + (k : Int))) (by omega),?_⟩
      refine ⟨mulBd (Rm.Bd.getD bA _) (Rm.Bd.getD bF _) (by decide),?_⟩
      rw [e1,e2]
      exact hkk
    · intro D hD
      refine ⟨D,_,rfl,SqL.of upd_same,b,_,rfl,hb,?_⟩
      have := q _ (Same.new hD (.lst ((Pm.ofF p.length fun k => Pm.co p k * Pm.co fo (n + k)).map V.int)))
      unfold Pm.ks at this
      rw [Pm.ofF,Pm.list_sum]
      exact this
theorem ok_place_at (B : Bt mg) (F : Fn K mg "place_at" s_place_at ["row","n"]) (M : Ms K mg base A_NoBy A_NoName A_NoNumber A_NoRow A_NoText A_RuleError A_TooBig A_TooFar A_TooLong) (C_sum_at : Cal P w K mg base "sum_at" 2 ["by","poly","found","n"] spSumAt) (C_jump : Cal P w K mg base "jump" 4 ["row","n"] (spJump A_TooFar)) : Cal P w K mg base "place_at" 5 ["row","n"] (spPlaceAt A_TooFar) := by
  refine F.calF sc_place_at (fun vs H Q E h => ?_) (fun f cdv A outer s H vs Q E hr h => ?_)
  · obtain ⟨v,r,n,rfl,_⟩ := h; rfl
  · obtain ⟨v,r,n0,rfl,hR,ok,q1,q2⟩ := h
    refine ⟨_,(pss_one (ps_ret (pe_callC C_sum_at hr rfl (pa_cons (pe_ix (xix K) (pv 0) pe_int (fun _ _ => rfl)) (pa_cons (pe_callCF C_jump hr rfl (pa_n (pv 0) (pa_n (pv 1) pa_nil))) (pa_cons (pe_ix (xix K) (pv 0) pe_int (fun _ _ => rfl)) (pa_k pe_int pa_nil))))))),?_⟩
    obtain ⟨a,p,p2,rfl,hA,hP,hS⟩ := id hR
    have hsh := ok.ok.short
    have hl := ok.ok.len
    refine ⟨_,rfl,_,_,.inr (SqT.of hA),rfl,?_⟩
    refine ⟨_,rfl,_,rfl,.ref a,r,n0,rfl,hR,ok,fun hg => ⟨(q1 hg).1,fun tj H1 g1 hj => ?_⟩,q2⟩
    obtain ⟨hN,q⟩ := q1 hg
    obtain ⟨g0,hn0⟩ := FarBad.not hg
    obtain ⟨n,rfl⟩ : ∃ n : Nat,n0 = (n : Int) := ⟨n0.toNat,by omega⟩
    rw [Int.toNat_natCast] at q hj
    have hn : r.b = 0 → n ≤ 400 := fun z => by have := hn0 z; omega
    refine ⟨_,rfl,_,_,.inr (SqT.of (g1 _ _ hA)),rfl,?_⟩
    refine ⟨r.b,tj,p2,Pm.rest r.b r.rule n,r.starts,0,rfl,ok.ok.by0,hj,.inr (g1 _ _ hS),by rw [Pm.rest_len]; omega,by rw [Pm.rest_len]; omega,fun x hx => (ok.rest_bd (fun z => by have := hn z; omega) x hx).mono (by decide),fun x hx => (ok.ok.startsBd x hx).mono (by decide),fun H2 g2 => ?_⟩
    rw [← ok.row_starts,ok.sum_at n 0 r.rule.length (by omega),Nat.zero_add]
    exact q _ (g1.trans g2)
theorem ok_onward (B : Bt mg) (F : Fn K mg "onward" s_onward ["row","n"]) (M : Ms K mg base A_NoBy A_NoName A_NoNumber A_NoRow A_NoText A_RuleError A_TooBig A_TooFar A_TooLong) (C_jump : Cal P w K mg base "jump" 4 ["row","n"] (spJump A_TooFar)) (C_first_places : Cal P w K mg base "first_places" 3 ["row","count"] (spFirst K)) (C_sum_at : Cal P w K mg base "sum_at" 2 ["by","poly","found","n"] spSumAt) : Cal P w K mg base "onward" 5 ["row","n"] (spOnward A_TooFar) := by
  refine F.calF sc_onward (fun vs H Q E h => ?_) (fun f cdv A outer s H vs Q E hr h => ?_)
  · obtain ⟨v,r,n,rfl,_⟩ := h; rfl
  · obtain ⟨v,r,n0,rfl,hR,ok,q1,q2⟩ := h
    refine ⟨_,(pss_cons (ps_set (i := 2) sc_onward.nd rfl (Or.inr rfl) (pe_ix (xix K) (pv 0) pe_int (fun _ _ => rfl)))
      (pss_cons (ps_set (i := 3) sc_onward.nd rfl (Or.inr rfl) (pe_callCF C_jump hr rfl (pa_n (pv 0) (pa_n (pv 1) pa_nil))))
      (pss_cons (ps_set (i := 4) sc_onward.nd rfl (Or.inr rfl) (pe_callC C_first_places hr rfl (pa_n (pv 0) (pa_b (pe_op v_mul pe_int (pe_callB (xlen K) rfl B.b_len boot_len (pa_n (pv 3) pa_nil))) pa_nil))))
      (pss_cons (ps_setC (i := 5) (hN := sc_onward.nd) (hi' := rfl) (hx := (Or.inl rfl)) (sc := cs_onward1) (N := ["m","by","near","numbers"]) (ix := [none,some 2,some 4,some 3]) (comp_mk (by kernel_rfl) (by kernel_rfl) (by kernel_rfl) (by kernel_rfl) (by kernel_rfl) (by kernel_rfl) (by kernel_rfl) (by kernel_rfl)) rfl (pi_range1 rfl B.b_range (pa_cons (pe_callB (xlen K) rfl B.b_len boot_len (pa_n (pv 3) pa_nil)) pa_nil)) (fun cl C s₀ H₀ ex => ⟨(pg_name (i := 0) (show (["m","by","near","numbers"] : List Str).Nodup by decide +kernel) rfl (Or.inl rfl)),pif_nil,(pe_callC C_sum_at hr rfl (pa_n (pv 1) (pa_n (pv 3) (pa_n (pv 2) (pa_n (pv 0) pa_nil)))))⟩))
      (pss_one (ps_ret (pe_tup (pa_n (pv 2) (pa_cons (pe_ix (xix K) (pv 0) pe_int (fun _ _ => rfl)) (pa_cons (pe_callTy (xtuple K) rfl B.b_tuple boot_tuple (pa_n (pv 5) pa_nil)) pa_nil)))))))))),?_⟩
    obtain ⟨a,p,p2,rfl,hA,hP,hS⟩ := id hR
    have hsh := ok.ok.short
    have hl := ok.ok.len
    refine ⟨_,rfl,_,_,.inr (SqT.of hA),rfl,?_⟩
    refine ⟨_,rfl,_,rfl,.ref a,r,n0,rfl,hR,ok,fun hg => ⟨(q1 hg).1,fun tj H1 g1 hj => ?_⟩,q2⟩
    obtain ⟨hN,q⟩ := q1 hg
    obtain ⟨g0,hn0⟩ := FarBad.not hg
    obtain ⟨n,rfl⟩ : ∃ n : Nat,n0 = (n : Int) := ⟨n0.toNat,by omega⟩
    rw [Int.toNat_natCast] at q hj
    have hn : r.b = 0 → n ≤ 400 := fun z => by have := hn0 z; omega
    have lJ : ((Pm.rest r.b r.rule n).map V.int).length = r.rule.length := by rw [List.length_map,Pm.rest_len]
    refine ⟨_,rfl,_,rfl,.ref tj,r.rule.length,rfl,.inr ⟨_,SqT.of hj,lJ.symm⟩,?_⟩
    refine ⟨mulL (by decide) (by decide),.ref a,r,2 * (r.rule.length : Int),rfl,hR.same g1,ok.ok,by omega,by omega,fun ln H2 g2 fn hn2 => ?_⟩
    rw [show (2 * (r.rule.length : Int)).toNat = 2 * r.rule.length by omega] at hn2
    have hj2 := g2 _ _ hj
    refine ⟨_,rfl,.ref tj,r.rule.length,rfl,.inr ⟨_,SqT.of hj2,lJ.symm⟩,?_⟩
    refine ⟨(r.rule.length : Int),rfl,(by omega : -(2 ^ 62) ≤ (r.rule.length : Int)),(by omega : (r.rule.length : Int) < 2 ^ 62),?_⟩
    rw [Int.toNat_natCast]
    refine comp_rngV (n := r.rule.length) (by omega) rfl (fun m => r.at (m + n)) ?_ ?_
    · intro H3 k g3 hk kk hkk
      refine ⟨_,rfl,_,rfl,_,rfl,_,rfl,r.b,tj,ln,Pm.rest r.b r.rule n,r.row (2 * r.rule.length),k,rfl,ok.ok.by0,g3 _ _ hj2,.inl (g3 _ _ hn2),by rw [Pm.rest_len,Rw.row_len]; omega,by rw [Pm.rest_len]; omega,
        fun x hx => (ok.rest_bd (fun z => by have := hn z; omega) x hx).mono (by decide),ok.ok.rowBd _ (by omega),fun H4 g4 => ?_⟩
      rw [ok.sum_at n k (2 * r.rule.length) (by omega)]
      exact hkk _ g4
    · intro D H3 hD g3 h3
      have g13 := g1.trans (g2.trans g3)
      refine ⟨_,rfl,_,rfl,_,_,.inr (SqT.of (g13 _ _ hA)),rfl,_,rfl,D,_,rfl,.inl ⟨SqL.of h3,fun t ht => ⟨(by show 3 ≤ sizeLine; decide),fun pp hp => ?_⟩⟩⟩
      have g4 := Same.new ht (.tup ((Pm.ofF r.rule.length fun m => r.at (m + n)).map V.int))
      have g5 := Same.new hp (.tup [.int r.b,.ref p,.ref t])
      exact q _ _ (g13.trans (g4.trans g5)) ⟨pp,p,t,rfl,upd_same,g5 _ _ (g4 _ _ (g13 _ _ hP)),g5 _ _ upd_same⟩
theorem ok_Lcell_at (B : Bt mg) (F : Fn K mg "_law_cell_at" s_Lcell_at ["_law_script","_law_k"]) (M : Ms K mg base A_NoBy A_NoName A_NoNumber A_NoRow A_NoText A_RuleError A_TooBig A_TooFar A_TooLong) : Cal P w K mg base "_law_cell_at" 1 ["_law_script","_law_k"] (spCellF K) := by
  refine F.cal sc_Lcell_at (fun vs H Q E h => ?_) (fun f cdv A outer s H vs Q E hr h => ?_)
  · obtain ⟨a,ns,k,rfl,_⟩ := h; rfl
  · obtain ⟨a,ns,k,rfl,hS,h0,h1,hB,q⟩ := h
    refine ⟨_,(pss_cons (ps_if (pt_cmpR op_lt (pv 1) (pe_callB (xlen K) rfl B.b_len boot_len (pa_n (pv 0) pa_nil)) (nomark _))
      (pss_one (ps_ret (pe_ix (xix K) (pv 0) (pv 1) (fun _ _ => rfl))))
      pss_nil)
      (pss_one (ps_ret (pe_op v_mul (pe_op (xadd K) (pe_op v_mul (pv 1) pe_int) pe_int) (pe_op (xadd K) (pv 1) pe_int))))),?_⟩
    have hl : (ns.map V.int).length = ns.length := List.length_map _
    refine ⟨_,rfl,_,rfl,.ref a,ns.length,rfl,.inl ⟨_,hS,hl.symm⟩,_,_,rfl,rfl,_,rfl,?_⟩
    refine ite2 (fun c => ?_) (fun c => ?_)
    · have c' : k < (ns.length : Int) := dec_true c
      refine ⟨_,rfl,_,rfl,ns.map V.int,.int (ns.getD k.toNat 0),.inl hS,atI_ints h0 c',q _ ?_⟩
      exact intBits_le_iff.mp (hB _ (Pm.co_mem (by omega)))
    · refine ⟨_,rfl,mulR (by decide) (by decide),_,rfl,mulR (by show -(2 ^ 64) < k + 31; omega) (by show k + 31 < 2 ^ 64; omega),q _ ?_⟩
      refine (Rm.Bd.mul (m := 40) (n := 40) (Rm.Bd.of (by omega) (by omega)) (Rm.Bd.of (by omega) (by omega))).mono (by decide)
theorem ok_Lmix (B : Bt mg) (F : Fn K mg "_law_mix" s_Lmix ["_law_cell","_law_k"]) (M : Ms K mg base A_NoBy A_NoName A_NoNumber A_NoRow A_NoText A_RuleError A_TooBig A_TooFar A_TooLong) : Cal P w K mg base "_law_mix" 1 ["_law_cell","_law_k"] spMixF := by
  refine F.cal sc_Lmix (fun vs H Q E h => ?_) (fun f cdv A outer s H vs Q E hr h => ?_)
  · obtain ⟨c,k,rfl,_⟩ := h; rfl
  · obtain ⟨c,k,rfl,h0,h1,q⟩ := h
    refine ⟨_,(pss_cons (ps_set (i := 2) sc_Lmix.nd rfl (Or.inl rfl) (pe_op op_mod (pe_op (xadd K) (pe_op v_mul (pe_op (xadd K) (pe_op op_mod (pv 0) pe_int) pe_int) (pe_op (xadd K) (pe_op (xadd K) pe_int (pe_op v_mul pe_int (pv 1))) (pe_op v_mul (pe_op v_mul pe_int (pv 1)) (pv 1)))) (pv 1)) pe_int))
      (pss_cons (ps_set (i := 2) sc_Lmix.nd rfl (Or.inl rfl) (pe_op op_mod (pe_op v_mul (pv 2) (pv 2)) pe_int))
      (pss_one (ps_ret (pe_op op_fdiv (pe_op op_mod (pe_op v_mul (pv 2) (pe_op (xadd K) (pe_op (xadd K) (pv 2) (pv 1)) pe_int)) pe_int) pe_int))))),?_⟩
    have b1 : 0 ≤ c % 2147483629 := emod_lo _ (by decide)
    have b2 : c % 2147483629 < 2147483629 := emod_hi _ (by decide)
    refine ⟨_,rfl,_,_,rfl,rfl,(by decide : (0 : Int) < 2147483629),?_⟩
    refine ⟨_,rfl,mulL (by decide) (by decide),_,rfl,mulL (by decide) (by decide),_,rfl,mulR (by omega) (by omega),?_⟩
    refine ⟨mulL (by show -(2 ^ 64) < c % 2147483629 + 1; omega) (by show c % 2147483629 + 1 < 2 ^ 64; omega),_,rfl,_,_,rfl,rfl,(by decide : (0 : Int) < 2147483647),?_⟩
    dsimp only
    have m0 := emod_lo ((c % 2147483629 + 1) * (48271 + 69621 * k + 2 * k * k) + k) (show (0 : Int) < 2147483647 by decide)
    have m1 := emod_hi ((c % 2147483629 + 1) * (48271 + 69621 * k + 2 * k * k) + k) (show (0 : Int) < 2147483647 by decide)
    generalize ((c % 2147483629 + 1) * (48271 + 69621 * k + 2 * k * k) + k) % 2147483647 = y at m0 m1
    refine ⟨_,rfl,_,rfl,mulL (by omega) (by omega),_,_,rfl,rfl,(by decide : (0 : Int) < 2147483629),?_⟩
    dsimp only
    have n0 := emod_lo (y * y) (show (0 : Int) < 2147483629 by decide)
    have n1 := emod_hi (y * y) (show (0 : Int) < 2147483629 by decide)
    generalize y * y % 2147483629 = z at n0 n1
    refine ⟨_,rfl,_,rfl,_,rfl,mulL (by omega) (by omega),_,_,rfl,rfl,(by decide : (0 : Int) < 2147483587),_,_,rfl,rfl,⟨by decide,by decide⟩,?_⟩
    have l0 := emod_lo (z * (z + k + 1)) (show (0 : Int) < 2147483587 by decide)
    have l1 := emod_hi (z * (z + k + 1)) (show (0 : Int) < 2147483587 by decide)
    generalize hw : z * (z + k + 1) % 2147483587 = w at l0 l1
    exact q _ (by omega) (by omega)
theorem ok_Ldrawn_by (B : Bt mg) (F : Fn K mg "_law_drawn_by" s_Ldrawn_by ["_law_cell"]) (M : Ms K mg base A_NoBy A_NoName A_NoNumber A_NoRow A_NoText A_RuleError A_TooBig A_TooFar A_TooLong) (C_Lmix : Cal P w K mg base "_law_mix" 1 ["_law_cell","_law_k"] spMixF) : Cal P w K mg base "_law_drawn_by" 2 ["_law_cell"] spByF := by
  refine F.cal sc_Ldrawn_by (fun vs H Q E h => ?_) (fun f cdv A outer s H vs Q E hr h => ?_)
  · obtain ⟨c,rfl,_⟩ := h; rfl
  · obtain ⟨c,rfl,q⟩ := h
    refine ⟨_,(pss_one (ps_ret (pe_ix (xix K) (pe_lst (pa_k pe_int (pa_k pe_int (pa_k pe_int (pa_k pe_int (pa_k pe_int (pa_k pe_int (pa_k pe_int (pa_k pe_int (pa_k pe_int (pa_k pe_int pa_nil))))))))))) (pe_op op_mod (pe_callC C_Lmix hr rfl (pa_n (pv 0) (pa_k pe_int pa_nil))) pe_int) (fun _ _ => rfl)))),?_⟩
    refine ⟨(by show 10 ≤ sizeLine; decide),fun p hp => ?_⟩
    refine ⟨_,rfl,c,1,rfl,by decide,by decide,fun x h0 h1 => ?_⟩
    have e0 := emod_lo x (show (0 : Int) < 10 by decide)
    have e1 := emod_hi x (show (0 : Int) < 10 by decide)
    refine ⟨_,_,rfl,rfl,(by decide : (0 : Int) < 10),_,_,.inl (SqL.of upd_same),atI_ints (ns := byF) e0 e1,?_⟩
    have := byF_ok (x % 10).toNat (by omega)
    exact q _ _ (Same.new hp _) ⟨this.1,this.2.1,this.2.2⟩
theorem ok_Ltaken (B : Bt mg) (F : Fn K mg "_law_taken" s_Ltaken ["_law_by","_law_number"]) (M : Ms K mg base A_NoBy A_NoName A_NoNumber A_NoRow A_NoText A_RuleError A_TooBig A_TooFar A_TooLong) : Cal P w K mg base "_law_taken" 1 ["_law_by","_law_number"] spTaken := by
  refine F.cal sc_Ltaken (fun vs H Q E h => ?_) (fun f cdv A outer s H vs Q E hr h => ?_)
  · obtain ⟨b,n,rfl,_⟩ := h; rfl
  · obtain ⟨b,n,rfl,h0,q⟩ := h
    refine ⟨_,(pss_cons (ps_if (pt_cmpR (xeq K hr) (pv 0) pe_int (nomark _))
      (pss_one (ps_ret (pv 1)))
      pss_nil)
      (pss_one (ps_ret (pe_op op_mod (pv 1) (pv 0))))),?_⟩
    refine ⟨_,rfl,_,rfl,?_⟩
    refine ite2 (fun c => ?_) (fun c => ?_)
    · refine ⟨_,rfl,?_⟩
      have c' : b = 0 := dec_true c
      have e : Rm.tk b n = n := by rw [c',Rm.tk_zero]
      rw [e] at q; exact q
    · have c' : ¬ b = 0 := dec_false c
      refine ⟨_,rfl,_,rfl,_,_,rfl,rfl,(by omega : (0 : Int) < b),?_⟩
      rw [Rm.tk_pos c'] at q; exact q
theorem ok_Lone_number (B : Bt mg) (F : Fn K mg "_law_one_number" s_Lone_number ["_law_by","_law_cell","_law_k"]) (M : Ms K mg base A_NoBy A_NoName A_NoNumber A_NoRow A_NoText A_RuleError A_TooBig A_TooFar A_TooLong) (C_Lmix : Cal P w K mg base "_law_mix" 1 ["_law_cell","_law_k"] spMixF) (C_Ltaken : Cal P w K mg base "_law_taken" 1 ["_law_by","_law_number"] spTaken) : Cal P w K mg base "_law_one_number" 2 ["_law_by","_law_cell","_law_k"] spOneF := by
  refine F.cal sc_Lone_number (fun vs H Q E h => ?_) (fun f cdv A outer s H vs Q E hr h => ?_)
  · obtain ⟨b,c,k,rfl,_⟩ := h; rfl
  · obtain ⟨b,c,k,rfl,hb,hc,h0,h1,q⟩ := h
    refine ⟨_,(pss_cons (ps_set (i := 3) sc_Lone_number.nd rfl (Or.inl rfl) (pe_op op_sub (pe_op (xadd K) (pe_op op_mod (pe_op v_mul (pe_op (xadd K) (pv 1) pe_int) (pe_op op_pow (pe_op (xadd K) (pv 2) pe_int) pe_int)) (pe_op op_sub (pe_op v_mul pe_int (pe_op op_pow pe_int pe_int)) pe_int)) pe_int) (pe_op op_pow pe_int pe_int)))
      (pss_cons (ps_set (i := 4) sc_Lone_number.nd rfl (Or.inl rfl) (pe_ix (xix K) (pe_lst (pa_k pe_int (pa_k pe_int (pa_u (pe_un un_neg pe_int) (pa_k pe_int (pa_k pe_int (pa_u (pe_un un_neg pe_int) (pa_k pe_int (pa_k pe_int (pa_k pe_int (pa_k pe_int pa_nil))))))))))) (pe_op op_mod (pe_callC C_Lmix hr rfl (pa_n (pv 1) (pa_b (pe_op (xadd K) pe_int (pv 2)) pa_nil))) pe_int) (fun _ _ => rfl)))
      (pss_one (ps_ret (pe_callC C_Ltaken hr rfl (pa_n (pv 0) (pa_cons (pe_ix (xix K) (pe_lst (pa_n (pv 4) (pa_n (pv 3) pa_nil))) (pe_callTy call_int1 rfl B.b_int boot_int (pa_cons (pe_or (pe_cmpR op_gt (pv 0) pe_int (nomark _)) (pe_one (pe_and (pe_cmpR op_gt (pv 2) pe_int (nomark _)) (pe_one (pe_cmpR (xeq K hr) (pe_op op_mod (pe_callC C_Lmix hr rfl (pa_n (pv 1) (pa_b (pe_op (xadd K) pe_int (pv 2)) pa_nil))) pe_int) pe_int (nomark _)))))) pa_nil)) (fun _ _ => rfl)) pa_nil))))))),?_⟩
    have hp7 : Rm.Bd (6 * 7 + 1) ((k + 3) ^ 7) := Bd_pow (Rm.Bd.of (by omega) (by omega)) 7
    refine ⟨_,rfl,_,rfl,_,_,rfl,rfl,⟨by decide,by decide,by show (k + 3).natAbs < 2 ^ 64; omega⟩,mulBd (m := 1048577) (n := 43) (Rm.Bd.add hc ((Rm.Bd.of (n := 1) (by decide) (by decide)).mono (by decide))) hp7 (by decide),?_⟩
    refine ⟨_,_,rfl,rfl,⟨by decide,by decide,by decide⟩,mulL (by decide) (by decide),_,_,rfl,rfl,_,_,rfl,rfl,(by decide : (0 : Int) < 2 * 10 ^ (9 : Int).toNat - 1),?_⟩
    refine ⟨_,_,rfl,rfl,⟨by decide,by decide,by decide⟩,_,_,rfl,rfl,?_⟩
    dsimp only
    have f0 := emod_lo ((c + 1) * (k + 3) ^ (7 : Int).toNat) (show (0 : Int) < 2 * 10 ^ (9 : Int).toNat - 1 by decide)
    have f1 := emod_hi ((c + 1) * (k + 3) ^ (7 : Int).toNat) (show (0 : Int) < 2 * 10 ^ (9 : Int).toNat - 1 by decide)
    have ef : (2 * 10 ^ (9 : Int).toNat - 1 : Int) = 1999999999 := by decide
    have eg : (10 ^ (9 : Int).toNat : Int) = 1000000000 := by decide
    generalize hfar : (c + 1) * (k + 3) ^ (7 : Int).toNat % (2 * 10 ^ (9 : Int).toNat - 1) + 1 - 10 ^ (9 : Int).toNat = far
    have bfar : Rm.Bd 31 far := by
      rw [ef] at f0 f1 hfar
      rw [eg] at hfar
      generalize (c + 1) * (k + 3) ^ (7 : Int).toNat % 1999999999 = w at f0 f1 hfar
      exact Rm.Bd.of (by omega) (by omega)
    clear f0 f1 hfar
    refine ⟨_,rfl,_,rfl,(by show 10 ≤ sizeLine; decide),fun p hp => ?_⟩
    refine ⟨_,rfl,_,rfl,c,20 + k,rfl,by omega,by omega,fun x x0 x1 => ?_⟩
    have e0 := emod_lo x (show (0 : Int) < 10 by decide)
    have e1 := emod_hi x (show (0 : Int) < 10 by decide)
    refine ⟨_,_,rfl,rfl,(by decide : (0 : Int) < 10),_,_,.inl (SqL.of upd_same),atI_ints (ns := smallF) e0 e1,?_⟩
    have bs := smallF_ok (x % 10).toNat (by omega)
    generalize smallF.getD (x % 10).toNat 0 = sm at bs
    have bsm : Rm.Bd 31 sm := Rm.Bd.of (by omega) (by omega)
    have g1 := Same.new hp (.lst ([.int 0,.int 1,.int (-1),.int 2,.int 1,.int (-2),.int 3,.int 0,.int 1,.int 5]))
    generalize upd H p (.lst ([.int 0,.int 1,.int (-1),.int 2,.int 1,.int (-2),.int 3,.int 0,.int 1,.int 5])) = H1 at g1
    refine ⟨_,rfl,_,rfl,_,rfl,(by show 2 ≤ sizeLine; decide),fun p2 hp2 => ?_⟩
    have g2 := Same.new hp2 (.lst [.int sm,.int far])
    have g12 := g1.trans g2
    have hL : (upd H1 p2 (.lst [.int sm,.int far])) p2 = some (.lst ([sm,far].map V.int)) := upd_same
    generalize upd H1 p2 (.lst [.int sm,.int far]) = H2 at g2 g12 hL
    have fin0 : ∀ x,Rm.Bd 31 x → Q (.int (Rm.tk b x)) H2 := fun x hx => q _ _ g12 (tk_num hb.lo x) (tk_bdF hb (by decide) hx)
    have fin : ∀ t : Bool,∃ v,atI ([sm,far].map V.int) (if t = true then 1 else 0) = some (.int v) ∧ Q (.int (Rm.tk b v)) H2 := fun t => by
      cases t
      · exact ⟨_,atI_ints (ns := [sm,far]) (by decide) (by show (0 : Int) < 2; decide),fin0 _ bsm⟩
      · exact ⟨_,atI_ints (ns := [sm,far]) (by decide) (by show (1 : Int) < 2; decide),fin0 _ bfar⟩
    refine ⟨_,rfl,_,_,rfl,rfl,_,rfl,?_⟩
    refine ite2 (fun _ => .inr ⟨_,rfl,_,_,.inl (SqL.of hL),(fin true).choose_spec.1,b,_,rfl,hb.lo,(fin true).choose_spec.2⟩) (fun _ => ?_)
    refine ⟨_,rfl,_,_,rfl,rfl,_,rfl,?_⟩
    refine ite2 (fun _ => ?_) (fun _ => .inr ⟨_,rfl,_,_,.inl (SqL.of hL),(fin false).choose_spec.1,b,_,rfl,hb.lo,(fin false).choose_spec.2⟩)
    refine ⟨_,rfl,_,rfl,c,50 + k,rfl,by omega,by omega,fun x2 _ _ => ?_⟩
    refine ⟨_,_,rfl,rfl,(by decide : (0 : Int) < 7),?_⟩
    exact .inr ⟨_,rfl,_,_,.inl (SqL.of hL),(fin _).choose_spec.1,b,_,rfl,hb.lo,(fin _).choose_spec.2⟩
theorem ok_Lplaces (B : Bt mg) (F : Fn K mg "_law_places" s_Lplaces ["_law_row","_law_count"]) (M : Ms K mg base A_NoBy A_NoName A_NoNumber A_NoRow A_NoText A_RuleError A_TooBig A_TooFar A_TooLong) (C_Ltaken : Cal P w K mg base "_law_taken" 1 ["_law_by","_law_number"] spTaken) : Cal P w K mg base "_law_places" 2 ["_law_row","_law_count"] spPlacesF := by
  refine F.cal sc_Lplaces (fun vs H Q E h => ?_) (fun f cdv A outer s H vs Q E hr h => ?_)
  · obtain ⟨v,r,c,rfl,_⟩ := h; rfl
  · obtain ⟨v,r,c,rfl,⟨a,p,p2,rfl,hA,hR,hS⟩,ok,hc0,hc1,q⟩ := h
    refine ⟨_,(pss_cons (ps_asg (pv 0) (xgtup K (n := 3) rfl (pgs_cons (pg_name (i := 2) sc_Lplaces.nd rfl (Or.inl rfl)) (pgs_cons (pg_name (i := 3) sc_Lplaces.nd rfl (Or.inr rfl)) (pgs_cons (pg_name (i := 4) sc_Lplaces.nd rfl (Or.inl rfl)) pgs_nil)))))
      (pss_cons (ps_set (i := 5) sc_Lplaces.nd rfl (Or.inr rfl) (pe_bar (pe_callTy (xlist K) rfl B.b_list boot_list (pa_cons (pe_slice (xsl K) (pv 4) po_none (po_some (pv 1))) pa_nil))))
      (pss_cons (ps_while PassesOwn.never (pt_cmpR op_lt (pe_callB (xlen K) rfl B.b_len boot_len (pa_n (pv 5) pa_nil)) (pv 1) (nomark _))
      (pss_cons (ps_set (i := 6) sc_Lplaces.nd rfl (Or.inl rfl) (pe_callB (xsum K rfl) rfl B.b_sum boot_sum (pa_cons (pe_comp (sc := cs_Lplaces1) (N := ["_law_k","_law_found","_law_rule"]) (ix := [none,some 5,some 3]) (comp_mk (by kernel_rfl) (by kernel_rfl) (by kernel_rfl) (by kernel_rfl) (by kernel_rfl) (by kernel_rfl) (by kernel_rfl) (by kernel_rfl)) rfl (pi_range1 rfl B.b_range (pa_cons (pe_callB (xlen K) rfl B.b_len boot_len (pa_n (pv 3) pa_nil)) pa_nil)) (fun cl C s₀ H₀ ex => ⟨(pg_name (i := 0) (show (["_law_k","_law_found","_law_rule"] : List Str).Nodup by decide +kernel) rfl (Or.inl rfl)),pif_nil,(pe_op v_mul (pe_ix (xix K) (pv 2) (pv 0) (fun _ _ => rfl)) (pe_ix (xix K) (pv 1) (pe_op op_sub (pe_un un_neg pe_int) (pv 0)) (fun _ _ => rfl)))⟩)) pa_nil)))
      (pss_one (ps_expr (xappend K (pv 5) (pe_callC C_Ltaken hr rfl (pa_n (pv 2) (pa_n (pv 6) pa_nil))))))))
      (pss_one (ps_ret (pv 5)))))),?_⟩
    have hl := ok.len
    have hl2 := ok.short
    have lS : (r.starts.map V.int).length = r.starts.length := List.length_map _
    have lR : (r.rule.map V.int).length = r.rule.length := List.length_map _
    refine ⟨_,rfl,a,_,rfl,SqT.of hA,rfl,_,_,rfl,_,_,rfl,_,_,rfl,rfl,?_⟩
    have hcut : cutV (r.starts.map V.int) none (some c) = (r.row (min c.toNat r.starts.length)).map V.int := by
      have e : r.row (min c.toNat r.starts.length) = r.starts.take (min c.toNat r.starts.length) := Rm.row_starts (Nat.min_le_right _ _)
      rw [e]
      have e2 : c = ((c.toNat : Nat) : Int) := by omega
      unfold cutV
      rw [e2,HT.sIx_nat,HT.sIx_none,List.drop_zero,Nat.sub_zero,lS,List.map_take,Int.toNat_natCast]
    refine Bar.by (fun v H1 => ∃ l,v = .ref l ∧ Same H H1 ∧ H l = none ∧ H1 l = some (.lst ((r.row (min c.toNat r.starts.length)).map V.int))) (fun kk hkk => ?_) ?_
    · refine ⟨_,rfl,_,rfl,_,rfl,?_⟩
      by_cases hw : r.starts.length ≤ c.toNat
      · refine .inr (.inr ⟨_,SqT.of hS,?_,?_⟩)
        · have e2 : c = ((c.toNat : Nat) : Int) := by omega
          rw [e2,HT.sIx_nat,HT.sIx_none,lS]; omega
        · refine ⟨p2,_,rfl,.inr (SqT.of hS),fun l hl1 => hkk _ _ ⟨l,rfl,Same.new hl1 _,hl1,?_⟩⟩
          rw [upd_same,Nat.min_eq_right hw]
          have e : r.row r.starts.length = r.starts := (Rm.row_starts (Nat.le_refl _)).trans (List.take_length ..)
          rw [e]
      · refine .inr (.inl ⟨_,SqT.of hS,?_,fun p3 hp3 => ?_⟩)
        · have e2 : c = ((c.toNat : Nat) : Int) := by omega
          rw [e2,HT.sIx_nat,HT.sIx_none,lS]; omega
        · refine ⟨p3,_,rfl,.inr (SqT.of upd_same),fun l hl1 => ?_⟩
          have g3 := Same.new hp3 (.tup (cutV (r.starts.map V.int) none (some c)))
          refine hkk _ _ ⟨l,rfl,g3.trans (Same.new hl1 _),g3.free hl1,?_⟩
          rw [upd_same,hcut]
    rintro v H1 ⟨l,rfl,g1,hl1,hr1⟩
    refine ⟨fun m σ' H' => ∃ (n : Nat) (o6 : Option V),m = c.toNat - n ∧ min c.toNat r.starts.length ≤ n ∧ n ≤ c.toNat ∧ σ' = [some (.ref a),some (.int c),some (.int r.b),some (.ref p),some (.ref p2),some (.ref l),o6] ∧ Same H H' ∧ H' l = some (.lst ((r.row n).map V.int)),
      ⟨_,min c.toNat r.starts.length,_,rfl,Nat.le_refl _,Nat.min_le_left _ _,rfl,g1,hr1⟩,?_⟩
    rintro m σ' H' ⟨n,o6,rfl,h1,h2,rfl,g,hL⟩
    have lL : ((r.row n).map V.int).length = n := by rw [List.length_map,Rw.row_len]
    have lN : (r.row n).length = n := Rw.row_len ..
    refine ⟨_,rfl,.ref l,n,rfl,.inl ⟨_,SqL.of hL,lL.symm⟩,_,rfl,_,_,rfl,rfl,_,rfl,?_⟩
    refine ite2 (fun cc => ?_) (fun cc => ?_)
    · have hn : n < c.toNat := by have := dec_true cc; omega
      refine ⟨_,fun _ _ z => z,?_⟩
      refine ⟨_,rfl,.ref p,r.rule.length,rfl,.inr ⟨_,SqT.of (g _ _ hR),lR.symm⟩,?_⟩
      refine ⟨(r.rule.length : Int),rfl,(by omega : -(2 ^ 62) ≤ (r.rule.length : Int)),(by omega : (r.rule.length : Int) < 2 ^ 62),?_⟩
      rw [Int.toNat_natCast]
      refine comp_rng (n := r.rule.length) (by omega) rfl (fun k => r.rule.getD k 0 * (r.row n).getD (n - 1 - k) 0) ?_ ?_
      · intro H2 k g2 hk kk hkk
        refine ⟨_,rfl,_,rfl,_,_,.inr (SqT.of (g2 _ _ (g _ _ hR))),atI_ints (ns := r.rule) (by omega : (0 : Int) ≤ 0 + (k : Int)) (by omega),?_⟩
        refine ⟨_,rfl,_,rfl,_,rfl,_,_,rfl,rfl,_,_,.inl (SqL.of (g2 _ _ hL)),atI_back (ns := r.row n) (n - 1 - k) (by omega) (by rw [lN]; omega),?_⟩
        refine ⟨mulBd (Rm.Bd.getD ok.ruleBd _) (Rm.Bd.getD (ok.rowBd n (by omega)) _) (by decide),?_⟩
        rw [show (0 + (k : Int)).toNat = k by omega]
        exact hkk
      · intro D hD
        have gD := Same.new hD (.lst ((Pm.ofF r.rule.length fun k => r.rule.getD k 0 * (r.row n).getD (n - 1 - k) 0).map V.int))
        refine ⟨D,_,rfl,SqL.of upd_same,?_⟩
        have es : (Pm.ofF r.rule.length fun k => r.rule.getD k 0 * (r.row n).getD (n - 1 - k) 0).sum = Rm.S r.rule (fun i => (r.row n).getD i 0) n r.rule.length := sum_S r.rule (fun i => (r.row n).getD i 0) n r.rule.length
        rw [es]
        have hL3 := gD _ _ hL
        generalize upd H' D (.lst ((Pm.ofF r.rule.length fun k => r.rule.getD k 0 * (r.row n).getD (n - 1 - k) 0).map V.int)) = H3 at gD hL3
        refine ⟨_,rfl,.inl ⟨rfl,_,SqL.of hL3⟩,_,rfl,_,rfl,r.b,_,rfl,ok.by0,?_⟩
        refine ⟨l,_,_,rfl,rfl,hL3,?_,?_⟩
        · rw [lL]; exact small1000 (by omega)
        · refine ⟨c.toNat - (n + 1),by omega,n + 1,_,rfl,by omega,by omega,rfl,(g.trans gD).upd hl1 _,?_⟩
          rw [upd_same]
          have e : r.row (n + 1) = r.row n ++ [Rm.tk r.b (Rm.S r.rule (fun i => (r.row n).getD i 0) n r.rule.length)] := by
            show _ ++ [if n < r.starts.length then r.starts.getD n 0 else _] = _
            rw [if_neg (by omega)]; rfl
          rw [e,List.map_append]; rfl
    · have hn : n = c.toNat := by have := dec_false cc; omega
      subst hn
      exact ⟨_,rfl,q l H' g hl1 hL⟩
theorem ok_Lmade_longer (B : Bt mg) (F : Fn K mg "_law_made_longer" s_Lmade_longer ["_law_row","_law_number"]) (M : Ms K mg base A_NoBy A_NoName A_NoNumber A_NoRow A_NoText A_RuleError A_TooBig A_TooFar A_TooLong) (C_Lplaces : Cal P w K mg base "_law_places" 2 ["_law_row","_law_count"] spPlacesF) (C_Ltaken : Cal P w K mg base "_law_taken" 1 ["_law_by","_law_number"] spTaken) : Cal P w K mg base "_law_made_longer" 3 ["_law_row","_law_number"] spLonger := by
  refine F.cal sc_Lmade_longer (fun vs H Q E h => ?_) (fun f cdv A outer s H vs Q E hr h => ?_)
  · obtain ⟨b,s,v,r,n,rfl,_⟩ := h; rfl
  · obtain ⟨b,s',v,r,n,rfl,hRI,hb,ok,hs,hsh,hn,q⟩ := h
    refine ⟨_,(pss_cons (ps_asg (pv 0) (xgtup K (n := 3) rfl (pgs_cons (pg_name (i := 2) sc_Lmade_longer.nd rfl (Or.inr rfl)) (pgs_cons (pg_name (i := 3) sc_Lmade_longer.nd rfl (Or.inl rfl)) (pgs_cons (pg_name (i := 4) sc_Lmade_longer.nd rfl (Or.inl rfl)) pgs_nil)))))
      (pss_cons (ps_set (i := 5) sc_Lmade_longer.nd rfl (Or.inl rfl) (pe_callC C_Lplaces hr rfl (pa_n (pv 0) (pa_b (pe_op (xadd K) (pe_callB (xlen K) rfl B.b_len boot_len (pa_n (pv 3) pa_nil)) pe_int) pa_nil))))
      (pss_cons (ps_set (i := 6) sc_Lmade_longer.nd rfl (Or.inl rfl) (pe_op (xadd K) (pe_lst (pa_n (pv 1) pa_nil)) (pe_op v_mul (pe_lst (pa_k pe_int pa_nil)) (pe_callB (xlen K) rfl B.b_len boot_len (pa_n (pv 3) pa_nil)))))
      (pss_cons (ps_for PassesOwn.never rfl (pi_range1 rfl B.b_range (pa_cons (pe_callB (xlen K) rfl B.b_len boot_len (pa_n (pv 3) pa_nil)) pa_nil)) (pg_name (i := 7) sc_Lmade_longer.nd rfl (Or.inl rfl))
      (pss_cons (ps_asg (pe_op (xadd K) (pe_ix (xix K) (pv 6) (pv 7) (fun _ _ => rfl)) (pe_ix (xix K) (pv 3) (pv 7) (fun _ _ => rfl))) (pg_sub (pv 6) (pv 7) set_list))
      (pss_one (ps_asg (pe_op op_sub (pe_ix (xix K) (pv 6) (pe_op (xadd K) (pv 7) pe_int) (fun _ _ => rfl)) (pe_op v_mul (pv 1) (pe_ix (xix K) (pv 3) (pv 7) (fun _ _ => rfl)))) (pg_sub (pv 6) (pe_op (xadd K) (pv 7) pe_int) set_list)))))
      (pss_one (ps_ret (pe_tup (pa_n (pv 2) (pa_cons (pe_callTy (xtuple K) rfl B.b_tuple boot_tuple (pa_cons (pe_comp (sc := cs_Lmade_longer1) (N := ["_law_one","_law_by"]) (ix := [none,some 2]) (comp_mk (by kernel_rfl) (by kernel_rfl) (by kernel_rfl) (by kernel_rfl) (by kernel_rfl) (by kernel_rfl) (by kernel_rfl) (by kernel_rfl)) rfl (xseq K (pv 6)) (fun cl C s₀ H₀ ex => ⟨(pg_name (i := 0) (show (["_law_one","_law_by"] : List Str).Nodup by decide +kernel) rfl (Or.inl rfl)),pif_nil,(pe_callC C_Ltaken hr rfl (pa_n (pv 1) (pa_n (pv 0) pa_nil)))⟩)) pa_nil)) (pa_cons (pe_callTy (xtuple K) rfl B.b_tuple boot_tuple (pa_n (pv 5) pa_nil)) pa_nil)))))))))),?_⟩
    obtain ⟨a,p,p2,rfl,hA,hR,hS⟩ := id hRI
    have hO := ok.ok hb (by omega)
    have eb := ok.by_
    have lR : (r.rule.map V.int).length = r.rule.length := List.length_map _
    refine ⟨_,rfl,a,_,rfl,SqT.of hA,rfl,_,_,rfl,_,_,rfl,_,_,rfl,rfl,?_⟩
    refine ⟨_,rfl,_,rfl,.ref p,r.rule.length,rfl,.inr ⟨_,SqT.of hR,lR.symm⟩,.ref a,r,(r.rule.length : Int) + 1,rfl,hRI,hO.w (by omega),by omega,by omega,fun l1 H1 g1 hl1 h1 => ?_⟩
    rw [show ((r.rule.length : Int) + 1).toNat = r.rule.length + 1 by omega] at h1
    refine ⟨_,rfl,(by show 1 ≤ sizeLine; decide),fun l2 hl2 => ?_⟩
    have g2 := Same.new hl2 (.lst [.int n])
    refine ⟨(by show 1 ≤ sizeLine; decide),fun l3 hl3 => ?_⟩
    have g3 := Same.new hl3 (.lst [.int 0])
    have h2 : (upd (upd H1 l2 (.lst [.int n])) l3 (.lst [.int 0])) l2 = some (.lst [.int n]) := g3 _ _ upd_same
    have h3 : (upd (upd H1 l2 (.lst [.int n])) l3 (.lst [.int 0])) l3 = some (.lst [.int 0]) := upd_same
    have g13 := g2.trans g3
    generalize upd (upd H1 l2 (.lst [.int n])) l3 (.lst [.int 0]) = H3 at g13 h2 h3
    refine ⟨_,rfl,.ref p,r.rule.length,rfl,.inr ⟨_,SqT.of (g13 _ _ (g1 _ _ hR)),lR.symm⟩,?_⟩
    refine ⟨_,h3,by omega,by omega,?_,fun l4 hl4 => ?_⟩
    · show 1 * (r.rule.length : Int).toNat ≤ sizeLine
      rw [Nat.one_mul]; exact Nat.le_of_lt (small1000 (by omega))
    rw [show (r.rule.length : Int).toNat = r.rule.length from Int.toNat_natCast _,replicate_ofF]
    have g4 := Same.new hl4 (.lst ((Pm.ofF r.rule.length fun _ => 0).map V.int))
    have h2' := g4 _ _ h2
    have h4 : (upd H3 l4 (.lst ((Pm.ofF r.rule.length fun _ => 0).map V.int))) l4 = some (.lst ((Pm.ofF r.rule.length fun _ => 0).map V.int)) := upd_same
    have g14 := g13.trans g4
    generalize upd H3 l4 (.lst ((Pm.ofF r.rule.length fun _ => 0).map V.int)) = H4 at g4 g14 h2' h4
    refine .inl ⟨_,_,h2',h4,?_,fun l5 hl5 => ?_⟩
    · rw [List.length_map,Pm.ofF_len]; exact Nat.le_of_lt (small1000 (by show 1 + _ ≤ 1000; omega))
    have g5 := Same.new hl5 (.lst ([.int n] ++ (Pm.ofF r.rule.length fun _ => 0).map V.int))
    have e5 : ([.int n] ++ (Pm.ofF r.rule.length fun _ => 0).map V.int : List V) = (longL n r.rule 0).map V.int := by rw [longL_zero,List.map_append]; rfl
    have h5 : (upd H4 l5 (.lst ([.int n] ++ (Pm.ofF r.rule.length fun _ => 0).map V.int))) l5 = some (.lst ((longL n r.rule 0).map V.int)) := by rw [upd_same,e5]
    have g15 := g1.trans (g14.trans g5)
    have f5 : H l5 = none := (g1.trans g14).free hl5
    have f51 : H1 l5 = none := g14.free hl5
    have g15' := g14.trans g5
    generalize upd H4 l5 (.lst ([.int n] ++ (Pm.ofF r.rule.length fun _ => 0).map V.int)) = H5 at g5 h5 g15 g15'
    refine ⟨_,rfl,.ref p,r.rule.length,rfl,.inr ⟨_,SqT.of (g15 _ _ hR),lR.symm⟩,?_⟩
    refine ⟨(r.rule.length : Int),rfl,(by omega : -(2 ^ 62) ≤ (r.rule.length : Int)),(by omega : (r.rule.length : Int) < 2 ^ 62),?_⟩
    refine for_range (lo := 0) (n := (r.rule.length : Int).toNat) (fun i σ' H' => ∃ o7,σ' = [some (.ref a),some (.int n),some (.int r.b),some (.ref p),some (.ref p2),some (.ref l1),some (.ref l5),o7] ∧ Same H H' ∧ Same H1 H' ∧ H' l5 = some (.lst ((longL n r.rule i).map V.int))) ⟨_,rfl,g15,g15',h5⟩ ?_ ?_
    · rintro i σ' H' hi ⟨o7,rfl,g,gg,hL⟩
      have hi' : i < r.rule.length := by omega
      have e1 : (0 + (i : Int)).toNat = i := by omega
      have e2 : (0 + (i : Int) + 1).toNat = i + 1 := by omega
      have lL : (longL n r.rule i).length = r.rule.length + 1 := longL_len ..
      refine ⟨_,rfl,_,rfl,_,_,.inl (SqL.of hL),atI_ints (ns := longL n r.rule i) (by omega : (0 : Int) ≤ 0 + (i : Int)) (by omega),?_⟩
      refine ⟨_,rfl,_,rfl,_,_,.inr (SqT.of (g _ _ hR)),atI_ints (ns := r.rule) (by omega : (0 : Int) ≤ 0 + (i : Int)) (by omega),?_⟩
      refine ⟨_,rfl,_,rfl,l5,_,_,i,rfl,rfl,hL,ixN_of (by omega) (by rw [List.length_map]; omega),?_⟩
      rw [map_set_int,e1]
      have gu := g.upd f5 (.lst (((longL n r.rule i).set i ((longL n r.rule i).getD i 0 + r.rule.getD i 0)).map V.int))
      have ggu := gg.upd f51 (.lst (((longL n r.rule i).set i ((longL n r.rule i).getD i 0 + r.rule.getD i 0)).map V.int))
      have hL2 : (upd H' l5 (.lst (((longL n r.rule i).set i ((longL n r.rule i).getD i 0 + r.rule.getD i 0)).map V.int))) l5 = some (.lst (((longL n r.rule i).set i ((longL n r.rule i).getD i 0 + r.rule.getD i 0)).map V.int)) := upd_same
      generalize upd H' l5 (.lst (((longL n r.rule i).set i ((longL n r.rule i).getD i 0 + r.rule.getD i 0)).map V.int)) = H6 at gu ggu hL2
      refine ⟨_,rfl,_,rfl,_,_,.inl (SqL.of hL2),atI_ints (ns := (longL n r.rule i).set i ((longL n r.rule i).getD i 0 + r.rule.getD i 0)) (by omega : (0 : Int) ≤ 0 + (i : Int) + 1) (by rw [List.length_set]; omega),?_⟩
      refine ⟨_,rfl,_,rfl,_,rfl,_,_,.inr (SqT.of (gu _ _ hR)),atI_ints (ns := r.rule) (by omega : (0 : Int) ≤ 0 + (i : Int)) (by omega),?_⟩
      refine ⟨mulBd hn (Rm.Bd.getD hO.ruleBd _) (by decide),_,_,rfl,rfl,?_⟩
      refine ⟨_,rfl,_,rfl,l5,_,_,i + 1,rfl,rfl,hL2,ixN_of (by omega) (by rw [List.length_map,List.length_set]; omega),?_⟩
      rw [map_set_int,e1,e2]
      refine ⟨_,rfl,gu.upd f5 _,ggu.upd f51 _,?_⟩
      rw [upd_same,← longL_step hi']; rfl
    · rintro σ' H' ⟨o7,rfl,g,gg,hL⟩
      rw [Int.toNat_natCast] at hL
      have lL : (longL n r.rule r.rule.length).length = r.rule.length + 1 := longL_len ..
      refine ⟨_,rfl,_,rfl,l5,rfl,.inl ⟨⟨_,SqL.of hL⟩,?_⟩⟩
      refine comp_lst hL (by omega) rfl (fun x => Rm.tk r.b x) ?_ ?_
      · intro H2 x g2 hx k hk
        exact ⟨_,rfl,_,rfl,r.b,x,rfl,hO.by0,hk⟩
      · intro D hD
        have gD := Same.new hD (.lst (((longL n r.rule r.rule.length).map fun x => Rm.tk r.b x).map V.int))
        refine ⟨D,_,rfl,.inl ⟨SqL.of upd_same,fun t1 ht1 => ?_⟩⟩
        have gt1 := Same.new ht1 (.tup (((longL n r.rule r.rule.length).map fun x => Rm.tk r.b x).map V.int))
        refine ⟨_,rfl,l1,_,rfl,.inl ⟨SqL.of (gt1 _ _ (gD _ _ (gg _ _ h1))),fun t2 ht2 => ?_⟩⟩
        have gt2 := Same.new ht2 (.tup ((r.row (r.rule.length + 1)).map V.int))
        refine ⟨(by show 3 ≤ sizeLine; decide),fun t3 ht3 => ?_⟩
        have gt3 := Same.new ht3 (.tup [.int r.b,.ref t1,.ref t2])
        have fin := ok.longer hb hsh hn
        rw [← eb] at fin
        refine q _ ⟨r.b,(longL n r.rule r.rule.length).map (Rm.tk r.b),r.row (r.rule.length + 1)⟩ _ (g.trans (gD.trans (gt1.trans (gt2.trans gt3)))) ⟨t3,t1,t2,rfl,upd_same,gt3 _ _ (gt2 _ _ upd_same),gt3 _ _ upd_same⟩ (by rw [← eb]; exact fin)
theorem ok_Ldrawn_row (B : Bt mg) (F : Fn K mg "_law_drawn_row" s_Ldrawn_row ["_law_script","_law_start","_law_by","_law_most"]) (M : Ms K mg base A_NoBy A_NoName A_NoNumber A_NoRow A_NoText A_RuleError A_TooBig A_TooFar A_TooLong) (C_Lcell_at : Cal P w K mg base "_law_cell_at" 1 ["_law_script","_law_k"] (spCellF K)) (C_Lmix : Cal P w K mg base "_law_mix" 1 ["_law_cell","_law_k"] spMixF) (C_Lone_number : Cal P w K mg base "_law_one_number" 2 ["_law_by","_law_cell","_law_k"] spOneF) (C_Lmade_longer : Cal P w K mg base "_law_made_longer" 3 ["_law_row","_law_number"] spLonger) (C_Ltaken : Cal P w K mg base "_law_taken" 1 ["_law_by","_law_number"] spTaken) : Cal P w K mg base "_law_drawn_row" 4 ["_law_script","_law_start","_law_by","_law_most"] (spDrawn K) := by
  refine F.cal sc_Ldrawn_row (fun vs H Q E h => ?_) (fun f cdv A outer s H vs Q E hr h => ?_)
  · obtain ⟨a,ns,st,b,m,rfl,_⟩ := h; rfl
  · obtain ⟨a,ns,st,b,m,rfl,hS,s0,s1,hB,hb,m0,m1,q⟩ := h
    refine ⟨_,(pss_cons (ps_set (i := 4) sc_Ldrawn_row.nd rfl (Or.inl rfl) (pe_callC C_Lcell_at hr rfl (pa_n (pv 0) (pa_n (pv 1) pa_nil))))
      (pss_cons (ps_set (i := 5) sc_Ldrawn_row.nd rfl (Or.inl rfl) (pe_op op_mod (pe_callC C_Lmix hr rfl (pa_n (pv 4) (pa_k pe_int pa_nil))) (pe_op (xadd K) (pv 3) pe_int)))
      (pss_cons (ps_set (i := 6) sc_Ldrawn_row.nd rfl (Or.inr rfl) (pe_callC C_Lcell_at hr rfl (pa_n (pv 0) (pa_b (pe_op (xadd K) (pv 1) pe_int) pa_nil))))
      (pss_cons (ps_set (i := 7) sc_Ldrawn_row.nd rfl (Or.inl rfl) (pe_callTy (xtuple K) rfl B.b_tuple boot_tuple (pa_cons (pe_comp (sc := cs_Ldrawn_row1) (N := ["_law_k","_law_by","_law_mine"]) (ix := [none,some 2,some 6]) (comp_mk (by kernel_rfl) (by kernel_rfl) (by kernel_rfl) (by kernel_rfl) (by kernel_rfl) (by kernel_rfl) (by kernel_rfl) (by kernel_rfl)) rfl (pi_range1 rfl B.b_range (pa_n (pv 5) pa_nil)) (fun cl C s₀ H₀ ex => ⟨(pg_name (i := 0) (show (["_law_k","_law_by","_law_mine"] : List Str).Nodup by decide +kernel) rfl (Or.inl rfl)),pif_nil,(pe_callC C_Lone_number hr rfl (pa_n (pv 1) (pa_n (pv 2) (pa_n (pv 0) pa_nil))))⟩)) pa_nil)))
      (pss_cons (ps_set (i := 9) sc_Ldrawn_row.nd rfl (Or.inl rfl) (pe_tup (pa_n (pv 2) (pa_n (pv 7) (pa_cons (pe_callTy (xtuple K) rfl B.b_tuple boot_tuple (pa_cons (pe_comp (sc := cs_Ldrawn_row2) (N := ["_law_k","_law_by","_law_mine"]) (ix := [none,some 2,some 6]) (comp_mk (by kernel_rfl) (by kernel_rfl) (by kernel_rfl) (by kernel_rfl) (by kernel_rfl) (by kernel_rfl) (by kernel_rfl) (by kernel_rfl)) rfl (pi_range1 rfl B.b_range (pa_n (pv 5) pa_nil)) (fun cl C s₀ H₀ ex => ⟨(pg_name (i := 0) (show (["_law_k","_law_by","_law_mine"] : List Str).Nodup by decide +kernel) rfl (Or.inl rfl)),pif_nil,(pe_callC C_Lone_number hr rfl (pa_n (pv 1) (pa_n (pv 2) (pa_b (pe_op (xadd K) pe_int (pv 0)) pa_nil))))⟩)) pa_nil)) pa_nil)))))
      (pss_cons (ps_for PassesOwn.never rfl (pi_range1 rfl B.b_range (pa_cons (pe_ix (xix K) (pe_lst (pa_k pe_int (pa_k pe_int (pa_k pe_int (pa_k pe_int (pa_k pe_int (pa_k pe_int (pa_k pe_int (pa_k pe_int pa_nil))))))))) (pe_op op_mod (pe_callC C_Lmix hr rfl (pa_n (pv 4) (pa_k pe_int pa_nil))) pe_int) (fun _ _ => rfl)) pa_nil)) (pg_name (i := 8) sc_Ldrawn_row.nd rfl (Or.inl rfl))
      (pss_one (ps_bar (ps_if (pt_cmpR op_lt (pe_callB (xlen K) rfl B.b_len boot_len (pa_cons (pe_ix (xix K) (pv 9) pe_int (fun _ _ => rfl)) pa_nil)) pe_int (nomark _))
      (pss_one (ps_set (i := 9) sc_Ldrawn_row.nd rfl (Or.inl rfl) (pe_callC C_Lmade_longer hr rfl (pa_n (pv 9) (pa_cons (pe_callC C_Ltaken hr rfl (pa_n (pv 2) (pa_b (pe_op op_sub (pe_op op_mod (pe_callC C_Lmix hr rfl (pa_n (pv 4) (pa_b (pe_op (xadd K) pe_int (pv 8)) pa_nil))) pe_int) pe_int) pa_nil))) pa_nil)))))
      pss_nil))))
      (pss_one (ps_ret (pv 9))))))))),?_⟩
    refine ⟨_,rfl,_,rfl,a,ns,st,rfl,hS,s0,by omega,hB,fun c hc => ?_⟩
    refine ⟨_,rfl,c,2,rfl,by decide,by decide,fun x x0 x1 => ?_⟩
    refine ⟨_,rfl,_,_,rfl,rfl,(by show 0 < m + 1; omega),?_⟩
    have k0 := emod_lo x (show 0 < m + 1 by omega)
    have k1 := emod_hi x (show 0 < m + 1 by omega)
    dsimp only
    generalize x % (m + 1) = sz at k0 k1
    refine ⟨_,rfl,_,rfl,a,ns,st + 1,rfl,hS,by omega,by omega,hB,fun c2 hc2 => ?_⟩
    obtain ⟨N,rfl⟩ : ∃ N : Nat,sz = (N : Int) := ⟨sz.toNat,by omega⟩
    refine ⟨_,rfl,N,rfl,(by omega : -(2 ^ 62) ≤ (N : Int)),(by omega : (N : Int) < 2 ^ 62),?_⟩
    rw [Int.toNat_natCast]
    refine comp_rngP (n := N) (by omega) rfl (fun x => IsNum b x ∧ Rm.Bd 31 x) ?_ ?_
    · intro H2 k g2 hk kk hkk
      exact ⟨_,rfl,_,rfl,_,rfl,b,c2,0 + (k : Int),rfl,hb,hc2,by omega,by omega,fun x H3 g3 h1 h2 => hkk x H3 g3 ⟨h1,h2⟩⟩
    intro D H1 rule hD g1 hD1 lr hr
    refine ⟨D,_,rfl,.inl ⟨SqL.of hD1,fun t1 ht1 => ?_⟩⟩
    have gt1 := Same.new ht1 (.tup (rule.map V.int))
    have h1 : (upd H1 t1 (.tup (rule.map V.int))) t1 = some (.tup (rule.map V.int)) := upd_same
    have g2 := g1.trans gt1
    generalize upd H1 t1 (.tup (rule.map V.int)) = H2 at gt1 h1 g2
    refine ⟨_,rfl,_,rfl,_,rfl,N,rfl,(by omega : -(2 ^ 62) ≤ (N : Int)),(by omega : (N : Int) < 2 ^ 62),?_⟩
    rw [Int.toNat_natCast]
    refine comp_rngP (n := N) (by omega) rfl (fun x => IsNum b x ∧ Rm.Bd 31 x) ?_ ?_
    · intro H3 k g3 hk kk hkk
      exact ⟨_,rfl,_,rfl,_,rfl,b,c2,15 + (0 + (k : Int)),rfl,hb,hc2,by omega,by omega,fun x H3 g3 h1 h2 => hkk x H3 g3 ⟨h1,h2⟩⟩
    intro D2 H3 starts hD2 g3 hD3 ls hs
    refine ⟨D2,_,rfl,.inl ⟨SqL.of hD3,fun t2 ht2 => ?_⟩⟩
    have gt2 := Same.new ht2 (.tup (starts.map V.int))
    refine ⟨(by show 3 ≤ sizeLine; decide),fun t3 ht3 => ?_⟩
    have gt3 := Same.new ht3 (.tup [.int b,.ref t1,.ref t2])
    have gA := g2.trans (g3.trans (gt2.trans gt3))
    have R0 : RowIs (upd (upd H3 t2 (.tup (starts.map V.int))) t3 (.tup [.int b,.ref t1,.ref t2])) (.ref t3) ⟨b,rule,starts⟩ := ⟨t3,t1,t2,rfl,upd_same,gt3 _ _ (gt2 _ _ (g3 _ _ h1)),gt3 _ _ upd_same⟩
    generalize upd (upd H3 t2 (.tup (starts.map V.int))) t3 (.tup [.int b,.ref t1,.ref t2]) = H4 at gA R0
    have S0 : RwS b 0 ⟨b,rule,starts⟩ := ⟨rfl,lr.trans ls.symm,(by show rule.length ≤ 12; omega),fun x hx => (hr x hx).1,fun x hx => (hs x hx).1,fun x hx => (hr x hx).2,fun x hx => (hs x hx).2⟩
    refine ⟨(by show 8 ≤ sizeLine; decide),fun p8 hp8 => ?_⟩
    have g8 := Same.new hp8 (.lst (timesL.map V.int))
    refine ⟨_,rfl,c,3,rfl,by decide,by decide,fun y y0 y1 => ?_⟩
    have e0 := emod_lo y (show (0 : Int) < 8 by decide)
    have e1 := emod_hi y (show (0 : Int) < 8 by decide)
    refine ⟨_,_,rfl,rfl,(by decide : (0 : Int) < 8),_,_,.inl (SqL.of upd_same),atI_ints (ns := timesL) e0 e1,?_⟩
    have ty := timesL_ok (y % 8).toNat (by omega)
    generalize timesL.getD (y % 8).toNat 0 = T at ty
    have g9 := gA.trans g8
    have R1 := R0.same g8
    have eH : (upd H4 p8 (.lst [.int 0,.int 0,.int 1,.int 0,.int 2,.int 0,.int 0,.int 3])) = upd H4 p8 (.lst (timesL.map V.int)) := rfl
    rw [eH]
    generalize upd H4 p8 (.lst (timesL.map V.int)) = H5 at g9 R1
    refine ⟨T,rfl,(by omega : -(2 ^ 62) ≤ T),(by omega : T < 2 ^ 62),?_⟩
    refine for_range (lo := 0) (n := T.toNat) (fun i σ' H' => ∃ (v : V) (r : Rw) (o8 : Option V),σ' = [some (.ref a),some (.int st),some (.int b),some (.int m),some (.int c),some (.int N),some (.int c2),some (.ref t1),o8,some v] ∧ Same H H' ∧ RowIs H' v r ∧ RwS b i r) ⟨.ref t3,_,_,rfl,g9,R1,S0⟩ ?_ ?_
    · rintro i σ' H' hi ⟨v,r,o8,rfl,g,hR,ok⟩
      obtain ⟨ra,rp,rq,rfl,hA,hP,hQ2⟩ := id hR
      refine BarS.by (fun σ' H' => ∃ (v : V) (r : Rw) (o8 : Option V),σ' = [some (.ref a),some (.int st),some (.int b),some (.int m),some (.int c),some (.int N),some (.int c2),some (.ref t1),o8,some v] ∧ Same H H' ∧ RowIs H' v r ∧ RwS b (i + 1) r) (fun NN hNN => ?_) (fun σ' H' z => z)
      refine ⟨_,rfl,_,_,.inr (SqT.of hA),rfl,.ref rp,r.rule.length,rfl,.inr ⟨_,SqT.of hP,(List.length_map _).symm⟩,_,_,rfl,rfl,_,rfl,?_⟩
      refine ite2 (fun cc => ?_) (fun cc => hNN _ _ ⟨_,r,_,rfl,g,hR,ok.up⟩)
      have hsh : r.rule.length < 12 := by have := dec_true cc; omega
      refine ⟨_,rfl,_,rfl,_,rfl,_,rfl,c,4 + (0 + (i : Int)),rfl,by omega,by omega,fun y2 _ _ => ?_⟩
      have z0 := emod_lo y2 (show (0 : Int) < 5 by decide)
      have z1 := emod_hi y2 (show (0 : Int) < 5 by decide)
      refine ⟨_,_,rfl,rfl,(by decide : (0 : Int) < 5),_,_,rfl,rfl,b,_,rfl,hb.lo,?_⟩
      refine ⟨b,i,_,r,_,rfl,hR,hb,ok,by omega,hsh,tk_bdF hb (by decide) (Rm.Bd.of (by show -(2 ^ 10) < y2 % 5 - 2; omega) (by show y2 % 5 - 2 < 2 ^ 10; omega)),fun v' r' H2 g2 R2 ok2 => ?_⟩
      exact hNN _ _ ⟨v',r',_,rfl,g.trans g2,R2,ok2⟩
    · rintro σ' H' ⟨v,r,o8,rfl,g,hR,ok⟩
      exact ⟨_,rfl,q v r H' g hR (ok.far hb (by omega)) ok.by_⟩
theorem ok_Ltimes_x (B : Bt mg) (F : Fn K mg "_law_times_x" s_Ltimes_x ["_law_by","_law_row","_law_rest"]) (M : Ms K mg base A_NoBy A_NoName A_NoNumber A_NoRow A_NoText A_RuleError A_TooBig A_TooFar A_TooLong) (C_Ltaken : Cal P w K mg base "_law_taken" 1 ["_law_by","_law_number"] spTaken) : Cal P w K mg base "_law_times_x" 2 ["_law_by","_law_row","_law_rest"] spTimesX := by
  refine F.cal sc_Ltimes_x (fun vs H Q E h => ?_) (fun f cdv A outer s H vs Q E hr h => ?_)
  · obtain ⟨b,v,r,l,xs,rfl,_⟩ := h; rfl
  · obtain ⟨b,v,r,l,xs,rfl,⟨a,p,p2,rfl,hA,hR,hS⟩,ok,hL,lx,bx,q⟩ := h
    refine ⟨_,(pss_cons (ps_asg (pv 1) (xgtup K (n := 3) rfl (pgs_cons (pg_name (i := 0) sc_Ltimes_x.nd rfl (Or.inr rfl)) (pgs_cons (pg_name (i := 3) sc_Ltimes_x.nd rfl (Or.inr rfl)) (pgs_cons (pg_name (i := 4) sc_Ltimes_x.nd rfl (Or.inl rfl)) pgs_nil)))))
      (pss_cons (ps_if (pt_cmpR (xeq K hr) (pv 2) (pe_lst pa_nil) (nomark _))
      (pss_one (ps_ret (pe_lst pa_nil)))
      pss_nil)
      (pss_cons (ps_set (i := 5) sc_Ltimes_x.nd rfl (Or.inr rfl) (pe_ix (xix K) (pv 2) (pe_un un_neg pe_int) (fun _ _ => rfl)))
      (pss_cons (ps_set (i := 6) sc_Ltimes_x.nd rfl (Or.inr rfl) (pe_op (xadd K) (pe_lst (pa_k pe_int pa_nil)) (pe_slice (xsl K) (pv 2) po_none (po_some (pe_un un_neg pe_int)))))
      (pss_one (ps_ret (pe_comp (sc := cs_Ltimes_x1) (N := ["_law_k","_law_by","_law_found","_law_rule","_law_top"]) (ix := [none,some 0,some 6,some 3,some 5]) (comp_mk (by kernel_rfl) (by kernel_rfl) (by kernel_rfl) (by kernel_rfl) (by kernel_rfl) (by kernel_rfl) (by kernel_rfl) (by kernel_rfl)) rfl (pi_range1 rfl B.b_range (pa_cons (pe_callB (xlen K) rfl B.b_len boot_len (pa_n (pv 3) pa_nil)) pa_nil)) (fun cl C s₀ H₀ ex => ⟨(pg_name (i := 0) (show (["_law_k","_law_by","_law_found","_law_rule","_law_top"] : List Str).Nodup by decide +kernel) rfl (Or.inl rfl)),pif_nil,(pe_callC C_Ltaken hr rfl (pa_n (pv 1) (pa_b (pe_op (xadd K) (pe_ix (xix K) (pv 2) (pv 0) (fun _ _ => rfl)) (pe_op v_mul (pv 4) (pe_ix (xix K) (pv 3) (pe_op op_sub (pe_op op_sub (pe_callB (xlen K) rfl B.b_len boot_len (pa_n (pv 3) pa_nil)) pe_int) (pv 0)) (fun _ _ => rfl)))) pa_nil)))⟩)))))))),?_⟩
    have hsh := ok.ok.short
    have lX : (xs.map V.int).length = xs.length := List.length_map _
    have lR : (r.rule.map V.int).length = r.rule.length := List.length_map _
    refine ⟨_,rfl,a,_,rfl,SqT.of hA,rfl,_,_,rfl,_,_,rfl,_,_,rfl,rfl,?_⟩
    refine ⟨_,rfl,(by show 0 ≤ sizeLine; decide),fun e0 he0 => ?_⟩
    have g0 := Same.new he0 (.lst ([] : List V))
    refine eqLL (ns := xs) (ms := []) (SqL.of (g0 _ _ hL)) (SqL.of upd_same) ⟨_,rfl,?_⟩
    refine ite2 (fun c => ?_) (fun c => ?_)
    · have c' : xs = [] := dec_true c
      refine ⟨(by show 0 ≤ sizeLine; decide),fun l2 hl2 => ?_⟩
      have e : timesX r.b r.rule xs = [] := List.eq_nil_of_length_eq_zero (by rw [timesX,Pm.ofF_len,← lx,c']; rfl)
      rw [e] at q
      exact q l2 _ (g0.trans (Same.new hl2 _)) (g0.free hl2) upd_same
    · have c' : xs ≠ [] := dec_false c
      have hN : 0 < xs.length := List.length_pos_iff.mpr c'
      generalize upd H e0 (.lst ([] : List V)) = H0 at g0
      have hL0 := g0 _ _ hL
      refine ⟨_,rfl,_,rfl,_,_,.inl (SqL.of hL0),atI_back (ns := xs) (xs.length - 1) (by omega) (by omega),?_⟩
      refine ⟨(by show 1 ≤ sizeLine; decide),fun l1 hl1 => ?_⟩
      have g1 := Same.new hl1 (.lst [.int 0])
      have h1 : (upd H0 l1 (.lst [.int 0])) l1 = some (.lst [.int 0]) := upd_same
      generalize upd H0 l1 (.lst [.int 0]) = H1 at g1 h1
      refine ⟨_,rfl,_,rfl,_,rfl,.inl ⟨_,SqL.of (g1 _ _ hL0),fun l2 hl2 => ?_⟩⟩
      have ecut : cutV (xs.map V.int) none (some (-1)) = (xs.take (xs.length - 1)).map V.int := by
        unfold cutV
        rw [HT.sIx_none,List.drop_zero,Nat.sub_zero,lX,List.map_take]
        congr 1
        show (if (-1 : Int) < 0 then (-1 + (xs.length : Int)).toNat else min (-1 : Int).toNat xs.length) = xs.length - 1
        rw [if_pos (by decide)]; omega
      rw [ecut]
      have g2 := Same.new hl2 (.lst ((xs.take (xs.length - 1)).map V.int))
      have h2 : (upd H1 l2 (.lst ((xs.take (xs.length - 1)).map V.int))) l2 = some (.lst ((xs.take (xs.length - 1)).map V.int)) := upd_same
      have h1' := g2 _ _ h1
      generalize upd H1 l2 (.lst ((xs.take (xs.length - 1)).map V.int)) = H2 at g2 h2 h1'
      refine .inl ⟨_,_,h1',h2,?_,fun l3 hl3 => ?_⟩
      · rw [List.length_map,List.length_take]; exact Nat.le_of_lt (small1000 (by show 1 + _ ≤ 1000; omega))
      have g3 := Same.new hl3 (.lst ([.int 0] ++ (xs.take (xs.length - 1)).map V.int))
      have h3 : (upd H2 l3 (.lst ([.int 0] ++ (xs.take (xs.length - 1)).map V.int))) l3 = some (.lst ((0 :: xs.take (xs.length - 1)).map V.int)) := upd_same
      have gg := g0.trans (g1.trans (g2.trans g3))
      generalize upd H2 l3 (.lst ([.int 0] ++ (xs.take (xs.length - 1)).map V.int)) = H3 at g3 h3 gg
      refine ⟨_,rfl,.ref p,r.rule.length,rfl,.inr ⟨_,SqT.of (gg _ _ hR),lR.symm⟩,?_⟩
      refine ⟨(r.rule.length : Int),rfl,(by omega : -(2 ^ 62) ≤ (r.rule.length : Int)),(by omega : (r.rule.length : Int) < 2 ^ 62),?_⟩
      rw [Int.toNat_natCast]
      have l0 : (0 :: xs.take (xs.length - 1)).length = xs.length := by rw [List.length_cons,List.length_take]; omega
      have co0 : ∀ k,k < xs.length → (0 :: xs.take (xs.length - 1)).getD k 0 = if k = 0 then 0 else Pm.co xs (k - 1) := fun k hk => by
        cases k with
        | zero => rfl
        | succ k =>
          rw [if_neg (by omega),Nat.add_sub_cancel]
          show (xs.take (xs.length - 1)).getD k 0 = xs.getD k 0
          rw [List.getD_eq_getElem?_getD,List.getElem?_take,if_pos (by omega),← List.getD_eq_getElem?_getD]
      refine comp_rng (n := r.rule.length) (by omega) rfl (fun k => Rm.tk r.b ((if k = 0 then 0 else Pm.co xs (k - 1)) + Pm.co xs (r.rule.length - 1) * Pm.co r.rule (r.rule.length - 1 - k))) ?_ ?_
      · intro H4 k g4 hk kk hkk
        have gk := gg.trans g4
        refine ⟨_,rfl,_,rfl,_,rfl,_,_,.inl (SqL.of (g4 _ _ h3)),atI_ints (ns := 0 :: xs.take (xs.length - 1)) (by omega : (0 : Int) ≤ 0 + (k : Int)) (by rw [l0]; omega),?_⟩
        refine ⟨_,rfl,_,rfl,_,rfl,.ref p,r.rule.length,rfl,.inr ⟨_,SqT.of (gk _ _ hR),lR.symm⟩,_,_,rfl,rfl,_,rfl,_,_,rfl,rfl,_,_,.inr (SqT.of (gk _ _ hR)),atI_ints (ns := r.rule) (by omega : (0 : Int) ≤ (r.rule.length : Int) - 1 - (0 + (k : Int))) (by omega),?_⟩
        refine ⟨mulBd (Rm.Bd.getD bx _) (Rm.Bd.getD ok.bd _) (by decide),r.b,_,rfl,ok.ok.by0,?_⟩
        rw [show (0 + (k : Int)).toNat = k by omega,show ((r.rule.length : Int) - 1 - (0 + (k : Int))).toNat = r.rule.length - 1 - k by omega,co0 k (by omega),lx]
        exact hkk
      · intro D hD
        exact q D _ (gg.trans (Same.new hD _)) (gg.free hD) upd_same
theorem ok_Lstep_by_step (B : Bt mg) (F : Fn K mg "_law_step_by_step" s_Lstep_by_step ["_law_by","_law_row","_law_n"]) (M : Ms K mg base A_NoBy A_NoName A_NoNumber A_NoRow A_NoText A_RuleError A_TooBig A_TooFar A_TooLong) (C_Ltimes_x : Cal P w K mg base "_law_times_x" 2 ["_law_by","_law_row","_law_rest"] spTimesX) : Cal P w K mg base "_law_step_by_step" 3 ["_law_by","_law_row","_law_n"] spSteps := by
  refine F.cal sc_Lstep_by_step (fun vs H Q E h => ?_) (fun f cdv A outer s H vs Q E hr h => ?_)
  · obtain ⟨b,v,r,n,rfl,_⟩ := h; rfl
  · obtain ⟨b,v,r,n,rfl,hRI,ok,hn,q⟩ := h
    refine ⟨_,(pss_cons (ps_set (i := 3) sc_Lstep_by_step.nd rfl (Or.inl rfl) (pe_callB (xlen K) rfl B.b_len boot_len (pa_cons (pe_ix (xix K) (pv 1) pe_int (fun _ _ => rfl)) pa_nil)))
      (pss_cons (ps_set (i := 4) sc_Lstep_by_step.nd rfl (Or.inl rfl) (pe_op (xadd K) (pe_lst (pa_k pe_int pa_nil)) (pe_op v_mul (pe_lst (pa_k pe_int pa_nil)) (pe_op op_sub (pv 3) pe_int))))
      (pss_cons (ps_bar (ps_if (pt_cmpR (xeq K hr) (pv 3) pe_int (nomark _))
      (pss_one (ps_set (i := 4) sc_Lstep_by_step.nd rfl (Or.inl rfl) (pe_lst pa_nil)))
      pss_nil))
      (pss_cons (ps_for PassesOwn.never rfl (pi_range1 rfl B.b_range (pa_n (pv 2) pa_nil)) (pg_name (i := 5) sc_Lstep_by_step.nd rfl (Or.inl rfl))
      (pss_one (ps_set (i := 4) sc_Lstep_by_step.nd rfl (Or.inl rfl) (pe_callC C_Ltimes_x hr rfl (pa_n (pv 0) (pa_n (pv 1) (pa_n (pv 4) pa_nil)))))))
      (pss_one (ps_ret (pv 4))))))),?_⟩
    obtain ⟨a,p,p2,rfl,hA,hR,hS⟩ := id hRI
    have hsh := ok.ok.short
    have lR : (r.rule.map V.int).length = r.rule.length := List.length_map _
    refine ⟨_,rfl,_,_,.inr (SqT.of hA),rfl,.ref p,r.rule.length,rfl,.inr ⟨_,SqT.of hR,lR.symm⟩,?_⟩
    refine ⟨(by show 1 ≤ sizeLine; decide),fun l1 hl1 => ?_⟩
    have g1 := Same.new hl1 (.lst [.int 1])
    refine ⟨(by show 1 ≤ sizeLine; decide),fun l2 hl2 => ?_⟩
    have g2 := Same.new hl2 (.lst [.int 0])
    have h1 : (upd (upd H l1 (.lst [.int 1])) l2 (.lst [.int 0])) l1 = some (.lst [.int 1]) := g2 _ _ upd_same
    have h2 : (upd (upd H l1 (.lst [.int 1])) l2 (.lst [.int 0])) l2 = some (.lst [.int 0]) := upd_same
    have g12 := g1.trans g2
    generalize upd (upd H l1 (.lst [.int 1])) l2 (.lst [.int 0]) = H2 at g12 h1 h2
    refine ⟨_,rfl,_,_,rfl,rfl,_,h2,by omega,by omega,?_,fun l3 hl3 => ?_⟩
    · show 1 * ((r.rule.length : Int) - 1).toNat ≤ sizeLine
      rw [Nat.one_mul]; exact Nat.le_of_lt (small1000 (by omega))
    rw [show ((r.rule.length : Int) - 1).toNat = r.rule.length - 1 by omega,replicate_ofF]
    have g3 := Same.new hl3 (.lst ((Pm.ofF (r.rule.length - 1) fun _ => 0).map V.int))
    have h1' := g3 _ _ h1
    have h3 : (upd H2 l3 (.lst ((Pm.ofF (r.rule.length - 1) fun _ => 0).map V.int))) l3 = some (.lst ((Pm.ofF (r.rule.length - 1) fun _ => 0).map V.int)) := upd_same
    have g13 := g12.trans g3
    generalize upd H2 l3 (.lst ((Pm.ofF (r.rule.length - 1) fun _ => 0).map V.int)) = H3 at g3 h1' h3 g13
    refine .inl ⟨_,_,h1',h3,?_,fun l4 hl4 => ?_⟩
    · rw [List.length_map,Pm.ofF_len]; exact Nat.le_of_lt (small1000 (by show 1 + _ ≤ 1000; omega))
    have g4 := Same.new hl4 (.lst ([.int 1] ++ (Pm.ofF (r.rule.length - 1) fun _ => 0).map V.int))
    have h4 : (upd H3 l4 (.lst ([.int 1] ++ (Pm.ofF (r.rule.length - 1) fun _ => 0).map V.int))) l4 = some (.lst (([1] ++ Pm.ofF (r.rule.length - 1) fun _ => 0).map V.int)) := by rw [upd_same,List.map_append]; rfl
    have g14 := g13.trans g4
    have f4 := g13.free hl4
    generalize upd H3 l4 (.lst ([.int 1] ++ (Pm.ofF (r.rule.length - 1) fun _ => 0).map V.int)) = H4 at g4 h4 g14
    refine BarS.by (fun σ' H' => ∃ l5 : Addr,σ' = [some (.int b),some (.ref a),some (.int n),some (.int (r.rule.length : Int)),some (.ref l5),none] ∧ Same H H' ∧ H l5 = none ∧ H' l5 = some (.lst ((Pm.rest r.b r.rule 0).map V.int))) (fun NN hNN => ?_) ?_
    · refine ⟨_,rfl,_,rfl,?_⟩
      refine ite2 (fun c => ?_) (fun c => ?_)
      · have c' : r.rule.length = 0 := by have := dec_true c; omega
        refine ⟨(by show 0 ≤ sizeLine; decide),fun l5 hl5 => hNN _ _ ⟨l5,rfl,g14.trans (Same.new hl5 _),g14.free hl5,?_⟩⟩
        rw [upd_same,rest_nil c']; rfl
      · have c' : r.rule.length ≠ 0 := by have := dec_false c; omega
        refine hNN _ _ ⟨l4,rfl,g14,f4,?_⟩
        rw [h4,rest_one _ _ (by omega)]
    · rintro σ' H5 ⟨l5,rfl,g5,f5,h5⟩
      refine ⟨_,rfl,(n : Int),rfl,(by omega : -(2 ^ 62) ≤ (n : Int)),(by omega : (n : Int) < 2 ^ 62),?_⟩
      refine for_range (lo := 0) (n := (n : Int).toNat) (fun i σ' H' => ∃ (l : Addr) (o5 : Option V),σ' = [some (.int b),some (.ref a),some (.int n),some (.int (r.rule.length : Int)),some (.ref l),o5] ∧ Same H H' ∧ H l = none ∧ H' l = some (.lst ((Pm.rest r.b r.rule i).map V.int))) ⟨l5,_,rfl,g5,f5,h5⟩ ?_ ?_
      · rintro i σ' H' hi ⟨l,o5,rfl,g,f,hL⟩
        refine ⟨_,rfl,_,rfl,_,rfl,b,.ref a,r,l,Pm.rest r.b r.rule i,rfl,hRI.same g,ok,hL,Pm.rest_len ..,ok.rest_bd (fun _ => by omega),fun l6 H6 g6 f6 h6 => ?_⟩
        rw [timesX_rest ok.one] at h6
        exact ⟨l6,_,rfl,g.trans g6,g.free f6,h6⟩
      · rintro σ' H' ⟨l,o5,rfl,g,f,hL⟩
        rw [Int.toNat_natCast] at hL
        exact ⟨_,rfl,q l H' g f hL⟩
theorem ok_Lrolled_rests (B : Bt mg) (F : Fn K mg "_law_rolled_rests" s_Lrolled_rests ["_law_by","_law_row","_law_one","_law_other"]) (M : Ms K mg base A_NoBy A_NoName A_NoNumber A_NoRow A_NoText A_RuleError A_TooBig A_TooFar A_TooLong) (C_Ltaken : Cal P w K mg base "_law_taken" 1 ["_law_by","_law_number"] spTaken) (C_Ltimes_x : Cal P w K mg base "_law_times_x" 2 ["_law_by","_law_row","_law_rest"] spTimesX) : Cal P w K mg base "_law_rolled_rests" 3 ["_law_by","_law_row","_law_one","_law_other"] spRolled := by
  refine F.cal sc_Lrolled_rests (fun vs H Q E h => ?_) (fun f cdv A outer s H vs Q E hr h => ?_)
  · obtain ⟨b,v,r,l1,l2,m,n,rfl,_⟩ := h; rfl
  · obtain ⟨b,v,r,l1,l2,m,n,rfl,rfl,hRI,ok,h1,h2,hm,q⟩ := h
    refine ⟨_,(pss_cons (ps_set (i := 4) sc_Lrolled_rests.nd rfl (Or.inr rfl) (pe_op v_mul (pe_lst (pa_k pe_int pa_nil)) (pe_callB (xlen K) rfl B.b_len boot_len (pa_n (pv 2) pa_nil))))
      (pss_cons (ps_set (i := 5) sc_Lrolled_rests.nd rfl (Or.inr rfl) (pe_callTy (xlist K) rfl B.b_list boot_list (pa_n (pv 3) pa_nil)))
      (pss_cons (ps_for PassesOwn.never rfl (xseq K (pv 2)) (pg_name (i := 6) sc_Lrolled_rests.nd rfl (Or.inr rfl))
      (pss_cons (ps_set (i := 4) sc_Lrolled_rests.nd rfl (Or.inr rfl) (pe_comp (sc := cs_Lrolled_rests1) (N := ["_law_k","_law_by","_law_number","_law_part","_law_total"]) (ix := [none,some 0,some 6,some 5,some 4]) (comp_mk (by kernel_rfl) (by kernel_rfl) (by kernel_rfl) (by kernel_rfl) (by kernel_rfl) (by kernel_rfl) (by kernel_rfl) (by kernel_rfl)) rfl (pi_range1 rfl B.b_range (pa_cons (pe_callB (xlen K) rfl B.b_len boot_len (pa_n (pv 2) pa_nil)) pa_nil)) (fun cl C s₀ H₀ ex => ⟨(pg_name (i := 0) (show (["_law_k","_law_by","_law_number","_law_part","_law_total"] : List Str).Nodup by decide +kernel) rfl (Or.inl rfl)),pif_nil,(pe_callC C_Ltaken hr rfl (pa_n (pv 1) (pa_b (pe_op (xadd K) (pe_ix (xix K) (pv 4) (pv 0) (fun _ _ => rfl)) (pe_op v_mul (pv 2) (pe_ix (xix K) (pv 3) (pv 0) (fun _ _ => rfl)))) pa_nil)))⟩)))
      (pss_one (ps_set (i := 5) sc_Lrolled_rests.nd rfl (Or.inr rfl) (pe_callC C_Ltimes_x hr rfl (pa_n (pv 0) (pa_n (pv 1) (pa_n (pv 5) pa_nil))))))))
      (pss_one (ps_ret (pv 4)))))),?_⟩
    have hsh := ok.ok.short
    have lm : (Pm.rest r.b r.rule m).length = r.rule.length := Pm.rest_len ..
    have lM : ((Pm.rest r.b r.rule m).map V.int).length = r.rule.length := by rw [List.length_map,lm]
    refine ⟨(by show 1 ≤ sizeLine; decide),fun l3 hl3 => ?_⟩
    have g3 := Same.new hl3 (.lst [.int 0])
    have h3 : (upd H l3 (.lst [.int 0])) l3 = some (.lst [.int 0]) := upd_same
    generalize upd H l3 (.lst [.int 0]) = H3 at g3 h3
    refine ⟨_,rfl,.ref l1,r.rule.length,rfl,.inl ⟨_,SqL.of (g3 _ _ h1),lM.symm⟩,?_⟩
    refine ⟨_,h3,by omega,by omega,?_,fun l4 hl4 => ?_⟩
    · show 1 * (r.rule.length : Int).toNat ≤ sizeLine
      rw [Nat.one_mul]; exact Nat.le_of_lt (small1000 (by omega))
    rw [show (r.rule.length : Int).toNat = r.rule.length from Int.toNat_natCast _,replicate_ofF]
    have g4 := Same.new hl4 (.lst ((Pm.ofF r.rule.length fun _ => 0).map V.int))
    have h4 : (upd H3 l4 (.lst ((Pm.ofF r.rule.length fun _ => 0).map V.int))) l4 = some (.lst ((rollI r.b r.rule m n 0).map V.int)) := by rw [upd_same,rollI_zero]
    have g34 := g3.trans g4
    generalize upd H3 l4 (.lst ((Pm.ofF r.rule.length fun _ => 0).map V.int)) = H4 at g4 h4 g34
    have f4 := g3.free hl4
    refine ⟨_,rfl,l2,_,rfl,.inl (SqL.of (g34 _ _ h2)),fun l5 hl5 => ?_⟩
    have g5 := Same.new hl5 (.lst ((Pm.rest r.b r.rule n).map V.int))
    have h5 : (upd H4 l5 (.lst ((Pm.rest r.b r.rule n).map V.int))) l5 = some (.lst ((Pm.rest r.b r.rule (n + 0)).map V.int)) := upd_same
    have h45 := g5 _ _ h4
    have g35 := g34.trans g5
    generalize upd H4 l5 (.lst ((Pm.rest r.b r.rule n).map V.int)) = H5 at g5 h5 h45 g35
    refine ⟨_,rfl,l1,rfl,.inl ⟨⟨_,SqL.of (g35 _ _ h1)⟩,?_⟩⟩
    refine for_its (its_list (SqL.of (g35 _ _ h1))) (fun i σ' H' => ∃ (lt lp : Addr) (o6 : Option V),σ' = [some (.int r.b),some v,some (.ref l1),some (.ref l2),some (.ref lt),some (.ref lp),o6] ∧ Same H H' ∧ Same H5 H' ∧ H lt = none ∧ H' lt = some (.lst ((rollI r.b r.rule m n i).map V.int)) ∧ H' lp = some (.lst ((Pm.rest r.b r.rule (n + i)).map V.int))) ⟨l4,l5,_,rfl,g35,Same.refl _,f4,h45,h5⟩ (fun i σ' H' ⟨_,_,_,_,_,z,_⟩ => z) ?_ ?_
    · rintro i x σ' H' hx ⟨lt,lp,o6,rfl,g,g',ft,ht,hp⟩
      obtain ⟨rfl,hi⟩ := map_int_get hx
      rw [lm] at hi
      refine ⟨_,rfl,.ref l1,r.rule.length,rfl,.inl ⟨_,SqL.of (g _ _ h1),lM.symm⟩,?_⟩
      refine ⟨(r.rule.length : Int),rfl,(by omega : -(2 ^ 62) ≤ (r.rule.length : Int)),(by omega : (r.rule.length : Int) < 2 ^ 62),?_⟩
      rw [Int.toNat_natCast]
      have bm := ok.rest_bd (m := m) (fun z => by have := hm z; omega)
      have bn := ok.rest_bd (m := n + i) (fun z => by have := hm z; omega)
      refine comp_rng (n := r.rule.length) (by omega) rfl (fun k => Rm.tk r.b (Pm.co (rollI r.b r.rule m n i) k + Pm.co (Pm.rest r.b r.rule m) i * Pm.co (Pm.rest r.b r.rule (n + i)) k)) ?_ ?_
      · intro H6 k g6 hk kk hkk
        refine ⟨_,rfl,_,rfl,_,rfl,_,_,.inl (SqL.of (g6 _ _ ht)),atI_ints (ns := rollI r.b r.rule m n i) (by omega : (0 : Int) ≤ 0 + (k : Int)) (by rw [rollI,Pm.ofF_len]; omega),?_⟩
        refine ⟨_,rfl,_,rfl,_,rfl,_,_,.inl (SqL.of (g6 _ _ hp)),atI_ints (ns := Pm.rest r.b r.rule (n + i)) (by omega : (0 : Int) ≤ 0 + (k : Int)) (by rw [Pm.rest_len]; omega),?_⟩
        refine ⟨mulBd (Rm.Bd.getD bm _) (Rm.Bd.getD bn _) (by decide),r.b,_,rfl,ok.ok.by0,?_⟩
        rw [show (0 + (k : Int)).toNat = k by omega]
        exact hkk
      · intro D hD
        have gD := Same.new hD (.lst ((Pm.ofF r.rule.length fun k => Rm.tk r.b (Pm.co (rollI r.b r.rule m n i) k + Pm.co (Pm.rest r.b r.rule m) i * Pm.co (Pm.rest r.b r.rule (n + i)) k)).map V.int))
        have hD2 : (upd H' D (.lst ((Pm.ofF r.rule.length fun k => Rm.tk r.b (Pm.co (rollI r.b r.rule m n i) k + Pm.co (Pm.rest r.b r.rule m) i * Pm.co (Pm.rest r.b r.rule (n + i)) k)).map V.int))) D = some (.lst ((rollI r.b r.rule m n (i + 1)).map V.int)) := by rw [upd_same,rollI_step]
        have hp2 := gD _ _ hp
        generalize upd H' D (.lst ((Pm.ofF r.rule.length fun k => Rm.tk r.b (Pm.co (rollI r.b r.rule m n i) k + Pm.co (Pm.rest r.b r.rule m) i * Pm.co (Pm.rest r.b r.rule (n + i)) k)).map V.int)) = H7 at gD hD2 hp2
        refine ⟨_,rfl,_,rfl,_,rfl,r.b,v,r,lp,Pm.rest r.b r.rule (n + i),rfl,(hRI.same g).same gD,ok,hp2,Pm.rest_len ..,bn,fun l6 H6 g6 f6 h6 => ?_⟩
        rw [timesX_rest ok.one] at h6
        exact ⟨D,l6,_,rfl,g.trans (gD.trans g6),g'.trans (gD.trans g6),g.free hD,g6 _ _ hD2,h6⟩
    · rintro σ' H' ⟨lt,lp,o6,rfl,g,g',ft,ht,hp⟩
      rw [lM,rollI_end ok.one] at ht
      exact ⟨_,rfl,q lt H' g ft ht⟩
theorem ok_Lrest_far (B : Bt mg) (F : Fn K mg "_law_rest_far" s_Lrest_far ["_law_by","_law_row","_law_n"]) (M : Ms K mg base A_NoBy A_NoName A_NoNumber A_NoRow A_NoText A_RuleError A_TooBig A_TooFar A_TooLong) (C_Lstep_by_step : Cal P w K mg base "_law_step_by_step" 3 ["_law_by","_law_row","_law_n"] spSteps) (C_Lrolled_rests : Cal P w K mg base "_law_rolled_rests" 3 ["_law_by","_law_row","_law_one","_law_other"] spRolled) : Cal P w K mg base "_law_rest_far" 4 ["_law_by","_law_row","_law_n"] spRestFar := by
  refine F.cal sc_Lrest_far (fun vs H Q E h => ?_) (fun f cdv A outer s H vs Q E hr h => ?_)
  · obtain ⟨b,v,r,n,rfl,_⟩ := h; rfl
  · obtain ⟨b,v,r,n,rfl,rfl,hRI,ok,hn,q⟩ := h
    refine ⟨_,(pss_cons (ps_set (i := 3) sc_Lrest_far.nd rfl (Or.inl rfl) (pe_callC C_Lstep_by_step hr rfl (pa_n (pv 0) (pa_n (pv 1) (pa_k pe_int pa_nil)))))
      (pss_cons (ps_set (i := 4) sc_Lrest_far.nd rfl (Or.inl rfl) (pe_callC C_Lstep_by_step hr rfl (pa_n (pv 0) (pa_n (pv 1) (pa_k pe_int pa_nil)))))
      (pss_cons (ps_while PassesOwn.never (pt_cmpR op_gt (pv 2) pe_int (nomark _))
      (pss_cons (ps_bar (ps_if (pt_cmpR (xeq K hr) (pe_op op_mod (pv 2) pe_int) pe_int (nomark _))
      (pss_one (ps_set (i := 3) sc_Lrest_far.nd rfl (Or.inl rfl) (pe_callC C_Lrolled_rests hr rfl (pa_n (pv 0) (pa_n (pv 1) (pa_n (pv 3) (pa_n (pv 4) pa_nil)))))))
      pss_nil))
      (pss_cons (ps_set (i := 4) sc_Lrest_far.nd rfl (Or.inl rfl) (pe_callC C_Lrolled_rests hr rfl (pa_n (pv 0) (pa_n (pv 1) (pa_n (pv 4) (pa_n (pv 4) pa_nil))))))
      (pss_one (ps_set (i := 2) sc_Lrest_far.nd rfl (Or.inl rfl) (pe_op op_fdiv (pv 2) pe_int))))))
      (pss_one (ps_ret (pv 3)))))),?_⟩
    refine ⟨_,rfl,_,rfl,r.b,v,r,0,rfl,hRI,ok,by decide,fun l1 H1 g1 f1 h1 => ?_⟩
    refine ⟨_,rfl,_,rfl,r.b,v,r,1,rfl,hRI.same g1,ok,by decide,fun l2 H2 g2 f2 h2 => ?_⟩
    refine ⟨fun t σ' H' => ∃ (la lb : Addr) (x m e : Nat),x = t ∧ n = m + x * e ∧ (r.b = 0 → 0 < x → e ≤ n) ∧ σ' = [some (.int r.b),some v,some (.int x),some (.ref la),some (.ref lb)] ∧ Same H H' ∧ H la = none ∧ H' la = some (.lst ((Pm.rest r.b r.rule m).map V.int)) ∧ H' lb = some (.lst ((Pm.rest r.b r.rule e).map V.int)),
      ⟨_,l1,l2,n,0,1,rfl,by omega,fun _ h => h,rfl,g1.trans g2,f1,g2 _ _ h1,h2⟩,?_⟩
    rintro t σ' H' ⟨la,lb,x,m,e,rfl,hx,he,rfl,g,fa,ha,hb⟩
    refine ⟨_,rfl,_,_,rfl,rfl,_,rfl,?_⟩
    refine ite2 (fun cc => ?_) (fun cc => ?_)
    · have hx0 : 0 < x := by have := dec_true cc; omega
      have he0 := fun z => he z hx0
      have hme : r.b = 0 → m ≤ 400 := fun z => by have := hn z; omega
      refine ⟨_,fun _ _ z => z,?_⟩
      refine BarS.by (fun σ' H' => ∃ (la : Addr),σ' = [some (.int r.b),some v,some (.int x),some (.ref la),some (.ref lb)] ∧ Same H H' ∧ H la = none ∧ H' la = some (.lst ((Pm.rest r.b r.rule (m + x % 2 * e)).map V.int)) ∧ H' lb = some (.lst ((Pm.rest r.b r.rule e).map V.int))) (fun NN hNN => ?_) ?_
      · refine ⟨_,rfl,_,_,rfl,rfl,(by decide : (0 : Int) < 2),_,rfl,?_⟩
        refine ite2 (fun c => ?_) (fun c => ?_)
        · have c' : x % 2 = 1 := by have := dec_true c; omega
          refine ⟨_,rfl,_,rfl,_,rfl,_,rfl,r.b,v,r,la,lb,m,e,rfl,rfl,hRI.same g,ok,ha,hb,fun z => by have := hn z; have := he0 z; have := hme z; omega,fun l3 H3 g3 f3 h3 => ?_⟩
          refine hNN _ _ ⟨l3,rfl,g.trans g3,g.free f3,?_,g3 _ _ hb⟩
          rw [c',Nat.one_mul,Nat.add_comm m e]; exact h3
        · have c' : x % 2 = 0 := by have := dec_false c; omega
          refine hNN _ _ ⟨la,rfl,g,fa,?_,hb⟩
          rw [c',Nat.zero_mul,Nat.add_zero]; exact ha
      · rintro σ' H3 ⟨lc,rfl,g3,fc,hc,hb3⟩
        refine ⟨_,rfl,_,rfl,_,rfl,_,rfl,r.b,v,r,lb,lb,e,e,rfl,rfl,hRI.same g3,ok,hb3,hb3,fun z => by have := hn z; have := he0 z; omega,fun l4 H4 g4 f4 h4 => ?_⟩
        refine ⟨_,rfl,_,_,rfl,rfl,⟨by decide,by decide⟩,?_⟩
        have ex : (x : Int) / 2 = ((x / 2 : Nat) : Int) := by omega
        have hx2 : x = 2 * (x / 2) + x % 2 := by omega
        refine ⟨x / 2,by omega,lc,l4,x / 2,m + x % 2 * e,e + e,rfl,?_,fun z h0 => ?_,?_,g3.trans g4,fc,g4 _ _ hc,h4⟩
        · have h1 : x * e = (2 * (x / 2) + x % 2) * e := congrArg (· * e) hx2
          rw [Nat.add_mul] at h1
          have h3 : 2 * (x / 2) * e = x / 2 * e + x / 2 * e := by rw [Nat.mul_assoc,Nat.two_mul]
          rw [hx,Nat.mul_add]
          omega
        · have h2 : 2 ≤ x := by omega
          have : 2 * e ≤ x * e := Nat.mul_le_mul_right e h2
          omega
        · show [_,_,some (V.int ((x : Int) / 2)),_,_] = _
          rw [ex]
    · have hx0 : x = 0 := by have := dec_false cc; omega
      subst hx0
      rw [Nat.zero_mul,Nat.add_zero] at hx
      subst hx
      exact ⟨_,rfl,q la H' g fa ha⟩
theorem ok_Lrefused (B : Bt mg) (F : Fn K mg "_law_refused" s_Lrefused ["_law_told"]) (M : Ms K mg base A_NoBy A_NoName A_NoNumber A_NoRow A_NoText A_RuleError A_TooBig A_TooFar A_TooLong) : CalS P w K mg base "_law_refused" 7 ["_law_told"] (spHear P w K mg base 6 (spRefL A_TooFar)) := by
  refine F.calS sc_Lrefused (fun s vs H Q E h => ?_) (fun f cdv A outer s H vs Q E hr h => ?_)
  · obtain ⟨f,sp0,rfl,_⟩ := h; rfl
  · obtain ⟨f,sp0,rfl,hL,h0,q⟩ := h
    refine ⟨_,(pss_cons (ps_set (i := 1) sc_Lrefused.nd rfl (Or.inl rfl) pe_non)
      (pss_cons (ps_tryTold (i := 0) (j := 2) hL hr rfl rfl rfl rfl (Or.inl rfl) sc_Lrefused.nd rfl rfl rfl M.m_RuleError (fun a => (pss_one (ps_set (i := 1) sc_Lrefused.nd rfl (Or.inl rfl) (pv 2)))))
      (pss_cons (ps_if (PW.pt (pw_or (pt_val (pe_callB (xisiE K) rfl B.b_isinstance boot_isinstance (pa_n (pv 1) (pa_t (pe_tup (pa_n (pe_cls rfl M.m_NoBy) (pa_n (pe_cls rfl M.m_NoName) (pa_n (pe_cls rfl M.m_NoNumber) (pa_n (pe_cls rfl M.m_NoRow) (pa_n (pe_cls rfl M.m_NoText) (pa_n (pe_cls rfl M.m_TooBig) (pa_n (pe_cls rfl M.m_TooLong) pa_nil)))))))) pa_nil)))) (pw_or1 (pt_not (pt_val (pe_callB (xisiE K) rfl B.b_isinstance boot_isinstance (pa_n (pv 1) (pa_n (pe_tyB rfl B.b_ValueError boot_ValueError) pa_nil))))))))
      (pss_one (ps_ret pe_bl))
      pss_nil)
      (pss_one (ps_ret (pe_callB (xisiE K) rfl B.b_isinstance boot_isinstance (pa_n (pv 1) (pa_n (pe_cls rfl M.m_TooFar) pa_nil)))))))),?_⟩
    refine ⟨rfl,h0 _ _ fun H2 g2 => ⟨_,rfl,M.s_TooFar_RuleError,fun a ha => ?_⟩⟩
    have g0 := g2.trans (Same.new ha (excO a A_TooFar))
    have hA : (upd H2 a (excO a A_TooFar)) a = some (excO a A_TooFar) := upd_same
    generalize upd H2 a (excO a A_TooFar) = H3 at g0 hA
    refine ⟨_,rfl,_,rfl,(by show 7 ≤ sizeLine; decide),fun p hp => ?_⟩
    have g1 := Same.new hp (.tup [.ref A_NoBy,.ref A_NoName,.ref A_NoNumber,.ref A_NoRow,.ref A_NoText,.ref A_TooBig,.ref A_TooLong])
    replace hA := g1 _ _ hA
    refine ⟨a,A_TooFar,.ref p,false,rfl,hA,M.i_TooFar,.inr (.inr ⟨p,[A_NoBy,A_NoName,A_NoNumber,A_NoRow,A_NoText,A_TooBig,A_TooLong],rfl,upd_same,?_⟩),?_⟩
    · simp only [List.map,PySem.W.kitAny,M.k_TooFar_NoBy,M.k_TooFar_NoName,M.k_TooFar_NoNumber,M.k_TooFar_NoRow,M.k_TooFar_NoText,M.k_TooFar_TooBig,M.k_TooFar_TooLong]
    · refine ⟨_,rfl,iteF ?_⟩
      refine ⟨_,rfl,a,A_TooFar,_,true,rfl,hA,M.i_TooFar,.inr (.inl ⟨_,rfl,M.k_TooFar_ValueError⟩),_,rfl,iteF ?_⟩
      exact ⟨_,rfl,a,A_TooFar,_,true,rfl,hA,M.i_TooFar,.inl ⟨_,rfl,M.k_TooFar_TooFar⟩,q _ (g0.trans g1)⟩
theorem ok_Lall_refused {T : Addr} (MK : MkD mg base "_law_all_refused" T) (KB : K.In base) (B : Bt mg) (F : Fn K mg "_law_all_refused" s_Lall_refused ["_law_row","_law_n"]) (M : Ms K mg base A_NoBy A_NoName A_NoNumber A_NoRow A_NoText A_RuleError A_TooBig A_TooFar A_TooLong) (C_Lrefused : CalS P w K mg base "_law_refused" 7 ["_law_told"] (spHear P w K mg base 6 (spRefL A_TooFar))) (C_jump : Cal P w K mg base "jump" 4 ["row","n"] (spJump A_TooFar)) (C_onward : Cal P w K mg base "onward" 5 ["row","n"] (spOnward A_TooFar)) (C_place_at : Cal P w K mg base "place_at" 5 ["row","n"] (spPlaceAt A_TooFar)) : Cal P w K mg base "_law_all_refused" 8 ["_law_row","_law_n"] (spAllRef T) := by
  refine F.calM MK KB sc_Lall_refused (fun vs H Q E h => ?_) (fun f cdv A outer s H vs Q E hM hr h => ?_)
  · obtain ⟨v,r,n,rfl,_⟩ := h; rfl
  · obtain ⟨v,r,n,rfl,hR,ok,hf,hT,q⟩ := h
    refine ⟨_,(pss_cons (ps_if (pt_not (pt_val (pe_hear (N := ["_law_row","_law_n"]) (ix := [some 0,some 1]) C_Lrefused hr rfl hM (lam_mk (by kernel_rfl) (by kernel_rfl) (by kernel_rfl) (by kernel_rfl) (by kernel_rfl) (by kernel_rfl) (by kernel_rfl) (by kernel_rfl)) (fun f cd cl A outer s₀ H₀ E hr => (pe_callCL C_jump hr rfl (pa_n (pv 0) (pa_n (pv 1) pa_nil)))) rfl)))
      (pss_one (ps_ret pe_bl))
      pss_nil)
      (pss_cons (ps_if (pt_not (pt_val (pe_hear (N := ["_law_row","_law_n"]) (ix := [some 0,some 1]) C_Lrefused hr rfl hM (lam_mk (by kernel_rfl) (by kernel_rfl) (by kernel_rfl) (by kernel_rfl) (by kernel_rfl) (by kernel_rfl) (by kernel_rfl) (by kernel_rfl)) (fun f cd cl A outer s₀ H₀ E hr => (pe_callCL C_onward hr rfl (pa_n (pv 0) (pa_n (pv 1) pa_nil)))) rfl)))
      (pss_one (ps_ret pe_bl))
      pss_nil)
      (pss_one (ps_ret (pe_hear (N := ["_law_row","_law_n"]) (ix := [some 0,some 1]) C_Lrefused hr rfl hM (lam_mk (by kernel_rfl) (by kernel_rfl) (by kernel_rfl) (by kernel_rfl) (by kernel_rfl) (by kernel_rfl) (by kernel_rfl) (by kernel_rfl)) (fun f cd cl A outer s₀ H₀ E hr => (pe_callCL C_place_at hr rfl (pa_n (pv 0) (pa_n (pv 1) pa_nil)))) rfl))))),?_⟩
    refine ⟨hT,fun H1 g1 hT1 => ⟨fun Q' E' hE => ⟨_,rfl,_,rfl,v,r,n,rfl,hR.sameT g1,ok,fun z => absurd hf z,fun _ => hE _ (Same.refl _)⟩,fun H2 g2 => ?_⟩⟩
    refine ⟨_,rfl,iteF ?_⟩
    have g12 := g1.trans g2.t
    refine ⟨hT1.same g2,fun H3 g3 hT3 => ⟨fun Q' E' hE => ⟨_,rfl,_,rfl,v,r,n,rfl,hR.sameT (g12.trans g3),ok,fun z => absurd hf z,fun _ => hE _ (Same.refl _)⟩,fun H4 g4 => ?_⟩⟩
    refine ⟨_,rfl,iteF ?_⟩
    have g14 := (g12.trans g3).trans g4.t
    exact ⟨hT3.same g4,fun H5 g5 hT5 => ⟨fun Q' E' hE => ⟨_,rfl,_,rfl,v,r,n,rfl,hR.sameT (g14.trans g5),ok,fun z => absurd hf z,fun _ => hE _ (Same.refl _)⟩,fun H6 g6 => q _ ((g14.trans g5).trans g6.t) (hT5.same g6)⟩⟩
theorem ok_Lis_row (B : Bt mg) (F : Fn K mg "_law_is_row" s_Lis_row ["_law_found","_law_due"]) (M : Ms K mg base A_NoBy A_NoName A_NoNumber A_NoRow A_NoText A_RuleError A_TooBig A_TooFar A_TooLong) : Cal P w K mg base "_law_is_row" 2 ["_law_found","_law_due"] spIsRow := by
  refine F.cal sc_Lis_row (fun vs H Q E h => ?_) (fun f cdv A outer s H vs Q E hr h => ?_)
  · obtain ⟨v,v',r,rfl,_⟩ := h; rfl
  · obtain ⟨v,v',r,rfl,hR,hR',hl,q⟩ := h
    refine ⟨_,(pss_cons (ps_if (PW.pt (pw_or (pt_not (pt_val (pe_callB v_isinstance rfl B.b_isinstance boot_isinstance (pa_n (pv 0) (pa_n (pe_tyB rfl B.b_tuple boot_tuple) pa_nil))))) (pw_or (pt_cmpR (xne K hr) (pv 0) (pv 1) (nomark _)) (pw_or1 (pt_not (pt_val (pe_callB v_isinstance rfl B.b_isinstance boot_isinstance (pa_cons (pe_ix (xix K) (pv 0) pe_int (fun _ _ => rfl)) (pa_n (pe_tyB rfl B.b_tuple boot_tuple) pa_nil)))))))))
      (pss_one (ps_ret pe_bl))
      pss_nil)
      (pss_one (ps_ret (pe_and (pe_callB v_isinstance rfl B.b_isinstance boot_isinstance (pa_cons (pe_ix (xix K) (pv 0) pe_int (fun _ _ => rfl)) (pa_n (pe_tyB rfl B.b_tuple boot_tuple) pa_nil))) (pe_one (pe_cmpR (xeq K hr) (pe_comp (sc := cs_Lis_row1) (N := ["_law_one"]) (ix := [none]) (comp_mk (by kernel_rfl) (by kernel_rfl) (by kernel_rfl) (by kernel_rfl) (by kernel_rfl) (by kernel_rfl) (by kernel_rfl) (by kernel_rfl)) rfl (xseq K (pe_ix (xix K) (pv 0) pe_int (fun _ _ => rfl))) (fun cl C s₀ H₀ ex => ⟨(pg_name (i := 0) (show (["_law_one"] : List Str).Nodup by decide +kernel) rfl (Or.inl rfl)),(pif_one (pt_val (pe_callB v_isinstance rfl B.b_isinstance boot_isinstance (pa_n (pv 0) (pa_n (pe_tyB rfl B.b_bool boot_bool) pa_nil))))),(pv 0)⟩)) (pe_lst pa_nil) (nomark _))))))),?_⟩
    obtain ⟨a,p,p2,rfl,hA,hP,hS⟩ := id hR
    have ty : tyNm H (.ref a) = some "tuple" := by simp only [tyNm,hA]
    refine ⟨_,rfl,.ref a,"tuple","tuple",rfl,ty,by simp,_,rfl,iteF ?_⟩
    refine ⟨_,rfl,_,rfl,eqRR hR hR' ⟨_,rfl,?_⟩⟩
    rw [decide_eq_true ⟨rfl,rfl,rfl⟩]
    refine iteF ?_
    have ty1 : tyNm H (.ref p) = some "tuple" := by simp only [tyNm,hP]
    have ty2 : tyNm H (.ref p2) = some "tuple" := by simp only [tyNm,hS]
    refine ⟨_,rfl,_,_,.inr (SqT.of hA),rfl,.ref p,"tuple","tuple",rfl,ty1,by simp,_,rfl,iteF ?_⟩
    refine ⟨_,rfl,_,_,.inr (SqT.of hA),rfl,.ref p2,"tuple","tuple",rfl,ty2,by simp,_,rfl,iteT ?_⟩
    refine ⟨_,rfl,_,_,.inr (SqT.of hA),rfl,p2,rfl,.inr ⟨⟨_,SqT.of hS⟩,comp_pure (its_tup (SqT.of hS)) (by rw [List.length_map]; exact Nat.le_of_lt (small1000 (by omega))) rfl (fun _ => false) (fun x => x) ?_ ?_ ?_⟩⟩
    · intro H3 x g3 hx k hk
      obtain ⟨n,_,rfl⟩ := List.mem_map.mp hx
      exact ⟨_,rfl,.int n,"bool","int",rfl,rfl,by simp,_,rfl,hk⟩
    · intro H3 x g3 hx hp k hk; cases hp
    · intro D hD
      have e : ((r.starts.map V.int).filter fun _ => false).map (fun x => x) = [] := by simp
      rw [e]
      have gD := Same.new hD (.lst ([] : List V))
      have hD2 : (upd H D (.lst ([] : List V))) D = some (.lst ([] : List V)) := upd_same
      generalize upd H D (.lst ([] : List V)) = H3 at gD hD2
      refine ⟨(by show 0 ≤ sizeLine; decide),fun l3 hl3 => ?_⟩
      have g3 := Same.new hl3 (.lst ([] : List V))
      refine eqLL (ns := []) (ms := []) (SqL.of (g3 _ _ hD2)) (SqL.of upd_same) ?_
      exact q _ (gD.trans g3)
theorem ok_law {T : Addr} (B : Bt mg) {f : Addr} {fd : FuncData} (F : Fun K "law" "law" s_law f fd) (M : Ms K mg base A_NoBy A_NoName A_NoNumber A_NoRow A_NoText A_RuleError A_TooBig A_TooFar A_TooLong) (C_Ldrawn_by : Cal P w K mg base "_law_drawn_by" 2 ["_law_cell"] spByF) (C_Lcell_at : Cal P w K mg base "_law_cell_at" 1 ["_law_script","_law_k"] (spCellF K)) (C_Ldrawn_row : Cal P w K mg base "_law_drawn_row" 4 ["_law_script","_law_start","_law_by","_law_most"] (spDrawn K)) (C_Lplaces : Cal P w K mg base "_law_places" 2 ["_law_row","_law_count"] spPlacesF) (C_Lmix : Cal P w K mg base "_law_mix" 1 ["_law_cell","_law_k"] spMixF) (C_onward : Cal P w K mg base "onward" 5 ["row","n"] (spOnward A_TooFar)) (C_Lis_row : Cal P w K mg base "_law_is_row" 2 ["_law_found","_law_due"] spIsRow) (C_Lrest_far : Cal P w K mg base "_law_rest_far" 4 ["_law_by","_law_row","_law_n"] spRestFar) (C_Ltaken : Cal P w K mg base "_law_taken" 1 ["_law_by","_law_number"] spTaken) (C_Lall_refused : Cal P w K mg base "_law_all_refused" 8 ["_law_row","_law_n"] (spAllRef T)) : FnOk P w K mg base (Flown P w) KLAW f fd ["_law_script"] (spLawT K T) := by
  refine F.okN (k := 8) sc_law (fun vs H Q E h => ?_) (fun cdv A outer s H vs Q E hr h => ?_)
  · obtain ⟨a,ns,rfl,_⟩ := h; rfl
  · obtain ⟨a,ns,rfl,hS,hlen,hB,hT,q⟩ := h
    refine ⟨_,(pss_cons (ps_set (i := 1) sc_law.nd rfl (Or.inl rfl) (pe_callC C_Ldrawn_by hr rfl (pa_cons (pe_callC C_Lcell_at hr rfl (pa_n (pv 0) (pa_k pe_int pa_nil))) pa_nil)))
      (pss_cons (ps_set (i := 2) sc_law.nd rfl (Or.inl rfl) (pe_callC C_Ldrawn_row hr rfl (pa_n (pv 0) (pa_k pe_int (pa_n (pv 1) (pa_k pe_int pa_nil))))))
      (pss_cons (ps_set (i := 3) sc_law.nd rfl (Or.inl rfl) (pe_callC C_Lcell_at hr rfl (pa_n (pv 0) (pa_k pe_int pa_nil))))
      (pss_cons (ps_set (i := 4) sc_law.nd rfl (Or.inl rfl) (pe_callB (xlen K) rfl B.b_len boot_len (pa_cons (pe_ix (xix K) (pv 2) pe_int (fun _ _ => rfl)) pa_nil)))
      (pss_cons (ps_set (i := 5) sc_law.nd rfl (Or.inr rfl) (pe_callC C_Lplaces hr rfl (pa_n (pv 2) (pa_k pe_int pa_nil))))
      (pss_cons (ps_for PassesOwn.never rfl (xseq K (pe_lst (pa_k pe_int (pa_b (pe_op op_mod (pe_callC C_Lmix hr rfl (pa_n (pv 3) (pa_k pe_int pa_nil))) pe_int) (pa_k pe_int pa_nil))))) (pg_name (i := 6) sc_law.nd rfl (Or.inl rfl))
      (pss_cons (ps_set (i := 7) sc_law.nd rfl (Or.inl rfl) (pe_callC C_onward hr rfl (pa_n (pv 2) (pa_n (pv 6) pa_nil))))
      (pss_cons (ps_if (pt_not (pt_val (pe_callC C_Lis_row hr rfl (pa_n (pv 7) (pa_t (pe_tup (pa_n (pv 1) (pa_cons (pe_ix (xix K) (pv 2) pe_int (fun _ _ => rfl)) (pa_cons (pe_callTy (xtuple K) rfl B.b_tuple boot_tuple (pa_cons (pe_slice (xsl K) (pv 5) (po_some (pv 6)) (po_some (pe_op (xadd K) (pv 6) (pv 4)))) pa_nil)) pa_nil)))) pa_nil)))))
      (pss_one (ps_ret pe_bl))
      pss_nil)
      (pss_one (ps_if (pt_cmpR (xne K hr) (pe_callC C_Lplaces hr rfl (pa_n (pv 7) (pa_k pe_int pa_nil))) (pe_slice (xsl K) (pv 5) (po_some (pv 6)) (po_some (pe_op (xadd K) (pv 6) pe_int))) (nomark _))
      (pss_one (ps_ret pe_bl))
      pss_nil)))))
      (pss_cons (ps_set (i := 8) sc_law.nd rfl (Or.inl rfl) (pe_op op_mod (pe_op v_mul (pe_op (xadd K) (pv 3) pe_int) (pe_op op_pow pe_int pe_int)) (pe_op op_pow pe_int pe_int)))
      (pss_cons (ps_bar (ps_if (pt_cmpR op_gt (pv 1) pe_int (nomark _))
      (pss_cons (ps_set (i := 9) sc_law.nd rfl (Or.inl rfl) (pe_lst pa_nil))
      (pss_cons (ps_set (i := 10) sc_law.nd rfl (Or.inr rfl) (pe_callC C_Lrest_far hr rfl (pa_n (pv 1) (pa_n (pv 2) (pa_n (pv 8) pa_nil)))))
      (pss_cons (ps_for PassesOwn.never rfl (pi_range1 rfl B.b_range (pa_n (pv 4) pa_nil)) (pg_name (i := 11) sc_law.nd rfl (Or.inr rfl))
      (pss_one (ps_expr (xappend K (pv 9) (pe_callC C_Ltaken hr rfl (pa_n (pv 1) (pa_cons (pe_callB (xsum K rfl) rfl B.b_sum boot_sum (pa_cons (pe_comp (sc := cs_law1) (N := ["_law_k","_law_m","_law_rest","_law_whole"]) (ix := [none,some 11,some 10,some 5]) (comp_mk (by kernel_rfl) (by kernel_rfl) (by kernel_rfl) (by kernel_rfl) (by kernel_rfl) (by kernel_rfl) (by kernel_rfl) (by kernel_rfl)) rfl (pi_range1 rfl B.b_range (pa_n (pv 4) pa_nil)) (fun cl C s₀ H₀ ex => ⟨(pg_name (i := 0) (show (["_law_k","_law_m","_law_rest","_law_whole"] : List Str).Nodup by decide +kernel) rfl (Or.inl rfl)),pif_nil,(pe_op v_mul (pe_ix (xix K) (pv 2) (pv 0) (fun _ _ => rfl)) (pe_ix (xix K) (pv 3) (pe_op (xadd K) (pv 1) (pv 0)) (fun _ _ => rfl)))⟩)) pa_nil)) pa_nil)))))))
      (pss_one (ps_if (pt_not (pt_val (pe_callC C_Lis_row hr rfl (pa_cons (pe_callC C_onward hr rfl (pa_n (pv 2) (pa_n (pv 8) pa_nil))) (pa_t (pe_tup (pa_n (pv 1) (pa_cons (pe_ix (xix K) (pv 2) pe_int (fun _ _ => rfl)) (pa_cons (pe_callTy (xtuple K) rfl B.b_tuple boot_tuple (pa_n (pv 9) pa_nil)) pa_nil)))) pa_nil)))))
      (pss_one (ps_ret pe_bl))
      pss_nil)))))
      (pss_one (ps_if (PW.pt (pw_or (pt_not (pt_val (pe_callC C_Lall_refused hr rfl (pa_n (pv 2) (pa_k pe_int pa_nil))))) (pw_or1 (pt_not (pt_val (pe_callC C_Lall_refused hr rfl (pa_n (pv 2) (pa_b (pe_op (xadd K) pe_int (pv 8)) pa_nil))))))))
      (pss_one (ps_ret pe_bl))
      pss_nil))))
      (pss_one (ps_ret (pe_and (pe_callC C_Lall_refused hr rfl (pa_n (pv 2) (pa_u (pe_un un_neg pe_int) pa_nil))) (pe_one (pe_callC C_Lall_refused hr rfl (pa_n (pv 2) (pa_b (pe_op op_sub (pe_un un_neg pe_int) (pv 8)) pa_nil))))))))))))))),?_⟩
    refine ⟨_,rfl,a,ns,0,rfl,hS,by decide,by decide,hB,fun c hc => ?_⟩
    refine ⟨c,rfl,fun b H1 g1 hb => ?_⟩
    refine ⟨_,rfl,_,rfl,a,ns,1,b,12,rfl,g1.seq hS,by decide,by decide,hB,hb,by decide,by decide,fun v r H2 g2 hR ok eb => ?_⟩
    subst eb
    refine ⟨_,rfl,a,ns,3,rfl,g2.seq (g1.seq hS),by decide,by decide,hB,fun c3 hc3 => ?_⟩
    obtain ⟨ar,p,p2,rfl,hA,hP,hSt⟩ := id hR
    have hsh := ok.ok.short
    have hl := ok.ok.len
    refine ⟨_,rfl,_,_,.inr (SqT.of hA),rfl,.ref p,r.rule.length,rfl,.inr ⟨_,SqT.of hP,(List.length_map _).symm⟩,?_⟩
    refine ⟨_,rfl,.ref ar,r,420,rfl,hR,ok.ok.w (by decide),by decide,by decide,fun lw H3 g3 fw hw => ?_⟩
    rw [show (420 : Int).toNat = 420 from rfl] at hw
    have hR3 := hR.same g3
    have hT3 := (hT (lamQ "_law_all_refused")).same (g1.trans (g2.trans g3))
    refine ⟨_,rfl,c3,1,rfl,by decide,by decide,fun x1 _ _ => ?_⟩
    refine ⟨_,_,rfl,rfl,(by decide : (0 : Int) < 401),(by show 3 ≤ sizeLine; decide),fun lf hlf => ?_⟩
    have a0 := emod_lo x1 (show (0 : Int) < 401 by decide)
    have a1 := emod_hi x1 (show (0 : Int) < 401 by decide)
    have gf := Same.new hlf (.lst [.int 0,.int (x1 % 401),.int 400])
    have hF : (upd H3 lf (.lst [.int 0,.int (x1 % 401),.int 400])) lf = some (.lst [.int 0,.int (x1 % 401),.int 400]) := upd_same
    generalize upd H3 lf (.lst [.int 0,.int (x1 % 401),.int 400]) = H4 at gf hF
    have hR4 := hR3.same gf
    have hw4 := gf _ _ hw
    have hT4 := hT3.same gf
    refine ⟨lf,rfl,.inl ⟨⟨_,SqL.of hF⟩,?_⟩⟩
    refine for_its (its_list (SqL.of hF)) (fun i σ' H' => ∃ (o6 o7 : Option V),σ' = [some (.ref a),some (.int r.b),some (.ref ar),some (.int c3),some (.int (r.rule.length : Int)),some (.ref lw),o6,o7,none,none,none,none] ∧ Same H4 H') ⟨_,_,rfl,Same.refl _⟩ (fun i σ' H' ⟨_,_,_,z⟩ => z) ?_ ?_
    · rintro i x σ' H' hx ⟨o6,o7,rfl,g⟩
      have hx' : x ∈ ([.int 0,.int (x1 % 401),.int 400] : List V) := List.mem_of_getElem? hx
      obtain ⟨n,rfl,hn⟩ : ∃ n : Nat,x = .int (n : Int) ∧ n ≤ 400 := by
        simp only [List.mem_cons,List.not_mem_nil,or_false] at hx'
        rcases hx' with rfl | rfl | rfl
        · exact ⟨0,rfl,by decide⟩
        · exact ⟨(x1 % 401).toNat,by rw [Int.toNat_of_nonneg a0],by omega⟩
        · exact ⟨400,rfl,by decide⟩
      clear hx hx'
      have hR' := hR4.same g
      have hbd : Rm.Bd 400 (n : Int) := (Rm.Bd.of (n := 10) (by omega) (by omega)).mono (by decide)
      have hgood : ¬ FarBad r.b (n : Int) := fun z => by unfold FarBad at z; omega
      refine ⟨_,rfl,_,rfl,.ref ar,r,(n : Int),rfl,hR',ok,fun _ => ⟨hbd,fun vf H5 g5 hF5 => ?_⟩,fun z => absurd z hgood⟩
      rw [Int.toNat_natCast] at hF5
      have hR5 := hR'.same g5
      obtain ⟨ar',pr,pr2,er,hA5,hP5,hS5⟩ := id hR5
      cases er
      have hw5 := g5 _ _ (g _ _ hw4)
      refine ⟨_,rfl,_,rfl,_,rfl,_,_,.inr (SqT.of hA5),rfl,_,rfl,_,rfl,_,rfl,_,rfl,_,rfl,_,rfl,.inl ⟨_,SqL.of hw5,fun l6 hl6 => ?_⟩⟩
      rw [cut_row r (show n + r.rule.length ≤ 420 by omega)]
      have g6 := Same.new hl6 (.lst ((Pm.ofF r.rule.length fun m => r.at (m + n)).map V.int))
      refine ⟨l6,_,rfl,.inl ⟨SqL.of upd_same,fun t6 ht6 => ⟨(by show 3 ≤ sizeLine; decide),fun t7 ht7 => ?_⟩⟩⟩
      have g7 := Same.new ht6 (.tup ((Pm.ofF r.rule.length fun m => r.at (m + n)).map V.int))
      have g8 := Same.new ht7 (.tup [.int r.b,.ref pr,.ref t6])
      have g58 := g6.trans (g7.trans g8)
      have e7 : (upd (upd (upd H5 l6 (.lst ((Pm.ofF r.rule.length fun m => r.at (m + n)).map V.int))) t6 (.tup ((Pm.ofF r.rule.length fun m => r.at (m + n)).map V.int))) t7 (.tup [.int r.b,.ref pr,.ref t6])) t7 = some (.tup [.int r.b,.ref pr,.ref t6]) := upd_same
      have e6 : (upd (upd (upd H5 l6 (.lst ((Pm.ofF r.rule.length fun m => r.at (m + n)).map V.int))) t6 (.tup ((Pm.ofF r.rule.length fun m => r.at (m + n)).map V.int))) t7 (.tup [.int r.b,.ref pr,.ref t6])) t6 = some (.tup ((Pm.ofF r.rule.length fun m => r.at (m + n)).map V.int)) := g8 _ _ upd_same
      generalize upd (upd (upd H5 l6 (.lst ((Pm.ofF r.rule.length fun m => r.at (m + n)).map V.int))) t6 (.tup ((Pm.ofF r.rule.length fun m => r.at (m + n)).map V.int))) t7 (.tup [.int r.b,.ref pr,.ref t6]) = H8 at g58 e6 e7
      have hdue : RowIs H8 (.ref t7) (r.on n) := ⟨t7,pr,t6,rfl,e7,g58 _ _ hP5,e6⟩
      have hF8 := hF5.same g58
      refine ⟨vf,.ref t7,r.on n,rfl,hF8,hdue,by show (Pm.ofF _ _).length ≤ 12; rw [Pm.ofF_len]; omega,fun H9 g9 => ⟨_,rfl,iteF ?_⟩⟩
      refine ⟨_,rfl,vf,r.on n,15,rfl,hF8.same g9,ok.onW (by omega),by decide,by decide,fun l10 H10 g10 f10 h10 => ?_⟩
      rw [show (15 : Int).toNat = 15 from rfl,Rw.on_row ok.ok.len] at h10
      have g510 := g58.trans (g9.trans g10)
      have hw10 := g510 _ _ hw5
      refine ⟨_,rfl,_,rfl,_,rfl,_,rfl,_,rfl,.inl ⟨_,SqL.of hw10,fun l11 hl11 => ?_⟩⟩
      rw [show (n : Int) + 15 = (n : Int) + ((15 : Nat) : Int) from rfl,cut_row r (show n + 15 ≤ 420 by omega)]
      have g11 := Same.new hl11 (.lst ((Pm.ofF 15 fun m => r.at (m + n)).map V.int))
      refine eqLL (SqL.of (g11 _ _ h10)) (SqL.of upd_same) ⟨_,rfl,?_⟩
      rw [decide_eq_true rfl]
      exact iteF ⟨_,_,rfl,g.trans (g5.trans (g510.trans g11))⟩
    rintro σ' H5 ⟨o6,o7,rfl,g⟩
    have hR5 := hR4.same g
    have hw5 := g _ _ hw4
    have hT5 := hT4.same g
    clear g3 g1 g2 hA hP hSt hR hR3 hR4 hT4 hT3 hw hw4 hT
    refine ⟨_,rfl,_,_,rfl,rfl,⟨by decide,by decide,by decide⟩,mulBd (m := 1048577) (n := 300) (Rm.Bd.add hc3 ((Rm.Bd.of (n := 2) (by decide) (by decide)).mono (by decide))) (Rm.Bd.of (by decide) (by decide)) (by decide),?_⟩
    refine ⟨_,_,rfl,rfl,⟨by decide,by decide,by decide⟩,_,_,rfl,rfl,(by decide : (0 : Int) < 10 ^ (59 : Int).toNat),?_⟩
    obtain ⟨n,e⟩ : ∃ n : Nat,(n : Int) = (c3 + 3) * 982451653 ^ (7 : Int).toNat % 10 ^ (59 : Int).toNat := ⟨_,Int.toNat_of_nonneg (emod_lo _ (by decide))⟩
    have hN : Rm.Bd 400 (n : Int) := by
      have h1 := emod_hi ((c3 + 3) * 982451653 ^ (7 : Int).toNat) (show (0 : Int) < 10 ^ (59 : Int).toNat by decide)
      rw [← e] at h1
      refine Rm.Bd.mono (m := 200) (Rm.Bd.of (by omega) ?_) (by decide)
      exact Int.lt_of_lt_of_le h1 (by decide)
    dsimp only
    rw [← e]
    clear e
    refine BarS.by (fun σ' H' => ∃ (o9 o10 o11 : Option V),σ' = [some (.ref a),some (.int r.b),some (.ref ar),some (.int c3),some (.int (r.rule.length : Int)),some (.ref lw),o6,o7,some (.int (n : Int)),o9,o10,o11] ∧ SameT H5 H' ∧ TblOk H' T (lamQ "_law_all_refused")) (fun NN hNN => ?_) ?_
    · refine ⟨_,rfl,_,_,rfl,rfl,_,rfl,?_⟩
      refine ite2 (fun cb => ?_) (fun cb => ?_)
      · have hb0 : 0 < r.b := dec_true cb
        have hgood : ¬ FarBad r.b (n : Int) := fun z => by unfold FarBad at z; omega
        refine ⟨(by show 0 ≤ sizeLine; decide),fun ld hld => ?_⟩
        have gd := Same.new hld (.lst ([] : List V))
        have hd : (upd H5 ld (.lst ([] : List V))) ld = some (.lst ([] : List V)) := upd_same
        generalize upd H5 ld (.lst ([] : List V)) = H6 at gd hd
        refine ⟨_,rfl,_,rfl,_,rfl,r.b,.ref ar,r,n,rfl,rfl,hR5.same gd,ok,fun z => by omega,fun lr H7 g7 f7 h7 => ?_⟩
        have bR := ok.rest_bd (m := n) (fun z => by omega)
        refine ⟨_,rfl,(r.rule.length : Int),rfl,(by omega : -(2 ^ 62) ≤ (r.rule.length : Int)),(by omega : (r.rule.length : Int) < 2 ^ 62),?_⟩
        have hd7 := g7 _ _ hd
        have fd7 : H5 ld = none := hld
        have gd7 := gd.trans g7
        refine for_range (lo := 0) (n := (r.rule.length : Int).toNat) (fun i σ' H' => ∃ (o11 : Option V),σ' = [some (.ref a),some (.int r.b),some (.ref ar),some (.int c3),some (.int (r.rule.length : Int)),some (.ref lw),o6,o7,some (.int (n : Int)),some (.ref ld),some (.ref lr),o11] ∧ Same H5 H' ∧ H' lr = some (.lst ((Pm.rest r.b r.rule n).map V.int)) ∧ H' ld = some (.lst ((Pm.ofF i fun m => r.at (m + n)).map V.int))) ⟨_,rfl,gd7,h7,hd7⟩ ?_ ?_
        · rintro m σ' H8 hm ⟨o11,rfl,g8,hr8,hd8⟩
          have hm' : m < r.rule.length := by omega
          have hw8 := g8 _ _ hw5
          refine ⟨_,rfl,.inl ⟨rfl,_,SqL.of hd8⟩,_,rfl,?_⟩
          refine ⟨_,rfl,(r.rule.length : Int),rfl,(by omega : -(2 ^ 62) ≤ (r.rule.length : Int)),(by omega : (r.rule.length : Int) < 2 ^ 62),?_⟩
          rw [Int.toNat_natCast]
          refine comp_rng (n := r.rule.length) (by omega) rfl (fun k => Pm.co (Pm.rest r.b r.rule n) k * Pm.co (r.row 420) (m + k)) ?_ ?_
          · intro H9 k g9 hk kk hkk
            refine ⟨_,rfl,_,rfl,_,_,.inl (SqL.of (g9 _ _ hr8)),atI_ints (ns := Pm.rest r.b r.rule n) (by omega : (0 : Int) ≤ 0 + (k : Int)) (by rw [Pm.rest_len]; omega),?_⟩
            refine ⟨_,rfl,_,rfl,_,rfl,_,_,.inl (SqL.of (g9 _ _ hw8)),atI_ints (ns := r.row 420) (by omega : (0 : Int) ≤ 0 + (m : Int) + (0 + (k : Int))) (by rw [Rw.row_len]; omega),?_⟩
            refine ⟨mulBd (Rm.Bd.getD bR _) (Rm.Bd.getD (ok.ok.rowBd 420 (by decide)) _) (by decide),?_⟩
            rw [show (0 + (k : Int)).toNat = k by omega,show (0 + (m : Int) + (0 + (k : Int))).toNat = m + k by omega]
            exact hkk
          · intro D hD
            have gD := Same.new hD (.lst ((Pm.ofF r.rule.length fun k => Pm.co (Pm.rest r.b r.rule n) k * Pm.co (r.row 420) (m + k)).map V.int))
            have e9 : Rm.tk r.b (Pm.ofF r.rule.length fun k => Pm.co (Pm.rest r.b r.rule n) k * Pm.co (r.row 420) (m + k)).sum = r.at (m + n) := by
              have := ok.sum_at n m 420 (by omega)
              unfold Pm.ks at this
              rw [Pm.rest_len] at this
              rw [Pm.ofF,Pm.list_sum]
              exact this
            refine ⟨D,Pm.ofF r.rule.length fun k => Pm.co (Pm.rest r.b r.rule n) k * Pm.co (r.row 420) (m + k),rfl,SqL.of upd_same,?_⟩
            refine ⟨r.b,_,rfl,ok.ok.by0,?_⟩
            rw [e9]
            have hd9 := gD _ _ hd8
            have hr9 := gD _ _ hr8
            have g9 := g8.trans gD
            generalize upd H8 D (.lst ((Pm.ofF r.rule.length fun k => Pm.co (Pm.rest r.b r.rule n) k * Pm.co (r.row 420) (m + k)).map V.int)) = H9 at hd9 hr9 g9
            refine ⟨ld,_,_,rfl,rfl,hd9,?_,?_⟩
            · rw [List.length_map,Pm.ofF_len]; exact small1000 (by omega)
            · have hne : lr ≠ ld := fun z => by
                rw [z] at f7
                rw [hd] at f7; cases f7
              refine ⟨_,rfl,g9.upd hld _,by rw [upd_ne hne]; exact hr9,?_⟩
              rw [upd_same,Pm.ofF_succ,List.map_append]; rfl
        · rintro σ' H8 ⟨o11,rfl,g8,hr8,hd8⟩
          rw [Int.toNat_natCast] at hd8
          have hR8 := hR5.same g8
          refine ⟨_,rfl,_,rfl,.ref ar,r,(n : Int),rfl,hR8,ok,fun _ => ⟨hN,fun vf H9 g9 hF9 => ?_⟩,fun z => absurd z hgood⟩
          rw [Int.toNat_natCast] at hF9
          have hR9 := hR8.same g9
          obtain ⟨ar',pr,pr2,er,hA9,hP9,hS9⟩ := id hR9
          cases er
          have hd9 := g9 _ _ hd8
          refine ⟨_,rfl,_,rfl,_,_,.inr (SqT.of hA9),rfl,_,rfl,ld,_,rfl,.inl ⟨SqL.of hd9,fun t6 ht6 => ⟨(by show 3 ≤ sizeLine; decide),fun t7 ht7 => ?_⟩⟩⟩
          have g10 := Same.new ht6 (.tup ((Pm.ofF r.rule.length fun m => r.at (m + n)).map V.int))
          have g11 := Same.new ht7 (.tup [.int r.b,.ref pr,.ref t6])
          have g12 := g10.trans g11
          refine ⟨vf,.ref t7,r.on n,rfl,hF9.same g12,⟨t7,pr,t6,rfl,upd_same,g12 _ _ hP9,g11 _ _ upd_same⟩,by show (Pm.ofF _ _).length ≤ 12; rw [Pm.ofF_len]; omega,fun H13 g13 => ⟨_,rfl,iteF ?_⟩⟩
          have g513 := g8.trans (g9.trans (g12.trans g13))
          exact hNN _ _ ⟨_,_,_,rfl,g513.t,hT5.same g513⟩
      · have hb0 : r.b = 0 := by have := dec_false cb; have := ok.ok.by0; omega
        refine ⟨_,rfl,.ref ar,r,401,rfl,hR5,ok,.inr ⟨hb0,by decide⟩,hT5,fun H6 g6 hT6 => ⟨_,rfl,iteF ?_⟩⟩
        refine ⟨_,rfl,_,rfl,.ref ar,r,401 + (n : Int),rfl,hR5.sameT g6,ok,.inr ⟨hb0,by omega⟩,hT6,fun H7 g7 hT7 => ⟨_,rfl,iteF ?_⟩⟩
        exact hNN _ _ ⟨_,_,_,rfl,g6.trans g7,hT7⟩
    rintro _ H6 ⟨o9,o10,o11,rfl,g6,hT6⟩
    have hR6 := hR5.sameT g6
    refine ⟨_,rfl,_,rfl,.ref ar,r,-1,rfl,hR6,ok,.inl (by decide),hT6,fun H7 g7 hT7 => ⟨_,rfl,iteT ?_⟩⟩
    exact ⟨_,rfl,_,rfl,_,rfl,_,_,rfl,rfl,.ref ar,r,-1 - (n : Int),rfl,hR6.sameT g7,ok,.inl (by omega),hT7,fun H8 g8 hT8 => q _⟩
end
theorem all_mk {l : PySem.W.OpenLaw} {w : World} {K : PySem.W.Frag} {h : Heap} {mg : Str → Option Value} {fa : Addr} (X : K.In h) (G : h.Ns mainGlobals mg) (hfa : mg "law" = some (.ref fa))
    (F0 : FnIn K "taken" s_taken) (F1 : FnIn K "next_place" s_next_place) (F2 : FnIn K "first_places" s_first_places) (F3 : FnIn K "trimmed" s_trimmed) (F4 : FnIn K "number_at" s_number_at) (F5 : FnIn K "times" s_times) (F6 : FnIn K "divided" s_divided) (F7 : FnIn K "of_rule" s_of_rule) (F8 : FnIn K "sum_at" s_sum_at) (F9 : FnIn K "refuse_far_jump" s_refuse_far_jump) (F10 : FnIn K "power_left" s_power_left) (F11 : FnIn K "jump" s_jump) (F12 : FnIn K "place_at" s_place_at) (F13 : FnIn K "onward" s_onward) (F14 : FnIn K "_law_cell_at" s_Lcell_at) (F15 : FnIn K "_law_mix" s_Lmix) (F16 : FnIn K "_law_drawn_by" s_Ldrawn_by) (F17 : FnIn K "_law_taken" s_Ltaken) (F18 : FnIn K "_law_one_number" s_Lone_number) (F19 : FnIn K "_law_places" s_Lplaces) (F20 : FnIn K "_law_made_longer" s_Lmade_longer) (F21 : FnIn K "_law_drawn_row" s_Ldrawn_row) (F22 : FnIn K "_law_times_x" s_Ltimes_x) (F23 : FnIn K "_law_step_by_step" s_Lstep_by_step) (F24 : FnIn K "_law_rolled_rests" s_Lrolled_rests) (F25 : FnIn K "_law_rest_far" s_Lrest_far) (F26 : FnIn K "_law_refused" s_Lrefused) (F27 : FnIn K "_law_all_refused" s_Lall_refused) (F28 : FnIn K "_law_is_row" s_Lis_row) (FL : FnIn K "law" s_law) (z_ValueError : PySem.W.nsIn K mainGlobals "ValueError" = some none) (z_bool : PySem.W.nsIn K mainGlobals "bool" = some none) (z_int : PySem.W.nsIn K mainGlobals "int" = some none) (z_isinstance : PySem.W.nsIn K mainGlobals "isinstance" = some none) (z_len : PySem.W.nsIn K mainGlobals "len" = some none) (z_list : PySem.W.nsIn K mainGlobals "list" = some none) (z_max : PySem.W.nsIn K mainGlobals "max" = some none) (z_range : PySem.W.nsIn K mainGlobals "range" = some none) (z_sum : PySem.W.nsIn K mainGlobals "sum" = some none) (z_tuple : PySem.W.nsIn K mainGlobals "tuple" = some none) (g_FARTHEST_BY_0 : ∃ t,PySem.W.nsIn K mainGlobals "FARTHEST_BY_0" = some (some (.int 400 t))) {A_NoBy : Addr} (n_NoBy : PySem.W.nsIn K mainGlobals "NoBy" = some (some (.ref A_NoBy))) {A_NoName : Addr} (n_NoName : PySem.W.nsIn K mainGlobals "NoName" = some (some (.ref A_NoName))) {A_NoNumber : Addr} (n_NoNumber : PySem.W.nsIn K mainGlobals "NoNumber" = some (some (.ref A_NoNumber))) {A_NoRow : Addr} (n_NoRow : PySem.W.nsIn K mainGlobals "NoRow" = some (some (.ref A_NoRow))) {A_NoText : Addr} (n_NoText : PySem.W.nsIn K mainGlobals "NoText" = some (some (.ref A_NoText))) {A_RuleError : Addr} (n_RuleError : PySem.W.nsIn K mainGlobals "RuleError" = some (some (.ref A_RuleError))) {A_TooBig : Addr} (n_TooBig : PySem.W.nsIn K mainGlobals "TooBig" = some (some (.ref A_TooBig))) {A_TooFar : Addr} (n_TooFar : PySem.W.nsIn K mainGlobals "TooFar" = some (some (.ref A_TooFar))) {A_TooLong : Addr} (n_TooLong : PySem.W.nsIn K mainGlobals "TooLong" = some (some (.ref A_TooLong))) (q_TooFar : PySem.W.excIn K A_TooFar [.type "ValueError",.type "Exception",.type "BaseException",.type "object"] "ValueError.__new__" = true) (u_TooFar_RuleError : excSub K A_TooFar A_RuleError = true) (v_TooFar_RuleError : PySem.W.ktsIn K A_RuleError "BaseException" = true) (w1_TooFar : PySem.W.findIn K (.ref A_TooFar) "__getattribute__" = some (some (.builtin "BaseException.__getattribute__"))) (w2_TooFar : PySem.W.findIn K (.ref A_TooFar) "__getattr__" = some none) (w3_TooFar : PySem.W.findIn K (.ref A_TooFar) "__class__" = some (some (.builtin "object.__class__"))) (w4_TooFar : PySem.W.mroIn K A_TooFar (.type "BaseException") = some true) (w5_TooFar : PySem.W.mroIn K A_TooFar (.type "object") = some true) (w6_TooFar : (PySem.W.clsIn K A_TooFar).isSome = true) (k_TooFar_NoBy : PySem.W.kitOne K (.ref A_TooFar) (.ref A_NoBy) = some false) (k_TooFar_NoName : PySem.W.kitOne K (.ref A_TooFar) (.ref A_NoName) = some false) (k_TooFar_NoNumber : PySem.W.kitOne K (.ref A_TooFar) (.ref A_NoNumber) = some false) (k_TooFar_NoRow : PySem.W.kitOne K (.ref A_TooFar) (.ref A_NoRow) = some false) (k_TooFar_NoText : PySem.W.kitOne K (.ref A_TooFar) (.ref A_NoText) = some false) (k_TooFar_RuleError : PySem.W.kitOne K (.ref A_TooFar) (.ref A_RuleError) = some true) (k_TooFar_TooBig : PySem.W.kitOne K (.ref A_TooFar) (.ref A_TooBig) = some false) (k_TooFar_TooFar : PySem.W.kitOne K (.ref A_TooFar) (.ref A_TooFar) = some true) (k_TooFar_TooLong : PySem.W.kitOne K (.ref A_TooFar) (.ref A_TooLong) = some false) (k_TooFar_ValueError : PySem.W.kitOne K (.ref A_TooFar) (.type "ValueError") = some true) :
    ∃ fd : FuncData,(∀ (s : Shared) (v : Value),BindsTo s fd ⟨[v],[]⟩ [("_law_script",v)]) ∧ ∀ (T : Addr) (base : Heap),K.In base → base.Ns mainGlobals mg → MkD mg base "_law_all_refused" T → FnOk l.prog w K mg base (Flown l.prog w) KLAW fa fd ["_law_script"] (spLawT K T) := by
  obtain ⟨f,oc,od,kV,doc,pm,an,cdv,ct,sl,e1,e2,e3,e4⟩ := FL.ex
  have e := hfa.symm.trans (PySem.W.mg_of X G e1)
  cases e
  have FF := fun_mk (st := s_law) e2 e3 e4
  have B : Bt mg := ⟨PySem.W.mg_none_of X G z_ValueError,PySem.W.mg_none_of X G z_bool,PySem.W.mg_none_of X G z_int,PySem.W.mg_none_of X G z_isinstance,PySem.W.mg_none_of X G z_len,PySem.W.mg_none_of X G z_list,PySem.W.mg_none_of X G z_max,PySem.W.mg_none_of X G z_range,PySem.W.mg_none_of X G z_sum,PySem.W.mg_none_of X G z_tuple,(let ⟨t,q⟩ := g_FARTHEST_BY_0; ⟨t,PySem.W.mg_of X G q⟩)⟩
  have G0 := F0.fn X G (ps := ["by","number"]) fun _ _ _ _ _ _ us hl => by obtain ⟨_,_,rfl⟩ := L2.us2 hl; rfl
  have G1 := F1.fn X G (ps := ["by","rule","before"]) fun _ _ _ _ _ _ us hl => by obtain ⟨_,_,_,rfl⟩ := L2.us3 hl; rfl
  have G2 := F2.fn X G (ps := ["row","count"]) fun _ _ _ _ _ _ us hl => by obtain ⟨_,_,rfl⟩ := L2.us2 hl; rfl
  have G3 := F3.fn X G (ps := ["numbers"]) fun _ _ _ _ _ _ us hl => by obtain ⟨_,rfl⟩ := L2.us1 hl; rfl
  have G4 := F4.fn X G (ps := ["poly","k"]) fun _ _ _ _ _ _ us hl => by obtain ⟨_,_,rfl⟩ := L2.us2 hl; rfl
  have G5 := F5.fn X G (ps := ["by","one","other"]) fun _ _ _ _ _ _ us hl => by obtain ⟨_,_,_,rfl⟩ := L2.us3 hl; rfl
  have G6 := F6.fn X G (ps := ["by","one","other"]) fun _ _ _ _ _ _ us hl => by obtain ⟨_,_,_,rfl⟩ := L2.us3 hl; rfl
  have G7 := F7.fn X G (ps := ["by","rule"]) fun _ _ _ _ _ _ us hl => by obtain ⟨_,_,rfl⟩ := L2.us2 hl; rfl
  have G8 := F8.fn X G (ps := ["by","poly","found","n"]) fun _ _ _ _ _ _ us hl => by obtain ⟨_,_,_,_,rfl⟩ := L2.us4 hl; rfl
  have G9 := F9.fn X G (ps := ["by","n"]) fun _ _ _ _ _ _ us hl => by obtain ⟨_,_,rfl⟩ := L2.us2 hl; rfl
  have G10 := F10.fn X G (ps := ["by","poly","n"]) fun _ _ _ _ _ _ us hl => by obtain ⟨_,_,_,rfl⟩ := L2.us3 hl; rfl
  have G11 := F11.fn X G (ps := ["row","n"]) fun _ _ _ _ _ _ us hl => by obtain ⟨_,_,rfl⟩ := L2.us2 hl; rfl
  have G12 := F12.fn X G (ps := ["row","n"]) fun _ _ _ _ _ _ us hl => by obtain ⟨_,_,rfl⟩ := L2.us2 hl; rfl
  have G13 := F13.fn X G (ps := ["row","n"]) fun _ _ _ _ _ _ us hl => by obtain ⟨_,_,rfl⟩ := L2.us2 hl; rfl
  have G14 := F14.fn X G (ps := ["_law_script","_law_k"]) fun _ _ _ _ _ _ us hl => by obtain ⟨_,_,rfl⟩ := L2.us2 hl; rfl
  have G15 := F15.fn X G (ps := ["_law_cell","_law_k"]) fun _ _ _ _ _ _ us hl => by obtain ⟨_,_,rfl⟩ := L2.us2 hl; rfl
  have G16 := F16.fn X G (ps := ["_law_cell"]) fun _ _ _ _ _ _ us hl => by obtain ⟨_,rfl⟩ := L2.us1 hl; rfl
  have G17 := F17.fn X G (ps := ["_law_by","_law_number"]) fun _ _ _ _ _ _ us hl => by obtain ⟨_,_,rfl⟩ := L2.us2 hl; rfl
  have G18 := F18.fn X G (ps := ["_law_by","_law_cell","_law_k"]) fun _ _ _ _ _ _ us hl => by obtain ⟨_,_,_,rfl⟩ := L2.us3 hl; rfl
  have G19 := F19.fn X G (ps := ["_law_row","_law_count"]) fun _ _ _ _ _ _ us hl => by obtain ⟨_,_,rfl⟩ := L2.us2 hl; rfl
  have G20 := F20.fn X G (ps := ["_law_row","_law_number"]) fun _ _ _ _ _ _ us hl => by obtain ⟨_,_,rfl⟩ := L2.us2 hl; rfl
  have G21 := F21.fn X G (ps := ["_law_script","_law_start","_law_by","_law_most"]) fun _ _ _ _ _ _ us hl => by obtain ⟨_,_,_,_,rfl⟩ := L2.us4 hl; rfl
  have G22 := F22.fn X G (ps := ["_law_by","_law_row","_law_rest"]) fun _ _ _ _ _ _ us hl => by obtain ⟨_,_,_,rfl⟩ := L2.us3 hl; rfl
  have G23 := F23.fn X G (ps := ["_law_by","_law_row","_law_n"]) fun _ _ _ _ _ _ us hl => by obtain ⟨_,_,_,rfl⟩ := L2.us3 hl; rfl
  have G24 := F24.fn X G (ps := ["_law_by","_law_row","_law_one","_law_other"]) fun _ _ _ _ _ _ us hl => by obtain ⟨_,_,_,_,rfl⟩ := L2.us4 hl; rfl
  have G25 := F25.fn X G (ps := ["_law_by","_law_row","_law_n"]) fun _ _ _ _ _ _ us hl => by obtain ⟨_,_,_,rfl⟩ := L2.us3 hl; rfl
  have G26 := F26.fn X G (ps := ["_law_told"]) fun _ _ _ _ _ _ us hl => by obtain ⟨_,rfl⟩ := L2.us1 hl; rfl
  have G27 := F27.fn X G (ps := ["_law_row","_law_n"]) fun _ _ _ _ _ _ us hl => by obtain ⟨_,_,rfl⟩ := L2.us2 hl; rfl
  have G28 := F28.fn X G (ps := ["_law_found","_law_due"]) fun _ _ _ _ _ _ us hl => by obtain ⟨_,_,rfl⟩ := L2.us2 hl; rfl
  refine ⟨PySem.W.fnOf "law" "law" (defArgs s_law) (defBody s_law) (defScope s_law) .none kV doc pm an cdv ct,fun s v => .of_eq rfl,fun T base kB gB MK => ?_⟩
  have M : Ms K mg base A_NoBy A_NoName A_NoNumber A_NoRow A_NoText A_RuleError A_TooBig A_TooFar A_TooLong := ⟨PySem.W.mg_of X G n_NoBy,PySem.W.mg_of X G n_NoName,PySem.W.mg_of X G n_NoNumber,PySem.W.mg_of X G n_NoRow,PySem.W.mg_of X G n_NoText,PySem.W.mg_of X G n_RuleError,PySem.W.mg_of X G n_TooBig,PySem.W.mg_of X G n_TooFar,PySem.W.mg_of X G n_TooLong,exC_of kB gB n_TooFar q_TooFar F.excBase_ValueError (by decide),exS_of kB u_TooFar_RuleError v_TooFar_RuleError,⟨w1_TooFar,w2_TooFar,w3_TooFar,w4_TooFar,w5_TooFar,w6_TooFar⟩,k_TooFar_NoBy,k_TooFar_NoName,k_TooFar_NoNumber,k_TooFar_NoRow,k_TooFar_NoText,k_TooFar_RuleError,k_TooFar_TooBig,k_TooFar_TooFar,k_TooFar_TooLong,k_TooFar_ValueError⟩
  have C_taken := ok_taken (P := l.prog) (w := w) (base := base) B G0 M
  have C_next_place := ok_next_place (P := l.prog) (w := w) (base := base) B G1 M C_taken
  have C_first_places := ok_first_places (P := l.prog) (w := w) (base := base) B G2 M C_next_place
  have C_trimmed := ok_trimmed (P := l.prog) (w := w) (base := base) B G3 M
  have C_number_at := ok_number_at (P := l.prog) (w := w) (base := base) B G4 M
  have C_times := ok_times (P := l.prog) (w := w) (base := base) B G5 M C_taken C_trimmed
  have C_divided := ok_divided (P := l.prog) (w := w) (base := base) B G6 M C_taken C_trimmed
  have C_of_rule := ok_of_rule (P := l.prog) (w := w) (base := base) B G7 M C_taken
  have C_sum_at := ok_sum_at (P := l.prog) (w := w) (base := base) B G8 M C_taken
  have C_refuse_far_jump := ok_refuse_far_jump (P := l.prog) (w := w) (base := base) B G9 M
  have C_power_left := ok_power_left (P := l.prog) (w := w) (base := base) B G10 M C_divided C_times
  have C_jump := ok_jump (P := l.prog) (w := w) (base := base) B G11 M C_refuse_far_jump C_power_left C_of_rule C_number_at
  have C_place_at := ok_place_at (P := l.prog) (w := w) (base := base) B G12 M C_sum_at C_jump
  have C_onward := ok_onward (P := l.prog) (w := w) (base := base) B G13 M C_jump C_first_places C_sum_at
  have C_Lcell_at := ok_Lcell_at (P := l.prog) (w := w) (base := base) B G14 M
  have C_Lmix := ok_Lmix (P := l.prog) (w := w) (base := base) B G15 M
  have C_Ldrawn_by := ok_Ldrawn_by (P := l.prog) (w := w) (base := base) B G16 M C_Lmix
  have C_Ltaken := ok_Ltaken (P := l.prog) (w := w) (base := base) B G17 M
  have C_Lone_number := ok_Lone_number (P := l.prog) (w := w) (base := base) B G18 M C_Lmix C_Ltaken
  have C_Lplaces := ok_Lplaces (P := l.prog) (w := w) (base := base) B G19 M C_Ltaken
  have C_Lmade_longer := ok_Lmade_longer (P := l.prog) (w := w) (base := base) B G20 M C_Lplaces C_Ltaken
  have C_Ldrawn_row := ok_Ldrawn_row (P := l.prog) (w := w) (base := base) B G21 M C_Lcell_at C_Lmix C_Lone_number C_Lmade_longer C_Ltaken
  have C_Ltimes_x := ok_Ltimes_x (P := l.prog) (w := w) (base := base) B G22 M C_Ltaken
  have C_Lstep_by_step := ok_Lstep_by_step (P := l.prog) (w := w) (base := base) B G23 M C_Ltimes_x
  have C_Lrolled_rests := ok_Lrolled_rests (P := l.prog) (w := w) (base := base) B G24 M C_Ltaken C_Ltimes_x
  have C_Lrest_far := ok_Lrest_far (P := l.prog) (w := w) (base := base) B G25 M C_Lstep_by_step C_Lrolled_rests
  have C_Lrefused := ok_Lrefused (P := l.prog) (w := w) (base := base) B G26 M
  have C_Lall_refused := ok_Lall_refused (P := l.prog) (w := w) (base := base) MK kB B G27 M C_Lrefused C_jump C_onward C_place_at
  have C_Lis_row := ok_Lis_row (P := l.prog) (w := w) (base := base) B G28 M
  exact ok_law B FF M C_Ldrawn_by C_Lcell_at C_Ldrawn_row C_Lplaces C_Lmix C_onward C_Lis_row C_Lrest_far C_Ltaken C_Lall_refused
end K39
namespace L2
open PySem PySem.W PySem.W.X
theorem walkX_of {q : Program} {loose : List Str} {XP : (Str → Option Value) → Heap → Prop} {K : Params → Frag} {as : List Addr} {n t : Nat} {r : RowW} {d : DefRec} {kwd : List (Str × PySem.Expr)} {run : Value → List Value → Sem Value} (keys : ∀ P,as = (K P).map (·.1))
    (W : WalkO q loose XP (fun w h => (K w.params).In h) r d kwd run) : WalkX q loose XP (obsZ as) (valZ K n t) r d kwd run :=
  fun w s0 s1 mg mb G y a o pm cd doc dV kV h1 h2 h3 h4 h5 h6 args vals as' L p1 p2 p3 p4 p5 => W w s0 s1 mg mb G (InK.keeps w _ _ (z_facts keys y).2.1 L.keeps) a o pm cd doc dV kV h1 h2 h3 h4 h5 h6 args vals as' p1 p2 p3 p4 p5
end L2
namespace K39
def topF (i : Nat) : PySem.Stmt := PySem.Challenge.pw_nextbyrule_k39_rows_from_a_place_on.main.body.getD i (.Pass ⟨0,0,0,0⟩)
def pwL : PySem.Program := { PySem.Challenge.pw_nextbyrule_k39_rows_from_a_place_on with main := { PySem.Challenge.pw_nextbyrule_k39_rows_from_a_place_on.main with body := [topF 0,topF 1,topF 2,topF 3,topF 4,topF 5,topF 6,topF 7,topF 8,topF 9,topF 10,topF 11,topF 12,topF 13,topF 14,topF 15,topF 16,topF 17,topF 18,topF 19,topF 20,topF 21,topF 22,topF 23,topF 24,topF 25,topF 26,topF 27,topF 28,topF 29,topF 30,topF 31,topF 32,topF 33,topF 34,topF 35,topF 36,topF 37,topF 38,topF 39,topF 40,topF 41,topF 42,topF 43,topF 44,topF 45] } }
def rwL : PySem.W.OpenLaw := { PySem.Challenge.rw_nextbyrule_k39_rows_from_a_place_on with prog := pwL }
end K39
namespace K39
namespace H
noncomputable section
open PySem PySem.W PySem.Calls PyProof.Rows
theorem warm : (K39.pwL.main.body.isEmpty || true) = true := by k_qdec
abbrev nd (v : Obj) (l r : BT) : BT := .node v l r
abbrev e : BT := .nil
abbrev kh := PyData.keyHash
abbrev tt (i : Nat) : Stmt := PySem.W.Fast.tw6882028288842131437 i
def z0 : Str := ⟨⟨[95,95,110,97,109,101,95,95]⟩⟩
def z1 : Str := ⟨⟨[108,97,119,95,110,101,120,116,98,121,114,117,108,101,95,107,51,57,95,114,111,119,115,95,102,114,111,109,95,97,95,112,108,97,99,101,95,111,110]⟩⟩
def z2 : Str := ⟨⟨[95,95,100,111,99,95,95]⟩⟩
def z3 : Str := ⟨⟨[95,95,112,97,99,107,97,103,101,95,95]⟩⟩
def z4 : Str := ⟨⟨[95,95,108,111,97,100,101,114,95,95]⟩⟩
def z5 : Str := ⟨⟨[95,95,115,112,101,99,95,95]⟩⟩
def z6 : Str := ⟨⟨[95,95,97,110,110,111,116,97,116,105,111,110,115,95,95]⟩⟩
def z7 : Str := ⟨⟨[95,95,98,117,105,108,116,105,110,115,95,95]⟩⟩
def z8 : Str := ⟨⟨[95,95,102,105,108,101,95,95]⟩⟩
def z9 : Str := ⟨⟨[47,99,108,97,105,109,47,99,117,116,46,112,121]⟩⟩
def z10 : Str := ⟨⟨[95,95,99,97,99,104,101,100,95,95]⟩⟩
def z11 : Str := ⟨⟨[82,117,108,101,69,114,114,111,114]⟩⟩
def z12 : Str := ⟨⟨[78,111,78,117,109,98,101,114]⟩⟩
def z13 : Str := ⟨⟨[78,111,66,121]⟩⟩
def z14 : Str := ⟨⟨[78,111,84,101,120,116]⟩⟩
def z15 : Str := ⟨⟨[84,111,111,70,97,114]⟩⟩
def z16 : Str := ⟨⟨[84,111,111,76,111,110,103]⟩⟩
def z17 : Str := ⟨⟨[84,111,111,66,105,103]⟩⟩
def z18 : Str := ⟨⟨[78,111,82,111,119]⟩⟩
def z19 : Str := ⟨⟨[78,111,78,97,109,101]⟩⟩
def z20 : Str := ⟨⟨[116,97,107,101,110]⟩⟩
def z21 : Str := ⟨⟨[110,101,120,116,95,112,108,97,99,101]⟩⟩
def z22 : Str := ⟨⟨[102,105,114,115,116,95,112,108,97,99,101,115]⟩⟩
def z23 : Str := ⟨⟨[116,114,105,109,109,101,100]⟩⟩
def z24 : Str := ⟨⟨[110,117,109,98,101,114,95,97,116]⟩⟩
def z25 : Str := ⟨⟨[116,105,109,101,115]⟩⟩
def z26 : Str := ⟨⟨[100,105,118,105,100,101,100]⟩⟩
def z27 : Str := ⟨⟨[111,102,95,114,117,108,101]⟩⟩
def z28 : Str := ⟨⟨[115,117,109,95,97,116]⟩⟩
def z29 : Str := ⟨⟨[70,65,82,84,72,69,83,84,95,66,89,95,48]⟩⟩
def z30 : Str := ⟨⟨[114,101,102,117,115,101,95,102,97,114,95,106,117,109,112]⟩⟩
def z31 : Str := ⟨⟨[112,111,119,101,114,95,108,101,102,116]⟩⟩
def z32 : Str := ⟨⟨[106,117,109,112]⟩⟩
def z33 : Str := ⟨⟨[112,108,97,99,101,95,97,116]⟩⟩
def z34 : Str := ⟨⟨[111,110,119,97,114,100]⟩⟩
def z35 : Str := ⟨⟨[95,108,97,119,95,99,101,108,108,95,97,116]⟩⟩
def z36 : Str := ⟨⟨[95,108,97,119,95,109,105,120]⟩⟩
def z37 : Str := ⟨⟨[95,108,97,119,95,100,114,97,119,110,95,98,121]⟩⟩
def z38 : Str := ⟨⟨[95,108,97,119,95,116,97,107,101,110]⟩⟩
def z39 : Str := ⟨⟨[95,108,97,119,95,111,110,101,95,110,117,109,98,101,114]⟩⟩
def z40 : Str := ⟨⟨[95,108,97,119,95,109,97,100,101,95,108,111,110,103,101,114]⟩⟩
def z41 : Str := ⟨⟨[95,108,97,119,95,100,114,97,119,110,95,114,111,119]⟩⟩
def z42 : Str := ⟨⟨[95,108,97,119,95,112,108,97,99,101,115]⟩⟩
def z43 : Str := ⟨⟨[95,108,97,119,95,116,105,109,101,115,95,120]⟩⟩
def z44 : Str := ⟨⟨[95,108,97,119,95,115,116,101,112,95,98,121,95,115,116,101,112]⟩⟩
def z45 : Str := ⟨⟨[95,108,97,119,95,114,111,108,108,101,100,95,114,101,115,116,115]⟩⟩
def z46 : Str := ⟨⟨[95,108,97,119,95,114,101,115,116,95,102,97,114]⟩⟩
def z47 : Str := ⟨⟨[95,108,97,119,95,114,101,102,117,115,101,100]⟩⟩
def z48 : Str := ⟨⟨[95,108,97,119,95,97,108,108,95,114,101,102,117,115,101,100]⟩⟩
def z49 : Str := ⟨⟨[95,108,97,119,95,105,115,95,114,111,119]⟩⟩
def z50 : Str := ⟨⟨[108,97,119]⟩⟩
def z51 : Str := ⟨⟨[60,109,111,100,117,108,101,62]⟩⟩
def z52 : Str := ⟨⟨[95,95,109,97,105,110,95,95]⟩⟩
def z53 : Str := ⟨⟨[95,95,109,111,100,117,108,101,95,95]⟩⟩
def z54 : Str := ⟨⟨[110,101,120,116,98,121,114,117,108,101,46,101,114,114,111,114,115]⟩⟩
def z55 : Str := ⟨⟨[95,95,113,117,97,108,110,97,109,101,95,95]⟩⟩
def z56 : Str := ⟨⟨[95,95,102,105,114,115,116,108,105,110,101,110,111,95,95]⟩⟩
def z57 : Str := ⟨⟨[95,95,115,116,97,116,105,99,95,97,116,116,114,105,98,117,116,101,115,95,95]⟩⟩
def z58 : Str := ⟨⟨[95,95,119,101,97,107,114,101,102,95,95]⟩⟩
def z59 : Str := ⟨⟨[98,121]⟩⟩
def z60 : Str := ⟨⟨[110,117,109,98,101,114]⟩⟩
def z61 : Str := ⟨⟨[110,101,120,116,98,121,114,117,108,101,46,110,117,109,98,101,114,115]⟩⟩
def z62 : Str := ⟨⟨[114,117,108,101]⟩⟩
def z63 : Str := ⟨⟨[98,101,102,111,114,101]⟩⟩
def z64 : Str := ⟨⟨[116,111,116,97,108]⟩⟩
def z65 : Str := ⟨⟨[107]⟩⟩
def z66 : Str := ⟨⟨[110,101,120,116,98,121,114,117,108,101,46,114,111,119,115]⟩⟩
def z67 : Str := ⟨⟨[114,111,119]⟩⟩
def z68 : Str := ⟨⟨[99,111,117,110,116]⟩⟩
def z69 : Str := ⟨⟨[115,116,97,114,116,115]⟩⟩
def z70 : Str := ⟨⟨[102,111,117,110,100]⟩⟩
def z71 : Str := ⟨⟨[110,117,109,98,101,114,115]⟩⟩
def z72 : Str := ⟨⟨[101,110,100]⟩⟩
def z73 : Str := ⟨⟨[110,101,120,116,98,121,114,117,108,101,46,112,111,108,121,115]⟩⟩
def z74 : Str := ⟨⟨[112,111,108,121]⟩⟩
def z75 : Str := ⟨⟨[111,110,101]⟩⟩
def z76 : Str := ⟨⟨[111,116,104,101,114]⟩⟩
def z77 : Str := ⟨⟨[105]⟩⟩
def z78 : Str := ⟨⟨[116,111,112]⟩⟩
def z79 : Str := ⟨⟨[111,102,116,101,110]⟩⟩
def z80 : Str := ⟨⟨[108,101,102,116]⟩⟩
def z81 : Str := ⟨⟨[115,104,105,102,116]⟩⟩
def z82 : Str := ⟨⟨[102,97,99,116,111,114]⟩⟩
def z83 : Str := ⟨⟨[110]⟩⟩
def z84 : Str := ⟨⟨[110,101,120,116,98,121,114,117,108,101,46,102,97,114]⟩⟩
def z85 : Str := ⟨⟨[102,105,103,117,114,101]⟩⟩
def z86 : Str := ⟨⟨[100,111,117,98,108,101,100]⟩⟩
def z87 : Str := ⟨⟨[95,108,97,119,95,115,99,114,105,112,116]⟩⟩
def z88 : Str := ⟨⟨[95,108,97,119,95,107]⟩⟩
def z89 : Str := ⟨⟨[95,108,97,119,95,99,101,108,108]⟩⟩
def z90 : Str := ⟨⟨[95,108,97,119,95,110,117,109,98,101,114]⟩⟩
def z91 : Str := ⟨⟨[95,108,97,119,95,98,121]⟩⟩
def z92 : Str := ⟨⟨[95,108,97,119,95,102,97,114]⟩⟩
def z93 : Str := ⟨⟨[95,108,97,119,95,115,109,97,108,108]⟩⟩
def z94 : Str := ⟨⟨[95,108,97,119,95,114,111,119]⟩⟩
def z95 : Str := ⟨⟨[95,108,97,119,95,110]⟩⟩
def z96 : Str := ⟨⟨[95,108,97,119,95,115,105,122,101]⟩⟩
def z97 : Str := ⟨⟨[95,108,97,119,95,114,101,115,116]⟩⟩
def z98 : Str := ⟨⟨[95,108,97,119,95,102,111,117,110,100]⟩⟩
def z99 : Str := ⟨⟨[95,108,97,119,95,115,113,117,97,114,101]⟩⟩
def z100 : Str := ⟨⟨[95,108,97,119,95,116,111,108,100]⟩⟩
def z101 : Str := ⟨⟨[95,108,97,119,95,107,101,112,116]⟩⟩
def z102 : Str := ⟨⟨[101]⟩⟩
noncomputable abbrev t0 : String := PySem.W.SL.s14018661285674007319x4
noncomputable abbrev t1 : String := PySem.W.SL.s7097527257260152453x26
noncomputable abbrev t2 : String := PySem.W.SL.s2766695959194262286x5
noncomputable abbrev t3 : String := PySem.W.SL.s5856160107412720595x4
noncomputable abbrev t4 : String := PySem.W.SL.s658472552662922059x5
noncomputable abbrev t5 : String := PySem.W.SL.s6070975301684473832x10
noncomputable abbrev t6 : String := PySem.W.SL.s11030030927630378310x26
noncomputable abbrev t7 : String := PySem.W.SL.s10062305145149207511x16
noncomputable abbrev t8 : String := PySem.W.SL.s17162191345867700912x4
noncomputable abbrev t9 : String := PySem.W.SL.s4209523147560561109x18
noncomputable abbrev t10 : String := PySem.W.SL.s5946037652744460706x9
noncomputable abbrev t11 : String := PySem.W.SL.s4278001404047624695x13
noncomputable abbrev t12 : String := PySem.W.SL.s2742458400755230247x6
noncomputable abbrev t13 : String := PySem.W.SL.s14755015743595814543x17
noncomputable abbrev t14 : String := PySem.W.SL.s10220274742760427390x26
noncomputable abbrev t15 : String := PySem.W.SL.s4290257624100764138x5
noncomputable abbrev t16 : String := PySem.W.SL.s4860613602091757760x24
noncomputable abbrev t17 : String := PySem.W.SL.s7174869446012820540x8
def l3 (P : Params) : List DictEntry := [⟨kh P z0,.str z0 165,.str z1 471⟩,⟨kh P z2,.str z2 166,.none⟩,⟨kh P z3,.str z3 167,.none⟩,⟨kh P z4,.str z4 168,.builtin t1⟩,⟨kh P z5,.str z5 169,.none⟩,⟨kh P z6,.str z6 170,.ref 6⟩,⟨kh P z7,.str z7 171,.ref 4⟩,⟨kh P z8,.str z8 173,.str z9 172⟩,⟨kh P z10,.str z10 174,.none⟩,⟨kh P z11,.str z11 206,.ref 24⟩,⟨kh P z12,.str z12 222,.ref 37⟩,⟨kh P z13,.str z13 238,.ref 49⟩,⟨kh P z14,.str z14 254,.ref 61⟩,⟨kh P z15,.str z15 270,.ref 73⟩,⟨kh P z16,.str z16 286,.ref 85⟩,⟨kh P z17,.str z17 302,.ref 97⟩,⟨kh P z18,.str z18 318,.ref 109⟩,⟨kh P z19,.str z19 334,.ref 121⟩,⟨kh P z20,.str z20 344,.ref 130⟩,⟨kh P z21,.str z21 357,.ref 137⟩,⟨kh P z22,.str z22 369,.ref 144⟩,⟨kh P z23,.str z23 379,.ref 151⟩,⟨kh P z24,.str z24 387,.ref 158⟩,⟨kh P z25,.str z25 399,.ref 165⟩,⟨kh P z26,.str z26 414,.ref 172⟩,⟨kh P z27,.str z27 420,.ref 177⟩,⟨kh P z28,.str z28 426,.ref 182⟩,⟨kh P z29,.str z29 430,.int 400 429⟩,⟨kh P z30,.str z30 438,.ref 189⟩,⟨kh P z31,.str z31 450,.ref 196⟩,⟨kh P z32,.str z32 456,.ref 201⟩,⟨kh P z33,.str z33 464,.ref 208⟩,⟨kh P z34,.str z34 470,.ref 213⟩,⟨kh P z35,.str z35 480,.ref 220⟩,⟨kh P z36,.str z36 489,.ref 227⟩,⟨kh P z37,.str z37 496,.ref 234⟩,⟨kh P z38,.str z38 504,.ref 241⟩,⟨kh P z39,.str z39 515,.ref 248⟩,⟨kh P z40,.str z40 521,.ref 253⟩,⟨kh P z41,.str z41 527,.ref 258⟩,⟨kh P z42,.str z42 533,.ref 263⟩,⟨kh P z43,.str z43 539,.ref 268⟩,⟨kh P z44,.str z44 551,.ref 275⟩,⟨kh P z45,.str z45 557,.ref 280⟩,⟨kh P z46,.str z46 568,.ref 287⟩,⟨kh P z47,.str z47 577,.ref 294⟩,⟨kh P z48,.str z48 587,.ref 301⟩,⟨kh P z49,.str z49 593,.ref 306⟩,⟨kh P z50,.str z50 599,.ref 311⟩]
def o3 (P : Params) : Obj := ⟨.type t0,.none,.dict ⟨l3 P⟩ 49,⟨[]⟩⟩
def v3_1 (P : Params) : Obj := ⟨.type t0,.none,.dict ⟨[⟨kh P z0,.str z0 165,.str z54 187⟩,⟨kh P z2,.str z2 166,.none⟩,⟨kh P z3,.str z3 167,.none⟩,⟨kh P z4,.str z4 168,.builtin t1⟩,⟨kh P z5,.str z5 169,.none⟩,⟨kh P z6,.str z6 170,.ref 6⟩,⟨kh P z7,.str z7 171,.ref 4⟩,⟨kh P z8,.str z8 173,.str z9 172⟩,⟨kh P z10,.str z10 174,.none⟩,⟨kh P z11,.str z11 206,.ref 24⟩]⟩ 10,⟨[]⟩⟩
def v3_4 (P : Params) : Obj := ⟨.type t0,.none,.dict ⟨[⟨kh P z0,.str z0 165,.str z54 187⟩,⟨kh P z2,.str z2 166,.none⟩,⟨kh P z3,.str z3 167,.none⟩,⟨kh P z4,.str z4 168,.builtin t1⟩,⟨kh P z5,.str z5 169,.none⟩,⟨kh P z6,.str z6 170,.ref 6⟩,⟨kh P z7,.str z7 171,.ref 4⟩,⟨kh P z8,.str z8 173,.str z9 172⟩,⟨kh P z10,.str z10 174,.none⟩,⟨kh P z11,.str z11 206,.ref 24⟩,⟨kh P z12,.str z12 222,.ref 37⟩]⟩ 11,⟨[]⟩⟩
def v3_7 (P : Params) : Obj := ⟨.type t0,.none,.dict ⟨[⟨kh P z0,.str z0 165,.str z54 187⟩,⟨kh P z2,.str z2 166,.none⟩,⟨kh P z3,.str z3 167,.none⟩,⟨kh P z4,.str z4 168,.builtin t1⟩,⟨kh P z5,.str z5 169,.none⟩,⟨kh P z6,.str z6 170,.ref 6⟩,⟨kh P z7,.str z7 171,.ref 4⟩,⟨kh P z8,.str z8 173,.str z9 172⟩,⟨kh P z10,.str z10 174,.none⟩,⟨kh P z11,.str z11 206,.ref 24⟩,⟨kh P z12,.str z12 222,.ref 37⟩,⟨kh P z13,.str z13 238,.ref 49⟩]⟩ 12,⟨[]⟩⟩
def v3_10 (P : Params) : Obj := ⟨.type t0,.none,.dict ⟨[⟨kh P z0,.str z0 165,.str z54 187⟩,⟨kh P z2,.str z2 166,.none⟩,⟨kh P z3,.str z3 167,.none⟩,⟨kh P z4,.str z4 168,.builtin t1⟩,⟨kh P z5,.str z5 169,.none⟩,⟨kh P z6,.str z6 170,.ref 6⟩,⟨kh P z7,.str z7 171,.ref 4⟩,⟨kh P z8,.str z8 173,.str z9 172⟩,⟨kh P z10,.str z10 174,.none⟩,⟨kh P z11,.str z11 206,.ref 24⟩,⟨kh P z12,.str z12 222,.ref 37⟩,⟨kh P z13,.str z13 238,.ref 49⟩,⟨kh P z14,.str z14 254,.ref 61⟩]⟩ 13,⟨[]⟩⟩
def v3_13 (P : Params) : Obj := ⟨.type t0,.none,.dict ⟨[⟨kh P z0,.str z0 165,.str z54 187⟩,⟨kh P z2,.str z2 166,.none⟩,⟨kh P z3,.str z3 167,.none⟩,⟨kh P z4,.str z4 168,.builtin t1⟩,⟨kh P z5,.str z5 169,.none⟩,⟨kh P z6,.str z6 170,.ref 6⟩,⟨kh P z7,.str z7 171,.ref 4⟩,⟨kh P z8,.str z8 173,.str z9 172⟩,⟨kh P z10,.str z10 174,.none⟩,⟨kh P z11,.str z11 206,.ref 24⟩,⟨kh P z12,.str z12 222,.ref 37⟩,⟨kh P z13,.str z13 238,.ref 49⟩,⟨kh P z14,.str z14 254,.ref 61⟩,⟨kh P z15,.str z15 270,.ref 73⟩]⟩ 14,⟨[]⟩⟩
def v3_16 (P : Params) : Obj := ⟨.type t0,.none,.dict ⟨[⟨kh P z0,.str z0 165,.str z54 187⟩,⟨kh P z2,.str z2 166,.none⟩,⟨kh P z3,.str z3 167,.none⟩,⟨kh P z4,.str z4 168,.builtin t1⟩,⟨kh P z5,.str z5 169,.none⟩,⟨kh P z6,.str z6 170,.ref 6⟩,⟨kh P z7,.str z7 171,.ref 4⟩,⟨kh P z8,.str z8 173,.str z9 172⟩,⟨kh P z10,.str z10 174,.none⟩,⟨kh P z11,.str z11 206,.ref 24⟩,⟨kh P z12,.str z12 222,.ref 37⟩,⟨kh P z13,.str z13 238,.ref 49⟩,⟨kh P z14,.str z14 254,.ref 61⟩,⟨kh P z15,.str z15 270,.ref 73⟩,⟨kh P z16,.str z16 286,.ref 85⟩]⟩ 15,⟨[]⟩⟩
def v3_19 (P : Params) : Obj := ⟨.type t0,.none,.dict ⟨[⟨kh P z0,.str z0 165,.str z54 187⟩,⟨kh P z2,.str z2 166,.none⟩,⟨kh P z3,.str z3 167,.none⟩,⟨kh P z4,.str z4 168,.builtin t1⟩,⟨kh P z5,.str z5 169,.none⟩,⟨kh P z6,.str z6 170,.ref 6⟩,⟨kh P z7,.str z7 171,.ref 4⟩,⟨kh P z8,.str z8 173,.str z9 172⟩,⟨kh P z10,.str z10 174,.none⟩,⟨kh P z11,.str z11 206,.ref 24⟩,⟨kh P z12,.str z12 222,.ref 37⟩,⟨kh P z13,.str z13 238,.ref 49⟩,⟨kh P z14,.str z14 254,.ref 61⟩,⟨kh P z15,.str z15 270,.ref 73⟩,⟨kh P z16,.str z16 286,.ref 85⟩,⟨kh P z17,.str z17 302,.ref 97⟩]⟩ 16,⟨[]⟩⟩
def v3_22 (P : Params) : Obj := ⟨.type t0,.none,.dict ⟨[⟨kh P z0,.str z0 165,.str z54 187⟩,⟨kh P z2,.str z2 166,.none⟩,⟨kh P z3,.str z3 167,.none⟩,⟨kh P z4,.str z4 168,.builtin t1⟩,⟨kh P z5,.str z5 169,.none⟩,⟨kh P z6,.str z6 170,.ref 6⟩,⟨kh P z7,.str z7 171,.ref 4⟩,⟨kh P z8,.str z8 173,.str z9 172⟩,⟨kh P z10,.str z10 174,.none⟩,⟨kh P z11,.str z11 206,.ref 24⟩,⟨kh P z12,.str z12 222,.ref 37⟩,⟨kh P z13,.str z13 238,.ref 49⟩,⟨kh P z14,.str z14 254,.ref 61⟩,⟨kh P z15,.str z15 270,.ref 73⟩,⟨kh P z16,.str z16 286,.ref 85⟩,⟨kh P z17,.str z17 302,.ref 97⟩,⟨kh P z18,.str z18 318,.ref 109⟩]⟩ 17,⟨[]⟩⟩
def v3_25 (P : Params) : Obj := ⟨.type t0,.none,.dict ⟨[⟨kh P z0,.str z0 165,.str z73 370⟩,⟨kh P z2,.str z2 166,.none⟩,⟨kh P z3,.str z3 167,.none⟩,⟨kh P z4,.str z4 168,.builtin t1⟩,⟨kh P z5,.str z5 169,.none⟩,⟨kh P z6,.str z6 170,.ref 6⟩,⟨kh P z7,.str z7 171,.ref 4⟩,⟨kh P z8,.str z8 173,.str z9 172⟩,⟨kh P z10,.str z10 174,.none⟩,⟨kh P z11,.str z11 206,.ref 24⟩,⟨kh P z12,.str z12 222,.ref 37⟩,⟨kh P z13,.str z13 238,.ref 49⟩,⟨kh P z14,.str z14 254,.ref 61⟩,⟨kh P z15,.str z15 270,.ref 73⟩,⟨kh P z16,.str z16 286,.ref 85⟩,⟨kh P z17,.str z17 302,.ref 97⟩,⟨kh P z18,.str z18 318,.ref 109⟩,⟨kh P z19,.str z19 334,.ref 121⟩,⟨kh P z20,.str z20 344,.ref 130⟩,⟨kh P z21,.str z21 357,.ref 137⟩,⟨kh P z22,.str z22 369,.ref 144⟩,⟨kh P z23,.str z23 379,.ref 151⟩,⟨kh P z24,.str z24 387,.ref 158⟩]⟩ 23,⟨[]⟩⟩
def v3_27 (P : Params) : Obj := ⟨.type t0,.none,.dict ⟨(l3 P).take 36⟩ 36,⟨[]⟩⟩
def o11 (P : Params) : Obj := ⟨.type t2,.none,.seq ⟨[]⟩ 0,⟨[]⟩⟩
def l12 (P : Params) : List Value := [.int 2 0,.int 0 0,.ref 20,.int 4 0,.int 0 0,.ref 33,.int 6 0,.int 0 0,.ref 45,.int 8 0,.int 0 0,.ref 57,.int 10 0,.int 0 0,.ref 69,.int 12 0,.int 0 0,.ref 81,.int 14 0,.int 0 0,.ref 93,.int 16 0,.int 0 0,.ref 105,.int 18 0,.int 0 0,.ref 117,.int 21 0,.int 0 0,.ref 129,.int 26 0,.int 0 0,.ref 136,.int 31 0,.int 0 0,.ref 143,.int 40 0,.int 0 0,.ref 150,.int 45 0,.int 0 0,.ref 157,.int 47 0,.int 0 0,.ref 164,.int 53 0,.int 0 0,.ref 171,.int 63 0,.int 0 0,.ref 176,.int 67 0,.int 0 0,.ref 181,.int 71 0,.int 0 0,.ref 188,.int 74 0,.int 0 0,.ref 195,.int 82 0,.int 0 0,.ref 200,.int 88 0,.int 0 0,.ref 207,.int 90 0,.int 0 0,.ref 212,.int 97 0,.int 0 0,.ref 219,.int 101 0,.int 0 0,.ref 226,.int 105 0,.int 0 0,.ref 233,.int 107 0,.int 0 0,.ref 240,.int 111 0,.int 0 0,.ref 247,.int 115 0,.int 0 0,.ref 252,.int 123 0,.int 0 0,.ref 257,.int 133 0,.int 0 0,.ref 262,.int 140 0,.int 0 0,.ref 267,.int 147 0,.int 0 0,.ref 274,.int 155 0,.int 0 0,.ref 279,.int 162 0,.int 0 0,.ref 286,.int 171 0,.int 0 0,.ref 293,.int 180 0,.int 0 0,.ref 300,.int 186 0,.int 0 0,.ref 305,.int 190 0,.int 0 0,.ref 310]
def o12 (P : Params) : Obj := ⟨.none,.none,.fields ⟨l12 P⟩,⟨[]⟩⟩
def v12_0 (P : Params) : Obj := ⟨.none,.none,.fields ⟨(l12 P).take 0⟩,⟨[]⟩⟩
def v12_2 (P : Params) : Obj := ⟨.none,.none,.fields ⟨(l12 P).take 3⟩,⟨[]⟩⟩
def v12_5 (P : Params) : Obj := ⟨.none,.none,.fields ⟨(l12 P).take 6⟩,⟨[]⟩⟩
def v12_8 (P : Params) : Obj := ⟨.none,.none,.fields ⟨(l12 P).take 9⟩,⟨[]⟩⟩
def v12_11 (P : Params) : Obj := ⟨.none,.none,.fields ⟨(l12 P).take 12⟩,⟨[]⟩⟩
def v12_14 (P : Params) : Obj := ⟨.none,.none,.fields ⟨(l12 P).take 15⟩,⟨[]⟩⟩
def v12_17 (P : Params) : Obj := ⟨.none,.none,.fields ⟨(l12 P).take 18⟩,⟨[]⟩⟩
def v12_20 (P : Params) : Obj := ⟨.none,.none,.fields ⟨(l12 P).take 21⟩,⟨[]⟩⟩
def v12_23 (P : Params) : Obj := ⟨.none,.none,.fields ⟨(l12 P).take 24⟩,⟨[]⟩⟩
def v12_26 (P : Params) : Obj := ⟨.none,.none,.fields ⟨(l12 P).take 42⟩,⟨[]⟩⟩
def v12_28 (P : Params) : Obj := ⟨.none,.none,.fields ⟨(l12 P).take 78⟩,⟨[]⟩⟩
def o13 (P : Params) : Obj := ⟨.type t3,.none,.fields ⟨[.str z51 182,.str z51 183,.str z9 184,.int 1 0,.int 0 0,.int 0 0,.int 0 0,.int 0 0,.ref 11,.bool false,.int 181 0,.ref 12,.none,.none,.none,.none,.int 185 0,.int 1 0,.str z9 186]⟩,⟨[]⟩⟩
def o14 (P : Params) : Obj := ⟨.type t4,.none,.plain,⟨[.some (.ref 13),.some (.ref 3),.some (.ref 3),.none,.some (.str z52 164),.none,.some (.ref 0)]⟩⟩
def o15 (P : Params) : Obj := ⟨.type t2,.none,.seq ⟨[.type t5]⟩ 0,⟨[]⟩⟩
def o16 (P : Params) : Obj := ⟨.type t6,.none,.fields ⟨[.builtin t7,.type t8]⟩,⟨[]⟩⟩
def o17 (P : Params) : Obj := ⟨.type t0,.none,.dict ⟨[⟨kh P z53,.str z53 196,.str z54 187⟩,⟨kh P z55,.str z55 198,.str z11 197⟩,⟨kh P z56,.str z56 200,.int 2 199⟩,⟨kh P z57,.str z57 201,.ref 22⟩]⟩ 4,⟨[]⟩⟩
def o18 (P : Params) : Obj := ⟨.type t2,.none,.seq ⟨[]⟩ 0,⟨[]⟩⟩
def o19 (P : Params) : Obj := ⟨.none,.none,.fields ⟨[]⟩,⟨[]⟩⟩
def o20 (P : Params) : Obj := ⟨.type t3,.none,.fields ⟨[.str z11 191,.str z11 192,.str z9 193,.int 2 0,.int 0 0,.int 0 0,.int 0 0,.int 0 0,.ref 18,.bool false,.int 181 0,.ref 19,.none,.none,.none,.none,.int 194 0,.int 2 0,.str z9 195]⟩,⟨[]⟩⟩
def o21 (P : Params) : Obj := ⟨.type t4,.none,.plain,⟨[.some (.ref 20),.some (.ref 3),.some (.ref 17),.none,.some (.str z54 187),.none,.some (.ref 0)]⟩⟩
def o22 (P : Params) : Obj := ⟨.type t2,.none,.seq ⟨[]⟩ 0,⟨[]⟩⟩
def o23 (P : Params) : Obj := ⟨.type t0,.none,.dict ⟨[⟨kh P z53,.str z53 196,.str z54 187⟩,⟨kh P z56,.str z56 200,.int 2 199⟩,⟨kh P z57,.str z57 201,.ref 22⟩,⟨kh P z58,.str z58 203,.ref 25⟩,⟨kh P z2,.str z2 204,.none⟩]⟩ 3,⟨[]⟩⟩
def o24 (P : Params) : Obj := ⟨.type t8,.none,.cls ⟨z11,[.type t5],[.ref 24,.type t5,.type t10,.type t11,.type t12],23,z11,true,[],[.ref 37,.ref 49,.ref 61,.ref 73,.ref 85,.ref 97,.ref 109,.ref 121],false,.none,false⟩,⟨[.some (.ref 15),.none,.some (.str z11 189),.some (.str z11 197),.some (.builtin t9),.some (.bool true)]⟩⟩
def v24_3 (P : Params) : Obj := ⟨.type t8,.none,.cls ⟨z11,[.type t5],[.ref 24,.type t5,.type t10,.type t11,.type t12],23,z11,true,[],[],false,.none,false⟩,⟨[.some (.ref 15),.none,.some (.str z11 189),.some (.str z11 197),.some (.builtin t9),.some (.bool true)]⟩⟩
def v24_6 (P : Params) : Obj := ⟨.type t8,.none,.cls ⟨z11,[.type t5],[.ref 24,.type t5,.type t10,.type t11,.type t12],23,z11,true,[],[.ref 37],false,.none,false⟩,⟨[.some (.ref 15),.none,.some (.str z11 189),.some (.str z11 197),.some (.builtin t9),.some (.bool true)]⟩⟩
def v24_9 (P : Params) : Obj := ⟨.type t8,.none,.cls ⟨z11,[.type t5],[.ref 24,.type t5,.type t10,.type t11,.type t12],23,z11,true,[],[.ref 37,.ref 49],false,.none,false⟩,⟨[.some (.ref 15),.none,.some (.str z11 189),.some (.str z11 197),.some (.builtin t9),.some (.bool true)]⟩⟩
def v24_12 (P : Params) : Obj := ⟨.type t8,.none,.cls ⟨z11,[.type t5],[.ref 24,.type t5,.type t10,.type t11,.type t12],23,z11,true,[],[.ref 37,.ref 49,.ref 61],false,.none,false⟩,⟨[.some (.ref 15),.none,.some (.str z11 189),.some (.str z11 197),.some (.builtin t9),.some (.bool true)]⟩⟩
def v24_15 (P : Params) : Obj := ⟨.type t8,.none,.cls ⟨z11,[.type t5],[.ref 24,.type t5,.type t10,.type t11,.type t12],23,z11,true,[],[.ref 37,.ref 49,.ref 61,.ref 73],false,.none,false⟩,⟨[.some (.ref 15),.none,.some (.str z11 189),.some (.str z11 197),.some (.builtin t9),.some (.bool true)]⟩⟩
def v24_18 (P : Params) : Obj := ⟨.type t8,.none,.cls ⟨z11,[.type t5],[.ref 24,.type t5,.type t10,.type t11,.type t12],23,z11,true,[],[.ref 37,.ref 49,.ref 61,.ref 73,.ref 85],false,.none,false⟩,⟨[.some (.ref 15),.none,.some (.str z11 189),.some (.str z11 197),.some (.builtin t9),.some (.bool true)]⟩⟩
def v24_21 (P : Params) : Obj := ⟨.type t8,.none,.cls ⟨z11,[.type t5],[.ref 24,.type t5,.type t10,.type t11,.type t12],23,z11,true,[],[.ref 37,.ref 49,.ref 61,.ref 73,.ref 85,.ref 97],false,.none,false⟩,⟨[.some (.ref 15),.none,.some (.str z11 189),.some (.str z11 197),.some (.builtin t9),.some (.bool true)]⟩⟩
def v24_24 (P : Params) : Obj := ⟨.type t8,.none,.cls ⟨z11,[.type t5],[.ref 24,.type t5,.type t10,.type t11,.type t12],23,z11,true,[],[.ref 37,.ref 49,.ref 61,.ref 73,.ref 85,.ref 97,.ref 109],false,.none,false⟩,⟨[.some (.ref 15),.none,.some (.str z11 189),.some (.str z11 197),.some (.builtin t9),.some (.bool true)]⟩⟩
def o25 (P : Params) : Obj := ⟨.type t13,.none,.fields ⟨[.str z58 202,.ref 24,.builtin t14,.none]⟩,⟨[]⟩⟩
def o26 (P : Params) : Obj := ⟨.type t15,.none,.fields ⟨[.ref 24,.ref 24,.ref 24]⟩,⟨[]⟩⟩
def o27 (P : Params) : Obj := ⟨.type t6,.none,.fields ⟨[.builtin t16,.ref 24]⟩,⟨[]⟩⟩
def o28 (P : Params) : Obj := ⟨.type t2,.none,.seq ⟨[.ref 24]⟩ 0,⟨[]⟩⟩
def o29 (P : Params) : Obj := ⟨.type t6,.none,.fields ⟨[.builtin t7,.type t8]⟩,⟨[]⟩⟩
def o30 (P : Params) : Obj := ⟨.type t0,.none,.dict ⟨[⟨kh P z53,.str z53 214,.str z54 187⟩,⟨kh P z55,.str z55 216,.str z12 215⟩,⟨kh P z56,.str z56 218,.int 4 217⟩,⟨kh P z57,.str z57 219,.ref 35⟩]⟩ 4,⟨[]⟩⟩
def o31 (P : Params) : Obj := ⟨.type t2,.none,.seq ⟨[]⟩ 0,⟨[]⟩⟩
def o32 (P : Params) : Obj := ⟨.none,.none,.fields ⟨[]⟩,⟨[]⟩⟩
def o33 (P : Params) : Obj := ⟨.type t3,.none,.fields ⟨[.str z12 209,.str z12 210,.str z9 211,.int 4 0,.int 0 0,.int 0 0,.int 0 0,.int 0 0,.ref 31,.bool false,.int 181 0,.ref 32,.none,.none,.none,.none,.int 212 0,.int 4 0,.str z9 213]⟩,⟨[]⟩⟩
def o34 (P : Params) : Obj := ⟨.type t4,.none,.plain,⟨[.some (.ref 33),.some (.ref 3),.some (.ref 30),.none,.some (.str z54 187),.none,.some (.ref 0)]⟩⟩
def o35 (P : Params) : Obj := ⟨.type t2,.none,.seq ⟨[]⟩ 0,⟨[]⟩⟩
def o36 (P : Params) : Obj := ⟨.type t0,.none,.dict ⟨[⟨kh P z53,.str z53 214,.str z54 187⟩,⟨kh P z56,.str z56 218,.int 4 217⟩,⟨kh P z57,.str z57 219,.ref 35⟩,⟨kh P z2,.str z2 220,.none⟩]⟩ 2,⟨[]⟩⟩
def o37 (P : Params) : Obj := ⟨.type t8,.none,.cls ⟨z12,[.ref 24],[.ref 37,.ref 24,.type t5,.type t10,.type t11,.type t12],36,z12,true,[],[],false,.none,false⟩,⟨[.some (.ref 28),.none,.some (.str z12 207),.some (.str z12 215),.some (.builtin t9),.some (.bool true)]⟩⟩
def o38 (P : Params) : Obj := ⟨.type t15,.none,.fields ⟨[.ref 37,.ref 37,.ref 37]⟩,⟨[]⟩⟩
def o39 (P : Params) : Obj := ⟨.type t6,.none,.fields ⟨[.builtin t16,.ref 37]⟩,⟨[]⟩⟩
def o40 (P : Params) : Obj := ⟨.type t2,.none,.seq ⟨[.ref 24]⟩ 0,⟨[]⟩⟩
def o41 (P : Params) : Obj := ⟨.type t6,.none,.fields ⟨[.builtin t7,.type t8]⟩,⟨[]⟩⟩
def o42 (P : Params) : Obj := ⟨.type t0,.none,.dict ⟨[⟨kh P z53,.str z53 230,.str z54 187⟩,⟨kh P z55,.str z55 232,.str z13 231⟩,⟨kh P z56,.str z56 234,.int 6 233⟩,⟨kh P z57,.str z57 235,.ref 47⟩]⟩ 4,⟨[]⟩⟩
def o43 (P : Params) : Obj := ⟨.type t2,.none,.seq ⟨[]⟩ 0,⟨[]⟩⟩
def o44 (P : Params) : Obj := ⟨.none,.none,.fields ⟨[]⟩,⟨[]⟩⟩
def o45 (P : Params) : Obj := ⟨.type t3,.none,.fields ⟨[.str z13 225,.str z13 226,.str z9 227,.int 6 0,.int 0 0,.int 0 0,.int 0 0,.int 0 0,.ref 43,.bool false,.int 181 0,.ref 44,.none,.none,.none,.none,.int 228 0,.int 6 0,.str z9 229]⟩,⟨[]⟩⟩
def o46 (P : Params) : Obj := ⟨.type t4,.none,.plain,⟨[.some (.ref 45),.some (.ref 3),.some (.ref 42),.none,.some (.str z54 187),.none,.some (.ref 0)]⟩⟩
def o47 (P : Params) : Obj := ⟨.type t2,.none,.seq ⟨[]⟩ 0,⟨[]⟩⟩
def o48 (P : Params) : Obj := ⟨.type t0,.none,.dict ⟨[⟨kh P z53,.str z53 230,.str z54 187⟩,⟨kh P z56,.str z56 234,.int 6 233⟩,⟨kh P z57,.str z57 235,.ref 47⟩,⟨kh P z2,.str z2 236,.none⟩]⟩ 2,⟨[]⟩⟩
def o49 (P : Params) : Obj := ⟨.type t8,.none,.cls ⟨z13,[.ref 24],[.ref 49,.ref 24,.type t5,.type t10,.type t11,.type t12],48,z13,true,[],[],false,.none,false⟩,⟨[.some (.ref 40),.none,.some (.str z13 223),.some (.str z13 231),.some (.builtin t9),.some (.bool true)]⟩⟩
def o50 (P : Params) : Obj := ⟨.type t15,.none,.fields ⟨[.ref 49,.ref 49,.ref 49]⟩,⟨[]⟩⟩
def o51 (P : Params) : Obj := ⟨.type t6,.none,.fields ⟨[.builtin t16,.ref 49]⟩,⟨[]⟩⟩
def o52 (P : Params) : Obj := ⟨.type t2,.none,.seq ⟨[.ref 24]⟩ 0,⟨[]⟩⟩
def o53 (P : Params) : Obj := ⟨.type t6,.none,.fields ⟨[.builtin t7,.type t8]⟩,⟨[]⟩⟩
def o54 (P : Params) : Obj := ⟨.type t0,.none,.dict ⟨[⟨kh P z53,.str z53 246,.str z54 187⟩,⟨kh P z55,.str z55 248,.str z14 247⟩,⟨kh P z56,.str z56 250,.int 8 249⟩,⟨kh P z57,.str z57 251,.ref 59⟩]⟩ 4,⟨[]⟩⟩
def o55 (P : Params) : Obj := ⟨.type t2,.none,.seq ⟨[]⟩ 0,⟨[]⟩⟩
def o56 (P : Params) : Obj := ⟨.none,.none,.fields ⟨[]⟩,⟨[]⟩⟩
def o57 (P : Params) : Obj := ⟨.type t3,.none,.fields ⟨[.str z14 241,.str z14 242,.str z9 243,.int 8 0,.int 0 0,.int 0 0,.int 0 0,.int 0 0,.ref 55,.bool false,.int 181 0,.ref 56,.none,.none,.none,.none,.int 244 0,.int 8 0,.str z9 245]⟩,⟨[]⟩⟩
def o58 (P : Params) : Obj := ⟨.type t4,.none,.plain,⟨[.some (.ref 57),.some (.ref 3),.some (.ref 54),.none,.some (.str z54 187),.none,.some (.ref 0)]⟩⟩
def o59 (P : Params) : Obj := ⟨.type t2,.none,.seq ⟨[]⟩ 0,⟨[]⟩⟩
def o60 (P : Params) : Obj := ⟨.type t0,.none,.dict ⟨[⟨kh P z53,.str z53 246,.str z54 187⟩,⟨kh P z56,.str z56 250,.int 8 249⟩,⟨kh P z57,.str z57 251,.ref 59⟩,⟨kh P z2,.str z2 252,.none⟩]⟩ 2,⟨[]⟩⟩
def o61 (P : Params) : Obj := ⟨.type t8,.none,.cls ⟨z14,[.ref 24],[.ref 61,.ref 24,.type t5,.type t10,.type t11,.type t12],60,z14,true,[],[],false,.none,false⟩,⟨[.some (.ref 52),.none,.some (.str z14 239),.some (.str z14 247),.some (.builtin t9),.some (.bool true)]⟩⟩
def o62 (P : Params) : Obj := ⟨.type t15,.none,.fields ⟨[.ref 61,.ref 61,.ref 61]⟩,⟨[]⟩⟩
def o63 (P : Params) : Obj := ⟨.type t6,.none,.fields ⟨[.builtin t16,.ref 61]⟩,⟨[]⟩⟩
def o64 (P : Params) : Obj := ⟨.type t2,.none,.seq ⟨[.ref 24]⟩ 0,⟨[]⟩⟩
def o65 (P : Params) : Obj := ⟨.type t6,.none,.fields ⟨[.builtin t7,.type t8]⟩,⟨[]⟩⟩
def o66 (P : Params) : Obj := ⟨.type t0,.none,.dict ⟨[⟨kh P z53,.str z53 262,.str z54 187⟩,⟨kh P z55,.str z55 264,.str z15 263⟩,⟨kh P z56,.str z56 266,.int 10 265⟩,⟨kh P z57,.str z57 267,.ref 71⟩]⟩ 4,⟨[]⟩⟩
def o67 (P : Params) : Obj := ⟨.type t2,.none,.seq ⟨[]⟩ 0,⟨[]⟩⟩
def o68 (P : Params) : Obj := ⟨.none,.none,.fields ⟨[]⟩,⟨[]⟩⟩
def o69 (P : Params) : Obj := ⟨.type t3,.none,.fields ⟨[.str z15 257,.str z15 258,.str z9 259,.int 10 0,.int 0 0,.int 0 0,.int 0 0,.int 0 0,.ref 67,.bool false,.int 181 0,.ref 68,.none,.none,.none,.none,.int 260 0,.int 10 0,.str z9 261]⟩,⟨[]⟩⟩
def o70 (P : Params) : Obj := ⟨.type t4,.none,.plain,⟨[.some (.ref 69),.some (.ref 3),.some (.ref 66),.none,.some (.str z54 187),.none,.some (.ref 0)]⟩⟩
def o71 (P : Params) : Obj := ⟨.type t2,.none,.seq ⟨[]⟩ 0,⟨[]⟩⟩
def o72 (P : Params) : Obj := ⟨.type t0,.none,.dict ⟨[⟨kh P z53,.str z53 262,.str z54 187⟩,⟨kh P z56,.str z56 266,.int 10 265⟩,⟨kh P z57,.str z57 267,.ref 71⟩,⟨kh P z2,.str z2 268,.none⟩]⟩ 2,⟨[]⟩⟩
def o73 (P : Params) : Obj := ⟨.type t8,.none,.cls ⟨z15,[.ref 24],[.ref 73,.ref 24,.type t5,.type t10,.type t11,.type t12],72,z15,true,[],[],false,.none,false⟩,⟨[.some (.ref 64),.none,.some (.str z15 255),.some (.str z15 263),.some (.builtin t9),.some (.bool true)]⟩⟩
def o74 (P : Params) : Obj := ⟨.type t15,.none,.fields ⟨[.ref 73,.ref 73,.ref 73]⟩,⟨[]⟩⟩
def o75 (P : Params) : Obj := ⟨.type t6,.none,.fields ⟨[.builtin t16,.ref 73]⟩,⟨[]⟩⟩
def o76 (P : Params) : Obj := ⟨.type t2,.none,.seq ⟨[.ref 24]⟩ 0,⟨[]⟩⟩
def o77 (P : Params) : Obj := ⟨.type t6,.none,.fields ⟨[.builtin t7,.type t8]⟩,⟨[]⟩⟩
def o78 (P : Params) : Obj := ⟨.type t0,.none,.dict ⟨[⟨kh P z53,.str z53 278,.str z54 187⟩,⟨kh P z55,.str z55 280,.str z16 279⟩,⟨kh P z56,.str z56 282,.int 12 281⟩,⟨kh P z57,.str z57 283,.ref 83⟩]⟩ 4,⟨[]⟩⟩
def o79 (P : Params) : Obj := ⟨.type t2,.none,.seq ⟨[]⟩ 0,⟨[]⟩⟩
def o80 (P : Params) : Obj := ⟨.none,.none,.fields ⟨[]⟩,⟨[]⟩⟩
def o81 (P : Params) : Obj := ⟨.type t3,.none,.fields ⟨[.str z16 273,.str z16 274,.str z9 275,.int 12 0,.int 0 0,.int 0 0,.int 0 0,.int 0 0,.ref 79,.bool false,.int 181 0,.ref 80,.none,.none,.none,.none,.int 276 0,.int 12 0,.str z9 277]⟩,⟨[]⟩⟩
def o82 (P : Params) : Obj := ⟨.type t4,.none,.plain,⟨[.some (.ref 81),.some (.ref 3),.some (.ref 78),.none,.some (.str z54 187),.none,.some (.ref 0)]⟩⟩
def o83 (P : Params) : Obj := ⟨.type t2,.none,.seq ⟨[]⟩ 0,⟨[]⟩⟩
def o84 (P : Params) : Obj := ⟨.type t0,.none,.dict ⟨[⟨kh P z53,.str z53 278,.str z54 187⟩,⟨kh P z56,.str z56 282,.int 12 281⟩,⟨kh P z57,.str z57 283,.ref 83⟩,⟨kh P z2,.str z2 284,.none⟩]⟩ 2,⟨[]⟩⟩
def o85 (P : Params) : Obj := ⟨.type t8,.none,.cls ⟨z16,[.ref 24],[.ref 85,.ref 24,.type t5,.type t10,.type t11,.type t12],84,z16,true,[],[],false,.none,false⟩,⟨[.some (.ref 76),.none,.some (.str z16 271),.some (.str z16 279),.some (.builtin t9),.some (.bool true)]⟩⟩
def o86 (P : Params) : Obj := ⟨.type t15,.none,.fields ⟨[.ref 85,.ref 85,.ref 85]⟩,⟨[]⟩⟩
def o87 (P : Params) : Obj := ⟨.type t6,.none,.fields ⟨[.builtin t16,.ref 85]⟩,⟨[]⟩⟩
def o88 (P : Params) : Obj := ⟨.type t2,.none,.seq ⟨[.ref 24]⟩ 0,⟨[]⟩⟩
def o89 (P : Params) : Obj := ⟨.type t6,.none,.fields ⟨[.builtin t7,.type t8]⟩,⟨[]⟩⟩
def o90 (P : Params) : Obj := ⟨.type t0,.none,.dict ⟨[⟨kh P z53,.str z53 294,.str z54 187⟩,⟨kh P z55,.str z55 296,.str z17 295⟩,⟨kh P z56,.str z56 298,.int 14 297⟩,⟨kh P z57,.str z57 299,.ref 95⟩]⟩ 4,⟨[]⟩⟩
def o91 (P : Params) : Obj := ⟨.type t2,.none,.seq ⟨[]⟩ 0,⟨[]⟩⟩
def o92 (P : Params) : Obj := ⟨.none,.none,.fields ⟨[]⟩,⟨[]⟩⟩
def o93 (P : Params) : Obj := ⟨.type t3,.none,.fields ⟨[.str z17 289,.str z17 290,.str z9 291,.int 14 0,.int 0 0,.int 0 0,.int 0 0,.int 0 0,.ref 91,.bool false,.int 181 0,.ref 92,.none,.none,.none,.none,.int 292 0,.int 14 0,.str z9 293]⟩,⟨[]⟩⟩
def o94 (P : Params) : Obj := ⟨.type t4,.none,.plain,⟨[.some (.ref 93),.some (.ref 3),.some (.ref 90),.none,.some (.str z54 187),.none,.some (.ref 0)]⟩⟩
def o95 (P : Params) : Obj := ⟨.type t2,.none,.seq ⟨[]⟩ 0,⟨[]⟩⟩
def o96 (P : Params) : Obj := ⟨.type t0,.none,.dict ⟨[⟨kh P z53,.str z53 294,.str z54 187⟩,⟨kh P z56,.str z56 298,.int 14 297⟩,⟨kh P z57,.str z57 299,.ref 95⟩,⟨kh P z2,.str z2 300,.none⟩]⟩ 2,⟨[]⟩⟩
def o97 (P : Params) : Obj := ⟨.type t8,.none,.cls ⟨z17,[.ref 24],[.ref 97,.ref 24,.type t5,.type t10,.type t11,.type t12],96,z17,true,[],[],false,.none,false⟩,⟨[.some (.ref 88),.none,.some (.str z17 287),.some (.str z17 295),.some (.builtin t9),.some (.bool true)]⟩⟩
def o98 (P : Params) : Obj := ⟨.type t15,.none,.fields ⟨[.ref 97,.ref 97,.ref 97]⟩,⟨[]⟩⟩
def o99 (P : Params) : Obj := ⟨.type t6,.none,.fields ⟨[.builtin t16,.ref 97]⟩,⟨[]⟩⟩
def o100 (P : Params) : Obj := ⟨.type t2,.none,.seq ⟨[.ref 24]⟩ 0,⟨[]⟩⟩
def o101 (P : Params) : Obj := ⟨.type t6,.none,.fields ⟨[.builtin t7,.type t8]⟩,⟨[]⟩⟩
def o102 (P : Params) : Obj := ⟨.type t0,.none,.dict ⟨[⟨kh P z53,.str z53 310,.str z54 187⟩,⟨kh P z55,.str z55 312,.str z18 311⟩,⟨kh P z56,.str z56 314,.int 16 313⟩,⟨kh P z57,.str z57 315,.ref 107⟩]⟩ 4,⟨[]⟩⟩
def o103 (P : Params) : Obj := ⟨.type t2,.none,.seq ⟨[]⟩ 0,⟨[]⟩⟩
def o104 (P : Params) : Obj := ⟨.none,.none,.fields ⟨[]⟩,⟨[]⟩⟩
def o105 (P : Params) : Obj := ⟨.type t3,.none,.fields ⟨[.str z18 305,.str z18 306,.str z9 307,.int 16 0,.int 0 0,.int 0 0,.int 0 0,.int 0 0,.ref 103,.bool false,.int 181 0,.ref 104,.none,.none,.none,.none,.int 308 0,.int 16 0,.str z9 309]⟩,⟨[]⟩⟩
def o106 (P : Params) : Obj := ⟨.type t4,.none,.plain,⟨[.some (.ref 105),.some (.ref 3),.some (.ref 102),.none,.some (.str z54 187),.none,.some (.ref 0)]⟩⟩
def o107 (P : Params) : Obj := ⟨.type t2,.none,.seq ⟨[]⟩ 0,⟨[]⟩⟩
def o108 (P : Params) : Obj := ⟨.type t0,.none,.dict ⟨[⟨kh P z53,.str z53 310,.str z54 187⟩,⟨kh P z56,.str z56 314,.int 16 313⟩,⟨kh P z57,.str z57 315,.ref 107⟩,⟨kh P z2,.str z2 316,.none⟩]⟩ 2,⟨[]⟩⟩
def o109 (P : Params) : Obj := ⟨.type t8,.none,.cls ⟨z18,[.ref 24],[.ref 109,.ref 24,.type t5,.type t10,.type t11,.type t12],108,z18,true,[],[],false,.none,false⟩,⟨[.some (.ref 100),.none,.some (.str z18 303),.some (.str z18 311),.some (.builtin t9),.some (.bool true)]⟩⟩
def o110 (P : Params) : Obj := ⟨.type t15,.none,.fields ⟨[.ref 109,.ref 109,.ref 109]⟩,⟨[]⟩⟩
def o111 (P : Params) : Obj := ⟨.type t6,.none,.fields ⟨[.builtin t16,.ref 109]⟩,⟨[]⟩⟩
def o112 (P : Params) : Obj := ⟨.type t2,.none,.seq ⟨[.ref 24]⟩ 0,⟨[]⟩⟩
def o113 (P : Params) : Obj := ⟨.type t6,.none,.fields ⟨[.builtin t7,.type t8]⟩,⟨[]⟩⟩
def o114 (P : Params) : Obj := ⟨.type t0,.none,.dict ⟨[⟨kh P z53,.str z53 326,.str z54 187⟩,⟨kh P z55,.str z55 328,.str z19 327⟩,⟨kh P z56,.str z56 330,.int 18 329⟩,⟨kh P z57,.str z57 331,.ref 119⟩]⟩ 4,⟨[]⟩⟩
def o115 (P : Params) : Obj := ⟨.type t2,.none,.seq ⟨[]⟩ 0,⟨[]⟩⟩
def o116 (P : Params) : Obj := ⟨.none,.none,.fields ⟨[]⟩,⟨[]⟩⟩
def o117 (P : Params) : Obj := ⟨.type t3,.none,.fields ⟨[.str z19 321,.str z19 322,.str z9 323,.int 18 0,.int 0 0,.int 0 0,.int 0 0,.int 0 0,.ref 115,.bool false,.int 181 0,.ref 116,.none,.none,.none,.none,.int 324 0,.int 18 0,.str z9 325]⟩,⟨[]⟩⟩
def o118 (P : Params) : Obj := ⟨.type t4,.none,.plain,⟨[.some (.ref 117),.some (.ref 3),.some (.ref 114),.none,.some (.str z54 187),.none,.some (.ref 0)]⟩⟩
def o119 (P : Params) : Obj := ⟨.type t2,.none,.seq ⟨[]⟩ 0,⟨[]⟩⟩
def o120 (P : Params) : Obj := ⟨.type t0,.none,.dict ⟨[⟨kh P z53,.str z53 326,.str z54 187⟩,⟨kh P z56,.str z56 330,.int 18 329⟩,⟨kh P z57,.str z57 331,.ref 119⟩,⟨kh P z2,.str z2 332,.none⟩]⟩ 2,⟨[]⟩⟩
def o121 (P : Params) : Obj := ⟨.type t8,.none,.cls ⟨z19,[.ref 24],[.ref 121,.ref 24,.type t5,.type t10,.type t11,.type t12],120,z19,true,[],[],false,.none,false⟩,⟨[.some (.ref 112),.none,.some (.str z19 319),.some (.str z19 327),.some (.builtin t9),.some (.bool true)]⟩⟩
def o122 (P : Params) : Obj := ⟨.type t15,.none,.fields ⟨[.ref 121,.ref 121,.ref 121]⟩,⟨[]⟩⟩
def o123 (P : Params) : Obj := ⟨.type t6,.none,.fields ⟨[.builtin t16,.ref 121]⟩,⟨[]⟩⟩
def o124 (P : Params) : Obj := ⟨.type t2,.none,.seq ⟨[]⟩ 0,⟨[]⟩⟩
def o125 (P : Params) : Obj := ⟨.none,.none,.fields ⟨[]⟩,⟨[]⟩⟩
def o126 (P : Params) : Obj := ⟨.type t2,.none,.seq ⟨[.str z59 340,.str z60 341]⟩ 0,⟨[]⟩⟩
def o127 (P : Params) : Obj := ⟨.type t2,.none,.seq ⟨[]⟩ 0,⟨[]⟩⟩
def o128 (P : Params) : Obj := ⟨.none,.none,.func ⟨z20,z20,L2.defArgs (tt 11),.stmts (L2.defBody (tt 11)),L2.defScope (tt 11),0,[],.none,.none,.none,.none,.none,.none,.none,0⟩,⟨[]⟩⟩
def o129 (P : Params) : Obj := ⟨.type t3,.none,.fields ⟨[.str z20 337,.str z20 338,.str z9 339,.int 21 0,.int 2 0,.int 0 0,.int 0 0,.int 3 0,.ref 124,.bool true,.int 181 0,.ref 125,.none,.ref 126,.ref 127,.ref 128,.int 342 0,.int 21 0,.str z9 343]⟩,⟨[]⟩⟩
def o130 (P : Params) : Obj := ⟨.type t17,.none,.func ⟨z20,z20,L2.defArgs (tt 11),.stmts (L2.defBody (tt 11)),L2.defScope (tt 11),3,[],.none,.none,.none,.str z61 335,.none,.ref 129,.none,0⟩,⟨[]⟩⟩
def o131 (P : Params) : Obj := ⟨.type t2,.none,.seq ⟨[]⟩ 0,⟨[]⟩⟩
def o132 (P : Params) : Obj := ⟨.none,.none,.fields ⟨[]⟩,⟨[]⟩⟩
def o133 (P : Params) : Obj := ⟨.type t2,.none,.seq ⟨[.str z59 350,.str z62 351,.str z63 352,.str z64 353,.str z65 354]⟩ 0,⟨[]⟩⟩
def o134 (P : Params) : Obj := ⟨.type t2,.none,.seq ⟨[]⟩ 0,⟨[]⟩⟩
def o135 (P : Params) : Obj := ⟨.none,.none,.func ⟨z21,z21,L2.defArgs (tt 13),.stmts (L2.defBody (tt 13)),L2.defScope (tt 13),0,[],.none,.none,.none,.none,.none,.none,.none,0⟩,⟨[]⟩⟩
def o136 (P : Params) : Obj := ⟨.type t3,.none,.fields ⟨[.str z21 347,.str z21 348,.str z9 349,.int 26 0,.int 3 0,.int 0 0,.int 0 0,.int 3 0,.ref 131,.bool true,.int 181 0,.ref 132,.none,.ref 133,.ref 134,.ref 135,.int 355 0,.int 26 0,.str z9 356]⟩,⟨[]⟩⟩
def o137 (P : Params) : Obj := ⟨.type t17,.none,.func ⟨z21,z21,L2.defArgs (tt 13),.stmts (L2.defBody (tt 13)),L2.defScope (tt 13),3,[],.none,.none,.none,.str z66 345,.none,.ref 136,.none,0⟩,⟨[]⟩⟩
def o138 (P : Params) : Obj := ⟨.type t2,.none,.seq ⟨[]⟩ 0,⟨[]⟩⟩
def o139 (P : Params) : Obj := ⟨.none,.none,.fields ⟨[]⟩,⟨[]⟩⟩
def o140 (P : Params) : Obj := ⟨.type t2,.none,.seq ⟨[.str z67 361,.str z68 362,.str z59 363,.str z62 364,.str z69 365,.str z70 366]⟩ 0,⟨[]⟩⟩
def o141 (P : Params) : Obj := ⟨.type t2,.none,.seq ⟨[]⟩ 0,⟨[]⟩⟩
def o142 (P : Params) : Obj := ⟨.none,.none,.func ⟨z22,z22,L2.defArgs (tt 14),.stmts (L2.defBody (tt 14)),L2.defScope (tt 14),0,[],.none,.none,.none,.none,.none,.none,.none,0⟩,⟨[]⟩⟩
def o143 (P : Params) : Obj := ⟨.type t3,.none,.fields ⟨[.str z22 358,.str z22 359,.str z9 360,.int 31 0,.int 2 0,.int 0 0,.int 0 0,.int 3 0,.ref 138,.bool true,.int 181 0,.ref 139,.none,.ref 140,.ref 141,.ref 142,.int 367 0,.int 31 0,.str z9 368]⟩,⟨[]⟩⟩
def o144 (P : Params) : Obj := ⟨.type t17,.none,.func ⟨z22,z22,L2.defArgs (tt 14),.stmts (L2.defBody (tt 14)),L2.defScope (tt 14),3,[],.none,.none,.none,.str z66 345,.none,.ref 143,.none,0⟩,⟨[]⟩⟩
def o145 (P : Params) : Obj := ⟨.type t2,.none,.seq ⟨[]⟩ 0,⟨[]⟩⟩
def o146 (P : Params) : Obj := ⟨.none,.none,.fields ⟨[]⟩,⟨[]⟩⟩
def o147 (P : Params) : Obj := ⟨.type t2,.none,.seq ⟨[.str z71 375,.str z72 376]⟩ 0,⟨[]⟩⟩
def o148 (P : Params) : Obj := ⟨.type t2,.none,.seq ⟨[]⟩ 0,⟨[]⟩⟩
def o149 (P : Params) : Obj := ⟨.none,.none,.func ⟨z23,z23,L2.defArgs (tt 16),.stmts (L2.defBody (tt 16)),L2.defScope (tt 16),0,[],.none,.none,.none,.none,.none,.none,.none,0⟩,⟨[]⟩⟩
def o150 (P : Params) : Obj := ⟨.type t3,.none,.fields ⟨[.str z23 372,.str z23 373,.str z9 374,.int 40 0,.int 1 0,.int 0 0,.int 0 0,.int 3 0,.ref 145,.bool true,.int 181 0,.ref 146,.none,.ref 147,.ref 148,.ref 149,.int 377 0,.int 40 0,.str z9 378]⟩,⟨[]⟩⟩
def o151 (P : Params) : Obj := ⟨.type t17,.none,.func ⟨z23,z23,L2.defArgs (tt 16),.stmts (L2.defBody (tt 16)),L2.defScope (tt 16),3,[],.none,.none,.none,.str z73 370,.none,.ref 150,.none,0⟩,⟨[]⟩⟩
def o152 (P : Params) : Obj := ⟨.type t2,.none,.seq ⟨[]⟩ 0,⟨[]⟩⟩
def o153 (P : Params) : Obj := ⟨.none,.none,.fields ⟨[]⟩,⟨[]⟩⟩
def o154 (P : Params) : Obj := ⟨.type t2,.none,.seq ⟨[.str z74 383,.str z65 384]⟩ 0,⟨[]⟩⟩
def o155 (P : Params) : Obj := ⟨.type t2,.none,.seq ⟨[]⟩ 0,⟨[]⟩⟩
def o156 (P : Params) : Obj := ⟨.none,.none,.func ⟨z24,z24,L2.defArgs (tt 17),.stmts (L2.defBody (tt 17)),L2.defScope (tt 17),0,[],.none,.none,.none,.none,.none,.none,.none,0⟩,⟨[]⟩⟩
def o157 (P : Params) : Obj := ⟨.type t3,.none,.fields ⟨[.str z24 380,.str z24 381,.str z9 382,.int 45 0,.int 2 0,.int 0 0,.int 0 0,.int 3 0,.ref 152,.bool true,.int 181 0,.ref 153,.none,.ref 154,.ref 155,.ref 156,.int 385 0,.int 45 0,.str z9 386]⟩,⟨[]⟩⟩
def o158 (P : Params) : Obj := ⟨.type t17,.none,.func ⟨z24,z24,L2.defArgs (tt 17),.stmts (L2.defBody (tt 17)),L2.defScope (tt 17),3,[],.none,.none,.none,.str z73 370,.none,.ref 157,.none,0⟩,⟨[]⟩⟩
def o159 (P : Params) : Obj := ⟨.type t2,.none,.seq ⟨[]⟩ 0,⟨[]⟩⟩
def o160 (P : Params) : Obj := ⟨.none,.none,.fields ⟨[]⟩,⟨[]⟩⟩
def o161 (P : Params) : Obj := ⟨.type t2,.none,.seq ⟨[.str z59 391,.str z75 392,.str z76 393,.str z64 394,.str z77 395,.str z65 396]⟩ 0,⟨[]⟩⟩
def o162 (P : Params) : Obj := ⟨.type t2,.none,.seq ⟨[]⟩ 0,⟨[]⟩⟩
def o163 (P : Params) : Obj := ⟨.none,.none,.func ⟨z25,z25,L2.defArgs (tt 18),.stmts (L2.defBody (tt 18)),L2.defScope (tt 18),0,[],.none,.none,.none,.none,.none,.none,.none,0⟩,⟨[]⟩⟩
def o164 (P : Params) : Obj := ⟨.type t3,.none,.fields ⟨[.str z25 388,.str z25 389,.str z9 390,.int 47 0,.int 3 0,.int 0 0,.int 0 0,.int 3 0,.ref 159,.bool true,.int 181 0,.ref 160,.none,.ref 161,.ref 162,.ref 163,.int 397 0,.int 47 0,.str z9 398]⟩,⟨[]⟩⟩
def o165 (P : Params) : Obj := ⟨.type t17,.none,.func ⟨z25,z25,L2.defArgs (tt 18),.stmts (L2.defBody (tt 18)),L2.defScope (tt 18),3,[],.none,.none,.none,.str z73 370,.none,.ref 164,.none,0⟩,⟨[]⟩⟩
def o166 (P : Params) : Obj := ⟨.type t2,.none,.seq ⟨[]⟩ 0,⟨[]⟩⟩
def o167 (P : Params) : Obj := ⟨.none,.none,.fields ⟨[]⟩,⟨[]⟩⟩
def o168 (P : Params) : Obj := ⟨.type t2,.none,.seq ⟨[.str z59 403,.str z75 404,.str z76 405,.str z78 406,.str z79 407,.str z80 408,.str z81 409,.str z82 410,.str z65 411]⟩ 0,⟨[]⟩⟩
def o169 (P : Params) : Obj := ⟨.type t2,.none,.seq ⟨[]⟩ 0,⟨[]⟩⟩
def o170 (P : Params) : Obj := ⟨.none,.none,.func ⟨z26,z26,L2.defArgs (tt 19),.stmts (L2.defBody (tt 19)),L2.defScope (tt 19),0,[],.none,.none,.none,.none,.none,.none,.none,0⟩,⟨[]⟩⟩
def o171 (P : Params) : Obj := ⟨.type t3,.none,.fields ⟨[.str z26 400,.str z26 401,.str z9 402,.int 53 0,.int 3 0,.int 0 0,.int 0 0,.int 3 0,.ref 166,.bool true,.int 181 0,.ref 167,.none,.ref 168,.ref 169,.ref 170,.int 412 0,.int 53 0,.str z9 413]⟩,⟨[]⟩⟩
def o172 (P : Params) : Obj := ⟨.type t17,.none,.func ⟨z26,z26,L2.defArgs (tt 19),.stmts (L2.defBody (tt 19)),L2.defScope (tt 19),3,[],.none,.none,.none,.str z73 370,.none,.ref 171,.none,0⟩,⟨[]⟩⟩
def o173 (P : Params) : Obj := ⟨.type t2,.none,.seq ⟨[]⟩ 0,⟨[]⟩⟩
def o174 (P : Params) : Obj := ⟨.none,.none,.fields ⟨[]⟩,⟨[]⟩⟩
def o175 (P : Params) : Obj := ⟨.none,.none,.func ⟨z27,z27,L2.defArgs (tt 20),.stmts (L2.defBody (tt 20)),L2.defScope (tt 20),0,[],.none,.none,.none,.none,.none,.none,.none,0⟩,⟨[]⟩⟩
def o176 (P : Params) : Obj := ⟨.type t3,.none,.fields ⟨[.str z27 415,.str z27 416,.str z9 417,.int 63 0,.int 2 0,.int 0 0,.int 0 0,.int 3 0,.ref 173,.bool true,.int 181 0,.ref 174,.none,.none,.none,.ref 175,.int 418 0,.int 63 0,.str z9 419]⟩,⟨[]⟩⟩
def o177 (P : Params) : Obj := ⟨.type t17,.none,.func ⟨z27,z27,L2.defArgs (tt 20),.stmts (L2.defBody (tt 20)),L2.defScope (tt 20),3,[],.none,.none,.none,.str z73 370,.none,.ref 176,.none,0⟩,⟨[]⟩⟩
def o178 (P : Params) : Obj := ⟨.type t2,.none,.seq ⟨[]⟩ 0,⟨[]⟩⟩
def o179 (P : Params) : Obj := ⟨.none,.none,.fields ⟨[]⟩,⟨[]⟩⟩
def o180 (P : Params) : Obj := ⟨.none,.none,.func ⟨z28,z28,L2.defArgs (tt 21),.stmts (L2.defBody (tt 21)),L2.defScope (tt 21),0,[],.none,.none,.none,.none,.none,.none,.none,0⟩,⟨[]⟩⟩
def o181 (P : Params) : Obj := ⟨.type t3,.none,.fields ⟨[.str z28 421,.str z28 422,.str z9 423,.int 67 0,.int 4 0,.int 0 0,.int 0 0,.int 3 0,.ref 178,.bool true,.int 181 0,.ref 179,.none,.none,.none,.ref 180,.int 424 0,.int 67 0,.str z9 425]⟩,⟨[]⟩⟩
def o182 (P : Params) : Obj := ⟨.type t17,.none,.func ⟨z28,z28,L2.defArgs (tt 21),.stmts (L2.defBody (tt 21)),L2.defScope (tt 21),3,[],.none,.none,.none,.str z73 370,.none,.ref 181,.none,0⟩,⟨[]⟩⟩
def o183 (P : Params) : Obj := ⟨.type t2,.none,.seq ⟨[]⟩ 0,⟨[]⟩⟩
def o184 (P : Params) : Obj := ⟨.none,.none,.fields ⟨[]⟩,⟨[]⟩⟩
def o185 (P : Params) : Obj := ⟨.type t2,.none,.seq ⟨[.str z59 434,.str z83 435]⟩ 0,⟨[]⟩⟩
def o186 (P : Params) : Obj := ⟨.type t2,.none,.seq ⟨[]⟩ 0,⟨[]⟩⟩
def o187 (P : Params) : Obj := ⟨.none,.none,.func ⟨z30,z30,L2.defArgs (tt 24),.stmts (L2.defBody (tt 24)),L2.defScope (tt 24),0,[],.none,.none,.none,.none,.none,.none,.none,0⟩,⟨[]⟩⟩
def o188 (P : Params) : Obj := ⟨.type t3,.none,.fields ⟨[.str z30 431,.str z30 432,.str z9 433,.int 71 0,.int 2 0,.int 0 0,.int 0 0,.int 3 0,.ref 183,.bool true,.int 181 0,.ref 184,.none,.ref 185,.ref 186,.ref 187,.int 436 0,.int 71 0,.str z9 437]⟩,⟨[]⟩⟩
def o189 (P : Params) : Obj := ⟨.type t17,.none,.func ⟨z30,z30,L2.defArgs (tt 24),.stmts (L2.defBody (tt 24)),L2.defScope (tt 24),3,[],.none,.none,.none,.str z84 427,.none,.ref 188,.none,0⟩,⟨[]⟩⟩
def o190 (P : Params) : Obj := ⟨.type t2,.none,.seq ⟨[]⟩ 0,⟨[]⟩⟩
def o191 (P : Params) : Obj := ⟨.none,.none,.fields ⟨[]⟩,⟨[]⟩⟩
def o192 (P : Params) : Obj := ⟨.type t2,.none,.seq ⟨[.str z59 442,.str z74 443,.str z83 444,.str z80 445,.str z85 446,.str z86 447]⟩ 0,⟨[]⟩⟩
def o193 (P : Params) : Obj := ⟨.type t2,.none,.seq ⟨[]⟩ 0,⟨[]⟩⟩
def o194 (P : Params) : Obj := ⟨.none,.none,.func ⟨z31,z31,L2.defArgs (tt 25),.stmts (L2.defBody (tt 25)),L2.defScope (tt 25),0,[],.none,.none,.none,.none,.none,.none,.none,0⟩,⟨[]⟩⟩
def o195 (P : Params) : Obj := ⟨.type t3,.none,.fields ⟨[.str z31 439,.str z31 440,.str z9 441,.int 74 0,.int 3 0,.int 0 0,.int 0 0,.int 3 0,.ref 190,.bool true,.int 181 0,.ref 191,.none,.ref 192,.ref 193,.ref 194,.int 448 0,.int 74 0,.str z9 449]⟩,⟨[]⟩⟩
def o196 (P : Params) : Obj := ⟨.type t17,.none,.func ⟨z31,z31,L2.defArgs (tt 25),.stmts (L2.defBody (tt 25)),L2.defScope (tt 25),3,[],.none,.none,.none,.str z84 427,.none,.ref 195,.none,0⟩,⟨[]⟩⟩
def o197 (P : Params) : Obj := ⟨.type t2,.none,.seq ⟨[]⟩ 0,⟨[]⟩⟩
def o198 (P : Params) : Obj := ⟨.none,.none,.fields ⟨[]⟩,⟨[]⟩⟩
def o199 (P : Params) : Obj := ⟨.none,.none,.func ⟨z32,z32,L2.defArgs (tt 26),.stmts (L2.defBody (tt 26)),L2.defScope (tt 26),0,[],.none,.none,.none,.none,.none,.none,.none,0⟩,⟨[]⟩⟩
def o200 (P : Params) : Obj := ⟨.type t3,.none,.fields ⟨[.str z32 451,.str z32 452,.str z9 453,.int 82 0,.int 2 0,.int 0 0,.int 0 0,.int 3 0,.ref 197,.bool true,.int 181 0,.ref 198,.none,.none,.none,.ref 199,.int 454 0,.int 82 0,.str z9 455]⟩,⟨[]⟩⟩
def o201 (P : Params) : Obj := ⟨.type t17,.none,.func ⟨z32,z32,L2.defArgs (tt 26),.stmts (L2.defBody (tt 26)),L2.defScope (tt 26),3,[],.none,.none,.none,.str z84 427,.none,.ref 200,.none,0⟩,⟨[]⟩⟩
def o202 (P : Params) : Obj := ⟨.type t2,.none,.seq ⟨[]⟩ 0,⟨[]⟩⟩
def o203 (P : Params) : Obj := ⟨.none,.none,.fields ⟨[]⟩,⟨[]⟩⟩
def o204 (P : Params) : Obj := ⟨.type t2,.none,.seq ⟨[.str z67 460,.str z83 461]⟩ 0,⟨[]⟩⟩
def o205 (P : Params) : Obj := ⟨.type t2,.none,.seq ⟨[]⟩ 0,⟨[]⟩⟩
def o206 (P : Params) : Obj := ⟨.none,.none,.func ⟨z33,z33,L2.defArgs (tt 27),.stmts (L2.defBody (tt 27)),L2.defScope (tt 27),0,[],.none,.none,.none,.none,.none,.none,.none,0⟩,⟨[]⟩⟩
def o207 (P : Params) : Obj := ⟨.type t3,.none,.fields ⟨[.str z33 457,.str z33 458,.str z9 459,.int 88 0,.int 2 0,.int 0 0,.int 0 0,.int 3 0,.ref 202,.bool true,.int 181 0,.ref 203,.none,.ref 204,.ref 205,.ref 206,.int 462 0,.int 88 0,.str z9 463]⟩,⟨[]⟩⟩
def o208 (P : Params) : Obj := ⟨.type t17,.none,.func ⟨z33,z33,L2.defArgs (tt 27),.stmts (L2.defBody (tt 27)),L2.defScope (tt 27),3,[],.none,.none,.none,.str z84 427,.none,.ref 207,.none,0⟩,⟨[]⟩⟩
def o209 (P : Params) : Obj := ⟨.type t2,.none,.seq ⟨[]⟩ 0,⟨[]⟩⟩
def o210 (P : Params) : Obj := ⟨.none,.none,.fields ⟨[]⟩,⟨[]⟩⟩
def o211 (P : Params) : Obj := ⟨.none,.none,.func ⟨z34,z34,L2.defArgs (tt 28),.stmts (L2.defBody (tt 28)),L2.defScope (tt 28),0,[],.none,.none,.none,.none,.none,.none,.none,0⟩,⟨[]⟩⟩
def o212 (P : Params) : Obj := ⟨.type t3,.none,.fields ⟨[.str z34 465,.str z34 466,.str z9 467,.int 90 0,.int 2 0,.int 0 0,.int 0 0,.int 3 0,.ref 209,.bool true,.int 181 0,.ref 210,.none,.none,.none,.ref 211,.int 468 0,.int 90 0,.str z9 469]⟩,⟨[]⟩⟩
def o213 (P : Params) : Obj := ⟨.type t17,.none,.func ⟨z34,z34,L2.defArgs (tt 28),.stmts (L2.defBody (tt 28)),L2.defScope (tt 28),3,[],.none,.none,.none,.str z84 427,.none,.ref 212,.none,0⟩,⟨[]⟩⟩
def o214 (P : Params) : Obj := ⟨.type t2,.none,.seq ⟨[]⟩ 0,⟨[]⟩⟩
def o215 (P : Params) : Obj := ⟨.none,.none,.fields ⟨[]⟩,⟨[]⟩⟩
def o216 (P : Params) : Obj := ⟨.type t2,.none,.seq ⟨[.str z87 476,.str z88 477]⟩ 0,⟨[]⟩⟩
def o217 (P : Params) : Obj := ⟨.type t2,.none,.seq ⟨[]⟩ 0,⟨[]⟩⟩
def o218 (P : Params) : Obj := ⟨.none,.none,.func ⟨z35,z35,L2.defArgs (tt 30),.stmts (L2.defBody (tt 30)),L2.defScope (tt 30),0,[],.none,.none,.none,.none,.none,.none,.none,0⟩,⟨[]⟩⟩
def o219 (P : Params) : Obj := ⟨.type t3,.none,.fields ⟨[.str z35 473,.str z35 474,.str z9 475,.int 97 0,.int 2 0,.int 0 0,.int 0 0,.int 3 0,.ref 214,.bool true,.int 181 0,.ref 215,.none,.ref 216,.ref 217,.ref 218,.int 478 0,.int 97 0,.str z9 479]⟩,⟨[]⟩⟩
def o220 (P : Params) : Obj := ⟨.type t17,.none,.func ⟨z35,z35,L2.defArgs (tt 30),.stmts (L2.defBody (tt 30)),L2.defScope (tt 30),3,[],.none,.none,.none,.str z1 471,.none,.ref 219,.none,0⟩,⟨[]⟩⟩
def o221 (P : Params) : Obj := ⟨.type t2,.none,.seq ⟨[]⟩ 0,⟨[]⟩⟩
def o222 (P : Params) : Obj := ⟨.none,.none,.fields ⟨[]⟩,⟨[]⟩⟩
def o223 (P : Params) : Obj := ⟨.type t2,.none,.seq ⟨[.str z89 484,.str z88 485,.str z90 486]⟩ 0,⟨[]⟩⟩
def o224 (P : Params) : Obj := ⟨.type t2,.none,.seq ⟨[]⟩ 0,⟨[]⟩⟩
def o225 (P : Params) : Obj := ⟨.none,.none,.func ⟨z36,z36,L2.defArgs (tt 31),.stmts (L2.defBody (tt 31)),L2.defScope (tt 31),0,[],.none,.none,.none,.none,.none,.none,.none,0⟩,⟨[]⟩⟩
def o226 (P : Params) : Obj := ⟨.type t3,.none,.fields ⟨[.str z36 481,.str z36 482,.str z9 483,.int 101 0,.int 2 0,.int 0 0,.int 0 0,.int 3 0,.ref 221,.bool true,.int 181 0,.ref 222,.none,.ref 223,.ref 224,.ref 225,.int 487 0,.int 101 0,.str z9 488]⟩,⟨[]⟩⟩
def o227 (P : Params) : Obj := ⟨.type t17,.none,.func ⟨z36,z36,L2.defArgs (tt 31),.stmts (L2.defBody (tt 31)),L2.defScope (tt 31),3,[],.none,.none,.none,.str z1 471,.none,.ref 226,.none,0⟩,⟨[]⟩⟩
def o228 (P : Params) : Obj := ⟨.type t2,.none,.seq ⟨[]⟩ 0,⟨[]⟩⟩
def o229 (P : Params) : Obj := ⟨.none,.none,.fields ⟨[]⟩,⟨[]⟩⟩
def o230 (P : Params) : Obj := ⟨.type t2,.none,.seq ⟨[.str z89 493]⟩ 0,⟨[]⟩⟩
def o231 (P : Params) : Obj := ⟨.type t2,.none,.seq ⟨[]⟩ 0,⟨[]⟩⟩
def o232 (P : Params) : Obj := ⟨.none,.none,.func ⟨z37,z37,L2.defArgs (tt 32),.stmts (L2.defBody (tt 32)),L2.defScope (tt 32),0,[],.none,.none,.none,.none,.none,.none,.none,0⟩,⟨[]⟩⟩
def o233 (P : Params) : Obj := ⟨.type t3,.none,.fields ⟨[.str z37 490,.str z37 491,.str z9 492,.int 105 0,.int 1 0,.int 0 0,.int 0 0,.int 3 0,.ref 228,.bool true,.int 181 0,.ref 229,.none,.ref 230,.ref 231,.ref 232,.int 494 0,.int 105 0,.str z9 495]⟩,⟨[]⟩⟩
def o234 (P : Params) : Obj := ⟨.type t17,.none,.func ⟨z37,z37,L2.defArgs (tt 32),.stmts (L2.defBody (tt 32)),L2.defScope (tt 32),3,[],.none,.none,.none,.str z1 471,.none,.ref 233,.none,0⟩,⟨[]⟩⟩
def o235 (P : Params) : Obj := ⟨.type t2,.none,.seq ⟨[]⟩ 0,⟨[]⟩⟩
def o236 (P : Params) : Obj := ⟨.none,.none,.fields ⟨[]⟩,⟨[]⟩⟩
def o237 (P : Params) : Obj := ⟨.type t2,.none,.seq ⟨[.str z91 500,.str z90 501]⟩ 0,⟨[]⟩⟩
def o238 (P : Params) : Obj := ⟨.type t2,.none,.seq ⟨[]⟩ 0,⟨[]⟩⟩
def o239 (P : Params) : Obj := ⟨.none,.none,.func ⟨z38,z38,L2.defArgs (tt 33),.stmts (L2.defBody (tt 33)),L2.defScope (tt 33),0,[],.none,.none,.none,.none,.none,.none,.none,0⟩,⟨[]⟩⟩
def o240 (P : Params) : Obj := ⟨.type t3,.none,.fields ⟨[.str z38 497,.str z38 498,.str z9 499,.int 107 0,.int 2 0,.int 0 0,.int 0 0,.int 3 0,.ref 235,.bool true,.int 181 0,.ref 236,.none,.ref 237,.ref 238,.ref 239,.int 502 0,.int 107 0,.str z9 503]⟩,⟨[]⟩⟩
def o241 (P : Params) : Obj := ⟨.type t17,.none,.func ⟨z38,z38,L2.defArgs (tt 33),.stmts (L2.defBody (tt 33)),L2.defScope (tt 33),3,[],.none,.none,.none,.str z1 471,.none,.ref 240,.none,0⟩,⟨[]⟩⟩
def o242 (P : Params) : Obj := ⟨.type t2,.none,.seq ⟨[]⟩ 0,⟨[]⟩⟩
def o243 (P : Params) : Obj := ⟨.none,.none,.fields ⟨[]⟩,⟨[]⟩⟩
def o244 (P : Params) : Obj := ⟨.type t2,.none,.seq ⟨[.str z91 508,.str z89 509,.str z88 510,.str z92 511,.str z93 512]⟩ 0,⟨[]⟩⟩
def o245 (P : Params) : Obj := ⟨.type t2,.none,.seq ⟨[]⟩ 0,⟨[]⟩⟩
def o246 (P : Params) : Obj := ⟨.none,.none,.func ⟨z39,z39,L2.defArgs (tt 34),.stmts (L2.defBody (tt 34)),L2.defScope (tt 34),0,[],.none,.none,.none,.none,.none,.none,.none,0⟩,⟨[]⟩⟩
def o247 (P : Params) : Obj := ⟨.type t3,.none,.fields ⟨[.str z39 505,.str z39 506,.str z9 507,.int 111 0,.int 3 0,.int 0 0,.int 0 0,.int 3 0,.ref 242,.bool true,.int 181 0,.ref 243,.none,.ref 244,.ref 245,.ref 246,.int 513 0,.int 111 0,.str z9 514]⟩,⟨[]⟩⟩
def o248 (P : Params) : Obj := ⟨.type t17,.none,.func ⟨z39,z39,L2.defArgs (tt 34),.stmts (L2.defBody (tt 34)),L2.defScope (tt 34),3,[],.none,.none,.none,.str z1 471,.none,.ref 247,.none,0⟩,⟨[]⟩⟩
def o249 (P : Params) : Obj := ⟨.type t2,.none,.seq ⟨[]⟩ 0,⟨[]⟩⟩
def o250 (P : Params) : Obj := ⟨.none,.none,.fields ⟨[]⟩,⟨[]⟩⟩
def o251 (P : Params) : Obj := ⟨.none,.none,.func ⟨z40,z40,L2.defArgs (tt 35),.stmts (L2.defBody (tt 35)),L2.defScope (tt 35),0,[],.none,.none,.none,.none,.none,.none,.none,0⟩,⟨[]⟩⟩
def o252 (P : Params) : Obj := ⟨.type t3,.none,.fields ⟨[.str z40 516,.str z40 517,.str z9 518,.int 115 0,.int 2 0,.int 0 0,.int 0 0,.int 3 0,.ref 249,.bool true,.int 181 0,.ref 250,.none,.none,.none,.ref 251,.int 519 0,.int 115 0,.str z9 520]⟩,⟨[]⟩⟩
def o253 (P : Params) : Obj := ⟨.type t17,.none,.func ⟨z40,z40,L2.defArgs (tt 35),.stmts (L2.defBody (tt 35)),L2.defScope (tt 35),3,[],.none,.none,.none,.str z1 471,.none,.ref 252,.none,0⟩,⟨[]⟩⟩
def o254 (P : Params) : Obj := ⟨.type t2,.none,.seq ⟨[]⟩ 0,⟨[]⟩⟩
def o255 (P : Params) : Obj := ⟨.none,.none,.fields ⟨[]⟩,⟨[]⟩⟩
def o256 (P : Params) : Obj := ⟨.none,.none,.func ⟨z41,z41,L2.defArgs (tt 36),.stmts (L2.defBody (tt 36)),L2.defScope (tt 36),0,[],.none,.none,.none,.none,.none,.none,.none,0⟩,⟨[]⟩⟩
def o257 (P : Params) : Obj := ⟨.type t3,.none,.fields ⟨[.str z41 522,.str z41 523,.str z9 524,.int 123 0,.int 4 0,.int 0 0,.int 0 0,.int 3 0,.ref 254,.bool true,.int 181 0,.ref 255,.none,.none,.none,.ref 256,.int 525 0,.int 123 0,.str z9 526]⟩,⟨[]⟩⟩
def o258 (P : Params) : Obj := ⟨.type t17,.none,.func ⟨z41,z41,L2.defArgs (tt 36),.stmts (L2.defBody (tt 36)),L2.defScope (tt 36),3,[],.none,.none,.none,.str z1 471,.none,.ref 257,.none,0⟩,⟨[]⟩⟩
def o259 (P : Params) : Obj := ⟨.type t2,.none,.seq ⟨[]⟩ 0,⟨[]⟩⟩
def o260 (P : Params) : Obj := ⟨.none,.none,.fields ⟨[]⟩,⟨[]⟩⟩
def o261 (P : Params) : Obj := ⟨.none,.none,.func ⟨z42,z42,L2.defArgs (tt 37),.stmts (L2.defBody (tt 37)),L2.defScope (tt 37),0,[],.none,.none,.none,.none,.none,.none,.none,0⟩,⟨[]⟩⟩
def o262 (P : Params) : Obj := ⟨.type t3,.none,.fields ⟨[.str z42 528,.str z42 529,.str z9 530,.int 133 0,.int 2 0,.int 0 0,.int 0 0,.int 3 0,.ref 259,.bool true,.int 181 0,.ref 260,.none,.none,.none,.ref 261,.int 531 0,.int 133 0,.str z9 532]⟩,⟨[]⟩⟩
def o263 (P : Params) : Obj := ⟨.type t17,.none,.func ⟨z42,z42,L2.defArgs (tt 37),.stmts (L2.defBody (tt 37)),L2.defScope (tt 37),3,[],.none,.none,.none,.str z1 471,.none,.ref 262,.none,0⟩,⟨[]⟩⟩
def o264 (P : Params) : Obj := ⟨.type t2,.none,.seq ⟨[]⟩ 0,⟨[]⟩⟩
def o265 (P : Params) : Obj := ⟨.none,.none,.fields ⟨[]⟩,⟨[]⟩⟩
def o266 (P : Params) : Obj := ⟨.none,.none,.func ⟨z43,z43,L2.defArgs (tt 38),.stmts (L2.defBody (tt 38)),L2.defScope (tt 38),0,[],.none,.none,.none,.none,.none,.none,.none,0⟩,⟨[]⟩⟩
def o267 (P : Params) : Obj := ⟨.type t3,.none,.fields ⟨[.str z43 534,.str z43 535,.str z9 536,.int 140 0,.int 3 0,.int 0 0,.int 0 0,.int 3 0,.ref 264,.bool true,.int 181 0,.ref 265,.none,.none,.none,.ref 266,.int 537 0,.int 140 0,.str z9 538]⟩,⟨[]⟩⟩
def o268 (P : Params) : Obj := ⟨.type t17,.none,.func ⟨z43,z43,L2.defArgs (tt 38),.stmts (L2.defBody (tt 38)),L2.defScope (tt 38),3,[],.none,.none,.none,.str z1 471,.none,.ref 267,.none,0⟩,⟨[]⟩⟩
def o269 (P : Params) : Obj := ⟨.type t2,.none,.seq ⟨[]⟩ 0,⟨[]⟩⟩
def o270 (P : Params) : Obj := ⟨.none,.none,.fields ⟨[]⟩,⟨[]⟩⟩
def o271 (P : Params) : Obj := ⟨.type t2,.none,.seq ⟨[.str z91 543,.str z94 544,.str z95 545,.str z96 546,.str z97 547,.str z88 548]⟩ 0,⟨[]⟩⟩
def o272 (P : Params) : Obj := ⟨.type t2,.none,.seq ⟨[]⟩ 0,⟨[]⟩⟩
def o273 (P : Params) : Obj := ⟨.none,.none,.func ⟨z44,z44,L2.defArgs (tt 39),.stmts (L2.defBody (tt 39)),L2.defScope (tt 39),0,[],.none,.none,.none,.none,.none,.none,.none,0⟩,⟨[]⟩⟩
def o274 (P : Params) : Obj := ⟨.type t3,.none,.fields ⟨[.str z44 540,.str z44 541,.str z9 542,.int 147 0,.int 3 0,.int 0 0,.int 0 0,.int 3 0,.ref 269,.bool true,.int 181 0,.ref 270,.none,.ref 271,.ref 272,.ref 273,.int 549 0,.int 147 0,.str z9 550]⟩,⟨[]⟩⟩
def o275 (P : Params) : Obj := ⟨.type t17,.none,.func ⟨z44,z44,L2.defArgs (tt 39),.stmts (L2.defBody (tt 39)),L2.defScope (tt 39),3,[],.none,.none,.none,.str z1 471,.none,.ref 274,.none,0⟩,⟨[]⟩⟩
def o276 (P : Params) : Obj := ⟨.type t2,.none,.seq ⟨[]⟩ 0,⟨[]⟩⟩
def o277 (P : Params) : Obj := ⟨.none,.none,.fields ⟨[]⟩,⟨[]⟩⟩
def o278 (P : Params) : Obj := ⟨.none,.none,.func ⟨z45,z45,L2.defArgs (tt 40),.stmts (L2.defBody (tt 40)),L2.defScope (tt 40),0,[],.none,.none,.none,.none,.none,.none,.none,0⟩,⟨[]⟩⟩
def o279 (P : Params) : Obj := ⟨.type t3,.none,.fields ⟨[.str z45 552,.str z45 553,.str z9 554,.int 155 0,.int 4 0,.int 0 0,.int 0 0,.int 3 0,.ref 276,.bool true,.int 181 0,.ref 277,.none,.none,.none,.ref 278,.int 555 0,.int 155 0,.str z9 556]⟩,⟨[]⟩⟩
def o280 (P : Params) : Obj := ⟨.type t17,.none,.func ⟨z45,z45,L2.defArgs (tt 40),.stmts (L2.defBody (tt 40)),L2.defScope (tt 40),3,[],.none,.none,.none,.str z1 471,.none,.ref 279,.none,0⟩,⟨[]⟩⟩
def o281 (P : Params) : Obj := ⟨.type t2,.none,.seq ⟨[]⟩ 0,⟨[]⟩⟩
def o282 (P : Params) : Obj := ⟨.none,.none,.fields ⟨[]⟩,⟨[]⟩⟩
def o283 (P : Params) : Obj := ⟨.type t2,.none,.seq ⟨[.str z91 561,.str z94 562,.str z95 563,.str z98 564,.str z99 565]⟩ 0,⟨[]⟩⟩
def o284 (P : Params) : Obj := ⟨.type t2,.none,.seq ⟨[]⟩ 0,⟨[]⟩⟩
def o285 (P : Params) : Obj := ⟨.none,.none,.func ⟨z46,z46,L2.defArgs (tt 41),.stmts (L2.defBody (tt 41)),L2.defScope (tt 41),0,[],.none,.none,.none,.none,.none,.none,.none,0⟩,⟨[]⟩⟩
def o286 (P : Params) : Obj := ⟨.type t3,.none,.fields ⟨[.str z46 558,.str z46 559,.str z9 560,.int 162 0,.int 3 0,.int 0 0,.int 0 0,.int 3 0,.ref 281,.bool true,.int 181 0,.ref 282,.none,.ref 283,.ref 284,.ref 285,.int 566 0,.int 162 0,.str z9 567]⟩,⟨[]⟩⟩
def o287 (P : Params) : Obj := ⟨.type t17,.none,.func ⟨z46,z46,L2.defArgs (tt 41),.stmts (L2.defBody (tt 41)),L2.defScope (tt 41),3,[],.none,.none,.none,.str z1 471,.none,.ref 286,.none,0⟩,⟨[]⟩⟩
def o288 (P : Params) : Obj := ⟨.type t2,.none,.seq ⟨[]⟩ 0,⟨[]⟩⟩
def o289 (P : Params) : Obj := ⟨.none,.none,.fields ⟨[]⟩,⟨[]⟩⟩
def o290 (P : Params) : Obj := ⟨.type t2,.none,.seq ⟨[.str z100 572,.str z101 573,.str z102 574]⟩ 0,⟨[]⟩⟩
def o291 (P : Params) : Obj := ⟨.type t2,.none,.seq ⟨[]⟩ 0,⟨[]⟩⟩
def o292 (P : Params) : Obj := ⟨.none,.none,.func ⟨z47,z47,L2.defArgs (tt 42),.stmts (L2.defBody (tt 42)),L2.defScope (tt 42),0,[],.none,.none,.none,.none,.none,.none,.none,0⟩,⟨[]⟩⟩
def o293 (P : Params) : Obj := ⟨.type t3,.none,.fields ⟨[.str z47 569,.str z47 570,.str z9 571,.int 171 0,.int 1 0,.int 0 0,.int 0 0,.int 3 0,.ref 288,.bool true,.int 181 0,.ref 289,.none,.ref 290,.ref 291,.ref 292,.int 575 0,.int 171 0,.str z9 576]⟩,⟨[]⟩⟩
def o294 (P : Params) : Obj := ⟨.type t17,.none,.func ⟨z47,z47,L2.defArgs (tt 42),.stmts (L2.defBody (tt 42)),L2.defScope (tt 42),3,[],.none,.none,.none,.str z1 471,.none,.ref 293,.none,0⟩,⟨[]⟩⟩
def o295 (P : Params) : Obj := ⟨.type t2,.none,.seq ⟨[]⟩ 0,⟨[]⟩⟩
def o296 (P : Params) : Obj := ⟨.none,.none,.fields ⟨[]⟩,⟨[]⟩⟩
def o297 (P : Params) : Obj := ⟨.type t2,.none,.seq ⟨[.str z94 581,.str z95 582]⟩ 0,⟨[]⟩⟩
def o298 (P : Params) : Obj := ⟨.type t2,.none,.seq ⟨[.str z94 583,.str z95 584]⟩ 0,⟨[]⟩⟩
def o299 (P : Params) : Obj := ⟨.none,.none,.func ⟨z48,z48,L2.defArgs (tt 43),.stmts (L2.defBody (tt 43)),L2.defScope (tt 43),0,[],.none,.none,.none,.none,.none,.none,.none,0⟩,⟨[]⟩⟩
def o300 (P : Params) : Obj := ⟨.type t3,.none,.fields ⟨[.str z48 578,.str z48 579,.str z9 580,.int 180 0,.int 2 0,.int 0 0,.int 0 0,.int 3 0,.ref 295,.bool true,.int 181 0,.ref 296,.none,.ref 297,.ref 298,.ref 299,.int 585 0,.int 180 0,.str z9 586]⟩,⟨[]⟩⟩
def o301 (P : Params) : Obj := ⟨.type t17,.none,.func ⟨z48,z48,L2.defArgs (tt 43),.stmts (L2.defBody (tt 43)),L2.defScope (tt 43),3,[],.none,.none,.none,.str z1 471,.none,.ref 300,.none,0⟩,⟨[]⟩⟩
def o302 (P : Params) : Obj := ⟨.type t2,.none,.seq ⟨[]⟩ 0,⟨[]⟩⟩
def o303 (P : Params) : Obj := ⟨.none,.none,.fields ⟨[]⟩,⟨[]⟩⟩
def o304 (P : Params) : Obj := ⟨.none,.none,.func ⟨z49,z49,L2.defArgs (tt 44),.stmts (L2.defBody (tt 44)),L2.defScope (tt 44),0,[],.none,.none,.none,.none,.none,.none,.none,0⟩,⟨[]⟩⟩
def o305 (P : Params) : Obj := ⟨.type t3,.none,.fields ⟨[.str z49 588,.str z49 589,.str z9 590,.int 186 0,.int 2 0,.int 0 0,.int 0 0,.int 3 0,.ref 302,.bool true,.int 181 0,.ref 303,.none,.none,.none,.ref 304,.int 591 0,.int 186 0,.str z9 592]⟩,⟨[]⟩⟩
def o306 (P : Params) : Obj := ⟨.type t17,.none,.func ⟨z49,z49,L2.defArgs (tt 44),.stmts (L2.defBody (tt 44)),L2.defScope (tt 44),3,[],.none,.none,.none,.str z1 471,.none,.ref 305,.none,0⟩,⟨[]⟩⟩
def o307 (P : Params) : Obj := ⟨.type t2,.none,.seq ⟨[]⟩ 0,⟨[]⟩⟩
def o308 (P : Params) : Obj := ⟨.none,.none,.fields ⟨[]⟩,⟨[]⟩⟩
def o309 (P : Params) : Obj := ⟨.none,.none,.func ⟨z50,z50,L2.defArgs (tt 45),.stmts (L2.defBody (tt 45)),L2.defScope (tt 45),0,[],.none,.none,.none,.none,.none,.none,.none,0⟩,⟨[]⟩⟩
def o310 (P : Params) : Obj := ⟨.type t3,.none,.fields ⟨[.str z50 594,.str z50 595,.str z9 596,.int 190 0,.int 1 0,.int 0 0,.int 0 0,.int 3 0,.ref 307,.bool true,.int 181 0,.ref 308,.none,.none,.none,.ref 309,.int 597 0,.int 190 0,.str z9 598]⟩,⟨[]⟩⟩
def o311 (P : Params) : Obj := ⟨.type t17,.none,.func ⟨z50,z50,L2.defArgs (tt 45),.stmts (L2.defBody (tt 45)),L2.defScope (tt 45),3,[],.none,.none,.none,.str z1 471,.none,.ref 310,.none,0⟩,⟨[]⟩⟩
def TF (P : Params) : BT := (nd (PySem.W.boot_o_0 P) (nd (PySem.W.boot_o_1 P) (nd (o3 P) (nd (PySem.W.boot_o_7 P) (nd (o15 P) (nd (o31 P) (nd (o63 P) (nd (o127 P) (nd (o255 P) e e) e) (nd (o191 P) e e)) (nd (o95 P) (nd (o159 P) (nd (o287 P) e e) e) (nd (o223 P) e e))) (nd (o47 P) (nd (o79 P) (nd (o143 P) (nd (o271 P) e e) e) (nd (o207 P) e e)) (nd (o111 P) (nd (o175 P) (nd (o303 P) e e) e) (nd (o239 P) e e)))) (nd (o23 P) (nd (o39 P) (nd (o71 P) (nd (o135 P) (nd (o263 P) e e) e) (nd (o199 P) e e)) (nd (o103 P) (nd (o167 P) (nd (o295 P) e e) e) (nd (o231 P) e e))) (nd (o55 P) (nd (o87 P) (nd (o151 P) (nd (o279 P) e e) e) (nd (o215 P) e e)) (nd (o119 P) (nd (o183 P) (nd (o311 P) e e) e) (nd (o247 P) e e))))) (nd (o11 P) (nd (o19 P) (nd (o35 P) (nd (o67 P) (nd (o131 P) (nd (o259 P) e e) e) (nd (o195 P) e e)) (nd (o99 P) (nd (o163 P) (nd (o291 P) e e) e) (nd (o227 P) e e))) (nd (o51 P) (nd (o83 P) (nd (o147 P) (nd (o275 P) e e) e) (nd (o211 P) e e)) (nd (o115 P) (nd (o179 P) (nd (o307 P) e e) e) (nd (o243 P) e e)))) (nd (o27 P) (nd (o43 P) (nd (o75 P) (nd (o139 P) (nd (o267 P) e e) e) (nd (o203 P) e e)) (nd (o107 P) (nd (o171 P) (nd (o299 P) e e) e) (nd (o235 P) e e))) (nd (o59 P) (nd (o91 P) (nd (o155 P) (nd (o283 P) e e) e) (nd (o219 P) e e)) (nd (o123 P) (nd (o187 P) e e) (nd (o251 P) e e)))))) (nd (PySem.W.boot_o_5 P) (nd (PySem.W.boot_o_9 P) (nd (o17 P) (nd (o33 P) (nd (o65 P) (nd (o129 P) (nd (o257 P) e e) e) (nd (o193 P) e e)) (nd (o97 P) (nd (o161 P) (nd (o289 P) e e) e) (nd (o225 P) e e))) (nd (o49 P) (nd (o81 P) (nd (o145 P) (nd (o273 P) e e) e) (nd (o209 P) e e)) (nd (o113 P) (nd (o177 P) (nd (o305 P) e e) e) (nd (o241 P) e e)))) (nd (o25 P) (nd (o41 P) (nd (o73 P) (nd (o137 P) (nd (o265 P) e e) e) (nd (o201 P) e e)) (nd (o105 P) (nd (o169 P) (nd (o297 P) e e) e) (nd (o233 P) e e))) (nd (o57 P) (nd (o89 P) (nd (o153 P) (nd (o281 P) e e) e) (nd (o217 P) e e)) (nd (o121 P) (nd (o185 P) e e) (nd (o249 P) e e))))) (nd (o13 P) (nd (o21 P) (nd (o37 P) (nd (o69 P) (nd (o133 P) (nd (o261 P) e e) e) (nd (o197 P) e e)) (nd (o101 P) (nd (o165 P) (nd (o293 P) e e) e) (nd (o229 P) e e))) (nd (o53 P) (nd (o85 P) (nd (o149 P) (nd (o277 P) e e) e) (nd (o213 P) e e)) (nd (o117 P) (nd (o181 P) (nd (o309 P) e e) e) (nd (o245 P) e e)))) (nd (o29 P) (nd (o45 P) (nd (o77 P) (nd (o141 P) (nd (o269 P) e e) e) (nd (o205 P) e e)) (nd (o109 P) (nd (o173 P) (nd (o301 P) e e) e) (nd (o237 P) e e))) (nd (o61 P) (nd (o93 P) (nd (o157 P) (nd (o285 P) e e) e) (nd (o221 P) e e)) (nd (o125 P) (nd (o189 P) e e) (nd (o253 P) e e))))))) (nd (PySem.W.boot_o_2 P) (nd (PySem.W.boot_o_4 P) (nd (PySem.W.boot_o_8 P) (nd (o16 P) (nd (o32 P) (nd (o64 P) (nd (o128 P) (nd (o256 P) e e) e) (nd (o192 P) e e)) (nd (o96 P) (nd (o160 P) (nd (o288 P) e e) e) (nd (o224 P) e e))) (nd (o48 P) (nd (o80 P) (nd (o144 P) (nd (o272 P) e e) e) (nd (o208 P) e e)) (nd (o112 P) (nd (o176 P) (nd (o304 P) e e) e) (nd (o240 P) e e)))) (nd (o24 P) (nd (o40 P) (nd (o72 P) (nd (o136 P) (nd (o264 P) e e) e) (nd (o200 P) e e)) (nd (o104 P) (nd (o168 P) (nd (o296 P) e e) e) (nd (o232 P) e e))) (nd (o56 P) (nd (o88 P) (nd (o152 P) (nd (o280 P) e e) e) (nd (o216 P) e e)) (nd (o120 P) (nd (o184 P) e e) (nd (o248 P) e e))))) (nd (o12 P) (nd (o20 P) (nd (o36 P) (nd (o68 P) (nd (o132 P) (nd (o260 P) e e) e) (nd (o196 P) e e)) (nd (o100 P) (nd (o164 P) (nd (o292 P) e e) e) (nd (o228 P) e e))) (nd (o52 P) (nd (o84 P) (nd (o148 P) (nd (o276 P) e e) e) (nd (o212 P) e e)) (nd (o116 P) (nd (o180 P) (nd (o308 P) e e) e) (nd (o244 P) e e)))) (nd (o28 P) (nd (o44 P) (nd (o76 P) (nd (o140 P) (nd (o268 P) e e) e) (nd (o204 P) e e)) (nd (o108 P) (nd (o172 P) (nd (o300 P) e e) e) (nd (o236 P) e e))) (nd (o60 P) (nd (o92 P) (nd (o156 P) (nd (o284 P) e e) e) (nd (o220 P) e e)) (nd (o124 P) (nd (o188 P) e e) (nd (o252 P) e e)))))) (nd (PySem.W.boot_o_6 P) (nd (PySem.W.boot_o_10 P) (nd (o18 P) (nd (o34 P) (nd (o66 P) (nd (o130 P) (nd (o258 P) e e) e) (nd (o194 P) e e)) (nd (o98 P) (nd (o162 P) (nd (o290 P) e e) e) (nd (o226 P) e e))) (nd (o50 P) (nd (o82 P) (nd (o146 P) (nd (o274 P) e e) e) (nd (o210 P) e e)) (nd (o114 P) (nd (o178 P) (nd (o306 P) e e) e) (nd (o242 P) e e)))) (nd (o26 P) (nd (o42 P) (nd (o74 P) (nd (o138 P) (nd (o266 P) e e) e) (nd (o202 P) e e)) (nd (o106 P) (nd (o170 P) (nd (o298 P) e e) e) (nd (o234 P) e e))) (nd (o58 P) (nd (o90 P) (nd (o154 P) (nd (o282 P) e e) e) (nd (o218 P) e e)) (nd (o122 P) (nd (o186 P) e e) (nd (o250 P) e e))))) (nd (o14 P) (nd (o22 P) (nd (o38 P) (nd (o70 P) (nd (o134 P) (nd (o262 P) e e) e) (nd (o198 P) e e)) (nd (o102 P) (nd (o166 P) (nd (o294 P) e e) e) (nd (o230 P) e e))) (nd (o54 P) (nd (o86 P) (nd (o150 P) (nd (o278 P) e e) e) (nd (o214 P) e e)) (nd (o118 P) (nd (o182 P) (nd (o310 P) e e) e) (nd (o246 P) e e)))) (nd (o30 P) (nd (o46 P) (nd (o78 P) (nd (o142 P) (nd (o270 P) e e) e) (nd (o206 P) e e)) (nd (o110 P) (nd (o174 P) (nd (o302 P) e e) e) (nd (o238 P) e e))) (nd (o62 P) (nd (o94 P) (nd (o158 P) (nd (o286 P) e e) e) (nd (o222 P) e e)) (nd (o126 P) (nd (o190 P) e e) (nd (o254 P) e e))))))))
def HF (P : Params) : Heap := ⟨⟨[PySem.W.boot_o_0 P,PySem.W.boot_o_1 P,PySem.W.boot_o_2 P,o3 P,PySem.W.boot_o_4 P,PySem.W.boot_o_5 P,PySem.W.boot_o_6 P,PySem.W.boot_o_7 P,PySem.W.boot_o_8 P,PySem.W.boot_o_9 P,PySem.W.boot_o_10 P,o11 P,o12 P,o13 P,o14 P,o15 P,o16 P,o17 P,o18 P,o19 P,o20 P,o21 P,o22 P,o23 P,o24 P,o25 P,o26 P,o27 P,o28 P,o29 P,o30 P,o31 P,o32 P,o33 P,o34 P,o35 P,o36 P,o37 P,o38 P,o39 P,o40 P,o41 P,o42 P,o43 P,o44 P,o45 P,o46 P,o47 P,o48 P,o49 P,o50 P,o51 P,o52 P,o53 P,o54 P,o55 P,o56 P,o57 P,o58 P,o59 P,o60 P,o61 P,o62 P,o63 P,o64 P,o65 P,o66 P,o67 P,o68 P,o69 P,o70 P,o71 P,o72 P,o73 P,o74 P,o75 P,o76 P,o77 P,o78 P,o79 P,o80 P,o81 P,o82 P,o83 P,o84 P,o85 P,o86 P,o87 P,o88 P,o89 P,o90 P,o91 P,o92 P,o93 P,o94 P,o95 P,o96 P,o97 P,o98 P,o99 P,o100 P,o101 P,o102 P,o103 P,o104 P,o105 P,o106 P,o107 P,o108 P,o109 P,o110 P,o111 P,o112 P,o113 P,o114 P,o115 P,o116 P,o117 P,o118 P,o119 P,o120 P,o121 P,o122 P,o123 P,o124 P,o125 P,o126 P,o127 P,o128 P,o129 P,o130 P,o131 P,o132 P,o133 P,o134 P,o135 P,o136 P,o137 P,o138 P,o139 P,o140 P,o141 P,o142 P,o143 P,o144 P,o145 P,o146 P,o147 P,o148 P,o149 P,o150 P,o151 P,o152 P,o153 P,o154 P,o155 P,o156 P,o157 P,o158 P,o159 P,o160 P,o161 P,o162 P,o163 P,o164 P,o165 P,o166 P,o167 P,o168 P,o169 P,o170 P,o171 P,o172 P,o173 P,o174 P,o175 P,o176 P,o177 P,o178 P,o179 P,o180 P,o181 P,o182 P,o183 P,o184 P,o185 P,o186 P,o187 P,o188 P,o189 P,o190 P,o191 P,o192 P,o193 P,o194 P,o195 P,o196 P,o197 P,o198 P,o199 P,o200 P,o201 P,o202 P,o203 P,o204 P,o205 P,o206 P,o207 P,o208 P,o209 P,o210 P,o211 P,o212 P,o213 P,o214 P,o215 P,o216 P,o217 P,o218 P,o219 P,o220 P,o221 P,o222 P,o223 P,o224 P,o225 P,o226 P,o227 P,o228 P,o229 P,o230 P,o231 P,o232 P,o233 P,o234 P,o235 P,o236 P,o237 P,o238 P,o239 P,o240 P,o241 P,o242 P,o243 P,o244 P,o245 P,o246 P,o247 P,o248 P,o249 P,o250 P,o251 P,o252 P,o253 P,o254 P,o255 P,o256 P,o257 P,o258 P,o259 P,o260 P,o261 P,o262 P,o263 P,o264 P,o265 P,o266 P,o267 P,o268 P,o269 P,o270 P,o271 P,o272 P,o273 P,o274 P,o275 P,o276 P,o277 P,o278 P,o279 P,o280 P,o281 P,o282 P,o283 P,o284 P,o285 P,o286 P,o287 P,o288 P,o289 P,o290 P,o291 P,o292 P,o293 P,o294 P,o295 P,o296 P,o297 P,o298 P,o299 P,o300 P,o301 P,o302 P,o303 P,o304 P,o305 P,o306 P,o307 P,o308 P,o309 P,o310 P,o311 P]⟩,{}⟩
def K (P : Params) : Frag := (nat_lit 0,PySem.W.boot_o_0 P)::(nat_lit 1,PySem.W.boot_o_1 P)::(nat_lit 2,PySem.W.boot_o_2 P)::(nat_lit 3,o3 P)::(nat_lit 4,PySem.W.boot_o_4 P)::(nat_lit 5,PySem.W.boot_o_5 P)::(nat_lit 6,PySem.W.boot_o_6 P)::(nat_lit 7,PySem.W.boot_o_7 P)::(nat_lit 9,PySem.W.boot_o_9 P)::(nat_lit 10,PySem.W.boot_o_10 P)::(nat_lit 11,o11 P)::(nat_lit 12,o12 P)::(nat_lit 13,o13 P)::(nat_lit 14,o14 P)::(nat_lit 15,o15 P)::(nat_lit 22,o22 P)::(nat_lit 23,o23 P)::(nat_lit 24,o24 P)::(nat_lit 25,o25 P)::(nat_lit 28,o28 P)::(nat_lit 35,o35 P)::(nat_lit 36,o36 P)::(nat_lit 37,o37 P)::(nat_lit 40,o40 P)::(nat_lit 47,o47 P)::(nat_lit 48,o48 P)::(nat_lit 49,o49 P)::(nat_lit 52,o52 P)::(nat_lit 59,o59 P)::(nat_lit 60,o60 P)::(nat_lit 61,o61 P)::(nat_lit 64,o64 P)::(nat_lit 71,o71 P)::(nat_lit 72,o72 P)::(nat_lit 73,o73 P)::(nat_lit 76,o76 P)::(nat_lit 83,o83 P)::(nat_lit 84,o84 P)::(nat_lit 85,o85 P)::(nat_lit 88,o88 P)::(nat_lit 95,o95 P)::(nat_lit 96,o96 P)::(nat_lit 97,o97 P)::(nat_lit 100,o100 P)::(nat_lit 107,o107 P)::(nat_lit 108,o108 P)::(nat_lit 109,o109 P)::(nat_lit 112,o112 P)::(nat_lit 119,o119 P)::(nat_lit 120,o120 P)::(nat_lit 121,o121 P)::(nat_lit 124,o124 P)::(nat_lit 126,o126 P)::(nat_lit 127,o127 P)::(nat_lit 128,o128 P)::(nat_lit 129,o129 P)::(nat_lit 130,o130 P)::(nat_lit 131,o131 P)::(nat_lit 133,o133 P)::(nat_lit 134,o134 P)::(nat_lit 135,o135 P)::(nat_lit 136,o136 P)::(nat_lit 137,o137 P)::(nat_lit 138,o138 P)::(nat_lit 140,o140 P)::(nat_lit 141,o141 P)::(nat_lit 142,o142 P)::(nat_lit 143,o143 P)::(nat_lit 144,o144 P)::(nat_lit 145,o145 P)::(nat_lit 147,o147 P)::(nat_lit 148,o148 P)::(nat_lit 149,o149 P)::(nat_lit 150,o150 P)::(nat_lit 151,o151 P)::(nat_lit 152,o152 P)::(nat_lit 154,o154 P)::(nat_lit 155,o155 P)::(nat_lit 156,o156 P)::(nat_lit 157,o157 P)::(nat_lit 158,o158 P)::(nat_lit 159,o159 P)::(nat_lit 161,o161 P)::(nat_lit 162,o162 P)::(nat_lit 163,o163 P)::(nat_lit 164,o164 P)::(nat_lit 165,o165 P)::(nat_lit 166,o166 P)::(nat_lit 168,o168 P)::(nat_lit 169,o169 P)::(nat_lit 170,o170 P)::(nat_lit 171,o171 P)::(nat_lit 172,o172 P)::(nat_lit 173,o173 P)::(nat_lit 175,o175 P)::(nat_lit 176,o176 P)::(nat_lit 177,o177 P)::(nat_lit 178,o178 P)::(nat_lit 180,o180 P)::(nat_lit 181,o181 P)::(nat_lit 182,o182 P)::(nat_lit 183,o183 P)::(nat_lit 185,o185 P)::(nat_lit 186,o186 P)::(nat_lit 187,o187 P)::(nat_lit 188,o188 P)::(nat_lit 189,o189 P)::(nat_lit 190,o190 P)::(nat_lit 192,o192 P)::(nat_lit 193,o193 P)::(nat_lit 194,o194 P)::(nat_lit 195,o195 P)::(nat_lit 196,o196 P)::(nat_lit 197,o197 P)::(nat_lit 199,o199 P)::(nat_lit 200,o200 P)::(nat_lit 201,o201 P)::(nat_lit 202,o202 P)::(nat_lit 204,o204 P)::(nat_lit 205,o205 P)::(nat_lit 206,o206 P)::(nat_lit 207,o207 P)::(nat_lit 208,o208 P)::(nat_lit 209,o209 P)::(nat_lit 211,o211 P)::(nat_lit 212,o212 P)::(nat_lit 213,o213 P)::(nat_lit 214,o214 P)::(nat_lit 216,o216 P)::(nat_lit 217,o217 P)::(nat_lit 218,o218 P)::(nat_lit 219,o219 P)::(nat_lit 220,o220 P)::(nat_lit 221,o221 P)::(nat_lit 223,o223 P)::(nat_lit 224,o224 P)::(nat_lit 225,o225 P)::(nat_lit 226,o226 P)::(nat_lit 227,o227 P)::(nat_lit 228,o228 P)::(nat_lit 230,o230 P)::(nat_lit 231,o231 P)::(nat_lit 232,o232 P)::(nat_lit 233,o233 P)::(nat_lit 234,o234 P)::(nat_lit 235,o235 P)::(nat_lit 237,o237 P)::(nat_lit 238,o238 P)::(nat_lit 239,o239 P)::(nat_lit 240,o240 P)::(nat_lit 241,o241 P)::(nat_lit 242,o242 P)::(nat_lit 244,o244 P)::(nat_lit 245,o245 P)::(nat_lit 246,o246 P)::(nat_lit 247,o247 P)::(nat_lit 248,o248 P)::(nat_lit 249,o249 P)::(nat_lit 251,o251 P)::(nat_lit 252,o252 P)::(nat_lit 253,o253 P)::(nat_lit 254,o254 P)::(nat_lit 256,o256 P)::(nat_lit 257,o257 P)::(nat_lit 258,o258 P)::(nat_lit 259,o259 P)::(nat_lit 261,o261 P)::(nat_lit 262,o262 P)::(nat_lit 263,o263 P)::(nat_lit 264,o264 P)::(nat_lit 266,o266 P)::(nat_lit 267,o267 P)::(nat_lit 268,o268 P)::(nat_lit 269,o269 P)::(nat_lit 271,o271 P)::(nat_lit 272,o272 P)::(nat_lit 273,o273 P)::(nat_lit 274,o274 P)::(nat_lit 275,o275 P)::(nat_lit 276,o276 P)::(nat_lit 278,o278 P)::(nat_lit 279,o279 P)::(nat_lit 280,o280 P)::(nat_lit 281,o281 P)::(nat_lit 283,o283 P)::(nat_lit 284,o284 P)::(nat_lit 285,o285 P)::(nat_lit 286,o286 P)::(nat_lit 287,o287 P)::(nat_lit 288,o288 P)::(nat_lit 290,o290 P)::(nat_lit 291,o291 P)::(nat_lit 292,o292 P)::(nat_lit 293,o293 P)::(nat_lit 294,o294 P)::(nat_lit 295,o295 P)::(nat_lit 297,o297 P)::(nat_lit 298,o298 P)::(nat_lit 299,o299 P)::(nat_lit 300,o300 P)::(nat_lit 301,o301 P)::(nat_lit 302,o302 P)::(nat_lit 304,o304 P)::(nat_lit 305,o305 P)::(nat_lit 306,o306 P)::(nat_lit 307,o307 P)::(nat_lit 309,o309 P)::(nat_lit 310,o310 P)::(nat_lit 311,o311 P)::[]
def as : List Nat := [nat_lit 0,nat_lit 1,nat_lit 2,nat_lit 3,nat_lit 4,nat_lit 5,nat_lit 6,nat_lit 7,nat_lit 9,nat_lit 10,nat_lit 11,nat_lit 12,nat_lit 13,nat_lit 14,nat_lit 15,nat_lit 22,nat_lit 23,nat_lit 24,nat_lit 25,nat_lit 28,nat_lit 35,nat_lit 36,nat_lit 37,nat_lit 40,nat_lit 47,nat_lit 48,nat_lit 49,nat_lit 52,nat_lit 59,nat_lit 60,nat_lit 61,nat_lit 64,nat_lit 71,nat_lit 72,nat_lit 73,nat_lit 76,nat_lit 83,nat_lit 84,nat_lit 85,nat_lit 88,nat_lit 95,nat_lit 96,nat_lit 97,nat_lit 100,nat_lit 107,nat_lit 108,nat_lit 109,nat_lit 112,nat_lit 119,nat_lit 120,nat_lit 121,nat_lit 124,nat_lit 126,nat_lit 127,nat_lit 128,nat_lit 129,nat_lit 130,nat_lit 131,nat_lit 133,nat_lit 134,nat_lit 135,nat_lit 136,nat_lit 137,nat_lit 138,nat_lit 140,nat_lit 141,nat_lit 142,nat_lit 143,nat_lit 144,nat_lit 145,nat_lit 147,nat_lit 148,nat_lit 149,nat_lit 150,nat_lit 151,nat_lit 152,nat_lit 154,nat_lit 155,nat_lit 156,nat_lit 157,nat_lit 158,nat_lit 159,nat_lit 161,nat_lit 162,nat_lit 163,nat_lit 164,nat_lit 165,nat_lit 166,nat_lit 168,nat_lit 169,nat_lit 170,nat_lit 171,nat_lit 172,nat_lit 173,nat_lit 175,nat_lit 176,nat_lit 177,nat_lit 178,nat_lit 180,nat_lit 181,nat_lit 182,nat_lit 183,nat_lit 185,nat_lit 186,nat_lit 187,nat_lit 188,nat_lit 189,nat_lit 190,nat_lit 192,nat_lit 193,nat_lit 194,nat_lit 195,nat_lit 196,nat_lit 197,nat_lit 199,nat_lit 200,nat_lit 201,nat_lit 202,nat_lit 204,nat_lit 205,nat_lit 206,nat_lit 207,nat_lit 208,nat_lit 209,nat_lit 211,nat_lit 212,nat_lit 213,nat_lit 214,nat_lit 216,nat_lit 217,nat_lit 218,nat_lit 219,nat_lit 220,nat_lit 221,nat_lit 223,nat_lit 224,nat_lit 225,nat_lit 226,nat_lit 227,nat_lit 228,nat_lit 230,nat_lit 231,nat_lit 232,nat_lit 233,nat_lit 234,nat_lit 235,nat_lit 237,nat_lit 238,nat_lit 239,nat_lit 240,nat_lit 241,nat_lit 242,nat_lit 244,nat_lit 245,nat_lit 246,nat_lit 247,nat_lit 248,nat_lit 249,nat_lit 251,nat_lit 252,nat_lit 253,nat_lit 254,nat_lit 256,nat_lit 257,nat_lit 258,nat_lit 259,nat_lit 261,nat_lit 262,nat_lit 263,nat_lit 264,nat_lit 266,nat_lit 267,nat_lit 268,nat_lit 269,nat_lit 271,nat_lit 272,nat_lit 273,nat_lit 274,nat_lit 275,nat_lit 276,nat_lit 278,nat_lit 279,nat_lit 280,nat_lit 281,nat_lit 283,nat_lit 284,nat_lit 285,nat_lit 286,nat_lit 287,nat_lit 288,nat_lit 290,nat_lit 291,nat_lit 292,nat_lit 293,nat_lit 294,nat_lit 295,nat_lit 297,nat_lit 298,nat_lit 299,nat_lit 300,nat_lit 301,nat_lit 302,nat_lit 304,nat_lit 305,nat_lit 306,nat_lit 307,nat_lit 309,nat_lit 310,nat_lit 311]
def cut (n : Nat) (t : BT) : Nat → Nat → BT := BT.rec (motive := fun _ => Nat → Nat → BT) (fun _ _ => .nil) (fun v _ _ l r a b => cond (Nat.blt b n) (.node v (l (Nat.mul 2 a) (Nat.add a b)) (r (Nat.mul 2 a) (Nat.add (Nat.mul 2 a) b))) .nil) t
def HA (P : Params) : Heap := ⟨⟨[PySem.W.boot_o_0 P,PySem.W.boot_o_1 P,PySem.W.boot_o_2 P,PySem.W.boot_o_3 P,PySem.W.boot_o_4 P,PySem.W.boot_o_5 P,PySem.W.boot_o_6 P,PySem.W.boot_o_7 P,PySem.W.boot_o_8 P,PySem.W.boot_o_9 P,PySem.W.boot_o_10 P,o11 P,v12_0 P,o13 P,o14 P]⟩,{}⟩
def SA (w : World) (os : OsState) : Shared := ⟨HA w.params,⟨[]⟩,{},187,os⟩
def T1 (P : Params) : BT := ((cut 15 (TF P) 1 0).set 3 fun _ => PySem.W.boot_o_3 P).set 12 fun _ => v12_0 P
def S1 (w : World) (os : OsState) : SharedT := ⟨T1 w.params,15,{},⟨[]⟩,{},187,os⟩
def T2 (P : Params) : BT := (((cut 28 (TF P) 1 0).set 3 fun _ => v3_1 P).set 12 fun _ => v12_2 P).set 24 fun _ => v24_3 P
def S2 (w : World) (os : OsState) : SharedT := ⟨T2 w.params,28,{},⟨[]⟩,{},207,os⟩
def T3 (P : Params) : BT := (((cut 40 (TF P) 1 0).set 3 fun _ => v3_4 P).set 12 fun _ => v12_5 P).set 24 fun _ => v24_6 P
def S3 (w : World) (os : OsState) : SharedT := ⟨T3 w.params,40,{},⟨[]⟩,{},223,os⟩
def T4 (P : Params) : BT := (((cut 52 (TF P) 1 0).set 3 fun _ => v3_7 P).set 12 fun _ => v12_8 P).set 24 fun _ => v24_9 P
def S4 (w : World) (os : OsState) : SharedT := ⟨T4 w.params,52,{},⟨[]⟩,{},239,os⟩
def T5 (P : Params) : BT := (((cut 64 (TF P) 1 0).set 3 fun _ => v3_10 P).set 12 fun _ => v12_11 P).set 24 fun _ => v24_12 P
def S5 (w : World) (os : OsState) : SharedT := ⟨T5 w.params,64,{},⟨[]⟩,{},255,os⟩
def T6 (P : Params) : BT := (((cut 76 (TF P) 1 0).set 3 fun _ => v3_13 P).set 12 fun _ => v12_14 P).set 24 fun _ => v24_15 P
def S6 (w : World) (os : OsState) : SharedT := ⟨T6 w.params,76,{},⟨[]⟩,{},271,os⟩
def T7 (P : Params) : BT := (((cut 88 (TF P) 1 0).set 3 fun _ => v3_16 P).set 12 fun _ => v12_17 P).set 24 fun _ => v24_18 P
def S7 (w : World) (os : OsState) : SharedT := ⟨T7 w.params,88,{},⟨[]⟩,{},287,os⟩
def T8 (P : Params) : BT := (((cut 100 (TF P) 1 0).set 3 fun _ => v3_19 P).set 12 fun _ => v12_20 P).set 24 fun _ => v24_21 P
def S8 (w : World) (os : OsState) : SharedT := ⟨T8 w.params,100,{},⟨[]⟩,{},303,os⟩
def T9 (P : Params) : BT := (((cut 112 (TF P) 1 0).set 3 fun _ => v3_22 P).set 12 fun _ => v12_23 P).set 24 fun _ => v24_24 P
def S9 (w : World) (os : OsState) : SharedT := ⟨T9 w.params,112,{},⟨[]⟩,{},319,os⟩
def T10 (P : Params) : BT := ((cut 159 (TF P) 1 0).set 3 fun _ => v3_25 P).set 12 fun _ => v12_26 P
def S10 (w : World) (os : OsState) : SharedT := ⟨T10 w.params,159,{},⟨[]⟩,{},388,os⟩
def T11 (P : Params) : BT := ((cut 235 (TF P) 1 0).set 3 fun _ => v3_27 P).set 12 fun _ => v12_28 P
def S11 (w : World) (os : OsState) : SharedT := ⟨T11 w.params,235,{},⟨[]⟩,{},497,os⟩
def T12 (P : Params) : BT := cut 312 (TF P) 1 0
def S12 (w : World) (os : OsState) : SharedT := ⟨T12 w.params,312,{},⟨[]⟩,{},600,os⟩
def SF (w : World) (os : OsState) : Shared := ⟨HF w.params,⟨[]⟩,{},600,os⟩
def ann : Option Value := some (.ref 6)
def env : Env := { scope := pwL.main.scope,locals := mainNs,globals := mainNs,cells := [],code := .ref 13,frame := some 14 }
def cE : Code := .body (behindTheImports pwL) env
abbrev BB : List Frame := [topFrame ⟨0,0,0,0⟩]
def q : Program := { pwL with main := { pwL.main with body := [topF 1,topF 2,topF 3,topF 4,topF 5,topF 6,topF 7,topF 8,topF 9,topF 11,topF 13,topF 14,topF 16,topF 17,topF 18,topF 19,topF 20,topF 21,topF 23,topF 24,topF 25,topF 26,topF 27,topF 28,topF 30,topF 31,topF 32,topF 33,topF 34,topF 35,topF 36,topF 37,topF 38,topF 39,topF 40,topF 41,topF 42,topF 43,topF 44,topF 45] } }
theorem warm2 : ((fun (_ : Env) (_ : Code) (_ : Program) => true) env cE q) = true := by k_qdec
theorem a0 : @segRunT = PySem.W.Fast.tw10110043849684766642 := PySem.W.Fast.te10110043849684766642
theorem a1 : @treeTable = PySem.W.Fast.tw14364793385576792824 := PySem.W.Fast.te14364793385576792824
theorem a2 : @topGo = PySem.W.Fast.tw15667345088766844465 := PySem.W.Fast.te15667345088766844465
theorem a3 : @topRun = PySem.W.Fast.tw14082659384304107361 := PySem.W.Fast.te14082659384304107361
theorem a4 : @segRun = PySem.W.Fast.tw14374325043358763698 := PySem.W.Fast.te14374325043358763698
theorem a5 : @denote = PySem.W.Fast.tw11892475500146522536 := PySem.W.Fast.te11892475500146522536
theorem a6 : @cE = PySem.W.Fast.tw8488196105387611448 := PySem.W.Fast.te8488196105387611448
theorem a7 : @env = PySem.W.Fast.tw15278515997388309795 := PySem.W.Fast.te15278515997388309795
theorem a8 : @q = PySem.W.Fast.tw3722128870819850611 := PySem.W.Fast.te3722128870819850611
theorem a9 : @pwL = PySem.W.Fast.tw9305945380606781095 := PySem.W.Fast.te9305945380606781095
theorem a10 : @topF = PySem.W.Fast.tw6882028288842131437 := PySem.W.Fast.te6882028288842131437
theorem a11 : @importedModules = PySem.W.Fast.tw5923862056798008813 := PySem.W.Fast.te5923862056798008813
theorem a12 : @openSeen = PySem.W.Fast.tw4187177175401517315 := PySem.W.Fast.te4187177175401517315
theorem a13 : @Heap.nsMap = PySem.W.Fast.tw8920871248978507458 := PySem.W.Fast.te8920871248978507458
set_option maxHeartbeats 0
theorem pre (w : World) (os : OsState) : topGo treeTable pwL w 11 ann 12 ⟨boot_heap w.params,⟨[]⟩,boot_drawn,boot_toks,os⟩ (topStub pwL) = some (SA w os,⟨denote treeTable cE,cE,⟨0,0,0,0⟩,BB⟩) := by
  (try rw [a0]);(try rw [a1]);(try rw [a2]);(try rw [a3]);(try rw [a4]);(try rw [a5]);(try rw [a6]);(try rw [a7]);(try rw [a8]);(try rw [a9]);(try rw [a10]); kernel_rfl
theorem blk (w : World) (os : OsState) : segRun treeTable pwL w 11 ann 1 1 (SA w os) (blockOf (behindTheImports pwL) env cE ⟨0,0,0,0⟩ BB) = some (.next,(S1 w os).abs,cE,⟨0,0,0,0⟩) := by
  (try rw [a0]);(try rw [a1]);(try rw [a2]);(try rw [a3]);(try rw [a4]);(try rw [a5]);(try rw [a6]);(try rw [a7]);(try rw [a8]);(try rw [a9]);(try rw [a10]); kernel_rfl
abbrev c1 : List Stmt := [topF 0,topF 1]
theorem p1 (w : World) (os : OsState) : segRunT treeTable pwL w 11 ann 1 196 (S1 w os) (piecesOf c1 env cE ⟨0,0,0,0⟩ BB) = some (.next,S2 w os,cE,⟨2,0,3,8⟩) := by
  unfold c1; (try rw [a0]);(try rw [a1]);(try rw [a2]);(try rw [a3]);(try rw [a4]);(try rw [a5]);(try rw [a6]);(try rw [a7]);(try rw [a8]);(try rw [a9]);(try rw [a10]); kernel_rfl
abbrev c2 : List Stmt := [topF 2]
theorem p2 (w : World) (os : OsState) : segRunT treeTable pwL w 11 ann 1 214 (S2 w os) (piecesOf c2 env cE ⟨2,0,3,8⟩ BB) = some (.next,S3 w os,cE,⟨4,0,5,8⟩) := by
  unfold c2; (try rw [a0]);(try rw [a1]);(try rw [a2]);(try rw [a3]);(try rw [a4]);(try rw [a5]);(try rw [a6]);(try rw [a7]);(try rw [a8]);(try rw [a9]);(try rw [a10]); kernel_rfl
abbrev c3 : List Stmt := [topF 3]
theorem p3 (w : World) (os : OsState) : segRunT treeTable pwL w 11 ann 1 214 (S3 w os) (piecesOf c3 env cE ⟨4,0,5,8⟩ BB) = some (.next,S4 w os,cE,⟨6,0,7,8⟩) := by
  unfold c3; (try rw [a0]);(try rw [a1]);(try rw [a2]);(try rw [a3]);(try rw [a4]);(try rw [a5]);(try rw [a6]);(try rw [a7]);(try rw [a8]);(try rw [a9]);(try rw [a10]); kernel_rfl
abbrev c4 : List Stmt := [topF 4]
theorem p4 (w : World) (os : OsState) : segRunT treeTable pwL w 11 ann 1 214 (S4 w os) (piecesOf c4 env cE ⟨6,0,7,8⟩ BB) = some (.next,S5 w os,cE,⟨8,0,9,8⟩) := by
  unfold c4; (try rw [a0]);(try rw [a1]);(try rw [a2]);(try rw [a3]);(try rw [a4]);(try rw [a5]);(try rw [a6]);(try rw [a7]);(try rw [a8]);(try rw [a9]);(try rw [a10]); kernel_rfl
abbrev c5 : List Stmt := [topF 5]
theorem p5 (w : World) (os : OsState) : segRunT treeTable pwL w 11 ann 1 214 (S5 w os) (piecesOf c5 env cE ⟨8,0,9,8⟩ BB) = some (.next,S6 w os,cE,⟨10,0,11,8⟩) := by
  unfold c5; (try rw [a0]);(try rw [a1]);(try rw [a2]);(try rw [a3]);(try rw [a4]);(try rw [a5]);(try rw [a6]);(try rw [a7]);(try rw [a8]);(try rw [a9]);(try rw [a10]); kernel_rfl
abbrev c6 : List Stmt := [topF 6]
theorem p6 (w : World) (os : OsState) : segRunT treeTable pwL w 11 ann 1 214 (S6 w os) (piecesOf c6 env cE ⟨10,0,11,8⟩ BB) = some (.next,S7 w os,cE,⟨12,0,13,8⟩) := by
  unfold c6; (try rw [a0]);(try rw [a1]);(try rw [a2]);(try rw [a3]);(try rw [a4]);(try rw [a5]);(try rw [a6]);(try rw [a7]);(try rw [a8]);(try rw [a9]);(try rw [a10]); kernel_rfl
abbrev c7 : List Stmt := [topF 7]
theorem p7 (w : World) (os : OsState) : segRunT treeTable pwL w 11 ann 1 214 (S7 w os) (piecesOf c7 env cE ⟨12,0,13,8⟩ BB) = some (.next,S8 w os,cE,⟨14,0,15,8⟩) := by
  unfold c7; (try rw [a0]);(try rw [a1]);(try rw [a2]);(try rw [a3]);(try rw [a4]);(try rw [a5]);(try rw [a6]);(try rw [a7]);(try rw [a8]);(try rw [a9]);(try rw [a10]); kernel_rfl
abbrev c8 : List Stmt := [topF 8]
theorem p8 (w : World) (os : OsState) : segRunT treeTable pwL w 11 ann 1 214 (S8 w os) (piecesOf c8 env cE ⟨14,0,15,8⟩ BB) = some (.next,S9 w os,cE,⟨16,0,17,8⟩) := by
  unfold c8; (try rw [a0]);(try rw [a1]);(try rw [a2]);(try rw [a3]);(try rw [a4]);(try rw [a5]);(try rw [a6]);(try rw [a7]);(try rw [a8]);(try rw [a9]);(try rw [a10]); kernel_rfl
abbrev c9 : List Stmt := [topF 9,topF 10,topF 11,topF 12,topF 13,topF 14,topF 15,topF 16,topF 17]
theorem p9 (w : World) (os : OsState) : segRunT treeTable pwL w 11 ann 1 398 (S9 w os) (piecesOf c9 env cE ⟨16,0,17,8⟩ BB) = some (.next,S10 w os,cE,⟨45,0,46,42⟩) := by
  unfold c9; (try rw [a0]);(try rw [a1]);(try rw [a2]);(try rw [a3]);(try rw [a4]);(try rw [a5]);(try rw [a6]);(try rw [a7]);(try rw [a8]);(try rw [a9]);(try rw [a10]); kernel_rfl
abbrev c10 : List Stmt := [topF 18,topF 19,topF 20,topF 21,topF 22,topF 23,topF 24,topF 25,topF 26,topF 27,topF 28,topF 29,topF 30,topF 31,topF 32]
theorem p10 (w : World) (os : OsState) : segRunT treeTable pwL w 11 ann 1 387 (S10 w os) (piecesOf c10 env cE ⟨45,0,46,42⟩ BB) = some (.next,S11 w os,cE,⟨105,0,106,75⟩) := by
  unfold c10; (try rw [a0]);(try rw [a1]);(try rw [a2]);(try rw [a3]);(try rw [a4]);(try rw [a5]);(try rw [a6]);(try rw [a7]);(try rw [a8]);(try rw [a9]);(try rw [a10]); kernel_rfl
abbrev c11 : List Stmt := [topF 33,topF 34,topF 35,topF 36,topF 37,topF 38,topF 39,topF 40,topF 41,topF 42,topF 43,topF 44,topF 45]
theorem p11 (w : World) (os : OsState) : segRunT treeTable pwL w 11 ann 1 376 (S11 w os) (piecesOf c11 env cE ⟨105,0,106,75⟩ BB) = some (.next,S12 w os,cE,⟨190,0,212,87⟩) := by
  unfold c11; (try rw [a0]);(try rw [a1]);(try rw [a2]);(try rw [a3]);(try rw [a4]);(try rw [a5]);(try rw [a6]);(try rw [a7]);(try rw [a8]);(try rw [a9]);(try rw [a10]); kernel_rfl
theorem fin (w : World) (os : OsState) : topRun treeTable pwL w 11 ann 2 (S12 w os).abs ⟨doneF .next,cE,⟨190,0,212,87⟩,BB⟩ = some (SF w os) := by
  (try rw [a0]);(try rw [a1]);(try rw [a2]);(try rw [a3]);(try rw [a4]);(try rw [a5]);(try rw [a6]);(try rw [a7]);(try rw [a8]);(try rw [a9]);(try rw [a10]); kernel_rfl
theorem body : behindTheImports pwL = c1 ++ (c2 ++ (c3 ++ (c4 ++ (c5 ++ (c6 ++ (c7 ++ (c8 ++ (c9 ++ (c10 ++ (c11 ++ ([]))))))))))) := by
  (try rw [a6]);(try rw [a7]);(try rw [a8]);(try rw [a9]);(try rw [a10]); kernel_rfl
theorem run (w : World) (os : OsState) : topRun treeTable pwL w 11 ann (12 + (1 + (196 + (214 + (214 + (214 + (214 + (214 + (214 + (214 + (398 + (387 + (376 + (2)))))))))))))) ⟨boot_heap w.params,⟨[]⟩,boot_drawn,boot_toks,os⟩ (topStub pwL) = some (SF w os) :=
  go_top (pre w os) (piece_block (blk w os) (by rw [body]; exact piece_app (segRun_of (p1 w os)) (piece_app (segRun_of (p2 w os)) (piece_app (segRun_of (p3 w os)) (piece_app (segRun_of (p4 w os)) (piece_app (segRun_of (p5 w os)) (piece_app (segRun_of (p6 w os)) (piece_app (segRun_of (p7 w os)) (piece_app (segRun_of (p8 w os)) (piece_app (segRun_of (p9 w os)) (piece_app (segRun_of (p10 w os)) (piece_app (segRun_of (p11 w os)) (piece_nil (fin w os))))))))))))))
theorem size (w : World) : ((boot_heap w.params).isNs mainGlobals && (Array.mk ([] : List GenState)).size == 0,(boot_heap w.params).objs.size,(boot_heap w.params).nsMap mainGlobals "__annotations__") = (true,11,ann) := by
  (try rw [a11]);(try rw [a12]);(try rw [a13]); kernel_rfl
abbrev Xt (s : Shared) : Bool := xlAt q [] s && recOk [] s
theorem lk1 (w : World) (os : OsState) : (staticsOk (importedModules pwL.main.body) (boot_heap w.params) (HF w.params) && namesBound pwL (HF w.params) && gensDone (SF w os) && laidKept (boot_heap w.params) (HF w.params)) = true := by
  (try rw [a11]);(try rw [a12]);(try rw [a13]);(try rw [a6]);(try rw [a7]);(try rw [a8]);(try rw [a9]);(try rw [a10]); kernel_rfl
theorem lk2 (w : World) (os : OsState) : openSeen q [] (importedModules pwL.main.body) Xt true (SF w os) = openGood q [] := by
  (try rw [a11]);(try rw [a12]);(try rw [a13]);(try rw [a6]);(try rw [a7]);(try rw [a8]);(try rw [a9]);(try rw [a10]); kernel_rfl
theorem lk3 (w : World) (os : OsState) : PySem.W.X.obsZ as (SF w os) = PySem.W.X.valZ K 312 600 w := by
  (try rw [a11]);(try rw [a12]);(try rw [a13]);(try rw [a6]);(try rw [a7]);(try rw [a8]);(try rw [a9]);(try rw [a10]); kernel_rfl
theorem imports : opening pwL = plainProg pwL.main.scope.names := by kernel_rfl
theorem left : LeftO pwL q [] Xt (PySem.W.X.obsZ as) (PySem.W.X.valZ K 312 600) 5814 :=
  LeftO.of_pieces (boot_open imports (by rfl) (fun s => by kernel_rfl)) size run (by rfl) fun w => funext fun os => looks_pair (lk1 w os) (looks_pair (lk2 w os) (lk3 w os))
end
end H
end K39
open PySem PySem.W PyProof.Rows
set_option maxRecDepth 100000 in
set_option maxHeartbeats 0 in
theorem PySem.Challenge.cw_nextbyrule_k39_rows_from_a_place_on_holds : PySem.Challenge.rw_nextbyrule_k39_rows_from_a_place_on.Holds := by
  change K39.rwL.Holds
  w_on; o_law; rename_i said
  refine holds_openX (d := ?d) (kwd := ?kwd) K39.H.left (fun s h => xl_of s (Bool.and_eq_true_iff.mp h).1) XL.keeps (by rfl) (by rfl) (by rfl) (fun s h => recFacts_of (Bool.and_eq_true_iff.mp h).2) (by rfl) said (by decide +kernel) ⟨rfl,rfl,rfl,rfl,rfl,by decide +kernel⟩ ?hw ?hc
  case hw => w_witness2
  k_fill
  refine L2.walkX_of (fun _ => by kernel_rfl) ?_
  refine L2.walk_ofT "_law_all_refused" (l := K39.rwL) (n := 63) (k := K39.KLAW) (x := "_law_script") (CX := fun w => L2.Flown K39.rwL.prog w) (sp := fun _ T => K39.spLawT _ T) rfl (by decide) rfl ⟨rfl,by decide,by decide⟩ (fun w h Y => Y) (by kernel_rfl) (fun _ => by kernel_rfl) ?F (fun w T H a ns hl hb hT hS => ⟨a,ns,rfl,hS,hl,hb,hT,fun _ => rfl⟩) (fun _ _ _ _ _ z => L2.flown_none z)
  case F =>
    intro w mg fa h KX G hmg
    refine' K39.all_mk KX G hmg ?F0 ?F1 ?F2 ?F3 ?F4 ?F5 ?F6 ?F7 ?F8 ?F9 ?F10 ?F11 ?F12 ?F13 ?F14 ?F15 ?F16 ?F17 ?F18 ?F19 ?F20 ?F21 ?F22 ?F23 ?F24 ?F25 ?F26 ?F27 ?F28 ?FL ?z_ValueError ?z_bool ?z_int ?z_isinstance ?z_len ?z_list ?z_max ?z_range ?z_sum ?z_tuple ?g_FARTHEST_BY_0 ?n_NoBy ?n_NoName ?n_NoNumber ?n_NoRow ?n_NoText ?n_RuleError ?n_TooBig ?n_TooFar ?n_TooLong ?q_TooFar ?u_TooFar_RuleError ?v_TooFar_RuleError ?w1_TooFar ?w2_TooFar ?w3_TooFar ?w4_TooFar ?w5_TooFar ?w6_TooFar ?k_TooFar_NoBy ?k_TooFar_NoName ?k_TooFar_NoNumber ?k_TooFar_NoRow ?k_TooFar_NoText ?k_TooFar_RuleError ?k_TooFar_TooBig ?k_TooFar_TooFar ?k_TooFar_TooLong ?k_TooFar_ValueError
    (case F0 => (refine' L2.fnIn_mk ?a ?l ?c ?k; (case a => k_is); (case l => k_is); (case c => k_is); (case k => k_is)))
    (case F1 => (refine' L2.fnIn_mk ?a ?l ?c ?k; (case a => k_is); (case l => k_is); (case c => k_is); (case k => k_is)))
    (case F2 => (refine' L2.fnIn_mk ?a ?l ?c ?k; (case a => k_is); (case l => k_is); (case c => k_is); (case k => k_is)))
    (case F3 => (refine' L2.fnIn_mk ?a ?l ?c ?k; (case a => k_is); (case l => k_is); (case c => k_is); (case k => k_is)))
    (case F4 => (refine' L2.fnIn_mk ?a ?l ?c ?k; (case a => k_is); (case l => k_is); (case c => k_is); (case k => k_is)))
    (case F5 => (refine' L2.fnIn_mk ?a ?l ?c ?k; (case a => k_is); (case l => k_is); (case c => k_is); (case k => k_is)))
    (case F6 => (refine' L2.fnIn_mk ?a ?l ?c ?k; (case a => k_is); (case l => k_is); (case c => k_is); (case k => k_is)))
    (case F7 => (refine' L2.fnIn_mk ?a ?l ?c ?k; (case a => k_is); (case l => k_is); (case c => k_is); (case k => k_is)))
    (case F8 => (refine' L2.fnIn_mk ?a ?l ?c ?k; (case a => k_is); (case l => k_is); (case c => k_is); (case k => k_is)))
    (case F9 => (refine' L2.fnIn_mk ?a ?l ?c ?k; (case a => k_is); (case l => k_is); (case c => k_is); (case k => k_is)))
    (case F10 => (refine' L2.fnIn_mk ?a ?l ?c ?k; (case a => k_is); (case l => k_is); (case c => k_is); (case k => k_is)))
    (case F11 => (refine' L2.fnIn_mk ?a ?l ?c ?k; (case a => k_is); (case l => k_is); (case c => k_is); (case k => k_is)))
    (case F12 => (refine' L2.fnIn_mk ?a ?l ?c ?k; (case a => k_is); (case l => k_is); (case c => k_is); (case k => k_is)))
    (case F13 => (refine' L2.fnIn_mk ?a ?l ?c ?k; (case a => k_is); (case l => k_is); (case c => k_is); (case k => k_is)))
    (case F14 => (refine' L2.fnIn_mk ?a ?l ?c ?k; (case a => k_is); (case l => k_is); (case c => k_is); (case k => k_is)))
    (case F15 => (refine' L2.fnIn_mk ?a ?l ?c ?k; (case a => k_is); (case l => k_is); (case c => k_is); (case k => k_is)))
    (case F16 => (refine' L2.fnIn_mk ?a ?l ?c ?k; (case a => k_is); (case l => k_is); (case c => k_is); (case k => k_is)))
    (case F17 => (refine' L2.fnIn_mk ?a ?l ?c ?k; (case a => k_is); (case l => k_is); (case c => k_is); (case k => k_is)))
    (case F18 => (refine' L2.fnIn_mk ?a ?l ?c ?k; (case a => k_is); (case l => k_is); (case c => k_is); (case k => k_is)))
    (case F19 => (refine' L2.fnIn_mk ?a ?l ?c ?k; (case a => k_is); (case l => k_is); (case c => k_is); (case k => k_is)))
    (case F20 => (refine' L2.fnIn_mk ?a ?l ?c ?k; (case a => k_is); (case l => k_is); (case c => k_is); (case k => k_is)))
    (case F21 => (refine' L2.fnIn_mk ?a ?l ?c ?k; (case a => k_is); (case l => k_is); (case c => k_is); (case k => k_is)))
    (case F22 => (refine' L2.fnIn_mk ?a ?l ?c ?k; (case a => k_is); (case l => k_is); (case c => k_is); (case k => k_is)))
    (case F23 => (refine' L2.fnIn_mk ?a ?l ?c ?k; (case a => k_is); (case l => k_is); (case c => k_is); (case k => k_is)))
    (case F24 => (refine' L2.fnIn_mk ?a ?l ?c ?k; (case a => k_is); (case l => k_is); (case c => k_is); (case k => k_is)))
    (case F25 => (refine' L2.fnIn_mk ?a ?l ?c ?k; (case a => k_is); (case l => k_is); (case c => k_is); (case k => k_is)))
    (case F26 => (refine' L2.fnIn_mk ?a ?l ?c ?k; (case a => k_is); (case l => k_is); (case c => k_is); (case k => k_is)))
    (case F27 => (refine' L2.fnIn_mk ?a ?l ?c ?k; (case a => k_is); (case l => k_is); (case c => k_is); (case k => k_is)))
    (case F28 => (refine' L2.fnIn_mk ?a ?l ?c ?k; (case a => k_is); (case l => k_is); (case c => k_is); (case k => k_is)))
    (case FL => (refine' L2.fnIn_mk ?a ?l ?c ?k; (case a => k_is); (case l => k_is); (case c => k_is); (case k => k_is)))
    (case z_ValueError => k_is)
    (case z_bool => k_is)
    (case z_int => k_is)
    (case z_isinstance => k_is)
    (case z_len => k_is)
    (case z_list => k_is)
    (case z_max => k_is)
    (case z_range => k_is)
    (case z_sum => k_is)
    (case z_tuple => k_is)
    (case g_FARTHEST_BY_0 => exact ⟨_,by k_is⟩)
    (case n_NoBy => k_is)
    (case n_NoName => k_is)
    (case n_NoNumber => k_is)
    (case n_NoRow => k_is)
    (case n_NoText => k_is)
    (case n_RuleError => k_is)
    (case n_TooBig => k_is)
    (case n_TooFar => k_is)
    (case n_TooLong => k_is)
    (case q_TooFar => k_exc)
    (case u_TooFar_RuleError => kernel_rfl)
    (case v_TooFar_RuleError => kernel_rfl)
    (case w1_TooFar => k_is)
    (case w2_TooFar => k_is)
    (case w3_TooFar => k_is)
    (case w4_TooFar => k_is)
    (case w5_TooFar => k_is)
    (case w6_TooFar => kernel_rfl)
    (case k_TooFar_NoBy => kit_is)
    (case k_TooFar_NoName => kit_is)
    (case k_TooFar_NoNumber => kit_is)
    (case k_TooFar_NoRow => kit_is)
    (case k_TooFar_NoText => kit_is)
    (case k_TooFar_RuleError => kit_is)
    (case k_TooFar_TooBig => kit_is)
    (case k_TooFar_TooFar => kit_is)
    (case k_TooFar_TooLong => kit_is)
    (case k_TooFar_ValueError => kit_is)
