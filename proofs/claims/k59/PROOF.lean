import PyProof.Rows.All
import Wide.All
import OpenK.AllK
import Wide.FinOn
import Lean
import PyProof.EqAt
import PyProof.EqKinds
import PyProof.TupleCall
import PySem.Challenge.RW_nextbyrule_k59_whole_far_places_come_rou
local macro_rules | `(tactic| omega) => `(tactic| lia)
set_option Elab.async false
set_option linter.all false
set_option maxRecDepth 100000
namespace L2
open PySem PySem.Spec PyProof.Rows
noncomputable abbrev Key := Sum Int Str
noncomputable def keyIs : Key → Value → Bool
  | .inl k,v => Value.isInt k v
  | .inr x,v => Value.isStrOf x v
noncomputable def keyH (w : World) : Key → Int
  | .inl k => hashInt k
  | .inr x => hashStr w x
theorem keyIs_shape : ∀ {k : Key} {v : Value},keyIs k v = true → (∃ i t,k = Sum.inl i ∧ v = Value.int i t) ∨ (∃ x t,k = Sum.inr x ∧ v = Value.str x t)
  | .inl i,v,h => by
    obtain ⟨t,e⟩ := Value.isInt_shape (k := i) (v := v) h
    exact .inl ⟨i,t,rfl,e⟩
  | .inr x,v,h => by
    obtain ⟨t,e⟩ := Value.isStrOf_shape (x := x) (v := v) h
    exact .inr ⟨x,t,rfl,e⟩
theorem keyIs_int (i : Int) (t : Tok) : keyIs (.inl i) (.int i t) = true := by simp [keyIs,Value.isInt]
theorem keyIs_str (x : Str) (t : Tok) : keyIs (.inr x) (.str x t) = true := by simp [keyIs,Value.isStrOf]
theorem key_ll (a b : Int) : decide ((Sum.inl a : Key) = Sum.inl b) = (a == b) := by
  by_cases e : a = b
  · subst e; simp
  · have h : ¬ (Sum.inl a : Key) = Sum.inl b := fun q => e (Sum.inl.inj q)
    rw [decide_eq_false h]
    exact (beq_eq_false_iff_ne.mpr e).symm
theorem key_rr (a b : Str) : decide ((Sum.inr a : Key) = Sum.inr b) = decide (a = b) := by
  by_cases e : a = b
  · subst e; simp
  · have h : ¬ (Sum.inr a : Key) = Sum.inr b := fun q => e (Sum.inr.inj q)
    rw [decide_eq_false h,decide_eq_false e]
theorem key_lr (a : Int) (b : Str) : decide ((Sum.inl a : Key) = Sum.inr b) = false := decide_eq_false (fun q => nomatch q)
theorem key_rl (a : Str) (b : Int) : decide ((Sum.inr a : Key) = Sum.inl b) = false := decide_eq_false (fun q => nomatch q)
noncomputable def mixKind (prog : Program) (w : World) : PySem.KeyKind prog w Key where
  is := keyIs
  hash := keyH w
  inj := fun v a b ha hb => by
    rcases keyIs_shape ha with ⟨i,t,rfl,rfl⟩ | ⟨x,t,rfl,rfl⟩
    · rcases keyIs_shape hb with ⟨j,u,rfl,e⟩ | ⟨y,u,rfl,e⟩
      · injection e with e1 _; rw [e1]
      · exact nomatch e
    · rcases keyIs_shape hb with ⟨j,u,rfl,e⟩ | ⟨y,u,rfl,e⟩
      · exact nomatch e
      · injection e with e1 _; rw [e1]
  byValue := fun k v h => by
    rcases keyIs_shape h with ⟨i,t,rfl,rfl⟩ | ⟨x,t,rfl,rfl⟩ <;> rfl
  pyHash := fun hv h => by
    rcases keyIs_shape hv with ⟨i,t,rfl,rfl⟩ | ⟨x,t,rfl,rfl⟩
    · exact wpAny_pyHash_int h
    · exact wpAny_pyHash_str h
  eqBool := fun hu hv h => by
    rcases keyIs_shape hu with ⟨i,t,rfl,rfl⟩ | ⟨x,t,rfl,rfl⟩
    · rcases keyIs_shape hv with ⟨j,u,rfl,rfl⟩ | ⟨y,u,rfl,rfl⟩
      · rw [key_ll] at h; exact wpAny_eqBool_int h
      · rw [key_lr] at h; exact SeqAt.EqAt.int_str i t y u _ _ _ _ h
    · rcases keyIs_shape hv with ⟨j,u,rfl,rfl⟩ | ⟨y,u,rfl,rfl⟩
      · rw [key_rl] at h; exact SeqAt.EqAt.str_int x t j u _ _ _ _ h
      · rw [key_rr] at h; exact wpAny_eqBool_str h
  «strs» := fun k x t v h => by
    rcases keyIs_shape h with ⟨i,u,rfl,e⟩ | ⟨y,u,rfl,e⟩
    · exact nomatch e
    · injection e with e1 _
      subst e1
      cases v <;> rfl
theorem mixKind_int (prog : Program) (w : World) (i : Int) (t : Tok) : (mixKind prog w).is (.inl i) (.int i t) = true := keyIs_int i t
theorem mixKind_str (prog : Program) (w : World) (x : Str) (t : Tok) : (mixKind prog w).is (.inr x) (.str x t) = true := keyIs_str x t
end L2
namespace L2
open PySem PySem.Spec PyProof.Rows
inductive V where
  | non | bl (b : Bool) | int (i : Int) | str (x : Str) | byt (b : Array UInt8) | flt (b : UInt64) | ref (a : Addr) | ty (n : String)
  deriving DecidableEq
noncomputable def RelV : V → Value → Prop
  | .non,u => u = Value.none
  | .bl b,u => u = Value.bool b
  | .int i,u => ∃ t,u = Value.int i t
  | .str x,u => ∃ t,u = Value.str x t
  | .byt b,u => ∃ t,u = Value.bytes b t
  | .flt b,u => ∃ t,u = Value.float b t
  | .ref a,u => u = Value.ref a
  | .ty n,u => u = Value.type n
noncomputable abbrev Vals : List V → List Value → Prop := Paired RelV
theorem Vals.length {xs : List V} {us : List Value} (r : Vals xs us) : xs.length = us.length := Paired.length r
theorem Vals.get : ∀ {xs : List V} {us : List Value} {i : Nat} {x : V},Vals xs us → xs[i]? = some x → ∃ u,us[i]? = some u ∧ RelV x u
  | _,_,_,_,.nil,e => by simp at e
  | _,_,0,_,.cons r _,e => by simp at e; subst e; exact ⟨_,rfl,r⟩
  | _,_,i + 1,x,.cons _ t,e => by
    obtain ⟨u,h1,h2⟩ := Vals.get (i := i) (x := x) t (by simpa using e)
    exact ⟨u,by simpa using h1,h2⟩
theorem Vals.set {x : V} {u : Value} (r : RelV x u) : ∀ {xs : List V} {us : List Value} (i : Nat),Vals xs us → Vals (xs.set i x) (us.set i u)
  | _,_,_,.nil => .nil
  | _,_,0,.cons _ t => .cons r t
  | _,_,i + 1,.cons q t => .cons q (Vals.set r i t)
theorem Vals.append : ∀ {xs ys : List V} {us ws : List Value},Vals xs us → Vals ys ws → Vals (xs ++ ys) (us ++ ws)
  | _,_,_,_,.nil,s => s
  | _,_,_,_,.cons r t,s => .cons r (Vals.append t s)
theorem Vals.take : ∀ {xs : List V} {us : List Value} (n : Nat),Vals xs us → Vals (xs.take n) (us.take n)
  | _,_,0,_ => .nil
  | _,_,_ + 1,.nil => .nil
  | _,_,n + 1,.cons r t => .cons r (Vals.take n t)
theorem Vals.drop : ∀ {xs : List V} {us : List Value} (n : Nat),Vals xs us → Vals (xs.drop n) (us.drop n)
  | _,_,0,r => r
  | _,_,_ + 1,.nil => .nil
  | _,_,n + 1,.cons _ t => Vals.drop n t
noncomputable def RelO : Option V → Option Value → Prop
  | some v,some u => RelV v u
  | none,none => True
  | _,_ => False
noncomputable def KV {κ : Type} : List (κ × V) → List (κ × Value) → Prop := Paired fun (p : κ × V) (q : κ × Value) => p.1 = q.1 ∧ RelV p.2 q.2
noncomputable def kV : Key → V
  | .inl i => .int i
  | .inr x => .str x
inductive HO where
  /-- a list -/
  | lst (xs : List V)
  /-- a tuple (never changes) -/
  | tup (xs : List V)
  /-- a dict whose keys are ints and texts; one whose keys are tuples of ints and texts (the empty one is both) -/
  | dK (kvs : List (Key × V)) | dT (kvs : List (List Key × V))
  /-- a set of ints: its members,its size -/
  | set (S : Int → Bool) (n : Nat)
  /-- an instance of the class at C,its dict at dx,its attributes -/
  | ins (C dx : Addr) (fs : List (Str × V))
  /-- the dict of the instance at x -/
  | own (x : Addr)
  /-- the dict of an exception -/
  | xd (fs : List (Str × V))
  /-- a bound method,f of x -/
  | met (f x : Addr)
  /-- a range object lo,lo + 1,.. below hi -/
  | rng (lo hi : Int)
  /-- a thing that is known to the object (the script; a dict while a loop walks it): read,never written while it is so -/
  | frz (o : Obj) (u : HO)
  /-- a code object's table -/
  | tbl (ps : Array Value)
  /-- any other thing,by what is true of its one object (a def of one's own: SetO a S n := HO.ext fun h => ..) -/
  | ext (φ : Heap → Prop)
noncomputable abbrev Hp := Addr → Option HO
noncomputable def upd (H : Hp) (a : Addr) (o : HO) : Hp := fun b => if b = a then some o else H b
theorem upd_same {H : Hp} {a : Addr} {o : HO} : upd H a o a = some o := by unfold upd; rw [if_pos rfl]
theorem upd_ne {H : Hp} {a b : Addr} {o : HO} (h : b ≠ a) : upd H a o b = H b := by unfold upd; rw [if_neg h]
theorem upd_upd {H : Hp} {a : Addr} {o u : HO} : upd (upd H a o) a u = upd H a u := by
  funext b; unfold upd; split <;> rfl
theorem ne_of {H : Hp} {a b : Addr} {o u : HO} (h : H a = some o) (h' : H b = some u) (d : o ≠ u) : a ≠ b := by
  intro e; subst e; rw [h] at h'; exact d (Option.some.inj h')
theorem ne_of_none {H : Hp} {a b : Addr} {o : HO} (h : H a = some o) (h' : H b = none) : a ≠ b := by
  intro e; subst e; rw [h] at h'; cases h'
section
variable (P : Program) (w : World)
noncomputable def ObjOk (H : Hp) (h : Heap) (a : Addr) : HO → Prop
  | .lst xs => xs.length ≤ sizeLine ∧ ∃ (its : List Value) (n : Nat),Vals xs its ∧ h.get? a = some { cls := .type "list",data := .seq its.toArray n }
  | .tup xs => xs.length ≤ sizeLine ∧ ∃ its : List Value,Vals xs its ∧ IsTup h a its.toArray
  | .dK kvs => kvs.length ≤ sizeLine ∧ (a == sysModules) = false ∧ ∃ vs,KV kvs vs ∧ h.DictOf (mixKind P w) a vs
  | .dT kvs => kvs.length ≤ sizeLine ∧ (a == sysModules) = false ∧ ∃ xs : List (List Key × Addr × Value),
      Paired (fun (p : List Key × V) (q : List Key × Addr × Value) => p.1 = q.1 ∧ H q.2.1 = some (.tup (p.1.map kV)) ∧ RelV p.2 q.2.2) kvs xs ∧
      ∃ o es ep,h.get? a = some o ∧ o.ExactDict ∧ o.data = .dict es ep ∧ es.toList = xs.map (entryOfKey (tupleKind (mixKind P w))) ∧ (xs.map (·.1)).Nodup
  | .set S n => h.SetOf (intKind P w) a S n
  | .ins C dx fs => H dx = some (.own a) ∧ fs.length ≤ 1000 ∧ dx ≠ a ∧ h.get? a = some (PySem.W.instObj C dx) ∧
      ∃ mA,h.Ns1 dx mA ∧ (∀ f,RelO (fs.lookup f) (mA f)) ∧ PySem.Within mA (fs.map (·.1))
  | .own _ => ∃ o,h.get? a = some o
  | .xd fs => ∃ mA,h.Ns1 a mA ∧ ∀ f,RelO (fs.lookup f) (mA f)
  | .rng lo hi => ∃ t u v,h.get? a = some { cls := .type "range",data := .fields #[.int lo t,.int hi u,.int 1 v] }
  | .frz o u => h.get? a = some o ∧ ObjOk H h a u
  | .tbl ps => h.get? a = some { cls := .none,data := .fields ps }
  | .met f x => h.get? a = some (PySem.W.methodObj (.ref f) (.ref x))
  | .ext φ => φ h ∧ (∃ o,h.get? a = some o) ∧ ∀ h1 h2 : Heap,φ h1 → (∀ o,h1.get? a = some o → h2.get? a = some o) → φ h2
noncomputable def HOk (H : Hp) (h : Heap) : Prop := ∀ a o,H a = some o → ObjOk P w H h a o
end
section
variable {P : Program} {w : World} {H H' : Hp} {h h' : Heap} {a : Addr} {o : HO}
theorem ObjOk.lt (x : ObjOk P w H h a o) : a < h.objs.size := by
  cases o with
  | lst xs => obtain ⟨_,_,_,_,e⟩ := x; exact Heap.lt_size e
  | tup xs => obtain ⟨_,_,_,p⟩ := x; exact p.lt
  | dK kvs => obtain ⟨_,_,_,_,o,_,_,e,_⟩ := x; exact Heap.lt_size e
  | dT kvs => obtain ⟨_,_,_,_,o,_,_,e,_⟩ := x; exact Heap.lt_size e
  | set S n => obtain ⟨o,_,_,_,e,_⟩ := x; exact Heap.lt_size e
  | ins C dx fs => obtain ⟨_,_,_,e,_⟩ := x; exact Heap.lt_size e
  | own y => obtain ⟨_,e⟩ := x; exact Heap.lt_size e
  | xd fs => obtain ⟨_,⟨_,_,_,e,_⟩,_⟩ := x; exact Heap.lt_size e
  | rng lo hi => obtain ⟨_,_,_,e⟩ := x; exact Heap.lt_size e
  | frz ob u => obtain ⟨e,_⟩ := x; exact Heap.lt_size e
  | tbl ps => exact Heap.lt_size (show h.get? a = some _ from x)
  | met f y => exact Heap.lt_size (show h.get? a = some _ from x)
  | ext φ => obtain ⟨_,⟨_,e⟩,_⟩ := x; exact Heap.lt_size e
theorem Paired.mapP {α β : Type} {F G : α → β → Prop} : ∀ {l₁ : List α} {l₂ : List β},Paired F l₁ l₂ → (∀ a b,F a b → G a b) → Paired G l₁ l₂
  | _,_,.nil,_ => .nil
  | _,_,.cons r t,f => .cons (f _ _ r) (Paired.mapP t f)
theorem ObjOk.stay (x : ObjOk P w H h a o) (k : ∀ b u,(b = a ∨ H b = some (.own a)) → h.get? b = some u → h'.get? b = some u)
    (ho : ∀ b,H b = some (.own a) → H' b = some (.own a)) (ht : ∀ b xs,H b = some (.tup xs) → H' b = some (.tup xs)) : ObjOk P w H' h' a o := by
  induction o with
  | lst xs => obtain ⟨z,its,n,r,e⟩ := x; exact ⟨z,its,n,r,k _ _ (.inl rfl) e⟩
  | tup xs => obtain ⟨z,its,r,ob,e,c⟩ := x; exact ⟨z,its,r,ob,k _ _ (.inl rfl) e,c⟩
  | dK kvs => obtain ⟨z,y,vs,r,ob,es,ep,e,c⟩ := x; exact ⟨z,y,vs,r,ob,es,ep,k _ _ (.inl rfl) e,c⟩
  | dT kvs =>
    obtain ⟨z,y,xs,r,ob,es,ep,e,c⟩ := x
    exact ⟨z,y,xs,Paired.mapP r fun p q z => ⟨z.1,ht _ _ z.2.1,z.2.2⟩,ob,es,ep,k _ _ (.inl rfl) e,c⟩
  | set S n => obtain ⟨ob,es,ep,t,e,c⟩ := x; exact ⟨ob,es,ep,t,k _ _ (.inl rfl) e,c⟩
  | ins C dx fs =>
    obtain ⟨d,z,ne,e,mA,⟨od,es,ep,e2,c⟩,r⟩ := x
    exact ⟨ho _ d,z,ne,k _ _ (.inl rfl) e,mA,⟨od,es,ep,k _ _ (.inr d) e2,c⟩,r⟩
  | own y => obtain ⟨ob,e⟩ := x; exact ⟨ob,k _ _ (.inl rfl) e⟩
  | xd fs => obtain ⟨mA,⟨od,es,ep,e,c⟩,r⟩ := x; exact ⟨mA,⟨od,es,ep,k _ _ (.inl rfl) e,c⟩,r⟩
  | rng lo hi => obtain ⟨t,u,v,e⟩ := x; exact ⟨t,u,v,k _ _ (.inl rfl) e⟩
  | frz ob u ih => obtain ⟨e,q⟩ := x; exact ⟨k _ _ (.inl rfl) e,ih q⟩
  | tbl ps =>
    have e : h.get? a = some { cls := .none,data := .fields ps } := x
    show h'.get? a = some { cls := .none,data := .fields ps }
    exact k a _ (.inl rfl) e
  | met f y =>
    have e : h.get? a = some (PySem.W.methodObj (.ref f) (.ref y)) := x
    show h'.get? a = some (PySem.W.methodObj (.ref f) (.ref y))
    exact k a _ (.inl rfl) e
  | ext φ => obtain ⟨p,⟨o,e⟩,st⟩ := x; exact ⟨st _ _ p fun o q => k _ _ (.inl rfl) q,⟨o,k _ _ (.inl rfl) e⟩,st⟩
theorem HOk.lt (x : HOk P w H h) (e : H a = some o) : a < h.objs.size := (x a o e).lt
theorem HOk.fresh (x : HOk P w H h) (e : h.objs.size ≤ a) : H a = none := by
  cases q : H a with
  | none => rfl
  | some u => exact absurd (Nat.lt_of_lt_of_le (x.lt q) e) (Nat.lt_irrefl _)
theorem HOk.kept (x : HOk P w H h) (k : ∀ b u,h.get? b = some u → h'.get? b = some u) : HOk P w H h' := fun a o e =>
  (x a o e).stay (fun b u _ q => k b u q) (fun _ q => q) fun _ _ q => q
theorem HOk.laid (x : HOk P w H h) (k : ∀ b u,h.get? b = some u → h'.get? b = some u) (hp : h.objs.size ≤ a) (new : ObjOk P w (upd H a o) h' a o) : HOk P w (upd H a o) h' := fun b u e => by
  have hn := x.fresh hp
  by_cases hb : b = a
  · subst hb; rw [upd_same] at e; cases e; exact new
  · rw [upd_ne hb] at e
    exact (x b u e).stay (fun c v _ q => k c v q) (fun c q => by rw [upd_ne (ne_of_none q hn)]; exact q) fun c xs q => by rw [upd_ne (ne_of_none q hn)]; exact q
end
noncomputable def Rd (H : Hp) (a : Addr) (u : HO) : Prop := H a = some u ∨ ∃ o,H a = some (.frz o u)
theorem Rd.ok {P : Program} {w : World} {H : Hp} {h : Heap} {a : Addr} {u : HO} (r : Rd H a u) (x : HOk P w H h) : ObjOk P w H h a u := by
  rcases r with r | ⟨o,r⟩
  · exact x a u r
  · obtain ⟨_,q⟩ := x a _ r
    exact q
noncomputable def Mut : Option HO → Prop
  | some (.lst _) => True
  | some (.dK _) => True
  | some (.dT _) => True
  | some (.set _ _) => True
  | some (.ins _ _ _) => True
  | some (.ext _) => True
  | _ => False
section
variable {P : Program} {w : World} {H : Hp} {h h' : Heap} {x e : Addr} {o' : HO}
theorem HOk.write (ok : HOk P w H h) (mu : Mut (H x)) (he : e = x ∨ H e = some (.own x)) (k : ∀ b u,b ≠ e → h.get? b = some u → h'.get? b = some u) (heo : ∃ u,h'.get? e = some u)
    (new : ObjOk P w (upd H x o') h' x o') : HOk P w (upd H x o') h' := fun b u q => by
  have nown : ∀ c y,H c = some (.own y) → c ≠ x := fun c y r z => by subst z; rw [r] at mu; exact mu
  have ntup : ∀ c xs,H c = some (.tup xs) → c ≠ x := fun c xs r z => by subst z; rw [r] at mu; exact mu
  by_cases hb : b = x
  · subst hb; rw [upd_same] at q; cases q; exact new
  · rw [upd_ne hb] at q
    by_cases hbe : b = e
    · have q' : H b = some (.own x) := by
        rcases he with z | z
        · exact absurd (hbe.trans z) hb
        · rw [hbe]; exact z
      rw [q] at q'; cases q'
      obtain ⟨v,hv⟩ := heo
      exact ⟨v,by rw [hbe]; exact hv⟩
    · refine (ok b u q).stay (fun c v hc r => k c v ?_ r) (fun c r => by rw [upd_ne (nown c b r)]; exact r) fun c xs r => by rw [upd_ne (ntup c xs r)]; exact r
      rcases hc with rfl | hc
      · exact hbe
      · rintro rfl
        rcases he with z | z
        · exact nown c b hc z
        · rw [hc] at z; cases z; exact hb rfl
end
structure Un (fs ex : List Addr) (H H' : Hp) (h h' : Heap) : Prop where
  keep : ∀ b o,h.get? b = some o → H b = none → b ∉ fs → b ∉ ex → h'.get? b = some o
  slot : ∀ b o,h.get? b = some o → H b = none → b ∈ fs → b ∉ ex → ∃ sl,h'.get? b = some { o with slots := sl }
  free : ∀ b o,h.get? b = some o → H b = none → b ∉ ex → H' b = none
  there : ∀ b o,h.get? b = some o → b ∉ ex → ∃ o',h'.get? b = some o'
  tups : ∀ b xs,H b = some (.tup xs) → H' b = some (.tup xs)
  frzs : ∀ b o u,H b = some (.frz o u) → H' b = some (.frz o u)
  tbls : ∀ b ps,H b = some (.tbl ps) → ∃ more,H' b = some (.tbl (ps ++ more))
section
variable {fs fs' ex ex' : List Addr} {H H1 H2 : Hp} {h h1 h2 h' : Heap} {a x e : Addr} {o : HO}
theorem Un.any (u : Un fs ex H H1 h h1) {b : Addr} {ob : Obj} (q : h.get? b = some ob) (n : H b = none) (hx : b ∉ ex) : ∃ sl,h1.get? b = some { ob with slots := sl } := by
  by_cases hb : b ∈ fs
  · exact u.slot b ob q n hb hx
  · exact ⟨ob.slots,u.keep b ob q n hb hx⟩
theorem Un.kept (k : ∀ b u,h.get? b = some u → h'.get? b = some u) : Un fs ex H H h h' :=
  ⟨fun b ob q _ _ _ => k b ob q,fun b ob q _ _ _ => ⟨ob.slots,k b ob q⟩,fun _ _ _ n _ => n,fun b ob q _ => ⟨ob,k b ob q⟩,fun _ _ q => q,fun _ _ _ q => q,fun _ ps q => ⟨#[],by rw [q]; simp⟩⟩
theorem Un.refl : Un fs ex H H h h := Un.kept fun _ _ q => q
theorem Un.laid (k : ∀ b u,h.get? b = some u → h'.get? b = some u) (hp : h.objs.size ≤ a) (hn : H a = none) : Un fs ex H (upd H a o) h h' where
  keep := fun b u q _ _ _ => k b u q
  slot := fun b u q _ _ _ => ⟨u.slots,k b u q⟩
  free := fun b u q n _ => by rw [upd_ne (Nat.ne_of_lt (Nat.lt_of_lt_of_le (Heap.lt_size q) hp))]; exact n
  there := fun b u q _ => ⟨u,k b u q⟩
  tups := fun b xs q => by rw [upd_ne (ne_of_none q hn)]; exact q
  frzs := fun b u xs q => by rw [upd_ne (ne_of_none q hn)]; exact q
  tbls := fun b ps q => ⟨#[],by rw [upd_ne (ne_of_none q hn),q]; simp⟩
theorem Un.write (mu : Mut (H x)) (he : e = x ∨ H e = some (.own x)) (k : ∀ b u,b ≠ e → h.get? b = some u → h'.get? b = some u) (heo : ∃ u,h'.get? e = some u) : Un fs ex H (upd H x o) h h' := by
  have hx : ∀ b,H b = none → b ≠ x := fun b n z => by subst z; rw [n] at mu; exact mu
  have hb : ∀ b,H b = none → b ≠ e := fun b n z => by
    subst z
    rcases he with r | r
    · exact hx b n r
    · rw [n] at r; cases r
  have hm : ∀ b u,H b = some u → ¬ Mut (some u) → b ≠ x := fun b u q nm z => by subst z; rw [q] at mu; exact nm mu
  refine ⟨fun b u q n _ _ => k b u (hb b n) q,fun b u q n _ _ => ⟨u.slots,k b u (hb b n) q⟩,fun b u q n _ => by rw [upd_ne (hx b n)]; exact n,fun b u q _ => ?_,
    fun b xs q => by rw [upd_ne (hm b _ q fun z => z)]; exact q,fun b u xs q => by rw [upd_ne (hm b _ q fun z => z)]; exact q,fun b ps q => ⟨#[],by rw [upd_ne (hm b _ q fun z => z),q]; simp⟩⟩
  by_cases hbe : b = e
  · subst hbe; exact heo
  · exact ⟨u,k b u hbe q⟩
end
noncomputable def trk (h : Heap) (H : Hp) : List Addr := (List.range h.objs.size).filter fun a => (H a).isSome
noncomputable def hidT (h : Heap) (H : Hp) : Heap := PySem.W.hideAll h (trk h H)
theorem hidT_size (h : Heap) (H : Hp) : (hidT h H).objs.size = h.objs.size := PySem.W.hideAll_size _ _
theorem hidT_get {h : Heap} {H : Hp} {b : Addr} {o : Obj} (e : h.get? b = some o) (n : H b = none) : (hidT h H).get? b = some o :=
  PySem.W.hideAll_get _ e fun hm => by
    have q : (H b).isSome = true := (List.mem_filter.mp hm).2
    rw [n] at q; simp at q
theorem of_hidT {h : Heap} {H : Hp} {b : Addr} {o : Obj} (e : (hidT h H).get? b = some o) : h.get? b = some o ∧ H b = none := by
  have e' : h.get? b = some o := PySem.W.of_hideAll (trk h H) e
  refine ⟨e',?_⟩
  cases q : H b with
  | none => rfl
  | some x =>
    have hm : b ∈ trk h H := List.mem_filter.mpr ⟨List.mem_range.mpr (Heap.lt_size e'),by simp [q]⟩
    have z : (hidT h H).get? b = none := PySem.W.hideAll_none (trk h H) hm
    rw [z] at e; cases e
end L2
namespace L2
open PySem PySem.Spec PyProof.Rows
structure Mod (K : PySem.W.Frag) (mg : Str → Option Value) (base : Heap) : Prop where
  kin : K.In base
  glob : base.Ns mainGlobals mg
  blt : ∃ mb,base.Ns builtinsNs mb ∧ ∀ x : Str,x ≠ "__name__" → mb x = bootBuiltins x
  nolimit : base.NoLimit
  digits : base.NoDigits
structure Cx where
  prog : Program
  w : World
  K : PySem.W.Frag
  mg : Str → Option Value
  base : Heap
  A : Around
  N : List Str
  s₀ : Shared
  H₀ : Hp
  env : Env
  outer : List Env
  stack : List Env
  ex : List Addr
  fn : Str → Bool
  calm : Bool
  pn : List (Addr × Obj)
  xe : Value → Shared → Prop
noncomputable def frs (l : List Env) : List Addr := l.filterMap (·.frame)
noncomputable abbrev Cx.fs (X : Cx) : List Addr := frs X.outer
noncomputable def Vis (sc : Scope) (x : Str) : Prop := sc.names.lookup x = some .local ∨ sc.names.lookup x = some .cell ∨ sc.names.lookup x = some .free
noncomputable def Loc (sc : Scope) (x : Str) : Prop := sc.names.lookup x = some .local ∨ sc.names.lookup x = some .cell
noncomputable def Look (env : Env) (h : Heap) (m : Str → Option Value) (x : Str) (u : Value) : Prop :=
  (env.kindOf x = some .local ∧ m x = some u) ∨ ((env.kindOf x = some .cell ∨ env.kindOf x = some .free) ∧ ∃ c,env.cells.lookup x = some c ∧ h.IsCell c (some u))
structure Cx.Ok (X : Cx) : Prop where
  mod : Mod X.K X.mg X.base
  kind : X.env.scope.kind = .function
  glob : X.env.globals = mainGlobals
  blt : X.env.builtins = builtinsNs
  above : X.s₀.heap.objs.size ≤ X.env.locals
  inj : ∀ x y c,X.env.cells.lookup x = some c → X.env.cells.lookup y = some c → x = y
  has : ∀ x,(X.env.kindOf x = some .cell ∨ X.env.kindOf x = some .free) → ∃ c,X.env.cells.lookup x = some c
  cab : ∀ x c,X.fn x = true → X.env.cells.lookup x = some c → X.s₀.heap.objs.size ≤ c
  hd : X.calm = true → X.A.handled = none
  frames : X.A.frames = some X.stack
  stk : X.stack = X.outer ∨ (X.stack = X.env :: X.outer ∧ X.env.frame = some X.env.locals)
  exf : ∀ b ∈ X.ex,b ≠ X.env.locals ∧ ∀ x c,X.env.cells.lookup x = some c → c ≠ b
  bs : ∀ b o,X.base.get? b = some o → X.s₀.heap.get? b = some o ∧ X.H₀ b = none
  bsz : X.base.objs.size ≤ X.s₀.heap.objs.size
  noex : ∀ b o,X.base.get? b = some o → b ∉ X.ex
  exfs : ∀ b ∈ X.ex,b ∉ X.fs
  funs : X.s₀.heap.FunFrames X.base X.outer
  frf : ∀ b ∈ X.fs,X.H₀ b = none
structure Inv (X : Cx) (pins : List (Addr × Obj)) (σ : List (Option V)) (H : Hp) (s : Shared) : Prop where
  ok : X.Ok
  os : s.os = X.s₀.os
  bare : AllBare s.gens
  base : Un X.fs X.ex X.H₀ H X.s₀.heap s.heap
  loc : ∃ m,s.heap.Ns X.env.locals m ∧ ∀ (i : Nat) (x : Str) (v : V),X.N[i]? = some x → σ[i]? = some (some v) → Vis X.env.scope x → ∃ u,RelV v u ∧ Look X.env s.heap m x u
  cell : ∀ x c,X.env.cells.lookup x = some c → ∃ v,s.heap.IsCell c v
  free : H X.env.locals = none
  freeC : ∀ x c,X.env.cells.lookup x = some c → H c = none
  pin : ∀ p ∈ X.pn ++ pins,s.heap.get? p.1 = some p.2 ∧ H p.1 = none ∧ p.1 ≠ X.env.locals ∧ p.1 ∉ X.fs ∧ ∀ v,p.2.data ≠ .cell v
  hok : HOk X.prog X.w H s.heap
  len : σ.length = X.N.length
section
variable {X : Cx} {pins : List (Addr × Obj)} {σ : List (Option V)} {H H' : Hp} {s : Shared} {h' : Heap}
theorem Cx.Ok.nofr (ok : X.Ok) {b : Addr} {o : Obj} (e : X.base.get? b = some o) : b ∉ X.fs := fun hb => by
  have := (ok.funs.mem hb).1
  rw [e] at this; cases this
theorem Inv.bs (I : Inv X pins σ H s) : ∀ b o,X.base.get? b = some o → s.heap.get? b = some o ∧ H b = none := fun b o e =>
  ⟨I.base.keep b o (I.ok.bs b o e).1 (I.ok.bs b o e).2 (I.ok.nofr e) (I.ok.noex b o e),I.base.free b o (I.ok.bs b o e).1 (I.ok.bs b o e).2 (I.ok.noex b o e)⟩
theorem Inv.bk (I : Inv X pins σ H s) : ∀ b o,X.base.get? b = some o → s.heap.get? b = some o := fun b o e => (I.bs b o e).1
theorem Inv.mod (I : Inv X pins σ H s) : Mod X.K X.mg X.base := I.ok.mod
theorem Inv.kIn (I : Inv X pins σ H s) : X.K.In s.heap := I.ok.mod.kin.keeps I.bk
theorem Inv.lt (I : Inv X pins σ H s) : X.env.locals < s.heap.objs.size := let ⟨_,hn,_⟩ := I.loc; hn.lt
theorem Inv.sz (I : Inv X pins σ H s) : X.s₀.heap.objs.size ≤ s.heap.objs.size := Nat.le_trans I.ok.above (Nat.le_of_lt I.lt)
theorem Inv.nofs (I : Inv X pins σ H s) {a : Addr} (h : s.heap.objs.size ≤ a) : a ∉ X.fs := fun hb => by
  obtain ⟨_,o,ho,_⟩ := I.ok.funs.mem hb
  exact absurd (Nat.lt_of_lt_of_le (Heap.lt_size ho) (Nat.le_trans I.sz h)) (Nat.lt_irrefl _)
theorem Inv.cne (I : Inv X pins σ H s) : ∀ x c,X.env.cells.lookup x = some c → c ≠ X.env.locals := fun x c e z => by
  obtain ⟨v,o,ho,hd⟩ := I.cell x c e
  obtain ⟨m,⟨o',es,ep,ho',hd',_⟩,_⟩ := I.loc
  rw [z,ho'] at ho; cases ho; rw [hd'] at hd; cases hd
theorem Inv.funs (I : Inv X pins σ H s) : s.heap.FunFrames X.base X.outer := by
  have all : ∀ (l : List Env),(∀ b ∈ frs l,b ∈ X.fs) → X.s₀.heap.FunFrames X.base l → s.heap.FunFrames X.base l := by
    intro l
    induction l with
    | nil => intro _ _; trivial
    | cons env r ih =>
      intro hs hl
      obtain ⟨hk,⟨L,o,hf,hn,ho,hd⟩,hr⟩ := hl
      have hL : L ∈ X.fs := hs L (by unfold frs; rw [List.filterMap_cons,hf]; exact List.mem_cons_self)
      obtain ⟨sl,e⟩ := I.base.slot L o ho (I.ok.frf L hL) hL fun z => I.ok.exfs L z hL
      exact ⟨hk,⟨L,_,hf,hn,e,hd⟩,ih (fun b hb => hs b (by unfold frs; rw [List.filterMap_cons,hf]; exact List.mem_cons_of_mem _ hb)) hr⟩
  exact all X.outer (fun _ hb => hb) I.ok.funs
theorem Inv.stack (I : Inv X pins σ H s) : s.heap.FunFrames X.base X.stack := by
  rcases I.ok.stk with e | ⟨e,hf⟩
  · rw [e]; exact I.funs
  · rw [e]
    obtain ⟨m,hn,_⟩ := I.loc
    refine .cons (by rw [I.ok.kind]; decide) hf hn ?_ I.funs
    exact Heap.get?_none_of_le (Nat.le_trans I.ok.bsz I.ok.above)
theorem Inv.stkSub (I : Inv X pins σ H s) : ∀ b ∈ frs X.stack,b ∈ X.env.locals :: X.fs := fun b hb => by
  rcases I.ok.stk with e | ⟨e,hf⟩
  · rw [e] at hb; exact List.mem_cons_of_mem _ hb
  · rw [e] at hb
    unfold frs at hb
    rw [List.filterMap_cons,hf] at hb
    exact hb
theorem Inv.stkFree (I : Inv X pins σ H s) : ∀ b ∈ frs X.stack,H b = none := fun b hb => by
  rcases List.mem_cons.mp (I.stkSub b hb) with e | hb
  · rw [e]; exact I.free
  · obtain ⟨_,o,ho,_⟩ := I.ok.funs.mem hb
    exact I.base.free b o ho (I.ok.frf b hb) fun z => I.ok.exfs b z hb
theorem Inv.step {g' : Array GenState} {t' : Nat} {d' : Drawn} {ch : List Addr} (I : Inv X pins σ H s)
    (hch : ∀ b ∈ ch,(b ∈ X.ex ∨ X.s₀.heap.objs.size ≤ b) ∧ b ≠ X.env.locals ∧ (∀ x c,X.env.cells.lookup x = some c → c ≠ b) ∧ ∀ p ∈ X.pn ++ pins,p.1 ≠ b)
    (keep : ∀ b o,b ≠ X.env.locals → b ∉ X.fs → b ∉ ch → s.heap.get? b = some o → H b = none → h'.get? b = some o)
    (slot : ∀ b o,b ≠ X.env.locals → b ∈ X.fs → b ∉ ch → s.heap.get? b = some o → H b = none → ∃ sl,h'.get? b = some { o with slots := sl }) (free : ∀ b o,b ∉ ch → s.heap.get? b = some o → H b = none → H' b = none)
    (there : ∀ b o,b ∉ ch → s.heap.get? b = some o → ∃ o',h'.get? b = some o')
    (tups : ∀ b xs,H b = some (.tup xs) → H' b = some (.tup xs)) (frzs : ∀ b o u,H b = some (.frz o u) → H' b = some (.frz o u)) (tbls : ∀ b ps,H b = some (.tbl ps) → ∃ more,H' b = some (.tbl (ps ++ more)))
    (ns : ∀ m,s.heap.Ns X.env.locals m → h'.Ns X.env.locals m) (hok : HOk X.prog X.w H' h') (hg : AllBare g') :
    Inv X pins σ H' { s with heap := h',gens := g',drawn := d',toks := t' } := by
  have neL : ∀ b o,X.s₀.heap.get? b = some o → b ≠ X.env.locals := fun b o e => Nat.ne_of_lt (Nat.lt_of_lt_of_le (Heap.lt_size e) I.ok.above)
  have neC : ∀ b o,X.s₀.heap.get? b = some o → b ∉ X.ex → b ∉ ch := fun b o e hx hb => by
    rcases (hch b hb).1 with z | z
    · exact hx z
    · exact absurd (Nat.lt_of_lt_of_le (Heap.lt_size e) z) (Nat.lt_irrefl _)
  have cellK : ∀ x c,X.env.cells.lookup x = some c → ∀ v,s.heap.IsCell c v → h'.IsCell c v := fun x c e v ⟨o,ho,hd⟩ => by
    have nch : c ∉ ch := fun z => (hch c z).2.2.1 x c e rfl
    by_cases hc : c ∈ X.fs
    · obtain ⟨sl,q⟩ := slot c o (I.cne x c e) hc nch ho (I.freeC x c e)
      exact ⟨_,q,hd⟩
    · exact ⟨o,keep c o (I.cne x c e) hc nch ho (I.freeC x c e),hd⟩
  refine ⟨I.ok,I.os,hg,⟨fun b o e n hb hx => ?_,fun b o e n hb hx => ?_,fun b o e n hx => ?_,fun b o e hx => ?_,fun b xs e => tups b xs (I.base.tups b xs e),fun b o xs e => frzs b o xs (I.base.frzs b o xs e),fun b ps e => ?_⟩,?_,fun x c e => ?_,?_,fun x c e => ?_,fun p hp => ?_,hok,I.len⟩
  · exact keep b o (neL b o e) hb (neC b o e hx) (I.base.keep b o e n hb hx) (I.base.free b o e n hx)
  · obtain ⟨sl,e1⟩ := I.base.slot b o e n hb hx
    obtain ⟨sl',e2⟩ := slot b _ (neL b o e) hb (neC b o e hx) e1 (I.base.free b o e n hx)
    exact ⟨sl',e2⟩
  · obtain ⟨o',e1⟩ := I.base.there b o e hx
    exact free b o' (neC b o e hx) e1 (I.base.free b o e n hx)
  · obtain ⟨o',e1⟩ := I.base.there b o e hx
    exact there b o' (neC b o e hx) e1
  · obtain ⟨m1,e1⟩ := I.base.tbls b ps e
    obtain ⟨m2,e2⟩ := tbls b _ e1
    exact ⟨m1 ++ m2,by rw [e2,Array.append_assoc]⟩
  · obtain ⟨m,hn,hl⟩ := I.loc
    refine ⟨m,ns m hn,fun i x v e1 e2 e3 => ?_⟩
    obtain ⟨u,r,l⟩ := hl i x v e1 e2 e3
    refine ⟨u,r,?_⟩
    rcases l with l | ⟨k,c,e,z⟩
    · exact .inl l
    · exact .inr ⟨k,c,e,cellK x c e _ z⟩
  · obtain ⟨v,z⟩ := I.cell x c e
    exact ⟨v,cellK x c e v z⟩
  · obtain ⟨m,⟨o,_,_,ho,_⟩,_⟩ := I.loc
    exact free _ o (fun z => (hch _ z).2.1 rfl) ho I.free
  · obtain ⟨v,o,ho,hd⟩ := I.cell x c e
    exact free c o (fun z => (hch c z).2.2.1 x c e rfl) ho (I.freeC x c e)
  · obtain ⟨e,n,ne,nf,d⟩ := I.pin p hp
    have nch : p.1 ∉ ch := fun z => (hch p.1 z).2.2.2 p hp rfl
    exact ⟨keep p.1 p.2 ne nf nch e n,free p.1 p.2 nch e n,ne,nf,d⟩
theorem Inv.un {t' : Nat} (I : Inv X pins σ H s) (u : Un X.fs [] H H' s.heap h') (hok : HOk X.prog X.w H' h') : Inv X pins σ H' { s with heap := h',toks := t' } := by
  obtain ⟨m,⟨o,es,ep,ho,r⟩,_⟩ := id I.loc
  obtain ⟨sl,hL⟩ := u.any ho I.free (by simp)
  exact I.step (g' := s.gens) (d' := s.drawn) (ch := []) (fun _ z => nomatch z) (fun b o _ hb _ e n => u.keep b o e n hb (by simp)) (fun b o _ hb _ e n => u.slot b o e n hb (by simp)) (fun b o _ e n => u.free b o e n (by simp)) (fun b o _ e => u.there b o e (by simp)) u.tups u.frzs u.tbls (fun m' hm => by
    obtain ⟨o',es',ep',ho',r'⟩ := hm
    rw [ho] at ho'; cases ho'
    exact ⟨_,es',ep',hL,r'⟩) hok I.bare
theorem Inv.call {g' : Array GenState} {t' : Nat} {d' : Drawn} {ch : List Addr} (I : Inv X pins σ H s) (u : Un (frs X.stack) ch H H' s.heap h') (hok : HOk X.prog X.w H' h') (hg : AllBare g')
    (hch : ∀ b ∈ ch,(b ∈ X.ex ∨ X.s₀.heap.objs.size ≤ b) ∧ b ≠ X.env.locals ∧ (∀ x c,X.env.cells.lookup x = some c → c ≠ b) ∧ ∀ p ∈ X.pn ++ pins,p.1 ≠ b) :
    Inv X pins σ H' { s with heap := h',gens := g',drawn := d',toks := t' } := by
  obtain ⟨m,⟨o,es,ep,ho,r⟩,_⟩ := id I.loc
  obtain ⟨sl,hL⟩ := u.any ho I.free fun z => (hch _ z).2.1 rfl
  exact I.step (ch := ch) hch (fun b o hL hb hc e n => u.keep b o e n (fun z => (List.mem_cons.mp (I.stkSub b z)).elim hL hb) hc) (fun b o _ _ hc e n => u.any e n hc) (fun b o hc e n => u.free b o e n hc) (fun b o hc e => u.there b o e hc) u.tups u.frzs u.tbls (fun m' hm => by
    obtain ⟨o',es',ep',ho',r'⟩ := hm
    rw [ho] at ho'; cases ho'
    exact ⟨_,es',ep',hL,r'⟩) hok hg
theorem Inv.turned {t' : Nat} {it : Addr} (I : Inv X pins σ H s) (k : ∀ b o,b ≠ it → s.heap.get? b = some o → h'.get? b = some o) (hn : H it = none) (hL : it ≠ X.env.locals)
    (h1 : it ∈ X.ex ∨ X.s₀.heap.objs.size ≤ it) (h2 : ∀ x c,X.env.cells.lookup x = some c → c ≠ it) (h3 : ∀ p ∈ X.pn ++ pins,p.1 ≠ it) : Inv X pins σ H { s with heap := h',toks := t' } := by
  have nit : ∀ b u,H b = some u → b ≠ it := fun b u e z => by rw [z,hn] at e; cases e
  refine I.step (g' := s.gens) (d' := s.drawn) (ch := [it]) (fun b hb => ?_) (fun b o _ _ hc e _ => k b o (fun z => hc (by simp [z])) e) (fun b o _ _ hc e _ => ⟨o.slots,k b o (fun z => hc (by simp [z])) e⟩) (fun _ _ _ _ n => n)
    (fun b o hc e => ⟨o,k b o (fun z => hc (by simp [z])) e⟩) (fun _ _ e => e) (fun _ _ _ e => e) (fun b ps e => ⟨#[],by rw [e]; simp⟩) (fun m hm => ?_) (fun b u e => ?_) I.bare
  · have e : b = it := by simpa using hb
    subst e
    exact ⟨h1,hL,h2,h3⟩
  · obtain ⟨o,es,ep,ho,r⟩ := hm
    exact ⟨o,es,ep,k _ o (Ne.symm hL) ho,r⟩
  · refine (I.hok b u e).stay (fun c v hc q => k c v ?_ q) (fun _ q => q) fun _ _ q => q
    rcases hc with z | z
    · rw [z]; exact nit b u e
    · exact nit c _ z
theorem Inv.tok (I : Inv X pins σ H s) (t : Nat) : Inv X pins σ H { s with toks := t } := I.un (h' := s.heap) (t' := t) Un.refl I.hok
theorem Inv.kept {t' : Nat} (I : Inv X pins σ H s) (k : ∀ b u,s.heap.get? b = some u → h'.get? b = some u) : Inv X pins σ H { s with heap := h',toks := t' } := I.un (Un.kept k) (I.hok.kept k)
theorem Inv.laid {a : Addr} {o : HO} {t' : Nat} (I : Inv X pins σ H s) (k : ∀ b u,s.heap.get? b = some u → h'.get? b = some u) (hp : s.heap.objs.size ≤ a) (new : ObjOk X.prog X.w (upd H a o) h' a o) :
    Inv X pins σ (upd H a o) { s with heap := h',toks := t' } := I.un (Un.laid k hp (I.hok.fresh hp)) (I.hok.laid k hp new)
theorem Inv.write {x e : Addr} {o : HO} {t' : Nat} (I : Inv X pins σ H s) (mu : Mut (H x)) (he : e = x ∨ H e = some (.own x)) (k : ∀ b u,b ≠ e → s.heap.get? b = some u → h'.get? b = some u) (heo : ∃ u,h'.get? e = some u)
    (new : ObjOk X.prog X.w (upd H x o) h' x o) : Inv X pins σ (upd H x o) { s with heap := h',toks := t' } := I.un (Un.write mu he k heo) (I.hok.write mu he k heo new)
theorem Inv.pins_of {pins' : List (Addr × Obj)} (I : Inv X pins σ H s) (h : ∀ p ∈ pins',s.heap.get? p.1 = some p.2 ∧ H p.1 = none ∧ p.1 ≠ X.env.locals ∧ p.1 ∉ X.fs ∧ ∀ v,p.2.data ≠ .cell v) : Inv X pins' σ H s :=
  ⟨I.ok,I.os,I.bare,I.base,I.loc,I.cell,I.free,I.freeC,fun p hp => (List.mem_append.mp hp).elim (fun z => I.pin p (List.mem_append_left _ z)) (h p),I.hok,I.len⟩
theorem nodup_ix {N : List Str} (hN : N.Nodup) {i j : Nat} {x : Str} (a : N[i]? = some x) (b : N[j]? = some x) : i = j := by
  obtain ⟨h1,e1⟩ := List.getElem?_eq_some_iff.mp a
  obtain ⟨h2,e2⟩ := List.getElem?_eq_some_iff.mp b
  exact (List.getElem_inj hN).mp (e1.trans e2.symm)
theorem store_ok2 {M : Model} {A : Around} {E : Value → Shared → Prop} {i : Nat} {x : Str} {v : V} {u : Value} {Q : Unit → Shared → Prop} (I : Inv X pins σ H s) (hN : X.N.Nodup) (hi : X.N[i]? = some x) (hx : Loc X.env.scope x) (r : RelV v u)
    (h : ∀ s',Inv X pins (σ.set i (some v)) H s' → (∃ a,Heap.SameBut a s.heap s'.heap ∧ (a = X.env.locals ∨ X.env.cells.lookup x = some a)) → Q () s') (hf : X.fn x = true ∨ X.env.scope.names.lookup x = some .local := by first | exact .inl rfl | exact .inr rfl | assumption) : wpAny M A (storeName X.env x u) Q E s := by
  obtain ⟨m,hn,hl⟩ := id I.loc
  have hcls : (X.env.scope.kind == .class || (X.env.scope.kind == .module && X.env.locals != X.env.globals)) = false := by rw [I.ok.kind]; rfl
  have hiσ : i < σ.length := by rw [I.len]; exact (List.getElem?_eq_some_iff.mp hi).1
  have cne := I.cne
  have tracked : ∀ {a : Addr} {h' : Heap},(∃ o,s.heap.get? a = some o ∧ H a = none) → Heap.SameBut a s.heap h' → HOk X.prog X.w H h' := fun {a h'} ha hs b ob e => by
    obtain ⟨_,_,hfree⟩ := ha
    refine (I.hok b ob e).stay (fun c w' hc q => (hs.2 c ?_).trans q) (fun _ q => q) fun _ _ q => q
    rintro rfl
    rcases hc with rfl | hc
    · rw [hfree] at e; cases e
    · rw [hfree] at hc; cases hc
  rcases hx with hk | hk
  · refine wpAny_storeName_local hk hn (fun h' hn' hs => ?_) hcls
    obtain ⟨oL,_,_,hoL,_⟩ := id hn
    refine h _ ⟨I.ok,I.os,I.bare,⟨fun b o e n hb hx => ?_,fun b o e n hb hx => ?_,I.base.free,fun b o e hx => ?_,I.base.tups,I.base.frzs,I.base.tbls⟩,⟨_,hn',fun j y v' e1 e2 e3 => ?_⟩,fun y c e => ?_,I.free,I.freeC,fun p hp => ?_,tracked ⟨oL,hoL,I.free⟩ hs,by simpa using I.len⟩ ⟨_,hs,.inl rfl⟩
    · exact (hs.2 b (Nat.ne_of_lt (Nat.lt_of_lt_of_le (Heap.lt_size e) I.ok.above))).trans (I.base.keep b o e n hb hx)
    · obtain ⟨sl,e1⟩ := I.base.slot b o e n hb hx
      exact ⟨sl,(hs.2 b (Nat.ne_of_lt (Nat.lt_of_lt_of_le (Heap.lt_size e) I.ok.above))).trans e1⟩
    · obtain ⟨o',e1⟩ := I.base.there b o e hx
      exact ⟨o',(hs.2 b (Nat.ne_of_lt (Nat.lt_of_lt_of_le (Heap.lt_size e) I.ok.above))).trans e1⟩
    · by_cases hj : j = i
      · subst hj
        rw [hi] at e1; cases e1
        rw [List.getElem?_set_self hiσ] at e2
        cases e2
        exact ⟨u,r,.inl ⟨hk,by simp⟩⟩
      · rw [List.getElem?_set_ne (Ne.symm hj)] at e2
        obtain ⟨u',r',q⟩ := hl j y v' e1 e2 e3
        refine ⟨u',r',?_⟩
        rcases q with ⟨k,e⟩ | ⟨k,c,e,z⟩
        · refine .inl ⟨k,?_⟩
          have : y ≠ x := fun e => hj (nodup_ix hN e1 (e ▸ hi))
          simp [this,e]
        · exact .inr ⟨k,c,e,z.sameBut hs (cne y c e)⟩
    · obtain ⟨w',z⟩ := I.cell y c e
      exact ⟨w',z.sameBut hs (cne y c e)⟩
    · obtain ⟨e,n,ne,nf,d⟩ := I.pin p hp
      exact ⟨(hs.2 p.1 ne).trans e,n,ne,nf,d⟩
  · have hfn : X.fn x = true := by
      rcases hf with z | z
      · exact z
      · rw [z] at hk; cases hk
    obtain ⟨c,hc⟩ := I.ok.has x (.inl hk)
    obtain ⟨w',z⟩ := I.cell x c hc
    refine wpAny_storeName_cell I.ok.kind hk hc z (fun h' hc' hs => ?_)
    obtain ⟨oc,hoc,hocd⟩ := id z
    refine h { s with heap := h' } ⟨I.ok,I.os,I.bare,⟨fun b o e n hb hx => ?_,fun b o e n hb hx => ?_,I.base.free,fun b o e hx => ?_,I.base.tups,I.base.frzs,I.base.tbls⟩,⟨m,hn.sameBut hs (Ne.symm (cne x c hc)),fun j y v' e1 e2 e3 => ?_⟩,fun y c' e => ?_,I.free,I.freeC,fun p hp => ?_,tracked ⟨oc,hoc,I.freeC x c hc⟩ hs,by simpa using I.len⟩ ⟨c,hs,.inr hc⟩
    · exact (hs.2 b (Nat.ne_of_lt (Nat.lt_of_lt_of_le (Heap.lt_size e) (I.ok.cab x c hfn hc)))).trans (I.base.keep b o e n hb hx)
    · obtain ⟨sl,e1⟩ := I.base.slot b o e n hb hx
      exact ⟨sl,(hs.2 b (Nat.ne_of_lt (Nat.lt_of_lt_of_le (Heap.lt_size e) (I.ok.cab x c hfn hc)))).trans e1⟩
    · obtain ⟨o',e1⟩ := I.base.there b o e hx
      exact ⟨o',(hs.2 b (Nat.ne_of_lt (Nat.lt_of_lt_of_le (Heap.lt_size e) (I.ok.cab x c hfn hc)))).trans e1⟩
    · by_cases hj : j = i
      · subst hj
        rw [hi] at e1; cases e1
        rw [List.getElem?_set_self hiσ] at e2
        cases e2
        exact ⟨u,r,.inr ⟨.inl hk,c,hc,hc'⟩⟩
      · rw [List.getElem?_set_ne (Ne.symm hj)] at e2
        obtain ⟨u',r',q⟩ := hl j y v' e1 e2 e3
        refine ⟨u',r',?_⟩
        rcases q with q | ⟨k,c',e,z'⟩
        · exact .inl q
        · refine .inr ⟨k,c',e,z'.sameBut hs ?_⟩
          rintro rfl
          exact hj (nodup_ix hN e1 (I.ok.inj _ _ _ e hc ▸ hi))
    · by_cases hcc : c' = c
      · subst hcc; exact ⟨_,hc'⟩
      · obtain ⟨w2,z2⟩ := I.cell y c' e
        exact ⟨w2,z2.sameBut hs hcc⟩
    · obtain ⟨e,n,ne,nf,d⟩ := I.pin p hp
      refine ⟨(hs.2 p.1 ?_).trans e,n,ne,nf,d⟩
      intro q
      rw [q,hoc] at e
      have q' : oc = p.2 := Option.some.inj e
      exact d w' (by rw [← q']; exact hocd)
theorem store_ok {M : Model} {A : Around} {E : Value → Shared → Prop} {i : Nat} {x : Str} {v : V} {u : Value} {Q : Unit → Shared → Prop} (I : Inv X pins σ H s) (hN : X.N.Nodup) (hi : X.N[i]? = some x) (hx : Loc X.env.scope x) (r : RelV v u)
    (h : ∀ s',Inv X pins (σ.set i (some v)) H s' → Q () s') (hf : X.fn x = true ∨ X.env.scope.names.lookup x = some .local := by first | exact .inl rfl | exact .inr rfl | assumption) : wpAny M A (storeName X.env x u) Q E s :=
  store_ok2 I hN hi hx r (fun s' I' _ => h s' I') hf
theorem Inv.call' {s' : Shared} {ch : List Addr} (I : Inv X pins σ H s) (ho : s'.os = s.os) (u : Un (frs X.stack) ch H H' s.heap s'.heap) (hok : HOk X.prog X.w H' s'.heap) (hg : AllBare s'.gens)
    (hch : ∀ b ∈ ch,(b ∈ X.ex ∨ X.s₀.heap.objs.size ≤ b) ∧ b ≠ X.env.locals ∧ (∀ x c,X.env.cells.lookup x = some c → c ≠ b) ∧ ∀ p ∈ X.pn ++ pins,p.1 ≠ b) : Inv X pins σ H' s' := by
  obtain ⟨h',g',d',t',o'⟩ := s'
  have e : o' = s.os := ho
  subst e
  exact I.call (g' := g') (t' := t') (d' := d') u hok hg hch
end
noncomputable abbrev XK := Value → Option Addr → Hp → Prop
noncomputable abbrev St := List (Option V)
noncomputable abbrev VK := V → Hp → Prop
noncomputable abbrev TE := St → Hp → VK → Prop
noncomputable abbrev TT := St → Hp → (Bool → Hp → Prop) → Prop
noncomputable abbrev TA := St → Hp → (List V → Hp → Prop) → Prop
structure Ends where
  nx : St → Hp → Prop
  rt : VK
  bk : St → Hp → Prop := fun _ _ => False
  ct : St → Hp → Prop := fun _ _ => False
noncomputable abbrev TS := Ends → St → Hp → Prop
noncomputable def EP (X : Cx) (pins : List (Addr × Obj)) (σ : St) (Q : VK) (u : Value) (s' : Shared) : Prop := ∃ v H',Inv X pins σ H' s' ∧ RelV v u ∧ Q v H'
noncomputable def TP (X : Cx) (pins : List (Addr × Obj)) (σ : St) (Q : Bool → Hp → Prop) (b : Bool) (s' : Shared) : Prop := ∃ H',Inv X pins σ H' s' ∧ Q b H'
noncomputable def AP (X : Cx) (pins : List (Addr × Obj)) (σ : St) (Q : List V → Hp → Prop) (us : List Value) (s' : Shared) : Prop := ∃ vs H',Inv X pins σ H' s' ∧ Vals vs us ∧ Q vs H'
noncomputable def SP (X : Cx) (pins : List (Addr × Obj)) (D : Ends) (f : Flow) (s' : Shared) : Prop :=
  match f with
  | .next => ∃ σ' H',Inv X pins σ' H' s' ∧ D.nx σ' H'
  | .brk => ∃ σ' H',Inv X pins σ' H' s' ∧ D.bk σ' H'
  | .cont => ∃ σ' H',Inv X pins σ' H' s' ∧ D.ct σ' H'
  | .ret u => ∃ v σ' H',Inv X pins σ' H' s' ∧ RelV v u ∧ D.rt v H'
noncomputable def PE (X : Cx) (e : Expr) (t : TE) : Prop :=
  ∀ (pins : List (Addr × Obj)) (s : Shared) (σ : St) (H : Hp) (Q : VK),Inv X pins σ H s → t σ H Q → wpAny (model X.prog X.w) X.A (eval e X.env) (EP X pins σ Q) X.xe s
noncomputable def PT (X : Cx) (e : Expr) (t : TT) : Prop :=
  ∀ (pins : List (Addr × Obj)) (s : Shared) (σ : St) (H : Hp) (Q : Bool → Hp → Prop),Inv X pins σ H s → t σ H Q → wpAny (model X.prog X.w) X.A (isTrue e X.env (eval e X.env)) (TP X pins σ Q) X.xe s
noncomputable def PW (X : Cx) (e : Expr) (t : TT) : Prop :=
  ∀ (whole : Sem Value) (pins : List (Addr × Obj)) (s : Shared) (σ : St) (H : Hp) (Q : Bool → Hp → Prop),Inv X pins σ H s → t σ H Q → wpAny (model X.prog X.w) X.A (isTrue e X.env whole) (TP X pins σ Q) X.xe s
theorem PW.pt {X : Cx} {e : Expr} {t : TT} (h : PW X e t) : PT X e t := h _
noncomputable def PA (X : Cx) (es : List Expr) (t : TA) : Prop :=
  ∀ (pos : Pos) (pins : List (Addr × Obj)) (s : Shared) (σ : St) (H : Hp) (Q : List V → Hp → Prop),Inv X pins σ H s → t σ H Q → wpAny (model X.prog X.w) X.A (spliced (backTo pos (starEach es X.env))) (AP X pins σ Q) X.xe s
noncomputable def PS (X : Cx) (st : Stmt) (t : TS) : Prop :=
  ∀ (pins : List (Addr × Obj)) (s : Shared) (σ : St) (H : Hp) (D : Ends),Inv X pins σ H s → t D σ H → wpAny (model X.prog X.w) X.A (exec st X.env) (SP X pins D) X.xe s
noncomputable def PSs (X : Cx) (st : List Stmt) (t : TS) : Prop :=
  ∀ (pins : List (Addr × Obj)) (s : Shared) (σ : St) (H : Hp) (D : Ends),Inv X pins σ H s → t D σ H → wpAny (model X.prog X.w) X.A (execs st X.env) (SP X pins D) X.xe s
theorem thn {α : Type} {t : Sem α} {Q Q' : α → Shared → Prop} {M : Model} {A : Around} {E : Value → Shared → Prop} {s : Shared} (h : wpAny M A t Q E s) (hQ : ∀ a s,Q a s → Q' a s) : wpAny M A t Q' E s := wpAny_mono h hQ fun _ _ x => x
end L2
namespace L2
open PySem PySem.Spec PyProof.Rows
section
variable {X : Cx}
inductive SVar (i : Nat) (σ : St) (H : Hp) (Q : VK) : Prop | mk (v : V) (h : σ[i]? = some (some v)) (q : Q v H)
noncomputable def tVar (i : Nat) : TE := fun σ H Q => SVar i σ H Q
noncomputable def tC (v : V) : TE := fun _ H Q => Q v H
theorem pe_var {i : Nat} {x : Str} {pos : Pos} (hN : X.N[i]? = some x) (hv : Vis X.env.scope x) (hd : (x == ("__debug__" : Str)) = false := by decide) (hcd : (x == ("__classdict__" : Str)) = false := by decide) : PE X (.Name x pos) (tVar i) := by
  intro pins s σ H Q I h
  obtain ⟨v,e,h⟩ := h
  obtain ⟨m,hn,hl⟩ := I.loc
  obtain ⟨u,r,l⟩ := hl i x v hN e hv
  have fin : EP X pins σ Q u s := ⟨v,H,I,r,h⟩
  rcases l with ⟨hk,hm⟩ | ⟨hk,c,hc,hcell⟩
  · exact wpAny_Name (wpAny_loadName_local I.ok.kind hk hn hm fin) hd
  · rcases hk with hk | hk
    · exact wpAny_Name (wpAny_loadName_cell I.ok.kind hk hc hcell fin) hd
    · exact wpAny_Name (wpAny_loadName_free I.ok.kind hk hc hcell fin hcd) hd
theorem pe_int {i j pos} : PE X (.Constant (.int i) j pos) (tC (.int i)) := fun _ _ _ H _ I h => wpAny_Constant_int ⟨.int i,H,I.tok _,⟨_,rfl⟩,h⟩
theorem pe_bl {b j pos} : PE X (.Constant (.bool b) j pos) (tC (.bl b)) := fun _ _ _ H _ I h => Constant_bool ⟨.bl b,H,I,rfl,h⟩
theorem pe_str {x j pos} : PE X (.Constant (.str x) j pos) (tC (.str x)) := fun _ _ _ H _ I h => Calls.Constant_str ⟨.str x,H,I.tok _,⟨_,rfl⟩,h⟩
noncomputable def Gl (X : Cx) (x : Str) : Prop := X.env.kindOf x = some .globalImplicit
theorem ld_glob {E : Value → Shared → Prop} {pins : List (Addr × Obj)} {s : Shared} {σ : St} {H : Hp} {x : Str} {u : Value} {pos : Pos} {Q : Value → Shared → Prop} (I : Inv X pins σ H s) (hg : Gl X x) (hm : X.mg x = some u) (h : Q u s)
    (hd : (x == ("__debug__" : Str)) = false := by decide) : wpAny (model X.prog X.w) X.A (eval (.Name x pos) X.env) Q E s :=
  Calls.Name_function_global I.ok.kind hg (Calls.loadGlobal_global (by rw [I.ok.glob]; exact I.mod.glob.keeps I.bk) hm h) hd
theorem ld_blt {E : Value → Shared → Prop} {pins : List (Addr × Obj)} {s : Shared} {σ : St} {H : Hp} {x : Str} {u : Value} {pos : Pos} {Q : Value → Shared → Prop} (I : Inv X pins σ H s) (hg : Gl X x) (hm : X.mg x = none) (hv : bootBuiltins x = some u) (h : Q u s)
    (hn : x ≠ "__name__" := by decide) (hd : (x == ("__debug__" : Str)) = false := by decide) : wpAny (model X.prog X.w) X.A (eval (.Name x pos) X.env) Q E s := by
  obtain ⟨mb,h1,h2⟩ := I.mod.blt
  exact Calls.Name_function_global I.ok.kind hg (Calls.loadGlobal_builtin (by rw [I.ok.glob]; exact I.mod.glob.keeps I.bk) hm (by rw [I.ok.blt]; exact h1.keeps I.bk) ((h2 x hn).trans hv) h) hd
theorem pe_glob {x : Str} {v : V} {u : Value} {pos : Pos} (hg : Gl X x) (hm : X.mg x = some u) (r : RelV v u) (hd : (x == ("__debug__" : Str)) = false := by decide) : PE X (.Name x pos) (tC v) :=
  fun _ _ _ H _ I h => ld_glob I hg hm ⟨v,H,I,r,h⟩ hd
variable {a b : Expr} {ta tb : TE} {pos : Pos}
noncomputable def PC (X : Cx) (op : CmpOp) (a b : Expr) (t : TE) : Prop :=
  ∀ (pins : List (Addr × Obj)) (s : Shared) (σ : St) (H : Hp) (Q : VK),Inv X pins σ H s → t σ H Q →
    wpAny (model X.prog X.w) X.A (eval a X.env) (fun v s₁ => wpAny (model X.prog X.w) X.A (eval b X.env) (fun u s₂ => wpAny (model X.prog X.w) X.A (compareOp op v u) (EP X pins σ Q) X.xe s₂) X.xe s₁) X.xe s
noncomputable def tB (t : TE) : TT := fun σ H Q => t σ H fun x H1 => ∃ c,x = .bl c ∧ Q c H1
theorem pt_cmp {op : CmpOp} {t : TE} (h : PC X op a b t) (h1 : behindInMarks op b = false := by first | exact nobehind _ (by decide) (by decide) | rfl) : PT X (.Compare a [op] [b] pos) (tB t) := by
  intro pins s σ H Q I hw
  refine wpAny_isTrue_Compare1 (thn (h pins s σ H _ I hw) fun v s1 h1 => thn h1 fun u s2 h2 => thn h2 fun c s3 ⟨x,H1,I1,r1,q1⟩ => ?_) h1
  obtain ⟨d,rfl,q⟩ := q1
  cases r1
  exact wpAny_truthy_bool ⟨H1,I1,q⟩
variable {tA tB' : TT} {rest : List Expr}
noncomputable def tAnd (t u : TT) : TT := fun σ H Q => t σ H fun c H1 => if c = true then u σ H1 Q else Q false H1
noncomputable def tOr (t u : TT) : TT := fun σ H Q => t σ H fun c H1 => if c = true then Q true H1 else u σ H1 Q
theorem pw_and1 (ha : PT X a tA) : PW X (.BoolOp .And [a] pos) tA := by
  intro wh pins s σ H Q I h
  refine isTrue_and (thn (ha pins s σ H Q I h) fun c s1 e => ?_)
  cases c with
  | true => exact isTrue_and_nil e
  | false => exact e
theorem pw_or1 (ha : PT X a tA) : PW X (.BoolOp .Or [a] pos) tA := by
  intro wh pins s σ H Q I h
  refine isTrue_or (thn (ha pins s σ H Q I h) fun c s1 e => ?_)
  cases c with
  | false => exact isTrue_or_nil e
  | true => exact e
theorem pw_and (ha : PT X a tA) (hb : PW X (.BoolOp .And (b :: rest) pos) tB') : PW X (.BoolOp .And (a :: b :: rest) pos) (tAnd tA tB') := by
  intro wh pins s σ H Q I h
  refine isTrue_and (thn (ha pins s σ H _ I h) fun c s1 ⟨H1,I1,q1⟩ => ?_)
  cases c with
  | true => exact hb wh pins s1 σ H1 Q I1 q1
  | false => exact ⟨H1,I1,q1⟩
theorem pw_or (ha : PT X a tA) (hb : PW X (.BoolOp .Or (b :: rest) pos) tB') : PW X (.BoolOp .Or (a :: b :: rest) pos) (tOr tA tB') := by
  intro wh pins s σ H Q I h
  refine isTrue_or (thn (ha pins s σ H _ I h) fun c s1 ⟨H1,I1,q1⟩ => ?_)
  cases c with
  | true => exact ⟨H1,I1,q1⟩
  | false => exact hb wh pins s1 σ H1 Q I1 q1
noncomputable def tAndV (ta tb : TE) : TE := fun σ H Q => ta σ H fun x H1 => ∃ c,x = .bl c ∧ if c = true then tb σ H1 Q else Q (.bl false) H1
noncomputable def tOrV (ta tb : TE) : TE := fun σ H Q => ta σ H fun x H1 => ∃ c,x = .bl c ∧ if c = true then Q (.bl true) H1 else tb σ H1 Q
theorem pe_one {op} {t : TE} (h : PE X a t) : PE X (.BoolOp op [a] pos) t := fun pins s σ H Q I hw => BoolOp_one (h pins s σ H Q I hw)
theorem pe_and (ha : PE X a ta) (hb : PE X (.BoolOp .And (b :: rest) pos) tb) : PE X (.BoolOp .And (a :: b :: rest) pos) (tAndV ta tb) := by
  intro pins s σ H Q I h
  refine BoolOp_and (thn (ha pins s σ H _ I h) fun v s1 ⟨x,H1,I1,r1,q1⟩ => ?_)
  obtain ⟨c,rfl,q1⟩ := q1
  cases r1
  refine wpAny_truthy_bool ?_
  cases c with
  | true => exact hb pins s1 σ H1 Q I1 q1
  | false => exact ⟨.bl false,H1,I1,rfl,q1⟩
theorem pe_or (ha : PE X a ta) (hb : PE X (.BoolOp .Or (b :: rest) pos) tb) : PE X (.BoolOp .Or (a :: b :: rest) pos) (tOrV ta tb) := by
  intro pins s σ H Q I h
  refine BoolOp_or (thn (ha pins s σ H _ I h) fun v s1 ⟨x,H1,I1,r1,q1⟩ => ?_)
  obtain ⟨c,rfl,q1⟩ := q1
  cases r1
  refine wpAny_truthy_bool ?_
  cases c with
  | false => exact hb pins s1 σ H1 Q I1 q1
  | true => exact ⟨.bl true,H1,I1,rfl,q1⟩
noncomputable def tIf (t : TT) (ta tb : TE) : TE := fun σ H Q => t σ H fun c H1 => if c = true then ta σ H1 Q else tb σ H1 Q
theorem pe_ifExp {c : Expr} (hc : PT X c tA) (ha : PE X a ta) (hb : PE X b tb) : PE X (.IfExp c a b pos) (tIf tA ta tb) := by
  intro pins s σ H Q I h
  refine wpAny_IfExp (thn (hc pins s σ H _ I h) fun d s1 ⟨H1,I1,q1⟩ => ?_)
  cases d with
  | true => exact ha pins s1 σ H1 Q I1 q1
  | false => exact hb pins s1 σ H1 Q I1 q1
end
end L2
namespace L2
open PySem PySem.Spec PyProof.Rows
noncomputable def SqL (K : PySem.W.Frag) (H : Hp) (a : Addr) (xs : List V) : Prop :=
  Rd H a (.lst xs) ∨
    ∃ (o : Obj) (its : Array Value) (n : Nat),K.lookup a = some o ∧ o.cls = .type "list" ∧ o.dict = none ∧ o.data = .seq its n ∧ its.size ≤ sizeLine ∧ Vals xs its.toList
noncomputable def SqT (K : PySem.W.Frag) (H : Hp) (a : Addr) (xs : List V) : Prop :=
  Rd H a (.tup xs) ∨
    ∃ (o : Obj) (its : Array Value) (n : Nat),K.lookup a = some o ∧ o.cls = .type "tuple" ∧ o.data = .seq its n ∧ its.size ≤ sizeLine ∧ Vals xs its.toList
noncomputable def absV : Value → Option V
  | .none => some .non
  | .bool b => some (.bl b)
  | .int i _ => some (.int i)
  | .str x _ => some (.str x)
  | .bytes b _ => some (.byt b)
  | .float b _ => some (.flt b)
  | .ref a => some (.ref a)
  | .type n => some (.ty n)
  | _ => none
theorem RelV.abs {x : V} {u : Value} (r : RelV x u) : absV u = some x := by
  cases x with
  | non => cases r; rfl
  | bl _ => cases r; rfl
  | int _ => obtain ⟨t,rfl⟩ := r; rfl
  | str _ => obtain ⟨t,rfl⟩ := r; rfl
  | byt _ => obtain ⟨t,rfl⟩ := r; rfl
  | flt _ => obtain ⟨t,rfl⟩ := r; rfl
  | ref _ => cases r; rfl
  | ty _ => cases r; rfl
theorem RelV.inj {x y : V} {u : Value} (r : RelV x u) (q : RelV y u) : x = y := Option.some.inj (r.abs.symm.trans q.abs)
theorem Vals.inj {xs ys : List V} {us : List Value} (h : Vals xs us) (h' : Vals ys us) : xs = ys := by
  induction h generalizing ys with
  | nil => cases h'; rfl
  | cons r t ih =>
    cases h' with
    | cons r' t' => rw [r.inj r',ih t']
section
variable {X : Cx} {pins : List (Addr × Obj)} {σ : St} {H : Hp} {s : Shared} {a : Addr} {xs ys : List V}
theorem SqL.of {K : PySem.W.Frag} (h : H a = some (.lst xs)) : SqL K H a xs := .inl (.inl h)
theorem SqT.of {K : PySem.W.Frag} (h : H a = some (.tup xs)) : SqT K H a xs := .inl (.inl h)
theorem Inv.list (I : Inv X pins σ H s) (h : SqL X.K H a xs) : ∃ its : List Value,Vals xs its ∧ PlainL s.heap a its.toArray ∧ xs.length ≤ sizeLine := by
  rcases h with h | ⟨o,its,n,hk,hc,hd,hs,hz,r⟩
  · obtain ⟨z,its,n,r,e⟩ := h.ok I.hok
    exact ⟨its,r,⟨_,n,e,rfl,rfl,rfl⟩,z⟩
  · refine ⟨its.toList,r,⟨o,n,I.kIn a o hk,hc,hd,by simpa using hs⟩,?_⟩
    have e := r.length
    simp only [Array.length_toList] at e
    omega
theorem Inv.tuple (I : Inv X pins σ H s) (h : SqT X.K H a xs) : ∃ its : List Value,Vals xs its ∧ IsTup s.heap a its.toArray ∧ xs.length ≤ sizeLine := by
  rcases h with h | ⟨o,its,n,hk,hc,hs,hz,r⟩
  · obtain ⟨z,its,r,p⟩ := h.ok I.hok
    exact ⟨its,r,p,z⟩
  · refine ⟨its.toList,r,⟨o,I.kIn a o hk,hc,n,by simpa using hs⟩,?_⟩
    have e := r.length
    simp only [Array.length_toList] at e
    omega
theorem Inv.list_inj (I : Inv X pins σ H s) (h : SqL X.K H a xs) (h' : SqL X.K H a ys) : xs = ys := by
  obtain ⟨its,r,⟨o,n,e,_,_,d⟩,_⟩ := I.list h
  obtain ⟨its',r',⟨o',n',e',_,_,d'⟩,_⟩ := I.list h'
  rw [e] at e'; cases e'
  rw [d] at d'
  injection d' with d1 _
  have : its = its' := by simpa using congrArg Array.toList d1
  subst this
  exact r.inj r'
theorem Inv.tuple_inj (I : Inv X pins σ H s) (h : SqT X.K H a xs) (h' : SqT X.K H a ys) : xs = ys := by
  obtain ⟨its,r,⟨o,e,_,n,d⟩,_⟩ := I.tuple h
  obtain ⟨its',r',⟨o',e',_,n',d'⟩,_⟩ := I.tuple h'
  rw [e] at e'; cases e'
  rw [d] at d'
  injection d' with d1 _
  have : its = its' := by simpa using congrArg Array.toList d1
  subst this
  exact r.inj r'
end
noncomputable abbrev Cx.wish (X : Cx) (E : Value → Shared → Prop) : Cx := { X with xe := E }
noncomputable abbrev Cx.nox (X : Cx) : Cx := X.wish fun _ _ => False
theorem Cx.Ok.wish {X : Cx} (ok : X.Ok) (E : Value → Shared → Prop) : (X.wish E).Ok :=
  ⟨ok.mod,ok.kind,ok.glob,ok.blt,ok.above,ok.inj,ok.has,ok.cab,ok.hd,ok.frames,ok.stk,ok.exf,ok.bs,ok.bsz,ok.noex,ok.exfs,ok.funs,ok.frf⟩
theorem Cx.Ok.unwish {X : Cx} {E : Value → Shared → Prop} (ok : (X.wish E).Ok) : X.Ok :=
  ⟨ok.mod,ok.kind,ok.glob,ok.blt,ok.above,ok.inj,ok.has,ok.cab,ok.hd,ok.frames,ok.stk,ok.exf,ok.bs,ok.bsz,ok.noex,ok.exfs,ok.funs,ok.frf⟩
section
variable {X : Cx} {pins : List (Addr × Obj)} {σ : St} {H : Hp} {s : Shared} {E : Value → Shared → Prop}
theorem Inv.wish (I : Inv X pins σ H s) (E : Value → Shared → Prop) : Inv (X.wish E) pins σ H s := ⟨I.ok.wish E,I.os,I.bare,I.base,I.loc,I.cell,I.free,I.freeC,I.pin,I.hok,I.len⟩
theorem Inv.unwish (I : Inv (X.wish E) pins σ H s) : Inv X pins σ H s := ⟨I.ok.unwish,I.os,I.bare,I.base,I.loc,I.cell,I.free,I.freeC,I.pin,I.hok,I.len⟩
theorem SP.unwish {D : Ends} {f : Flow} {s' : Shared} (h : SP (X.wish E) pins D f s') : SP X pins D f s' := by
  cases f with
  | next => obtain ⟨σ',H',I,q⟩ := h; exact ⟨σ',H',I.unwish,q⟩
  | brk => obtain ⟨σ',H',I,q⟩ := h; exact ⟨σ',H',I.unwish,q⟩
  | cont => obtain ⟨σ',H',I,q⟩ := h; exact ⟨σ',H',I.unwish,q⟩
  | ret u => obtain ⟨v,σ',H',I,r,q⟩ := h; exact ⟨v,σ',H',I.unwish,r,q⟩
theorem PSs.nox {st : List Stmt} {t : TS} (h : PSs X.nox st t) : PSs X st t := fun pins s σ H D I hw =>
  wpAny_mono (h pins s σ H D (I.wish _) hw) (fun _ _ q => q.unwish) fun _ _ z => False.elim z
end
section
variable {X : Cx} {st : Stmt} {rest : List Stmt} {t u : TS} {e : Expr} {te : TE} {pos : Pos}
noncomputable def tNext : TS := fun D σ H => D.nx σ H
noncomputable def tSeq (t u : TS) : TS := fun D σ H => t { D with nx := u D } σ H
theorem pss_nil : PSs X [] tNext := fun _ _ σ H _ I h => wpAny_execs_nil ⟨σ,H,I,h⟩
theorem pss_cons (h1 : PS X st t) (h2 : PSs X rest u) : PSs X (st :: rest) (tSeq t u) := by
  intro pins s σ H D I h
  refine wpAny_execs_cons (thn (h1 pins s σ H { D with nx := u D } I h) fun f s1 q => ?_)
  cases f with
  | next =>
    obtain ⟨σ',H',I',q⟩ := q
    exact h2 pins s1 σ' H' D I' q
  | ret v => exact q
  | brk => exact q
  | cont => exact q
theorem pss_one (h1 : PS X st t) : PSs X [st] t := by
  intro pins s σ H D I h
  refine wpAny_execs_cons (thn (h1 pins s σ H D I h) fun f s1 q => ?_)
  cases f with
  | next => exact wpAny_execs_nil q
  | ret v => exact q
  | brk => exact q
  | cont => exact q
theorem Inv.quiet {pins : List (Addr × Obj)} {σ : St} {H : Hp} {s : Shared} (I : Inv X pins σ H s) : interactive X.env = false := by simp [interactive,I.ok.kind]
noncomputable def tDrop (te : TE) : TS := fun D σ H => te σ H fun _ H1 => D.nx σ H1
theorem ps_expr (he : PE X e te) (hs : swapsWith e none pos.line X.env = pure false := by rfl) : PS X (.Expr e pos) (tDrop te) := by
  intro pins s σ H D I h
  exact wpAny_Expr_any (thn (he pins s σ H _ I h) fun v s1 ⟨x,H1,I1,r1,q1⟩ => ⟨σ,H1,I1,q1⟩) I.quiet hs
noncomputable def tRet (te : TE) : TS := fun D σ H => te σ H D.rt
theorem ps_ret (he : PE X e te) : PS X (.Return (some e) pos) (tRet te) := by
  intro pins s σ H D I h
  exact wpAny_Return_some (thn (he pins s σ H _ I h) fun v s1 ⟨x,H1,I1,r1,q1⟩ => ⟨x,σ,H1,I1,r1,q1⟩)
noncomputable def tIfS (c : TT) (t u : TS) : TS := fun D σ H => c σ H fun b H1 => if b = true then t D σ H1 else u D σ H1
theorem ps_if {c : Expr} {a b : List Stmt} {tc : TT} (hc : PT X c tc) (ha : PSs X a t) (hb : PSs X b u) : PS X (.If c a b pos) (tIfS tc t u) := by
  intro pins s σ H D I h
  refine wpAny_If (thn (hc pins s σ H _ I h) fun d s1 ⟨H1,I1,q1⟩ => ?_)
  cases d with
  | true => exact ha pins s1 σ H1 D I1 q1
  | false => exact hb pins s1 σ H1 D I1 q1
noncomputable def tNever : TS := fun _ _ _ => False
theorem ps_never : PS X st tNever := fun _ _ _ _ _ _ h => h.elim
end
noncomputable abbrev TG := V → St → Hp → (St → Hp → Prop) → Prop
noncomputable abbrev TGs := List V → St → Hp → (St → Hp → Prop) → Prop
noncomputable def PG (X : Cx) (target : Expr) (t : TG) : Prop :=
  ∀ (pins : List (Addr × Obj)) (s : Shared) (σ : St) (H : Hp) (v : V) (u : Value) (Q : St → Hp → Prop),Inv X pins σ H s → RelV v u → t v σ H Q →
    wpAny (model X.prog X.w) X.A (assign target X.env u) (fun _ s' => ∃ σ' H',Inv X pins σ' H' s' ∧ Q σ' H') X.xe s
noncomputable def PGs (X : Cx) (ts : List Expr) (t : TGs) : Prop :=
  ∀ (pins : List (Addr × Obj)) (s : Shared) (σ : St) (H : Hp) (vs : List V) (us : List Value) (Q : St → Hp → Prop),Inv X pins σ H s → Vals vs us → t vs σ H Q →
    wpAny (model X.prog X.w) X.A (assignInOrder ((assignEach ts X.env).map (·.2)) us) (fun _ s' => ∃ σ' H',Inv X pins σ' H' s' ∧ Q σ' H') X.xe s
noncomputable abbrev TSet := V → V → V → Hp → (Hp → Prop) → Prop
noncomputable def PSet (X : Cx) (t : TSet) : Prop :=
  ∀ (pins : List (Addr × Obj)) (s : Shared) (σ : St) (H : Hp) (o i v : V) (ov iv u : Value) (Q : Hp → Prop),Inv X pins σ H s → RelV o ov → RelV i iv → RelV v u → t o i v H Q →
    wpAny (model X.prog X.w) X.A (setItem ov iv u) (fun _ s' => ∃ H',Inv X pins σ H' s' ∧ Q H') X.xe s
section
variable {X : Cx} {pos : Pos}
noncomputable def gName (i : Nat) : TG := fun v σ H Q => Q (σ.set i (some v)) H
theorem pg_name {i : Nat} {x : Str} (hN : X.N.Nodup) (hi : X.N[i]? = some x) (hx : Loc X.env.scope x) (hf : X.fn x = true ∨ X.env.scope.names.lookup x = some .local := by first | exact .inl rfl | exact .inr rfl | assumption) : PG X (.Name x pos) (gName i) := by
  intro pins s σ H v u Q I r h
  exact wpAny_assign_Name (store_ok I hN hi hx r (fun s' I' => ⟨_,H,I',h⟩) hf)
noncomputable def gNil : TGs := fun vs σ H Q => vs = [] ∧ Q σ H
inductive SCons (t : TG) (u : TGs) (vs : List V) (σ : St) (H : Hp) (Q : St → Hp → Prop) : Prop | mk (v : V) (r : List V) (h : vs = v :: r) (q : t v σ H fun σ' H' => u r σ' H' Q)
noncomputable def gCons (t : TG) (u : TGs) : TGs := fun vs σ H Q => SCons t u vs σ H Q
theorem pgs_nil : PGs X [] gNil := by
  intro pins s σ H vs us Q I r h
  obtain ⟨e,h⟩ := h
  subst e
  cases r
  exact assignInOrder_nil ⟨σ,H,I,h⟩
theorem pgs_cons {e : Expr} {es : List Expr} {t : TG} {u : TGs} (h1 : PG X e t) (h2 : PGs X es u)
    (hs : (assignEach (e :: es) X.env).map (·.2) = assign e X.env :: (assignEach es X.env).map (·.2) := by rfl) : PGs X (e :: es) (gCons t u) := by
  intro pins s σ H vs us Q I r h
  obtain ⟨v,vr,e1,h⟩ := h
  subst e1
  cases r with
  | cons r rr =>
    rw [hs]
    refine assignInOrder_cons (thn (h1 pins s σ H _ _ _ I r h) fun _ s1 ⟨σ1,H1,I1,q1⟩ => ?_)
    exact h2 pins s1 σ1 H1 _ _ Q I1 rr q1
noncomputable def gTup (K : PySem.W.Frag) (n : Nat) (t : TGs) : TG := fun v σ H Q => ∃ a xs,v = .ref a ∧ SqT K H a xs ∧ xs.length = n ∧ t xs σ H Q
theorem pg_tup {es : List Expr} {k : Nat} {t : TGs} {n : Nat} (hc : X.calm = true) (h : PGs X es t)
    (hn : (assignEach es X.env).length = n := by rfl) (hst : (assignEach es X.env).findIdx? (·.1) = none := by rfl) : PG X (.Tuple es k pos) (gTup X.K n t) := by
  intro pins s σ H v u Q I r hw
  obtain ⟨a,xs,e1,hq,hl,hw⟩ := hw
  subst e1
  cases r
  obtain ⟨its,rv,ht,hz⟩ := I.tuple hq
  refine assign_Tuple_tuple (I.ok.hd hc) ht (by simp [hn,← hl,rv.length]) hst fun h' hx => ?_
  have I1 : Inv X pins σ H { s with heap := h' } := I.kept (t' := s.toks) fun b o e => hx b o (Nat.ne_of_lt (Heap.lt_size e)) e
  exact h pins _ σ H xs _ Q I1 (by simpa using rv) hw
noncomputable def gSub (to ti : TE) (t : TSet) : TG := fun v σ H Q => to σ H fun o H1 => ti σ H1 fun i H2 => t o i v H2 fun H3 => Q σ H3
theorem pg_sub {o i : Expr} {to ti : TE} {t : TSet} (ho : PE X o to) (hi : PE X i ti) (hs : PSet X t)
    (ha : ∀ v,assign (.Subscript o i pos) X.env v = (do
      let ov ← holding [v] (eval o X.env)
      let iv ← holding [v,ov] (eval i X.env)
      standAt pos
      holding [v,ov,iv] (setItem ov iv v)
      release [v,ov,iv] []) := by intro _; rfl) : PG X (.Subscript o i pos) (gSub to ti t) := by
  intro pins s σ H v u Q I r h
  rw [ha]
  refine wpAny_bind (wpAny_holding (thn (ho pins s σ H _ I h) fun ov s1 ⟨x,H1,I1,r1,q1⟩ => ?_))
  refine wpAny_bind (wpAny_holding (thn (hi pins s1 σ H1 _ I1 q1) fun iv s2 ⟨y,H2,I2,r2,q2⟩ => ?_))
  refine wpAny_bind (wpAny_standAt (wpAny_bind (wpAny_holding (thn (hs pins s2 σ H2 x y v ov iv u _ I2 r1 r2 r q2) fun _ s3 ⟨H3,I3,q3⟩ => ?_))))
  exact wpAny_release ⟨σ,H3,I3,q3⟩
noncomputable def tAsg (te : TE) (g : TG) : TS := fun D σ H => te σ H fun x H1 => g x σ H1 D.nx
theorem ps_asg {tg e : Expr} {te : TE} {g : TG} (he : PE X e te) (hg : PG X tg g) (hs : swapsWithSole [tg] e pos.line X.env = pure false := by rfl) (hw : swappedStores [tg] e X.env = pure none := by rfl)
    (h1 : (assignEach [tg] X.env).map (·.2) = [assign tg X.env] := by rfl) : PS X (.Assign [tg] e pos) (tAsg te g) := by
  intro pins s σ H D I h
  refine wpAny_Assign_stores (thn (he pins s σ H _ I h) fun v s1 ⟨x,H1,I1,r1,q1⟩ => ?_) hs hw
  rw [h1]
  exact thn (hg pins s1 σ H1 x v _ I1 r1 q1) fun _ s2 q => q
theorem ps_set {i : Nat} {x : Str} {e : Expr} {te : TE} {pos' : Pos} (hN : X.N.Nodup) (hi : X.N[i]? = some x) (hx : Loc X.env.scope x) (he : PE X e te) (hs : swapsWith e (some (.Name x pos')) pos.line X.env = pure false := by rfl) (hf : X.fn x = true ∨ X.env.scope.names.lookup x = some .local := by first | exact .inl rfl | exact .inr rfl | assumption) :
    PS X (.Assign [.Name x pos'] e pos) (tAsg te (gName i)) := by
  intro pins s σ H D I h
  refine wpAny_Assign_Name (thn (he pins s σ H _ I h) fun v s1 ⟨y,H1,I1,r1,q1⟩ => ?_) hs
  exact store_ok I1 hN hi hx r1 (fun s2 I2 => ⟨_,H1,I2,q1⟩) hf
end
section
variable {X : Cx} {pos : Pos}
noncomputable def tWhile (c : TT) (tb : TS) : TS := fun D σ H => ∃ W : Nat → St → Hp → Prop,(∃ m,W m σ H) ∧ ∀ m σ H,W m σ H →
  c σ H fun b H1 => if b = true then ∃ N : St → Hp → Prop,(∀ σ' H',N σ' H' → ∃ m',m' < m ∧ W m' σ' H') ∧ tb { D with nx := N,ct := N,bk := D.nx } σ H1 else D.nx σ H1
theorem ps_while {c : Expr} {body : List Stmt} {tc : TT} {tb : TS} (hp : PassesOwn (model X.prog X.w) X.A X.env X.xe) (hc : PT X c tc) (hb : PSs X body tb) : PS X (.While c body [] pos) (tWhile tc tb) := by
  intro pins s σ H D I h
  obtain ⟨W,⟨m0,w0⟩,turn⟩ := h
  refine wpAny_While (codeAny_whileLoop (fun n s' => ∃ σ' H',Inv X pins σ' H' s' ∧ W n σ' H') ?_ m0 ⟨σ,H,I,w0⟩)
  rintro n s1 ⟨σ1,H1,I1,w1⟩
  refine wpAny_passesOwn hp (thn (hc pins s1 σ1 H1 _ I1 (turn n σ1 H1 w1)) fun b s2 ⟨H2,I2,q2⟩ => ?_)
  cases b with
  | true =>
    obtain ⟨N,hN,q2⟩ := q2
    rw [if_pos rfl]
    refine wpAny_passesOwn hp (thn (hb pins s2 σ1 H2 _ I2 q2) fun f s3 q3 => ?_)
    cases f with
    | next =>
      obtain ⟨σ3,H3,I3,n3⟩ := q3
      obtain ⟨m',hm,w3⟩ := hN σ3 H3 n3
      exact ⟨m',hm,σ3,H3,I3,w3⟩
    | cont =>
      obtain ⟨σ3,H3,I3,n3⟩ := q3
      obtain ⟨m',hm,w3⟩ := hN σ3 H3 n3
      exact ⟨m',hm,σ3,H3,I3,w3⟩
    | brk => exact q3
    | ret v => exact q3
  | false =>
    rw [if_neg Bool.false_ne_true]
    exact wpAny_execs_nil ⟨σ1,H2,I2,q2⟩
end
structure It where
  go : Nat → Hp → Prop
  yld : Nat → Hp → V → Hp → Prop
  stop : Nat → Hp → Prop
noncomputable def FpOk (X : Cx) (pins : List (Addr × Obj)) (H : Hp) (b : Addr) : Prop :=
  H b = none ∧ b ≠ X.env.locals ∧ b ∉ X.fs ∧ (b ∈ X.ex ∨ X.s₀.heap.objs.size ≤ b) ∧ (∀ x c,X.env.cells.lookup x = some c → c ≠ b) ∧ ∀ p ∈ X.pn ++ pins,p.1 ≠ b
theorem Inv.fpOk {X : Cx} {pins : List (Addr × Obj)} {σ : St} {H H' : Hp} {s : Shared} {b : Addr} (I : Inv X pins σ H s) (hb : s.heap.objs.size ≤ b) (hn : H' b = none) : FpOk X pins H' b := by
  refine ⟨hn,Nat.ne_of_gt (Nat.lt_of_lt_of_le I.lt hb),I.nofs hb,.inr (Nat.le_trans I.sz hb),fun x c e z => ?_,fun p hp z => ?_⟩
  · obtain ⟨v,q⟩ := I.cell x c e
    exact absurd (Nat.lt_of_lt_of_le q.lt (by rw [z]; exact hb)) (Nat.lt_irrefl _)
  · exact absurd (Nat.lt_of_lt_of_le (Heap.lt_size (I.pin p hp).1) (by rw [z]; exact hb)) (Nat.lt_irrefl _)
structure Turn (P : Program) (w : World) (K : PySem.W.Frag) (tg : Expr) (J : It) (fp : List Addr) (it : Addr) (tn : Nat → Heap → Prop) : Prop where
  mem : it ∈ fp
  obj : ∀ i h,tn i h → ∀ b ∈ fp,∃ o,h.get? b = some o ∧ ∀ v,o.data ≠ .cell v
  keep : ∀ i h h',tn i h → (∀ b ∈ fp,∀ o,h.get? b = some o → h'.get? b = some o) → tn i h'
  item : ∀ (X : Cx),X.prog = P → X.w = w → X.K = K → X.calm = true → ∀ (i : Nat) (pins : List (Addr × Obj)) (s : Shared) (σ : St) (H : Hp) (E : Value → Shared → Prop),Inv X pins σ H s → (∀ b ∈ fp,FpOk X pins H b) → tn i s.heap → J.go i H →
    wpAny (model P w) X.A (pyNext (.ref it)) (fun r s1 => ∃ u,r = some u ∧
      wpAny (model P w) X.A (letOwnedTupleGo tg (.ref it) u) (fun _ s2 => ∃ x H',Inv X pins σ H' s2 ∧ RelV x u ∧ J.yld i H x H' ∧ tn (i + 1) s2.heap ∧ ∀ b ∈ fp,H' b = none) E s1) E s
  done : ∀ (X : Cx),X.prog = P → X.w = w → X.K = K → X.calm = true → ∀ (i : Nat) (pins : List (Addr × Obj)) (s : Shared) (σ : St) (H : Hp) (E : Value → Shared → Prop),Inv X pins σ H s → (∀ b ∈ fp,FpOk X pins H b) → tn i s.heap → J.stop i H →
    wpAny (model P w) X.A (pyNext (.ref it)) (fun r s1 => r = none ∧ Inv X pins σ H s1) E s
  self : ∀ (A : Around) (i : Nat) (s : Shared) (Q : Value → Shared → Prop) (E : Value → Shared → Prop),tn i s.heap → Q (.ref it) s → wpAny (model P w) A (pyIter (.ref it)) Q E s
noncomputable abbrev TI := St → Hp → (It → Hp → Prop) → Prop
noncomputable def PIE (X : Cx) (pins : List (Addr × Obj)) (σ : St) (tg : Expr) (R : It → Hp → Prop) (itv : Value) (s2 : Shared) : Prop :=
  ∃ (it : Addr) (fp : List Addr) (tn : Nat → Heap → Prop) (J : It) (H' : Hp),itv = .ref it ∧ Inv X pins σ H' s2 ∧ Turn X.prog X.w X.K tg J fp it tn ∧ tn 0 s2.heap ∧ (∀ b ∈ fp,FpOk X pins H' b) ∧ R J H'
noncomputable def PI (X : Cx) (tg iter : Expr) (wi : TI) : Prop :=
  ∀ (pins : List (Addr × Obj)) (s : Shared) (σ : St) (H : Hp) (R : It → Hp → Prop),Inv X pins σ H s → wi σ H R →
    wpAny (model X.prog X.w) X.A (eval iter X.env) (fun v s1 => wpAny (model X.prog X.w) X.A (pyIter v) (PIE X pins σ tg R) X.xe s1) X.xe s
theorem go_of {M : Model} {A : Around} {E : Value → Shared → Prop} {s : Shared} {tg : Expr} {it : Addr} {u : Value} {o : Obj} {n : String} {vs : Array Value} {Q : Unit → Shared → Prop} (ho : s.heap.get? it = some o) (hc : o.cls = .type n) (hd : o.data = .fields vs)
    (hn : ["enumerate","zip","dict_itemiterator","dict_reverseitemiterator","odict_iterator","itertools.zip_longest","itertools.pairwise"].contains n = false) (hQ : Q () s) : wpAny M A (letOwnedTupleGo tg (.ref it) u) Q E s := by
  unfold letOwnedTupleGo
  cases tg <;> first
    | exact wpAny_pure hQ
    | (cases u <;> first
        | exact wpAny_pure hQ
        | (refine wpAny_bind (wpAny_load ho ?_)
           rw [hc,hd]
           show wpAny M A (if (["enumerate","zip","dict_itemiterator","dict_reverseitemiterator","odict_iterator","itertools.zip_longest","itertools.pairwise"].contains n && vs[0]? == some (rawInt _)) = true then _ else _) Q E s
           rw [if_neg (by intro h; rw [hn,Bool.false_and] at h; cases h)]
           exact wpAny_pure hQ))
noncomputable def Itl (K : PySem.W.Frag) (a : Addr) : It :=
  ⟨fun i H => ∃ xs x,SqL K H a xs ∧ xs[i]? = some x,fun i H x H' => H' = H ∧ ∀ xs,SqL K H a xs → xs[i]? = some x,fun i H => ∃ xs,SqL K H a xs ∧ xs.length ≤ i⟩
noncomputable def Itt (K : PySem.W.Frag) (a : Addr) : It :=
  ⟨fun i H => ∃ xs x,SqT K H a xs ∧ xs[i]? = some x,fun i H x H' => H' = H ∧ ∀ xs,SqT K H a xs → xs[i]? = some x,fun i H => ∃ xs,SqT K H a xs ∧ xs.length ≤ i⟩
noncomputable def Itr (lo : Int) (n : Nat) : It := ⟨fun i _ => i < n,fun i H x H' => H' = H ∧ x = .int (lo + i),fun i _ => n ≤ i⟩
theorem turn_list {P : Program} {w : World} {K : PySem.W.Frag} {tg : Expr} (a it : Addr) : Turn P w K tg (Itl K a) [it] it (fun i h => h.IsListIter it a i) where
  mem := by simp
  obj := fun i h st b hb => by
    have e : b = it := by simpa using hb
    subst e
    obtain ⟨o,e,c,d⟩ := st
    exact ⟨o,e,fun v z => by rw [d] at z; cases z⟩
  keep := fun i h h' st k => st.at fun o e => k it (by simp) o e
  item := by
    intro X hP hw hK hc i pins s σ H E I hf st hg
    subst hP hw hK
    obtain ⟨xs,x,hq,hx⟩ := hg
    obtain ⟨its,rv,p,hz⟩ := I.list hq
    obtain ⟨u,hu,ru⟩ := rv.get hx
    obtain ⟨f0,f1,f2,f3,f4,f5⟩ := hf it (by simp)
    refine wpAny_pyNext_list_item st p.isList (x := u) (by simpa using hu) fun h' st' sb => ?_
    have I1 : Inv X pins σ H { s with heap := h' } := I.turned (t' := s.toks) (fun b o hb e => (sb.2 b hb).trans e) f0 f1 f3 f4 f5
    obtain ⟨o,e,c,d⟩ := id st'
    exact ⟨u,rfl,go_of (s := { s with heap := h' }) e c d (by decide) ⟨x,H,I1,ru,⟨rfl,fun ys hy => by rw [I.list_inj hy hq]; exact hx⟩,st',fun b hb => (hf b hb).1⟩⟩
  done := by
    intro X hP hw hK hc i pins s σ H E I hf st hg
    subst hP hw hK
    obtain ⟨xs,hq,hx⟩ := hg
    obtain ⟨its,rv,p,hz⟩ := I.list hq
    obtain ⟨f0,f1,f2,f3,f4,f5⟩ := hf it (by simp)
    have hl := rv.length
    exact wpAny_pyNext_list_end (I.ok.hd hc) st p.isList (by simp; omega) fun h' eb => ⟨rfl,I.turned (t' := s.toks) (fun b o hb e => eb b o hb e) f0 f1 f3 f4 f5⟩
  self := fun _ _ _ _ _ st h => wpAny_pyIter_listiter st h
theorem turn_tuple {P : Program} {w : World} {K : PySem.W.Frag} {tg : Expr} (a it : Addr) : Turn P w K tg (Itt K a) [it] it (fun i h => h.IsTupleIter it a i) where
  mem := by simp
  obj := fun i h st b hb => by
    have e : b = it := by simpa using hb
    subst e
    obtain ⟨o,e,c,d⟩ := st
    exact ⟨o,e,fun v z => by rw [d] at z; cases z⟩
  keep := fun i h h' st k => st.at fun o e => k it (by simp) o e
  item := by
    intro X hP hw hK hc i pins s σ H E I hf st hg
    subst hP hw hK
    obtain ⟨xs,x,hq,hx⟩ := hg
    obtain ⟨its,rv,p,hz⟩ := I.tuple hq
    obtain ⟨u,hu,ru⟩ := rv.get hx
    obtain ⟨f0,f1,f2,f3,f4,f5⟩ := hf it (by simp)
    refine wpAny_pyNext_tuple_item st (show s.heap.IsTuple a its.toArray from p) (x := u) (by simpa using hu) fun h' st' sb => ?_
    have I1 : Inv X pins σ H { s with heap := h' } := I.turned (t' := s.toks) (fun b o hb e => (sb.2 b hb).trans e) f0 f1 f3 f4 f5
    obtain ⟨o,e,c,d⟩ := id st'
    exact ⟨u,rfl,go_of (s := { s with heap := h' }) e c d (by decide) ⟨x,H,I1,ru,⟨rfl,fun ys hy => by rw [I.tuple_inj hy hq]; exact hx⟩,st',fun b hb => (hf b hb).1⟩⟩
  done := by
    intro X hP hw hK hc i pins s σ H E I hf st hg
    subst hP hw hK
    obtain ⟨xs,hq,hx⟩ := hg
    obtain ⟨its,rv,p,hz⟩ := I.tuple hq
    obtain ⟨f0,f1,f2,f3,f4,f5⟩ := hf it (by simp)
    have hl := rv.length
    exact wpAny_pyNext_tuple_end (I.ok.hd hc) st (show s.heap.IsTuple a its.toArray from p) (by simp; omega) fun h' eb => ⟨rfl,I.turned (t' := s.toks) (fun b o hb e => eb b o hb e) f0 f1 f3 f4 f5⟩
  self := fun _ _ _ _ _ st h => wpAny_pyIter_tupleiter st h
theorem turn_range {P : Program} {w : World} {K : PySem.W.Frag} {tg : Expr} (it : Addr) (lo : Int) (n : Nat) : Turn P w K tg (Itr lo n) [it] it (fun i h => IsRangeIter h it (lo + (i : Nat) * 1) ((n : Int) - (i : Nat)) 1) where
  mem := by simp
  obj := fun i h st b hb => by
    have e : b = it := by simpa using hb
    subst e
    exact ⟨_,st,fun v z => by
      have z' : Data.fields _ = Data.cell v := z
      cases z'⟩
  keep := fun i h h' st k => k it (by simp) _ st
  item := by
    intro X hP hw hK hc i pins s σ H E I hf st hg
    subst hP hw hK
    obtain ⟨f0,f1,f2,f3,f4,f5⟩ := hf it (by simp)
    have W := Walks.range (prog := X.prog) (w := X.w) (I.ok.hd hc) it lo 1 n
    refine W.item i s _ _ hg st fun v h' tk hv st' kk => ?_
    obtain ⟨t,rfl⟩ := hv
    have I1 : Inv X pins σ H { s with heap := h',toks := tk } := I.turned (fun b o hb e => kk b o (by simpa using hb) e) f0 f1 f3 f4 f5
    refine ⟨_,rfl,go_of (s := { s with heap := h',toks := tk }) (n := "range_iterator") st' rfl rfl (by decide) ⟨.int (lo + i),H,I1,⟨t,?_⟩,⟨rfl,rfl⟩,st',fun b hb => (hf b hb).1⟩⟩
    rw [Int.mul_one]
  done := by
    intro X hP hw hK hc i pins s σ H E I hf st hg
    subst hP hw hK
    obtain ⟨f0,f1,f2,f3,f4,f5⟩ := hf it (by simp)
    exact wpAny_pyNext_range_end (I.ok.hd hc) st (by have : n ≤ i := hg; omega) fun h' eb => ⟨rfl,I.turned (t' := s.toks) (fun b o hb e => eb b o hb e) f0 f1 f3 f4 f5⟩
  self := fun _ _ _ _ _ st h => wpAny_pyIter_rangeiter st h
end L2
namespace L2
open PySem PySem.Spec PyProof.Rows
section
variable {X : Cx} {tg : Expr}
noncomputable def iList (K : PySem.W.Frag) (tl : TE) : TI := fun σ H R => tl σ H fun x H1 => ∃ a,x = .ref a ∧ (∃ xs,SqL K H1 a xs) ∧ R (Itl K a) H1
theorem range_it {pins : List (Addr × Obj)} {σ : St} {H : Hp} {s : Shared} {R : It → Hp → Prop} {E : Value → Shared → Prop} {lo hi : Int} {t u v : Tok} {tk : Nat} (I : Inv X pins σ H s) (h1 : -(2 ^ 62) ≤ lo) (h2 : lo < 2 ^ 62) (h3 : -(2 ^ 62) ≤ hi) (h4 : hi < 2 ^ 62)
    (q : R (Itr lo (hi - lo).toNat) H) : wpAny (model X.prog X.w) X.A (pyIter (.ref s.heap.objs.size)) (PIE X pins σ tg R) E { s with heap := s.heap.push { cls := .type "range",data := .fields #[.int lo t,.int hi u,.int 1 v] },toks := tk } := by
  refine wpAny_pyIter_range (IsRange.new ..) (small_one h1 h2 h3 h4) ?_
  have I1 : Inv X pins σ H { s with heap := s.heap.push { cls := .type "range",data := .fields #[.int lo t,.int hi u,.int 1 v] },toks := tk } := I.kept fun b o e => Heap.get?_push_of_some _ e
  refine ⟨(s.heap.push { cls := .type "range",data := .fields #[.int lo t,.int hi u,.int 1 v] }).objs.size,[(s.heap.push { cls := .type "range",data := .fields #[.int lo t,.int hi u,.int 1 v] }).objs.size],_,_,H,rfl,
    I1.kept (t' := tk) fun b o e => Heap.get?_push_of_some _ e,turn_range _ lo (hi - lo).toNat,?_,fun b hb => ?_,q⟩
  · have e1 : lo + ((0 : Nat) : Int) * 1 = lo := by simp
    have e2 : (((hi - lo).toNat : Nat) : Int) - ((0 : Nat) : Int) = Builtin.Range.rangeSize lo hi 1 := by rw [rangeSize_one]; split <;> omega
    show IsRangeIter _ _ (lo + ((0 : Nat) : Int) * 1) ((((hi - lo).toNat : Nat) : Int) - ((0 : Nat) : Int)) 1
    rw [e1,e2]
    exact Heap.get?_push_size _ rfl
  · have e : b = (s.heap.push { cls := .type "range",data := .fields #[.int lo t,.int hi u,.int 1 v] }).objs.size := by simpa using hb
    subst e
    exact I1.fpOk (Nat.le_refl _) (I1.hok.fresh (Nat.le_refl _))
inductive SRng1 (vs : List V) (H : Hp) (R : It → Hp → Prop) : Prop | mk (j : Int) (h : vs = [.int j]) (h1 : -(2 ^ 62) ≤ j) (h2 : j < 2 ^ 62) (q : R (Itr 0 j.toNat) H)
noncomputable def iRng1 (ta : TA) : TI := fun σ H R => ta σ H fun vs H1 => SRng1 vs H1 R
noncomputable def iRng2 (ta : TA) : TI := fun σ H R => ta σ H fun vs H1 => ∃ i j : Int,vs = [.int i,.int j] ∧ (-(2 ^ 62) ≤ i ∧ i < 2 ^ 62 ∧ -(2 ^ 62) ≤ j ∧ j < 2 ^ 62) ∧ R (Itr i (j - i).toNat) H1
theorem pi_range1 {a : Expr} {ta : TA} {p pos : Pos} (hg : Gl X "range") (hm : X.mg "range" = none) (ha : PA X [a] ta) (hs : starEach [a] X.env = [(false,eval a X.env)] := by rfl) : PI X tg (.Call (.Name "range" p) [a] [] pos) (iRng1 ta) := by
  intro pins s σ H R I h
  refine Call_ (ld_blt I hg hm boot_range (PyProof.Rows.callWith_type1 (thn (ha pos pins s σ H _ I h) fun us s1 ⟨vs,H1,I1,r1,q1⟩ => ?_) hs rfl))
  obtain ⟨j,e,q1,q2,q⟩ := q1
  subst e
  cases r1 with
  | cons r rr =>
    cases rr
    obtain ⟨t,rfl⟩ := r
    exact call_range_1 (range_it I1 (by omega) (by omega) q1 q2 (by simpa using q))
theorem pi_range2 {a b : Expr} {ta : TA} {p pos : Pos} (hg : Gl X "range") (hm : X.mg "range" = none) (ha : PA X [a,b] ta) (hs : starEach [a,b] X.env = [(false,eval a X.env),(false,eval b X.env)] := by rfl) (hs2 : starEach [b] X.env = [(false,eval b X.env)] := by rfl) :
    PI X tg (.Call (.Name "range" p) [a,b] [] pos) (iRng2 ta) := by
  intro pins s σ H R I h
  refine Call_ (ld_blt I hg hm boot_range (PyProof.Rows.callWith_type1 (thn (ha pos pins s σ H _ I h) fun us s1 ⟨vs,H1,I1,r1,q1⟩ => ?_) (by rw [hs,hs2]) (by rw [hs2]; rfl)))
  obtain ⟨i,j,e,⟨q1,q2,q3,q4⟩,q⟩ := q1
  subst e
  cases r1 with
  | cons r rr =>
    cases rr with
    | cons r' rr =>
      cases rr
      obtain ⟨t,rfl⟩ := r
      obtain ⟨t',rfl⟩ := r'
      exact call_range_2 (range_it I1 q1 q2 q3 q4 q)
noncomputable def tFor (wi : TI) (g : TG) (tb : TS) : TS := fun D σ H => wi σ H fun J H1 => ∃ W : Nat → Nat → St → Hp → Prop,(∃ m,W 0 m σ H1) ∧ ∀ i m σ H,W i m σ H →
  (J.stop i H ∧ D.nx σ H) ∨ (J.go i H ∧ ∃ N : St → Hp → Prop,(∀ σ' H',N σ' H' → ∃ m',m' < m ∧ W (i + 1) m' σ' H') ∧ ∀ x H',J.yld i H x H' → g x σ H' fun σ2 H2 => tb { D with nx := N,ct := N,bk := D.nx } σ2 H2)
noncomputable def pinsAt (fp : List Addr) (h : Heap) : List (Addr × Obj) := fp.filterMap fun b => (h.get? b).map fun o => (b,o)
theorem mem_pinsAt {fp : List Addr} {h : Heap} {b : Addr} {o : Obj} (hb : b ∈ fp) (e : h.get? b = some o) : (b,o) ∈ pinsAt fp h := List.mem_filterMap.mpr ⟨b,hb,by rw [e]; rfl⟩
theorem of_pinsAt {fp : List Addr} {h : Heap} {p : Addr × Obj} (hp : p ∈ pinsAt fp h) : p.1 ∈ fp ∧ h.get? p.1 = some p.2 := by
  obtain ⟨b,hb,e⟩ := List.mem_filterMap.mp hp
  cases q : h.get? b with
  | none => rw [q] at e; cases e
  | some o =>
    rw [q] at e
    have e' : (b,o) = p := Option.some.inj e
    subst e'
    exact ⟨hb,q⟩
theorem Inv.pinned {pins : List (Addr × Obj)} {σ : St} {H : Hp} {s : Shared} {fp : List Addr} (I : Inv X pins σ H s) (hf : ∀ b ∈ fp,FpOk X pins H b) (ho : ∀ b ∈ fp,∃ o,s.heap.get? b = some o ∧ ∀ v,o.data ≠ .cell v) : Inv X (pins ++ pinsAt fp s.heap) σ H s :=
  I.pins_of fun p hp => (List.mem_append.mp hp).elim (fun z => I.pin p (List.mem_append_right _ z)) fun z => by
    obtain ⟨hb,e⟩ := of_pinsAt z
    obtain ⟨f0,f1,f2,_⟩ := hf p.1 hb
    obtain ⟨o,e',d⟩ := ho p.1 hb
    rw [e] at e'; cases e'
    exact ⟨e,f0,f1,f2,d⟩
theorem Inv.unpinned {pins pl : List (Addr × Obj)} {σ : St} {H : Hp} {s : Shared} (I : Inv X (pins ++ pl) σ H s) : Inv X pins σ H s := I.pins_of fun p hp => I.pin p (List.mem_append_right _ (List.mem_append_left _ hp))
theorem ps_for {iter : Expr} {body : List Stmt} {wi : TI} {g : TG} {tb : TS} {pos : Pos} (hp : PassesOwn (model X.prog X.w) X.A X.env X.xe) (hc : X.calm = true) (hi : PI X tg iter wi) (hg : PG X tg g) (hb : PSs X body tb)
    (hs : ∀ x,foldedSetIterable iter X.env x = pure x := by intro _; rfl) : PS X (.For tg iter body [] pos) (tFor wi g tb) := by
  intro pins s σ H D I h
  refine wpAny_For (thn (hi pins s σ H _ I h) fun v s1 h1 => thn h1 fun itv s2 h2 => ?_) hs
  obtain ⟨it,fp,tn,J,H2,e,I2,T,st2,f2,W,⟨m0,w0⟩,turn⟩ := h2
  subst e
  have stat : ∀ {H' : Hp},(∀ b ∈ fp,H' b = none) → ∀ b ∈ fp,FpOk X pins H' b := fun hn b hb => ⟨hn b hb,(f2 b hb).2⟩
  refine codeAny_forLoop_any (fun n s' => ∃ i σ' H',Inv X pins σ' H' s' ∧ tn i s'.heap ∧ (∀ b ∈ fp,H' b = none) ∧ W i n σ' H') ?_ m0 ⟨0,σ,H2,I2,st2,fun b hb => (f2 b hb).1,w0⟩
  rintro n s3 ⟨i,σ3,H3,I3,st3,fr3,w3⟩
  rcases turn i n σ3 H3 w3 with ⟨stop,qn⟩ | ⟨go,N,hN,step⟩
  · refine wpAny_passesOwn hp (thn (T.done X rfl rfl rfl hc i pins s3 σ3 H3 X.xe I3 (stat fr3) st3 stop) fun r s4 ⟨hr,I4⟩ => ?_)
    subst hr
    exact wpAny_execs_nil ⟨σ3,H3,I4,qn⟩
  · refine wpAny_passesOwn hp (thn (T.item X rfl rfl rfl hc i pins s3 σ3 H3 X.xe I3 (stat fr3) st3 go) fun r s4 ⟨u,hr,h4⟩ => ?_)
    subst hr
    refine wpAny_passesOwn hp (thn h4 fun _ s5 ⟨x,H5,I5,r5,y5,st5,fr5⟩ => ?_)
    have I5' := I5.pinned (stat fr5) (T.obj _ _ st5)
    refine wpAny_passesOwn hp (thn (hg _ s5 σ3 H5 x u _ I5' r5 (step x H5 y5)) fun _ s6 ⟨σ6,H6,I6,q6⟩ => ?_)
    refine wpAny_passesOwn hp (thn (hb _ s6 σ6 H6 _ I6 q6) fun f s7 q7 => ?_)
    have again : ∀ {σ7 : St} {H7 : Hp},Inv X (pins ++ pinsAt fp s5.heap) σ7 H7 s7 → N σ7 H7 → ∃ m,m < n ∧ ∃ i σ' H',Inv X pins σ' H' s7 ∧ tn i s7.heap ∧ (∀ b ∈ fp,H' b = none) ∧ W i m σ' H' := fun {σ7 H7} I7 n7 => by
      obtain ⟨m',hm,w7⟩ := hN σ7 H7 n7
      refine ⟨m',hm,i + 1,σ7,H7,I7.unpinned,T.keep _ _ _ st5 fun b hb o e => (I7.pin (b,o) (List.mem_append_right _ (List.mem_append_right _ (mem_pinsAt hb e)))).1,fun b hb => ?_,w7⟩
      obtain ⟨o,e,d⟩ := T.obj _ _ st5 b hb
      exact (I7.pin (b,o) (List.mem_append_right _ (List.mem_append_right _ (mem_pinsAt hb e)))).2.1
    cases f with
    | next => obtain ⟨σ7,H7,I7,n7⟩ := q7; exact again I7 n7
    | cont => obtain ⟨σ7,H7,I7,n7⟩ := q7; exact again I7 n7
    | brk => obtain ⟨σ7,H7,I7,q7⟩ := q7; exact ⟨σ7,H7,I7.unpinned,q7⟩
    | ret v => obtain ⟨x7,σ7,H7,I7,r7,q7⟩ := q7; exact ⟨x7,σ7,H7,I7.unpinned,r7,q7⟩
end
theorem for_range {lo : Int} {n : Nat} {g : TG} {tb : TS} {D : Ends} {σ : St} {H : Hp} (Pv : Nat → St → Hp → Prop) (h0 : Pv 0 σ H)
    (hs : ∀ i σ H,i < n → Pv i σ H → g (.int (lo + i)) σ H fun σ2 H2 => tb { D with nx := Pv (i + 1),ct := Pv (i + 1),bk := D.nx } σ2 H2) (hd : ∀ σ H,Pv n σ H → D.nx σ H) :
    ∃ W : Nat → Nat → St → Hp → Prop,(∃ m,W 0 m σ H) ∧ ∀ i m σ H,W i m σ H →
      ((Itr lo n).stop i H ∧ D.nx σ H) ∨ ((Itr lo n).go i H ∧ ∃ N : St → Hp → Prop,(∀ σ' H',N σ' H' → ∃ m',m' < m ∧ W (i + 1) m' σ' H') ∧ ∀ x H',(Itr lo n).yld i H x H' → g x σ H' fun σ2 H2 => tb { D with nx := N,ct := N,bk := D.nx } σ2 H2) := by
  refine ⟨fun i m σ H => m = n - i ∧ i ≤ n ∧ Pv i σ H,⟨n,by simp,Nat.zero_le _,h0⟩,?_⟩
  rintro i m σ H ⟨rfl,hi,p⟩
  by_cases hlt : i < n
  · refine .inr ⟨hlt,Pv (i + 1),fun σ' H' p' => ⟨n - (i + 1),by omega,rfl,hlt,p'⟩,fun x H' y => ?_⟩
    obtain ⟨e,y⟩ := y
    subst e y
    exact hs i σ _ hlt p
  · have e : i = n := by omega
    subst e
    exact .inl ⟨Nat.le_refl _,hd σ H p⟩
end L2
namespace L2
open PySem PySem.Spec PyProof.Rows
noncomputable abbrev R2 := V → V → Hp → VK → Prop
noncomputable def OpR (X : Cx) (f : Value → Value → Sem Value) (r : R2) : Prop :=
  ∀ (pins : List (Addr × Obj)) (s : Shared) (σ : St) (H : Hp) (x y : V) (v u : Value) (Q : VK),Inv X pins σ H s → RelV x v → RelV y u → r x y H Q →
    wpAny (model X.prog X.w) X.A (f v u) (EP X pins σ Q) X.xe s
noncomputable def UnR (X : Cx) (f : Value → Sem Value) (r : V → Hp → VK → Prop) : Prop :=
  ∀ (pins : List (Addr × Obj)) (s : Shared) (σ : St) (H : Hp) (x : V) (v : Value) (Q : VK),Inv X pins σ H s → RelV x v → r x H Q →
    wpAny (model X.prog X.w) X.A (f v) (EP X pins σ Q) X.xe s
noncomputable def CallR (X : Cx) (f : Value) (r : List V → Hp → VK → Prop) : Prop :=
  ∀ (pins : List (Addr × Obj)) (s : Shared) (σ : St) (H : Hp) (xs : List V) (us : List Value) (Q : VK),Inv X pins σ H s → Vals xs us → r xs H Q →
    wpAny (model X.prog X.w) X.A (call f us) (EP X pins σ Q) X.xe s
noncomputable def tOp (r : R2) (ta tb : TE) : TE := fun σ H Q => ta σ H fun x H1 => tb σ H1 fun y H2 => r x y H2 Q
noncomputable def tUn (r : V → Hp → VK → Prop) (ta : TE) : TE := fun σ H Q => ta σ H fun x H1 => r x H1 Q
inductive SII (C : Int → Int → Prop) (g : Int → Int → V) (x y : V) (H : Hp) (Q : VK) : Prop | mk (i j : Int) (hx : x = .int i) (hy : y = .int j) (c : C i j) (q : Q (g i j) H)
noncomputable def rI (C : Int → Int → Prop) (g : Int → Int → V) : R2 := fun x y H Q => SII C g x y H Q
inductive SI0 (g : Int → Int → V) (x y : V) (H : Hp) (Q : VK) : Prop | mk (i j : Int) (hx : x = .int i) (hy : y = .int j) (q : Q (g i j) H)
noncomputable def rI0 (g : Int → Int → V) : R2 := fun x y H Q => SI0 g x y H Q
inductive SU (g : Int → V) (x : V) (H : Hp) (Q : VK) : Prop | mk (i : Int) (hx : x = .int i) (q : Q (g i) H)
noncomputable def rU (g : Int → V) : V → Hp → VK → Prop := fun x H Q => SU g x H Q
section
variable {X : Cx} {a b c : Expr} {ta tb tc : TE} {pos : Pos}
theorem binT (ha : PE X a ta) (hb : PE X b tb) {pins : List (Addr × Obj)} {s : Shared} {σ : St} {H : Hp} {R : V → V → Hp → Prop} (I : Inv X pins σ H s)
    (h : ta σ H fun x H1 => tb σ H1 fun y H2 => R x y H2) {Q : Value → Shared → Prop} {f : Value → Value → Sem Value}
    (hf : ∀ v u s2 x y H2,Inv X pins σ H2 s2 → RelV x v → RelV y u → R x y H2 → wpAny (model X.prog X.w) X.A (f v u) Q X.xe s2) :
    wpAny (model X.prog X.w) X.A (eval a X.env) (fun v s₁ => wpAny (model X.prog X.w) X.A (eval b X.env) (fun u s₂ => wpAny (model X.prog X.w) X.A (f v u) Q X.xe s₂) X.xe s₁) X.xe s := by
  refine thn (ha pins s σ H _ I h) fun v s1 ⟨x,H1,I1,r1,q1⟩ => ?_
  refine thn (hb pins s1 σ H1 _ I1 q1) fun u s2 ⟨y,H2,I2,r2,q2⟩ => ?_
  exact hf v u s2 x y H2 I2 r1 r2 q2
theorem pe_op {op : Operator} {r : R2} (ho : OpR X (binaryOp op) r) (ha : PE X a ta) (hb : PE X b tb) : PE X (.BinOp a op b pos) (tOp r ta tb) := by
  intro pins s σ H Q I h
  exact wpAny_BinOp (binT ha hb I h fun v u s2 x y H2 I2 rx ry q => ho pins s2 σ H2 x y v u Q I2 rx ry q)
theorem pe_un {op : UnaryOp} {r : V → Hp → VK → Prop} (ho : UnR X (unaryOp op) r) (ha : PE X a ta) : PE X (.UnaryOp op a pos) (tUn r ta) := by
  intro pins s σ H Q I h
  exact UnaryOp_ (thn (ha pins s σ H _ I h) fun v s1 ⟨x,H1,I1,r1,q1⟩ => ho pins s1 σ H1 x v Q I1 r1 q1)
theorem opI {f : Value → Value → Sem Value} {C : Int → Int → Prop} {g : Int → Int → Int}
    (rule : ∀ (i j : Int) (t u : Tok) (s : Shared) (Q : Value → Shared → Prop) (E : Value → Shared → Prop),C i j → Q (.int (g i j) s.toks) { s with toks := s.toks + 1 } → wpAny (model X.prog X.w) X.A (f (.int i t) (.int j u)) Q E s) :
    OpR X f (rI C fun i j => .int (g i j)) := by
  intro pins s σ H x y v u Q I rx ry h
  obtain ⟨i,j,rfl,rfl,hc,q⟩ := h
  obtain ⟨t,rfl⟩ := rx
  obtain ⟨t',rfl⟩ := ry
  exact rule i j t t' s _ _ hc ⟨.int (g i j),H,I.tok _,⟨_,rfl⟩,q⟩
theorem opI0 {f : Value → Value → Sem Value} {g : Int → Int → Int}
    (rule : ∀ (i j : Int) (t u : Tok) (s : Shared) (Q : Value → Shared → Prop) (E : Value → Shared → Prop),Q (.int (g i j) s.toks) { s with toks := s.toks + 1 } → wpAny (model X.prog X.w) X.A (f (.int i t) (.int j u)) Q E s) :
    OpR X f (rI0 fun i j => .int (g i j)) := by
  intro pins s σ H x y v u Q I rx ry h
  obtain ⟨i,j,rfl,rfl,q⟩ := h
  obtain ⟨t,rfl⟩ := rx
  obtain ⟨t',rfl⟩ := ry
  exact rule i j t t' s _ _ ⟨.int (g i j),H,I.tok _,⟨_,rfl⟩,q⟩
theorem opB0 {f : Value → Value → Sem Value} {g : Int → Int → Bool}
    (rule : ∀ (i j : Int) (t u : Tok) (s : Shared) (Q : Value → Shared → Prop) (E : Value → Shared → Prop),Q (.bool (g i j)) s → wpAny (model X.prog X.w) X.A (f (.int i t) (.int j u)) Q E s) :
    OpR X f (rI0 fun i j => .bl (g i j)) := by
  intro pins s σ H x y v u Q I rx ry h
  obtain ⟨i,j,rfl,rfl,q⟩ := h
  obtain ⟨t,rfl⟩ := rx
  obtain ⟨t',rfl⟩ := ry
  exact rule i j t t' s _ _ ⟨.bl (g i j),H,I,rfl,q⟩
noncomputable def CDiv (i j : Int) : Prop := 0 < j ∧ j < 1073741824
noncomputable def CPow (i j : Int) : Prop := 0 ≤ j ∧ j ≤ 1000000 ∧ i.natAbs < 2 ^ 64
theorem two_pow_nn (k : Nat) : (0 : Int) ≤ 2 ^ k := by
  rw [two_pow_cast]
  exact Int.natCast_nonneg _
theorem op_add : OpR X (binaryOp .Add) (rI0 fun i j => .int (i + j)) := opI0 fun _ _ _ _ _ _ _ q => add_int q
theorem op_sub : OpR X (binaryOp .Sub) (rI0 fun i j => .int (i - j)) := opI0 fun _ _ _ _ _ _ _ q => sub_int q
theorem op_fdiv : OpR X (binaryOp .FloorDiv) (rI CDiv fun i j => .int (i / j)) := opI fun i j _ _ _ _ _ hc q => by
  have h1 : (0 : Int) < j := hc.1
  have h2 : j < 1073741824 := hc.2
  exact floordiv_int (by omega) (by rw [Int.fdiv_eq_ediv_of_nonneg i (by omega)]; exact q) (.inl (PyProof.noPylong_small (by omega)))
theorem op_mod : OpR X (binaryOp .Mod) (rI (fun _ j => 0 < j) fun i j => .int (i % j)) := opI fun i j _ _ _ _ _ hc q => by
  have h1 : (0 : Int) < j := hc
  exact mod_int' (by omega) (by rw [Int.fmod_eq_emod_of_nonneg i (by omega)]; exact q)
theorem op_pow : OpR X (binaryOp .Pow) (rI CPow fun i j => .int (i ^ j.toNat)) := opI fun _ _ _ _ _ _ _ hc q => pow_int_small hc.1 hc.2.1 hc.2.2 q
theorem op_shr : OpR X (binaryOp .RShift) (rI (fun _ j => 0 ≤ j) fun i j => .int (i / 2 ^ j.toNat)) := opI fun i j _ _ _ _ _ hc q =>
  rshift_int hc (by rw [Int.fdiv_eq_ediv_of_nonneg i (two_pow_nn _)]; exact q)
theorem unI {f : Value → Sem Value} {g : Int → Int}
    (rule : ∀ (i : Int) (t : Tok) (s : Shared) (Q : Value → Shared → Prop) (E : Value → Shared → Prop),Q (.int (g i) s.toks) { s with toks := s.toks + 1 } → wpAny (model X.prog X.w) X.A (f (.int i t)) Q E s) :
    UnR X f (rU fun i => .int (g i)) := by
  intro pins s σ H x v Q I rx h
  obtain ⟨i,rfl,q⟩ := h
  obtain ⟨t,rfl⟩ := rx
  exact rule i t s _ _ ⟨.int (g i),H,I.tok _,⟨_,rfl⟩,q⟩
theorem un_neg : UnR X (unaryOp .USub) (rU fun i => .int (-i)) := unI fun _ _ _ _ _ q => neg_int q
end
noncomputable def scal : V → V → Bool
  | .non,.non => true | .non,.int _ => true | .int _,.non => true | .non,.bl _ => true | .bl _,.non => true | .non,.str _ => true | .str _,.non => true
  | .int _,.int _ => true | .bl _,.bl _ => true | .str _,.str _ => true | .byt _,.byt _ => true
  | .int _,.str _ => true | .str _,.int _ => true | .bl _,.str _ => true | .str _,.bl _ => true
  | _,_ => false
noncomputable def rEq : R2 := fun x y H Q => scal x y = true ∧ Q (.bl (decide (x = y))) H
noncomputable def rNe : R2 := fun x y H Q => scal x y = true ∧ Q (.bl (!decide (x = y))) H
theorem dec_int {i j : Int} : decide (V.int i = V.int j) = (i == j) := by
  rw [Bool.eq_iff_iff]
  simp
theorem dec_bl {i j : Bool} : decide (V.bl i = V.bl j) = (i == j) := by
  rw [Bool.eq_iff_iff]
  simp
theorem dec_str {i j : Str} : decide (V.str i = V.str j) = (i == j) := by
  rw [Bool.eq_iff_iff]
  simp
theorem dec_byt {i j : Array UInt8} : decide (V.byt i = V.byt j) = (i.toList == j.toList) := by
  rw [Bool.eq_iff_iff]
  cases i
  cases j
  simp
section
variable {X : Cx} {a b c : Expr} {ta tb tc : TE} {pos : Pos}
theorem fin_bl {pins : List (Addr × Obj)} {σ : St} {H : Hp} {s : Shared} {Q : VK} {k k' : Bool} (I : Inv X pins σ H s) (q : Q (.bl k) H) (e : k = k') : EP X pins σ Q (.bool k') s := by
  subst e
  exact ⟨.bl k,H,I,rfl,q⟩
theorem op_eq : OpR X (compareOp .Eq) rEq := by
  intro pins s σ H x y v u Q I rx ry h
  obtain ⟨hs,q⟩ := h
  cases x with
  | non =>
    cases rx
    cases y with
    | non => cases ry; exact PySem.EqNone.eq_none_none (fin_bl I q (by simp))
    | bl j => cases ry; exact PySem.EqNone.eq_none_bool (fin_bl I q (by simp))
    | int j => obtain ⟨t',rfl⟩ := ry; exact PySem.EqNone.eq_none_int (fin_bl I q (by simp))
    | str j => obtain ⟨t',rfl⟩ := ry; exact PySem.EqNone.eq_none_str (fin_bl I q (by simp))
    | _ => exact absurd (show false = true from hs) Bool.false_ne_true
  | bl i =>
    cases rx
    cases y with
    | non => cases ry; exact PySem.EqNone.eq_bool_none (fin_bl I q (by simp))
    | bl j => cases ry; exact eq_bool (fin_bl I q dec_bl)
    | str j => obtain ⟨t',rfl⟩ := ry; exact PySem.EqMixed.eq_bool_str (fin_bl I q (by simp))
    | _ => exact absurd (show false = true from hs) Bool.false_ne_true
  | int i =>
    obtain ⟨t,rfl⟩ := rx
    cases y with
    | non => cases ry; exact PySem.EqNone.eq_int_none (fin_bl I q (by simp))
    | int j => obtain ⟨t',rfl⟩ := ry; exact eq_int (fin_bl I q dec_int)
    | str j => obtain ⟨t',rfl⟩ := ry; exact PySem.EqMixed.eq_int_str (fin_bl I q (by simp))
    | _ => exact absurd (show false = true from hs) Bool.false_ne_true
  | str i =>
    obtain ⟨t,rfl⟩ := rx
    cases y with
    | non => cases ry; exact PySem.EqNone.eq_str_none (fin_bl I q (by simp))
    | bl j => cases ry; exact PySem.EqMixed.eq_str_bool (fin_bl I q (by simp))
    | int j => obtain ⟨t',rfl⟩ := ry; exact PySem.EqMixed.eq_str_int (fin_bl I q (by simp))
    | str j => obtain ⟨t',rfl⟩ := ry; exact eq_str (fin_bl I q dec_str)
    | _ => exact absurd (show false = true from hs) Bool.false_ne_true
  | byt i =>
    obtain ⟨t,rfl⟩ := rx
    cases y with
    | byt j => obtain ⟨t',rfl⟩ := ry; exact PySem.W.eq_bytes (fin_bl I q dec_byt)
    | _ => exact absurd (show false = true from hs) Bool.false_ne_true
  | _ => cases y <;> exact absurd (show false = true from hs) Bool.false_ne_true
theorem op_ne : OpR X (compareOp .NotEq) rNe := by
  intro pins s σ H x y v u Q I rx ry h
  obtain ⟨hs,q⟩ := h
  cases x with
  | non =>
    cases rx
    cases y with
    | non => cases ry; exact PySem.EqNone.ne_none_none (fin_bl I q (by simp))
    | bl j => cases ry; exact PySem.EqNone.ne_none_bool (fin_bl I q (by simp))
    | int j => obtain ⟨t',rfl⟩ := ry; exact PySem.EqNone.ne_none_int (fin_bl I q (by simp))
    | str j => obtain ⟨t',rfl⟩ := ry; exact PySem.EqNone.ne_none_str (fin_bl I q (by simp))
    | _ => exact absurd (show false = true from hs) Bool.false_ne_true
  | bl i =>
    cases rx
    cases y with
    | non => cases ry; exact PySem.EqNone.ne_bool_none (fin_bl I q (by simp))
    | bl j => cases ry; exact ne_bool (fin_bl I q (congrArg not dec_bl))
    | str j => obtain ⟨t',rfl⟩ := ry; exact PySem.EqMixed.ne_bool_str (fin_bl I q (by simp))
    | _ => exact absurd (show false = true from hs) Bool.false_ne_true
  | int i =>
    obtain ⟨t,rfl⟩ := rx
    cases y with
    | non => cases ry; exact PySem.EqNone.ne_int_none (fin_bl I q (by simp))
    | int j => obtain ⟨t',rfl⟩ := ry; exact ne_int (fin_bl I q (congrArg not dec_int))
    | str j => obtain ⟨t',rfl⟩ := ry; exact PySem.EqMixed.ne_int_str (fin_bl I q (by simp))
    | _ => exact absurd (show false = true from hs) Bool.false_ne_true
  | str i =>
    obtain ⟨t,rfl⟩ := rx
    cases y with
    | non => cases ry; exact PySem.EqNone.ne_str_none (fin_bl I q (by simp))
    | bl j => cases ry; exact PySem.EqMixed.ne_str_bool (fin_bl I q (by simp))
    | int j => obtain ⟨t',rfl⟩ := ry; exact PySem.EqMixed.ne_str_int (fin_bl I q (by simp))
    | str j => obtain ⟨t',rfl⟩ := ry; exact ne_str (fin_bl I q (congrArg not dec_str))
    | _ => exact absurd (show false = true from hs) Bool.false_ne_true
  | byt i =>
    obtain ⟨t,rfl⟩ := rx
    cases y with
    | byt j => obtain ⟨t',rfl⟩ := ry; exact PySem.W.ne_bytes (fin_bl I q (congrArg not dec_byt))
    | _ => exact absurd (show false = true from hs) Bool.false_ne_true
  | _ => cases y <;> exact absurd (show false = true from hs) Bool.false_ne_true
theorem op_lt : OpR X (compareOp .Lt) (rI0 fun i j => .bl (decide (i < j))) := opB0 fun _ _ _ _ _ _ _ q => lt_int q
theorem op_gt : OpR X (compareOp .Gt) (rI0 fun i j => .bl (decide (j < i))) := opB0 fun _ _ _ _ _ _ _ q => gt_int q
theorem op_ge : OpR X (compareOp .GtE) (rI0 fun i j => .bl (decide (j ≤ i))) := opB0 fun _ _ _ _ _ _ _ q => ge_int q
theorem OpR.or {f : Value → Value → Sem Value} {r r' : R2} (h : OpR X f r) (h' : OpR X f r') : OpR X f (fun x y H Q => r x y H Q ∨ r' x y H Q) := by
  intro pins s σ H x y v u Q I rx ry q
  rcases q with q | q
  · exact h pins s σ H x y v u Q I rx ry q
  · exact h' pins s σ H x y v u Q I rx ry q
theorem nomark (b : Expr) {op : CmpOp} (h : op ≠ .In := by decide) (h2 : op ≠ .NotIn := by decide) : behindInMarks op b = false := by
  have e1 : (op == CmpOp.In) = false := by cases op <;> first | rfl | exact absurd rfl h
  have e2 : (op == CmpOp.NotIn) = false := by cases op <;> first | rfl | exact absurd rfl h2
  cases b <;> simp [behindInMarks,e1,e2]
theorem pe_cmpR {op : CmpOp} {r : R2} (ho : OpR X (compareOp op) r) (ha : PE X a ta) (hb : PE X b tb) (hm : behindInMarks op b = false) : PE X (.Compare a [op] [b] pos) (tOp r ta tb) := by
  intro pins s σ H Q I h
  exact wpAny_Compare1 (binT ha hb I h fun v u s2 x y H2 I2 rx ry q => ho pins s2 σ H2 x y v u Q I2 rx ry q) hm
inductive STst (x : V) (H : Hp) (Q : Bool → Hp → Prop) : Prop | mk (k : Bool) (hx : x = .bl k) (q : Q k H)
noncomputable def tTest (t : TE) : TT := fun σ H Q => t σ H fun x H' => STst x H' Q
theorem pt_cmpR {op : CmpOp} {r : R2} (ho : OpR X (compareOp op) r) (ha : PE X a ta) (hb : PE X b tb) (hm : behindInMarks op b = false) : PT X (.Compare a [op] [b] pos) (tTest (tOp r ta tb)) := by
  intro pins s σ H Q I h
  refine wpAny_isTrue_Compare1 (thn (ha pins s σ H _ I h) fun v s1 ⟨x,H1,I1,r1,q1⟩ => thn (hb pins s1 σ H1 _ I1 q1) fun u s2 ⟨y,H2,I2,r2,q2⟩ =>
    thn (ho pins s2 σ H2 x y v u _ I2 r1 r2 q2) fun c s3 ⟨z,H3,I3,r3,k,e,q3⟩ => ?_) hm
  subst e
  cases r3
  exact wpAny_truthy_bool ⟨H3,I3,q3⟩
theorem isEmpty_kv {κ : Type} {kvs : List (κ × V)} {vs : List (κ × Value)} (r : KV kvs vs) : (!vs.isEmpty) = !kvs.isEmpty := by
  cases r <;> rfl
theorem isEmpty_of {xs : List V} {its : List Value} (r : Vals xs its) : (!its.toArray.isEmpty) = !xs.isEmpty := by
  cases r <;> simp
theorem line63 : (sizeLine : Nat) < 2 ^ 63 := by rw [sizeLine_eq]; decide
theorem op_add_str : OpR X (binaryOp .Add) (fun x y H Q => ∃ i j,x = .str i ∧ y = .str j ∧ i.length + j.length ≤ sizeLine ∧ Q (.str (i ++ j)) H) := by
  intro pins s σ H x y v u Q I rx ry h
  obtain ⟨i,j,rfl,rfl,hz,q⟩ := h
  obtain ⟨t,rfl⟩ := rx
  obtain ⟨t',rfl⟩ := ry
  exact add_str (fun t' tk => ⟨.str (i ++ j),H,I.tok _,⟨_,rfl⟩,q⟩) hz
theorem vals1 {x : V} {us : List Value} (r : Vals [x] us) : ∃ u,us = [u] ∧ RelV x u := by
  cases r with
  | cons r1 r2 => cases r2; exact ⟨_,rfl,r1⟩
theorem vals2 {x y : V} {us : List Value} (r : Vals [x,y] us) : ∃ u w',us = [u,w'] ∧ RelV x u ∧ RelV y w' := by
  cases r with
  | cons r1 r2 =>
    cases r2 with
    | cons r3 r4 => cases r4; exact ⟨_,_,rfl,r1,r3⟩
theorem call_max2 (hc : X.calm = true) : CallR X (.builtin "max") (fun xs H Q => ∃ i j,xs = [.int i,.int j] ∧ Q (.int (if j > i then j else i)) H) := by
  intro pins s σ H xs us Q I r h
  obtain ⟨i,j,rfl,q⟩ := h
  obtain ⟨u,w',rfl,⟨t,rfl⟩,⟨t',rfl⟩⟩ := vals2 r
  refine max_two_ints (I.ok.hd hc) fun h' tk k => ⟨_,H,I.kept k,?_,q⟩
  by_cases hj : j > i
  · rw [if_pos hj,if_pos hj]; exact ⟨_,rfl⟩
  · rw [if_neg hj,if_neg hj]; exact ⟨_,rfl⟩
theorem call_min2 (hc : X.calm = true) : CallR X (.builtin "min") (fun xs H Q => ∃ i j,xs = [.int i,.int j] ∧ Q (.int (if j < i then j else i)) H) := by
  intro pins s σ H xs us Q I r h
  obtain ⟨i,j,rfl,q⟩ := h
  obtain ⟨u,w',rfl,⟨t,rfl⟩,⟨t',rfl⟩⟩ := vals2 r
  refine min_two_ints (I.ok.hd hc) fun h' tk k => ⟨_,H,I.kept k,?_,q⟩
  by_cases hj : j < i
  · rw [if_pos hj,if_pos hj]; exact ⟨_,rfl⟩
  · rw [if_neg hj,if_neg hj]; exact ⟨_,rfl⟩
noncomputable def LenV (K : PySem.W.Frag) (x : V) (H : Hp) (n : Nat) : Prop :=
  match x with
  | .str y => y.length ≤ sizeLine ∧ n = y.length
  | .byt y => y.size ≤ sizeLine ∧ n = y.size
  | .ref p => (∃ xs,SqL K H p xs ∧ n = xs.length) ∨ ∃ xs,SqT K H p xs ∧ n = xs.length
  | _ => False
theorem call_len : CallR X (.builtin "len") (fun xs H Q => ∃ x n,xs = [x] ∧ LenV X.K x H n ∧ Q (.int n) H) := by
  intro pins s σ H xs us Q I r h
  obtain ⟨x,n,rfl,e,q⟩ := h
  obtain ⟨u,rfl,rx⟩ := vals1 r
  have hl := line63
  have hs : sizeLine = 16777216 := sizeLine_eq
  cases x with
  | str y =>
    obtain ⟨t,rfl⟩ := rx
    obtain ⟨hy,e'⟩ : y.length ≤ sizeLine ∧ n = y.length := e
    subst e'
    exact len_str (by omega) ⟨.int _,H,I.tok _,⟨_,rfl⟩,q⟩
  | byt y =>
    obtain ⟨t,rfl⟩ := rx
    obtain ⟨hy,e'⟩ : y.size ≤ sizeLine ∧ n = y.size := e
    subst e'
    exact PySem.W.len_bytes (by omega) ⟨.int _,H,I.tok _,⟨_,rfl⟩,q⟩
  | ref p =>
    cases rx
    have e' : (∃ xs,SqL X.K H p xs ∧ n = xs.length) ∨ ∃ xs,SqT X.K H p xs ∧ n = xs.length := e
    rcases e' with ⟨xs,hx,e'⟩ | ⟨xs,hx,e'⟩
    · subst e'
      obtain ⟨its,r',pl,hz⟩ := I.list hx
      have hlen := r'.length
      exact Calls.call_len_list pl.isList (by simp only [List.size_toArray]; omega) ⟨.int xs.length,H,I.tok _,⟨_,by simp only [List.size_toArray]; rw [hlen]⟩,q⟩
    · subst e'
      obtain ⟨its,r',pl,hz⟩ := I.tuple hx
      have hlen := r'.length
      exact len_tuple pl (by simp only [List.size_toArray]; omega) ⟨.int xs.length,H,I.tok _,⟨_,by simp only [List.size_toArray]; rw [hlen]⟩,q⟩
  | _ => exact (show False from e).elim
end
end L2
namespace L2
open PySem PySem.Spec PyProof.Rows
section
variable {prog : Program} {w : World} {A : Around} {E : Value → Shared → Prop} {s : Shared} {K : PySem.W.Frag} {x dx C f : Addr} {mA : Str → Option Value} {name : Str} {v : Value}
end
theorem RelO.some_of {v : V} {o : Option Value} (r : RelO (some v) o) : ∃ u,o = some u ∧ RelV v u := by
  cases o with
  | none => exact (show False from r).elim
  | some u => exact ⟨u,rfl,r⟩
theorem RelO.none_of {o : Option Value} (r : RelO none o) : o = none := by
  cases o with
  | none => rfl
  | some u => exact (show False from r).elim
section
variable {P : Program} {w : World} {H H' : Hp} {h h' : Heap} {a C dx : Addr} {fs fs' : List (Str × V)}
end
section
variable {X : Cx} {pins : List (Addr × Obj)} {σ : St} {H : Hp} {s : Shared} {a C dx : Addr} {fs : List (Str × V)} {f : Str} {v : V} {A : Around} {E : Value → Shared → Prop}
end
section
variable {X : Cx} {o e value : Expr} {f : Str} {pos pos' tpos : Pos} {ta tv : TE}
end
section
variable {X : Cx} {pins : List (Addr × Obj)} {σ : St} {H : Hp} {s : Shared} {A : Around} {E : Value → Shared → Prop} {Q : Value → Shared → Prop} {c : Value} {b : Bool}
end
end L2
namespace L2
open PySem PySem.Spec PyProof.Rows
structure Room (k : Nat) (A : Around) : Prop where
  hd : A.handled = none
  dp : A.depth + 3 * k + 5 < recursionLimit
  un : A.units + 16 * k + 200 < cLine
theorem Room.mono {j k : Nat} {A : Around} (r : Room k A) (h : j ≤ k) : Room j A := ⟨r.hd,by have := r.dp; omega,by have := r.un; omega⟩
theorem Room.deeper {k : Nat} {A : Around} (r : Room (k + 1) A) (env : Env) : Room k (A.deeper env) :=
  ⟨r.hd,by have := r.dp; show A.depth + 1 + 3 * k + 5 < _; omega,by have := r.un; show A.units + 3 + 16 * k + 200 < _; omega⟩
theorem Room.depth {k : Nat} {A : Around} (r : Room k A) : A.depth < recursionLimit := by have := r.dp; omega
theorem Room.units {k : Nat} {A : Around} (r : Room k A) : A.units + 64 < cLine := by have := r.un; omega
theorem Room.units0 {k : Nat} {A : Around} (r : Room k A) : A.units < cLine := by have := r.un; omega
noncomputable def tNil : TA := fun _ H Q => Q [] H
noncomputable def tCons (ta : TE) (tr : TA) : TA := fun σ H Q => ta σ H fun x H1 => tr σ H1 fun xs H2 => Q (x :: xs) H2
section
variable {X : Cx} {e : Expr} {es : List Expr} {te : TE} {t : TA} {pos : Pos}
theorem pa_nil : PA X [] tNil := fun _ _ _ _ H Q I h => Calls.spliced_nil ⟨[],H,I,.nil,h⟩
theorem pa_cons (ha : PE X e te) (hr : PA X es t) (hs : starEach (e :: es) X.env = (false,eval e X.env) :: starEach es X.env := by rfl) : PA X (e :: es) (tCons te t) := by
  intro pos pins s σ H Q I h
  rw [hs]
  show wpAny _ _ (spliced ((false,eval e X.env) :: backTo pos (starEach es X.env))) _ _ s
  refine Calls.spliced_cons (thn (ha pins s σ H _ I h) fun u s1 ⟨x,H1,I1,r1,q1⟩ => ?_)
  exact thn (hr pos pins s1 σ H1 _ I1 q1) fun us s2 ⟨xs,H2,I2,r2,q2⟩ => ⟨x :: xs,H2,I2,.cons r1 r2,q2⟩
inductive SNew (xs : List V) (o : HO) (H : Hp) (Q : VK) : Prop | mk (hz : xs.length ≤ sizeLine) (q : ∀ p,H p = none → Q (.ref p) (upd H p o))
noncomputable def tTup (t : TA) : TE := fun σ H Q => t σ H fun xs H1 => SNew xs (.tup xs) H1 Q
noncomputable def tLst (t : TA) : TE := fun σ H Q => t σ H fun xs H1 => SNew xs (.lst xs) H1 Q
theorem pe_tup {x1} (h : PA X es t) : PE X (.Tuple es x1 pos) (tTup t) := by
  intro pins s σ H Q I hq
  refine wpAny_Tuple_spliced (thn (h pos pins s σ H _ I hq) fun us s1 ⟨xs,H1,I1,r,z,q⟩ => ⟨by rw [← r.length]; exact z,?_⟩)
  have hf : H1 s1.heap.objs.size = none := I1.hok.fresh (Nat.le_refl _)
  refine ⟨.ref s1.heap.objs.size,upd H1 s1.heap.objs.size (.tup xs),I1.laid (t' := s1.toks) (fun b u e => Heap.get?_push_of_some _ e) (Nat.le_refl _) ?_,rfl,q _ hf⟩
  exact ⟨z,us,r,⟨_,Heap.get?_push_size _ rfl,rfl,_,rfl⟩⟩
theorem pe_lst (h : PA X es t) : PE X (.List es pos) (tLst t) := by
  intro pins s σ H Q I hq
  refine wpAny_List_spliced (thn (h pos pins s σ H _ I hq) fun us s1 ⟨xs,H1,I1,r,z,q⟩ => ⟨by rw [← r.length]; exact z,?_⟩)
  have hf : H1 s1.heap.objs.size = none := I1.hok.fresh (Nat.le_refl _)
  refine ⟨.ref s1.heap.objs.size,upd H1 s1.heap.objs.size (.lst xs),I1.laid (t' := s1.toks) (fun b u e => Heap.get?_push_of_some _ e) (Nat.le_refl _) ?_,rfl,q _ hf⟩
  exact ⟨z,us,0,r,Heap.get?_push_size _ rfl⟩
end
noncomputable abbrev Sp := List V → Hp → VK → XK → Prop
noncomputable abbrev CXT := List Env → Hp → Shared → XK → Value → Shared → Prop
structure Env0 (P : Program) (w : World) (K : PySem.W.Frag) (mg : Str → Option Value) (base : Heap) (A : Around) (outer : List Env) (s : Shared) (H : Hp) : Prop where
  frames : A.frames = some outer
  mod : Mod K mg base
  bs : ∀ b o,base.get? b = some o → s.heap.get? b = some o ∧ H b = none
  bsz : base.objs.size ≤ s.heap.objs.size
  funs : s.heap.FunFrames base outer
  frf : ∀ b ∈ frs outer,H b = none
  hok : HOk P w H s.heap
  bare : AllBare s.gens
noncomputable def CE (outer : List Env) (P : Program) (w : World) (H : Hp) (s : Shared) (Q : VK) (u : Value) (s' : Shared) : Prop :=
  ∃ v H',s'.os = s.os ∧ AllBare s'.gens ∧ Un (frs outer) [] H H' s.heap s'.heap ∧ HOk P w H' s'.heap ∧ RelV v u ∧ Q v H'
noncomputable def CR (CX : CXT) (outer : List Env) (P : Program) (w : World) (H : Hp) (s : Shared) (Q : VK) (E : XK) (r : Result) (s' : Shared) : Prop :=
  match r with
  | .ok (.ret u) => CE outer P w H s Q u s'
  | .ok _ => False
  | .error e => CX outer H s E e s'
structure FnOk (P : Program) (w : World) (K : PySem.W.Frag) (mg : Str → Option Value) (base : Heap) (CX : CXT) (k : Nat) (f : Addr) (fd : FuncData) (ps : List Str) (sp : Sp) : Prop where
  len : ∀ vs H Q E,sp vs H Q E → vs.length = ps.length
  run : ∀ (A : Around) (outer : List Env) (s : Shared) (H : Hp) (args : Args) (us : List Value) (vs : List V) (Q : VK) (E : XK),Room k A → Env0 P w K mg base A outer s H → BindsTo s fd args (ps.zip us) → Vals vs us → sp vs H Q E →
    codeAny (model P w) A (.call (.ref f) args) (CR CX outer P w H s Q E) s
section
variable {X : Cx} {pins : List (Addr × Obj)} {σ : St} {H : Hp} {s s' : Shared}
theorem Inv.env0 (I : Inv X pins σ H s) : Env0 X.prog X.w X.K X.mg X.base X.A X.stack s H :=
  ⟨I.ok.frames,I.ok.mod,I.bs,Nat.le_trans I.ok.bsz I.sz,I.stack,I.stkFree,I.hok,I.bare⟩
theorem Inv.after {Q : VK} {u : Value} (I : Inv X pins σ H s) (h : CE X.stack X.prog X.w H s Q u s') : EP X pins σ Q u s' := by
  obtain ⟨v,H',os,bare,un,hok,r,q⟩ := h
  obtain ⟨hh,g,d,t,os'⟩ := s'
  obtain rfl : os' = s.os := os
  exact ⟨v,H',I.call (h' := hh) (g' := g) (d' := d) (t' := t) (ch := []) un hok bare (fun b z => absurd z (by simp)),r,q⟩
end
noncomputable def tCall (sp : Sp) (dvs : List V) (E : XK) (t : TA) : TE := fun σ H Q => t σ H fun vs H1 => sp (vs ++ dvs) H1 Q E
noncomputable def Binds (K : PySem.W.Frag) (fd : FuncData) (ps : List Str) (ds : List Value) : Prop :=
  ∀ (s : Shared) (us : List Value),K.In s.heap → (us ++ ds).length = ps.length → BindsTo s fd ⟨us,[]⟩ (ps.zip (us ++ ds))
theorem Binds.all {K : PySem.W.Frag} {fd : FuncData} {ps : List Str} (h : ∀ us : List Value,us.length = ps.length → bindArgs fd ⟨us,[]⟩ = pure (ps.zip us)) : Binds K fd ps [] := fun s us _ hl => by
  rw [List.append_nil] at hl ⊢
  exact .of_eq (h us hl)
noncomputable def Passes (CX : CXT) (X : Cx) (E : XK) : Prop := ∀ (pins : List (Addr × Obj)) (σ : St) (H : Hp) (s : Shared) (e : Value) (s' : Shared),Inv X pins σ H s → CX X.stack H s E e s' → X.xe e s'
section
variable {X : Cx} {CX : CXT} {k : Nat} {f C : Addr} {fd : FuncData} {ps : List Str} {sp : Sp} {dvs : List V} {ds : List Value} {E : XK} {x m : Str} {p pos apos : Pos} {e o : Expr} {es : List Expr} {ta : TE} {t : TA}
theorem run_fn {pins : List (Addr × Obj)} {σ : St} {H : Hp} {s : Shared} {Q : VK} {us : List Value} {vs : List V} (F : FnOk X.prog X.w X.K X.mg X.base CX k f fd ps sp) (hr : Room k X.A) (hb : Binds X.K fd ps ds) (hd : Vals dvs ds) (hx : Passes CX X E)
    (I : Inv X pins σ H s) (r : Vals vs us) (h : sp (vs ++ dvs) H Q E) : wpAny (model X.prog X.w) X.A (call (.ref f) us) (EP X pins σ Q) X.xe s := by
  have r2 : Vals (vs ++ dvs) (us ++ ds) := r.append hd
  have hl : (us ++ ds).length = ps.length := by rw [← r2.length]; exact F.len _ _ _ _ h
  refine wpAny_call (codeAny_mono (F.run X.A X.stack s H ⟨us,[]⟩ (us ++ ds) (vs ++ dvs) Q E hr I.env0 (hb s us I.kIn hl) r2 h) fun r s' hq => ?_)
  cases r with
  | error e => exact hx pins σ H s e s' I hq
  | ok fl =>
    cases fl with
    | ret u => exact I.after hq
    | next => exact False.elim hq
    | brk => exact False.elim hq
    | cont => exact False.elim hq
theorem pe_call (F : FnOk X.prog X.w X.K X.mg X.base CX k f fd ps sp) (hr : Room k X.A) (hg : Gl X x) (hm : X.mg x = some (.ref f)) (hk : PySem.W.keepIn X.K (.ref f) = true) (hb : Binds X.K fd ps ds) (hd : Vals dvs ds) (hx : Passes CX X E)
    (ha : PA X (e :: es) t) (hdb : (x == ("__debug__" : Str)) = false := by decide) (he : starEach (e :: es) X.env = (false,eval e X.env) :: starEach es X.env := by rfl) (hpl : (backTo pos (starEach es X.env)).any (·.1) = false := by rfl) :
    PE X (.Call (.Name x p) (e :: es) [] pos) (tCall sp dvs E t) := by
  intro pins s σ H Q I h
  refine wpAny_Call_Name_kw (ld_glob I hg hm ?_ hdb)
  refine PySem.W.callWith_K (h₀ := X.base) I.ok.mod.kin hk (thn (ha pos pins s σ H _ I h) fun us s1 ⟨vs,H1,I1,r,q⟩ => ⟨I1.kIn,?_⟩) he hpl
  exact run_fn F hr hb hd hx I1 r q
end
section
variable {X : Cx} {CX : CXT} {k : Nat} {f C : Addr} {fd : FuncData} {ps ks : List Str} {sp : Sp} {E : XK} {x m : Str} {p pos apos kpos : Pos} {e o : Expr} {es : List Expr} {kws : List Keyword} {te ta : TE} {t tk : TA} {nm : Option Str}
variable {g : List Value → List Value → List Value} {gV : List V → List V → List V}
end
structure FnScope (N P : List Str) (sc : Scope) : Prop where
  kind : sc.kind = .function
  co : sc.isCoroutine = false
  gen : sc.isGenerator = false
  nd : N.Nodup
  pre : N.take P.length = P
  par : ∀ x ∈ P,sc.names.lookup x = some .local ∨ sc.names.lookup x = some .cell
  nofree : ∀ y ∈ sc.names,y.2 ≠ .free
theorem bindL_out {kindOf : Str → Option NameKind} {x : Str} : ∀ {binds : List (Str × Value)} {m : Str → Option Value},(∀ v,(x,v) ∉ binds) → bindL kindOf binds m x = m x
  | [],_,_ => rfl
  | (n,v) :: r,m,h => by
    unfold bindL
    rw [bindL_out fun w hw => h w (List.mem_cons_of_mem _ hw)]
    split
    · have : x ≠ n := by rintro rfl; exact h v List.mem_cons_self
      simp [this]
    · rfl
theorem bindC_out {kindOf : Str → Option NameKind} {x : Str} : ∀ {binds : List (Str × Value)} {m : Str → Option Value},(∀ v,(x,v) ∉ binds) → bindC kindOf binds m x = m x
  | [],_,_ => rfl
  | (n,v) :: r,m,h => by
    unfold bindC
    rw [bindC_out fun w hw => h w (List.mem_cons_of_mem _ hw)]
    split
    · rfl
    · have : x ≠ n := by rintro rfl; exact h v List.mem_cons_self
      simp [this]
theorem bindL_get {kindOf : Str → Option NameKind} {x : Str} {v : Value} : ∀ {P : List Str} {vs : List Value} {i : Nat} {m : Str → Option Value},P.Nodup → P[i]? = some x → vs[i]? = some v → kindOf x = some .local →
    bindL kindOf (P.zip vs) m x = some v
  | [],_,_,_,_,h,_,_ => by simp at h
  | _ :: _,[],_,_,_,_,h,_ => by simp at h
  | p :: P,w :: vs,0,m,nd,h1,h2,hk => by
    simp at h1 h2; subst h1; subst h2
    show bindL kindOf ((p,w) :: P.zip vs) m p = _
    unfold bindL
    rw [bindL_out fun v hv => (List.nodup_cons.mp nd).1 (List.of_mem_zip hv).1,if_pos hk]
    simp
  | p :: P,w :: vs,i + 1,m,nd,h1,h2,hk => by
    show bindL kindOf ((p,w) :: P.zip vs) m x = _
    unfold bindL
    exact bindL_get (i := i) (List.nodup_cons.mp nd).2 (by simpa using h1) (by simpa using h2) hk
theorem bindC_get {kindOf : Str → Option NameKind} {x : Str} {v : Value} : ∀ {P : List Str} {vs : List Value} {i : Nat} {m : Str → Option Value},P.Nodup → P[i]? = some x → vs[i]? = some v → kindOf x ≠ some .local →
    bindC kindOf (P.zip vs) m x = some v
  | [],_,_,_,_,h,_,_ => by simp at h
  | _ :: _,[],_,_,_,_,h,_ => by simp at h
  | p :: P,w :: vs,0,m,nd,h1,h2,hk => by
    simp at h1 h2; subst h1; subst h2
    show bindC kindOf ((p,w) :: P.zip vs) m p = _
    unfold bindC
    rw [bindC_out fun v hv => (List.nodup_cons.mp nd).1 (List.of_mem_zip hv).1,if_neg hk]
    simp
  | p :: P,w :: vs,i + 1,m,nd,h1,h2,hk => by
    show bindC kindOf ((p,w) :: P.zip vs) m x = _
    unfold bindC
    exact bindC_get (i := i) (List.nodup_cons.mp nd).2 (by simpa using h1) (by simpa using h2) hk
noncomputable def start (N : List Str) (vs : List V) : St := vs.map some ++ List.replicate (N.length - vs.length) none
noncomputable def cxOf (CX : CXT) (P : Program) (w : World) (K : PySem.W.Frag) (mg : Str → Option Value) (base : Heap) (N : List Str) (qual : Str) (scope : Scope) (f : Addr) (cd : Value) (A : Around) (outer : List Env) (s : Shared) (H : Hp) (E : XK) : Cx where
  prog := P
  w := w
  K := K
  mg := mg
  base := base
  A := A.deeper (envOfC qual scope s.heap.objs.size f cd)
  N := N
  s₀ := s
  H₀ := H
  env := envOfC qual scope s.heap.objs.size f cd
  outer := outer
  stack := envOfC qual scope s.heap.objs.size f cd :: outer
  ex := []
  calm := true
  fn := fun _ => true
  pn := []
  xe := fun e s' => wpAny (model P w) (A.deeper (envOfC qual scope s.heap.objs.size f cd)) (leaving (envOfC qual scope s.heap.objs.size f cd) e) (fun _ s'' => CX outer H s E e s'') (fun e' s'' => CX outer H s E e' s'') s'
theorem cell_has {sc : Scope} {n : Nat} {x : Str} (h : sc.names.lookup x = some .cell) : ∃ c,(cellsFrom n sc.names []).lookup x = some c := by
  have q := PySem.W.cellsFrom_some sc.names n [] (.inl h)
  exact Option.isSome_iff_exists.mp q
theorem inv_start {CX : CXT} {P : Program} {w : World} {K : PySem.W.Frag} {mg : Str → Option Value} {base : Heap} {N ps : List Str} {qual : Str} {scope : Scope} {f : Addr} {cd : Value} {A : Around} {outer : List Env} {s s1 : Shared} {H : Hp} {E : XK} {us : List Value} {vs : List V}
    (S : FnScope N ps scope) (hd : A.handled = none) (e0 : Env0 P w K mg base A outer s H) (hl : vs.length = ps.length) (r : Vals vs us)
    (x : InCallC s s.heap.objs.size (bindL (envOfC qual scope s.heap.objs.size f cd).kindOf (ps.zip us) fun _ => none) (cellsFrom (s.heap.objs.size + 1) scope.names []) (bindC (envOfC qual scope s.heap.objs.size f cd).kindOf (ps.zip us) fun _ => none) s1) :
    Inv (cxOf CX P w K mg base N qual scope f cd A outer s H E) [] (start N vs) H s1 := by
  have hpl : ps.length ≤ N.length := by have := congrArg List.length S.pre; rw [List.length_take] at this; omega
  obtain ⟨h1,tk,rfl,hk⟩ := x.done
  have noA : ∀ b : Addr,b ∉ (cxOf CX P w K mg base N qual scope f cd A outer s H E).ex := fun b z => absurd (show b ∈ ([] : List Addr) from z) (by simp)
  refine ⟨⟨e0.mod,S.kind,rfl,rfl,Nat.le_refl _,fun y z c h1 h2 => ?_,fun y hy => ?_,fun y c _ h => ?_,fun _ => hd,Around.frames_deeper e0.frames,.inr ⟨rfl,rfl⟩,fun b z => absurd z (noA b),e0.bs,e0.bsz,fun b _ _ => noA b,fun b z => absurd z (noA b),e0.funs,e0.frf⟩,
    rfl,e0.bare,Un.kept hk,⟨_,x.toInCall.ns,fun i y v h1 h2 h3 => ?_⟩,fun y c h => ⟨_,x.cell y c h⟩,e0.hok.fresh (Nat.le_refl _),fun y c h => ?_,fun p hp => absurd (show p ∈ ([] : List (Addr × Obj)) from hp) (by simp),e0.hok.kept hk,?_⟩
  · exact name_of_addr x.apart (PySem.mem_of_lookup h1) (PySem.mem_of_lookup h2)
  · have hy : scope.names.lookup y = some .cell ∨ scope.names.lookup y = some .free := hy
    rcases hy with hy | hy
    · exact cell_has hy
    · exact absurd rfl (S.nofree _ (PySem.mem_of_lookup hy))
  · exact Nat.le_of_lt (x.above y c (PySem.mem_of_lookup h))
  · have hi : i < vs.length := by
      unfold start at h2
      by_cases hi : i < vs.length
      · exact hi
      · rw [List.getElem?_append_right (by simpa using hi)] at h2
        rw [List.getElem?_replicate] at h2
        split at h2 <;> cases h2
    have ha : vs[i]? = some v := by
      unfold start at h2
      rw [List.getElem?_append_left (by simpa using hi),List.getElem?_map] at h2
      cases e : vs[i]? with
      | none => rw [e] at h2; cases h2
      | some a => rw [e] at h2; cases h2; rfl
    obtain ⟨u,hu,rv⟩ := r.get ha
    have hp : ps[i]? = some y := by
      rw [← S.pre,List.getElem?_take_of_lt (by omega)]; exact h1
    have ndP : ps.Nodup := by rw [← S.pre]; exact S.nd.sublist (List.take_sublist _ _)
    refine ⟨u,rv,?_⟩
    rcases S.par y (List.mem_of_getElem? hp) with k | k
    · exact .inl ⟨k,bindL_get ndP hp hu k⟩
    · obtain ⟨c,e⟩ := cell_has (n := s.heap.objs.size + 1) k
      refine .inr ⟨.inl k,c,e,?_⟩
      have q := x.cell y c e
      rw [bindC_get ndP hp hu (by show scope.names.lookup y ≠ _; rw [k]; decide)] at q
      exact q
  · exact e0.hok.fresh (Nat.le_of_lt (x.above y c (PySem.mem_of_lookup h)))
  · unfold start
    show _ = N.length
    rw [List.length_append,List.length_map,List.length_replicate]
    omega
theorem fn_of {CX : CXT} {P : Program} {w : World} {K : PySem.W.Frag} {mg : Str → Option Value} {base : Heap} {k : Nat} {f : Addr} {name qual : Str} {params : Arguments} {body : List Stmt} {scope : Scope} {dV kV doc pm cdv ct oc : Value} {an od : Option Addr}
    {osl : Array (Option Value)} {N ps : List Str} {sp : Sp} (lk : K.lookup f = some ⟨oc,od,.func (PySem.W.fnOf name qual params body scope dV kV doc pm an cdv ct),osl⟩) (hcd : PySem.W.codeIn K cdv qual = true) (S : FnScope N ps scope)
    (len : ∀ vs H Q E,sp vs H Q E → vs.length = ps.length)
    (hbody : ∀ (A : Around) (outer : List Env) (s : Shared) (H : Hp) (vs : List V) (Q : VK) (E : XK),Room k (A.deeper (envOfC qual scope s.heap.objs.size f cdv)) → sp vs H Q E →
      ∃ t,PSs (cxOf CX P w K mg base N qual scope f cdv A outer s H E) body t ∧ t { nx := fun _ H' => Q .non H',rt := Q } (start N vs) H) :
    FnOk P w K mg base CX (k + 1) f (PySem.W.fnOf name qual params body scope dV kV doc pm an cdv ct) ps sp := by
  refine ⟨len,fun A outer s H args us vs Q E hr e0 hb r hsp => ?_⟩
  have hl := len _ _ _ _ hsp
  have KX : K.In s.heap := e0.mod.kin.keeps fun b o e => (e0.bs b o e).1
  have lim : s.heap.NoLimit := e0.mod.nolimit.keeps fun b o e => (e0.bs b o e).1
  have hkind : ∀ y ∈ ps.zip us,scope.names.lookup y.1 = some .local ∨ (scope.names.lookup y.1 = some .cell ∧ ((cellsFrom (s.heap.objs.size + 1) scope.names []).lookup y.1).isSome = true) := fun ⟨n,v⟩ hy => by
    rcases S.par n (List.of_mem_zip hy).1 with q | q
    · exact .inl q
    · exact .inr ⟨q,PySem.W.cellsFrom_some _ _ _ (.inl q)⟩
  refine codeAny_call_function hr.depth (KX _ _ lk) rfl S.co S.gen rfl (PySem.W.codeRec_of KX hcd) (hb _ _ _ _ ?_)
  refine wpAny_newFunctionEnv_cells S.kind hkind fun env he s1 x => ?_
  subst he
  refine ⟨lim.keeps x.toInCall.keep,codeAny_func ?_⟩
  obtain ⟨t,ht,hq⟩ := hbody A outer s H vs Q E (hr.deeper _) hsp
  have I : Inv (cxOf CX P w K mg base N qual scope f cdv A outer s H E) [] (start N vs) H s1 := inv_start S hr.hd e0 hl r x
  refine wpAny_mono (ht [] s1 (start N vs) H _ I hq) (fun fl s' hs => ?_) fun e s' hs => hs
  have fin : ∀ {σ' : St} {H' : Hp} {v : V} {u : Value},Inv (cxOf CX P w K mg base N qual scope f cdv A outer s H E) [] σ' H' s' → RelV v u → Q v H' → CE outer P w H s Q u s' :=
    fun {σ' H' v u} J rv q => ⟨v,H',J.os,J.bare,J.base,J.hok,rv,q⟩
  cases fl with
  | ret u =>
    obtain ⟨v,σ',H',J,rv,q⟩ := hs
    exact fin J rv q
  | next =>
    obtain ⟨σ',H',J,q⟩ := hs
    exact fin (v := V.non) (u := Value.none) J rfl q
  | brk =>
    obtain ⟨_,_,_,q⟩ := hs
    exact False.elim q
  | cont =>
    obtain ⟨_,_,_,q⟩ := hs
    exact False.elim q
end L2
namespace L2
open PySem PySem.Spec PyProof.Rows
section
variable {X : Cx} {x : Str} {p pos : Pos} {e : Expr} {es : List Expr} {t : TA} {id T : String} {r : List V → Hp → VK → Prop}
noncomputable def tCB (r : List V → Hp → VK → Prop) (t : TA) : TE := fun σ H Q => t σ H fun vs H1 => r vs H1 Q
theorem pe_callB (hc : CallR X (.builtin id) r) (hg : Gl X x) (hm : X.mg x = none) (hv : bootBuiltins x = some (.builtin id)) (ha : PA X (e :: es) t) (hn : x ≠ "__name__" := by decide) (hdb : (x == ("__debug__" : Str)) = false := by decide)
    (he : starEach (e :: es) X.env = (false,eval e X.env) :: starEach es X.env := by rfl) (hpl : (backTo pos (starEach es X.env)).any (·.1) = false := by rfl) : PE X (.Call (.Name x p) (e :: es) [] pos) (tCB r t) := by
  intro pins s σ H Q I h
  refine wpAny_Call_Name_kw (ld_blt I hg hm hv ?_ hn hdb)
  exact PyProof.Rows.callWith_builtin1 (thn (ha pos pins s σ H _ I h) fun us s1 ⟨vs,H1,I1,r1,q1⟩ => hc pins s1 σ H1 vs us Q I1 r1 q1) he hpl
theorem pe_callTy (hc : CallR X (.type T) r) (hg : Gl X x) (hm : X.mg x = none) (hv : bootBuiltins x = some (.type T)) (ha : PA X (e :: es) t) (hn : x ≠ "__name__" := by decide) (hdb : (x == ("__debug__" : Str)) = false := by decide)
    (he : starEach (e :: es) X.env = (false,eval e X.env) :: starEach es X.env := by rfl) (hpl : (backTo pos (starEach es X.env)).any (·.1) = false := by rfl) : PE X (.Call (.Name x p) (e :: es) [] pos) (tCB r t) := by
  intro pins s σ H Q I h
  refine wpAny_Call_Name_kw (ld_blt I hg hm hv ?_ hn hdb)
  exact PyProof.Rows.callWith_type1 (thn (ha pos pins s σ H _ I h) fun us s1 ⟨vs,H1,I1,r1,q1⟩ => hc pins s1 σ H1 vs us Q I1 r1 q1) he hpl
end
end L2
namespace HT
open PySem PyProof.Rows
section
open PySem.SeqAt
open PySem.AutoSeq1 (wpAny_loadPart')
open PySem.MeetsSeq PySem.MeetsSeq2 PySem.MeetsSeq3
end
section
variable {prog : Program} {w : World} {A : Around} {E : Value → Shared → Prop} {s : Shared}
theorem cat_tup {t b : Addr} {vs ws : List Value} {Q : Value → Shared → Prop} (ht : IsTup s.heap t vs.toArray) (hb : IsTup s.heap b ws.toArray) (hv : vs ≠ [])
    (h1 : ws = [] → Q (.ref t) s) (h2 : ws ≠ [] → Q (.ref s.heap.objs.size) { s with heap := s.heap.push { cls := .type "tuple",data := .seq (vs ++ ws).toArray } })
    (hsz : vs.length + ws.length ≤ sizeLine) : wpAny (model prog w) A (binaryOp .Add (.ref t) (.ref b)) Q E s := by
  obtain ⟨⟨cls,dd,data,sl⟩,ho,hc,n,hd⟩ := id ht
  obtain ⟨⟨cls2,dd2,data2,sl2⟩,ho2,hc2,n2,hd2⟩ := id hb
  simp only at hc hd hc2 hd2
  subst hc hd hc2 hd2
  have e : vs.toArray ++ ws.toArray = (vs ++ ws).toArray := by simp
  by_cases hw : ws = []
  · exact concat_meets ⟨_,ho,rfl⟩ ⟨_,ho2,rfl⟩ noFill_tuple_add seq_tuple_add PySem.F.slot_tuple_add PySem.F.entry_tuple_add (PySem.F.args_tuple_add_2 _ _)
      (tuple_addW1 t b vs.toArray ws.toArray n n2 dd dd2 sl sl2 (by simpa using hv) (by simp [hw])) ⟨ho,ho2,h1 hw⟩
  · refine concat_meets ⟨_,ho,rfl⟩ ⟨_,ho2,rfl⟩ noFill_tuple_add seq_tuple_add PySem.F.slot_tuple_add PySem.F.entry_tuple_add (PySem.F.args_tuple_add_2 _ _)
      (tuple_addW2 t b vs.toArray ws.toArray n n2 dd dd2 sl sl2 (by simpa using hv) (by simpa using hw) (by rw [List.size_toArray,List.size_toArray]; exact hsz)) ⟨ho,ho2,?_⟩
    rw [e]
    exact h2 hw
noncomputable def sIx (n d : Nat) : Option Int → Nat
  | none => d
  | some v => if v < 0 then (v + (n : Int)).toNat else min v.toNat n
theorem sIx_none (n d : Nat) : sIx n d none = d := rfl
theorem sIx_nat (n d k : Nat) : sIx n d (some (k : Int)) = min k n := by
  show (if (k : Int) < 0 then ((k : Int) + (n : Int)).toNat else min (k : Int).toNat n) = min k n
  rw [if_neg (by omega),Int.toNat_natCast]
theorem sIx_le (n d : Nat) (hd : d ≤ n) (o : Option Int) : sIx n d o ≤ n := by
  cases o with
  | none => exact hd
  | some v =>
    show (if v < 0 then (v + (n : Int)).toNat else min v.toNat n) ≤ n
    by_cases hv : v < 0
    · rw [if_pos hv]; omega
    · rw [if_neg hv]; exact Nat.min_le_right _ _
theorem clip_eq (v : Int) (n d : Nat) : (if v < 0 then max (v + (n : Int)) 0 else min v (n : Int)) = ((sIx n d (some v) : Nat) : Int) := by
  show (if v < 0 then max (v + (n : Int)) 0 else min v (n : Int)) = (((if v < 0 then (v + (n : Int)).toNat else min v.toNat n) : Nat) : Int)
  by_cases hv : v < 0
  · simp only [if_pos hv]; omega
  · simp only [if_neg hv]; omega
theorem adjust_gen (lo hi : Option Int) (n : Nat) : Builtin.Slice.sliceAdjust lo hi 1 (n : Int) = (((sIx n 0 lo : Nat) : Int),((sIx n n hi : Nat) : Int)) := by
  have h1 : ¬ ((1 : Int) < 0) := by omega
  unfold Builtin.Slice.sliceAdjust
  simp only [h1,if_false]
  refine Prod.ext ?_ ?_
  · cases lo with
    | none => rfl
    | some v => exact clip_eq v n 0
  · cases hi with
    | none => rfl
    | some v => exact clip_eq v n n
theorem places_gen (i j : Nat) : Builtin.Slice.slicePlaces (i : Int) (j : Int) 1 = j - i := by
  unfold Builtin.Slice.slicePlaces
  have h1 : (1 : Int) > 0 := by omega
  simp only [h1,if_true,Int.ediv_one]
  split <;> omega
theorem slicePart_ {v : Value} {o : Option Int} {Q : Option Int → Shared → Prop} (p : IsPart v o) (h : Q o s) : wpAny (model prog w) A (Builtin.Slice.slicePartIndex v) Q E s := by
  cases p with
  | none => exact slicePart_none h
  | int i t => exact slicePart_int h
theorem sliceApplied_gen {sl : Addr} {vl vu : Value} {lo hi : Option Int} {n : Nat} {Q : Int × Int × Nat → Shared → Prop} (hs : s.heap.IsSliceOf sl vl vu .none) (pl : IsPart vl lo) (pu : IsPart vu hi)
    (h : Q (((sIx n 0 lo : Nat) : Int),1,sIx n n hi - sIx n 0 lo) s) : wpAny (model prog w) A (Builtin.Slice.sliceApplied (.ref sl) (pure (n : Int))) Q E s := by
  obtain ⟨os,hos,hcs,hds⟩ := id hs
  unfold Builtin.Slice.sliceApplied Builtin.Slice.sliceFields
  refine wpAny_bind (wpAny_bind (wpAny_field hos hds (x := vl) rfl (wpAny_bind (wpAny_field hos hds (x := vu) rfl (wpAny_bind (wpAny_field hos hds (x := .none) rfl (wpAny_pure ?_)))))))
  refine wpAny_bind (slicePart_none ?_)
  show wpAny _ _ (if ((1 : Int) == 0) = true then _ else _) _ _ s
  rw [if_neg (by decide)]
  refine wpAny_bind (slicePart_ pl (wpAny_bind (slicePart_ pu (wpAny_bind (wpAny_pure ?_)))))
  show wpAny _ _ (match Builtin.Slice.sliceAdjust lo hi 1 (n : Int) with | (lo,hi) => pure (lo,(1 : Int),Builtin.Slice.slicePlaces lo hi 1)) _ _ s
  rw [adjust_gen lo hi n]
  show wpAny _ _ (pure (((sIx n 0 lo : Nat) : Int),(1 : Int),Builtin.Slice.slicePlaces ((sIx n 0 lo : Nat) : Int) ((sIx n n hi : Nat) : Int) 1)) _ _ s
  rw [places_gen]
  exact wpAny_pure h
theorem pick_gen (xs : Array Value) (i k : Nat) : ((List.range k).filterMap fun (m : Nat) => xs[((i : Int) + (m : Int) * 1).toNat]?).toArray = ((xs.toList.drop i).take k).toArray := by
  have e : (fun (m : Nat) => xs[((i : Int) + (m : Int) * 1).toNat]?) = fun m => xs[i + m]? := by
    funext m
    have : ((i : Int) + (m : Int) * 1).toNat = i + m := by omega
    rw [this]
  rw [e]
  have := pick_run xs i k
  rw [List.filterMap_map] at this
  have e2 : ((fun x => xs[x]?) ∘ fun x => i + x) = fun m => xs[i + m]? := rfl
  rw [e2] at this
  rw [this]
theorem getItem_tuple_cut {t sl : Addr} {items : Array Value} {vl vu : Value} {lo hi : Option Int} {Q : Value → Shared → Prop} (ht : IsTup s.heap t items) (hs : s.heap.IsSliceOf sl vl vu .none) (pl : IsPart vl lo) (pu : IsPart vu hi)
    (hw : ¬ (sIx items.size 0 lo = 0 ∧ sIx items.size items.size hi = items.size))
    (h : Q (.ref s.heap.objs.size) { s with heap := s.heap.push { cls := .type "tuple",data := .seq ((items.toList.drop (sIx items.size 0 lo)).take (sIx items.size items.size hi - sIx items.size 0 lo)).toArray } })
    (hsz : items.size ≤ sizeLine) : wpAny (model prog w) A (getItem (.ref t) (.ref sl)) Q E s := by
  have htake : sizeOk (.seq ((items.toList.drop (sIx items.size 0 lo)).take (sIx items.size items.size hi - sIx items.size 0 lo)).toArray) := by
    show ((items.toList.drop (sIx items.size 0 lo)).take (sIx items.size items.size hi - sIx items.size 0 lo)).toArray.size ≤ sizeLine
    rw [List.size_toArray,List.length_take,List.length_drop,Array.length_toList]
    omega
  have hj : sIx items.size items.size hi ≤ items.size := sIx_le _ _ (Nat.le_refl _) hi
  obtain ⟨os,hos,hcs,hds⟩ := id hs
  have hTs : s.TypeIs (.ref sl) "slice" := ⟨os,hos,hcs⟩
  unfold getItem
  try with_reducible refine wpAny_holding ?_
  first | refine wpAny_bind (wpAny_pure ?_) | skip
  refine wpAny_bind (wpAny_sequenceKey ht.typeIs (by decide) ?_)
  refine wpAny_bind (wpAny_callSpecial?_slot (name := Str.ofString "__getitem__") ht.typeIs PyProof.Rows.slot_tuple_getitem
    (wpAny_call_entry PyProof.Rows.slot_tuple_getitem ht.typeIs entry_tuple_getitem ?_ (args_tuple_getitem _ _)))
  show wpAny _ _ (Builtin.Tuple.tupleItemsOf (.ref t) >>= _) _ _ s
  refine wpAny_bind (tupleItemsOf_ ht ?_)
  refine wpAny_bind (wpAny_typeOf hTs ?_)
  rw [if_pos (by decide)]
  refine wpAny_bind (sliceApplied_gen hs pl pu ?_)
  have hno : ¬ ((((sIx items.size 0 lo : Nat) : Int) == 0 && (1 : Int) == 1 && (sIx items.size items.size hi - sIx items.size 0 lo) == items.size) = true) := by
    intro q
    rw [Bool.and_eq_true,Bool.and_eq_true] at q
    have q1 : ((sIx items.size 0 lo : Nat) : Int) = 0 := eq_of_beq q.1.1
    have q2 : sIx items.size items.size hi - sIx items.size 0 lo = items.size := eq_of_beq q.2
    exact hw ⟨by omega,by omega⟩
  show wpAny _ _ (if (((sIx items.size 0 lo : Nat) : Int) == 0 && (1 : Int) == 1 && (sIx items.size items.size hi - sIx items.size 0 lo) == items.size) = true then _ else _) _ _ s
  rw [if_neg hno,pick_gen]
  first
    | exact wpAny_bind (m := Builtin.Tuple.tupleExact _) (wpAny_newObj_type (wpAny_pure ⟨_,rfl,wpAny_pure h⟩) htake)
    | exact wpAny_bind (m := Builtin.Tuple.tupleExact _) (wpAny_newObj_type (wpAny_bind (wpAny_pure (wpAny_pure ⟨_,rfl,wpAny_pure h⟩))) htake)
    | exact wpAny_bind (wpAny_bind (m := Builtin.Tuple.tupleExact _) (wpAny_newObj_type (wpAny_pure (wpAny_pure ⟨_,rfl,wpAny_pure h⟩)) htake))
    | exact wpAny_bind (wpAny_bind (m := Builtin.Tuple.tupleExact _) (wpAny_newObj_type (wpAny_pure ⟨_,rfl,wpAny_pure h⟩) htake))
end
end HT
namespace L2
open PySem PySem.Spec PyProof.Rows
noncomputable abbrev TO := St → Hp → (Option Int → Hp → Prop) → Prop
noncomputable def PO (X : Cx) (e : Option Expr) (t : TO) : Prop :=
  ∀ (pins : List (Addr × Obj)) (s : Shared) (σ : St) (H : Hp) (Q : Option Int → Hp → Prop),Inv X pins σ H s → t σ H Q →
    wpAny (model X.prog X.w) X.A (evalPart e X.env) (fun u s' => ∃ o H',Inv X pins σ H' s' ∧ IsPart u o ∧ Q o H') X.xe s
noncomputable def tNoPart : TO := fun _ H Q => Q none H
inductive SPart (x : V) (H : Hp) (Q : Option Int → Hp → Prop) : Prop | mk (i : Int) (hx : x = .int i) (q : Q (some i) H)
noncomputable def tPart (t : TE) : TO := fun σ H Q => t σ H fun x H1 => SPart x H1 Q
theorem intsAre_of {ns : List Int} : ∀ {us : List Value},Vals (ns.map V.int) us → IntsAre us ns := by
  induction ns with
  | nil => intro us r; rw [List.map_nil] at r; cases r; exact .nil
  | cons n ns ih =>
    intro us r
    rw [List.map_cons] at r
    cases r with
    | cons r1 r2 =>
      obtain ⟨t,e⟩ := r1
      subst e
      exact .cons n t (ih r2)
section
variable {X : Cx} {e : Expr} {te : TE} {lo hi : Option Expr} {tl th : TO} {pos p2 : Pos}
theorem po_none : PO X none tNoPart := by
  intro pins s σ H Q I h
  rw [evalPart_none]
  exact wpAny_pure ⟨none,H,I,.none,h⟩
theorem po_some (h : PE X e te) : PO X (some e) (tPart te) := by
  intro pins s σ H Q I hw
  rw [evalPart_some]
  refine thn (h pins s σ H _ I hw) fun u s1 ⟨x,H1,I1,r1,q1⟩ => ?_
  obtain ⟨i,rfl,q⟩ := q1
  obtain ⟨t,rfl⟩ := r1
  exact ⟨some i,H1,I1,.int i t,q⟩
noncomputable def SlR (X : Cx) (r : V → Option Int → Option Int → Hp → VK → Prop) : Prop :=
  ∀ (pins : List (Addr × Obj)) (s : Shared) (σ : St) (H : Hp) (x : V) (v vl vu : Value) (lo hi : Option Int) (sl : Addr) (Q : VK),Inv X pins σ H s → RelV x v → s.heap.IsSliceOf sl vl vu .none → IsPart vl lo → IsPart vu hi → r x lo hi H Q →
    ∃ T id,typeLookup (.type T) "__getitem__" = pure (some (.builtin id)) ∧ s.TypeIs v T ∧ wpAny (model X.prog X.w) X.A (getItem v (.ref sl)) (EP X pins σ Q) X.xe s
theorem SlR.or {r r' : V → Option Int → Option Int → Hp → VK → Prop} (h : SlR X r) (h' : SlR X r') : SlR X (fun x lo hi H Q => r x lo hi H Q ∨ r' x lo hi H Q) := by
  intro pins s σ H x v vl vu lo hi sl Q I rx hs pl pu q
  rcases q with q | q
  · exact h pins s σ H x v vl vu lo hi sl Q I rx hs pl pu q
  · exact h' pins s σ H x v vl vu lo hi sl Q I rx hs pl pu q
noncomputable def tSl (r : V → Option Int → Option Int → Hp → VK → Prop) (te : TE) (tl th : TO) : TE := fun σ H Q => te σ H fun x H1 => tl σ H1 fun l H2 => th σ H2 fun u H3 => r x l u H3 Q
theorem pe_slice {r : V → Option Int → Option Int → Hp → VK → Prop} (hr : SlR X r) (he : PE X e te) (hl : PO X lo tl) (hu : PO X hi th) : PE X (.Subscript e (.Slice lo hi none p2) pos) (tSl r te tl th) := by
  intro pins s σ H Q I h
  refine Subscript_ (thn (he pins s σ H _ I h) fun v s1 ⟨x,H1,I1,r1,q1⟩ => ?_)
  refine wpAny_Slice (thn (hl pins s1 σ H1 _ I1 q1) fun vl s2 ⟨l,H2,I2,pl,q2⟩ => thn (hu pins s2 σ H2 _ I2 q2) fun vu s3 ⟨u,H3,I3,pu,q3⟩ => ?_)
  rw [evalPart_none]
  refine wpAny_pure ?_
  have I4 : Inv X pins σ H3 { s3 with heap := s3.heap.push { cls := .type "slice",data := .fields #[vl,vu,.none] } } := I3.kept (t' := s3.toks) fun b ob q => Heap.get?_push_of_some _ q
  obtain ⟨T,id,hT,ht,hg⟩ := hr pins { s3 with heap := s3.heap.push { cls := .type "slice",data := .fields #[vl,vu,.none] } } σ H3 x v vl vu l u s3.heap.objs.size Q I4 r1 (Heap.IsSliceOf.new ..) pl pu q3
  show wpAny (model X.prog X.w) X.A (subscriptTail e (.Slice lo hi none p2) v (.ref s3.heap.objs.size)) (EP X pins σ Q) X.xe { s3 with heap := s3.heap.push { cls := .type "slice",data := .fields #[vl,vu,.none] } }
  exact tail_any (ops := [.ref s3.heap.objs.size,v]) ht hT hg (by with_unfolding_all rfl)
noncomputable def cutV (xs : List V) (lo hi : Option Int) : List V := (xs.drop (HT.sIx xs.length 0 lo)).take (HT.sIx xs.length xs.length hi - HT.sIx xs.length 0 lo)
theorem cutV_length (xs : List V) (lo hi : Option Int) : (cutV xs lo hi).length ≤ xs.length := by
  unfold cutV
  rw [List.length_take,List.length_drop]
  omega
noncomputable def rSlT (K : PySem.W.Frag) : V → Option Int → Option Int → Hp → VK → Prop := fun x lo hi H Q => ∃ a xs,x = .ref a ∧ SqT K H a xs ∧
  ¬ (HT.sIx xs.length 0 lo = 0 ∧ HT.sIx xs.length xs.length hi = xs.length) ∧ ∀ p,H p = none → Q (.ref p) (upd H p (.tup (cutV xs lo hi)))
theorem sl_tup : SlR X (rSlT X.K) := by
  intro pins s σ H x v vl vu lo hi sl Q I rx hs pl pu h
  obtain ⟨a,xs,rfl,hx,hw,q⟩ := h
  cases rx
  obtain ⟨its,r,ht,hz⟩ := I.tuple hx
  have hlen : its.toArray.size = xs.length := by rw [List.size_toArray]; exact r.length.symm
  refine ⟨"tuple",_,PyProof.Rows.slot_tuple_getitem.lookup,ht.typeIs,?_⟩
  refine HT.getItem_tuple_cut ht hs pl pu (by rw [hlen]; exact hw) ?_ (by rw [hlen]; exact hz)
  rw [hlen]
  refine ⟨.ref s.heap.objs.size,_,I.laid (t' := s.toks) (o := .tup (cutV xs lo hi)) (fun b ob q => Heap.get?_push_of_some _ q) (Nat.le_refl _) ?_,rfl,q _ (I.hok.fresh (Nat.le_refl _))⟩
  exact ⟨Nat.le_trans (cutV_length xs lo hi) hz,_,(r.drop (HT.sIx xs.length 0 lo)).take (HT.sIx xs.length xs.length hi - HT.sIx xs.length 0 lo),IsTup.new _ _⟩
noncomputable def rCatT (K : PySem.W.Frag) : R2 := fun x y H Q => ∃ a b xs ys,x = .ref a ∧ y = .ref b ∧ SqT K H a xs ∧ SqT K H b ys ∧ xs ≠ [] ∧ xs.length + ys.length ≤ sizeLine ∧
  (ys = [] → Q (.ref a) H) ∧ (ys ≠ [] → ∀ p,H p = none → Q (.ref p) (upd H p (.tup (xs ++ ys))))
theorem Vals.nil_iff {xs : List V} {us : List Value} (r : Vals xs us) : us = [] ↔ xs = [] := by
  cases r with
  | nil => simp
  | cons _ _ => simp
theorem op_catT : OpR X (binaryOp .Add) (rCatT X.K) := by
  intro pins s σ H x y v u Q I rx ry h
  obtain ⟨a,b,xs,ys,rfl,rfl,ha,hb,hx,hz,q1,q2⟩ := h
  cases rx
  cases ry
  obtain ⟨its,r1,p1,_⟩ := I.tuple ha
  obtain ⟨its2,r2,p2,_⟩ := I.tuple hb
  refine HT.cat_tup p1 p2 (fun z => hx (r1.nil_iff.mp z)) (fun z => ⟨.ref a,H,I,rfl,q1 (r2.nil_iff.mp z)⟩) (fun z => ?_) (by rw [← r1.length,← r2.length]; exact hz)
  refine ⟨.ref s.heap.objs.size,_,I.laid (t' := s.toks) (o := .tup (xs ++ ys)) (fun b ob q => Heap.get?_push_of_some _ q) (Nat.le_refl _) ?_,rfl,q2 (fun w => z (r2.nil_iff.mpr w)) _ (I.hok.fresh (Nat.le_refl _))⟩
  exact ⟨by rw [List.length_append]; exact hz,_,r1.append r2,IsTup.new _ _⟩
end
end L2
namespace L2
open PySem PySem.Spec PyProof.Rows
noncomputable def ixN (n : Nat) (i : Int) : Option Nat := if 0 ≤ i then (if i < n then some i.toNat else none) else if -(n : Int) ≤ i then some (i + n).toNat else none
noncomputable def atI {α : Type} (xs : List α) (i : Int) : Option α := (ixN xs.length i).bind fun j => xs[j]?
theorem ixN_seq {n : Nat} {i : Int} {j : Nat} (h : ixN n i = some j) : seqIndex? i n = some j ∧ j < n ∧ -(n : Int) ≤ i ∧ i < n := by
  unfold ixN at h
  by_cases h0 : 0 ≤ i
  · rw [if_pos h0] at h
    by_cases h1 : i < n
    · rw [if_pos h1] at h
      have e : i.toNat = j := Option.some.inj h
      exact ⟨by rw [seqIndex_of h0 h1,e],by omega,by omega,h1⟩
    · rw [if_neg h1] at h; cases h
  · rw [if_neg h0] at h
    by_cases h1 : -(n : Int) ≤ i
    · rw [if_pos h1] at h
      have e : (i + n).toNat = j := Option.some.inj h
      exact ⟨by rw [seqIndex_neg (by omega) h1,e],by omega,h1,by omega⟩
    · rw [if_neg h1] at h; cases h
theorem atI_get {α : Type} {xs : List α} {i : Int} {v : α} (h : atI xs i = some v) : ∃ j,seqIndex? i xs.length = some j ∧ xs[j]? = some v ∧ j < xs.length ∧ -(xs.length : Int) ≤ i ∧ i < xs.length := by
  unfold atI at h
  cases e : ixN xs.length i with
  | none => rw [e] at h; cases h
  | some j =>
    rw [e] at h
    obtain ⟨h1,h2,h3,h4⟩ := ixN_seq e
    exact ⟨j,h1,h,h2,h3,h4⟩
theorem atI_nat {α : Type} {xs : List α} {j : Nat} {v : α} (h : xs[j]? = some v) : atI xs (j : Int) = some v := by
  have hj : j < xs.length := (List.getElem?_eq_some_iff.mp h).1
  have e : ixN xs.length (j : Int) = some j := by
    unfold ixN
    rw [if_pos (by omega),if_pos (by omega)]; simp
  unfold atI; rw [e]; exact h
noncomputable def PlainIx (b : Expr) : Prop := ∀ o i,subscripted b false o i = operate [o,i] (getItem o i)
noncomputable def IxR (X : Cx) (r : R2) : Prop :=
  ∀ (value slice : Expr) (pins : List (Addr × Obj)) (s : Shared) (σ : St) (H : Hp) (x y : V) (v u : Value) (Q : VK),Inv X pins σ H s → RelV x v → RelV y u → r x y H Q →
    subscripted slice false v u = operate [v,u] (getItem v u) → wpAny (model X.prog X.w) X.A (subscriptTail value slice v u) (EP X pins σ Q) X.xe s
noncomputable def MtR (X : Cx) (id : String) (r : V → List V → Hp → VK → Prop) : Prop :=
  ∀ (pins : List (Addr × Obj)) (s : Shared) (σ : St) (H : Hp) (x : V) (xs : List V) (v : Value) (us : List Value) (Q : VK),Inv X pins σ H s → RelV x v → Vals xs us → r x xs H Q →
    wpAny (model X.prog X.w) X.A (call (.builtin id) (v :: us)) (EP X pins σ Q) X.xe s
section
variable {X : Cx} {a b : Expr} {ta tb : TE} {pos : Pos}
theorem IxR.or {r r' : R2} (h : IxR X r) (h' : IxR X r') : IxR X (fun x y H Q => r x y H Q ∨ r' x y H Q) := by
  intro value slice pins s σ H x y v u Q I rx ry q hs
  rcases q with q | q
  · exact h value slice pins s σ H x y v u Q I rx ry q hs
  · exact h' value slice pins s σ H x y v u Q I rx ry q hs
theorem pe_ix {r : R2} (hr : IxR X r) (ha : PE X a ta) (hb : PE X b tb) (hs : PlainIx b) : PE X (.Subscript a b pos) (tOp r ta tb) := by
  intro pins s σ H Q I h
  exact Subscript_ (binT ha hb I h fun v u s2 x y H2 I2 rx ry q => hr a b pins s2 σ H2 x y v u Q I2 rx ry q (hs _ _))
noncomputable def rIxL (K : PySem.W.Frag) : R2 := fun x y H Q => ∃ p xs i v,x = .ref p ∧ y = .int i ∧ SqL K H p xs ∧ atI xs i = some v ∧ Q v H
noncomputable def rIxT (K : PySem.W.Frag) : R2 := fun x y H Q => ∃ p xs i v,x = .ref p ∧ y = .int i ∧ SqT K H p xs ∧ atI xs i = some v ∧ Q v H
noncomputable def rIxS : R2 := fun x y H Q => ∃ z i c,x = .str z ∧ y = .int i ∧ z.length ≤ sizeLine ∧ atI z.cps.toList i = some c ∧ Q (.str ⟨#[c]⟩) H
theorem ix_list : IxR X (rIxL X.K) := by
  intro value slice pins s σ H x y v u Q I rx ry h hs
  obtain ⟨p,xs,i,z,rfl,rfl,hq,he,q⟩ := h
  cases rx
  obtain ⟨t,rfl⟩ := ry
  obtain ⟨its,r,pl,hz⟩ := I.list hq
  obtain ⟨j,h1,h2,h3,h4,h5⟩ := atI_get he
  obtain ⟨w,ew,rw'⟩ := r.get h2
  have hl := r.length
  have hn := line63
  have fin : EP X pins σ Q w s := ⟨z,H,I,rw',q⟩
  by_cases h0 : 0 ≤ i
  · have hj : i.toNat = j := by
      rw [seqIndex_of h0 h5] at h1
      exact Option.some.inj h1
    exact item_listR pl.isList h0 (by omega) (by rw [hj]; simpa using ew) fin hs
  · have hj : (i + (its.toArray.size : Int)).toNat = j := by
      rw [seqIndex_neg (by omega) h4] at h1
      rw [List.size_toArray,← hl]
      exact Option.some.inj h1
    exact subscriptTail_builtinR (x := w) pl.isList.typeIs slot_list_getitem.lookup
      (wpAny_getItem_list_neg (Q := fun r s' => r = w ∧ EP X pins σ Q r s') pl.isList (by omega) (by rw [List.size_toArray] <;> omega) (by omega) (by rw [hj]; simpa using ew) ⟨rfl,fin⟩) hs
theorem ix_tup : IxR X (rIxT X.K) := by
  intro value slice pins s σ H x y v u Q I rx ry h hs
  obtain ⟨p,xs,i,z,rfl,rfl,hq,he,q⟩ := h
  cases rx
  obtain ⟨t,rfl⟩ := ry
  obtain ⟨its,r,pl,hz⟩ := I.tuple hq
  obtain ⟨j,h1,h2,h3,h4,h5⟩ := atI_get he
  obtain ⟨w,ew,rw'⟩ := r.get h2
  have hl := r.length
  have hn := line63
  have fin : EP X pins σ Q w s := ⟨z,H,I,rw',q⟩
  exact subscriptTail_builtinR (x := w) pl.typeIs slot_tuple_getitem.lookup
    (getItem_tuple (j := j) (Q := fun r s' => r = w ∧ EP X pins σ Q r s') pl (by omega) (by omega) (by rw [List.size_toArray,← hl]; exact h1) (by simpa using ew) ⟨rfl,fin⟩) hs
theorem ix_str : IxR X rIxS := by
  intro value slice pins s σ H x y v u Q I rx ry h hs
  obtain ⟨z,i,c,rfl,rfl,hz,he,q⟩ := h
  obtain ⟨t,rfl⟩ := rx
  obtain ⟨t',rfl⟩ := ry
  obtain ⟨j,h1,h2,h3,h4,h5⟩ := atI_get he
  have hl : z.cps.toList.length = z.length := by simp [Str.length]
  rw [hl] at h1 h4 h5
  have hn := line63
  exact tail_any (typeIs_str s z t) slot_str_getitem.lookup (getItem_str (c := c) (by
    have e1 : decide (i < -(2 ^ 63 : Int)) = false := decide_eq_false (by omega)
    have e2 : decide (i ≥ 2 ^ 63) = false := decide_eq_false (by omega)
    rw [e1,e2,Bool.or_false]) (by rw [h1]; simpa using h2) ⟨.str ⟨#[c]⟩,H,I.tok _,⟨_,rfl⟩,q⟩) hs
noncomputable def rIx (K : PySem.W.Frag) : R2 := fun x y H Q => rIxL K x y H Q ∨ rIxT K x y H Q ∨ rIxS x y H Q
theorem ix_seq : IxR X (rIx X.K) := ix_list.or (ix_tup.or ix_str)
theorem mapSeq_set (its : List Value) (n j : Nat) (u : Value) : Obj.mapSeq (·.setIfInBounds j u) { cls := .type "list",data := .seq its.toArray n } = { cls := .type "list",data := .seq (its.set j u).toArray n } := by
  simp [Obj.mapSeq]
theorem Inv.lst {pins : List (Addr × Obj)} {σ : St} {H : Hp} {s : Shared} {p : Addr} {xs : List V} (I : Inv X pins σ H s) (h : H p = some (.lst xs)) :
    ∃ (its : List Value) (n : Nat),Vals xs its ∧ s.heap.get? p = some { cls := .type "list",data := .seq its.toArray n } ∧ xs.length ≤ sizeLine := by
  obtain ⟨z,its,n,r,e⟩ := I.hok p _ h
  exact ⟨its,n,r,e,z⟩
theorem Inv.lstUpd {pins : List (Addr × Obj)} {σ : St} {H : Hp} {s : Shared} {p : Addr} {xs ys : List V} {its its' : List Value} {n n' : Nat} {f : Obj → Obj} (I : Inv X pins σ H s) (h : H p = some (.lst xs))
    (ho : s.heap.get? p = some { cls := .type "list",data := .seq its.toArray n }) (hf : f { cls := .type "list",data := .seq its.toArray n } = { cls := .type "list",data := .seq its'.toArray n' }) (r : Vals ys its') (hz : ys.length ≤ sizeLine) (t : Nat) :
    Inv X pins σ (upd H p (.lst ys)) { s with heap := s.heap.update p f,toks := t } := by
  have e : (s.heap.update p f).get? p = some { cls := .type "list",data := .seq its'.toArray n' } := by
    rw [Heap.get?_update_self f ho (by rw [hf] <;> rfl),hf]
  refine I.write (x := p) (e := p) (by rw [h]; trivial) (.inl rfl) (fun b u hb q => (Heap.get?_update_other _ _ (Ne.symm hb)).trans q) ⟨_,e⟩ ?_
  exact ⟨hz,its',n',r,e⟩
inductive SSet (o i v : V) (H : Hp) (Q : Hp → Prop) : Prop | mk (p : Addr) (xs : List V) (k : Int) (j : Nat) (ho : o = .ref p) (hi : i = .int k) (hp : H p = some (.lst xs)) (hj : ixN xs.length k = some j) (q : Q (upd H p (.lst (xs.set j v))))
noncomputable def rSetL : V → V → V → Hp → (Hp → Prop) → Prop := fun o i v H Q => SSet o i v H Q
theorem set_list : PSet X rSetL := by
  intro pins s σ H o i v ov iv u Q I ro ri rv h
  obtain ⟨p,xs,k,j,rfl,rfl,hp,hj,q⟩ := h
  cases ro
  obtain ⟨t,rfl⟩ := ri
  obtain ⟨its,n,r,ho,hz⟩ := I.lst hp
  obtain ⟨h1,h2,h3,h4⟩ := ixN_seq hj
  have hl := r.length
  have hn := line63
  have I' : Inv X pins σ (upd H p (.lst (xs.set j v))) { s with heap := s.heap.update p (Obj.mapSeq (·.setIfInBounds j u)) } :=
    I.lstUpd hp ho (mapSeq_set its n j u) (r.set rv j) (by rw [List.length_set]; exact hz) s.toks
  by_cases h0 : 0 ≤ k
  · have hk : k.toNat = j := by
      rw [seqIndex_of h0 h4] at h1
      exact Option.some.inj h1
    exact PySem.W.ki_setAt ho h0 (by omega) (by rw [List.size_toArray,← hl]; exact h4) (by rw [hk]; exact ⟨_,I',q⟩)
  · have hk : (k + (its.toArray.size : Int)).toNat = j := by
      rw [seqIndex_neg (by omega) h3] at h1
      rw [List.size_toArray,← hl]
      exact Option.some.inj h1
    exact PySem.W.ki_setBack ho (by omega) (by rw [List.size_toArray,← hl]; exact h3) (by omega) (by rw [hk]; exact ⟨_,I',q⟩)
theorem slice_bounds (lo hi : Option Int) (n : Nat) : (sliceBounds lo hi none n).1 = ((HT.sIx n 0 lo : Nat) : Int) ∧ (sliceBounds lo hi none n).2.1 = ((HT.sIx n n hi : Nat) : Int) ∧ (sliceBounds lo hi none n).2.2 = 1 := by
  refine ⟨?_,?_,rfl⟩
  · cases lo with
    | none => simp [sliceBounds,HT.sIx]
    | some i =>
      simp only [sliceBounds,HT.sIx,Option.getD_none,show (1 : Int) > 0 by decide,if_true]
      by_cases h : i < 0
      · simp only [h,if_true] <;> omega
      · simp only [h,if_false] <;> omega
  · cases hi with
    | none => simp [sliceBounds,HT.sIx]
    | some i =>
      simp only [sliceBounds,HT.sIx,Option.getD_none,show (1 : Int) > 0 by decide,if_true]
      by_cases h : i < 0
      · simp only [h,if_true] <;> omega
      · simp only [h,if_false] <;> omega
theorem slicePick_cut (its : List Value) (lo hi : Option Int) : slicePick its.toArray lo hi none = ((its.drop (HT.sIx its.length 0 lo)).take (HT.sIx its.length its.length hi - HT.sIx its.length 0 lo)).toArray := by
  obtain ⟨h1,h2,h3⟩ := slice_bounds lo hi its.toArray.size
  unfold slicePick
  rw [h1,h2,h3]
  simp only [sliceRange_one,pick_run,List.size_toArray] <;> rfl
noncomputable def rSlL (K : PySem.W.Frag) : V → Option Int → Option Int → Hp → VK → Prop := fun x lo hi H Q => ∃ a xs,x = .ref a ∧ SqL K H a xs ∧ ∀ p,H p = none → Q (.ref p) (upd H p (.lst (cutV xs lo hi)))
theorem sl_list : SlR X (rSlL X.K) := by
  intro pins s σ H x v vl vu lo hi sl Q I rx hs pl pu h
  obtain ⟨a,xs,rfl,hx,q⟩ := h
  cases rx
  obtain ⟨its,r,ht,hz⟩ := I.list hx
  have hlen := r.length
  refine ⟨"list",_,slot_list_getitem.lookup,ht.isList.typeIs,?_⟩
  refine wpAny_getItem_list_slice ht.isList hs pl pu .none (by simp) ?_ (by rw [List.size_toArray] <;> omega)
  rw [slicePick_cut,← hlen]
  refine ⟨.ref s.heap.objs.size,_,I.laid (t' := s.toks) (o := .lst (cutV xs lo hi)) (fun b ob q => Heap.get?_push_of_some _ q) (Nat.le_refl _) ?_,rfl,q _ (I.hok.fresh (Nat.le_refl _))⟩
  exact ⟨Nat.le_trans (cutV_length xs lo hi) hz,_,0,(r.drop (HT.sIx xs.length 0 lo)).take (HT.sIx xs.length xs.length hi - HT.sIx xs.length 0 lo),Heap.get?_push_size _ rfl⟩
noncomputable def flatV : V → Bool
  | .non => true
  | .bl _ => true
  | .int _ => true
  | .str _ => true
  | _ => false
noncomputable def eqV : V → V → Bool
  | .non,.non => true
  | .bl a,.bl b => a == b
  | .bl a,.int b => (if a then 1 else 0) == b
  | .int a,.bl b => a == (if b then 1 else 0)
  | .int a,.int b => a == b
  | .str a,.str b => a == b
  | _,_ => false
theorem eqAt_V {A : Around} {s : Shared} {y x : V} {u v : Value} (ry : RelV y u) (rx : RelV x v) (fy : flatV y = true) (fx : flatV x = true) : SeqAt.EqAt A s u v (eqV y x) := by
  cases y with
  | non =>
    cases ry
    cases x with
    | non => cases rx; exact SeqAt.EqAt.same _
    | bl b => cases rx; exact SeqAt.EqAt.none_bool b
    | int b => obtain ⟨t,rfl⟩ := rx; exact SeqAt.EqAt.none_int b t
    | str b => obtain ⟨t,rfl⟩ := rx; exact SeqAt.EqAt.none_str b t
    | _ => exact absurd (show false = true from fx) Bool.false_ne_true
  | bl a =>
    cases ry
    cases x with
    | non => cases rx; exact SeqAt.EqAt.bool_none a
    | bl b => cases rx; exact SeqAt.EqAt.bool_bool a b
    | int b => obtain ⟨t,rfl⟩ := rx; exact SeqAt.EqAt.bool_int a b t
    | str b => obtain ⟨t,rfl⟩ := rx; exact SeqAt.EqAt.bool_str a b t
    | _ => exact absurd (show false = true from fx) Bool.false_ne_true
  | int a =>
    obtain ⟨t',rfl⟩ := ry
    cases x with
    | non => cases rx; exact SeqAt.EqAt.int_none a t'
    | bl b => cases rx; exact SeqAt.EqAt.int_bool a t' b
    | int b => obtain ⟨t,rfl⟩ := rx; exact SeqAt.EqAt.int_int a t' b t
    | str b => obtain ⟨t,rfl⟩ := rx; exact SeqAt.EqAt.int_str a t' b t
    | _ => exact absurd (show false = true from fx) Bool.false_ne_true
  | str a =>
    obtain ⟨t',rfl⟩ := ry
    cases x with
    | non => cases rx; exact SeqAt.EqAt.str_none a t'
    | bl b => cases rx; exact SeqAt.EqAt.str_bool a t' b
    | int b => obtain ⟨t,rfl⟩ := rx; exact SeqAt.EqAt.str_int a t' b t
    | str b => obtain ⟨t,rfl⟩ := rx; exact SeqAt.EqAt.str_str a t' b t
    | _ => exact absurd (show false = true from fx) Bool.false_ne_true
  | _ => exact absurd (show false = true from fy) Bool.false_ne_true
theorem call_list_of : CallR X (.type "list") (fun xs H Q => ∃ p ys,xs = [.ref p] ∧ (SqL X.K H p ys ∨ SqT X.K H p ys) ∧ ∀ l,H l = none → Q (.ref l) (upd H l (.lst ys))) := by
  intro pins s σ H xs us Q I r h
  obtain ⟨p,ys,rfl,hq,q⟩ := h
  obtain ⟨u,rfl,rx⟩ := vals1 r
  cases rx
  have fin : ∀ (its : List Value),Vals ys its → ys.length ≤ sizeLine → ∀ (h' : Heap) (c' : Nat),(∀ b o',s.heap.get? b = some o' → h'.get? b = some o') →
      h'.get? s.heap.objs.size = some { cls := .type "list",dict := none,data := .seq its.toArray c',slots := #[] } → EP X pins σ Q (.ref s.heap.objs.size) { s with heap := h' } := fun its r' hz h' c' kp e =>
    ⟨.ref s.heap.objs.size,_,I.laid (t' := s.toks) kp (Nat.le_refl _) (show ObjOk X.prog X.w _ h' _ (.lst ys) from ⟨hz,its,c',r',e⟩),rfl,q _ (I.hok.fresh (Nat.le_refl _))⟩
  rcases hq with hq | hq
  · obtain ⟨its,r',pl,hz⟩ := I.list hq
    have hlen := r'.length
    obtain ⟨o,ho,hc,n,hd⟩ := pl.isList
    exact call_list_seq p (.inl rfl) ho hc hd (fun h' c' kp e => fin its r' hz h' c' kp e) (by simp only [List.size_toArray] <;> omega)
  · obtain ⟨its,r',pl,hz⟩ := I.tuple hq
    have hlen := r'.length
    obtain ⟨o,ho,hc,n,hd⟩ := pl
    exact call_list_seq p (.inr rfl) ho hc hd (fun h' c' kp e => fin its r' hz h' c' kp e) (by simp only [List.size_toArray] <;> omega)
theorem call_tuple_of : CallR X (.type "tuple") (fun xs H Q => ∃ p ys,xs = [.ref p] ∧ ((SqL X.K H p ys ∧ ∀ l,H l = none → Q (.ref l) (upd H l (.tup ys))) ∨ (SqT X.K H p ys ∧ Q (.ref p) H))) := by
  intro pins s σ H xs us Q I r h
  obtain ⟨p,ys,rfl,h⟩ := h
  obtain ⟨u,rfl,rx⟩ := vals1 r
  cases rx
  rcases h with ⟨hq,q⟩ | ⟨hq,q⟩
  · obtain ⟨its,r',pl,hz⟩ := I.list hq
    have hlen := r'.length
    refine call_tuple_list pl.isList (fun h' kp => ?_) (by simp only [List.size_toArray] <;> omega)
    have I1 : Inv X pins σ H { s with heap := h' } := I.kept (t' := s.toks) kp
    have I2 : Inv X pins σ (upd H h'.objs.size (.tup ys)) { s with heap := h'.push { cls := .type "tuple",data := .seq its.toArray } } :=
      I1.laid (t' := s.toks) (fun b o e => Heap.get?_push_of_some _ e) (Nat.le_refl _) (show ObjOk X.prog X.w _ _ _ (.tup ys) from ⟨hz,its,r',IsTup.new _ _⟩)
    exact ⟨.ref h'.objs.size,_,I2,rfl,q _ (I1.hok.fresh (Nat.le_refl _))⟩
  · obtain ⟨its,r',pl,hz⟩ := I.tuple hq
    exact call_tuple_same pl ⟨.ref p,H,I,rfl,q⟩
noncomputable def tyV (K : PySem.W.Frag) (T : String) (x : V) (H : Hp) : Prop := match x with
  | .str _ => T = "str"
  | .int _ => T = "int"
  | .ref p => (T = "list" ∧ ∃ xs,SqL K H p xs) ∨ (T = "tuple" ∧ ∃ o,K.lookup p = some o ∧ o.cls = .type "tuple" ∧ o.dict = none) ∨
      (T = "dict" ∧ ((∃ kvs,H p = some (.dK kvs)) ∨ ∃ kvs,H p = some (.dT kvs))) ∨ (T = "set" ∧ ∃ S n,H p = some (.set S n))
  | _ => False
theorem tyV_is {pins : List (Addr × Obj)} {σ : St} {H : Hp} {s : Shared} {T : String} {x : V} {v : Value} (I : Inv X pins σ H s) (r : RelV x v) (ty : tyV X.K T x H) :
    s.TypeIs v T ∧ ∀ a,v = .ref a → ∃ ob,s.heap.get? a = some ob ∧ ob.dict = none := by
  cases x with
  | str z =>
    obtain ⟨t,rfl⟩ := r
    cases (show T = "str" from ty)
    exact ⟨typeIs_str s z t,fun _ e => nomatch e⟩
  | int i =>
    obtain ⟨t,rfl⟩ := r
    cases (show T = "int" from ty)
    exact ⟨typeIs_int s i t,fun _ e => nomatch e⟩
  | ref p =>
    cases r
    rcases ty with ⟨rfl,xs,hq⟩ | ⟨rfl,o,hk,hc,hd⟩ | ⟨rfl,hk⟩ | ⟨rfl,S,n,hk⟩
    · obtain ⟨its,_,pl,_⟩ := I.list hq
      refine ⟨pl.isList.typeIs,fun a e => ?_⟩
      cases e
      obtain ⟨o,n,e,c,hd,_⟩ := pl
      exact ⟨o,e,hd⟩
    · refine ⟨⟨o,I.kIn p o hk,hc⟩,fun a e => ?_⟩
      cases e
      exact ⟨o,I.kIn _ o hk,hd⟩
    · have z : ∃ o,s.heap.get? p = some o ∧ o.ExactDict := by
        rcases hk with ⟨kvs,hk⟩ | ⟨kvs,hk⟩
        · obtain ⟨_,_,_,_,o,_,_,e,ex,_⟩ := I.hok p _ hk
          exact ⟨o,e,ex⟩
        · obtain ⟨_,_,_,_,o,_,_,e,ex,_⟩ := I.hok p _ hk
          exact ⟨o,e,ex⟩
      obtain ⟨o,e,ex⟩ := z
      refine ⟨⟨o,e,ex.1⟩,fun a e2 => ?_⟩
      cases e2
      exact ⟨o,e,ex.2.1⟩
    · obtain ⟨o,_,_,_,e,ex,_⟩ := I.hok p _ hk
      refine ⟨⟨o,e,ex.1⟩,fun a e2 => ?_⟩
      cases e2
      exact ⟨o,e,ex.2.1⟩
  | _ => exact False.elim ty
noncomputable def tBM0 (K : PySem.W.Frag) (T : String) (r : V → List V → Hp → VK → Prop) (to : TE) : TE := fun σ H Q => to σ H fun x H1 => tyV K T x H1 ∧ r x [] H1 Q
noncomputable def tBM (K : PySem.W.Frag) (T : String) (r : V → List V → Hp → VK → Prop) (to : TE) (t : TA) : TE := fun σ H Q => to σ H fun x H1 => tyV K T x H1 ∧ t σ H1 fun xs H2 => r x xs H2 Q
variable {o e : Expr} {es : List Expr} {to : TE} {t : TA} {name : Str} {apos cpos : Pos} {T id : String} {r : V → List V → Hp → VK → Prop}
theorem pe_bm0 (pa : PlainAttrs T) (slot : Slot T name id) (hty : typeOf (.builtin id) = pure (.type "method_descriptor")) (hm : MtR X id r) (ho : PE X o to)
    (hbase : attributeBase o name X.env (eval o X.env) = eval o X.env := by rfl) (hline : (apos.endLine == cpos.line) = true := by rfl) : PE X (.Call (.Attribute o name apos) [] [] cpos) (tBM0 X.K T r to) := by
  intro pins s σ H Q I h
  refine wpAny_Call_method0_late hbase hline (thn (ho pins s σ H _ I h) fun v s1 ⟨x,H1,I1,r1,ty,q1⟩ => ?_)
  obtain ⟨h1,h2⟩ := tyV_is I1 r1 ty
  exact ⟨T,id,pa,slot,hty,h1,h2,Calls.callWith_builtin rfl (PySem.evalArgs_none (hm pins s1 σ H1 x [] v [] Q I1 r1 .nil q1))⟩
theorem pe_bm (pa : PlainAttrs T) (slot : Slot T name id) (hty : typeOf (.builtin id) = pure (.type "method_descriptor")) (hm : MtR X id r) (ho : PE X o to) (ha : PA X (e :: es) t)
    (hbase : attributeBase o name X.env (eval o X.env) = eval o X.env := by rfl)
    (hfew : ((backTo cpos (starEach (e :: es) X.env)).all (fun x => !x.1) && (backToKw cpos (keywordEach [] X.env)).all (fun x => x.1.isSome)
      && decide ((e :: es).length + ([] : List Keyword).length + (if ([] : List Keyword).isEmpty then 0 else 1) < 30)) = true := by rfl)
    (hline : (apos.endLine == cpos.line) = true := by rfl) (hs : starEach (e :: es) X.env = (false,eval e X.env) :: starEach es X.env := by rfl) (hplain : (backTo cpos (starEach es X.env)).any (·.1) = false := by rfl) :
    PE X (.Call (.Attribute o name apos) (e :: es) [] cpos) (tBM X.K T r to t) := by
  intro pins s σ H Q I h
  refine wpAny_Call_method_late hbase hfew hline rfl (thn (ho pins s σ H _ I h) fun v s1 ⟨x,H1,I1,r1,ty,q1⟩ => ?_)
  obtain ⟨h1,h2⟩ := tyV_is I1 r1 ty
  refine ⟨T,id,pa,slot,hty,h1,h2,?_⟩
  have hA := ha cpos pins s1 σ H1 _ I1 q1
  rw [hs] at hA ⊢
  refine Calls.callWith_builtin (by show (false || (backTo cpos (starEach es X.env)).any (·.1)) = false; rw [hplain] <;> rfl) (Calls.evalArgs_plain ?_)
  exact thn hA fun us s2 ⟨vs,H2,I2,r2,q2⟩ => hm pins s2 σ H2 x vs v us Q I2 r1 r2 q2
/- xs.append(e),list.index on a module's tuple .. are MtR facts of 06m -/
end
end L2
namespace L2
open PySem PySem.Spec PyProof.Rows
noncomputable def MtM (X : Cx) (id : String) (r : V → List V → Hp → VK → Prop) : Prop :=
  ∀ (pins : List (Addr × Obj)) (s : Shared) (σ : St) (H : Hp) (x : V) (xs : List V) (v : Value) (us : List Value) (Q : VK),Inv X pins σ H s → RelV x v → Vals xs us → r x xs H Q →
    wpAny (model X.prog X.w) X.A (call (.builtin id) (v :: us)) (EP X pins σ Q) X.xe s
theorem Vals.one {x : V} {us : List Value} (h : Vals [x] us) : ∃ u,us = [u] ∧ RelV x u := by
  cases h with
  | cons r h => cases h; exact ⟨_,rfl,r⟩
theorem Vals.rep {xs : List V} {us : List Value} (h : Vals xs us) : ∀ k : Nat,Vals (List.replicate k xs).flatten (List.replicate k us).flatten
  | 0 => .nil
  | k + 1 => by
    rw [List.replicate_succ,List.replicate_succ,List.flatten_cons,List.flatten_cons]
    exact Vals.append h (Vals.rep h k)
theorem foldl_rep (its : List Value) : ∀ (k : Nat) (acc : List Value),
    List.foldl (fun x1 x2 => x1 ++ x2) acc.toArray (List.replicate k its.toArray) = (acc ++ (List.replicate k its).flatten).toArray
  | 0,acc => by simp
  | k + 1,acc => by
    have e : acc.toArray ++ its.toArray = (acc ++ its).toArray := by simp
    have e2 : (acc ++ its) ++ (List.replicate k its).flatten = acc ++ (List.replicate (k + 1) its).flatten := by
      rw [List.replicate_succ,List.flatten_cons,List.append_assoc]
    rw [← e2,← foldl_rep its k (acc ++ its),← e,List.replicate_succ,List.foldl_cons]
section
variable {X : Cx} {pins : List (Addr × Obj)} {σ : St} {H : Hp} {s : Shared} {l b : Addr} {xs ys zs : List V}
theorem Inv.lset {its its' : List Value} {n : Nat} {f : Array Value → Array Value} {t' : Nat} (I : Inv X pins σ H s) (hH : H l = some (.lst xs))
    (e : s.heap.get? l = some { cls := .type "list",data := .seq its.toArray n }) (hf : f its.toArray = its'.toArray) (hv : Vals ys its') (hz : ys.length ≤ sizeLine) :
    Inv X pins σ (upd H l (.lst ys)) { s with heap := s.heap.update l (Obj.mapSeq f),toks := t' } := by
  have q := PySem.IsL.update e f
  rw [hf] at q
  refine I.write (x := l) (e := l) (by rw [hH]; exact trivial) (.inl rfl) (fun b' u hb hu => (Heap.get?_update_other s.heap (Obj.mapSeq f) (Ne.symm hb)).trans hu) ⟨_,q⟩ ?_
  exact ⟨hz,its',_,hv,q⟩
theorem Inv.lnew {its : List Value} {t' : Nat} (I : Inv X pins σ H s) (hv : Vals ys its) (hz : ys.length ≤ sizeLine) :
    Inv X pins σ (upd H s.heap.objs.size (.lst ys)) { s with heap := s.heap.push { cls := .type "list",data := .seq its.toArray },toks := t' } :=
  I.laid (fun _ _ q => Heap.get?_push_of_some _ q) (Nat.le_refl _) ⟨hz,its,0,hv,Heap.get?_push_size _ rfl⟩
theorem Inv.fresh (I : Inv X pins σ H s) : H s.heap.objs.size = none := I.hok.fresh (Nat.le_refl _)
theorem Inv.lstM (I : Inv X pins σ H s) (hH : H l = some (.lst xs)) : xs.length ≤ sizeLine ∧ ∃ (its : List Value) (n : Nat),Vals xs its ∧ xs.length = its.length ∧ s.heap.get? l = some { cls := .type "list",data := .seq its.toArray n } := by
  obtain ⟨z,its,n,r,e⟩ := I.hok l _ hH
  exact ⟨z,its,n,r,r.length,e⟩
theorem notLongL {n : Nat} (h : n ≤ sizeLine) : Builtin.List.listTooLong n = false := by
  unfold Builtin.List.listTooLong
  exact decide_eq_false (by omega)
end
section
variable {X : Cx}
inductive SApp (x : V) (vs : List V) (H : Hp) (Q : VK) : Prop | mk (l : Addr) (xs : List V) (y : V) (hx : x = .ref l) (hv : vs = [y]) (hl : H l = some (.lst xs)) (hz : xs.length < sizeLine) (q : Q .non (upd H l (.lst (xs ++ [y]))))
noncomputable def rAppend : V → List V → Hp → VK → Prop := fun x vs H Q => SApp x vs H Q
theorem mt_append : MtM X "list.append" rAppend := by
  intro pins s σ H x vs v us Q I rx rv h
  obtain ⟨l,xs,y,rfl,rfl,hH,hz,q⟩ := h
  cases rx
  obtain ⟨u,rfl,ru⟩ := rv.one
  obtain ⟨z,its,n,r,hl,e⟩ := I.lstM hH
  refine call_meets F.slot_list_append ⟨_,e,rfl⟩ F.entry_list_append (F.args_list_append_2 _ _) (PySem.list_append l its.toArray n u (by rw [List.size_toArray]; omega)) ⟨e,?_⟩
  refine ⟨.non,_,I.lset (its' := its ++ [u]) hH e (by simp) (r.append (.cons ru .nil)) ?_,rfl,q⟩
  rw [List.length_append,List.length_singleton]
  omega
noncomputable def rCat : R2 := fun x y H Q => ∃ l b xs zs,x = .ref l ∧ y = .ref b ∧ H l = some (.lst xs) ∧ H b = some (.lst zs) ∧ xs.length + zs.length ≤ sizeLine ∧ ∀ p,H p = none → Q (.ref p) (upd H p (.lst (xs ++ zs)))
theorem op_cat : OpR X (binaryOp .Add) rCat := by
  intro pins s σ H x y v u Q I rx ry h
  obtain ⟨l,b,xs,zs,rfl,rfl,hH,hB,hz,q⟩ := h
  cases rx
  cases ry
  obtain ⟨z,its,n,r,hl,e⟩ := I.lstM hH
  obtain ⟨z2,its2,n2,r2,hl2,e2⟩ := I.lstM hB
  refine PySem.P.add_list e e2 ?_ (by rw [List.size_toArray,List.size_toArray]; omega)
  have ea : its.toArray ++ its2.toArray = (its ++ its2).toArray := by simp
  rw [ea]
  exact ⟨.ref _,_,I.lnew (t' := s.toks) (r.append r2) (by rw [List.length_append]; omega),rfl,q _ I.fresh⟩
noncomputable def rRep : R2 := fun x y H Q => ∃ l k xs,x = .ref l ∧ y = .int k ∧ H l = some (.lst xs) ∧ -(2 ^ 63) ≤ k ∧ k < 2 ^ 63 ∧ xs.length * k.toNat ≤ sizeLine ∧
  ∀ p,H p = none → Q (.ref p) (upd H p (.lst (List.replicate k.toNat xs).flatten))
theorem len_rep {α : Type} (xs : List α) (k : Nat) : (List.replicate k xs).flatten.length = k * xs.length := by
  induction k with
  | zero => simp
  | succ k ih => rw [List.replicate_succ,List.flatten_cons,List.length_append,ih,Nat.succ_mul,Nat.add_comm]
theorem op_rep : OpR X (binaryOp .Mult) rRep := by
  intro pins s σ H x y v u Q I rx ry h
  obtain ⟨l,k,xs,rfl,rfl,hH,h1,h2,hz,q⟩ := h
  cases rx
  obtain ⟨t,rfl⟩ := ry
  obtain ⟨z,its,n,r,hl,e⟩ := I.lstM hH
  have hlen : its.toArray.size * k.toNat ≤ sizeLine := by rw [List.size_toArray,← hl]; exact hz
  have hcap : ¬ its.toArray.size * k.toNat > (2 ^ 63 - 1) / 8 := by
    have : (sizeLine : Nat) ≤ (2 ^ 63 - 1) / 8 := by decide
    omega
  have hfit : ¬ (!Builtin.List.listFitsIndex k) = true := by
    rw [fitsIndex_both h1 h2]
    exact Bool.false_ne_true
  have hlong : ¬ Builtin.List.listTooLong (its.toArray.size * k.toNat) = true := by
    rw [notLongL hlen]
    exact Bool.false_ne_true
  have hnew : List.foldl (fun x1 x2 => x1 ++ x2) #[] (List.replicate (if its.toArray.isEmpty = true then 0 else k.toNat) its.toArray) = (List.replicate k.toNat its).flatten.toArray := by
    have f0 : ∀ m : Nat,List.foldl (fun x1 x2 => x1 ++ x2) #[] (List.replicate m its.toArray) = (List.replicate m its).flatten.toArray := fun m => by
      have := foldl_rep its m []
      rw [List.nil_append] at this
      exact this
    rw [f0]
    cases its with
    | nil => simp
    | cons a r' => rw [if_neg (by simp)]
  refine wpAny_binaryOp_repeat_ref (T := "list") (U := "int") (by decide) ⟨_,e,rfl⟩ (fun s' => typeIs_int s' k t) noFill_list_mul F.fills_int_mul F.slot_int_rmul repeat_list F.slot_int_index.lookup
    (call_meets F.slot_int_rmul (typeIs_int s k t) F.entry_int_rmul (F.args_int_rmul_2 _ _) (int___rmul___int_list k t l its.toArray n)
      ⟨e,rfl,⟨_,e,rfl⟩,call_meets F.slot_list_mul ⟨_,e,rfl⟩ F.entry_list_mul (F.args_list_mul_2 _ _) (AutoListH.list___mul___list_int_3 l its.toArray n k t hfit hcap hlong) ⟨e,?_⟩⟩)
  rw [hnew]
  exact ⟨.ref _,_,I.lnew (t' := s.toks) (r.rep k.toNat) (by rw [len_rep,Nat.mul_comm]; exact hz),rfl,q _ I.fresh⟩
end
section
variable {prog : Program} {w : World} {A : Around} {E : Value → Shared → Prop} {s : Shared}
end
section
variable {X : Cx}
end
end L2
namespace L2
open PySem PySem.Spec PyProof.Rows
section
variable {κ : Type} [DecidableEq κ]
noncomputable def valV (kvs : List (κ × V)) (k : κ) : Option V := (kvs.find? fun kv => decide (kv.1 = k)).map (·.2)
noncomputable def putK (kvs : List (κ × V)) (k : κ) (v : V) : List (κ × V) :=
  if (kvs.any fun kv => decide (kv.1 = k)) = true then kvs.map (fun kv => if kv.1 = k then (kv.1,v) else kv) else kvs ++ [(k,v)]
theorem valV_pos {p : κ × V} {r : List (κ × V)} {k : κ} (e : p.1 = k) : valV (p :: r) k = some p.2 := by simp [valV,List.find?_cons,e]
theorem valV_neg {p : κ × V} {r : List (κ × V)} {k : κ} (e : ¬ p.1 = k) : valV (p :: r) k = valV r k := by simp [valV,List.find?_cons,e]
theorem valV_any (k : κ) : ∀ kvs : List (κ × V),(kvs.any fun kv => decide (kv.1 = k)) = (valV kvs k).isSome
  | [] => rfl
  | p :: r => by
    rw [List.any_cons]
    by_cases e : p.1 = k
    · simp only [valV_pos e,decide_eq_true e,Bool.true_or,Option.isSome_some]
    · rw [valV_neg e,decide_eq_false e,Bool.false_or]; exact valV_any k r
theorem valV_map (k j : κ) (y : V) : ∀ kvs : List (κ × V),valV (kvs.map fun kv => if kv.1 = k then (kv.1,y) else kv) j = (valV kvs j).map fun x => if j = k then y else x
  | [] => rfl
  | p :: r => by
    have ih := valV_map k j y r
    rw [List.map_cons]
    by_cases h : p.1 = k
    · rw [if_pos h]
      by_cases e : p.1 = j
      · rw [valV_pos (p := (p.1,y)) e,valV_pos e,Option.map_some,if_pos (e.symm.trans h)]
      · rw [valV_neg (p := (p.1,y)) e,valV_neg e,ih]
    · rw [if_neg h]
      by_cases e : p.1 = j
      · rw [valV_pos (p := p) e,valV_pos e,Option.map_some,if_neg (fun z => h (e.trans z))]
      · rw [valV_neg (p := p) e,valV_neg e,ih]
theorem valV_snoc (k j : κ) (y : V) : ∀ kvs : List (κ × V),valV kvs k = none → valV (kvs ++ [(k,y)]) j = if j = k then some y else valV kvs j
  | [],_ => by
    by_cases e : k = j
    · rw [if_pos e.symm]; exact valV_pos (p := (k,y)) e
    · rw [if_neg (fun z => e z.symm)]; exact valV_neg (p := (k,y)) e
  | p :: r,hn => by
    rw [List.cons_append]
    have hk : ¬ p.1 = k := fun z => by rw [valV_pos z] at hn; cases hn
    rw [valV_neg hk] at hn
    have ih := valV_snoc k j y r hn
    by_cases e : p.1 = j
    · rw [valV_pos e,valV_pos e,if_neg (fun z => hk (e.trans z))]
    · rw [valV_neg e,valV_neg e,ih]
theorem valV_put (kvs : List (κ × V)) (k j : κ) (y : V) : valV (putK kvs k y) j = if j = k then some y else valV kvs j := by
  unfold putK
  by_cases a : (kvs.any fun kv => decide (kv.1 = k)) = true
  · rw [if_pos a,valV_map]
    rw [valV_any] at a
    by_cases e : j = k
    · obtain ⟨x,hx⟩ := Option.isSome_iff_exists.mp a
      rw [if_pos e,e,hx,Option.map_some,if_pos rfl]
    · rw [if_neg e]
      cases valV kvs j with
      | none => rfl
      | some x => rw [Option.map_some,if_neg e]
  · rw [if_neg a]
    refine valV_snoc k j y kvs ?_
    rw [valV_any] at a
    cases q : valV kvs k with
    | none => rfl
    | some x => rw [q] at a; exact (a rfl).elim
theorem length_putK (kvs : List (κ × V)) (k : κ) (v : V) : (putK kvs k v).length ≤ kvs.length + 1 := by
  unfold putK
  split
  · rw [List.length_map]; omega
  · rw [List.length_append,List.length_cons,List.length_nil]; omega
theorem putK_new {kvs : List (κ × V)} {k : κ} (v : V) (h : valV kvs k = none) : putK kvs k v = kvs ++ [(k,v)] := by
  unfold putK
  rw [valV_any,h]
  exact if_neg (by decide)
theorem RelO.isSome_eq {o : Option V} {u : Option Value} (r : RelO o u) : o.isSome = u.isSome := by
  cases o with
  | none => cases u with
    | none => rfl
    | some _ => exact (show False from r).elim
  | some _ => cases u with
    | none => exact (show False from r).elim
    | some _ => rfl
theorem KV.val {kvs : List (κ × V)} {vs : List (κ × Value)} (r : KV kvs vs) (k : κ) : RelO (valV kvs k) (valueAt vs k) := by
  unfold KV at r
  induction r with
  | nil => exact True.intro
  | @cons p q ps qs h t ih =>
    obtain ⟨h1,h2⟩ := h
    by_cases e : p.1 = k
    · have e' : q.1 = k := h1.symm.trans e
      have b : valueAt (q :: qs) k = some q.2 := by simp [valueAt,List.find?_cons,e']
      rw [valV_pos e,b]; exact h2
    · have e' : ¬ q.1 = k := fun z => e (h1.trans z)
      have b : valueAt (q :: qs) k = valueAt qs k := by simp [valueAt,List.find?_cons,e']
      rw [valV_neg e,b]; exact ih
theorem KV.any {kvs : List (κ × V)} {vs : List (κ × Value)} (r : KV kvs vs) (k : κ) : (kvs.any fun kv => decide (kv.1 = k)) = vs.any fun kv => decide (kv.1 = k) := by
  unfold KV at r
  induction r with
  | nil => rfl
  | cons h t ih => rw [List.any_cons,List.any_cons,ih,h.1]
theorem KV.repl {kvs : List (κ × V)} {vs : List (κ × Value)} (r : KV kvs vs) (k : κ) {y : V} {u : Value} (ry : RelV y u) :
    KV (kvs.map fun kv => if kv.1 = k then (kv.1,y) else kv) (vs.map fun kv => if kv.1 = k then (kv.1,u) else kv) := by
  unfold KV at r ⊢
  induction r with
  | nil => exact .nil
  | @cons p q ps qs h t ih =>
    rw [List.map_cons,List.map_cons]
    refine .cons ?_ ih
    obtain ⟨h1,h2⟩ := h
    by_cases e : p.1 = k
    · rw [if_pos e,if_pos (h1.symm.trans e)]; exact ⟨h1,ry⟩
    · rw [if_neg e,if_neg (fun z => e (h1.trans z))]; exact ⟨h1,h2⟩
theorem KV.put {kvs : List (κ × V)} {vs : List (κ × Value)} (r : KV kvs vs) (k : κ) {y : V} {u : Value} (ry : RelV y u) : KV (putK kvs k y) (stored vs k u) := by
  unfold putK stored
  rw [r.any k]
  by_cases e : (vs.any fun kv => decide (kv.1 = k)) = true
  · rw [if_pos e,if_pos e]; exact r.repl k ry
  · rw [if_neg e,if_neg e]; exact Paired.snoc r ⟨rfl,ry⟩
theorem KV.length {kvs : List (κ × V)} {vs : List (κ × Value)} (r : KV kvs vs) : kvs.length = vs.length := Paired.length r
end
theorem kV_is {P : Program} {w : World} {k : Key} {u : Value} (r : RelV (kV k) u) : (mixKind P w).is k u = true := by
  cases k with
  | inl i => obtain ⟨t,e⟩ := (show ∃ t,u = Value.int i t from r); subst e; exact mixKind_int P w i t
  | inr x => obtain ⟨t,e⟩ := (show ∃ t,u = Value.str x t from r); subst e; exact mixKind_str P w x t
theorem items_are {P : Program} {w : World} : ∀ {ks : List Key} {us : List Value},Vals (ks.map kV) us → ItemsAre (mixKind P w) ks us
  | [],_,r => by rw [List.map_nil] at r; cases r; exact .nil
  | k :: ks,_,r => by
    rw [List.map_cons] at r
    cases r with
    | cons h t => exact .cons (kV_is h) (items_are t)
noncomputable abbrev KT (H : Hp) : List (List Key × V) → List (List Key × Addr × Value) → Prop := Paired fun p q => p.1 = q.1 ∧ H q.2.1 = some (.tup (p.1.map kV)) ∧ RelV p.2 q.2.2
theorem KT.val {H : Hp} {kvs : List (List Key × V)} {xs : List (List Key × Addr × Value)} (r : KT H kvs xs) (k : List Key) : RelO (valV kvs k) ((atKey xs k).map (·.2)) := by
  induction r with
  | nil => exact True.intro
  | @cons p q ps qs h t ih =>
    obtain ⟨h1,_,h2⟩ := h
    by_cases e : p.1 = k
    · have e' : q.1 = k := h1.symm.trans e
      have b : atKey (q :: qs) k = some q.2 := by simp [atKey,List.find?_cons,e']
      rw [valV_pos e,b]; exact h2
    · have e' : ¬ q.1 = k := fun z => e (h1.trans z)
      have b : atKey (q :: qs) k = atKey qs k := by simp [atKey,List.find?_cons,e']
      rw [valV_neg e,b]; exact ih
theorem KT.repl {H : Hp} {kvs : List (List Key × V)} {xs : List (List Key × Addr × Value)} (r : KT H kvs xs) (k : List Key) {y : V} {u : Value} (ry : RelV y u) :
    KT H (kvs.map fun kv => if kv.1 = k then (kv.1,y) else kv) (xs.map (putAt k u)) := by
  induction r with
  | nil => exact .nil
  | @cons p q ps qs h t ih =>
    rw [List.map_cons,List.map_cons]
    refine .cons ?_ ih
    obtain ⟨h1,h2,h3⟩ := h
    unfold putAt
    by_cases e : p.1 = k
    · rw [if_pos e,if_pos (h1.symm.trans e)]; exact ⟨h1,h2,ry⟩
    · rw [if_neg e,if_neg (fun z => e (h1.trans z))]; exact ⟨h1,h2,h3⟩
theorem KT.put {H : Hp} {kvs : List (List Key × V)} {xs : List (List Key × Addr × Value)} (r : KT H kvs xs) (k : List Key) {b : Addr} {y : V} {u : Value} (hb : H b = some (.tup (k.map kV))) (ry : RelV y u) :
    KT H (putK kvs k y) (storedH xs k b u) := by
  have e : (kvs.any fun kv => decide (kv.1 = k)) = (atKey xs k).isSome := by
    rw [valV_any,(r.val k).isSome_eq,Option.isSome_map]
  unfold putK storedH
  rw [e]
  by_cases q : (atKey xs k).isSome = true
  · rw [if_pos q,if_pos q]; exact r.repl k ry
  · rw [if_neg q,if_neg q]; exact Paired.snoc r ⟨rfl,hb,ry⟩
theorem KT.keeps {H H' : Hp} {kvs : List (List Key × V)} {xs : List (List Key × Addr × Value)} (r : KT H kvs xs) (ht : ∀ b ys,H b = some (.tup ys) → H' b = some (.tup ys)) : KT H' kvs xs :=
  Paired.mapP r fun _ _ z => ⟨z.1,ht _ _ z.2.1,z.2.2⟩
section
variable {P : Program} {w : World} {H : Hp} {h : Heap} {a : Addr}
theorem rd_of {u : HO} (ok : HOk P w H h) (e : Rd H a u) : ObjOk P w H h a u := e.ok ok
theorem dk_rd {kvs : List (Key × V)} (ok : HOk P w H h) (e : Rd H a (.dK kvs)) : kvs.length ≤ sizeLine ∧ (a == sysModules) = false ∧ ∃ vs,KV kvs vs ∧ h.DictOf (mixKind P w) a vs :=
  show ObjOk P w H h a (.dK kvs) from rd_of ok e
theorem dk_of {kvs : List (Key × V)} (ok : HOk P w H h) (e : H a = some (.dK kvs)) : kvs.length ≤ sizeLine ∧ (a == sysModules) = false ∧ ∃ vs,KV kvs vs ∧ h.DictOf (mixKind P w) a vs := dk_rd ok (.inl e)
theorem key_of {ks : List Key} (ok : HOk P w H h) (e : H a = some (.tup (ks.map kV))) : (tupleKind (mixKind P w)).is h ks a := by
  obtain ⟨_,its,r,o,h1,h2,n,h3⟩ := (show ObjOk P w H h a (.tup (ks.map kV)) from ok a _ e)
  exact ⟨o,its.toArray,n,h1,h2,h3,by simpa using items_are r⟩
theorem dt_rd {kvs : List (List Key × V)} (ok : HOk P w H h) (e : Rd H a (.dT kvs)) : kvs.length ≤ sizeLine ∧ (a == sysModules) = false ∧
    ∃ xs,KT H kvs xs ∧ h.DictOfH (tupleKind (mixKind P w)) a xs := by
  obtain ⟨z,y,xs,r,o,es,ep,h1,h2,h3,h4,h5⟩ := (show ObjOk P w H h a (.dT kvs) from rd_of ok e)
  refine ⟨z,y,xs,r,o,es,ep,h1,h2,h3,h4,fun x hx => ?_,h5⟩
  have all : ∀ {l : List (List Key × V)} {m : List (List Key × Addr × Value)},KT H l m → ∀ x ∈ m,(tupleKind (mixKind P w)).is h x.1 x.2.1 := by
    intro l m q
    induction q with
    | nil => intro x hx; exact nomatch hx
    | @cons p q ps qs hq t ih =>
      intro x hx
      rcases List.mem_cons.mp hx with e | hx
      · subst e
        exact key_of ok (by rw [← hq.1]; exact hq.2.1)
      · exact ih x hx
  exact all r x hx
theorem dt_of {kvs : List (List Key × V)} (ok : HOk P w H h) (e : H a = some (.dT kvs)) : kvs.length ≤ sizeLine ∧ (a == sysModules) = false ∧
    ∃ xs,KT H kvs xs ∧ h.DictOfH (tupleKind (mixKind P w)) a xs := dt_rd ok (.inl e)
end
noncomputable def DGet (H : Hp) (a : Addr) (y : V) (r : Option V) : Prop :=
  (∃ kvs k,Rd H a (.dK kvs) ∧ y = kV k ∧ r = valV kvs k) ∨ ∃ kvs k b,Rd H a (.dT kvs) ∧ y = .ref b ∧ H b = some (.tup (k.map kV)) ∧ r = valV kvs k
noncomputable def DPut (H : Hp) (a : Addr) (y v : V) (H' : Hp) : Prop :=
  (∃ kvs k,H a = some (.dK kvs) ∧ y = kV k ∧ kvs.length < sizeLine ∧ H' = upd H a (.dK (putK kvs k v))) ∨
  ∃ kvs k b,H a = some (.dT kvs) ∧ y = .ref b ∧ H b = some (.tup (k.map kV)) ∧ kvs.length < sizeLine ∧ H' = upd H a (.dT (putK kvs k v))
theorem DGet.t {H : Hp} {a b : Addr} {kvs : List (List Key × V)} {k : List Key} (e : H a = some (.dT kvs)) (eb : H b = some (.tup (k.map kV))) : DGet H a (.ref b) (valV kvs k) := .inr ⟨kvs,k,b,.inl e,rfl,eb,rfl⟩
theorem DPut.t {H : Hp} {a b : Addr} {kvs : List (List Key × V)} {k : List Key} {v : V} (e : H a = some (.dT kvs)) (eb : H b = some (.tup (k.map kV))) (hl : kvs.length < sizeLine) :
    DPut H a (.ref b) v (upd H a (.dT (putK kvs k v))) := .inr ⟨kvs,k,b,e,rfl,eb,hl,rfl⟩
section
variable {X : Cx} {pins : List (Addr × Obj)} {σ : St} {H : Hp} {s : Shared} {a : Addr} {y v : V} {u r : Value} {o : Option V} {A : Around} {E : Value → Shared → Prop}
theorem Inv.big (I : Inv X pins σ H s) : sysModules < s.heap.objs.size := by
  have h : mainGlobals < s.heap.objs.size := (I.mod.glob.keeps I.bk).lt
  exact Nat.lt_trans (by decide) h
theorem d_getItem {Q : Value → Shared → Prop} (hu : A.units + 1 < cLine) (I : Inv X pins σ H s) (g : DGet H a y (some v)) (ry : RelV y u) (h : ∀ w' s',Inv X pins σ H s' → RelV v w' → Q w' s') :
    wpAny (model X.prog X.w) A (getItem (.ref a) u) Q E s := by
  rcases g with ⟨kvs,k,e,ey,l⟩ | ⟨kvs,k,b,e,ey,eb,l⟩
  · subst ey
    obtain ⟨z,hd,vs,rel,dd⟩ := dk_rd I.hok e
    obtain ⟨w',hw,rw'⟩ := RelO.some_of (v := v) (o := valueAt vs k) (by rw [l]; exact rel.val k)
    exact wpAny_getItem_of (kV_is ry) dd.mapOf hw (h w' _ (I.tok _) rw')
  · subst ey
    cases (show u = Value.ref b from ry)
    obtain ⟨z,hd,xs,rel,dd⟩ := dt_rd I.hok e
    obtain ⟨w',hw,rw'⟩ := RelO.some_of (v := v) (o := (atKey xs k).map (·.2)) (by rw [l]; exact rel.val k)
    obtain ⟨p,hp,hp2⟩ := Option.map_eq_some_iff.mp hw
    refine wpAny_getItem_heap (tupleKind_room_in1 hu) (key_of I.hok eb) dd hp ?_
    rw [hp2]
    exact h w' _ (I.tok _) rw'
theorem d_notIn {Q : Value → Shared → Prop} (hu : A.units + 1 < cLine) (I : Inv X pins σ H s) (g : DGet H a y o) (ry : RelV y u) (h : ∀ s',Inv X pins σ H s' → Q (.bool (!o.isSome)) s') :
    wpAny (model X.prog X.w) A (compareOp .NotIn u (.ref a)) Q E s := by
  rcases g with ⟨kvs,k,e,ey,l⟩ | ⟨kvs,k,b,e,ey,eb,l⟩
  · subst ey
    obtain ⟨z,hd,vs,rel,dd⟩ := dk_rd I.hok e
    refine wpAny_notIn_of (kV_is ry) hd dd.mapOf ?_
    rw [← (rel.val k).isSome_eq,← l]
    exact h _ (I.tok _)
  · subst ey
    cases (show u = Value.ref b from ry)
    obtain ⟨z,hd,xs,rel,dd⟩ := dt_rd I.hok e
    refine wpAny_notIn_heap (tupleKind_room_in1 hu) (key_of I.hok eb) hd dd ?_
    have q := (rel.val k).isSome_eq
    rw [Option.isSome_map] at q
    rw [← q,← l]
    exact h _ (I.tok _)
theorem d_write {h' : Heap} {t' : Nat} {ob : HO} (I : Inv X pins σ H s) (mu : Mut (H a)) (hs : Heap.SameBut a s.heap h') (he : ∃ q,h'.get? a = some q) (new : ObjOk X.prog X.w (upd H a ob) h' a ob) :
    Inv X pins σ (upd H a ob) { s with heap := h',toks := t' } :=
  I.write (x := a) (e := a) mu (.inl rfl) (fun b q hb z => (hs.2 b hb).trans z) he new
theorem dk_new {P : Program} {w : World} {H' : Hp} {h' : Heap} {kvs : List (Key × V)} {vs : List (Key × Value)} (z : kvs.length ≤ sizeLine) (hd : (a == sysModules) = false) (rel : KV kvs vs) (dd : h'.DictOf (mixKind P w) a vs) :
    ObjOk P w H' h' a (.dK kvs) := ⟨z,hd,vs,rel,dd⟩
theorem d_setItem {H' : Hp} {Q : Unit → Shared → Prop} (hu : A.units + 1 < cLine) (I : Inv X pins σ H s) (g : DPut H a y v H') (ry : RelV y u) (rv : RelV v r) (h : ∀ s',Inv X pins σ H' s' → Q () s') :
    wpAny (model X.prog X.w) A (setItem (.ref a) u r) Q E s := by
  rcases g with ⟨kvs,k,e,ey,l,eH⟩ | ⟨kvs,k,b,e,ey,eb,l,eH⟩
  · subst ey eH
    obtain ⟨z,hd,vs,rel,dd⟩ := dk_of I.hok e
    have hz : vs.length ≤ sizeLine := by rw [← rel.length]; exact z
    have hl : (putK kvs k v).length ≤ sizeLine := by have := length_putK kvs k v; omega
    refine wpAny_setItem_pairs (hsz := hz) (kV_is ry) dd fun h' dd' hs => h _ ?_
    have he : ∃ q,h'.get? a = some q := let ⟨q,_,_,hq,_⟩ := dd'; ⟨q,hq⟩
    exact d_write I (by rw [e]; exact True.intro) hs he (dk_new hl hd (rel.put k rv) dd')
  · subst ey eH
    cases (show u = Value.ref b from ry)
    obtain ⟨z,hd,xs,rel,dd⟩ := dt_of I.hok e
    have hz : xs.length ≤ sizeLine := by rw [← Paired.length rel]; exact z
    have hl : (putK kvs k v).length ≤ sizeLine := by have := length_putK kvs k v; omega
    refine wpAny_setItem_heap (hsz := hz) (tupleKind_room_in1 hu) (key_of I.hok eb) dd fun h' dd' hs => h _ ?_
    obtain ⟨q,es,ep,hq,h2,h3,h4,_,h5⟩ := dd'
    refine d_write I (by rw [e]; exact True.intro) hs ⟨q,hq⟩ ⟨hl,hd,_,(rel.put k eb rv).keeps fun c ys ec => ?_,q,es,ep,hq,h2,h3,h4,h5⟩
    rw [upd_ne (ne_of ec e (fun z => nomatch z))]
    exact ec
end
section
variable {X : Cx} {pins : List (Addr × Obj)} {σ : St} {H : Hp} {s : Shared} {a : Addr} {kvs : List (Key × V)} {k : Key} {u : Value} {A : Around} {E : Value → Shared → Prop}
end
noncomputable def NoSl (i : Expr) : Prop := ∀ ov iv,subscripted i false ov iv = operate [ov,iv] (getItem ov iv)
theorem subD_of {prog : Program} {w : World} {A : Around} {E : Value → Shared → Prop} {s : Shared} {env : Env} {value slice : Expr} {pos : Pos} {T id : String} {Q : Value → Shared → Prop}
    (hl : typeLookup (.type T) "__getitem__" = pure (some (.builtin id))) (hs : NoSl slice)
    (h : wpAny (model prog w) A (eval value env) (fun o s₁ => wpAny (model prog w) A (eval slice env) (fun i s₂ => s₂.TypeIs o T ∧ wpAny (model prog w) A (getItem o i) Q E s₂) E s₁) E s) :
    wpAny (model prog w) A (eval (.Subscript value slice pos) env) Q E s := by
  refine Subscript_ (wpAny_mono h (fun o s₁ h₁ => wpAny_mono h₁ (fun i s₂ h₂ => ?_) fun _ _ x => x) fun _ _ x => x)
  obtain ⟨hT,h₂⟩ := h₂
  unfold subscriptTail
  refine wpAny_bind ?_
  rw [getitemInPython_of_ne hT.not_modules]
  refine wpAny_bind (wpAny_specialOf hT hl ?_)
  have fin : wpAny (model prog w) A (subscripted slice false o i) (fun r s₃ => wpAny (model prog w) A (letTemporaryGo value o r >>= fun _ => pure r) Q E s₃) E s₂ := by
    rw [hs o i]
    exact wpAny_operating (wpAny_mono h₂ (fun r s₃ h₃ => wpAny_bind (wpAny_letTemporaryGo (wpAny_pure h₃))) fun _ _ x => x)
  first
    | exact wpAny_pure (wpAny_bind fin)
    | exact wpAny_bind (wpAny_pure (wpAny_bind fin))
    | exact wpAny_bind fin
theorem dict_typeIs {X : Cx} {pins : List (Addr × Obj)} {σ : St} {H : Hp} {s : Shared} {a : Addr} {y : V} {o : Option V} (I : Inv X pins σ H s) (g : DGet H a y o) : s.TypeIs (.ref a) "dict" := by
  rcases g with ⟨kvs,k,e,_,_⟩ | ⟨kvs,k,b,e,_,_,_⟩
  · obtain ⟨_,_,vs,_,dd⟩ := dk_rd I.hok e
    exact dd.typeIs
  · obtain ⟨_,_,xs,_,dd⟩ := dt_rd I.hok e
    exact dd.typeIs
noncomputable def tDGet (td ty : TE) : TE := fun σ H Q => td σ H fun x H1 => ty σ H1 fun y H2 => ∃ a v,x = .ref a ∧ DGet H2 a y (some v) ∧ Q v H2
noncomputable def tDNotIn (ty td : TE) : TE := fun σ H Q => ty σ H fun y H1 => td σ H1 fun x H2 => ∃ a o,x = .ref a ∧ DGet H2 a y o ∧ Q (.bl (!o.isSome)) H2
noncomputable def sDPut (td ty tv : TE) : TS := fun D σ H => tv σ H fun v H1 => td σ H1 fun x H2 => ty σ H2 fun y H3 => ∃ a H4,x = .ref a ∧ DPut H3 a y v H4 ∧ D.nx σ H4
section
variable {X : Cx} {o i e value : Expr} {pos pos' tpos : Pos} {td ty tv : TE}
theorem pe_dget (hu : X.A.units + 1 < cLine) (ho : PE X o td) (hi : PE X i ty) (hs : NoSl i) : PE X (.Subscript o i pos) (tDGet td ty) := by
  intro pins s σ H Q I h
  refine subD_of PySem.F.slot_dict_getitem.lookup hs (thn (ho pins s σ H _ I h) fun u s1 ⟨x,H1,I1,rx,q1⟩ => thn (hi pins s1 σ H1 _ I1 q1) fun iv s2 ⟨y,H2,I2,ry,a,v,ex,g,q2⟩ => ?_)
  subst ex
  obtain rfl : u = Value.ref a := rx
  exact ⟨dict_typeIs I2 g,d_getItem hu I2 g ry fun w' s3 I3 rw' => ⟨v,H2,I3,rw',q2⟩⟩
theorem pc_dnotin (hu : X.A.units + 1 < cLine) (hi : PE X i ty) (ho : PE X o td) : PC X .NotIn i o (tDNotIn ty td) := by
  intro pins s σ H Q I h
  refine thn (hi pins s σ H _ I h) fun iv s1 ⟨y,H1,I1,ry,q1⟩ => thn (ho pins s1 σ H1 _ I1 q1) fun u s2 ⟨x,H2,I2,rx,a,ov,ex,g,q2⟩ => ?_
  subst ex
  obtain rfl : u = Value.ref a := rx
  exact d_notIn hu I2 g ry fun s3 I3 => ⟨.bl (!ov.isSome),H2,I3,rfl,q2⟩
theorem ps_dput (hu : X.A.units + 1 < cLine) (ho : PE X o td) (hi : PE X i ty) (hv : PE X value tv) (hs : swapsWith value (some (.Subscript o i pos')) pos.line X.env = pure false) :
    PS X (.Assign [.Subscript o i pos'] value pos) (sDPut td ty tv) := by
  intro pins s σ H D I h
  refine wpAny_Assign_Subscript (thn (hv pins s σ H _ I h) fun r s1 ⟨v,H1,I1,rv,q1⟩ => thn (ho pins s1 σ H1 _ I1 q1) fun u s2 ⟨x,H2,I2,rx,q2⟩ => thn (hi pins s2 σ H2 _ I2 q2) fun iv s3 ⟨y,H3,I3,ry,a,H4,ex,g,q3⟩ => ?_) hs
  subst ex
  obtain rfl : u = Value.ref a := rx
  exact d_setItem hu I3 g ry rv fun s4 I4 => ⟨σ,H4,I4,q3⟩
end
theorem dt_empty {P : Program} {w : World} {H : Hp} (h : Heap) (hb : sysModules < h.objs.size) : ObjOk P w H (h.push { cls := .type "dict",data := .dict #[] }) h.objs.size (.dT []) :=
  ⟨Nat.zero_le _,beq_eq_false_iff_ne.mpr (Ne.symm (Nat.ne_of_lt hb)),[],.nil,_,#[],0,Heap.get?_push_size _ rfl,⟨rfl,rfl,rfl⟩,rfl,rfl,List.nodup_nil⟩
noncomputable def tDNewT : TE := fun _ H Q => ∀ p,H p = none → Q (.ref p) (upd H p (.dT []))
section
variable {X : Cx} {pos : Pos}
theorem pe_dnewT : PE X (.Dict [] [] pos) tDNewT := fun pins s σ H Q I h =>
  wpAny_Dict_empty ⟨.ref s.heap.objs.size,_,I.laid (a := s.heap.objs.size) (o := .dT []) (t' := s.toks) (fun _ _ q => Heap.get?_push_of_some _ q) (Nat.le_refl _) (dt_empty s.heap I.big),rfl,h _ (I.hok.fresh (Nat.le_refl _))⟩
end
section
variable {X : Cx} {pins : List (Addr × Obj)} {σ : St} {H : Hp} {s : Shared} {a : Addr} {y d : V} {u r : Value} {o : Option V} {A : Around} {E : Value → Shared → Prop}
end
section
variable {X : Cx} {o e f : Expr} {apos cpos : Pos} {td ty tx : TE}
end
section
variable {X : Cx} {pins : List (Addr × Obj)} {σ : St} {H : Hp} {s : Shared} {a : Addr} {kvs : List (Key × V)} {A : Around} {E : Value → Shared → Prop}
end
section
variable {X : Cx} {pins : List (Addr × Obj)} {σ : St} {H : Hp} {s : Shared} {a : Addr} {y : V} {u : Value} {A : Around} {E : Value → Shared → Prop}
end
end L2
namespace Att
open PySem PySem.W PySem.Calls PyProof.Rows
theorem ints_of_wellAll {P : Params} {h : Heap} : ∀ (ns : List Int) (vs : List Value),WellAll P h vs (ns.map WData.int) → IntsAre vs ns := by
  intro ns
  induction ns with
  | nil =>
    intro vs w
    rw [List.map_nil] at w
    cases w
    exact .nil
  | cons n ns ih =>
    intro vs w
    rw [List.map_cons] at w
    cases w with
    | cons a b =>
      cases a
      exact .cons _ _ (ih _ b)
theorem script_of {l : OpenLaw} {n : Nat} (hn : l.most = some n) {P : Params} {h : Heap} {args : List WData} {vals : List Value}
    (hpre : l.row.toRowW.claim.pre args = true) (hwl : WellAll P h vals args) :
    ∃ a vs ns,vals = [Value.ref a] ∧ args = [WData.list (ns.map WData.int)] ∧ h.get? a = some { cls := .type "list",data := .seq vs.toArray } ∧ IntsAre vs ns ∧ ns.length ≤ n := by
  have hsh : WShape.hasAll [] args [.list .int] = true := (pre_splitW hpre).1
  have hc : l.pre.holds [] { args := args } = true := (pre_splitW hpre).2
  obtain ⟨d,r,rfl,h1,h2⟩ := hasAllW_cons hsh
  obtain rfl := hasAllW_nil h2
  obtain ⟨xs,rfl,h3⟩ := hasW_list h1
  obtain ⟨ns,rfl⟩ := items_int h3
  have hlen : ns.length ≤ n := by
    unfold OpenLaw.pre at hc
    have h4 : (WTm.not (.lt (.lit (.int (n : Int))) (.len (.arg 0)))).holds [] { args := [.list (ns.map .int)] } = true := by
      have h4 := (holds_andW hc).1
      rw [hn] at h4
      exact h4
    have h5 := condW_of h4 (w_not (w_lt w_lit (w_len_list (w_arg rfl))))
    rw [List.length_map] at h5
    refine Nat.le_of_not_lt fun q => ?_
    have q' : (n : Int) < ((ns.length : Nat) : Int) := by omega
    first
      | (rw [decide_eq_true q'] at h5; exact absurd h5 (by decide))
      | (simp at h5; omega)
  cases hwl with
  | cons w1 w2 =>
    cases w2
    cases w1 with
    | list ho hall => exact ⟨_,_,ns,rfl,rfl,ho,ints_of_wellAll ns _ hall,hlen⟩
theorem post_true (l : OpenLaw) (args : List WData) : l.row.toRowW.claim.post args (.bool true) args = true :=
  postW_of (r := l.row.toRowW) (X := (true == true))
    (show WShape.has [] (.bool true) .bool = true by first | rfl | decide | simp [WShape.has,WShape.arms,WShape.armsAll])
    (show (WTm.eq .res (.lit (.bool true))).value [] { args := args,res := some (.bool true),after := args } = some (.bool (true == true)) from w_eq_bool (w_res rfl) w_lit) rfl
section
variable {prog : Program} {w : World} {A : Around} {E : Value → Shared → Prop} {s : Shared} {K : Frag}
end
end Att
namespace L2
open PySem PySem.Spec PyProof.Rows
theorem vals_ints {vs : List Value} {ns : List Int} (h : IntsAre vs ns) : Vals (ns.map V.int) vs := by
  induction h with
  | nil => exact .nil
  | cons n t h ih => exact .cons ⟨t,rfl⟩ ih
noncomputable def Only (H : Hp) : Prop := ∀ b,H b = none ∨ ∃ o xs,H b = some (.frz o (.lst xs))
theorem law_call {P : Program} {w : World} {K : PySem.W.Frag} {mg mb : Str → Option Value} {CX : CXT} {k : Nat} {fa a : Addr} {fd : FuncData} {x : Str} {sp : Sp} {s₁ : Shared} {vs : List Value} {ns : List Int}
    (KX : K.In s₁.heap) (hns : s₁.heap.Ns mainGlobals mg) (hb : s₁.heap.Ns builtinsNs mb) (hbb : ∀ x : Str,x ≠ "__name__" → mb x = bootBuiltins x) (hlim : s₁.heap.NoLimit) (hdig : s₁.heap.NoDigits) (hg : s₁.gens = #[])
    (ha : s₁.heap.get? a = some { cls := .type "list",data := .seq vs.toArray }) (hi : IntsAre vs ns) (hl : ns.length ≤ sizeLine) (hr : Room k callerA)
    (F : ∀ base : Heap,K.In base → base.Ns mainGlobals mg → FnOk P w K mg base CX k fa fd [x] sp) (hbind : ∀ (s : Shared) (u : Value),BindsTo s fd ⟨[u],[]⟩ [(x,u)])
    (hsp : ∀ H : Hp,Only H → SqL K H a (ns.map V.int) → sp [.ref a] H (fun v _ => v = .bl true) fun _ _ _ => False)
    (hCX : ∀ H e s',CX [] H s₁ (fun _ _ _ => False) e s' → False) :
    codeAny (model P w) callerA (.call (.ref fa) ⟨[.ref a],[]⟩) (fun r s' => r = .ok (.ret (.bool true)) ∧ OldK s₁.heap s'.heap ∧ s'.os = s₁.os ∧ AllBare s'.gens) s₁ := by
  have rv := vals_ints hi
  have lenV := hi.length
  have core : ∀ H : Hp,Only H → SqL K H a (ns.map V.int) → HOk P w H s₁.heap → (∀ b,H b ≠ none → b = a) → (H a ≠ none → K.lookup a = none) →
      codeAny (model P w) callerA (.call (.ref fa) ⟨[.ref a],[]⟩) (fun r s' => r = .ok (.ret (.bool true)) ∧ OldK s₁.heap s'.heap ∧ s'.os = s₁.os ∧ AllBare s'.gens) s₁ := by
    intro H hO hS hok hA hK
    have base_of : ∀ {b : Addr} {o : Obj},s₁.heap.get? b = some o → H b = none → (hidT s₁.heap H).get? b = some o := fun e n => hidT_get e n
    have noA : ∀ {b : Addr} {o : Obj} {es : Array DictEntry} {ep : Nat},s₁.heap.get? b = some o → o.data = .dict es ep → H b = none := fun {b o es ep} e d => by
      cases q : H b with
      | none => rfl
      | some u =>
        have e' : b = a := hA b (by rw [q]; simp)
        subst e'
        rw [ha] at e; cases e
        have d' : Data.seq vs.toArray _ = Data.dict es ep := d
        cases d'
    have nsK : ∀ {b : Addr} {m : Str → Option Value},s₁.heap.Ns b m → (hidT s₁.heap H).Ns b m := fun {b m} ⟨o,es,ep,e,d,r⟩ => ⟨o,es,ep,base_of e (noA e d),d,r⟩
    have hKb : K.In (hidT s₁.heap H) := fun b o e => base_of (KX b o e) (by
      cases q : H b with
      | none => rfl
      | some u =>
        have e' : b = a := hA b (by rw [q]; simp)
        subst e'
        rw [hK (by rw [q]; simp)] at e; cases e)
    have hM : Mod K mg (hidT s₁.heap H) := ⟨hKb,nsK hns,⟨mb,nsK hb,hbb⟩,let ⟨mc,h1,h2⟩ := hlim; ⟨mc,nsK h1,h2⟩,let ⟨mc,h1,h2⟩ := hdig; ⟨mc,nsK h1,h2⟩⟩
    have e0 : Env0 P w K mg (hidT s₁.heap H) callerA [] s₁ H := ⟨rfl,hM,fun b o e => of_hidT e,Nat.le_of_eq (hidT_size _ _),trivial,fun b hb => absurd (show b ∈ ([] : List Addr) from hb) (by simp),hok,.of_eq hg⟩
    refine codeAny_mono ((F _ hKb (nsK hns)).run callerA [] s₁ H ⟨[.ref a],[]⟩ [.ref a] [.ref a] _ _ hr e0 (hbind s₁ (.ref a)) (.cons rfl .nil) (hsp H hO hS)) fun r s' h => ?_
    cases r with
    | error e => exact (hCX H e s' h).elim
    | ok fl =>
      cases fl with
      | next => exact False.elim h
      | brk => exact False.elim h
      | cont => exact False.elim h
      | ret u =>
        obtain ⟨v,H',os,bare,un,hok',r',q⟩ := h
        have q' : v = .bl true := q
        subst q'
        obtain rfl : u = Value.bool true := r'
        refine ⟨rfl,OldK.of_keep fun b o e => ?_,os,bare⟩
        cases q : H b with
        | none => exact un.keep b o e q (by intro z; exact absurd (show b ∈ ([] : List Addr) from z) (by simp)) (by simp)
        | some u =>
          rcases hO b with z | ⟨ob,xs,z⟩
          · rw [q] at z; cases z
          · have z2 := un.frzs b ob _ z
            obtain ⟨e1,_⟩ := hok b _ z
            obtain ⟨e2,_⟩ := hok' b _ z2
            rw [e] at e1; cases e1
            exact e2
  cases hk : K.lookup a with
  | some o =>
    have e := KX a o hk
    rw [ha] at e
    cases e
    refine core (fun _ => none) (fun _ => .inl rfl) (.inr ⟨_,vs.toArray,_,hk,rfl,rfl,rfl,by rw [List.size_toArray,lenV]; exact hl,by simpa using rv⟩) (fun b u z => by have z' : (none : Option HO) = some u := z; cases z') (fun b z => absurd rfl z) fun z => absurd rfl z
  | none =>
    refine core (fun b => if b = a then some (.frz { cls := .type "list",data := .seq vs.toArray } (.lst (ns.map V.int))) else none) (fun b => ?_) (.inl (.inr ⟨{ cls := .type "list",data := .seq vs.toArray },if_pos rfl⟩)) (fun b u z => ?_) (fun b z => ?_) fun _ => hk
    · by_cases hb : b = a
      · exact .inr ⟨_,_,if_pos hb⟩
      · exact .inl (if_neg hb)
    · by_cases hb : b = a
      · have z' := (if_pos hb).symm.trans z
        cases z'
        subst hb
        exact ⟨ha,by rw [List.length_map]; exact hl,vs,_,rv,ha⟩
      · have z' := (if_neg hb).symm.trans z
        cases z'
    · by_cases hb : b = a
      · exact hb
      · exact absurd (if_neg hb) z
end L2
namespace L2
open PySem PySem.Spec PyProof.Rows
end L2
/- THE LAST THEOREM (shape; LID,My.* are yours):
   My.Adr: a structure of the addresses that your layer names (classes,functions); My.Txt K t: a structure (Prop) of the equations over K;
   My.txt_mk : {K} {implicit addresses ..} (e1 : nsIn K mainGlobals "law" = some (some (.ref f))) (e2 : K.lookup f = some ⟨oc,od,.func (fnOf "law" "law" params body scope dV kV doc pm an cdv ct),sl⟩) (e3 : codeIn K cdv "law" = true) .. : ∃ t,My.Txt K t
set_option maxRecDepth 100000 in
set_option maxHeartbeats 0 in
theorem PySem.Challenge.cw_LID_holds : PySem.Challenge.rw_LID.Holds := by
  w_on; o_law; k_head; (case hw => w_witness2)
  k_fill
  refine L2.walk_of (l := PySem.Challenge.rw_LID) (n := 63) (k := 40) (x := "script") (CX := fun w => ..) (sp := fun _ => My.sp_law) rfl (by decide) rfl ⟨rfl,by decide,by decide⟩ (fun w h Y => PySem.W.kIn_of Y) ?F ?S ?C
  case F =>
    intro w mg fa h KX G hmg
    have T : ∃ t,My.Txt (L2.KOf KX) t := by
      dsimp only [L2.KOf]                          -- K must stand as «<heap const> w.params» for k_is
      refine' My.txt_mk ?e1 ?e2 ?e3 ..
      (case e1 => PySem.W.k_is)                    -- in the order: a name -> its address -> its object -> its parts
      (case e2 => PySem.W.k_is)
      ..
    obtain ⟨t,T⟩ := T
    have e0 := hmg.symm.trans (PySem.W.mg_of KX G T.law)
    cases e0                                       -- fa is the law's own address
    exact ⟨_,fun s u => .of_eq rfl,fun base kb nb => My.law_fn T kb nb⟩     -- if «.of_eq rfl» comes too early: refine' ⟨_,?b,fun base kb nb => My.law_fn T kb nb⟩; exact fun s u => .of_eq rfl
  case S => exact fun w H a ns hl hO hS => ..
  case C => exact ..
(the tactic k_is has no namespace: write k_is) -/
namespace L2
open PySem PySem.Spec PyProof.Rows
noncomputable def defArgs (s : Stmt) : Arguments := match s with
  | .FunctionDef _ a _ _ _ _ _ _ _ _ => a
  | _ => { posonlyargs := [],args := [],vararg := none,kwonlyargs := [],kw_defaults := [],kwarg := none,defaults := [] }
noncomputable def defBody (s : Stmt) : List Stmt := match s with
  | .FunctionDef _ _ b _ _ _ _ _ _ _ => b
  | _ => []
noncomputable def defScope (s : Stmt) : Scope := match s with
  | .FunctionDef _ _ _ _ _ _ sc _ _ _ => sc
  | _ => { kind := .function,names := [],isGenerator := false,isCoroutine := false }
noncomputable abbrev E0 : XK := fun _ _ _ => False
structure Fun (K : PySem.W.Frag) (x qual : Str) (st : Stmt) (f : Addr) (fd : FuncData) : Prop where
  ex : ∃ (oc : Value) (od : Option Addr) (kV doc pm : Value) (an : Option Addr) (cdv ct : Value) (osl : Array (Option Value)),
    fd = PySem.W.fnOf x qual (defArgs st) (defBody st) (defScope st) .none kV doc pm an cdv ct ∧ K.lookup f = some ⟨oc,od,.func fd,osl⟩ ∧ PySem.W.codeIn K cdv qual = true
  kp : PySem.W.keepIn K (.ref f) = true
section
variable {P : Program} {w : World} {K : PySem.W.Frag} {mg : Str → Option Value} {base : Heap}
theorem Fun.binds {x qual : Str} {st : Stmt} {f : Addr} {fd : FuncData} {ps : List Str} (F : Fun K x qual st f fd)
    (h : ∀ (kV doc pm : Value) (an : Option Addr) (cdv ct : Value) (us : List Value),us.length = ps.length → bindArgs (PySem.W.fnOf x qual (defArgs st) (defBody st) (defScope st) .none kV doc pm an cdv ct) ⟨us,[]⟩ = pure (ps.zip us)) : Binds K fd ps [] := by
  obtain ⟨oc,od,kV,doc,pm,an,cdv,ct,osl,rfl,lk,hcd⟩ := F.ex
  exact .all (h kV doc pm an cdv ct)
theorem fun_mk {x qual : Str} {st : Stmt} {f : Addr} {oc : Value} {od an : Option Addr} {osl : Array (Option Value)} {kV doc pm cdv ct : Value} (l : K.lookup f = some ⟨oc,od,.func (PySem.W.fnOf x qual (defArgs st) (defBody st) (defScope st) .none kV doc pm an cdv ct),osl⟩)
    (c : PySem.W.codeIn K cdv qual = true) (k : PySem.W.keepIn K (.ref f) = true) : Fun K x qual st f (PySem.W.fnOf x qual (defArgs st) (defBody st) (defScope st) .none kV doc pm an cdv ct) := ⟨⟨oc,od,kV,doc,pm,an,cdv,ct,osl,rfl,l,c⟩,k⟩
end
theorem small1000 {n : Nat} (h : n ≤ 1000) : n < sizeLine := Nat.lt_of_le_of_lt h (by decide)
section
variable {X : Cx}
theorem pv (i : Nat) {x : Str} {pos : Pos} (hN : X.N[i]? = some x := by rfl) (hv : Vis X.env.scope x := by first | exact Or.inl rfl | exact Or.inr (Or.inl rfl) | exact Or.inr (Or.inr rfl)) (hd : (x == ("__debug__" : Str)) = false := by decide)
    (hcd : (x == ("__classdict__" : Str)) = false := by decide) : PE X (.Name x pos) (tVar i) := pe_var hN hv hd hcd
end
theorem iteF {A B : Prop} (h : B) : if false = true then A else B := by
  rw [if_neg Bool.false_ne_true]
  exact h
theorem iteT {A B : Prop} (h : A) : if true = true then A else B := by
  rw [if_pos rfl]
  exact h
theorem ite2 {c A B : Prop} [Decidable c] (h1 : c → A) (h2 : ¬ c → B) : if c then A else B := by
  by_cases h : c
  · rw [if_pos h]
    exact h1 h
  · rw [if_neg h]
    exact h2 h
noncomputable def Same (H H' : Hp) : Prop := ∀ b o,H b = some o → H' b = some o
theorem Same.refl (H : Hp) : Same H H := fun _ _ h => h
theorem Same.trans {H H1 H2 : Hp} (a : Same H H1) (b : Same H1 H2) : Same H H2 := fun c o h => b c o (a c o h)
theorem Same.free {H H' : Hp} (e : Same H H') {l : Addr} (h : H' l = Option.none) : H l = Option.none := by
  cases q : H l with
  | none => rfl
  | some o =>
    rw [e l o q] at h
    cases h
theorem Same.seq {K : PySem.W.Frag} {H H' : Hp} {a : Addr} {xs : List V} (e : Same H H') (h : SqL K H a xs) : SqL K H' a xs := by
  rcases h with (h | ⟨o,h⟩) | h
  · exact .inl (.inl (e _ _ h))
  · exact .inl (.inr ⟨o,e _ _ h⟩)
  · exact .inr h
section
variable {κ : Type} [DecidableEq κ]
end
end L2
namespace L2
open PySem PySem.Spec PyProof.Rows
theorem us0 {us : List Value} (h : us.length = 0) : us = [] := List.eq_nil_of_length_eq_zero h
theorem usS {us : List Value} {n : Nat} (h : us.length = n + 1) : ∃ a r,us = a :: r ∧ r.length = n := by
  cases us with
  | nil => cases h
  | cons a r => exact ⟨a,r,rfl,Nat.succ.inj h⟩
theorem us1 {us : List Value} (h : us.length = 1) : ∃ a,us = [a] := by
  obtain ⟨a,r,rfl,k⟩ := usS h
  obtain rfl := us0 k
  exact ⟨a,rfl⟩
theorem us2 {us : List Value} (h : us.length = 2) : ∃ a b,us = [a,b] := by
  obtain ⟨a,r,rfl,k⟩ := usS h
  obtain ⟨b,rfl⟩ := us1 k
  exact ⟨a,b,rfl⟩
theorem us3 {us : List Value} (h : us.length = 3) : ∃ a b c,us = [a,b,c] := by
  obtain ⟨a,r,rfl,k⟩ := usS h
  obtain ⟨b,c,rfl⟩ := us2 k
  exact ⟨a,b,c,rfl⟩
theorem us4 {us : List Value} (h : us.length = 4) : ∃ a b c d,us = [a,b,c,d] := by
  obtain ⟨a,r,rfl,k⟩ := usS h
  obtain ⟨b,c,d,rfl⟩ := us3 k
  exact ⟨a,b,c,d,rfl⟩
structure Flown (P : Program) (w : World) (outer : List Env) (H : Hp) (s : Shared) (E : XK) (e : Value) (s' : Shared) : Prop where
  ex : ∃ (ea C : Addr) (a0 : Value) (B : Heap) (H' : Hp),e = .ref ea ∧ s'.os = s.os ∧ AllBare s'.gens ∧ Heap.FlyingW B outer ea (.ref C) a0 s'.heap ∧ HOk P w H' B ∧ Un (frs outer) [] H H' s.heap s'.heap ∧
    (∀ b o,s.heap.get? b = some o → b ∈ frs outer ∨ ∃ o',B.get? b = some o') ∧ E (.ref C) none H'
theorem flown_none {P : Program} {w : World} {outer : List Env} {H : Hp} {s s' : Shared} {e : Value} (h : Flown P w outer H s E0 e s') : False := by
  obtain ⟨_,_,_,_,_,_,_,_,_,_,_,_,q⟩ := h.ex
  exact q
theorem passF0 {X : Cx} : Passes (Flown X.prog X.w) X E0 := fun _ _ _ _ _ _ _ h => (flown_none h).elim
section
variable {X : Cx} {pins : List (Addr × Obj)} {σ : St} {H : Hp} {s : Shared}
theorem Inv.notStk (I : Inv X pins σ H s) {b : Addr} {o : Obj} (e : X.s₀.heap.get? b = some o) (hb : b ∉ X.fs) : b ∉ frs X.stack := fun z => by
  rcases List.mem_cons.mp (I.stkSub b z) with q | q
  · exact absurd (Nat.lt_of_lt_of_le (Heap.lt_size e) I.ok.above) (by rw [← q]; exact Nat.lt_irrefl _)
  · exact hb q
theorem hideStk (I : Inv X pins σ H s) {b : Addr} {o : Obj} (e : s.heap.get? b = some o) (hb : b ∉ frs X.stack) : (PySem.W.hideAll s.heap (frs X.stack)).get? b = some o := PySem.W.hideAll_get _ e hb
theorem Inv.hokHid (I : Inv X pins σ H s) : HOk X.prog X.w H (PySem.W.hideAll s.heap (frs X.stack)) := fun b o e =>
  (I.hok b o e).stay (fun c u hc q => hideStk I q fun z => by
    have n := I.stkFree c z
    rcases hc with rfl | hc
    · rw [n] at e; cases e
    · rw [n] at hc; cases hc) (fun _ q => q) fun _ _ q => q
theorem Inv.unTo (I : Inv X pins σ H s) (hex : X.ex = []) {H' : Hp} {h' : Heap} (keep : ∀ b o,s.heap.get? b = some o → H b = none → b ∉ frs X.stack → h'.get? b = some o)
    (slot : ∀ b o,s.heap.get? b = some o → H b = none → b ∈ X.fs → ∃ sl,h'.get? b = some { o with slots := sl }) (free : ∀ b o,s.heap.get? b = some o → H b = none → H' b = none) (there : ∀ b o,s.heap.get? b = some o → ∃ o',h'.get? b = some o')
    (tups : ∀ b xs,H b = some (.tup xs) → H' b = some (.tup xs)) (frzs : ∀ b o u,H b = some (.frz o u) → H' b = some (.frz o u)) (tbls : ∀ b ps,H b = some (.tbl ps) → ∃ more,H' b = some (.tbl (ps ++ more))) :
    Un (frs X.outer) [] X.H₀ H' X.s₀.heap h' := by
  have nx : ∀ b : Addr,b ∉ X.ex := fun b => by rw [hex]; simp
  refine ⟨fun b o e n hb _ => ?_,fun b o e n hb _ => ?_,fun b o e n _ => ?_,fun b o e _ => ?_,fun b xs e => tups b xs (I.base.tups b xs e),fun b o u e => frzs b o u (I.base.frzs b o u e),fun b ps e => ?_⟩
  · exact keep b o (I.base.keep b o e n hb (nx b)) (I.base.free b o e n (nx b)) (I.notStk e hb)
  · obtain ⟨sl,e1⟩ := I.base.slot b o e n hb (nx b)
    obtain ⟨sl',e2⟩ := slot b _ e1 (I.base.free b o e n (nx b)) hb
    exact ⟨sl',e2⟩
  · obtain ⟨o',e1⟩ := I.base.there b o e (nx b)
    exact free b o' e1 (I.base.free b o e n (nx b))
  · obtain ⟨o',e1⟩ := I.base.there b o e (nx b)
    exact there b o' e1
  · obtain ⟨m1,e1⟩ := I.base.tbls b ps e
    obtain ⟨m2,e2⟩ := tbls b _ e1
    exact ⟨m1 ++ m2,by rw [e2,Array.append_assoc]⟩
end
noncomputable abbrev cxF (P : Program) (w : World) (K : PySem.W.Frag) (mg : Str → Option Value) (base : Heap) (N : List Str) (qual : Str) (scope : Scope) (f : Addr) (cdv : Value) (A : Around) (outer : List Env) (s : Shared) (H : Hp) (E : XK) : Cx :=
  cxOf (Flown P w) P w K mg base N qual scope f cdv A outer s H E
section
variable {P : Program} {w : World} {K : PySem.W.Frag} {mg : Str → Option Value} {base : Heap} {N : List Str} {qual : Str} {scope : Scope} {f : Addr} {cdv : Value} {A : Around} {outer : List Env} {s₀ : Shared} {H₀ : Hp} {E : XK}
theorem made_leaves {pins : List (Addr × Obj)} {σ : St} {H : Hp} {s : Shared} {h1 : Heap} {e C : Addr} {vs : List Value} (I : Inv (cxF P w K mg base N qual scope f cdv A outer s₀ H₀ E) pins σ H s) (hx : Heap.MadeExcOf s.heap h1 e (.ref C) vs) (q : E (.ref C) none H) :
    (cxF P w K mg base N qual scope f cdv A outer s₀ H₀ E).xe (.ref e) { s with heap := h1 } := by
  have hin : ∀ env ∈ envOfC qual scope s₀.heap.objs.size f cdv :: outer,∀ a,env.frame = some a → a ∈ frs (envOfC qual scope s₀.heap.objs.size f cdv :: outer) := fun env he a ha => List.mem_filterMap.mpr ⟨env,he,ha⟩
  refine wpAny_leaves_madeW (base := PySem.W.hideAll s.heap (frs (envOfC qual scope s₀.heap.objs.size f cdv :: outer))) (h := s.heap) (L := s₀.heap.objs.size) I.ok.frames rfl (fun b o q => PySem.W.of_hideAll _ q) (PySem.W.funFrames_hide I.stack hin) hx fun h' t x1 x2 x3 x4 => ?_
  have up : ∀ b o,s.heap.get? b = some o → b ∈ frs (envOfC qual scope s₀.heap.objs.size f cdv :: outer) → ∃ sl,h'.get? b = some { o with slots := sl } := fun b o e hb => by
    obtain ⟨_,o',ho',hd⟩ := I.stack.mem hb
    rw [e] at ho'; cases ho'
    exact x4 b o (hx.keeps b o e) hd
  refine ⟨e,C,.ref t,_,H,rfl,I.os,I.bare,x1,I.hokHid,I.unTo rfl (fun b o e _ hb => x1.1 b o (hideStk I e hb)) (fun b o e _ hb => up b o e (List.mem_cons_of_mem _ hb)) (fun _ _ _ n => n) (fun b o e => ?_) (fun _ _ z => z) (fun _ _ _ z => z) (fun b ps z => ⟨#[],by rw [z]; simp⟩),fun b o e => ?_,q⟩
  · by_cases hb : b ∈ frs (envOfC qual scope s₀.heap.objs.size f cdv :: outer)
    · obtain ⟨sl,z⟩ := up b o e hb
      exact ⟨_,z⟩
    · exact ⟨o,x1.1 b o (hideStk I e hb)⟩
  · by_cases hb : b ∈ frs outer
    · exact .inl hb
    · obtain ⟨o',e1⟩ := I.base.there b o e (by intro z; cases z)
      exact .inr ⟨o',hideStk I e1 (I.notStk e hb)⟩
theorem pass_on : Passes (Flown P w) (cxF P w K mg base N qual scope f cdv A outer s₀ H₀ E) E := by
  intro pins σ H s e s' I h
  obtain ⟨ea,C,a0,B,H',rfl,os,bare,fl,hok,un,old,q⟩ := h.ex
  refine wpAny_leaves_onW (L := s₀.heap.objs.size) I.ok.frames rfl fl fun h' x1 x2 => ?_
  have inB : ∀ b o,s.heap.get? b = some o → b ∉ frs (envOfC qual scope s₀.heap.objs.size f cdv :: outer) → ∃ o',B.get? b = some o' ∧ s'.heap.get? b = some o' := fun b o e hb => by
    rcases old b o e with z | ⟨o',z⟩
    · exact absurd z hb
    · exact ⟨o',z,fl.1 b o' z⟩
  have up : ∀ b o,s'.heap.get? b = some o → b ∈ frs (envOfC qual scope s₀.heap.objs.size f cdv :: outer) → ∃ sl,h'.get? b = some { o with slots := sl } := fun b o e hb => by
    obtain ⟨_,o',ho',hd⟩ := fl.2.2.1.mem hb
    rw [e] at ho'; cases ho'
    exact x2 b o e hd
  refine ⟨ea,C,a0,B,H',rfl,os.trans I.os,bare,x1,hok,I.unTo rfl (fun b o e n hb => ?_) (fun b o e n hb => ?_) (fun b o e n => un.free b o e n (by simp)) (fun b o e => ?_) un.tups un.frzs un.tbls,fun b o e => ?_,q⟩
  · obtain ⟨o',e1,e2⟩ := inB b o e hb
    have e3 := un.keep b o e n hb (by simp)
    rw [e2] at e3; cases e3
    exact x1.1 b _ e1
  · obtain ⟨sl,e1⟩ := un.slot b o e n (List.mem_cons_of_mem _ hb) (by simp)
    obtain ⟨sl',e2⟩ := up b _ e1 (List.mem_cons_of_mem _ hb)
    exact ⟨sl',e2⟩
  · by_cases hb : b ∈ frs (envOfC qual scope s₀.heap.objs.size f cdv :: outer)
    · obtain ⟨o',e1⟩ := un.there b o e (by simp)
      obtain ⟨sl,e2⟩ := up b o' e1 hb
      exact ⟨_,e2⟩
    · obtain ⟨o',e1,_⟩ := inB b o e hb
      exact ⟨o',x1.1 b o' e1⟩
  · by_cases hb : b ∈ frs outer
    · exact .inl hb
    · obtain ⟨o',e1⟩ := I.base.there b o e (by intro z; cases z)
      obtain ⟨o2,e2,_⟩ := inB b o' e1 (I.notStk e hb)
      exact .inr ⟨o2,e2⟩
end
noncomputable def tRaise (C : Addr) (E : XK) (t : TA) : TS := fun _ σ H => t σ H fun vs H1 => vs.length ≤ sizeLine ∧ E (.ref C) none H1
structure ExC (mg : Str → Option Value) (base : Heap) (x : Str) (C : Addr) : Prop where
  ex : ∃ bm newId,OwnCls x C bm newId mg base ∧ ∃ (Bn inN : String) (bmN : List Value) (B nid initId : String),ExcBaseFacts Bn newId inN bmN ∧ bm.contains (.type Bn) = true ∧ ExcBaseFacts B nid initId bm
theorem ps_raise {P : Program} {w : World} {K : PySem.W.Frag} {mg : Str → Option Value} {base : Heap} {N : List Str} {qual : Str} {scope : Scope} {f : Addr} {cdv : Value} {A : Around} {outer : List Env} {s₀ : Shared} {H₀ : Hp} {E : XK}
    {x : Str} {C : Addr} {np cpos pos : Pos} {e : Expr} {es : List Expr} {t : TA} (O : ExC mg base x C) (hg : Gl (cxF P w K mg base N qual scope f cdv A outer s₀ H₀ E) x) (ha : PA (cxF P w K mg base N qual scope f cdv A outer s₀ H₀ E) (e :: es) t)
    (hdb : (x == ("__debug__" : Str)) = false := by decide)
    (he : starEach (e :: es) (cxF P w K mg base N qual scope f cdv A outer s₀ H₀ E).env = (false,eval e (cxF P w K mg base N qual scope f cdv A outer s₀ H₀ E).env) :: starEach es (cxF P w K mg base N qual scope f cdv A outer s₀ H₀ E).env := by rfl)
    (hpl : (backTo cpos (starEach es (cxF P w K mg base N qual scope f cdv A outer s₀ H₀ E).env)).any (·.1) = false := by rfl) :
    PS (cxF P w K mg base N qual scope f cdv A outer s₀ H₀ E) (.Raise (some (.Call (.Name x np) (e :: es) [] cpos)) none pos) (tRaise C E t) := by
  intro pins s σ H D I h
  obtain ⟨bm,newId,O,Bn,inN,bmN,B,nid,initId,Fn,hBn,FB⟩ := O.ex
  obtain ⟨tl,Nn,nm,q,bs,hdct,sn,sub,ab,col,dd,k0,k1,k2,k3,k5,mN,hC,hN,hni,T⟩ := O.obj
  refine wpAny_Raise_call_subU (C := C) (nm := nm) (q := q) (N := Nn) (bs := bs) (bm := tl) (hdct := hdct) (sn := sn) (sub := sub) (ab := ab) (col := col) (dd := dd) (k0 := k0) (k1 := k1) (k2 := k2) (k3 := k3) (k5 := k5)
    Fn hBn FB (mN := mN) (T.hasType FB.hasBase) (I.ok.hd rfl) (by rw [he]; show (false || (backTo cpos (starEach es (cxF P w K mg base N qual scope f cdv A outer s₀ H₀ E).env)).any (·.1)) = false; rw [hpl]; rfl) hni (ld_glob I hg O.bound ⟨rfl,?_⟩ hdb)
  have h2 := ha cpos pins s σ H _ I h
  rw [he] at h2 ⊢
  refine Calls.evalArgs_plain (wpAny_mono h2 (fun us s2 ⟨vs,H2,I2,r,z,q⟩ => ⟨rfl,by rw [← r.length]; exact z,I2.bk _ _ hC,hN.keeps I2.bk,T.keeps I2.bk,fun h' e hm => made_leaves I2 hm q⟩) fun _ _ y => y)
theorem Fun.okF {P : Program} {w : World} {K : PySem.W.Frag} {mg : Str → Option Value} {base : Heap} {x qual : Str} {st : Stmt} {f : Addr} {fd : FuncData} {N ps : List Str} {k : Nat} {sp : Sp} (F : Fun K x qual st f fd) (S : FnScope N ps (defScope st)) (len : ∀ vs H Q E,sp vs H Q E → vs.length = ps.length)
    (hbody : ∀ (cdv : Value) (A : Around) (outer : List Env) (s : Shared) (H : Hp) (vs : List V) (Q : VK) (E : XK),Room k (A.deeper (envOfC qual (defScope st) s.heap.objs.size f cdv)) → sp vs H Q E →
      ∃ t,PSs (cxF P w K mg base N qual (defScope st) f cdv A outer s H E) (defBody st) t ∧ t { nx := fun _ H' => Q .non H',rt := Q } (start N vs) H) : FnOk P w K mg base (Flown P w) (k + 1) f fd ps sp := by
  obtain ⟨oc,od,kV,doc,pm,an,cdv,ct,osl,rfl,lk,hcd⟩ := F.ex
  exact fn_of lk hcd S len fun A outer s H vs Q E hr hsp => hbody cdv A outer s H vs Q E hr hsp
theorem Fun.okN {P : Program} {w : World} {K : PySem.W.Frag} {mg : Str → Option Value} {base : Heap} {x qual : Str} {st : Stmt} {f : Addr} {fd : FuncData} {N ps : List Str} {k : Nat} {sp : Sp} (F : Fun K x qual st f fd) (S : FnScope N ps (defScope st)) (len : ∀ vs H Q E,sp vs H Q E → vs.length = ps.length)
    (hbody : ∀ (cdv : Value) (A : Around) (outer : List Env) (s : Shared) (H : Hp) (vs : List V) (Q : VK) (E : XK),Room k (A.deeper (envOfC qual (defScope st) s.heap.objs.size f cdv)) → sp vs H Q E →
      ∃ t,PSs (cxF P w K mg base N qual (defScope st) f cdv A outer s H E).nox (defBody st) t ∧ t { nx := fun _ H' => Q .non H',rt := Q } (start N vs) H) : FnOk P w K mg base (Flown P w) (k + 1) f fd ps sp :=
  F.okF S len fun cdv A outer s H vs Q E hr h => let ⟨t,a,b⟩ := hbody cdv A outer s H vs Q E hr h; ⟨t,a.nox,b⟩
end L2
namespace L2
open PySem PySem.Spec PyProof.Rows
section
variable {X : Cx}
theorem OpR.imp {f : Value → Value → Sem Value} {r r' : R2} (h : OpR X f r) (i : ∀ x y H Q,r' x y H Q → r x y H Q) : OpR X f r' := fun pins s σ H x y v u Q I rx ry q => h pins s σ H x y v u Q I rx ry (i _ _ _ _ q)
theorem IxR.imp {r r' : R2} (h : IxR X r) (i : ∀ x y H Q,r' x y H Q → r x y H Q) : IxR X r' := fun value slice pins s σ H x y v u Q I rx ry q hs => h value slice pins s σ H x y v u Q I rx ry (i _ _ _ _ q) hs
theorem pe_globI {x : Str} {i : Int} {pos : Pos} (hg : Gl X x) (hm : ∃ t,X.mg x = some (.int i t)) (hd : (x == ("__debug__" : Str)) = false := by decide) : PE X (.Name x pos) (tC (.int i)) := by
  obtain ⟨t,e⟩ := hm
  exact pe_glob hg e ⟨t,rfl⟩ hd
structure Cal (P : Program) (w : World) (K : PySem.W.Frag) (mg : Str → Option Value) (base : Heap) (x : Str) (k : Nat) (ps : List Str) (sp : Sp) : Prop where
  ex : ∃ (g : Addr) (gd : FuncData),mg x = some (.ref g) ∧ PySem.W.keepIn K (.ref g) = true ∧ Binds K gd ps [] ∧ FnOk P w K mg base (Flown P w) k g gd ps sp
theorem pe_callC {x : Str} {k k' : Nat} {ps : List Str} {sp : Sp} {p pos : Pos} {e : Expr} {es : List Expr} {t : TA} (C : Cal X.prog X.w X.K X.mg X.base x k ps sp) (hr : Room k' X.A) (hg : Gl X x) (ha : PA X (e :: es) t)
    (hk : k ≤ k' := by decide) (hd : (x == ("__debug__" : Str)) = false := by decide)
    (he : starEach (e :: es) X.env = (false,eval e X.env) :: starEach es X.env := by rfl) (hpl : (backTo pos (starEach es X.env)).any (·.1) = false := by rfl) : PE X (.Call (.Name x p) (e :: es) [] pos) (tCall sp [] E0 t) := by
  obtain ⟨g,gd,hm,hkp,hb,F⟩ := C.ex
  exact pe_call F (hr.mono hk) hg hm hkp hb .nil passF0 ha hd he hpl
theorem pe_callCF {P : Program} {w : World} {K : PySem.W.Frag} {mg : Str → Option Value} {base : Heap} {N : List Str} {qual : Str} {scope : Scope} {f : Addr} {cdv : Value} {A : Around} {outer : List Env} {s₀ : Shared} {H₀ : Hp} {E : XK}
    {x : Str} {k k' : Nat} {ps : List Str} {sp : Sp} {p pos : Pos} {e : Expr} {es : List Expr} {t : TA} (C : Cal P w K mg base x k ps sp) (hr : Room k' (cxF P w K mg base N qual scope f cdv A outer s₀ H₀ E).A) (hg : Gl (cxF P w K mg base N qual scope f cdv A outer s₀ H₀ E) x)
    (ha : PA (cxF P w K mg base N qual scope f cdv A outer s₀ H₀ E) (e :: es) t) (hk : k ≤ k' := by decide) (hd : (x == ("__debug__" : Str)) = false := by decide)
    (he : starEach (e :: es) (cxF P w K mg base N qual scope f cdv A outer s₀ H₀ E).env = (false,eval e (cxF P w K mg base N qual scope f cdv A outer s₀ H₀ E).env) :: starEach es (cxF P w K mg base N qual scope f cdv A outer s₀ H₀ E).env := by rfl)
    (hpl : (backTo pos (starEach es (cxF P w K mg base N qual scope f cdv A outer s₀ H₀ E).env)).any (·.1) = false := by rfl) :
    PE (cxF P w K mg base N qual scope f cdv A outer s₀ H₀ E) (.Call (.Name x p) (e :: es) [] pos) (tCall sp [] E t) := by
  obtain ⟨g,gd,hm,hkp,hb,F⟩ := C.ex
  exact pe_call (X := cxF P w K mg base N qual scope f cdv A outer s₀ H₀ E) F (hr.mono hk) hg hm hkp hb .nil pass_on ha hd he hpl
theorem cat_tup0 {prog : Program} {w : World} {A : Around} {E : Value → Shared → Prop} {s : Shared} {t b : Addr} {vs ws : List Value} {Q : Value → Shared → Prop} (ht : IsTup s.heap t vs.toArray) (hb : IsTup s.heap b ws.toArray) (hv : vs = [])
    (h1 : Q (.ref b) s) : wpAny (model prog w) A (binaryOp .Add (.ref t) (.ref b)) Q E s := by
  obtain ⟨⟨cls,dd,data,sl⟩,ho,hc,n,hd⟩ := id ht
  obtain ⟨⟨cls2,dd2,data2,sl2⟩,ho2,hc2,n2,hd2⟩ := id hb
  simp only at hc hd hc2 hd2
  subst hc hd hc2 hd2
  exact concat_meets ⟨_,ho,rfl⟩ ⟨_,ho2,rfl⟩ noFill_tuple_add seq_tuple_add PySem.F.slot_tuple_add PySem.F.entry_tuple_add (PySem.F.args_tuple_add_2 _ _)
      (tuple_addW0 t b vs.toArray ws.toArray n n2 dd dd2 sl sl2 (by simp [hv])) ⟨ho,ho2,h1⟩
noncomputable def rCat0 (K : PySem.W.Frag) : R2 := fun x y H Q => ∃ a b ys,x = .ref a ∧ y = .ref b ∧ SqT K H a [] ∧ SqT K H b ys ∧ Q (.ref b) H
theorem op_cat0 : OpR X (binaryOp .Add) (rCat0 X.K) := by
  intro pins s σ H x y v u Q I rx ry h
  obtain ⟨a,b,ys,rfl,rfl,ha,hb,q⟩ := h
  cases rx
  cases ry
  obtain ⟨its,r1,p1,_⟩ := I.tuple ha
  obtain ⟨its2,r2,p2,_⟩ := I.tuple hb
  exact cat_tup0 p1 p2 (r1.nil_iff.mpr rfl) ⟨.ref b,H,I,rfl,q⟩
noncomputable def rAddV (K : PySem.W.Frag) : R2 := fun x y H Q => match x,y with
  | .int i,.int j => Q (.int (i + j)) H
  | .str i,.str j => i.length + j.length ≤ sizeLine ∧ Q (.str (i ++ j)) H
  | .ref a,.ref b => (∃ xs ys,H a = some (.lst xs) ∧ H b = some (.lst ys) ∧ xs.length + ys.length ≤ sizeLine ∧ ∀ p,H p = none → Q (.ref p) (upd H p (.lst (xs ++ ys)))) ∨
      (∃ xs ys,SqT K H a xs ∧ SqT K H b ys ∧ xs.length + ys.length ≤ sizeLine ∧ (xs = [] → Q (.ref b) H) ∧ (xs ≠ [] → ys = [] → Q (.ref a) H) ∧ (xs ≠ [] → ys ≠ [] → ∀ p,H p = none → Q (.ref p) (upd H p (.tup (xs ++ ys)))))
  | _,_ => False
theorem v_add : OpR X (binaryOp .Add) (rAddV X.K) := by
  refine ((op_add.or op_add_str).or (op_cat.or (op_catT.or op_cat0))).imp fun x y H Q h => ?_
  unfold rAddV at h
  split at h
  · exact .inl (.inl ⟨_,_,rfl,rfl,h⟩)
  · exact .inl (.inr ⟨_,_,rfl,rfl,h⟩)
  · rcases h with ⟨xs,ys,h1,h2,h3,h4⟩ | ⟨xs,ys,h1,h2,h3,h4,h5,h6⟩
    · exact .inr (.inl ⟨_,_,xs,ys,rfl,rfl,h1,h2,h3,h4⟩)
    · by_cases hx : xs = []
      · subst hx
        exact .inr (.inr (.inr ⟨_,_,ys,rfl,rfl,h1,h2,h4 rfl⟩))
      · exact .inr (.inr (.inl ⟨_,_,xs,ys,rfl,rfl,h1,h2,hx,h3,h5 hx,h6 hx⟩))
  · exact h.elim
noncomputable def rMulV : R2 := fun x y H Q => match x,y with
  | .int i,.int j => IntMulOk i j ∧ Q (.int (i * j)) H
  | .ref l,.int k => ∃ xs,H l = some (.lst xs) ∧ -(2 ^ 63) ≤ k ∧ k < 2 ^ 63 ∧ xs.length * k.toNat ≤ sizeLine ∧ ∀ p,H p = none → Q (.ref p) (upd H p (.lst (List.replicate k.toNat xs).flatten))
  | _,_ => False
theorem op_mulG : OpR X (binaryOp .Mult) (rI IntMulOk fun i j => .int (i * j)) := opI fun _ _ _ _ _ _ _ hc q => mul_int q hc
theorem v_mul : OpR X (binaryOp .Mult) rMulV := by
  refine (op_mulG.or op_rep).imp fun x y H Q h => ?_
  unfold rMulV at h
  split at h
  · exact .inl ⟨_,_,rfl,rfl,h.1,h.2⟩
  · obtain ⟨xs,h1,h2,h3,h4,h5⟩ := h
    exact .inr ⟨_,_,xs,rfl,rfl,h1,h2,h3,h4,h5⟩
  · exact h.elim
inductive SIx (K : PySem.W.Frag) (p : Addr) (i : Int) (H : Hp) (Q : VK) : Prop | mk (xs : List V) (v : V) (hs : SqL K H p xs ∨ SqT K H p xs) (ha : atI xs i = some v) (q : Q v H)
noncomputable def rIxV (K : PySem.W.Frag) : R2 := fun x y H Q => match x,y with
  | .ref p,.int i => SIx K p i H Q
  | .str z,.int i => ∃ c,z.length ≤ sizeLine ∧ atI z.cps.toList i = some c ∧ Q (.str ⟨#[c]⟩) H
  | _,_ => False
theorem v_ix : IxR X (rIxV X.K) := by
  refine ix_seq.imp fun x y H Q h => ?_
  unfold rIxV at h
  split at h
  · obtain ⟨xs,v,h1 | h1,h2,h3⟩ := h
    · exact .inl ⟨_,xs,_,v,rfl,rfl,h1,h2,h3⟩
    · exact .inr (.inl ⟨_,xs,_,v,rfl,rfl,h1,h2,h3⟩)
  · obtain ⟨c,h1,h2,h3⟩ := h
    exact .inr (.inr ⟨_,_,c,rfl,rfl,h1,h2,h3⟩)
  · exact h.elim
theorem v_sum (hc : X.calm = true) : CallR X (.builtin "sum") (fun xs H Q => ∃ (l : Addr) (ns : List Int),xs = [.ref l] ∧ SqL X.K H l (ns.map V.int) ∧ Q (.int ns.sum) H) := by
  intro pins s σ H xs us Q I r h
  obtain ⟨l,ns,rfl,hl,q⟩ := h
  obtain ⟨u,rfl,ru⟩ := r.one
  cases ru
  obtain ⟨its,rv,pl,hz⟩ := I.list hl
  have hi := intsAre_of rv
  obtain ⟨xs,hx⟩ := hi.allInts.items
  have hl' : s.heap.IsList l (intItems xs) := hx ▸ pl.isList
  refine sum_intListG (I.ok.hd hc) hl' fun h' tk t' hk => ?_
  have e1 : ns = xs.toList.map (·.1) := by
    rw [← nums_intItems,← hx]
    exact (show numsOf its.toArray.toList = ns from hi.numsOf).symm
  have e2 : preSum (numAt xs) xs.size = ns.sum := by
    rw [preSum_eq,List.take_of_length_le (by simp),e1]
  rw [e2]
  exact ⟨.int _,H,I.kept hk,⟨_,rfl⟩,q⟩
noncomputable def iSeq (K : PySem.W.Frag) (tl : TE) : TI := fun σ H R => tl σ H fun x H1 => ∃ a,x = .ref a ∧ (((∃ xs,SqL K H1 a xs) ∧ R (Itl K a) H1) ∨ ((∃ xs,SqT K H1 a xs) ∧ R (Itt K a) H1))
theorem pi_seq {tg l : Expr} {tl : TE} (hl : PE X l tl) : PI X tg l (iSeq X.K tl) := by
  intro pins s σ H R I h
  refine thn (hl pins s σ H _ I h) fun v s1 ⟨x,H1,I1,r1,a,e,q⟩ => ?_
  subst e
  cases r1
  rcases q with ⟨⟨xs,hq⟩,q⟩ | ⟨⟨xs,hq⟩,q⟩
  · have hh : PI X tg l (iList X.K fun σ' H' Q => Q (.ref a) H') → True := fun _ => trivial
    obtain ⟨its,rv,p,hz⟩ := I1.list hq
    refine wpAny_pyIter_list p.isList ?_
    refine ⟨s1.heap.objs.size,[s1.heap.objs.size],_,_,H1,rfl,I1.kept (t' := s1.toks) fun b o e => Heap.get?_push_of_some _ e,turn_list a _,⟨_,Heap.get?_push_size _ rfl,rfl,rfl⟩,fun b hb => ?_,q⟩
    have e : b = s1.heap.objs.size := by simpa using hb
    subst e
    exact I1.fpOk (Nat.le_refl _) (I1.hok.fresh (Nat.le_refl _))
  · obtain ⟨its,rv,p,hz⟩ := I1.tuple hq
    refine wpAny_pyIter_tuple (show s1.heap.IsTuple a its.toArray from p) ?_
    refine ⟨s1.heap.objs.size,[s1.heap.objs.size],_,_,H1,rfl,I1.kept (t' := s1.toks) fun b o e => Heap.get?_push_of_some _ e,turn_tuple a _,⟨_,Heap.get?_push_size _ rfl,rfl,rfl⟩,fun b hb => ?_,q⟩
    have e : b = s1.heap.objs.size := by simpa using hb
    subst e
    exact I1.fpOk (Nat.le_refl _) (I1.hok.fresh (Nat.le_refl _))
end
end L2
namespace L2
open PySem PySem.Spec PyProof.Rows
theorem closure_go {env : Env} : ∀ (names : List (Str × NameKind)) (acc : List (Str × Addr)),(∀ y ∈ names,y.2 = .free → ∃ c,env.cells.lookup y.1 = some c) → (∀ p ∈ acc,env.cells.lookup p.1 = some p.2) →
   ∃ cl,(forIn names acc fun (y : Str × NameKind) (cs : List (Str × Addr)) => match y with | (name,kind) => if (kind == .free) = true then do let a ← cellOf env name; pure (ForInStep.yield ((name,a) :: cs)) else pure (ForInStep.yield cs)) = (pure cl : Sem _) ∧ (∀ p ∈ cl,env.cells.lookup p.1 = some p.2) ∧ (∀ p ∈ acc,p ∈ cl) ∧ ∀ y ∈ names,y.2 = .free → ∃ c,(y.1,c) ∈ cl
  | [],acc,_,ha => ⟨acc,rfl,ha,fun _ h => h,fun _ h => nomatch h⟩
  | (n,k) :: r,acc,hf,ha => by
    have hr : ∀ y ∈ r,y.2 = .free → ∃ c,env.cells.lookup y.1 = some c := fun y hy => hf y (List.mem_cons_of_mem _ hy)
    by_cases hk : k = .free
    · subst hk
      obtain ⟨c,hc⟩ := hf (n,.free) List.mem_cons_self rfl
      obtain ⟨cl,e,h1,h2,h3⟩ := closure_go r ((n,c) :: acc) hr (fun p hp => by
        rcases List.mem_cons.mp hp with rfl | hp
        · exact hc
        · exact ha p hp)
      refine ⟨cl,?_,h1,fun p hp => h2 p (List.mem_cons_of_mem _ hp),fun y hy hyf => ?_⟩
      · rw [List.forIn_cons]
        simp only [beq_self_eq_true,if_true,cellOf,hc,pure_bind]
        exact e
      · rcases List.mem_cons.mp hy with rfl | hy
        · exact ⟨c,h2 _ List.mem_cons_self⟩
        · exact h3 y hy hyf
    · have hb : (k == NameKind.free) = false := by simpa using hk
      obtain ⟨cl,e,h1,h2,h3⟩ := closure_go r acc hr ha
      refine ⟨cl,?_,h1,h2,fun y hy hyf => ?_⟩
      · rw [List.forIn_cons]
        simp only [hb,Bool.false_eq_true,if_false,pure_bind]
        exact e
      · rcases List.mem_cons.mp hy with rfl | hy
        · exact absurd hyf hk
        · exact h3 y hy hyf
theorem closure_ok {env : Env} {scope : Scope} (hf : ∀ y ∈ scope.names,y.2 = .free → ∃ c,env.cells.lookup y.1 = some c) :
    ∃ cl,closureFor scope env = pure cl ∧ (∀ x c,cl.lookup x = some c → env.cells.lookup x = some c) ∧ ∀ y ∈ scope.names,y.2 = .free → ∃ c,cl.lookup y.1 = some c := by
  obtain ⟨cl,e,h1,_,h3⟩ := closure_go (env := env) scope.names [] hf (fun _ h => nomatch h)
  refine ⟨cl,?_,fun x c h => h1 (x,c) (PySem.mem_of_lookup h),fun y hy hyf => ?_⟩
  · unfold closureFor
    simp only [bind_pure_comp] at e ⊢
    rw [e]
    rfl
  · obtain ⟨c,hc⟩ := h3 y hy hyf
    cases q : cl.lookup y.1 with
    | some d => exact ⟨d,rfl⟩
    | none =>
      have z := List.lookup_eq_none_iff.mp q (y.1,c) hc
      simp at z
noncomputable def cEnv (sc : Scope) (cl : List (Str × Addr)) (C : Addr) (env : Env) : Env :=
  { scope := sc,locals := C,globals := env.globals,cells := cl,qual := env.qual,func := none,code := env.code,frame := env.frame,builtins := env.builtins }
noncomputable def cCx (X : Cx) (sc : Scope) (N : List Str) (cl : List (Str × Addr)) (C : Addr) (s₀ : Shared) (H₀ : Hp) (ex : List Addr) : Cx :=
  { X with env := cEnv sc cl C X.env,N := N,s₀ := s₀,H₀ := H₀,outer := X.stack,ex := ex,fn := fun _ => false,pn := [],xe := fun _ _ => False }
noncomputable def cst (ix : List (Option Nat)) (σ : St) : St := ix.map fun o => match o with
  | none => none
  | some i => match σ[i]? with
    | some v => v
    | none => none
noncomputable def PIf (X : Cx) (ifs : List Expr) (t : TT) : Prop :=
  ∀ (pins : List (Addr × Obj)) (s : Shared) (σ : St) (H : Hp) (Q : Bool → Hp → Prop),Inv X pins σ H s → t σ H Q →
    wpAny (model X.prog X.w) X.A (forIn ifs true fun c r => if r = true then do let ok ← isTrue c X.env (eval c X.env); pure (ForInStep.yield ok) else pure (ForInStep.yield r)) (TP X pins σ Q) X.xe s
noncomputable def tYes : TT := fun _ H Q => Q true H
theorem pif_nil {X : Cx} : PIf X [] tYes := fun _ _ _ H _ I h => wpAny_tests_nil ⟨H,I,h⟩
theorem pif_one {X : Cx} {c : Expr} {t : TT} (h : PT X c t) : PIf X [c] t := fun pins s σ H Q I q => wpAny_tests_one (h pins s σ H Q I q)
theorem codeAny_compLoop_any {prog : Program} {w : World} {A : Around} {R : Result → Shared → Prop} {s : Shared} {elt target iter : Expr} {ifs : List Expr} {scope : Scope} {pos : Pos} {it acc : Value} {env : Env} (I : Nat → Shared → Prop)
    (turn : ∀ n s,I n s → wpAny (model prog w) A (pyNext it) (fun r s₁ => match r with
      | none => R (.ok .next) s₁
      | some v => wpAny (model prog w) A (letOwnedTupleGo target it v) (fun _ s₀ => wpAny (model prog w) A (assign target env v) (fun _ s₂ =>
          wpAny (model prog w) A (forIn ifs true fun c r => if r = true then do let ok ← isTrue c env (eval c env); pure (ForInStep.yield ok) else pure (ForInStep.yield r)) (fun ok s₃ =>
            if ok = true then wpAny (model prog w) A (eval elt env) (fun x s₄ =>
              wpAny (model prog w) A (call (.builtin "list.append") [acc,x]) (fun _ s₅ => ∃ m,m < n ∧ I m s₅) (fun _ _ => False) s₄) (fun _ _ => False) s₃
            else ∃ m,m < n ∧ I m s₃) (fun _ _ => False) s₂) (fun _ _ => False) s₀) (fun _ _ => False) s₁) (fun _ _ => False) s)
    (n : Nat) (h : I n s) :
    codeAny (model prog w) A (.compLoop (.ListComp elt [⟨target,iter,ifs,0⟩] scope pos) 0 it acc env) R s := by
  refine codeAny_loop rfl I (fun n s hI => ?_) n h
  show wpAny _ A ((compTurn (.ListComp elt [⟨target,iter,ifs,0⟩] scope pos) 0 it acc env).onRaise (fun x => do noteFrame x env; theTreesLotGoes x)) _ _ s
  refine wpAny_noted ?_
  rw [compTurn_list]
  refine wpAny_bind (wpAny_standAt (wpAny_bind (wpAny_mono (turn n s hI) (fun r s₁ h₁ => ?_) fun _ _ h' => h'.elim)))
  cases r with
  | none => exact wpAny_pure h₁
  | some v =>
    refine wpAny_bind (wpAny_mono h₁ (fun _ s₀ h₀ => ?_) fun _ _ h' => h'.elim)
    refine wpAny_bind (wpAny_mono h₀ (fun _ s₂ h₂ => wpAny_bind (wpAny_mono h₂ (fun ok s₃ h₃ => ?_) fun _ _ h' => h'.elim)) fun _ _ h' => h'.elim)
    cases ok with
    | false => exact wpAny_pure ⟨rfl,h₃⟩
    | true =>
      exact wpAny_bind (wpAny_bind (wpAny_mono h₃ (fun x s₄ h₄ => wpAny_bind (wpAny_mono h₄ (fun _ s₅ h₅ => wpAny_pure (wpAny_pure ⟨rfl,h₅⟩)) fun _ _ h' => h'.elim)) fun _ _ h' => h'.elim))
structure CompK (ix : List (Option Nat)) (g : TG) (tc : TT) (te : TE) (σ : St) (Q : VK) (J : It) (H1 : Hp) : Prop where
  go : ∀ D,H1 D = none → ∃ W : Nat → Nat → St → Hp → Prop,(∃ m,W 0 m (cst ix σ) (upd H1 D (.lst []))) ∧
    ∀ i m σ' H',W i m σ' H' → (J.stop i H' ∧ Q (.ref D) H') ∨ (J.go i H' ∧ ∀ x H2,J.yld i H' x H2 → g x σ' H2 fun σ3 H3 => tc σ3 H3 fun b H4 =>
      if b = true then te σ3 H4 fun y H5 => ∃ ys,H5 D = some (.lst ys) ∧ ys.length < sizeLine ∧ ∃ m',m' < m ∧ W (i + 1) m' σ3 (upd H5 D (.lst (ys ++ [y])))
      else ∃ m',m' < m ∧ W (i + 1) m' σ3 H4)
noncomputable def tComp (ix : List (Option Nat)) (wi : TI) (g : TG) (tc : TT) (te : TE) : TE := fun σ H Q => wi σ H fun J H1 => CompK ix g tc te σ Q J H1
structure CompOk (X : Cx) (scope sc : Scope) (N : List Str) (ix : List (Option Nat)) : Prop where
  rel : relabel scope X.env = sc
  kind : scope.kind = .function
  cell : ∀ y ∈ scope.names,y.2 ≠ .cell
  names : ∀ x ∈ scope.names,x.2 = .local → scope.names.lookup x.1 = some .local
  free : ∀ y ∈ scope.names,y.2 = .free → X.env.kindOf y.1 = some .cell ∨ X.env.kindOf y.1 = some .free
  len : N.length = ix.length
  ix : ∀ (j : Nat) (x : Str) (i : Nat),N[j]? = some x → ix[j]? = some (some i) → X.N[i]? = some x ∧ (x,NameKind.free) ∈ scope.names ∧ (sc.names.lookup x = some .cell ∨ sc.names.lookup x = some .free)
  has : ∀ x,(sc.names.lookup x = some .cell ∨ sc.names.lookup x = some .free) → (x,NameKind.free) ∈ scope.names
theorem comp_core {X : Cx} {tg iter elt : Expr} {ifs : List Expr} {scope sc : Scope} {pos ip : Pos} {wi : TI} {g : TG} {tc : TT} {te : TE} {N : List Str} {ix : List (Option Nat)} (O : CompOk X scope sc N ix) (hc : X.calm = true) (hi : PI X tg iter wi)
    (hb : ∀ cl C s₀ H₀ ex,PG (cCx X sc N cl C s₀ H₀ ex) tg g ∧ PIf (cCx X sc N cl C s₀ H₀ ex) ifs tc ∧ PE (cCx X sc N cl C s₀ H₀ ex) elt te) (hs : ∀ x,foldedSetIterable iter X.env x = pure x)
    {use : Option (Value → Sem Unit)} {QQ : Value → Shared → Prop} {pins : List (Addr × Obj)} {s : Shared} {σ : St} {H : Hp} {Q : VK} (I : Inv X pins σ H s) (h : tComp ix wi g tc te σ H Q)
    (fin : ∀ (D C : Addr) (s6 : Shared) (H5 : Hp) (m : Str → Option Value),Inv X pins σ H5 s6 → s6.heap.Ns C m → FpOk X pins H5 C → Q (.ref D) H5 → compPost (model X.prog X.w) X.A X.xe use QQ (.ref D) C (.ok .next) s6) :
    wpAny (model X.prog X.w) X.A (comprehension (.ListComp elt [⟨tg,iter,ifs,0⟩] scope pos) scope X.env ip (newList []) false (eval iter X.env) use) QQ X.xe s := by
  have hcl : ∃ cl,closureFor scope X.env = pure cl ∧ (∀ x c,cl.lookup x = some c → X.env.cells.lookup x = some c) ∧ ∀ y ∈ scope.names,y.2 = .free → ∃ c,cl.lookup y.1 = some c :=
    closure_ok fun y hy hf => I.ok.has y.1 (O.free y hy hf)
  obtain ⟨cl,ecl,hcl1,hcl2⟩ := hcl
  refine wpAny_comprehension_free (use := use) rfl hs ecl O.kind O.names (thn (hi pins s σ H _ I h) fun v s1 h1 => thn h1 fun itv s2 h2 => ?_)
  obtain ⟨it,fp,tn,J,H2,e,I2,T,st2,f2,q2⟩ := h2
  subst e
  obtain ⟨W,⟨m0,w0⟩,turn⟩ := q2.go s2.heap.objs.size I2.fresh
  refine wpAny_newObj_type ?_
  have I3 := I2.lnew (its := []) (t' := s2.toks) (ys := []) .nil (Nat.zero_le _)
  generalize eH3 : upd H2 s2.heap.objs.size (.lst []) = H3 at I3 w0
  have eD : H3 s2.heap.objs.size = some (.lst []) := by rw [← eH3]; exact upd_same
  have hfp2 : ∀ b ∈ fp,b ≠ s2.heap.objs.size := fun b hb z => by
    obtain ⟨o,ho,_⟩ := T.obj _ _ st2 b hb
    exact absurd (Heap.lt_size ho) (by rw [z]; exact Nat.lt_irrefl _)
  have st3 : tn 0 (s2.heap.push { cls := .type "list",dict := none,data := .seq ([] : List Value).toArray }) := T.keep _ _ _ st2 fun b _ o e => Heap.get?_push_of_some _ e
  have f3 : ∀ b ∈ fp,FpOk X pins H3 b := fun b hb => ⟨by rw [← eH3,upd_ne (hfp2 b hb)]; exact (f2 b hb).1,(f2 b hb).2⟩
  generalize es3 : ({ s2 with heap := s2.heap.push { cls := .type "list",dict := none,data := .seq ([] : List Value).toArray },toks := s2.toks } : Shared) = s3 at I3
  have st3' : tn 0 s3.heap := by rw [← es3]; exact st3
  refine wpAny_newFunctionEnv O.cell (fun y hy => nomatch hy) (fun h4 hns4 hsb4 => ?_) O.kind
  have keep4 : ∀ b o,s3.heap.get? b = some o → h4.get? b = some o := fun b o e => (hsb4.2 b (Nat.ne_of_lt (Heap.lt_size e))).trans (Heap.get?_push_of_some _ e)
  have I4 : Inv X pins σ H3 { s3 with heap := h4,toks := s3.toks + ([] : List (Str × Value)).length } := I3.kept keep4
  have eenv : ({ newEnv scope s3.heap.objs.size X.env.globals cl X.env.qual none .none (some X.env) builtinsNs with scope := relabel scope X.env } : Env) = cEnv sc cl s3.heap.objs.size X.env := by rw [O.rel]; rfl
  rw [eenv]
  show codeAny _ _ _ (compPost (model X.prog X.w) X.A X.xe use QQ (.ref s2.heap.objs.size) s3.heap.objs.size) _
  generalize eC : s3.heap.objs.size = C
  generalize es4 : ({ s3 with heap := h4,toks := s3.toks + ([] : List (Str × Value)).length } : Shared) = s4 at I4
  have h4s : s4.heap = h4 := by rw [← es4]
  have o4s : s4.os = s3.os := by rw [← es4]
  have fC : ∀ b ∈ fp,b ≠ C := fun b hb z => by
    obtain ⟨o,ho,_⟩ := T.obj _ _ st3' b hb
    exact absurd (Heap.lt_size ho) (by rw [z,eC]; exact Nat.lt_irrefl _)
  have okC : (cCx X sc N cl C s3 H3 fp).Ok := by
    refine ⟨I3.ok.mod,?_,I3.ok.glob,I3.ok.blt,Nat.le_of_eq eC,fun x y c h1 h2 => I3.ok.inj x y c (hcl1 x c h1) (hcl1 y c h2),fun x hx => ?_,fun x c z _ => (nomatch z),I3.ok.hd,I3.ok.frames,.inl rfl,fun b hb => ⟨fC b hb,fun x c e => (f3 b hb).2.2.2.2.1 x c (hcl1 x c e)⟩,
      I3.bs,Nat.le_trans I3.ok.bsz I3.sz,fun b o e hb => ?_,fun b hb z => ?_,I3.stack,I3.stkFree⟩
    · show sc.kind = .function
      rw [← O.rel]; exact O.kind
    · exact hcl2 (x,.free) (O.has x hx) rfl
    · rcases (f3 b hb).2.2.2.1 with z | z
      · exact I3.ok.noex b o e z
      · exact absurd (Nat.lt_of_lt_of_le (Heap.lt_size e) (Nat.le_trans I3.ok.bsz z)) (Nat.lt_irrefl _)
    · rcases List.mem_cons.mp (I3.stkSub b z) with z | z
      · exact (f3 b hb).2.1 z
      · exact (f3 b hb).2.2.1 z
  have IC : Inv (cCx X sc N cl C s3 H3 fp) [] (cst ix σ) H3 s4 := by
    refine ⟨okC,o4s,I4.bare,?_,?_,fun x c e => I4.cell x c (hcl1 x c e),?_,fun x c e => I4.freeC x c (hcl1 x c e),fun p hp => (nomatch hp),I4.hok,?_⟩
    · rw [h4s]
      exact Un.kept keep4
    · refine ⟨_,by rw [h4s,← eC]; exact hns4,fun j x v e1 e2 e3 => ?_⟩
      have e2' : (cst ix σ)[j]? = some (some v) := e2
      unfold cst at e2'
      rw [List.getElem?_map] at e2'
      cases q : ix[j]? with
      | none => rw [q] at e2'; cases e2'
      | some o =>
        rw [q] at e2'
        cases o with
        | none => cases e2'
        | some i =>
          obtain ⟨hx,hm,hsc⟩ := O.ix j x i e1 q
          cases q2 : σ[i]? with
          | none => simp [q2] at e2'
          | some w' =>
            simp [q2] at e2'
            subst e2'
            obtain ⟨m,hn,hl⟩ := I4.loc
            have kf := O.free (x,.free) hm rfl
            have vis : Vis X.env.scope x := by
              rcases kf with k | k
              · exact .inr (.inl k)
              · exact .inr (.inr k)
            obtain ⟨u,r,l⟩ := hl i x v hx q2 vis
            refine ⟨u,r,?_⟩
            rcases l with ⟨k,_⟩ | ⟨_,c,e,z⟩
            · rcases kf with k' | k'
              · rw [k] at k'; cases k'
              · rw [k] at k'; cases k'
            · obtain ⟨c',e'⟩ := hcl2 (x,.free) hm rfl
              have := hcl1 x c' e'
              rw [e] at this; cases this
              exact .inr ⟨hsc,c,e',z⟩
    · rw [← eC]
      exact I3.fresh
    · show (cst ix σ).length = N.length
      rw [O.len]; simp [cst]
  have st4 : tn 0 s4.heap := T.keep _ _ _ st3' fun b _ o e => by rw [h4s]; exact keep4 b o e
  have stat : ∀ {H' : Hp},(∀ b ∈ fp,H' b = none) → ∀ b ∈ fp,FpOk (cCx X sc N cl C s3 H3 fp) [] H' b := fun hn b hb =>
    ⟨hn b hb,fC b hb,okC.exfs b hb,.inl hb,fun x c e => (f3 b hb).2.2.2.2.1 x c (hcl1 x c e),fun p hp => (nomatch hp)⟩
  obtain ⟨hg,ht,he⟩ := hb cl C s3 H3 fp
  have loop : codeAny (model X.prog X.w) X.A (.compLoop (.ListComp elt [⟨tg,iter,ifs,0⟩] scope pos) 0 (.ref it) (.ref s2.heap.objs.size) (cEnv sc cl C X.env))
      (compPost (model X.prog X.w) X.A X.xe use QQ (.ref s2.heap.objs.size) C) s4 := by
    refine codeAny_compLoop_any (fun n s' => ∃ i σ' H',Inv (cCx X sc N cl C s3 H3 fp) [] σ' H' s' ∧ tn i s'.heap ∧ (∀ b ∈ fp,H' b = none) ∧ W i n σ' H') ?_ m0 ⟨0,cst ix σ,H3,IC,st4,fun b hb => (f3 b hb).1,w0⟩
    rintro n s5 ⟨i,σ5,H5,I5,st5,fr5,w5⟩
    rcases turn i n σ5 H5 w5 with ⟨stop,qn⟩ | ⟨go,step⟩
    · refine thn (T.done (cCx X sc N cl C s3 H3 fp) rfl rfl rfl hc i [] s5 σ5 H5 (fun _ _ => False) I5 (stat fr5) st5 stop) fun r s6 ⟨hr,I6⟩ => ?_
      subst hr
      obtain ⟨m,hn,_⟩ := id I6.loc
      have I7 : Inv X pins σ H5 s6 := I3.call' (ch := fp) I6.os I6.base I6.hok I6.bare fun b hb => ⟨(f3 b hb).2.2.2.1,(f3 b hb).2.1,(f3 b hb).2.2.2.2.1,(f3 b hb).2.2.2.2.2⟩
      exact fin _ C s6 H5 m I7 hn (I3.fpOk (Nat.le_of_eq eC) I6.free) qn
    · refine thn (T.item (cCx X sc N cl C s3 H3 fp) rfl rfl rfl hc i [] s5 σ5 H5 (fun _ _ => False) I5 (stat fr5) st5 go) fun r s6 ⟨u,hr,h6⟩ => ?_
      subst hr
      refine thn h6 fun _ s7 ⟨x,H7,I7,r7,y7,st7,fr7⟩ => ?_
      have I7' := I7.pinned (stat fr7) (T.obj _ _ st7)
      have again : ∀ {σ9 : St} {H9 : Hp} {s9 : Shared} {m' : Nat},Inv (cCx X sc N cl C s3 H3 fp) ([] ++ pinsAt fp s7.heap) σ9 H9 s9 → m' < n → W (i + 1) m' σ9 H9 →
          ∃ m,m < n ∧ ∃ i σ' H',Inv (cCx X sc N cl C s3 H3 fp) [] σ' H' s9 ∧ tn i s9.heap ∧ (∀ b ∈ fp,H' b = none) ∧ W i m σ' H' := fun {σ9 H9 s9 m'} I9 hm w9 => by
        refine ⟨m',hm,i + 1,σ9,H9,I9.unpinned,T.keep _ _ _ st7 fun b hb o e => (I9.pin (b,o) (List.mem_append_right _ (List.mem_append_right _ (mem_pinsAt hb e)))).1,fun b hb => ?_,w9⟩
        obtain ⟨o,e,d⟩ := T.obj _ _ st7 b hb
        exact (I9.pin (b,o) (List.mem_append_right _ (List.mem_append_right _ (mem_pinsAt hb e)))).2.1
      refine thn (hg _ s7 σ5 H7 x u _ I7' r7 (step x H7 y7)) fun _ s8 ⟨σ8,H8,I8,q8⟩ => ?_
      refine thn (ht _ s8 σ8 H8 _ I8 q8) fun b s9 ⟨H9,I9,q9⟩ => ?_
      cases b with
      | false =>
        rw [if_neg Bool.false_ne_true] at q9
        obtain ⟨m',hm,w9⟩ := q9
        rw [if_neg Bool.false_ne_true]
        exact again I9 hm w9
      | true =>
        rw [if_pos rfl] at q9
        rw [if_pos rfl]
        refine thn (he _ s9 σ8 H9 _ I9 q9) fun y s10 ⟨yv,H10,I10,r10,ys,e10,z10,m',hm,w10⟩ => ?_
        refine thn (mt_append _ s10 σ8 H10 (.ref s2.heap.objs.size) [yv] (.ref s2.heap.objs.size) [y] (fun _ H' => W (i + 1) m' σ8 H') I10 rfl (.cons r10 .nil) ⟨_,ys,yv,rfl,rfl,e10,z10,w10⟩) fun _ s11 ⟨_,H11,I11,_,w11⟩ => ?_
        exact again I11 hm w11
  exact codeAny_compStart_list loop (T.self _ _ _ _ _ st4 loop)
theorem pe_comp {X : Cx} {tg iter elt : Expr} {ifs : List Expr} {scope sc : Scope} {pos : Pos} {wi : TI} {g : TG} {tc : TT} {te : TE} {N : List Str} {ix : List (Option Nat)} (O : CompOk X scope sc N ix) (hc : X.calm = true) (hi : PI X tg iter wi)
    (hb : ∀ cl C s₀ H₀ ex,PG (cCx X sc N cl C s₀ H₀ ex) tg g ∧ PIf (cCx X sc N cl C s₀ H₀ ex) ifs tc ∧ PE (cCx X sc N cl C s₀ H₀ ex) elt te)
    (hs : ∀ x,foldedSetIterable iter X.env x = pure x := by intro _; rfl) : PE X (.ListComp elt [⟨tg,iter,ifs,0⟩] scope pos) (tComp ix wi g tc te) := by
  intro pins s σ H Q I h
  rw [eval_ListComp]
  exact comp_core (use := none) (QQ := EP X pins σ Q) O hc hi hb hs I h fun D C s6 H5 m I7 hn f q => ⟨m,hn,fun h' hs' => ⟨.ref D,H5,I7.turned (it := C) (t' := s6.toks) (fun b o hb e => (hs'.2 b hb).trans e) f.1 f.2.1 f.2.2.2.1 f.2.2.2.2.1 f.2.2.2.2.2,rfl,q⟩⟩
theorem ps_setC {X : Cx} {i : Nat} {y : Str} {py spos : Pos} {tg iter elt : Expr} {ifs : List Expr} {scope sc : Scope} {pos : Pos} {wi : TI} {g : TG} {tc : TT} {te : TE} {N : List Str} {ix : List (Option Nat)} (hN : X.N.Nodup) (hi' : X.N[i]? = some y) (hx : Loc X.env.scope y)
    (O : CompOk X scope sc N ix) (hc : X.calm = true) (hi : PI X tg iter wi)
    (hb : ∀ cl C s₀ H₀ ex,PG (cCx X sc N cl C s₀ H₀ ex) tg g ∧ PIf (cCx X sc N cl C s₀ H₀ ex) ifs tc ∧ PE (cCx X sc N cl C s₀ H₀ ex) elt te)
    (hs : ∀ x,foldedSetIterable iter X.env x = pure x := by intro _; rfl) (hsw : swapsWith (.ListComp elt [⟨tg,iter,ifs,0⟩] scope pos) (some (.Name y py)) spos.line X.env = pure true := by rfl)
    (hf : X.fn y = true ∨ X.env.scope.names.lookup y = some .local := by first | exact .inl rfl | exact .inr rfl | assumption) :
    PS X (.Assign [.Name y py] (.ListComp elt [⟨tg,iter,ifs,0⟩] scope pos) spos) (tAsg (tComp ix wi g tc te) (gName i)) := by
  intro pins s σ H D I h
  rw [exec_Assign_Name_used _ _ _ _ hsw]
  refine wpAny_bind (wpAny_standAt (wpAny_bind ?_))
  show wpAny _ X.A (do let _ ← comprehension (.ListComp elt [⟨tg,iter,ifs,0⟩] scope pos) scope X.env _ (newList []) false (eval iter X.env) (some (assign (.Name y py) X.env))) _ _ s
  refine wpAny_bind (wpAny_mono (comp_core (use := some (assign (.Name y py) X.env)) (QQ := fun _ s' => ∃ σ' H',Inv X pins σ' H' s' ∧ D.nx σ' H') O hc hi hb hs I h fun D1 C s6 H5 m I7 hn f q => ?_) (fun _ s' ⟨σ',H',I',q'⟩ => wpAny_pure (wpAny_pure ⟨σ',H',I',q'⟩)) fun _ _ e => e)
  obtain ⟨o,es,ep,ho,hc1,hc2⟩ := id hn
  have I8 := I7.pinned (fp := [C]) (fun b hb => by
    have e : b = C := by simpa using hb
    subst e; exact f) (fun b hb => by
    have e : b = C := by simpa using hb
    subst e; exact ⟨o,ho,fun v z => by first | (rw [hc1.2] at z; cases z) | (rw [hc2.1] at z; cases z) | (rw [hc1] at z; cases z) | (simp_all)⟩)
  show wpAny _ X.A (assign (.Name y py) X.env (.ref D1)) _ _ _
  refine wpAny_assign_Name (store_ok I8 hN hi' hx (v := .ref D1) rfl (fun s7 I9 => ?_) hf)
  have hC := (I9.pin (C,o) (List.mem_append_right _ (List.mem_append_right _ (mem_pinsAt (by simp) ho)))).1
  refine ⟨m,⟨o,es,ep,hC,hc1,hc2⟩,fun h' hs' => ⟨_,H5,I9.unpinned.turned (it := C) (t' := s7.toks) (fun b o hb e => (hs'.2 b hb).trans e) f.1 f.2.1 f.2.2.2.1 f.2.2.2.2.1 f.2.2.2.2.2,q⟩⟩
end L2
namespace L2
open PySem PySem.Spec PyProof.Rows
mutual
inductive RdD (K : PySem.W.Frag) (H : Hp) : V → PyData → Prop
  | non : RdD K H .non .none
  | bl (b : Bool) : RdD K H (.bl b) (.bool b)
  | int (i : Int) : RdD K H (.int i) (.int i)
  | str (x : Str) : RdD K H (.str x) (.str x)
  | lst {a : Addr} {xs : List V} {ds : List PyData} : SqL K H a xs → RdDs K H xs ds → RdD K H (.ref a) (.list ds)
  | tup {a : Addr} {xs : List V} {ds : List PyData} : SqT K H a xs → RdDs K H xs ds → RdD K H (.ref a) (.tuple ds)
inductive RdDs (K : PySem.W.Frag) (H : Hp) : List V → List PyData → Prop
  | nil : RdDs K H [] []
  | cons {x : V} {d : PyData} {xs : List V} {ds : List PyData} : RdD K H x d → RdDs K H xs ds → RdDs K H (x :: xs) (d :: ds)
end
section
variable {X : Cx} {pins : List (Addr × Obj)} {σ : St} {H : Hp} {s : Shared}
mutual
theorem Inv.reads (I : Inv X pins σ H s) : ∀ {x : V} {d : PyData} {u : Value},RdD X.K H x d → RelV x u → ∃ as,Reads s.heap u d as
  | _,_,_,.non,r => by cases r; exact ⟨_,.none⟩
  | _,_,_,.bl b,r => by cases r; exact ⟨_,.bool b⟩
  | _,_,_,.int i,r => by obtain ⟨t,rfl⟩ := r; exact ⟨_,.int i t⟩
  | _,_,_,.str x,r => by obtain ⟨t,rfl⟩ := r; exact ⟨_,.str x t⟩
  | _,_,_,.lst hq hs,r => by
    cases r
    obtain ⟨its,rv,pl,_⟩ := I.list hq
    obtain ⟨as,ra⟩ := Inv.readsAll I hs rv
    obtain ⟨o,ho,hc,n,hd⟩ := pl.isList
    exact ⟨_,.list ho hc hd (by simpa using ra)⟩
  | _,_,_,.tup hq hs,r => by
    cases r
    obtain ⟨its,rv,pl,_⟩ := I.tuple hq
    obtain ⟨as,ra⟩ := Inv.readsAll I hs rv
    obtain ⟨o,ho,hc,n,hd⟩ := pl
    exact ⟨_,.tuple ho hc hd (by simpa using ra)⟩
theorem Inv.readsAll (I : Inv X pins σ H s) : ∀ {xs : List V} {ds : List PyData} {us : List Value},RdDs X.K H xs ds → Vals xs us → ∃ as,ReadsAll s.heap us ds as
  | _,_,_,.nil,.nil => ⟨_,.nil⟩
  | _,_,_,.cons h1 h2,.cons r1 r2 => by
    obtain ⟨as,a⟩ := Inv.reads I h1 r1
    obtain ⟨bs,b⟩ := Inv.readsAll I h2 r2
    exact ⟨_,.cons a b⟩
end
theorem RdDs.ints {K : PySem.W.Frag} {H : Hp} : ∀ ns : List Int,RdDs K H (ns.map V.int) (ns.map PyData.int)
  | [] => .nil
  | n :: r => .cons (.int n) (RdDs.ints r)
noncomputable def dictHits (kb : List (Key × V)) : List (Key × V) → Bool
  | [] => true
  | (k,v) :: r => match valV kb k with
    | none => false
    | some y => eqV v y && dictHits kb r
theorem hits_of {A : Around} {kb : List (Key × V)} {vb : List (Key × Value)} (hb : KV kb vb) (fb : kb.all (fun p => flatV p.2) = true) : ∀ {ka : List (Key × V)} {va : List (Key × Value)},KV ka va → ka.all (fun p => flatV p.2) = true →
    PySem.W.KeqHits A s vb va (dictHits kb ka)
  | [],_,.nil,_ => .nil
  | (k,v) :: r,(k',v') :: r',.cons ⟨e,rv⟩ t,f => by
    cases (show k = k' from e)
    rw [List.all_cons,Bool.and_eq_true] at f
    have hv := KV.val hb k
    cases q : valV kb k with
    | none =>
      have hn : valueAt vb k = none := RelO.none_of (by rw [q] at hv; exact hv)
      have e2 : dictHits kb ((k,v) :: r) = false := by simp [dictHits,q]
      rw [e2]
      exact .miss hn
    | some y =>
      rw [q] at hv
      obtain ⟨u,hu,ru⟩ := RelO.some_of hv
      have fy : flatV y = true := by
        unfold valV at q
        cases q2 : kb.find? (fun kv => decide (kv.1 = k)) with
        | none => rw [q2] at q; cases q
        | some p =>
          rw [q2] at q; cases q
          exact List.all_eq_true.mp fb p (List.mem_of_find?_eq_some q2)
      have e2 : dictHits kb ((k,v) :: r) = (eqV v y && dictHits kb r) := by simp [dictHits,q]
      rw [e2]
      exact .hit hu (eqAt_V rv ru f.1 fy) (hits_of hb fb t f.2)
end
section
variable {X : Cx}
noncomputable def rEqV (K : PySem.W.Frag) (g : Bool → Bool) : R2 := fun x y H Q => match x,y with
  | .int i,.int j => Q (.bl (g (decide (i = j)))) H
  | .bl i,.bl j => Q (.bl (g (decide (i = j)))) H
  | .str i,.str j => Q (.bl (g (decide (i = j)))) H
  | .non,.non => Q (.bl (g true)) H
  | .ref a,.ref b => (∃ d e,RdD K H (.ref a) d ∧ RdD K H (.ref b) e ∧ SeqAt.shaped d = true ∧ SeqAt.shaped e = true ∧ Q (.bl (g (PyData.eqv d e))) H) ∨
      (∃ ka kb,H a = some (.dK ka) ∧ H b = some (.dK kb) ∧ ka.all (fun p => flatV p.2) = true ∧ kb.all (fun p => flatV p.2) = true ∧ Q (.bl (g (ka.length == kb.length && dictHits kb ka))) H)
  | .non,.ref _ => False
  | .ref _,.non => False
  | x,y => scal x y = true ∧ Q (.bl (g (decide (x = y)))) H
theorem op_eqD {k : Nat} (hr : Room k X.A) : OpR X (compareOp .Eq) (fun x y H Q => ∃ d e,RdD X.K H x d ∧ RdD X.K H y e ∧ SeqAt.shaped d = true ∧ SeqAt.shaped e = true ∧ Q (.bl (PyData.eqv d e)) H) := by
  intro pins s σ H x y v u Q I rx ry h
  obtain ⟨d,e,h1,h2,h3,h4,q⟩ := h
  obtain ⟨as,ra⟩ := I.reads h1 rx
  obtain ⟨bs,rb⟩ := I.reads h2 ry
  exact eq_dataH ra rb h3 h4 hr.units ⟨.bl _,H,I,rfl,q⟩
theorem op_neD {k : Nat} (hr : Room k X.A) : OpR X (compareOp .NotEq) (fun x y H Q => ∃ d e,RdD X.K H x d ∧ RdD X.K H y e ∧ SeqAt.shaped d = true ∧ SeqAt.shaped e = true ∧ Q (.bl (!PyData.eqv d e)) H) := by
  intro pins s σ H x y v u Q I rx ry h
  obtain ⟨d,e,h1,h2,h3,h4,q⟩ := h
  obtain ⟨as,ra⟩ := I.reads h1 rx
  obtain ⟨bs,rb⟩ := I.reads h2 ry
  exact ne_dataH ra rb h3 h4 hr.units ⟨.bl _,H,I,rfl,q⟩
theorem op_eqK {k : Nat} (hr : Room k X.A) : OpR X (compareOp .Eq) (fun x y H Q => ∃ a b ka kb,x = .ref a ∧ y = .ref b ∧ H a = some (.dK ka) ∧ H b = some (.dK kb) ∧ ka.all (fun p => flatV p.2) = true ∧ kb.all (fun p => flatV p.2) = true ∧ Q (.bl (ka.length == kb.length && dictHits kb ka)) H) := by
  intro pins s σ H x y v u Q I rx ry h
  obtain ⟨a,b,ka,kb,rfl,rfl,h1,h2,h3,h4,q⟩ := h
  cases rx; cases ry
  obtain ⟨_,ea,va,ra,da⟩ : ka.length ≤ sizeLine ∧ (a == sysModules) = false ∧ ∃ vs,KV ka vs ∧ s.heap.DictOf (mixKind X.prog X.w) a vs := I.hok a _ h1
  obtain ⟨_,eb,vb,rb,db⟩ : kb.length ≤ sizeLine ∧ (b == sysModules) = false ∧ ∃ vs,KV kb vs ∧ s.heap.DictOf (mixKind X.prog X.w) b vs := I.hok b _ h2
  refine PySem.W.keq_eq ea eb da db hr.units0 (fun _ => hits_of rb h4 ra h3) ⟨.bl _,H,I,?_,q⟩
  show _ = Value.bool _
  rw [Paired.length ra,Paired.length rb]
theorem op_neK {k : Nat} (hr : Room k X.A) : OpR X (compareOp .NotEq) (fun x y H Q => ∃ a b ka kb,x = .ref a ∧ y = .ref b ∧ H a = some (.dK ka) ∧ H b = some (.dK kb) ∧ ka.all (fun p => flatV p.2) = true ∧ kb.all (fun p => flatV p.2) = true ∧ Q (.bl (!(ka.length == kb.length && dictHits kb ka))) H) := by
  intro pins s σ H x y v u Q I rx ry h
  obtain ⟨a,b,ka,kb,rfl,rfl,h1,h2,h3,h4,q⟩ := h
  cases rx; cases ry
  obtain ⟨_,ea,va,ra,da⟩ : ka.length ≤ sizeLine ∧ (a == sysModules) = false ∧ ∃ vs,KV ka vs ∧ s.heap.DictOf (mixKind X.prog X.w) a vs := I.hok a _ h1
  obtain ⟨_,eb,vb,rb,db⟩ : kb.length ≤ sizeLine ∧ (b == sysModules) = false ∧ ∃ vs,KV kb vs ∧ s.heap.DictOf (mixKind X.prog X.w) b vs := I.hok b _ h2
  refine PySem.W.keq_ne ea eb da db hr.units0 (fun _ => hits_of rb h4 ra h3) ⟨.bl _,H,I,?_,q⟩
  show _ = Value.bool _
  rw [Paired.length ra,Paired.length rb]
theorem dec_i {i j : Int} : decide (V.int i = V.int j) = decide (i = j) := by simp
theorem dec_b {i j : Bool} : decide (V.bl i = V.bl j) = decide (i = j) := by simp
theorem dec_s {i j : Str} : decide (V.str i = V.str j) = decide (i = j) := by simp
theorem v_eq {k : Nat} (hr : Room k X.A) : OpR X (compareOp .Eq) (rEqV X.K id) := by
  refine (op_eq.or ((op_eqD hr).or (op_eqK hr))).imp fun x y H Q h => ?_
  unfold rEqV at h
  split at h
  · exact .inl ⟨rfl,by rw [dec_i]; exact h⟩
  · exact .inl ⟨rfl,by rw [dec_b]; exact h⟩
  · exact .inl ⟨rfl,by rw [dec_s]; exact h⟩
  · exact .inl ⟨rfl,by rw [decide_eq_true rfl]; exact h⟩
  · rcases h with ⟨d,e,h⟩ | ⟨ka,kb,h⟩
    · exact .inr (.inl ⟨d,e,h⟩)
    · exact .inr (.inr ⟨_,_,ka,kb,rfl,rfl,h⟩)
  · exact h.elim
  · exact h.elim
  · exact .inl h
theorem v_ne {k : Nat} (hr : Room k X.A) : OpR X (compareOp .NotEq) (rEqV X.K not) := by
  refine (op_ne.or ((op_neD hr).or (op_neK hr))).imp fun x y H Q h => ?_
  unfold rEqV at h
  split at h
  · exact .inl ⟨rfl,by rw [dec_i]; exact h⟩
  · exact .inl ⟨rfl,by rw [dec_b]; exact h⟩
  · exact .inl ⟨rfl,by rw [dec_s]; exact h⟩
  · exact .inl ⟨rfl,by rw [decide_eq_true rfl]; exact h⟩
  · rcases h with ⟨d,e,h⟩ | ⟨ka,kb,h⟩
    · exact .inr (.inl ⟨d,e,h⟩)
    · exact .inr (.inr ⟨_,_,ka,kb,rfl,rfl,h⟩)
  · exact h.elim
  · exact h.elim
  · exact .inl h
end
end L2
namespace PySem.SeqAt
open AutoSeq1 (wpAny_loadPart')
open MeetsSeq MeetsSeq2 MeetsSeq3 SeqRoads2
section
variable {A : Around} {s : Shared}
end
end PySem.SeqAt
namespace L2
open PySem PySem.Spec PyProof.Rows
section
variable {X : Cx}
end
theorem boot_sum : bootBuiltins "sum" = some (.builtin "sum") := by decide +kernel
theorem boot_max : bootBuiltins "max" = some (.builtin "max") := by decide +kernel
theorem boot_tuple : bootBuiltins "tuple" = some (.type "tuple") := by decide +kernel
theorem boot_list : bootBuiltins "list" = some (.type "list") := by decide +kernel
structure Fn (K : PySem.W.Frag) (mg : Str → Option Value) (x : Str) (st : Stmt) (ps : List Str) : Prop where
  ex : ∃ (f : Addr) (fd : FuncData),Fun K x x st f fd ∧ mg x = some (.ref f) ∧ Binds K fd ps []
theorem Fn.cal {P : Program} {w : World} {K : PySem.W.Frag} {mg : Str → Option Value} {base : Heap} {x : Str} {st : Stmt} {N ps : List Str} {k : Nat} {sp : Sp} (F : Fn K mg x st ps) (S : FnScope N ps (defScope st)) (len : ∀ vs H Q E,sp vs H Q E → vs.length = ps.length)
    (hbody : ∀ (f : Addr) (cdv : Value) (A : Around) (outer : List Env) (s : Shared) (H : Hp) (vs : List V) (Q : VK) (E : XK),Room k (A.deeper (envOfC x (defScope st) s.heap.objs.size f cdv)) → sp vs H Q E →
      ∃ t,PSs (cxF P w K mg base N x (defScope st) f cdv A outer s H E).nox (defBody st) t ∧ t { nx := fun _ H' => Q .non H',rt := Q } (start N vs) H) : Cal P w K mg base x (k + 1) ps sp := by
  obtain ⟨f,fd,F,m,b⟩ := F.ex
  exact ⟨f,fd,m,F.kp,b,F.okN S len fun cdv A outer s H vs Q E hr h => hbody f cdv A outer s H vs Q E hr h⟩
theorem Fn.calF {P : Program} {w : World} {K : PySem.W.Frag} {mg : Str → Option Value} {base : Heap} {x : Str} {st : Stmt} {N ps : List Str} {k : Nat} {sp : Sp} (F : Fn K mg x st ps) (S : FnScope N ps (defScope st)) (len : ∀ vs H Q E,sp vs H Q E → vs.length = ps.length)
    (hbody : ∀ (f : Addr) (cdv : Value) (A : Around) (outer : List Env) (s : Shared) (H : Hp) (vs : List V) (Q : VK) (E : XK),Room k (A.deeper (envOfC x (defScope st) s.heap.objs.size f cdv)) → sp vs H Q E →
      ∃ t,PSs (cxF P w K mg base N x (defScope st) f cdv A outer s H E) (defBody st) t ∧ t { nx := fun _ H' => Q .non H',rt := Q } (start N vs) H) : Cal P w K mg base x (k + 1) ps sp := by
  obtain ⟨f,fd,F,m,b⟩ := F.ex
  exact ⟨f,fd,m,F.kp,b,F.okF S len fun cdv A outer s H vs Q E hr h => hbody f cdv A outer s H vs Q E hr h⟩
theorem Same.new {H : Hp} {p : Addr} (h : H p = none) (o : HO) : Same H (upd H p o) := fun b u q => by rw [upd_ne (ne_of_none q h)]; exact q
theorem Same.upd {H H' : Hp} {p : Addr} (g : Same H H') (h : H p = none) (o : HO) : Same H (L2.upd H' p o) := fun b u q => by rw [upd_ne (ne_of_none q h)]; exact g b u q
theorem Same.seqT {K : PySem.W.Frag} {H H' : Hp} {a : Addr} {xs : List V} (e : Same H H') (h : SqT K H a xs) : SqT K H' a xs := by
  rcases h with (h | ⟨o,h⟩) | h
  · exact .inl (.inl (e _ _ h))
  · exact .inl (.inr ⟨o,e _ _ h⟩)
  · exact .inr h
theorem mulL {i j : Int} (h1 : -(2 ^ 64) < i) (h2 : i < 2 ^ 64) : IntMulOk i j := .of_left (intBits_le_64 h1 h2)
theorem mulR {i j : Int} (h1 : -(2 ^ 64) < j) (h2 : j < 2 ^ 64) : IntMulOk i j := .of_right (intBits_le_64 h1 h2)
theorem comp_mk {X : Cx} {scope sc : Scope} {N : List Str} {ix : List (Option Nat)} (sc' : relabel scope X.env = sc) (kind : scope.kind = .function) (cell : scope.names.all (fun y => y.2 != .cell) = true)
    (names : scope.names.all (fun x => x.2 != .local || scope.names.lookup x.1 == some .local) = true)
    (free : scope.names.all (fun y => y.2 != .free || (X.env.scope.names.lookup y.1 == some .cell || X.env.scope.names.lookup y.1 == some .free)) = true)
    (len : N.length = ix.length)
    (hix : (N.zip ix).all (fun p => match p.2 with
      | none => true
      | some i => X.N[i]? == some p.1 && scope.names.any (fun y => y.1 == p.1 && y.2 == .free) && (sc.names.lookup p.1 == some .cell || sc.names.lookup p.1 == some .free)) = true)
    (has : sc.names.all (fun y => (y.2 != .cell && y.2 != .free) || scope.names.any (fun z => z.1 == y.1 && z.2 == .free)) = true) : CompOk X scope sc N ix := by
  have mem : ∀ x : Str,scope.names.any (fun y => y.1 == x && y.2 == .free) = true → (x,NameKind.free) ∈ scope.names := fun x h => by
    obtain ⟨y,hy,e⟩ := List.any_eq_true.mp h
    rw [Bool.and_eq_true] at e
    obtain ⟨a,b⟩ := y
    have e1 : a = x := eq_of_beq e.1
    have e2 : b = .free := eq_of_beq e.2
    subst e1; subst e2
    exact hy
  refine ⟨sc',kind,fun y hy e => ?_,fun x hx e => ?_,fun y hy e => ?_,len,fun j x i h1 h2 => ?_,fun x hx => ?_⟩
  · have := List.all_eq_true.mp cell y hy
    rw [e] at this; cases this
  · have := List.all_eq_true.mp names x hx
    rw [e] at this
    simpa using this
  · have := List.all_eq_true.mp free y hy
    rw [e] at this
    simpa [Env.kindOf] using this
  · have hm : (x,some i) ∈ N.zip ix := by
      have : (N.zip ix)[j]? = some (x,some i) := by
        rw [List.getElem?_zip_eq_some]
        exact ⟨h1,h2⟩
      exact List.mem_of_getElem? this
    have := List.all_eq_true.mp hix _ hm
    simp only [Bool.and_eq_true] at this
    obtain ⟨⟨a1,a2⟩,a3⟩ := this
    refine ⟨eq_of_beq a1,mem x a2,?_⟩
    rw [Bool.or_eq_true] at a3
    rcases a3 with z | z
    · exact .inl (eq_of_beq z)
    · exact .inr (eq_of_beq z)
  · have hm : ∃ k,(x,k) ∈ sc.names ∧ (k = .cell ∨ k = .free) := by
      rcases hx with z | z
      · exact ⟨_,PySem.mem_of_lookup z,.inl rfl⟩
      · exact ⟨_,PySem.mem_of_lookup z,.inr rfl⟩
    obtain ⟨k,hk,e⟩ := hm
    have := List.all_eq_true.mp has _ hk
    rw [Bool.or_eq_true] at this
    rcases this with z | z
    · rcases e with e | e <;> (subst e; simp at z)
    · exact mem x z
end L2
namespace L2
open PySem PySem.Spec PyProof.Rows
structure FnIn (K : PySem.W.Frag) (x : Str) (st : Stmt) : Prop where
  ex : ∃ (f : Addr) (oc : Value) (od : Option Addr) (kV doc pm : Value) (an : Option Addr) (cdv ct : Value) (sl : Array (Option Value)),PySem.W.nsIn K mainGlobals x = some (some (.ref f)) ∧
    K.lookup f = some ⟨oc,od,.func (PySem.W.fnOf x x (defArgs st) (defBody st) (defScope st) .none kV doc pm an cdv ct),sl⟩ ∧ PySem.W.codeIn K cdv x = true ∧ PySem.W.keepIn K (.ref f) = true
theorem fnIn_mk {K : PySem.W.Frag} {x : Str} {st : Stmt} {f : Addr} {oc : Value} {od : Option Addr} {kV doc pm : Value} {an : Option Addr} {cdv ct : Value} {sl : Array (Option Value)} (a : PySem.W.nsIn K mainGlobals x = some (some (.ref f)))
    (l : K.lookup f = some ⟨oc,od,.func (PySem.W.fnOf x x (defArgs st) (defBody st) (defScope st) .none kV doc pm an cdv ct),sl⟩) (c : PySem.W.codeIn K cdv x = true) (k : PySem.W.keepIn K (.ref f) = true) : FnIn K x st :=
  ⟨f,oc,od,kV,doc,pm,an,cdv,ct,sl,a,l,c,k⟩
theorem FnIn.fn {K : PySem.W.Frag} {h : Heap} {mg : Str → Option Value} {x : Str} {st : Stmt} {ps : List Str} (F : FnIn K x st) (X : K.In h) (G : h.Ns mainGlobals mg)
    (hb : ∀ (kV doc pm : Value) (an : Option Addr) (cdv ct : Value) (us : List Value),us.length = ps.length → bindArgs (PySem.W.fnOf x x (defArgs st) (defBody st) (defScope st) .none kV doc pm an cdv ct) ⟨us,[]⟩ = pure (ps.zip us)) : Fn K mg x st ps := by
  obtain ⟨f,oc,od,kV,doc,pm,an,cdv,ct,sl,a,l,c,k⟩ := F.ex
  have FF := fun_mk (st := st) l c k
  exact ⟨f,_,FF,PySem.W.mg_of X G a,FF.binds hb⟩
end L2
namespace L2
open PySem PySem.Spec PyProof.Rows
structure ItS (J : It) (xs : List V) (H1 : Hp) : Prop where
  go : ∀ i H',Same H1 H' → i < xs.length → J.go i H'
  yld : ∀ i H' x H2,Same H1 H' → J.yld i H' x H2 → H2 = H' ∧ (i < xs.length → xs[i]? = some x)
  stop : ∀ i H',Same H1 H' → xs.length ≤ i → J.stop i H'
theorem its_list {K : PySem.W.Frag} {a : Addr} {xs : List V} {H1 : Hp} (hq : SqL K H1 a xs) : ItS (Itl K a) xs H1 :=
  ⟨fun i H' g h => ⟨xs,xs[i],g.seq hq,by simp [h]⟩,fun i H' x H2 g y => ⟨y.1,fun _ => y.2 xs (g.seq hq)⟩,fun i H' g h => ⟨xs,g.seq hq,h⟩⟩
theorem its_tup {K : PySem.W.Frag} {a : Addr} {xs : List V} {H1 : Hp} (hq : SqT K H1 a xs) : ItS (Itt K a) xs H1 :=
  ⟨fun i H' g h => ⟨xs,xs[i],g.seqT hq,by simp [h]⟩,fun i H' x H2 g y => ⟨y.1,fun _ => y.2 xs (g.seqT hq)⟩,fun i H' g h => ⟨xs,g.seqT hq,h⟩⟩
theorem its_range {lo : Int} {n : Nat} {H1 : Hp} : ItS (Itr lo n) ((List.range n).map fun i => V.int (lo + (i : Nat))) H1 :=
  ⟨fun i H' g h => show i < n by simpa using h,fun i H' x H2 g y => ⟨y.1,fun h => by
    have h' : i < n := by simpa using h
    rw [List.getElem?_map,List.getElem?_range h',y.2]; rfl⟩,fun i H' g h => show n ≤ i by simpa using h⟩
theorem comp_pure {J : It} {xs : List V} {ix : List (Option Nat)} {tc : TT} {te : TE} {σ : St} {H1 : Hp} {Q : VK} (I : ItS J xs H1) (hz : xs.length ≤ sizeLine) {rest : St} (hst : cst ix σ = none :: rest) (p : V → Bool) (F : V → V)
    (ht : ∀ H' x,Same H1 H' → x ∈ xs → ∀ k : Bool → Hp → Prop,k (p x) H' → tc (some x :: rest) H' k)
    (he : ∀ H' x,Same H1 H' → x ∈ xs → p x = true → ∀ k : VK,k (F x) H' → te (some x :: rest) H' k)
    (hQ : ∀ D,H1 D = none → Q (.ref D) (upd H1 D (.lst ((xs.filter p).map F)))) :
    CompK ix (gName 0) tc te σ Q J H1 := by
  constructor
  intro D hD
  refine ⟨fun i m σ' H' => m = xs.length - i ∧ i ≤ xs.length ∧ (∃ o,σ' = o :: rest) ∧ H' = upd H1 D (.lst (((xs.take i).filter p).map F)),⟨xs.length,by simp,Nat.zero_le _,⟨none,hst⟩,by simp⟩,?_⟩
  rintro i m σ' H' ⟨rfl,hi,⟨o,rfl⟩,rfl⟩
  have g : Same H1 (upd H1 D (.lst (((xs.take i).filter p).map F))) := Same.new hD _
  by_cases hlt : i < xs.length
  · refine .inr ⟨I.go i _ g hlt,fun x H2 y => ?_⟩
    obtain ⟨rfl,hx⟩ := I.yld i _ x H2 g y
    have hx := hx hlt
    have hm : x ∈ xs := List.mem_of_getElem? hx
    have et : xs.take (i + 1) = xs.take i ++ [x] := by
      rw [List.take_add_one,hx]; rfl
    show tc (some x :: rest) _ _
    refine ht _ x g hm _ ?_
    cases hp : p x with
    | true =>
      rw [if_pos rfl]
      refine he _ x g hm hp _ ⟨_,upd_same,?_,xs.length - (i + 1),by omega,rfl,hlt,⟨_,rfl⟩,?_⟩
      · have h1 : (((xs.take i).filter p).map F).length ≤ i := by
          rw [List.length_map]
          exact Nat.le_trans (List.length_filter_le _ _) (by rw [List.length_take]; omega)
        omega
      · rw [upd_upd,et,List.filter_append,List.map_append]
        simp [hp]
    | false =>
      rw [if_neg Bool.false_ne_true]
      refine ⟨xs.length - (i + 1),by omega,rfl,hlt,⟨_,rfl⟩,?_⟩
      rw [et,List.filter_append]
      simp [hp]
  · have e : i = xs.length := by omega
    subst e
    refine .inl ⟨I.stop _ _ g (Nat.le_refl _),?_⟩
    rw [List.take_length]
    exact hQ D hD
end L2
namespace L2
open PySem PySem.Spec PyProof.Rows
structure Bar (t : TE) (σ : St) (H : Hp) (Q : VK) : Prop where
  go : t σ H Q
noncomputable def tBar (t : TE) : TE := fun σ H Q => Bar t σ H Q
theorem Bar.by {t : TE} {σ : St} {H : Hp} {Q : VK} (R : V → Hp → Prop) (h : ∀ k : VK,(∀ v H1,R v H1 → k v H1) → t σ H k) (q : ∀ v H1,R v H1 → Q v H1) : Bar t σ H Q := ⟨h Q q⟩
theorem pe_bar {X : Cx} {e : Expr} {t : TE} (h : PE X e t) : PE X e (tBar t) := fun pins s σ H Q I q => h pins s σ H Q I q.go
structure BarS (t : TS) (D : Ends) (σ : St) (H : Hp) : Prop where
  go : t D σ H
noncomputable def tBarS (t : TS) : TS := fun D σ H => BarS t D σ H
theorem ps_bar {X : Cx} {st : Stmt} {t : TS} (h : PS X st t) : PS X st (tBarS t) := fun pins s σ H D I q => h pins s σ H D I q.go
theorem BarS.by {t : TS} {D : Ends} {σ : St} {H : Hp} (R : St → Hp → Prop) (h : ∀ N : St → Hp → Prop,(∀ σ' H',R σ' H' → N σ' H') → t { D with nx := N } σ H) (q : ∀ σ' H',R σ' H' → D.nx σ' H') : BarS t D σ H := by
  constructor
  exact h D.nx q
end L2
namespace HT
open PySem PyProof.Rows
section
variable {prog : Program} {w : World} {A : Around} {E : Value → Shared → Prop} {s : Shared}
theorem getItem_tuple_all {t sl : Addr} {items : Array Value} {vl vu : Value} {lo hi : Option Int} {Q : Value → Shared → Prop} (ht : IsTup s.heap t items) (hs : s.heap.IsSliceOf sl vl vu .none) (pl : IsPart vl lo) (pu : IsPart vu hi)
    (hw : sIx items.size 0 lo = 0 ∧ sIx items.size items.size hi = items.size) (h : Q (.ref t) s) : wpAny (model prog w) A (getItem (.ref t) (.ref sl)) Q E s := by
  obtain ⟨os,hos,hcs,hds⟩ := id hs
  have hTs : s.TypeIs (.ref sl) "slice" := ⟨os,hos,hcs⟩
  unfold getItem
  try with_reducible refine wpAny_holding ?_
  first | refine wpAny_bind (wpAny_pure ?_) | skip
  refine wpAny_bind (wpAny_sequenceKey ht.typeIs (by decide) ?_)
  refine wpAny_bind (wpAny_callSpecial?_slot (name := Str.ofString "__getitem__") ht.typeIs PyProof.Rows.slot_tuple_getitem
    (wpAny_call_entry PyProof.Rows.slot_tuple_getitem ht.typeIs entry_tuple_getitem ?_ (args_tuple_getitem _ _)))
  show wpAny _ _ (Builtin.Tuple.tupleItemsOf (.ref t) >>= _) _ _ s
  refine wpAny_bind (tupleItemsOf_ ht ?_)
  refine wpAny_bind (wpAny_typeOf hTs ?_)
  rw [if_pos (by decide)]
  refine wpAny_bind (sliceApplied_gen hs pl pu ?_)
  have hyes : (((sIx items.size 0 lo : Nat) : Int) == 0 && (1 : Int) == 1 && (sIx items.size items.size hi - sIx items.size 0 lo) == items.size) = true := by
    rw [hw.1,hw.2]; simp
  show wpAny _ _ (if (((sIx items.size 0 lo : Nat) : Int) == 0 && (1 : Int) == 1 && (sIx items.size items.size hi - sIx items.size 0 lo) == items.size) = true then _ else _) _ _ s
  rw [if_pos hyes]
  unfold Builtin.Tuple.tupleIsExact
  refine wpAny_bind (wpAny_bind (wpAny_typeOf ht.typeIs (wpAny_pure ?_)))
  rw [if_pos (by decide)]
  exact wpAny_bind (wpAny_rule (wpAny_pure ⟨_,rfl,wpAny_pure h⟩))
end
end HT
namespace L2
open PySem PySem.Spec PyProof.Rows
section
variable {X : Cx}
theorem sl_tupAll : SlR X (fun x lo hi H Q => ∃ a xs,x = .ref a ∧ SqT X.K H a xs ∧ (HT.sIx xs.length 0 lo = 0 ∧ HT.sIx xs.length xs.length hi = xs.length) ∧ Q (.ref a) H) := by
  intro pins s σ H x v vl vu lo hi sl Q I rx hs pl pu h
  obtain ⟨a,xs,rfl,hx,hw,q⟩ := h
  cases rx
  obtain ⟨its,r,ht,hz⟩ := I.tuple hx
  have hlen : its.toArray.size = xs.length := by rw [List.size_toArray]; exact r.length.symm
  refine ⟨"tuple",_,PyProof.Rows.slot_tuple_getitem.lookup,ht.typeIs,?_⟩
  exact HT.getItem_tuple_all ht hs pl pu (by rw [hlen]; exact hw) ⟨.ref a,H,I,rfl,q⟩
end
end L2
namespace L2
open PySem PySem.Spec PyProof.Rows
theorem boot_zip : bootBuiltins "zip" = some (.type "zip") := by decide +kernel
theorem boot_min : bootBuiltins "min" = some (.builtin "min") := by decide +kernel
section
variable {X : Cx} (K : PySem.W.Frag)
theorem SlR.imp {r r' : V → Option Int → Option Int → Hp → VK → Prop} (h : SlR X r) (i : ∀ x lo hi H Q,r' x lo hi H Q → r x lo hi H Q) : SlR X r' := fun pins s σ H x v vl vu lo hi sl Q I rx hs pl pu q => h pins s σ H x v vl vu lo hi sl Q I rx hs pl pu (i _ _ _ _ _ q)
theorem xadd (hK : X.K = K := by rfl) : OpR X (binaryOp .Add) (rAddV K) := by subst hK; exact v_add
theorem xix (hK : X.K = K := by rfl) : IxR X (rIxV K) := by subst hK; exact v_ix
theorem xeq {k : Nat} (hr : Room k X.A) (hK : X.K = K := by rfl) : OpR X (compareOp .Eq) (rEqV K id) := by subst hK; exact v_eq hr
theorem xne {k : Nat} (hr : Room k X.A) (hK : X.K = K := by rfl) : OpR X (compareOp .NotEq) (rEqV K not) := by subst hK; exact v_ne hr
theorem xlen (hK : X.K = K := by rfl) : CallR X (.builtin "len") (fun xs H Q => ∃ x n,xs = [x] ∧ LenV K x H n ∧ Q (.int n) H) := by subst hK; exact call_len
theorem xsum (hc : X.calm = true) (hK : X.K = K := by rfl) : CallR X (.builtin "sum") (fun xs H Q => ∃ (l : Addr) (ns : List Int),xs = [.ref l] ∧ SqL K H l (ns.map V.int) ∧ Q (.int ns.sum) H) := by subst hK; exact v_sum hc
theorem xlist (hK : X.K = K := by rfl) : CallR X (.type "list") (fun xs H Q => ∃ p ys,xs = [.ref p] ∧ (SqL K H p ys ∨ SqT K H p ys) ∧ ∀ l,H l = none → Q (.ref l) (upd H l (.lst ys))) := by subst hK; exact call_list_of
theorem xtuple (hK : X.K = K := by rfl) : CallR X (.type "tuple") (fun xs H Q => ∃ p ys,xs = [.ref p] ∧ ((SqL K H p ys ∧ ∀ l,H l = none → Q (.ref l) (upd H l (.tup ys))) ∨ (SqT K H p ys ∧ Q (.ref p) H))) := by subst hK; exact call_tuple_of
noncomputable def rSlV (K : PySem.W.Frag) : V → Option Int → Option Int → Hp → VK → Prop := fun x lo hi H Q => match x with
  | .ref a => (∃ xs,SqL K H a xs ∧ ∀ p,H p = none → Q (.ref p) (upd H p (.lst (cutV xs lo hi)))) ∨
      (∃ xs,SqT K H a xs ∧ ¬ (HT.sIx xs.length 0 lo = 0 ∧ HT.sIx xs.length xs.length hi = xs.length) ∧ ∀ p,H p = none → Q (.ref p) (upd H p (.tup (cutV xs lo hi)))) ∨
      (∃ xs,SqT K H a xs ∧ (HT.sIx xs.length 0 lo = 0 ∧ HT.sIx xs.length xs.length hi = xs.length) ∧ Q (.ref a) H)
  | _ => False
theorem xsl (hK : X.K = K := by rfl) : SlR X (rSlV K) := by
  subst hK
  refine (sl_list.or (sl_tup.or sl_tupAll)).imp fun x lo hi H Q h => ?_
  unfold rSlV at h
  split at h
  · rcases h with ⟨xs,h⟩ | ⟨xs,h⟩ | ⟨xs,h⟩
    · exact .inl ⟨_,xs,rfl,h⟩
    · exact .inr (.inl ⟨_,xs,rfl,h⟩)
    · exact .inr (.inr ⟨_,xs,rfl,h⟩)
  · exact h.elim
theorem xseq {tg l : Expr} {tl : TE} (hl : PE X l tl) (hK : X.K = K := by rfl) : PI X tg l (iSeq K tl) := by subst hK; exact pi_seq hl
theorem xgtup {es : List Expr} {k : Nat} {t : TGs} {n : Nat} {pos : Pos} (hc : X.calm = true) (h : PGs X es t) (hK : X.K = K := by rfl)
    (hn : (assignEach es X.env).length = n := by rfl) (hst : (assignEach es X.env).findIdx? (·.1) = none := by rfl) : PG X (.Tuple es k pos) (gTup K n t) := by subst hK; exact pg_tup hc h hn hst
theorem xappend {o e : Expr} {to : TE} {te : TE} {apos cpos : Pos} (ho : PE X o to) (he : PE X e te) (hK : X.K = K := by rfl)
    (hbase : attributeBase o "append" X.env (eval o X.env) = eval o X.env := by rfl)
    (hfew : ((backTo cpos (starEach [e] X.env)).all (fun x => !x.1) && (backToKw cpos (keywordEach [] X.env)).all (fun x => x.1.isSome)
      && decide ([e].length + ([] : List Keyword).length + (if ([] : List Keyword).isEmpty then 0 else 1) < 30)) = true := by rfl)
    (hline : (apos.endLine == cpos.line) = true := by rfl) (hs : starEach [e] X.env = (false,eval e X.env) :: starEach [] X.env := by rfl) :
    PE X (.Call (.Attribute o "append" apos) [e] [] cpos) (tBM K "list" rAppend to (tCons te tNil)) := by
  subst hK
  exact pe_bm PySem.F.plainAttrs_list PySem.F.slot_list_append PySem.F.type_list_append mt_append ho (pa_cons he pa_nil hs) hbase hfew hline hs rfl
end
section
variable {X : Cx} {es : List Expr} {te : TE} {t : TA}
theorem pa_k {c : Const} {j} {p : Pos} (h : PE X (.Constant c j p) te) (hr : PA X es t) : PA X ((.Constant c j p) :: es) (tCons te t) := pa_cons h hr rfl
theorem pa_n {x : Str} {p : Pos} (h : PE X (.Name x p) te) (hr : PA X es t) : PA X ((.Name x p) :: es) (tCons te t) := pa_cons h hr rfl
theorem pa_t {as : List Expr} {j} {p : Pos} (h : PE X (.Tuple as j p) te) (hr : PA X es t) : PA X ((.Tuple as j p) :: es) (tCons te t) := pa_cons h hr rfl
theorem pa_b {a : Expr} {o : Operator} {b : Expr} {p : Pos} (h : PE X (.BinOp a o b p) te) (hr : PA X es t) : PA X ((.BinOp a o b p) :: es) (tCons te t) := pa_cons h hr rfl
theorem pa_u {o : UnaryOp} {a : Expr} {p : Pos} (h : PE X (.UnaryOp o a p) te) (hr : PA X es t) : PA X ((.UnaryOp o a p) :: es) (tCons te t) := pa_cons h hr rfl
end
end L2
namespace L2
open PySem PySem.Spec PyProof.Rows
section
variable {X : Cx} {pins : List (Addr × Obj)} {σ : St} {H : Hp} {s : Shared}
end
end L2
namespace L2
open PySem PySem.Spec PyProof.Rows
structure ExI (K : PySem.W.Frag) (C : Addr) : Prop where
  ga : PySem.W.findIn K (.ref C) "__getattribute__" = some (some (.builtin "BaseException.__getattribute__"))
  gt : PySem.W.findIn K (.ref C) "__getattr__" = some none
  cl : PySem.W.findIn K (.ref C) "__class__" = some (some (.builtin "object.__class__"))
  mb : PySem.W.mroIn K C (.type "BaseException") = some true
  mo : PySem.W.mroIn K C (.type "object") = some true
  is : (PySem.W.clsIn K C).isSome = true
section
variable {prog : Program} {w : World} {A : Around} {E : Value → Shared → Prop} {h : Heap} {g : Array GenState} {d : Drawn} {t : Nat} {os : OsState} {a C : Addr} {o : Obj} {K : PySem.W.Frag}
end
end L2
namespace L2
open PySem PySem.Spec PyProof.Rows
theorem exC_of {K : PySem.W.Frag} {h : Heap} {mg : Str → Option Value} {x : Str} {C : Addr} {newId inN Bn : String} {bmN : List Value} (X : K.In h) (G : h.Ns mainGlobals mg) (e : PySem.W.nsIn K mainGlobals x = some (some (.ref C)))
    (q : PySem.W.excIn K C [.type "ValueError",.type "Exception",.type "BaseException",.type "object"] newId = true) (Fn : ExcBaseFacts Bn newId inN bmN)
    (hBn : [Value.type "ValueError",.type "Exception",.type "BaseException",.type "object"].contains (.type Bn) = true) : ExC mg h x C := by
  refine ⟨_,newId,⟨PySem.W.mg_of X G e,?_⟩,Bn,inN,bmN,_,_,_,Fn,hBn,F.excBase_ValueError⟩
  unfold PySem.W.excIn at q
  split at q
  · rename_i dd cd sl ho
    split at q
    · rename_i C' bm k0 k1 k2 k3 n k5 hm hs
      simp only [Bool.and_eq_true,beq_iff_eq,Bool.not_eq_true'] at q
      obtain ⟨⟨⟨⟨⟨rfl,rfl⟩,hdel⟩,ht⟩,hok⟩,hni⟩ := q
      obtain ⟨nm,bs,mro,ns,qn,hdc,sn,sub,ab,col,del⟩ := cd
      dsimp only at hm hdel hok hni
      subst hm; subst hdel
      have hsl : sl = #[k0,k1,k2,k3,some (.builtin n),k5] := by
        obtain ⟨l⟩ := sl
        simp only at hs
        rw [hs]
      subst hsl
      exact ⟨bm,ns,nm,qn,bs,hdc,sn,sub,ab,col,dd,k0,k1,k2,k3,k5,_,X _ _ ho,.of_isNs (PySem.W.isNs_of_in X hok),PySem.W.nsMap_none_of_in X hok hni,PySem.W.tail_of_in X ht⟩
    · cases q
  · cases q
end L2
namespace L2
open PySem PySem.Spec PyProof.Rows
section
variable {X : Cx} {a : Expr} {ta : TE}
end
end L2
namespace L2
open PySem
theorem canLay_ints : ∀ ns : List Int,PyData.canLayAll0 (ns.map PyData.int) = true
  | [] => rfl
  | n :: r => by
    have := canLay_ints r
    simp [PyData.canLayAll0,PyData.canLay0,this]
theorem depth_ints : ∀ ns : List Int,PyData.depthAll (ns.map PyData.int) ≤ 1
  | [] => by simp [PyData.depthAll]
  | n :: r => by
    have := depth_ints r
    simp [PyData.depthAll,PyData.depth]
    omega
theorem shaped_list (ns : List Int) : SeqAt.shaped (.list (ns.map .int)) = true := by
  have h1 := canLay_ints ns
  have h2 := depth_ints ns
  simp only [SeqAt.shaped,PyData.canLay0,PyData.depth,h1,Bool.true_and]
  exact decide_eq_true (by omega)
theorem shaped_tup (ns : List Int) : SeqAt.shaped (.tuple (ns.map .int)) = true := by
  have h1 := canLay_ints ns
  have h2 := depth_ints ns
  simp only [SeqAt.shaped,PyData.canLay0,PyData.depth,h1,Bool.true_and]
  exact decide_eq_true (by omega)
theorem eqv_list (ns ms : List Int) : PyData.eqv (.list (ns.map .int)) (.list (ms.map .int)) = decide (ns = ms) := by
  rw [PyData.eqv]; exact PySem.W.ked_eqvAll ns ms
theorem eqv_tup (ns ms : List Int) : PyData.eqv (.tuple (ns.map .int)) (.tuple (ms.map .int)) = decide (ns = ms) := by
  rw [PyData.eqv]; exact PySem.W.ked_eqvAll ns ms
theorem eqLL {K : PySem.W.Frag} {g : Bool → Bool} {H : Hp} {a b : Addr} {ns ms : List Int} {Q : VK} (ha : SqL K H a (ns.map V.int)) (hb : SqL K H b (ms.map V.int)) (q : Q (.bl (g (decide (ns = ms)))) H) : rEqV K g (.ref a) (.ref b) H Q :=
  .inl ⟨_,_,.lst ha (RdDs.ints ns),.lst hb (RdDs.ints ms),shaped_list ns,shaped_list ms,by rw [eqv_list]; exact q⟩
theorem eqTT {K : PySem.W.Frag} {g : Bool → Bool} {H : Hp} {a b : Addr} {ns ms : List Int} {Q : VK} (ha : SqT K H a (ns.map V.int)) (hb : SqT K H b (ms.map V.int)) (q : Q (.bl (g (decide (ns = ms)))) H) : rEqV K g (.ref a) (.ref b) H Q :=
  .inl ⟨_,_,.tup ha (RdDs.ints ns),.tup hb (RdDs.ints ms),shaped_tup ns,shaped_tup ms,by rw [eqv_tup]; exact q⟩
end L2
set_option maxHeartbeats 4000000
namespace L2
open PySem PySem.Spec PyProof.Rows
noncomputable def ItA (t : Bool) (h : Heap) (it l : Addr) (i : Nat) : Prop := ∃ o,h.get? it = some o ∧ o.cls = .type (if t then "tuple_iterator" else "list_iterator") ∧ o.data = .fields #[.ref l,.int i 0]
noncomputable def SqA (t : Bool) (h : Heap) (l : Addr) (items : Array Value) : Prop := ∃ o,h.get? l = some o ∧ o.cls = .type (if t then "tuple" else "list") ∧ ∃ n,o.data = .seq items n
theorem ItA.at {t : Bool} {h h' : Heap} {it l : Addr} {i : Nat} (x : ItA t h it l i) (e : ∀ o,h.get? it = some o → h'.get? it = some o) : ItA t h' it l i := let ⟨o,ho,r⟩ := x; ⟨o,e o ho,r⟩
theorem SqA.at {t : Bool} {h h' : Heap} {l : Addr} {xs : Array Value} (x : SqA t h l xs) (e : ∀ o,h.get? l = some o → h'.get? l = some o) : SqA t h' l xs := let ⟨o,ho,r⟩ := x; ⟨o,e o ho,r⟩
section
variable {prog : Program} {w : World} {A : Around} {E : Value → Shared → Prop} {s : Shared}
theorem nx_item {t : Bool} {it l : Addr} {i : Nat} {items : Array Value} {x : Value} {Q : Value → Shared → Prop} (h1 : ItA t s.heap it l i) (h2 : SqA t s.heap l items) (hx : items[i]? = some x)
    (k : ∀ h',ItA t h' it l (i + 1) → Heap.SameBut it s.heap h' → Q x { s with heap := h' }) : wpAny (model prog w) A (Builtin.SmallTypes.nextOf (.ref it)) Q E s := by
  cases t with
  | false => exact wpAny_nextOf_list_item h1 h2 hx k
  | true =>
    obtain ⟨o,ho,hc,hd⟩ := id h1
    obtain ⟨ol,hol,_,nl,hdl⟩ := id h2
    have ty : s.TypeIs (.ref it) "tuple_iterator" := ⟨o,ho,hc⟩
    unfold Builtin.SmallTypes.nextOf
    refine wpAny_bind (wpAny_callSpecial?_slot (name := Str.ofString "__next__") ty F.slot_tuple_iterator_next (wpAny_call_entry F.slot_tuple_iterator_next ty F.entry_tuple_iterator_next ?_ (F.args_tuple_iterator_next_1 _)))
    show wpAny _ _ (field (.ref it) 0 >>= _) _ _ s
    refine wpAny_bind (wpAny_field ho hd (x := Value.ref l) rfl ?_)
    show wpAny _ _ (if (Value.ref l == Value.none) = true then _ else _) _ _ s
    rw [if_neg (show ¬ ((Value.ref l == Value.none) = true) from fun q => Bool.false_ne_true q)]
    refine wpAny_bind (wpAny_field ho hd (x := Value.int i 0) rfl ?_)
    refine wpAny_bind (wpAny_seqItems hol hdl (Q := _) ?_)
    simp only [hx,Int.toNat_natCast]
    refine wpAny_bind (wpAny_setField ho hd (by simp) (wpAny_pure ⟨x,rfl,wpAny_pure (k _ ⟨_,Heap.get?_update_self _ ho (Obj.isFreed_of_fields (Obj.data_mapFields hd _)),?_,?_⟩ (Heap.SameBut.update ..))⟩))
    · exact (Obj.cls_mapFields ..).trans hc
    · rw [Obj.data_mapFields hd]; simp [rawInt]
theorem nx_end {t : Bool} {it l : Addr} {i : Nat} {items : Array Value} {Q : Value → Shared → Prop} (hh : A.handled = none) (h1 : ItA t s.heap it l i) (h2 : SqA t s.heap l items) (hx : items[i]? = none)
    (k : ∀ h' e,Heap.ExtBut it s.heap h' → (∃ o,h'.get? e = some o ∧ o.cls = .type "StopIteration") → E (.ref e) { s with heap := h' }) : wpAny (model prog w) A (Builtin.SmallTypes.nextOf (.ref it)) Q E s := by
  cases t with
  | false => exact wpAny_nextOf_list_end hh h1 h2 hx k
  | true =>
    obtain ⟨o,ho,hc,hd⟩ := id h1
    obtain ⟨ol,hol,_,nl,hdl⟩ := id h2
    have ty : s.TypeIs (.ref it) "tuple_iterator" := ⟨o,ho,hc⟩
    unfold Builtin.SmallTypes.nextOf
    refine wpAny_bind (wpAny_callSpecial?_slot (name := Str.ofString "__next__") ty F.slot_tuple_iterator_next (wpAny_call_entry F.slot_tuple_iterator_next ty F.entry_tuple_iterator_next ?_ (F.args_tuple_iterator_next_1 _)))
    show wpAny _ _ (field (.ref it) 0 >>= _) _ _ s
    refine wpAny_bind (wpAny_field ho hd (x := Value.ref l) rfl ?_)
    show wpAny _ _ (if (Value.ref l == Value.none) = true then _ else _) _ _ s
    rw [if_neg (show ¬ ((Value.ref l == Value.none) = true) from fun q => Bool.false_ne_true q)]
    refine wpAny_bind (wpAny_field ho hd (x := Value.int i 0) rfl ?_)
    refine wpAny_bind (wpAny_seqItems hol hdl (Q := _) ?_)
    simp only [hx,Int.toNat_natCast]
    refine wpAny_bind (wpAny_rule (wpAny_bind (wpAny_setField ho hd (by simp) (Q := _) ?_)))
    show wpAny _ _ (newExc (.type "StopIteration") [] >>= _) _ _ _
    refine wpAny_bind ?_
    simp only [newTuple,newExc]
    refine wpAny_bind (wpAny_newObj_type (Q := _) ?_ (by size_fits))
    refine wpAny_bind (m := firstArgMember _ _) (wpAny_of_eq (a := Value.none) (by first | rfl | (simp only [firstArgMember]; done)) ?_)
    refine wpAny_newObj_type (Q := _) ?_ (by size_fits)
    simp only [raiseNew]
    refine wpAny_bind (wpAny_handled (Q := _) ?_)
    first | rw [hh] | rw [show A.in1.handled = Option.none from hh]
    refine wpAny_bind (wpAny_pure (wpAny_throw (k _ _ (((Heap.SameBut.update ..).extBut.push _).push _) ⟨_,Heap.get?_push_size _ rfl,rfl⟩)))
structure Apart (z TI TO i1 i2 l1 l2 : Addr) : Prop where
  own : [z,TI,TO,i1,i2].Nodup
  far1 : l1 ∉ [z,TI,TO,i1,i2]
  far2 : l2 ∉ [z,TI,TO,i1,i2]
theorem Apart.ne {z TI TO i1 i2 l1 l2 : Addr} (D : Apart z TI TO i1 i2 l1 l2) :
    (TI ≠ z ∧ TO ≠ z ∧ i1 ≠ z ∧ i2 ≠ z) ∧ (TI ≠ TO ∧ TI ≠ i1 ∧ TI ≠ i2) ∧ (TO ≠ i1 ∧ TO ≠ i2 ∧ i1 ≠ i2) ∧ (l1 ≠ z ∧ l1 ≠ TO ∧ l1 ≠ i1 ∧ l1 ≠ i2) ∧ (l2 ≠ z ∧ l2 ≠ TO ∧ l2 ≠ i1 ∧ l2 ≠ i2) := by
  obtain ⟨a,b,c⟩ := D
  simp only [List.nodup_cons,List.mem_cons,List.not_mem_nil,or_false,not_or,List.nodup_nil,and_true,not_false_eq_true] at a b c
  obtain ⟨⟨a1,a2,a3,a4⟩,⟨a5,a6,a7⟩,⟨a8,a9⟩,a10⟩ := a
  exact ⟨⟨Ne.symm a1,Ne.symm a2,Ne.symm a3,Ne.symm a4⟩,⟨a5,a6,a7⟩,⟨a8,a9,a10⟩,⟨b.1,b.2.2.1,b.2.2.2.1,b.2.2.2.2⟩,⟨c.1,c.2.2.1,c.2.2.2.1,c.2.2.2.2⟩⟩
theorem zn_item {t1 t2 : Bool} {z TI TO i1 i2 l1 l2 : Addr} {k1 k2 : Nat} {xs ys : Array Value} {x y a b : Value} {Q : Value → Shared → Prop} (D : Apart z TI TO i1 i2 l1 l2)
    (hz : IsZip s.heap z TI TO .none) (hI : IsPair s.heap TI (.ref i1) (.ref i2)) (hO : IsPair s.heap TO a b)
    (h1 : ItA t1 s.heap i1 l1 k1) (h2 : ItA t2 s.heap i2 l2 k2) (q1 : SqA t1 s.heap l1 xs) (q2 : SqA t2 s.heap l2 ys) (hx : xs[k1]? = some x) (hy : ys[k2]? = some y)
    (k : ∀ h',IsZip h' z TI TO (rawInt s.heap.objs.size) → IsPair h' TO x y → ItA t1 h' i1 l1 (k1 + 1) → ItA t2 h' i2 l2 (k2 + 1) → IsPair h' s.heap.objs.size x y →
      (∀ c o,c ∉ [z,TO,i1,i2] → s.heap.get? c = some o → h'.get? c = some o) → Q (.ref s.heap.objs.size) { s with heap := h' }) :
    wpAny (model prog w) A (Builtin.«zip.__next__» ⟨[.ref z],[]⟩) (fun fin s' => ∃ v,fin = .done (.ret v) ∧ Q v s') E s := by
  obtain ⟨⟨dTIz,dTOz,d1z,d2z⟩,⟨dTITO,dTI1,dTI2⟩,⟨dTO1,dTO2,d12⟩,⟨e1z,e1TO,e11,e12⟩,⟨e2z,e2TO,e21,e22⟩⟩ := D.ne
  show wpAny _ _ (field (.ref z) 2 >>= _) _ _ _
  refine wpAny_bind (wpAny_field hz rfl (x := Value.bool false) rfl ?_)
  show wpAny _ _ (field (.ref z) 3 >>= _) _ _ _
  refine wpAny_bind (wpAny_field hz rfl (x := Value.ref TI) rfl ?_)
  refine wpAny_bind (wpAny_seqItems hI rfl (Q := _) ?_)
  show wpAny _ _ (Builtin.SmallTypes.ownedTupleIsFree (.ref z) >>= _) _ _ _
  refine wpAny_bind ?_
  unfold Builtin.SmallTypes.ownedTupleIsFree
  refine wpAny_bind (wpAny_field hz rfl (x := Value.none) rfl (wpAny_pure (Q := _) ?_))
  simp only [if_true]
  refine wpAny_bind (wpAny_rule (Q := _) ?_)
  refine wpAny_bind (wpAny_field hz rfl (x := Value.ref TO) rfl ?_)
  refine wpAny_bind (wpAny_setField_rec hz (by simp) fun g1 z1 m1 => ?_)
  replace z1 : IsZip g1 z TI TO .ellipsis := z1
  refine wpAny_bind ?_
  simp only [List.forIn_cons,List.forIn_nil,List.zipIdx_cons,List.zipIdx_nil]
  refine wpAny_bind (wpAny_bind (wpAny_onRaise (Q := _) ?_))
  show wpAny _ _ (Builtin.SmallTypes.nextOf (.ref i1) >>= _) _ _ _
  refine wpAny_bind (nx_item (h1.at fun o e => m1.extBut _ _ d1z e) (q1.at fun o e => m1.extBut _ _ e1z e) hx fun g2 n2 m2 => wpAny_pure (Q := _) ?_)
  have O2 : IsPair g2 TO a b := m2.extBut _ _ dTO1 (m1.extBut _ _ dTOz hO)
  refine wpAny_bind (wpAny_seqItems O2 rfl (Q := _) ?_)
  refine wpAny_bind (wpAny_updateSeq_pair O2 fun g3 O3 m3 => ?_)
  replace O3 : IsPair g3 TO x b := O3
  refine wpAny_bind (wpAny_letGo (wpAny_pure (Q := _) ?_))
  refine wpAny_bind (wpAny_bind (wpAny_onRaise (Q := _) ?_))
  show wpAny _ _ (Builtin.SmallTypes.nextOf (.ref i2) >>= _) _ _ _
  refine wpAny_bind (nx_item (h2.at fun o e => m3.extBut _ _ (Ne.symm dTO2) (m2.extBut _ _ (Ne.symm d12) (m1.extBut _ _ d2z e))) (q2.at fun o e => m3.extBut _ _ e2TO (m2.extBut _ _ e21 (m1.extBut _ _ e2z e))) hy fun g4 n4 m4 => wpAny_pure (Q := _) ?_)
  have O4 : IsPair g4 TO x b := m4.extBut _ _ dTO2 O3
  refine wpAny_bind (wpAny_seqItems O4 rfl (Q := _) ?_)
  refine wpAny_bind (wpAny_updateSeq_pair O4 fun g5 O5 m5 => ?_)
  replace O5 : IsPair g5 TO x y := O5
  refine wpAny_bind (wpAny_letGo (wpAny_pure (wpAny_pure (Q := _) ?_)))
  refine wpAny_bind (wpAny_seqItems O5 rfl (Q := _) ?_)
  refine wpAny_bind (wpAny_newTuple (Q := _) ?_)
  have sz : g5.objs.size = s.heap.objs.size := by rw [m5.1,m4.1,m3.1,m2.1,m1.1]
  have Z5 : IsZip g5 z TI TO .ellipsis := m5.extBut _ _ (Ne.symm dTOz) (m4.extBut _ _ (Ne.symm d2z) (m3.extBut _ _ (Ne.symm dTOz) (m2.extBut _ _ (Ne.symm d1z) z1)))
  have N1 : ItA t1 g5 i1 l1 (k1 + 1) := n2.at fun o e => m5.extBut _ _ (Ne.symm dTO1) (m4.extBut _ _ d12 (m3.extBut _ _ (Ne.symm dTO1) e))
  have N2 : ItA t2 g5 i2 l2 (k2 + 1) := n4.at fun o e => m5.extBut _ _ (Ne.symm dTO2) e
  have K5 : ∀ c o,c ∉ [z,TO,i1,i2] → s.heap.get? c = some o → g5.get? c = some o := fun c o hc e => by
    simp only [List.mem_cons,List.not_mem_nil,or_false,not_or] at hc
    obtain ⟨c1,c2,c3,c4⟩ := hc
    exact m5.extBut _ _ c2 (m4.extBut _ _ c4 (m3.extBut _ _ c2 (m2.extBut _ _ c3 (m1.extBut _ _ c1 e))))
  have zl : z < g5.objs.size := Heap.lt_size Z5
  show wpAny _ _ (Builtin.SmallTypes.ownedTupleHandOut (.ref z) (.ref g5.objs.size) >>= _) _ _ _
  refine wpAny_bind ?_
  unfold Builtin.SmallTypes.ownedTupleHandOut
  have Z6 : IsZip (g5.push { cls := .type "tuple",data := .seq #[x,y] }) z TI TO .ellipsis := Heap.get?_push_of_some _ Z5
  refine wpAny_bind (wpAny_setField_rec Z6 (by simp) fun g7 Z7 m7 => ?_)
  replace Z7 : IsZip g7 z TI TO (rawInt g5.objs.size) := Z7
  refine wpAny_setField_rec Z7 (by simp) fun g8 Z8 m8 => ?_
  replace Z8 : IsZip g8 z TI TO (rawInt g5.objs.size) := Z8
  have up : ∀ c o,c ≠ z → g5.get? c = some o → g8.get? c = some o := fun c o c1 e => m8.extBut _ _ c1 (m7.extBut _ _ c1 (Heap.get?_push_of_some _ e))
  have T8 : IsPair g8 g5.objs.size x y := m8.extBut _ _ (Nat.ne_of_gt zl) (m7.extBut _ _ (Nat.ne_of_gt zl) (Heap.get?_push_size _ rfl))
  rw [sz] at Z8 T8
  refine wpAny_pure ⟨_,rfl,?_⟩
  show Q (.ref g5.objs.size) _
  rw [sz]
  exact k g8 Z8 (up _ _ dTOz O5) (N1.at fun o e => up _ o d1z e) (N2.at fun o e => up _ o d2z e) T8 fun c o hc e => up c o (fun q => hc (by simp [q])) (K5 c o hc e)
theorem zn_end {t1 t2 : Bool} {z TI TO i1 i2 l1 l2 : Addr} {k1 k2 : Nat} {xs ys : Array Value} {a b : Value} {Q : Fin → Shared → Prop} (hh : A.handled = none) (D : Apart z TI TO i1 i2 l1 l2)
    (hz : IsZip s.heap z TI TO .none) (hI : IsPair s.heap TI (.ref i1) (.ref i2)) (hO : IsPair s.heap TO a b)
    (h1 : ItA t1 s.heap i1 l1 k1) (h2 : ItA t2 s.heap i2 l2 k2) (q1 : SqA t1 s.heap l1 xs) (q2 : SqA t2 s.heap l2 ys) (he : ys[k2]? = none ∨ xs[k1]? = none)
    (k : ∀ h' e,(∀ c o,c ∉ [z,TO,i1,i2] → s.heap.get? c = some o → h'.get? c = some o) → (∃ o,h'.get? e = some o ∧ o.cls = .type "StopIteration") → E (.ref e) { s with heap := h' }) :
    wpAny (model prog w) A (Builtin.«zip.__next__» ⟨[.ref z],[]⟩) Q E s := by
  obtain ⟨⟨dTIz,dTOz,d1z,d2z⟩,⟨dTITO,dTI1,dTI2⟩,⟨dTO1,dTO2,d12⟩,⟨e1z,e1TO,e11,e12⟩,⟨e2z,e2TO,e21,e22⟩⟩ := D.ne
  have far : ∀ {c : Addr},c ∉ [z,TO,i1,i2] → c ≠ z ∧ c ≠ TO ∧ c ≠ i1 ∧ c ≠ i2 := fun hc => by simpa only [List.mem_cons,List.not_mem_nil,or_false,not_or] using hc
  show wpAny _ _ (field (.ref z) 2 >>= _) _ _ _
  refine wpAny_bind (wpAny_field hz rfl (x := Value.bool false) rfl ?_)
  show wpAny _ _ (field (.ref z) 3 >>= _) _ _ _
  refine wpAny_bind (wpAny_field hz rfl (x := Value.ref TI) rfl ?_)
  refine wpAny_bind (wpAny_seqItems hI rfl (Q := _) ?_)
  show wpAny _ _ (Builtin.SmallTypes.ownedTupleIsFree (.ref z) >>= _) _ _ _
  refine wpAny_bind ?_
  unfold Builtin.SmallTypes.ownedTupleIsFree
  refine wpAny_bind (wpAny_field hz rfl (x := Value.none) rfl (wpAny_pure (Q := _) ?_))
  simp only [if_true]
  refine wpAny_bind (wpAny_rule (Q := _) ?_)
  refine wpAny_bind (wpAny_field hz rfl (x := Value.ref TO) rfl ?_)
  refine wpAny_bind (wpAny_setField_rec hz (by simp) fun g1 z1 m1 => ?_)
  replace z1 : IsZip g1 z TI TO .ellipsis := z1
  refine wpAny_bind ?_
  simp only [List.forIn_cons,List.forIn_nil,List.zipIdx_cons,List.zipIdx_nil]
  refine wpAny_bind (wpAny_bind (wpAny_onRaise (Q := _) ?_))
  show wpAny _ _ (Builtin.SmallTypes.nextOf (.ref i1) >>= _) _ _ _
  cases hx : xs[k1]? with
  | none =>
    refine wpAny_bind (nx_end hh (h1.at fun o e => m1.extBut _ _ d1z e) (q1.at fun o e => m1.extBut _ _ e1z e) hx fun g2 e m2 ⟨u,hu,cu⟩ => ?_)
    have z2 : IsZip g2 z TI TO .ellipsis := m2 _ _ (Ne.symm d1z) z1
    have ez : e ≠ z := fun q => by subst q; rw [z2] at hu; cases hu; simp at cu
    exact wpAny_setField_rec z2 (by simp) fun g3 _ m3 => k g3 e (fun c o hc q => let ⟨c1,_,c3,_⟩ := far hc; m3.extBut _ _ c1 (m2 _ _ c3 (m1.extBut _ _ c1 q))) ⟨u,m3.extBut _ _ ez hu,cu⟩
  | some x =>
    have hy : ys[k2]? = none := he.elim id fun q => by rw [hx] at q; cases q
    refine wpAny_bind (nx_item (h1.at fun o e => m1.extBut _ _ d1z e) (q1.at fun o e => m1.extBut _ _ e1z e) hx fun g2 n2 m2 => wpAny_pure (Q := _) ?_)
    have O2 : IsPair g2 TO a b := m2.extBut _ _ dTO1 (m1.extBut _ _ dTOz hO)
    refine wpAny_bind (wpAny_seqItems O2 rfl (Q := _) ?_)
    refine wpAny_bind (wpAny_updateSeq_pair O2 fun g3 O3 m3 => ?_)
    refine wpAny_bind (wpAny_letGo (wpAny_pure (Q := _) ?_))
    refine wpAny_bind (wpAny_bind (wpAny_onRaise (Q := _) ?_))
    show wpAny _ _ (Builtin.SmallTypes.nextOf (.ref i2) >>= _) _ _ _
    refine wpAny_bind (nx_end hh (h2.at fun o e => m3.extBut _ _ (Ne.symm dTO2) (m2.extBut _ _ (Ne.symm d12) (m1.extBut _ _ d2z e))) (q2.at fun o e => m3.extBut _ _ e2TO (m2.extBut _ _ e21 (m1.extBut _ _ e2z e))) hy fun g4 e m4 ⟨u,hu,cu⟩ => ?_)
    have z4 : IsZip g4 z TI TO .ellipsis := m4 _ _ (Ne.symm d2z) (m3.extBut _ _ (Ne.symm dTOz) (m2.extBut _ _ (Ne.symm d1z) z1))
    have ez : e ≠ z := fun q => by subst q; rw [z4] at hu; cases hu; simp at cu
    exact wpAny_setField_rec z4 (by simp) fun g5 _ m5 => k g5 e (fun c o hc q => let ⟨c1,c2,c3,c4⟩ := far hc; m5.extBut _ _ c1 (m4 _ _ c4 (m3.extBut _ _ c2 (m2.extBut _ _ c3 (m1.extBut _ _ c1 q))))) ⟨u,m5.extBut _ _ ez hu,cu⟩
structure ZAt (t1 t2 : Bool) (z TI TO i1 i2 l1 l2 : Addr) (i : Nat) (h : Heap) (f0 : Value) : Prop where
  zz : IsZip h z TI TO f0
  ti : IsPair h TI (.ref i1) (.ref i2)
  to : ∃ a b,IsPair h TO a b
  w1 : ItA t1 h i1 l1 i
  w2 : ItA t2 h i2 l2 i
theorem pn_item {t1 t2 : Bool} {z TI TO i1 i2 l1 l2 : Addr} {i : Nat} {xs ys : Array Value} {x y : Value} {Q : Option Value → Shared → Prop} (D : Apart z TI TO i1 i2 l1 l2) (Z : ZAt t1 t2 z TI TO i1 i2 l1 l2 i s.heap .none)
    (q1 : SqA t1 s.heap l1 xs) (q2 : SqA t2 s.heap l2 ys) (hx : xs[i]? = some x) (hy : ys[i]? = some y)
    (k : ∀ h',ZAt t1 t2 z TI TO i1 i2 l1 l2 (i + 1) h' (rawInt s.heap.objs.size) → IsPair h' s.heap.objs.size x y → (∀ c o,c ∉ [z,TO,i1,i2] → s.heap.get? c = some o → h'.get? c = some o) → Q (some (.ref s.heap.objs.size)) { s with heap := h' }) :
    wpAny (model prog w) A (pyNext (.ref z)) Q E s := by
  obtain ⟨zz,ti,⟨a,b,to⟩,w1,w2⟩ := Z
  have ty : s.TypeIs (.ref z) "zip" := ⟨_,zz,rfl⟩
  obtain ⟨⟨dTIz,_,_,_⟩,⟨dTITO,dTI1,dTI2⟩,_⟩ := D.ne
  unfold pyNext
  refine wpAny_bind (wpAny_attempt (wpAny_callSpecial?_slot (name := Str.ofString "__next__") ty F.slot_zip_next (wpAny_call_entry F.slot_zip_next ty F.entry_zip_next ?_ (F.args_zip_next_1 _))))
  exact zn_item D zz ti to w1 w2 q1 q2 hx hy fun h' b1 b2 b3 b4 b5 b6 => wpAny_pure (k h' ⟨b1,b6 _ _ (by simp [dTIz,dTITO,dTI1,dTI2]) ti,⟨_,_,b2⟩,b3,b4⟩ b5 b6)
theorem pn_end {t1 t2 : Bool} {z TI TO i1 i2 l1 l2 : Addr} {i : Nat} {xs ys : Array Value} {Q : Option Value → Shared → Prop} (hh : A.handled = none) (D : Apart z TI TO i1 i2 l1 l2) (Z : ZAt t1 t2 z TI TO i1 i2 l1 l2 i s.heap .none)
    (q1 : SqA t1 s.heap l1 xs) (q2 : SqA t2 s.heap l2 ys) (he : ys[i]? = none ∨ xs[i]? = none)
    (k : ∀ h',(∀ c o,c ∉ [z,TO,i1,i2] → s.heap.get? c = some o → h'.get? c = some o) → Q none { s with heap := h' }) : wpAny (model prog w) A (pyNext (.ref z)) Q E s := by
  obtain ⟨zz,ti,⟨a,b,to⟩,w1,w2⟩ := Z
  have ty : s.TypeIs (.ref z) "zip" := ⟨_,zz,rfl⟩
  unfold pyNext
  refine wpAny_bind (wpAny_attempt (wpAny_callSpecial?_slot (name := Str.ofString "__next__") ty F.slot_zip_next (wpAny_call_entry F.slot_zip_next ty F.entry_zip_next ?_ (F.args_zip_next_1 _))))
  refine zn_end hh D zz ti to w1 w2 q1 q2 he fun h' e b1 ⟨u,hu,cu⟩ => ?_
  exact wpAny_bind (wpAny_isInstance (T := "StopIteration") (b := true) ⟨u,hu,cu⟩ isSubtype_stop (wpAny_pure (k _ b1)))
noncomputable abbrev zA (t1 : Bool) (h : Heap) (l1 : Addr) : Heap := h.push { cls := .type (if t1 then "tuple_iterator" else "list_iterator"),data := .fields #[.ref l1,.int 0 0] }
noncomputable abbrev zB (t1 t2 : Bool) (h : Heap) (l1 l2 : Addr) : Heap := zA t2 (zA t1 h l1) l2
noncomputable abbrev zC (t1 t2 : Bool) (h : Heap) (l1 l2 : Addr) : Heap := (zB t1 t2 h l1 l2).push { cls := .type "tuple",data := .seq #[.ref h.objs.size,.ref (zA t1 h l1).objs.size] }
noncomputable abbrev zD (t1 t2 : Bool) (h : Heap) (l1 l2 : Addr) : Heap := (zC t1 t2 h l1 l2).push { cls := .type "tuple",data := .seq #[.none,.none] }
noncomputable abbrev zE (t1 t2 : Bool) (h : Heap) (l1 l2 : Addr) : Heap := (zD t1 t2 h l1 l2).push { cls := .type "zip",data := .fields #[.none,.bool false,.bool false,.ref (zB t1 t2 h l1 l2).objs.size,.ref (zC t1 t2 h l1 l2).objs.size] }
theorem zmade00 (l1 l2 : Addr) (xs ys : Array Value) :
    Meets (Builtin.«zip.__new__» ⟨[.type "zip",.ref l1,.ref l2],[]⟩) (fun _ R s => s.heap.IsList l1 xs ∧ s.heap.IsList l2 ys ∧
      R (.ok (.ret (.ref (zD false false s.heap l1 l2).objs.size))) { s with heap := zE false false s.heap l1 l2 }) :=
  .of_wp fun prog w A R s h => by
    obtain ⟨hp,g,d,tk,os⟩ := s
    obtain ⟨m1,m2,h⟩ := h
    have sub := sub_zip
    have c1 : Heap.IsList (Shared.heap ⟨hp,g,d,tk,os⟩) l1 xs := m1
    have c2 : Heap.IsList (Shared.heap ⟨hp.push { cls := .type "list_iterator",data := .fields #[.ref l1,.int 0 0] },g,d,tk,os⟩) l2 ys := by
      obtain ⟨o,ho,r⟩ := m2
      exact ⟨o,Heap.get?_push_of_some _ ho,r⟩
    wp_walk using wpAny_pyIter_list c1,wpAny_pyIter_list c2
    exact ⟨_,rfl,h⟩
theorem zmade01 (l1 l2 : Addr) (xs ys : Array Value) :
    Meets (Builtin.«zip.__new__» ⟨[.type "zip",.ref l1,.ref l2],[]⟩) (fun _ R s => s.heap.IsList l1 xs ∧ s.heap.IsTuple l2 ys ∧
      R (.ok (.ret (.ref (zD false true s.heap l1 l2).objs.size))) { s with heap := zE false true s.heap l1 l2 }) :=
  .of_wp fun prog w A R s h => by
    obtain ⟨hp,g,d,tk,os⟩ := s
    obtain ⟨m1,m2,h⟩ := h
    have sub := sub_zip
    have c1 : Heap.IsList (Shared.heap ⟨hp,g,d,tk,os⟩) l1 xs := m1
    have c2 : Heap.IsTuple (Shared.heap ⟨hp.push { cls := .type "list_iterator",data := .fields #[.ref l1,.int 0 0] },g,d,tk,os⟩) l2 ys := by
      obtain ⟨o,ho,r⟩ := m2
      exact ⟨o,Heap.get?_push_of_some _ ho,r⟩
    wp_walk using wpAny_pyIter_list c1,wpAny_pyIter_tuple c2
    exact ⟨_,rfl,h⟩
theorem zmade10 (l1 l2 : Addr) (xs ys : Array Value) :
    Meets (Builtin.«zip.__new__» ⟨[.type "zip",.ref l1,.ref l2],[]⟩) (fun _ R s => s.heap.IsTuple l1 xs ∧ s.heap.IsList l2 ys ∧
      R (.ok (.ret (.ref (zD true false s.heap l1 l2).objs.size))) { s with heap := zE true false s.heap l1 l2 }) :=
  .of_wp fun prog w A R s h => by
    obtain ⟨hp,g,d,tk,os⟩ := s
    obtain ⟨m1,m2,h⟩ := h
    have sub := sub_zip
    have c1 : Heap.IsTuple (Shared.heap ⟨hp,g,d,tk,os⟩) l1 xs := m1
    have c2 : Heap.IsList (Shared.heap ⟨hp.push { cls := .type "tuple_iterator",data := .fields #[.ref l1,.int 0 0] },g,d,tk,os⟩) l2 ys := by
      obtain ⟨o,ho,r⟩ := m2
      exact ⟨o,Heap.get?_push_of_some _ ho,r⟩
    wp_walk using wpAny_pyIter_tuple c1,wpAny_pyIter_list c2
    exact ⟨_,rfl,h⟩
theorem zmade11 (l1 l2 : Addr) (xs ys : Array Value) :
    Meets (Builtin.«zip.__new__» ⟨[.type "zip",.ref l1,.ref l2],[]⟩) (fun _ R s => s.heap.IsTuple l1 xs ∧ s.heap.IsTuple l2 ys ∧
      R (.ok (.ret (.ref (zD true true s.heap l1 l2).objs.size))) { s with heap := zE true true s.heap l1 l2 }) :=
  .of_wp fun prog w A R s h => by
    obtain ⟨hp,g,d,tk,os⟩ := s
    obtain ⟨m1,m2,h⟩ := h
    have sub := sub_zip
    have c1 : Heap.IsTuple (Shared.heap ⟨hp,g,d,tk,os⟩) l1 xs := m1
    have c2 : Heap.IsTuple (Shared.heap ⟨hp.push { cls := .type "tuple_iterator",data := .fields #[.ref l1,.int 0 0] },g,d,tk,os⟩) l2 ys := by
      obtain ⟨o,ho,r⟩ := m2
      exact ⟨o,Heap.get?_push_of_some _ ho,r⟩
    wp_walk using wpAny_pyIter_tuple c1,wpAny_pyIter_tuple c2
    exact ⟨_,rfl,h⟩
theorem zmade (t1 t2 : Bool) (l1 l2 : Addr) (xs ys : Array Value) :
    Meets (Builtin.«zip.__new__» ⟨[.type "zip",.ref l1,.ref l2],[]⟩) (fun _ R s => SqA t1 s.heap l1 xs ∧ SqA t2 s.heap l2 ys ∧
      R (.ok (.ret (.ref (zD t1 t2 s.heap l1 l2).objs.size))) { s with heap := zE t1 t2 s.heap l1 l2 }) :=
  match t1,t2 with
  | false,false => zmade00 l1 l2 xs ys
  | false,true => zmade01 l1 l2 xs ys
  | true,false => zmade10 l1 l2 xs ys
  | true,true => zmade11 l1 l2 xs ys
theorem call_zz {t1 t2 : Bool} {l1 l2 : Addr} {xs ys : Array Value} {Q : Value → Shared → Prop} (m1 : SqA t1 s.heap l1 xs) (m2 : SqA t2 s.heap l2 ys)
    (k : ∀ h',ZAt t1 t2 (s.heap.objs.size + 4) (s.heap.objs.size + 2) (s.heap.objs.size + 3) s.heap.objs.size (s.heap.objs.size + 1) l1 l2 0 h' .none →
      (∀ c o,s.heap.get? c = some o → h'.get? c = some o) → Q (.ref (s.heap.objs.size + 4)) { s with heap := h' }) :
    wpAny (model prog w) A (call (.type "zip") [.ref l1,.ref l2]) Q E s := by
  refine callType_new F.called_zip (by decide) (F.typeCall_zip_2 _ _) (F.newCall_zip_2 _ _) (fun obj => F.args_object_init_3 obj _ _) F.entry_zip_new (zmade t1 t2 l1 l2 xs ys) ⟨m1,m2,?_⟩
  have y1 : (zA t1 s.heap l1).objs.size = s.heap.objs.size + 1 := Heap.size_push ..
  have y2 : (zB t1 t2 s.heap l1 l2).objs.size = s.heap.objs.size + 2 := by rw [Heap.size_push,y1]
  have y3 : (zC t1 t2 s.heap l1 l2).objs.size = s.heap.objs.size + 3 := by rw [Heap.size_push,y2]
  have y4 : (zD t1 t2 s.heap l1 l2).objs.size = s.heap.objs.size + 4 := by rw [Heap.size_push,y3]
  have up : ∀ {h : Heap} {o1 : Obj} {c : Addr} {o : Obj},h.get? c = some o → (h.push o1).get? c = some o := fun e => Heap.get?_push_of_some _ e
  have o5 : (zE t1 t2 s.heap l1 l2).get? (zD t1 t2 s.heap l1 l2).objs.size = some _ := Heap.get?_push_size _ rfl
  have o4 : (zE t1 t2 s.heap l1 l2).get? (zC t1 t2 s.heap l1 l2).objs.size = some _ := up (Heap.get?_push_size _ rfl)
  have o3 : (zE t1 t2 s.heap l1 l2).get? (zB t1 t2 s.heap l1 l2).objs.size = some _ := up (up (Heap.get?_push_size _ rfl))
  have o2 : (zE t1 t2 s.heap l1 l2).get? (zA t1 s.heap l1).objs.size = some _ := up (up (up (Heap.get?_push_size _ rfl)))
  have o1 : (zE t1 t2 s.heap l1 l2).get? s.heap.objs.size = some _ := up (up (up (up (Heap.get?_push_size _ rfl))))
  show _ ∧ _
  rw [y2,y3,y4] at o5
  rw [y3] at o4
  rw [y1,y2] at o3
  rw [y1] at o2
  rw [y4]
  exact ⟨⟨_,o5,rfl⟩,k _ ⟨o5,o3,⟨_,_,o4⟩,⟨_,o1,rfl,rfl⟩,⟨_,o2,rfl,rfl⟩⟩ fun c o e => up (up (up (up (up e))))⟩
end
section
variable {X : Cx} {pins : List (Addr × Obj)} {σ : St} {H : Hp} {s : Shared} {h' : Heap}
theorem Inv.turnedM {t' : Nat} {ch : List Addr} (I : Inv X pins σ H s) (hf : ∀ b ∈ ch,FpOk X pins H b) (k : ∀ b o,b ∉ ch → s.heap.get? b = some o → h'.get? b = some o) : Inv X pins σ H { s with heap := h',toks := t' } := by
  have far : ∀ b u,H b = some u → b ∉ ch := fun b u e z => by rw [(hf b z).1] at e; cases e
  refine I.step (g' := s.gens) (d' := s.drawn) (ch := ch) (fun b hb => ?_) (fun b o _ _ hc e _ => k b o hc e) (fun b o _ _ hc e _ => ⟨o.slots,k b o hc e⟩) (fun _ _ _ _ n => n)
    (fun b o hc e => ⟨o,k b o hc e⟩) (fun _ _ e => e) (fun _ _ _ e => e) (fun b ps e => ⟨#[],by rw [e]; simp⟩) (fun m hm => ?_) (fun b u e => ?_) I.bare
  · obtain ⟨_,f1,_,f3,f4,f5⟩ := hf b hb
    exact ⟨f3,f1,f4,f5⟩
  · obtain ⟨o,es,ep,ho,r⟩ := hm
    exact ⟨o,es,ep,k _ o (fun z => (hf _ z).2.1 rfl) ho,r⟩
  · refine (I.hok b u e).stay (fun c v hc q => k c v ?_ q) (fun _ q => q) fun _ _ q => q
    rcases hc with z | z
    · rw [z]; exact far b u e
    · exact far c _ z
theorem Inv.adopt {p : Addr} {o : HO} (I : Inv X pins σ H s) (f : FpOk X pins H p) (new : ObjOk X.prog X.w (upd H p o) s.heap p o) : Inv X pins σ (upd H p o) s := by
  obtain ⟨f0,f1,_,f3,f4,f5⟩ := f
  refine I.step (g' := s.gens) (d' := s.drawn) (t' := s.toks) (h' := s.heap) (ch := [p]) (fun b hb => ?_) (fun b o _ _ hc e _ => e) (fun b o _ _ hc e _ => ⟨o.slots,e⟩) (fun b _ hc _ n => ?_)
    (fun b o hc e => ⟨o,e⟩) (fun b xs e => ?_) (fun b xs _ e => ?_) (fun b ps e => ⟨#[],?_⟩) (fun m hm => hm) (fun b u e => ?_) I.bare
  · have e : b = p := by simpa using hb
    subst e
    exact ⟨f3,f1,f4,f5⟩
  · rw [upd_ne fun z => hc (by simp [z])]; exact n
  · rw [upd_ne (ne_of_none e f0)]; exact e
  · rw [upd_ne (ne_of_none e f0)]; exact e
  · rw [upd_ne (ne_of_none e f0),e]; simp
  · by_cases hb : b = p
    · subst hb; rw [upd_same] at e; cases e; exact new
    · rw [upd_ne hb] at e
      exact (I.hok b u e).stay (fun c v _ q => q) (fun c q => by rw [upd_ne (ne_of_none q f0)]; exact q) fun c xs q => by rw [upd_ne (ne_of_none q f0)]; exact q
noncomputable def SqX (K : PySem.W.Frag) (t : Bool) (H : Hp) (a : Addr) (xs : List V) : Prop := match t with
  | true => SqT K H a xs
  | false => SqL K H a xs
theorem Inv.seqX {t : Bool} {a : Addr} {xs : List V} (I : Inv X pins σ H s) (q : SqX X.K t H a xs) : ∃ its : List Value,Vals xs its ∧ SqA t s.heap a its.toArray ∧ xs.length ≤ sizeLine := by
  cases t with
  | false => obtain ⟨its,r,p,z⟩ := I.list q; exact ⟨its,r,p.isList,z⟩
  | true => obtain ⟨its,r,p,z⟩ := I.tuple q; exact ⟨its,r,p,z⟩
theorem Inv.seqX_inj {t : Bool} {a : Addr} {xs ys : List V} (I : Inv X pins σ H s) (q : SqX X.K t H a xs) (q' : SqX X.K t H a ys) : xs = ys := by
  cases t with
  | false => exact I.list_inj q q'
  | true => exact I.tuple_inj q q'
theorem Same.seqX {K : PySem.W.Frag} {t : Bool} {H H' : Hp} {a : Addr} {xs : List V} (g : Same H H') (q : SqX K t H a xs) : SqX K t H' a xs := by
  cases t with
  | false => exact g.seq q
  | true => exact g.seqT q
noncomputable def Itz (K : PySem.W.Frag) (t1 t2 : Bool) (a b : Addr) : It :=
  ⟨fun i H => ∃ xs ys x y,SqX K t1 H a xs ∧ SqX K t2 H b ys ∧ xs[i]? = some x ∧ ys[i]? = some y,
   fun i H v H' => ∃ p x y,v = .ref p ∧ H p = none ∧ H' = upd H p (.tup [x,y]) ∧ (∀ xs,SqX K t1 H a xs → xs[i]? = some x) ∧ ∀ ys,SqX K t2 H b ys → ys[i]? = some y,
   fun i H => ∃ xs ys,SqX K t1 H a xs ∧ SqX K t2 H b ys ∧ (ys.length ≤ i ∨ xs.length ≤ i)⟩
theorem turn_zip {P : Program} {w : World} {K : PySem.W.Frag} {es : List Expr} {x1 : Nat} {pos : Pos} {t1 t2 : Bool} {z TI TO i1 i2 a b : Addr} (D : Apart z TI TO i1 i2 a b) :
    Turn P w K (.Tuple es x1 pos) (Itz K t1 t2 a b) [z,TI,TO,i1,i2] z (fun i h => ZAt t1 t2 z TI TO i1 i2 a b i h .none) where
  mem := by simp
  obj := fun i h Z c hc => by
    obtain ⟨zz,ti,⟨u,v,to⟩,⟨o1,h1,_,d1⟩,⟨o2,h2,_,d2⟩⟩ := Z
    simp only [List.mem_cons,List.not_mem_nil,or_false] at hc
    rcases hc with rfl | rfl | rfl | rfl | rfl
    · exact ⟨_,zz,fun v q => by cases q⟩
    · exact ⟨_,ti,fun v q => by cases q⟩
    · exact ⟨_,to,fun v q => by cases q⟩
    · exact ⟨_,h1,fun v q => by rw [d1] at q; cases q⟩
    · exact ⟨_,h2,fun v q => by rw [d2] at q; cases q⟩
  keep := fun i h h' Z k => by
    obtain ⟨zz,ti,⟨u,v,to⟩,w1,w2⟩ := Z
    exact ⟨k _ (by simp) _ zz,k _ (by simp) _ ti,⟨u,v,k _ (by simp) _ to⟩,w1.at fun o e => k _ (by simp) o e,w2.at fun o e => k _ (by simp) o e⟩
  item := by
    intro X hP hw hK hc i pins s σ H E I hf Z hg
    subst hP hw hK
    obtain ⟨xs,ys,x,y,hq1,hq2,hx,hy⟩ := hg
    obtain ⟨its1,r1,p1,_⟩ := I.seqX hq1
    obtain ⟨its2,r2,p2,_⟩ := I.seqX hq2
    obtain ⟨u1,hu1,ru1⟩ := r1.get hx
    obtain ⟨u2,hu2,ru2⟩ := r2.get hy
    refine pn_item D Z p1 p2 (x := u1) (y := u2) (by simpa using hu1) (by simpa using hu2) fun g Z1 T1 k1 => ⟨_,rfl,?_⟩
    have zl : z ≠ s.heap.objs.size := Nat.ne_of_lt (Heap.lt_size Z.zz)
    obtain ⟨zz,ti,⟨v1,v2,to⟩,w1,w2⟩ := Z1
    obtain ⟨⟨dTIz,dTOz,d1z,d2z⟩,_⟩ := D.ne
    refine wpAny_letOwnedTupleGo_zip zz fun g' zz' m' => ?_
    have T2 : IsPair g' s.heap.objs.size u1 u2 := m'.extBut _ _ (Ne.symm zl) T1
    have I1 : Inv X pins σ H { s with heap := g' } := I.turnedM (t' := s.toks) (ch := [z,TI,TO,i1,i2]) hf fun c o hc e =>
      m'.extBut _ _ (fun q => hc (by simp [q])) (k1 c o (fun q => hc (by
        simp only [List.mem_cons,List.not_mem_nil,or_false] at q ⊢
        rcases q with q | q | q | q <;> simp [q])) e)
    have I2 : Inv X pins σ (upd H s.heap.objs.size (.tup [x,y])) { s with heap := g' } := I1.adopt (I.fpOk (Nat.le_refl _) I.fresh)
      ⟨by simp [sizeLine],[u1,u2],.cons ru1 (.cons ru2 .nil),⟨_,T2,rfl,_,rfl⟩⟩
    refine ⟨.ref s.heap.objs.size,_,I2,rfl,⟨_,x,y,rfl,I.fresh,rfl,fun xs' q => by rw [I.seqX_inj q hq1]; exact hx,fun ys' q => by rw [I.seqX_inj q hq2]; exact hy⟩,
      ⟨zz',m'.extBut _ _ dTIz ti,⟨v1,v2,m'.extBut _ _ dTOz to⟩,w1.at fun o e => m'.extBut _ _ d1z e,w2.at fun o e => m'.extBut _ _ d2z e⟩,fun c hc => ?_⟩
    rw [upd_ne]
    · exact (hf c hc).1
    · intro q
      obtain ⟨o,ho,_⟩ : ∃ o,s.heap.get? c = some o ∧ True := by
        obtain ⟨zz,ti,⟨u,v,to⟩,⟨o1,h1,_,d1⟩,⟨o2,h2,_,d2⟩⟩ := Z
        simp only [List.mem_cons,List.not_mem_nil,or_false] at hc
        rcases hc with rfl | rfl | rfl | rfl | rfl
        · exact ⟨_,zz,trivial⟩
        · exact ⟨_,ti,trivial⟩
        · exact ⟨_,to,trivial⟩
        · exact ⟨_,h1,trivial⟩
        · exact ⟨_,h2,trivial⟩
      exact absurd (Heap.lt_size ho) (by rw [q]; exact Nat.lt_irrefl _)
  done := by
    intro X hP hw hK hc i pins s σ H E I hf Z hg
    subst hP hw hK
    obtain ⟨xs,ys,hq1,hq2,hend⟩ := hg
    obtain ⟨its1,r1,p1,_⟩ := I.seqX hq1
    obtain ⟨its2,r2,p2,_⟩ := I.seqX hq2
    have n1 := r1.length
    have n2 := r2.length
    refine pn_end (I.ok.hd hc) D Z p1 p2 (hend.imp (fun q => by simp; omega) (fun q => by simp; omega)) fun g k1 => ⟨rfl,I.turnedM (t' := s.toks) (ch := [z,TI,TO,i1,i2]) hf fun c o hc e => k1 c o (fun q => hc (by
        simp only [List.mem_cons,List.not_mem_nil,or_false] at q ⊢
        rcases q with q | q | q | q <;> simp [q])) e⟩
  self := fun _ _ _ _ _ Z h => wpAny_pyIter_zip Z.zz h
noncomputable def iZip (K : PySem.W.Frag) (ta : TA) : TI := fun σ H R => ta σ H fun vs H1 => ∃ t1 t2 a b xs ys,vs = [.ref a,.ref b] ∧ SqX K t1 H1 a xs ∧ SqX K t2 H1 b ys ∧ R (Itz K t1 t2 a b) H1
theorem pi_zip (K : PySem.W.Frag) {e1 e2 : Expr} {es : List Expr} {x1 : Nat} {pos' : Pos} {ta : TA} {p pos : Pos} (hg : Gl X "zip") (hm : X.mg "zip" = none) (ha : PA X [e1,e2] ta) (hK : X.K = K := by rfl)
    (hs : starEach [e1,e2] X.env = [(false,eval e1 X.env),(false,eval e2 X.env)] := by rfl) (hs2 : starEach [e2] X.env = [(false,eval e2 X.env)] := by rfl) :
    PI X (.Tuple es x1 pos') (.Call (.Name "zip" p) [e1,e2] [] pos) (iZip K ta) := by
  subst hK
  intro pins s σ H R I h
  refine Call_ (ld_blt I hg hm boot_zip (PyProof.Rows.callWith_type1 (thn (ha pos pins s σ H _ I h) fun us s1 ⟨vs,H1,I1,r1,q1⟩ => ?_) (by rw [hs,hs2]) (by rw [hs2]; rfl)))
  obtain ⟨t1,t2,a,b,xs,ys,e,hq1,hq2,q⟩ := q1
  subst e
  cases r1 with
  | cons r rr =>
    cases rr with
    | cons r' rr =>
      cases rr
      cases r
      cases r'
      obtain ⟨its1,v1,p1,_⟩ := I1.seqX hq1
      obtain ⟨its2,v2,p2,_⟩ := I1.seqX hq2
      refine call_zz p1 p2 fun h' Z k => ?_
      have I2 : Inv X pins σ H1 { s1 with heap := h' } := I1.kept (t' := s1.toks) k
      have lt1 : a < s1.heap.objs.size := by obtain ⟨o,ho,_⟩ := p1; exact Heap.lt_size ho
      have lt2 : b < s1.heap.objs.size := by obtain ⟨o,ho,_⟩ := p2; exact Heap.lt_size ho
      have D : Apart (s1.heap.objs.size + 4) (s1.heap.objs.size + 2) (s1.heap.objs.size + 3) s1.heap.objs.size (s1.heap.objs.size + 1) a b := by
        have bad : ∀ {c : Addr} (n : Nat),c < s1.heap.objs.size → c ≠ s1.heap.objs.size + n := fun n h q => absurd (Nat.lt_of_lt_of_le h (Nat.le_add_right _ n)) (by rw [q]; exact Nat.lt_irrefl _)
        exact ⟨by simp,by simp [bad _ lt1,show a ≠ s1.heap.objs.size from bad 0 lt1],by simp [bad _ lt2,show b ≠ s1.heap.objs.size from bad 0 lt2]⟩
      refine wpAny_pyIter_zip Z.zz ⟨_,_,_,_,H1,rfl,I2,turn_zip D,Z,fun c hc => ?_,q⟩
      have hc' : s1.heap.objs.size ≤ c := by
        simp only [List.mem_cons,List.not_mem_nil,or_false] at hc
        rcases hc with rfl | rfl | rfl | rfl | rfl
        · exact Nat.le_add_right _ _
        · exact Nat.le_add_right _ _
        · exact Nat.le_add_right _ _
        · exact Nat.le_refl _
        · exact Nat.le_add_right _ _
      exact I1.fpOk hc' (I1.hok.fresh hc')
theorem comp_zip {K : PySem.W.Frag} {t1 t2 : Bool} {a b : Addr} {xs ys : List V} {ix : List (Option Nat)} {te : TE} {σ : St} {H1 : Hp} {Q : VK} (q1 : SqX K t1 H1 a xs) (q2 : SqX K t2 H1 b ys) (hz : xs.length ≤ sizeLine) {rest : St} (hst : cst ix σ = none :: none :: rest) (F : V → V → V)
    (he : ∀ (H' : Hp) (i : Nat) (x y : V),Same H1 H' → xs[i]? = some x → ys[i]? = some y → ∀ k : VK,k (F x y) H' → te (some x :: some y :: rest) H' k)
    (hQ : ∀ D H',H1 D = none → Same H1 H' → H' D = some (.lst (List.zipWith F xs ys)) → Q (.ref D) H') :
    CompK ix (gTup K 2 (gCons (gName 0) (gCons (gName 1) gNil))) tYes te σ Q (Itz K t1 t2 a b) H1 := by
  constructor
  intro D hD
  refine ⟨fun i m σ' H' => m = xs.length - i ∧ i ≤ min xs.length ys.length ∧ (∃ o o',σ' = o :: o' :: rest) ∧ Same H1 H' ∧ H' D = some (.lst ((List.zipWith F xs ys).take i)),⟨xs.length,by simp,Nat.zero_le _,⟨none,none,hst⟩,Same.new hD _,by rw [upd_same]; simp⟩,?_⟩
  rintro i m σ' H' ⟨rfl,hi,⟨o,o',rfl⟩,g,hl⟩
  by_cases hlt : i < xs.length ∧ i < ys.length
  · have hx : xs[i]? = some xs[i] := List.getElem?_eq_getElem hlt.1
    have hy : ys[i]? = some ys[i] := List.getElem?_eq_getElem hlt.2
    refine .inr ⟨⟨xs,ys,_,_,g.seqX q1,g.seqX q2,hx,hy⟩,?_⟩
    rintro v H2 ⟨p,x,y,rfl,hp,rfl,y1,y2⟩
    have ex := y1 xs (g.seqX q1)
    have ey := y2 ys (g.seqX q2)
    have g2 : Same H' (upd H' p (.tup [x,y])) := Same.new hp _
    have pD : D ≠ p := fun q => by rw [q,hp] at hl; cases hl
    refine ⟨p,[x,y],rfl,.inl (.inl upd_same),rfl,x,[y],rfl,y,[],rfl,rfl,?_⟩
    change te (some x :: some y :: rest) (upd H' p (.tup [x,y])) _
    refine he _ i x y (g.trans g2) ex ey _ ⟨_,g2 _ _ hl,?_,xs.length - (i + 1),by omega,rfl,by omega,⟨_,_,rfl⟩,?_,?_⟩
    · rw [List.length_take]; omega
    · exact Same.upd (g.trans g2) hD _
    · rw [upd_same,List.take_add_one]
      have e : (List.zipWith F xs ys)[i]? = some (F x y) := by rw [List.getElem?_zipWith,ex,ey]
      rw [e]; rfl
  · refine .inl ⟨⟨xs,ys,g.seqX q1,g.seqX q2,by omega⟩,hQ D H' hD g ?_⟩
    rw [hl,List.take_of_length_le]
    rw [List.length_zipWith]
    omega
end
end L2
namespace L2
open PySem PySem.Spec PyProof.Rows
theorem boot_enum : bootBuiltins "enumerate" = some (.type "enumerate") := by decide +kernel
section
variable {prog : Program} {w : World} {A : Around} {E : Value → Shared → Prop} {s : Shared}
theorem en_item {t : Bool} {e it l : Addr} {i : Nat} {items : Array Value} {x old : Value} {Q : Option Value → Shared → Prop} (he : IsEnum s.heap e it i old) (h1 : ItA t s.heap it l i) (h2 : SqA t s.heap l items) (hx : items[i]? = some x) (hne : e ≠ it)
    (k : ∀ h',IsEnumOut h' e it ((i : Int) + 1) x s.heap.objs.size → ItA t h' it l (i + 1) → h'.get? s.heap.objs.size = some { cls := .type "tuple",data := .seq #[.int i s.toks,x] } →
      (∀ b o,b ∉ [e,it] → s.heap.get? b = some o → h'.get? b = some o) → Q (some (.ref s.heap.objs.size)) { s with heap := h',toks := s.toks + 1 }) : wpAny (model prog w) A (pyNext (.ref e)) Q E s := by
  have ty : s.TypeIs (.ref e) "enumerate" := ⟨_,he,rfl⟩
  unfold pyNext
  refine wpAny_bind (wpAny_attempt (wpAny_callSpecial?_slot (name := Str.ofString "__next__") ty F.slot_enumerate_next (wpAny_call_entry F.slot_enumerate_next ty F.entry_enumerate_next ?_ (F.args_enumerate_next_1 _))))
  obtain ⟨hp,g,d,tk,os⟩ := s
  have el : e < hp.objs.size := Heap.lt_size he
  show wpAny _ _ (field (.ref e) 2 >>= _) _ _ _
  refine wpAny_bind (wpAny_field he rfl (x := Value.ref it) rfl ?_)
  refine wpAny_bind (nx_item h1 h2 hx fun g1 n1 m1 => ?_)
  replace m1 : Heap.SameBut it hp g1 := m1
  have e1 : IsEnum g1 e it i old := m1.extBut _ _ hne he
  show wpAny _ _ (field (.ref e) 3 >>= _) _ _ ⟨g1,g,d,tk,os⟩
  refine wpAny_bind (wpAny_field e1 rfl (x := rawInt i) rfl ?_)
  show wpAny _ _ (field (.ref e) 4 >>= _) _ _ ⟨g1,g,d,tk,os⟩
  refine wpAny_bind (wpAny_field e1 rfl (x := Value.none) rfl ?_)
  show wpAny _ _ (mkInt i >>= _) _ _ ⟨g1,g,d,tk,os⟩
  refine wpAny_bind (wpAny_mkInt (Q := _) ?_)
  show wpAny _ _ (setField (.ref e) 3 (rawInt ((i : Int) + 1)) >>= _) _ _ ⟨g1,g,d,tk + 1,os⟩
  refine wpAny_bind (wpAny_setField_rec e1 (by simp) fun g2 e2 m2 => ?_)
  replace m2 : Heap.SameBut e g1 g2 := m2
  replace e2 : IsEnum g2 e it ((i : Int) + 1) old := e2
  show wpAny _ _ (setField (.ref e) 4 .none >>= _) _ _ ⟨g2,g,d,tk + 1,os⟩
  refine wpAny_bind (wpAny_setField_rec e2 (by simp) fun g3 e3 m3 => ?_)
  replace m3 : Heap.SameBut e g2 g3 := m3
  replace e3 : IsEnum g3 e it ((i : Int) + 1) old := e3
  show wpAny _ _ (newTuple [.int i tk,x] >>= _) _ _ ⟨g3,g,d,tk + 1,os⟩
  refine wpAny_bind (wpAny_newTuple (Q := _) ?_)
  have sz : g3.objs.size = hp.objs.size := by rw [m3.1,m2.1,m1.1]
  have e4 : IsEnum (g3.push { cls := .type "tuple",data := .seq #[.int i tk,x] }) e it ((i : Int) + 1) old := Heap.get?_push_of_some _ e3
  have t4 : (g3.push { cls := .type "tuple",data := .seq #[.int i tk,x] }).get? hp.objs.size = some { cls := .type "tuple",data := .seq #[.int i tk,x] } := by rw [← sz]; exact Heap.get?_push_size _ rfl
  have up4 : ∀ b o,b ≠ e → b ≠ it → hp.get? b = some o → (g3.push { cls := .type "tuple",data := .seq #[.int i tk,x] }).get? b = some o := fun b o c1 c2 q => Heap.get?_push_of_some _ (m3.extBut _ _ c1 (m2.extBut _ _ c1 (m1.extBut _ _ c2 q)))
  have n4 : ItA t (g3.push { cls := .type "tuple",data := .seq #[.int i tk,x] }) it l (i + 1) := n1.at fun o q => Heap.get?_push_of_some _ (m3.extBut _ _ (Ne.symm hne) (m2.extBut _ _ (Ne.symm hne) q))
  rw [sz]
  generalize g3.push { cls := .type "tuple",data := .seq #[.int i tk,x] } = g4 at e4 t4 up4 n4
  show wpAny _ _ (Builtin.SmallTypes.ownedTupleIsFree (.ref e) >>= _) _ _ ⟨g4,g,d,tk + 1,os⟩
  refine wpAny_bind ?_
  unfold Builtin.SmallTypes.ownedTupleIsFree
  refine wpAny_bind (wpAny_field e4 rfl (x := Value.none) rfl (wpAny_pure (Q := _) ?_))
  simp only [if_true]
  refine wpAny_bind (wpAny_rule (Q := _) ?_)
  refine wpAny_bind (wpAny_field e4 rfl (x := old) rfl ?_)
  refine wpAny_bind (wpAny_setField_rec e4 (by simp) fun g5 e5 m5 => ?_)
  replace m5 : Heap.SameBut e g4 g5 := m5
  replace e5 : IsEnum g5 e it ((i : Int) + 1) x := e5
  show wpAny _ _ (Builtin.SmallTypes.ownedTupleHandOut (.ref e) (.ref hp.objs.size) >>= _) _ _ ⟨g5,g,d,tk + 1,os⟩
  refine wpAny_bind ?_
  unfold Builtin.SmallTypes.ownedTupleHandOut
  refine wpAny_bind (wpAny_setField_rec e5 (by simp) fun g6 e6 m6 => ?_)
  replace m6 : Heap.SameBut e g5 g6 := m6
  replace e6 : IsEnumOut g6 e it ((i : Int) + 1) x hp.objs.size := e6
  refine wpAny_setField_rec e6 (by simp) fun g7 e7 m7 => ?_
  replace m7 : Heap.SameBut e g6 g7 := m7
  replace e7 : IsEnumOut g7 e it ((i : Int) + 1) x hp.objs.size := e7
  have up : ∀ b o,b ≠ e → g4.get? b = some o → g7.get? b = some o := fun b o c1 q => m7.extBut _ _ c1 (m6.extBut _ _ c1 (m5.extBut _ _ c1 q))
  refine wpAny_bind (wpAny_letGo (wpAny_pure ⟨_,rfl,wpAny_pure (k g7 e7 (n4.at fun o q => up _ o (Ne.symm hne) q) (up _ _ (Nat.ne_of_gt el) t4) fun b o hb q => ?_)⟩))
  simp only [List.mem_cons,List.not_mem_nil,or_false,not_or] at hb
  exact up b o hb.1 (up4 b o hb.1 hb.2 q)
theorem en_end {t : Bool} {e it l : Addr} {i : Nat} {items : Array Value} {old : Value} {Q : Option Value → Shared → Prop} (hh : A.handled = none) (he : IsEnum s.heap e it i old) (h1 : ItA t s.heap it l i) (h2 : SqA t s.heap l items) (hx : items[i]? = none)
    (k : ∀ h',(∀ b o,b ∉ [e,it] → s.heap.get? b = some o → h'.get? b = some o) → Q none { s with heap := h' }) : wpAny (model prog w) A (pyNext (.ref e)) Q E s := by
  have ty : s.TypeIs (.ref e) "enumerate" := ⟨_,he,rfl⟩
  unfold pyNext
  refine wpAny_bind (wpAny_attempt (wpAny_callSpecial?_slot (name := Str.ofString "__next__") ty F.slot_enumerate_next (wpAny_call_entry F.slot_enumerate_next ty F.entry_enumerate_next ?_ (F.args_enumerate_next_1 _))))
  show wpAny _ _ (field (.ref e) 2 >>= _) _ _ _
  refine wpAny_bind (wpAny_field he rfl (x := Value.ref it) rfl ?_)
  refine wpAny_bind (nx_end hh h1 h2 hx fun h' x m ⟨u,hu,cu⟩ => ?_)
  refine wpAny_bind (wpAny_isInstance (T := "StopIteration") (b := true) ⟨u,hu,cu⟩ isSubtype_stop (wpAny_pure (k _ fun b o hb q => m b o (fun z => hb (by simp [z])) q)))
noncomputable abbrev eA (t : Bool) (h : Heap) (l : Addr) : Heap := h.push { cls := .type (if t then "tuple_iterator" else "list_iterator"),data := .fields #[.ref l,.int 0 0] }
noncomputable abbrev eB (t : Bool) (h : Heap) (l : Addr) : Heap := (eA t h l).push { cls := .type "enumerate",data := .fields #[.none,.bool false,.ref h.objs.size,rawInt 0,.none,.none] }
set_option maxRecDepth 100000 in
theorem emade1 (l : Addr) (items : Array Value) (n : Nat) (dct : Option Addr) (sl : Array (Option Value)) :
    Meets (Builtin.«enumerate.__new__» ⟨[.type "enumerate",.ref l],[]⟩) (fun _ R s => s.heap.get? l = some { cls := .type "tuple",dict := dct,data := .seq items n,slots := sl } ∧
      R (.ok (.ret (.ref (eA true s.heap l).objs.size))) { s with heap := eB true s.heap l }) :=
  .of_wp fun prog w A R s h => by
    obtain ⟨hp,g,d,tk,os⟩ := s
    obtain ⟨hl,h⟩ := h
    have hsub := sub_enumerate
    have hL : Heap.IsTuple (Shared.heap ⟨hp,g,d,tk,os⟩) l items := ⟨_,hl,rfl,n,rfl⟩
    wp_walk using AutoSeq1.wpAny_loadPart' hl
    refine wpAny_stack_any fun st => wpAny_pure ?_
    split
    · rename_i c _ _ _ _ _
      cases (c == Value.type "enumerate")
      · wp_walk using AutoSeq1.wpAny_loadPart' hl,wpAny_pyIter_tuple hL
        exact ⟨_,rfl,h⟩
      · wp_walk using AutoSeq1.wpAny_loadPart' hl,wpAny_pyIter_tuple hL
        exact ⟨_,rfl,h⟩
    · wp_walk using AutoSeq1.wpAny_loadPart' hl,wpAny_pyIter_tuple hL
      exact ⟨_,rfl,h⟩
theorem emade (t : Bool) (l : Addr) (items : Array Value) (n : Nat) (dct : Option Addr) (sl : Array (Option Value)) :
    Meets (Builtin.«enumerate.__new__» ⟨[.type "enumerate",.ref l],[]⟩) (fun _ R s => s.heap.get? l = some { cls := .type (if t then "tuple" else "list"),dict := dct,data := .seq items n,slots := sl } ∧
      R (.ok (.ret (.ref (eA t s.heap l).objs.size))) { s with heap := eB t s.heap l }) :=
  match t with
  | false => meets_enumerate_newL l items n dct sl
  | true => emade1 l items n dct sl
theorem call_en {t : Bool} {l : Addr} {items : Array Value} {Q : Value → Shared → Prop} (m : SqA t s.heap l items)
    (k : ∀ h',IsEnum h' (s.heap.objs.size + 1) s.heap.objs.size 0 .none → ItA t h' s.heap.objs.size l 0 → (∀ c o,s.heap.get? c = some o → h'.get? c = some o) → Q (.ref (s.heap.objs.size + 1)) { s with heap := h' }) :
    wpAny (model prog w) A (call (.type "enumerate") [.ref l]) Q E s := by
  obtain ⟨⟨c,dct,dt,sl⟩,hl,hc,n,hd⟩ := m
  replace hc : c = .type (if t then "tuple" else "list") := hc
  replace hd : dt = .seq items n := hd
  subst hc hd
  refine callType_new F.called_enumerate (by decide) (F.typeCall_enumerate_1 _) (F.newCall_enumerate_1 _) (fun obj => F.args_object_init_2 obj _) F.entry_enumerate_new (emade t l items n dct sl) ⟨hl,?_⟩
  have y1 : (eA t s.heap l).objs.size = s.heap.objs.size + 1 := Heap.size_push ..
  have o2 : (eB t s.heap l).get? (eA t s.heap l).objs.size = some _ := Heap.get?_push_size _ rfl
  have o1 : (eB t s.heap l).get? s.heap.objs.size = some _ := Heap.get?_push_of_some _ (Heap.get?_push_size _ rfl)
  show _ ∧ _
  rw [y1] at o2 ⊢
  exact ⟨⟨_,o2,rfl⟩,k _ o2 ⟨_,o1,rfl,rfl⟩ fun c o q => Heap.get?_push_of_some _ (Heap.get?_push_of_some _ q)⟩
end
section
variable {X : Cx} {pins : List (Addr × Obj)} {σ : St} {H : Hp} {s : Shared} {h' : Heap}
structure EAt (t : Bool) (e it l : Addr) (i : Nat) (h : Heap) : Prop where
  ee : ∃ old,IsEnum h e it (i : Int) old
  w1 : ItA t h it l i
noncomputable def Ite (K : PySem.W.Frag) (t : Bool) (a : Addr) : It :=
  ⟨fun i H => ∃ xs x,SqX K t H a xs ∧ xs[i]? = some x,
   fun i H v H' => ∃ p x,v = .ref p ∧ H p = none ∧ H' = upd H p (.tup [.int (i : Int),x]) ∧ ∀ xs,SqX K t H a xs → xs[i]? = some x,
   fun i H => ∃ xs,SqX K t H a xs ∧ xs.length ≤ i⟩
theorem turn_enum {P : Program} {w : World} {K : PySem.W.Frag} {es : List Expr} {x1 : Nat} {pos : Pos} {t : Bool} {e it a : Addr} (hne : e ≠ it) :
    Turn P w K (.Tuple es x1 pos) (Ite K t a) [e,it] e (fun i h => EAt t e it a i h) where
  mem := by simp
  obj := fun i h Z c hc => by
    obtain ⟨⟨old,ee⟩,⟨o1,h1,_,d1⟩⟩ := Z
    simp only [List.mem_cons,List.not_mem_nil,or_false] at hc
    rcases hc with rfl | rfl
    · exact ⟨_,ee,fun v q => by cases q⟩
    · exact ⟨_,h1,fun v q => by rw [d1] at q; cases q⟩
  keep := fun i h h' Z k => by
    obtain ⟨⟨old,ee⟩,w1⟩ := Z
    exact ⟨⟨old,k _ (by simp) _ ee⟩,w1.at fun o q => k _ (by simp) o q⟩
  item := by
    intro X hP hw hK hc i pins s σ H E I hf Z hg
    subst hP hw hK
    obtain ⟨xs,x,hq,hx⟩ := hg
    obtain ⟨its,r,p,_⟩ := I.seqX hq
    obtain ⟨u,hu,ru⟩ := r.get hx
    obtain ⟨⟨old,ee⟩,w1⟩ := Z
    refine en_item ee w1 p (x := u) (by simpa using hu) hne fun g e1 n1 t1 k1 => ⟨_,rfl,?_⟩
    have el : e ≠ s.heap.objs.size := Nat.ne_of_lt (Heap.lt_size ee)
    refine wpAny_letOwnedTupleGo_enum e1 fun g' e2 m' => ?_
    have t2 : g'.get? s.heap.objs.size = some { cls := .type "tuple",data := .seq #[.int i s.toks,u] } := m'.extBut _ _ (Ne.symm el) t1
    have I1 : Inv X pins σ H { s with heap := g',toks := s.toks + 1 } := I.turnedM (t' := s.toks + 1) (ch := [e,it]) hf fun c o hc q => m'.extBut _ _ (fun z => hc (by simp [z])) (k1 c o hc q)
    have I2 : Inv X pins σ (upd H s.heap.objs.size (.tup [.int (i : Int),x])) { s with heap := g',toks := s.toks + 1 } := I1.adopt (I.fpOk (Nat.le_refl _) I.fresh)
      ⟨by simp [sizeLine],[.int i s.toks,u],.cons ⟨_,rfl⟩ (.cons ru .nil),⟨_,t2,rfl,_,rfl⟩⟩
    refine ⟨.ref s.heap.objs.size,_,I2,rfl,⟨_,x,rfl,I.fresh,rfl,fun xs' q => by rw [I.seqX_inj q hq]; exact hx⟩,⟨⟨_,e2⟩,n1.at fun o q => m'.extBut _ _ (Ne.symm hne) q⟩,fun c hc => ?_⟩
    rw [upd_ne]
    · exact (hf c hc).1
    · intro q
      obtain ⟨o,ho⟩ : ∃ o,s.heap.get? c = some o := by
        obtain ⟨o1,h1,_,d1⟩ := w1
        simp only [List.mem_cons,List.not_mem_nil,or_false] at hc
        rcases hc with rfl | rfl
        · exact ⟨_,ee⟩
        · exact ⟨_,h1⟩
      exact absurd (Heap.lt_size ho) (by rw [q]; exact Nat.lt_irrefl _)
  done := by
    intro X hP hw hK hc i pins s σ H E I hf Z hg
    subst hP hw hK
    obtain ⟨xs,hq,hend⟩ := hg
    obtain ⟨its,r,p,_⟩ := I.seqX hq
    have n1 := r.length
    obtain ⟨⟨old,ee⟩,w1⟩ := Z
    exact en_end (I.ok.hd hc) ee w1 p (by simp; omega) fun g k1 => ⟨rfl,I.turnedM (t' := s.toks) (ch := [e,it]) hf fun c o hc q => k1 c o hc q⟩
  self := fun _ _ _ _ _ Z h => by
    obtain ⟨⟨old,ee⟩,_⟩ := Z
    exact wpAny_pyIter_enum ee h
noncomputable def iEnum (K : PySem.W.Frag) (ta : TA) : TI := fun σ H R => ta σ H fun vs H1 => ∃ t a xs,vs = [.ref a] ∧ SqX K t H1 a xs ∧ R (Ite K t a) H1
theorem pi_enum (K : PySem.W.Frag) {e1 : Expr} {es : List Expr} {x1 : Nat} {pos' : Pos} {ta : TA} {p pos : Pos} (hg : Gl X "enumerate") (hm : X.mg "enumerate" = none) (ha : PA X [e1] ta) (hK : X.K = K := by rfl)
    (hs : starEach [e1] X.env = [(false,eval e1 X.env)] := by rfl) : PI X (.Tuple es x1 pos') (.Call (.Name "enumerate" p) [e1] [] pos) (iEnum K ta) := by
  subst hK
  intro pins s σ H R I h
  refine Call_ (ld_blt I hg hm boot_enum (PyProof.Rows.callWith_type1 (thn (ha pos pins s σ H _ I h) fun us s1 ⟨vs,H1,I1,r1,q1⟩ => ?_) hs rfl))
  obtain ⟨t,a,xs,e,hq,q⟩ := q1
  subst e
  cases r1 with
  | cons r rr =>
    cases rr
    cases r
    obtain ⟨its,v1,p1,_⟩ := I1.seqX hq
    refine call_en p1 fun h' ee w1 k => ?_
    have I2 : Inv X pins σ H1 { s1 with heap := h' } := I1.kept (t' := s1.toks) k
    refine wpAny_pyIter_enum ee ⟨_,_,_,_,H1,rfl,I2,turn_enum (Nat.succ_ne_self _),⟨⟨_,ee⟩,w1⟩,fun c hc => ?_,q⟩
    have hc' : s1.heap.objs.size ≤ c := by
      simp only [List.mem_cons,List.not_mem_nil,or_false] at hc
      rcases hc with rfl | rfl
      · exact Nat.le_add_right _ _
      · exact Nat.le_refl _
    exact I1.fpOk hc' (I1.hok.fresh hc')
theorem comp_enum {K : PySem.W.Frag} {t : Bool} {a : Addr} {xs : List V} {ix : List (Option Nat)} {te : TE} {σ : St} {H1 : Hp} {Q : VK} (q1 : SqX K t H1 a xs) (hz : xs.length ≤ sizeLine) {rest : St} (hst : cst ix σ = none :: none :: rest) (F : Nat → V → V)
    (he : ∀ (H' : Hp) (i : Nat) (x : V),Same H1 H' → xs[i]? = some x → ∀ k : VK,(∀ H2,Same H' H2 → k (F i x) H2) → te (some (.int (i : Int)) :: some x :: rest) H' k)
    (hQ : ∀ D H',H1 D = none → Same H1 H' → H' D = some (.lst (xs.mapIdx F)) → Q (.ref D) H') :
    CompK ix (gTup K 2 (gCons (gName 0) (gCons (gName 1) gNil))) tYes te σ Q (Ite K t a) H1 := by
  constructor
  intro D hD
  refine ⟨fun i m σ' H' => m = xs.length - i ∧ i ≤ xs.length ∧ (∃ o o',σ' = o :: o' :: rest) ∧ Same H1 H' ∧ H' D = some (.lst ((xs.mapIdx F).take i)),⟨xs.length,by simp,Nat.zero_le _,⟨none,none,hst⟩,Same.new hD _,by rw [upd_same]; simp⟩,?_⟩
  rintro i m σ' H' ⟨rfl,hi,⟨o,o',rfl⟩,g,hl⟩
  by_cases hlt : i < xs.length
  · have hx : xs[i]? = some xs[i] := List.getElem?_eq_getElem hlt
    refine .inr ⟨⟨xs,_,g.seqX q1,hx⟩,?_⟩
    rintro v H2 ⟨p,x,rfl,hp,rfl,y1⟩
    have ex := y1 xs (g.seqX q1)
    have g2 : Same H' (upd H' p (.tup [.int (i : Int),x])) := Same.new hp _
    refine ⟨p,[.int (i : Int),x],rfl,.inl (.inl upd_same),rfl,_,[x],rfl,x,[],rfl,rfl,?_⟩
    change te (some (.int (i : Int)) :: some x :: rest) (upd H' p (.tup [.int (i : Int),x])) _
    refine he _ i x (g.trans g2) ex _ fun H3 g3 => ⟨_,g3 _ _ (g2 _ _ hl),?_,xs.length - (i + 1),by omega,rfl,by omega,⟨_,_,rfl⟩,?_,?_⟩
    · rw [List.length_take,List.length_mapIdx]; omega
    · exact Same.upd ((g.trans g2).trans g3) hD _
    · rw [upd_same,List.take_add_one]
      have e : (xs.mapIdx F)[i]? = some (F i x) := by rw [List.getElem?_mapIdx,ex]; rfl
      rw [e]; rfl
  · refine .inl ⟨⟨xs,g.seqX q1,by omega⟩,hQ D H' hD g ?_⟩
    rw [hl,List.take_of_length_le]
    rw [List.length_mapIdx]
    omega
theorem for_enum {K : PySem.W.Frag} {t : Bool} {a : Addr} {xs : List V} {g : TG} {tb : TS} {D : Ends} {σ : St} {H : Hp} (Pv : Nat → St → Hp → Prop) (h0 : Pv 0 σ H) (hsq : ∀ i σ' H',Pv i σ' H' → SqX K t H' a xs)
    (hs : ∀ (i : Nat) (x : V) (σ' : St) (H' : Hp) (p : Addr),xs[i]? = some x → Pv i σ' H' → H' p = none → g (.ref p) σ' (upd H' p (.tup [.int (i : Int),x])) fun σ2 H2 => tb { D with nx := Pv (i + 1),ct := Pv (i + 1),bk := D.nx } σ2 H2)
    (hd : ∀ σ' H',Pv xs.length σ' H' → D.nx σ' H') :
    ∃ W : Nat → Nat → St → Hp → Prop,(∃ m,W 0 m σ H) ∧ ∀ i m σ H,W i m σ H →
      ((Ite K t a).stop i H ∧ D.nx σ H) ∨ ((Ite K t a).go i H ∧ ∃ N : St → Hp → Prop,(∀ σ' H',N σ' H' → ∃ m',m' < m ∧ W (i + 1) m' σ' H') ∧ ∀ x H',(Ite K t a).yld i H x H' → g x σ H' fun σ2 H2 => tb { D with nx := N,ct := N,bk := D.nx } σ2 H2) := by
  refine ⟨fun i m σ' H' => m = xs.length - i ∧ i ≤ xs.length ∧ Pv i σ' H',⟨xs.length,by simp,Nat.zero_le _,h0⟩,?_⟩
  rintro i m σ' H' ⟨rfl,hi,pv⟩
  have q1 := hsq i σ' H' pv
  by_cases hlt : i < xs.length
  · have hx : xs[i]? = some xs[i] := List.getElem?_eq_getElem hlt
    refine .inr ⟨⟨xs,_,q1,hx⟩,Pv (i + 1),fun σ2 H2 p' => ⟨xs.length - (i + 1),by omega,rfl,by omega,p'⟩,?_⟩
    rintro v H2 ⟨p,x,rfl,hp,rfl,y1⟩
    exact hs i x σ' H' p (y1 xs q1) pv hp
  · have e : i = xs.length := by omega
    refine .inl ⟨⟨xs,q1,by omega⟩,hd σ' H' ?_⟩
    rw [← e]; exact pv
end
end L2
namespace L2
open PySem PySem.Spec PyProof.Rows
theorem Room.hu {k : Nat} {A : Around} (r : Room k A) : A.units + 1 < cLine := by have := r.un; omega
theorem meets_lenT {prog : Program} {w : World} {d : Addr} (hd : (d == sysModules) = false) :
    MeetsIn prog w (Builtin.«dict.__len__» ⟨[.ref d],[]⟩) (fun _ R s => ∃ n o es ep,s.heap.get? d = some o ∧ o.data = .dict es ep ∧ es.size = n ∧ R (.ok (.ret (.int n s.toks))) { s with toks := s.toks + 1 }) :=
  .of_wp fun A R s ⟨n,o,es,ep,ho,hdat,hn,h⟩ => by
    show wpAny _ _ (dictSize d >>= _) _ _ s
    unfold dictSize
    refine wpAny_bind (wpAny_bind (wpAny_dictEntries ho hdat (wpAny_pure ?_)))
    show wpAny _ _ (Builtin.Dict.pendingCount d >>= _) _ _ s
    refine wpAny_bind (wpAny_pendingCount_other hd ?_)
    refine wpAny_ret_mkInt ?_
    rw [Nat.add_zero,hn]; exact h
theorem len_bodyT {prog : Program} {w : World} {A : Around} {E : Value → Shared → Prop} {s : Shared} {d : Addr} {n : Nat} {o : Obj} {es : Array DictEntry} {ep : Nat} {Q : Value → Shared → Prop} (hd : (d == sysModules) = false) (hty : s.TypeIs (.ref d) "dict")
    (ho : s.heap.get? d = some o) (hdat : o.data = .dict es ep) (hn : es.size = n) (hfit : (n : Int) < 2 ^ 63)
    (h : Q (.int n (s.toks + 1)) { s with toks := s.toks + 1 + 1 }) : wpAny (model prog w) A (Builtin.«len» ⟨[.ref d],[]⟩) (fun fin s' => ∃ r,fin = .done (.ret r) ∧ Q r s') E s := by
  unfold Builtin.«len»
  refine wpAny_bind (m := oneArg "len" _) (wpAny_pure ?_)
  refine wpAny_bind (m := callSpecial? (.ref d) (Str.ofString "__len__")) (wpAny_callSpecial?_slot (name := Str.ofString "__len__") hty PySem.F.slot_dict_len
    (call_meetsIn PySem.F.slot_dict_len hty PySem.F.entry_dict_len (PySem.F.args_dict_len_1 _) (meets_lenT hd) ⟨n,o,es,ep,ho,hdat,hn,?_⟩))
  show wpAny _ _ _ _ _ { s with toks := s.toks + 1 }
  refine wpAny_bind (wpAny_holding (wpAny_pure ?_))
  refine wpAny_bind (wpAny_letGo ?_)
  show wpAny _ _ (if ((n : Nat) : Int) < 0 then _ else _) _ _ _
  rw [if_neg (by omega)]
  show wpAny _ _ (if ((n : Nat) : Int) ≥ 2 ^ 63 then _ else _) _ _ _
  rw [if_neg (by omega)]
  exact wpAny_bind (wpAny_mkInt (wpAny_pure ⟨_,rfl,h⟩))
theorem call_lenT {X : Cx} : CallR X (.builtin "len") (fun xs H Q => ∃ a kvs,xs = [V.ref a] ∧ H a = some (.dT kvs) ∧ Q (.int kvs.length) H) := by
  intro pins s σ H xs us Q I r h
  obtain ⟨a,kvs,rfl,ha,q⟩ := h
  obtain ⟨u,rfl,ru⟩ := vals1 r
  cases ru
  obtain ⟨z,hd,xs,rel,dd⟩ := dt_of I.hok ha
  have ty := dd.typeIs
  obtain ⟨o,es,ep,ho,hc,hdat,he,_⟩ := id dd
  have e1 : es.size = kvs.length := by
    rw [size_of_entries he]; exact rel.length.symm
  refine PySem.Calls.call_function_entry PySem.kind_len PySem.plain_len PySem.entry_len (PySem.args_len1 _) (len_bodyT hd ty ho hdat e1 (by rw [sizeLine_eq] at z; omega) ?_)
  exact ⟨.int kvs.length,H,I.tok _,⟨_,rfl⟩,q⟩
end L2
namespace L2
open PySem PySem.Spec PyProof.Rows
end L2
namespace L2
open PySem PySem.Spec PyProof.Rows
noncomputable def Itd (lo : Int) (n : Nat) : It := ⟨fun i _ => i < n,fun i H x H' => H' = H ∧ x = .int (lo - i),fun i _ => n ≤ i⟩
theorem turn_down {P : Program} {w : World} {K : PySem.W.Frag} {tg : Expr} (it : Addr) (lo : Int) (n : Nat) : Turn P w K tg (Itd lo n) [it] it (fun i h => IsRangeIter h it (lo + (i : Nat) * (-1)) ((n : Int) - (i : Nat)) (-1)) where
  mem := by simp
  obj := fun i h st b hb => by
    have e : b = it := by simpa using hb
    subst e
    exact ⟨_,st,fun v z => by
      have z' : Data.fields _ = Data.cell v := z
      cases z'⟩
  keep := fun i h h' st k => k it (by simp) _ st
  item := by
    intro X hP hw hK hc i pins s σ H E I hf st hg
    subst hP hw hK
    obtain ⟨f0,f1,f2,f3,f4,f5⟩ := hf it (by simp)
    have W := Walks.range (prog := X.prog) (w := X.w) (I.ok.hd hc) it lo (-1) n
    refine W.item i s _ _ hg st fun v h' tk hv st' kk => ?_
    obtain ⟨t,rfl⟩ := hv
    have I1 : Inv X pins σ H { s with heap := h',toks := tk } := I.turned (fun b o hb e => kk b o (by simpa using hb) e) f0 f1 f3 f4 f5
    refine ⟨_,rfl,go_of (s := { s with heap := h',toks := tk }) (n := "range_iterator") st' rfl rfl (by decide) ⟨.int (lo - i),H,I1,⟨t,?_⟩,⟨rfl,rfl⟩,st',fun b hb => (hf b hb).1⟩⟩
    rw [Int.mul_neg_one]; rfl
  done := by
    intro X hP hw hK hc i pins s σ H E I hf st hg
    subst hP hw hK
    obtain ⟨f0,f1,f2,f3,f4,f5⟩ := hf it (by simp)
    exact wpAny_pyNext_range_end (I.ok.hd hc) st (by have : n ≤ i := hg; omega) fun h' eb => ⟨rfl,I.turned (t' := s.toks) (fun b o hb e => eb b o hb e) f0 f1 f3 f4 f5⟩
  self := fun _ _ _ _ _ st h => wpAny_pyIter_rangeiter st h
theorem rangeSize_down (a b : Int) : Builtin.Range.rangeSize a b (-1) = if b < a then a - b else 0 := by
  unfold Builtin.Range.rangeSize
  simp only [show ¬ (-1 : Int) > 0 by decide,if_false,Int.neg_neg,Int.ediv_one]
  split <;> omega
theorem small_down {a b : Int} (ha : -(2 ^ 62) ≤ a) (ha' : a < 2 ^ 62) (hb : -(2 ^ 62) ≤ b) (hb' : b < 2 ^ 62) : Builtin.Range.small a b (-1) = true := by
  unfold Builtin.Range.small
  rw [rangeSize_down]
  simp only [Builtin.Range.rangeFitsLong,Bool.and_eq_true,Bool.or_eq_true,decide_eq_true_eq,beq_iff_eq,show ¬ (-1 : Int) > 0 by decide,if_false]
  split <;> omega
section
variable {X : Cx} {tg : Expr}
theorem down_it {pins : List (Addr × Obj)} {σ : St} {H : Hp} {s : Shared} {R : It → Hp → Prop} {E : Value → Shared → Prop} {lo hi : Int} {t u v : Tok} {tk : Nat} (I : Inv X pins σ H s) (h1 : -(2 ^ 62) ≤ lo) (h2 : lo < 2 ^ 62) (h3 : -(2 ^ 62) ≤ hi) (h4 : hi < 2 ^ 62)
    (q : R (Itd lo (lo - hi).toNat) H) : wpAny (model X.prog X.w) X.A (pyIter (.ref s.heap.objs.size)) (PIE X pins σ tg R) E { s with heap := s.heap.push { cls := .type "range",data := .fields #[.int lo t,.int hi u,.int (-1) v] },toks := tk } := by
  refine wpAny_pyIter_range (IsRange.new ..) (small_down h1 h2 h3 h4) ?_
  have I1 : Inv X pins σ H { s with heap := s.heap.push { cls := .type "range",data := .fields #[.int lo t,.int hi u,.int (-1) v] },toks := tk } := I.kept fun b o e => Heap.get?_push_of_some _ e
  refine ⟨(s.heap.push { cls := .type "range",data := .fields #[.int lo t,.int hi u,.int (-1) v] }).objs.size,[(s.heap.push { cls := .type "range",data := .fields #[.int lo t,.int hi u,.int (-1) v] }).objs.size],_,_,H,rfl,
    I1.kept (t' := tk) fun b o e => Heap.get?_push_of_some _ e,turn_down _ lo (lo - hi).toNat,?_,fun b hb => ?_,q⟩
  · have e1 : lo + ((0 : Nat) : Int) * (-1) = lo := by simp
    have e2 : (((lo - hi).toNat : Nat) : Int) - ((0 : Nat) : Int) = Builtin.Range.rangeSize lo hi (-1) := by rw [rangeSize_down]; split <;> omega
    show IsRangeIter _ _ (lo + ((0 : Nat) : Int) * (-1)) ((((lo - hi).toNat : Nat) : Int) - ((0 : Nat) : Int)) (-1)
    rw [e1,e2]
    exact Heap.get?_push_size _ rfl
  · have e : b = (s.heap.push { cls := .type "range",data := .fields #[.int lo t,.int hi u,.int (-1) v] }).objs.size := by simpa using hb
    subst e
    exact I1.fpOk (Nat.le_refl _) (I1.hok.fresh (Nat.le_refl _))
noncomputable def iRngD (ta : TA) : TI := fun σ H R => ta σ H fun vs H1 => ∃ i j : Int,vs = [.int i,.int j,.int (-1)] ∧ (-(2 ^ 62) ≤ i ∧ i < 2 ^ 62 ∧ -(2 ^ 62) ≤ j ∧ j < 2 ^ 62) ∧ R (Itd i (i - j).toNat) H1
theorem pi_rangeD {a b c : Expr} {ta : TA} {p pos : Pos} (hg : Gl X "range") (hm : X.mg "range" = none) (ha : PA X [a,b,c] ta) (hs : starEach [a,b,c] X.env = (false,eval a X.env) :: starEach [b,c] X.env := by rfl) (hs2 : (backTo pos (starEach [b,c] X.env)).any (·.1) = false := by rfl) :
    PI X tg (.Call (.Name "range" p) [a,b,c] [] pos) (iRngD ta) := by
  intro pins s σ H R I h
  refine Call_ (ld_blt I hg hm boot_range (PyProof.Rows.callWith_type1 (thn (ha pos pins s σ H _ I h) fun us s1 ⟨vs,H1,I1,r1,q1⟩ => ?_) hs hs2))
  obtain ⟨i,j,e,⟨q1,q2,q3,q4⟩,q⟩ := q1
  subst e
  cases r1 with
  | cons r rr =>
    cases rr with
    | cons r' rr =>
      cases rr with
      | cons r'' rr =>
        cases rr
        obtain ⟨t,rfl⟩ := r
        obtain ⟨t',rfl⟩ := r'
        obtain ⟨t'',rfl⟩ := r''
        exact call_range_3 (by decide) (down_it (tk := s1.toks) I1 q1 q2 q3 q4 q) (.inl (PyProof.noPylong_small (by omega)))
end
theorem for_down {lo : Int} {n : Nat} {g : TG} {tb : TS} {D : Ends} {σ : St} {H : Hp} (Pv : Nat → St → Hp → Prop) (h0 : Pv 0 σ H)
    (hs : ∀ i σ H,i < n → Pv i σ H → g (.int (lo - i)) σ H fun σ2 H2 => tb { D with nx := Pv (i + 1),ct := Pv (i + 1),bk := D.nx } σ2 H2) (hd : ∀ σ H,Pv n σ H → D.nx σ H) :
    ∃ W : Nat → Nat → St → Hp → Prop,(∃ m,W 0 m σ H) ∧ ∀ i m σ H,W i m σ H →
      ((Itd lo n).stop i H ∧ D.nx σ H) ∨ ((Itd lo n).go i H ∧ ∃ N : St → Hp → Prop,(∀ σ' H',N σ' H' → ∃ m',m' < m ∧ W (i + 1) m' σ' H') ∧ ∀ x H',(Itd lo n).yld i H x H' → g x σ H' fun σ2 H2 => tb { D with nx := N,ct := N,bk := D.nx } σ2 H2) := by
  refine ⟨fun i m σ H => m = n - i ∧ i ≤ n ∧ Pv i σ H,⟨n,by simp,Nat.zero_le _,h0⟩,?_⟩
  rintro i m σ H ⟨rfl,hi,p⟩
  by_cases hlt : i < n
  · refine .inr ⟨hlt,Pv (i + 1),fun σ' H' p' => ⟨n - (i + 1),by omega,rfl,hlt,p'⟩,fun x H' y => ?_⟩
    obtain ⟨e,y⟩ := y
    subst e y
    exact hs i σ _ hlt p
  · have e : i = n := by omega
    subst e
    exact .inl ⟨Nat.le_refl _,hd σ H p⟩
end L2
namespace Att
open PySem PySem.W PySem.Calls PyProof.Rows
theorem bits_of_lay {ns : List Int} (h : WData.layableAll [WData.list (ns.map WData.int)] = true) : ∀ x ∈ ns,Builtin.Int.intBits x ≤ 1048576 := by
  intro x hx
  obtain ⟨h1,_,h3⟩ := layableW_iff.mp (layW_cons h).1
  simp only [WData.canLay] at h1
  simp only [WData.weight] at h3
  have hm : WData.int x ∈ ns.map WData.int := List.mem_map.mpr ⟨x,hx,rfl⟩
  have hc : WData.canLayAll (ns.map WData.int) = true := by simpa using h1
  obtain ⟨_,_,c⟩ := items_part hm hc
  have e : WData.weight (.int x) = Builtin.Int.intBits x := rfl
  rw [e] at c
  have : (2 : Nat) ^ 20 = 1048576 := by decide
  omega
theorem attach_callB {l : OpenLaw} {n : Nat} {q : Program} {loose : List Str} {XP : (Str → Option Value) → Heap → Prop} {YP : World → Heap → Prop} {d : DefRec}
    (hn : l.most = some n) (hdf : d.params.defaults = [])
    (call : ∀ (w : World) (s₀ s₁ : Shared) (mg mb : Str → Option Value) (fa : Addr) (o : Obj) (pm cd doc : Value) (a : Addr) (vs : List Value) (ns : List Int),
      Ground q loose [] XP w s₀ mg mb s₁.heap → YP w s₁.heap →
      s₁.heap.get? fa = some o → o.data = .func (docDef d.name d.params d.body d.scope pm cd doc) → s₁.heap.CodeRec cd d.name → mg d.name = some (.ref fa) →
      s₁.heap.get? a = some { cls := .type "list",data := .seq vs.toArray } → IntsAre vs ns → ns.length ≤ n → (∀ x ∈ ns,Builtin.Int.intBits x ≤ 1048576) → s₁.gens = #[] →
      codeAny (model l.prog w) callerA (.call (.ref fa) ⟨[.ref a],[]⟩) (fun r s' => r = .ok (.ret (.bool true)) ∧ OldK s₁.heap s'.heap ∧ s'.os = s₁.os ∧ AllBare s'.gens) s₁) :
    WalkO q loose XP YP l.row.toRowW d [] (fun f vs => PySem.call f vs) := by
  intro w s₀ s₁ mg mb G Y fa o pm cd doc dV kV ho hd hcd hD hmg hg args vals as hpre hlay hrd hwl hlo
  obtain rfl : dV = .none := Dflts.none hD hdf
  obtain rfl : kV = .none := Dflts.noKw hD
  obtain ⟨a,vs,ns,rfl,rfl,hobj,hints,hlen⟩ := script_of hn hpre hwl
  refine enter_call (codeAny_mono (call w s₀ s₁ mg mb fa o pm cd doc a vs ns G Y ho (fd_plain hd) hcd hmg hobj hints hlen (bits_of_lay hlay) hg) fun r s' hq => ?_)
  obtain ⟨rfl,h2,h3,h4⟩ := hq
  exact ⟨.inl ⟨.bool true,.bool true,[],rfl,fun _ => rfl,.bool true,post_true l _,fun _ => ⟨List.Pairwise.nil,fun _ hm => (nomatch hm)⟩⟩,h2,h3,h4⟩
end Att
namespace L2
open PySem PySem.Spec PyProof.Rows
theorem walk_ofB {l : PySem.W.OpenLaw} {n k : Nat} {q : Program} {loose : List Str} {XP : (Str → Option Value) → Heap → Prop} {YP : World → Heap → Prop} {d : DefRec} {K : Params → PySem.W.Frag} {CX : World → CXT} {sp : World → Sp} {x : Str}
    (hn : l.most = some n) (hn2 : n ≤ sizeLine) (hdf : d.params.defaults = []) (hr : Room k callerA)
    (hY : ∀ (w : World) (h : Heap),YP w h → (K w.params).In h)
    (F : ∀ (w : World) (mg : Str → Option Value) (fa : Addr) (h : Heap),(K w.params).In h → h.Ns mainGlobals mg → mg d.name = some (.ref fa) →
      ∃ fd : FuncData,(∀ (s : Shared) (u : Value),BindsTo s fd ⟨[u],[]⟩ [(x,u)]) ∧
        ∀ base : Heap,(K w.params).In base → base.Ns mainGlobals mg → FnOk l.prog w (K w.params) mg base (CX w) k fa fd [x] (sp w))
    (hsp : ∀ (w : World) (H : Hp) (a : Addr) (ns : List Int),ns.length ≤ n → (∀ x ∈ ns,Builtin.Int.intBits x ≤ 1048576) → Only H → SqL (K w.params) H a (ns.map V.int) → sp w [.ref a] H (fun v _ => v = .bl true) fun _ _ _ => False)
    (hCX : ∀ (w : World) (H : Hp) (s : Shared) (e : Value) (s' : Shared),CX w [] H s (fun _ _ _ => False) e s' → False) :
    PySem.W.WalkO q loose XP YP l.row.toRowW d [] (fun f vs => PySem.call f vs) := by
  refine Att.attach_callB hn hdf fun w s₀ s₁ mg mb fa o pm cd doc a vs ns G Y ho hd hcd hmg hobj hints hlen hbits hg => ?_
  have KX := hY w _ Y
  obtain ⟨fd,hb,hF⟩ := F w mg fa _ KX G.T.g hmg
  exact law_call KX G.T.g G.T.b G.T.builtins G.T.nolimit G.T.nodigits hg hobj hints (Nat.le_trans hlen hn2) hr hF hb (fun H hO hS => hsp w H a ns hlen hbits hO hS) fun H e s' => hCX w H s₁ e s'
section
variable {X : Cx}
noncomputable def rBits : V → List V → Hp → VK → Prop := fun x vs H Q => ∃ n : Int,x = .int n ∧ vs = [] ∧ Q (.int (Builtin.Int.intBits n : Nat)) H
theorem mt_bits : MtR X "int.bit_length" rBits := by
  intro pins s σ H x vs v us Q I rx rv h
  obtain ⟨n,rfl,rfl,q⟩ := h
  obtain ⟨t,rfl⟩ := rx
  cases rv
  exact call_gives F.slot_int_bit_length (typeIs_int s n t) F.entry_int_bit_length (F.args_int_bit_length_1 _) (AutoIntG2.int_bit_length_int_0 n t) ⟨.int _,H,I.tok _,⟨_,rfl⟩,q⟩
theorem xbits (K : PySem.W.Frag) {o : Expr} {to : TE} {apos cpos : Pos} (ho : PE X o to) (hK : X.K = K := by rfl) (hbase : attributeBase o "bit_length" X.env (eval o X.env) = eval o X.env := by rfl) (hline : (apos.endLine == cpos.line) = true := by rfl) :
    PE X (.Call (.Attribute o "bit_length" apos) [] [] cpos) (tBM0 K "int" rBits to) := by
  subst hK
  exact pe_bm0 PySem.F.plainAttrs_int PySem.F.slot_int_bit_length PySem.F.type_int_bit_length mt_bits ho hbase hline
end
end L2
namespace L2
open PySem PySem.Spec PyProof.Rows
section
variable {X : Cx}
noncomputable def rMulW (K : PySem.W.Frag) : R2 := fun x y H Q => match x,y with
  | .int i,.int j => IntMulOk i j ∧ Q (.int (i * j)) H
  | .ref l,.int k => ∃ xs,SqT K H l xs ∧ 0 ≤ k ∧ k < 1000 ∧ xs.length * k.toNat ≤ 10000 ∧ (xs = [] ∨ k = 1 → Q (.ref l) H) ∧ (xs ≠ [] → k ≠ 1 → ∀ p,H p = none → Q (.ref p) (upd H p (.tup (List.replicate k.toNat xs).flatten)))
  | _,_ => False
end
end L2
namespace L2
open PySem PySem.Spec PyProof.Rows
section
variable {X : Cx}
end
end L2
namespace Rm
noncomputable def tk (b n : Int) : Int := if b = 0 then n else n % b
theorem tk_zero (n : Int) : tk 0 n = n := if_pos rfl
theorem tk_pos {b : Int} (h : b ≠ 0) (n : Int) : tk b n = n % b := if_neg h
theorem tk_tk (b n : Int) : tk b (tk b n) = tk b n := by
  unfold tk; split
  · rfl
  · exact Int.emod_emod_of_dvd _ (Int.dvd_refl b)
theorem tk_add_l (b x y : Int) : tk b (tk b x + y) = tk b (x + y) := by
  unfold tk; split
  · rfl
  · exact Int.emod_add_emod ..
theorem tk_add_r (b x y : Int) : tk b (x + tk b y) = tk b (x + y) := by
  rw [Int.add_comm,tk_add_l,Int.add_comm]
theorem tk_mul_r (b x y : Int) : tk b (x * tk b y) = tk b (x * y) := by
  unfold tk; split
  · rfl
  · rw [Int.mul_emod,Int.emod_emod_of_dvd _ (Int.dvd_refl b),← Int.mul_emod]
theorem tk_mul_l (b x y : Int) : tk b (tk b x * y) = tk b (x * y) := by
  rw [Int.mul_comm,tk_mul_r,Int.mul_comm]
theorem tk_congr_add {b x x' y y' : Int} (h : tk b x = tk b x') (h' : tk b y = tk b y') : tk b (x + y) = tk b (x' + y') := by
  rw [← tk_add_l,← tk_add_r,h,h',tk_add_r,tk_add_l]
noncomputable def S (rule : List Int) (f : Nat → Int) (n : Nat) : Nat → Int
  | 0 => 0
  | m + 1 => S rule f n m + rule.getD m 0 * f (n - 1 - m)
theorem S_congr {rule : List Int} {f g : Nat → Int} {n : Nat} : ∀ {m : Nat},(∀ k,k < m → f (n - 1 - k) = g (n - 1 - k)) → S rule f n m = S rule g n m
  | 0,_ => rfl
  | m + 1,h => by
    unfold S
    rw [S_congr fun k hk => h k (by omega),h m (by omega)]
theorem S_shift {rule : List Int} {f : Nat → Int} {n d : Nat} : ∀ {m : Nat},m ≤ n → S rule (fun i => f (d + i)) n m = S rule f (d + n) m
  | 0,_ => rfl
  | m + 1,h => by
    unfold S
    rw [S_shift (by omega),show d + n - 1 - m = d + (n - 1 - m) by omega]
theorem S_lin (b : Int) {rule : List Int} {f g : Nat → Int} {c : Int} {n : Nat} : ∀ m : Nat,tk b (S rule (fun i => tk b (f i + c * g i)) n m) = tk b (S rule f n m + c * S rule g n m)
  | 0 => by simp [S]
  | m + 1 => by
    unfold S
    have h1 := S_lin b (rule := rule) (f := f) (g := g) (c := c) (n := n) m
    have h2 : tk b (rule.getD m 0 * tk b (f (n - 1 - m) + c * g (n - 1 - m))) = tk b (rule.getD m 0 * (f (n - 1 - m) + c * g (n - 1 - m))) := tk_mul_r ..
    rw [tk_congr_add h1 h2]
    congr 1
    rw [Int.mul_add,Int.mul_add,Int.mul_left_comm (rule.getD m 0) c]
    omega
theorem getD_map {f : Int → Int} (h0 : f 0 = 0) : ∀ (l : List Int) (k : Nat),(l.map f).getD k 0 = f (l.getD k 0)
  | [],k => by simp [h0]
  | x :: r,0 => by simp
  | x :: r,k + 1 => by
    have := getD_map h0 r k
    simpa using this
noncomputable def row (b : Int) (rule starts : List Int) : Nat → List Int
  | 0 => []
  | n + 1 => row b rule starts n ++ [if n < starts.length then starts.getD n 0 else tk b (S rule (fun i => (row b rule starts n).getD i 0) n rule.length)]
theorem row_len (b : Int) (rule starts : List Int) : ∀ n,(row b rule starts n).length = n
  | 0 => rfl
  | n + 1 => by simp [row,row_len b rule starts n]
noncomputable def at_ (b : Int) (rule starts : List Int) (n : Nat) : Int := (row b rule starts (n + 1)).getD n 0
theorem row_get (b : Int) (rule starts : List Int) : ∀ {n i : Nat},i < n → (row b rule starts n).getD i 0 = at_ b rule starts i
  | n + 1,i,h => by
    by_cases e : i = n
    · subst e; rfl
    · have hi : i < n := by omega
      have hl := row_len b rule starts n
      have := row_get b rule starts (n := n) (i := i) hi
      rw [← this]
      show (row b rule starts n ++ _).getD i 0 = _
      rw [List.getD_eq_getElem?_getD,List.getElem?_append_left (by omega),← List.getD_eq_getElem?_getD]
theorem at_val (b : Int) (rule starts : List Int) (n : Nat) : at_ b rule starts n = if n < starts.length then starts.getD n 0 else tk b (S rule (fun i => (row b rule starts n).getD i 0) n rule.length) := by
  unfold at_
  have hl := row_len b rule starts n
  show (row b rule starts n ++ _).getD n 0 = _
  rw [List.getD_eq_getElem?_getD,List.getElem?_append_right (by omega),hl]
  simp
theorem at_lt {b : Int} {rule starts : List Int} {n : Nat} (h : n < starts.length) : at_ b rule starts n = starts.getD n 0 := by
  rw [at_val,if_pos h]
theorem at_ge {b : Int} {rule starts : List Int} {n : Nat} (hl : rule.length = starts.length) (h : starts.length ≤ n) : at_ b rule starts n = tk b (S rule (at_ b rule starts) n rule.length) := by
  rw [at_val,if_neg (by omega)]
  congr 1
  refine S_congr fun k hk => row_get b rule starts (by omega)
theorem row_eq (b : Int) (rule starts : List Int) : ∀ n,row b rule starts n = (List.range n).map (at_ b rule starts)
  | 0 => rfl
  | n + 1 => by
    rw [List.range_succ,List.map_append,← row_eq b rule starts n]
    show _ ++ [_] = _ ++ [at_ b rule starts n]
    rw [at_val]
theorem row_succ (b : Int) (rule starts : List Int) (n : Nat) : row b rule starts (n + 1) = row b rule starts n ++ [at_ b rule starts n] := by
  rw [at_val]; rfl
theorem at_uniq {b : Int} {rule starts : List Int} (hl : rule.length = starts.length) {g : Nat → Int} (h1 : ∀ i,i < starts.length → g i = starts.getD i 0)
    (h2 : ∀ i,starts.length ≤ i → g i = tk b (S rule g i rule.length)) : ∀ n,at_ b rule starts n = g n := by
  intro n
  induction n using Nat.strongRecOn with
  | ind n ih =>
    by_cases h : n < starts.length
    · rw [at_lt h,h1 n h]
    · rw [at_ge hl (by omega),h2 n (by omega)]
      congr 1
      exact S_congr fun k hk => ih _ (by omega)
theorem row_starts {b : Int} {rule starts : List Int} : ∀ {n : Nat},n ≤ starts.length → row b rule starts n = starts.take n
  | 0,_ => by simp [row]
  | n + 1,h => by
    rw [row_succ,row_starts (by omega),at_lt (by omega),List.take_add_one,List.getD_eq_getElem?_getD,List.getElem?_eq_getElem (by omega)]
    rfl
theorem at_window {b : Int} {rule starts w : List Int} {d : Nat} (hl : rule.length = starts.length) (hw : w.length = starts.length) (h : ∀ i,i < w.length → w.getD i 0 = at_ b rule starts (d + i)) (n : Nat) :
    at_ b rule w n = at_ b rule starts (d + n) := by
  refine at_uniq (by omega) (g := fun i => at_ b rule starts (d + i)) (fun i hi => (h i hi).symm) (fun i hi => ?_) n
  rw [S_shift (by omega),at_ge hl (by omega)]
theorem at_both {b c : Int} {rule s1 s2 s3 : List Int} (h1 : rule.length = s1.length) (h2 : rule.length = s2.length) (h3 : rule.length = s3.length)
    (h : ∀ i,i < s3.length → s3.getD i 0 = tk b (s1.getD i 0 + c * s2.getD i 0)) (n : Nat) : at_ b rule s3 n = tk b (at_ b rule s1 n + c * at_ b rule s2 n) := by
  refine at_uniq h3 (g := fun i => tk b (at_ b rule s1 i + c * at_ b rule s2 i)) (fun i hi => ?_) (fun i hi => ?_) n
  · rw [at_lt (by omega),at_lt (by omega),h i hi]
  · rw [S_lin,at_ge h1 (by omega),at_ge h2 (by omega),tk_add_l,← tk_add_r,tk_mul_r,tk_add_r]
noncomputable def Bd (n : Nat) (x : Int) : Prop := x.natAbs < 2 ^ n
theorem Bd.mono {m n : Nat} {x : Int} (h : Bd m x) (hmn : m ≤ n) : Bd n x := Nat.lt_of_lt_of_le h (Nat.pow_le_pow_right (by decide) hmn)
theorem Bd.zero (n : Nat) : Bd n 0 := Nat.pow_pos (by decide)
theorem Bd.of {n : Nat} {x : Int} (h1 : -(2 ^ n) < x) (h2 : x < 2 ^ n) : Bd n x := by
  unfold Bd
  have e : ((2 ^ n : Nat) : Int) = (2 : Int) ^ n := by simp
  omega
theorem Bd.emod {n : Nat} {x b : Int} (hb : 0 < b) (h : Bd n b) : Bd n (x % b) := by
  unfold Bd at *
  have := Int.emod_nonneg x (show b ≠ 0 by omega)
  have := Int.emod_lt_of_pos x hb
  omega
theorem getD_mem_or (l : List Int) (k : Nat) : l.getD k 0 = 0 ∨ l.getD k 0 ∈ l := by
  by_cases h : k < l.length
  · right
    rw [List.getD_eq_getElem?_getD,List.getElem?_eq_getElem h]
    exact List.getElem_mem h
  · left
    rw [List.getD_eq_getElem?_getD,List.getElem?_eq_none (by omega)]
    rfl
theorem Bd.getD {l : List Int} {n : Nat} (h : ∀ x ∈ l,Bd n x) (k : Nat) : Bd n (l.getD k 0) := by
  rcases getD_mem_or l k with e | e
  · rw [e]; exact .zero n
  · exact h _ e
theorem tk_bd {b x : Int} {n : Nat} (hb : 0 ≤ b) (hb' : Bd n b) (h : Bd n x) : Bd n (tk b x) := by
  unfold tk
  split
  · exact h
  · exact Bd.emod (by omega) hb'
theorem at_range {b : Int} {rule starts : List Int} (hl : rule.length = starts.length) (hb : 0 < b) (hs : ∀ x ∈ starts,0 ≤ x ∧ x < b) (n : Nat) : 0 ≤ at_ b rule starts n ∧ at_ b rule starts n < b := by
  by_cases h : n < starts.length
  · rw [at_lt h,List.getD_eq_getElem?_getD,List.getElem?_eq_getElem h]
    exact hs _ (List.getElem_mem h)
  · rw [at_ge hl (by omega),tk_pos (by omega)]
    exact ⟨Int.emod_nonneg _ (by omega),Int.emod_lt_of_pos _ hb⟩
end Rm
namespace Om
noncomputable def primesN : List Nat := [2,3,5,7,11,13,17,19,23,29,31,37,41,43,47,53,59,61,67,71,73,79,83,89,97,101,103,107,109,113,127,131,137,139,149,151,157,163,167,173,179,181,191,193,197,199,211,223,227,229,233,239,241,251,257,263,269,271,277,281,283,293,307,311,313,317,331,337,347,349,353,359,367,373,379,383,389,397,401,409,419,421,431,433,439,443,449,457,461,463,467,479,487,491,499,503,509,521,523,541,547,557,563,569,571,577,587,593,599,601,607,613,617,619,631,641,643,647,653,659,661,673,677,683,691,701,709,719,727,733,739,743,751,757,761,769,773,787,797,809,811,821,823,827,829,839,853,857,859,863,877,881,883,887,907,911,919,929,937,941,947,953,967,971,977,983,991,997]
theorem mod_mul {x y x' y' p : Int} (h : x % p = x' % p) (h' : y % p = y' % p) : (x * y) % p = (x' * y') % p := by
  rw [Int.mul_emod,h,h',← Int.mul_emod]
theorem mod_pow {x x' p : Int} (h : x % p = x' % p) : ∀ n : Nat,(x ^ n) % p = (x' ^ n) % p
  | 0 => by simp
  | n + 1 => by rw [Int.pow_succ,Int.pow_succ]; exact mod_mul (mod_pow h n) h
noncomputable def Keeps (p a : Int) (e : Nat) (power square : Int) (left : Nat) : Prop := (power * square ^ left) % p = (a ^ e) % p
theorem keeps_start (p a : Int) (e : Nat) : Keeps p a e 1 a e := by unfold Keeps; rw [Int.one_mul]
theorem pow_two_mul (x : Int) : ∀ n : Nat,(x * x) ^ n = x ^ (2 * n)
  | 0 => by simp
  | n + 1 => by
    rw [Int.pow_succ,pow_two_mul x n,show 2 * (n + 1) = 2 * n + 1 + 1 by omega,Int.pow_succ,Int.pow_succ,Int.mul_assoc]
theorem keeps_odd {p a : Int} {e : Nat} {power square : Int} {left : Nat} (h : Keeps p a e power square left) (ho : left % 2 = 1) : Keeps p a e (power * square % p) (square * square % p) (left / 2) := by
  unfold Keeps at *
  have h1 : (power * square % p) % p = (power * square) % p := Int.emod_emod_of_dvd _ (Int.dvd_refl p)
  have h2 := mod_pow (p := p) (x := square * square % p) (x' := square * square) (Int.emod_emod_of_dvd _ (Int.dvd_refl p)) (left / 2)
  rw [mod_mul h1 h2,← h,pow_two_mul,Int.mul_assoc]
  have e2 : left = 2 * (left / 2) + 1 := by omega
  conv => rhs; rw [e2,Int.pow_succ]
  rw [Int.mul_comm square]
theorem keeps_even {p a : Int} {e : Nat} {power square : Int} {left : Nat} (h : Keeps p a e power square left) (ho : ¬ left % 2 = 1) : Keeps p a e power (square * square % p) (left / 2) := by
  unfold Keeps at *
  have h2 := mod_pow (p := p) (x := square * square % p) (x' := square * square) (Int.emod_emod_of_dvd _ (Int.dvd_refl p)) (left / 2)
  rw [mod_mul rfl h2,← h,pow_two_mul]
  have e2 : left = 2 * (left / 2) := by omega
  conv => rhs; rw [e2]
theorem keeps_end {p a : Int} {e : Nat} {power square : Int} (h : Keeps p a e power square 0) : power % p = a ^ e % p := by
  unfold Keeps at h
  rwa [Int.pow_zero,Int.mul_one] at h
end Om
namespace Pm
open Rm
noncomputable def sm : Nat → (Nat → Int) → Int
  | 0,_ => 0
  | n + 1,f => sm n f + f n
theorem sm_congr {f g : Nat → Int} : ∀ {n : Nat},(∀ k,k < n → f k = g k) → sm n f = sm n g
  | 0,_ => rfl
  | n + 1,h => by rw [sm,sm,sm_congr fun k hk => h k (by omega),h n (by omega)]
theorem sm_zero : ∀ n : Nat,sm n (fun _ => 0) = 0
  | 0 => rfl
  | n + 1 => by rw [sm,sm_zero n]; rfl
theorem sm_none {f : Nat → Int} {n : Nat} (h : ∀ k,k < n → f k = 0) : sm n f = 0 := by rw [sm_congr h,sm_zero]
theorem sm_head (f : Nat → Int) : ∀ n : Nat,sm (n + 1) f = f 0 + sm n (fun i => f (i + 1))
  | 0 => by simp [sm]
  | n + 1 => by
    rw [sm,sm_head f n,sm,Int.add_assoc]
theorem sm_add (f g : Nat → Int) : ∀ n : Nat,sm n (fun k => f k + g k) = sm n f + sm n g
  | 0 => rfl
  | n + 1 => by rw [sm,sm,sm,sm_add f g n]; omega
theorem sm_mul (c : Int) (f : Nat → Int) : ∀ n : Nat,sm n (fun k => c * f k) = c * sm n f
  | 0 => by simp [sm]
  | n + 1 => by rw [sm,sm,sm_mul c f n,Int.mul_add]
theorem sm_more {f : Nat → Int} {m : Nat} : ∀ {n : Nat},m ≤ n → (∀ k,m ≤ k → k < n → f k = 0) → sm n f = sm m f
  | 0,h,_ => by rw [show m = 0 by omega]
  | n + 1,h,h0 => by
    by_cases e : m = n + 1
    · rw [e]
    · rw [sm,sm_more (n := n) (by omega) (fun k h1 h2 => h0 k h1 (by omega)),h0 n (by omega) (by omega),Int.add_zero]
theorem tk0 (b : Int) : tk b 0 = 0 := by unfold tk; split <;> simp
theorem tk_sm {b : Int} {f g : Nat → Int} : ∀ {n : Nat},(∀ k,k < n → tk b (f k) = tk b (g k)) → tk b (sm n f) = tk b (sm n g)
  | 0,_ => rfl
  | n + 1,h => by
    rw [sm,sm]
    exact tk_congr_add (tk_sm fun k hk => h k (by omega)) (h n (by omega))
theorem list_sum (f : Nat → Int) : ∀ n : Nat,((List.range n).map f).sum = sm n f
  | 0 => rfl
  | n + 1 => by rw [List.range_succ,List.map_append,List.sum_append,list_sum f n]; simp [sm]
noncomputable def cv : (Nat → Int) → (Nat → Int) → Nat → Int
  | f,g,0 => f 0 * g 0
  | f,g,k + 1 => f 0 * g (k + 1) + cv (fun i => f (i + 1)) g k
theorem cv_sm : ∀ (f g : Nat → Int) (k : Nat),cv f g k = sm (k + 1) (fun j => f j * g (k - j))
  | f,g,0 => by simp [cv,sm]
  | f,g,k + 1 => by
    rw [cv,cv_sm _ g k,sm_head (fun j => f j * g (k + 1 - j))]
    refine congrArg (_ + ·) (sm_congr fun j hj => ?_)
    rw [show k + 1 - (j + 1) = k - j by omega]
theorem cv_last : ∀ (f g : Nat → Int) (k : Nat),cv f g (k + 1) = cv f (fun i => g (i + 1)) k + f (k + 1) * g 0
  | f,g,0 => rfl
  | f,g,k + 1 => by
    rw [cv,cv_last (fun i => f (i + 1)) g k,cv,Int.add_assoc]
theorem cv_comm : ∀ (f g : Nat → Int) (k : Nat),cv f g k = cv g f k
  | f,g,0 => Int.mul_comm _ _
  | f,g,k + 1 => by
    rw [cv,cv_last,cv_comm (fun i => f (i + 1)) g k,Int.add_comm,Int.mul_comm]
theorem cv_congr {f f' g g' : Nat → Int} {k : Nat} (h : ∀ i,i ≤ k → f i = f' i) (h' : ∀ i,i ≤ k → g i = g' i) : cv f g k = cv f' g' k := by
  rw [cv_sm,cv_sm]
  exact sm_congr fun j hj => by rw [h j (by omega),h' _ (by omega)]
theorem cv_tk {b : Int} {f f' g g' : Nat → Int} {k : Nat} (h : ∀ i,i ≤ k → tk b (f i) = tk b (f' i)) (h' : ∀ i,i ≤ k → tk b (g i) = tk b (g' i)) : tk b (cv f g k) = tk b (cv f' g' k) := by
  rw [cv_sm,cv_sm]
  exact tk_sm fun j hj => by rw [← tk_mul_l,← tk_mul_r,h j (by omega),h' _ (by omega),tk_mul_r,tk_mul_l]
theorem cv_addl (f f' g : Nat → Int) (k : Nat) : cv (fun i => f i + f' i) g k = cv f g k + cv f' g k := by
  rw [cv_sm,cv_sm,cv_sm,← sm_add]
  exact sm_congr fun j _ => Int.add_mul ..
theorem cv_addr (f g g' : Nat → Int) (k : Nat) : cv f (fun i => g i + g' i) k = cv f g k + cv f g' k := by
  rw [cv_comm,cv_addl,cv_comm,cv_comm g']
theorem cv_mull (c : Int) (f g : Nat → Int) (k : Nat) : cv (fun i => c * f i) g k = c * cv f g k := by
  rw [cv_sm,cv_sm,← sm_mul]
  exact sm_congr fun j _ => Int.mul_assoc ..
theorem cv_assoc : ∀ (f g h : Nat → Int) (k : Nat),cv (cv f g) h k = cv f (cv g h) k
  | f,g,h,0 => by simp [cv,Int.mul_assoc]
  | f,g,h,k + 1 => by
    have e : (fun i => cv f g (i + 1)) = fun i => f 0 * (fun i => g (i + 1)) i + cv (fun i => f (i + 1)) g i := rfl
    rw [cv,e,cv_addl (fun i => f 0 * (fun i => g (i + 1)) i),cv_mull,cv_assoc (fun i => f (i + 1)) g h k,cv,cv,cv]
    rw [Int.mul_add,Int.mul_assoc]
    omega
theorem cv_zero {f g : Nat → Int} {k : Nat} (h : ∀ i,i ≤ k → f i = 0 ∨ g (k - i) = 0) : cv f g k = 0 := by
  rw [cv_sm]
  exact sm_none fun j hj => by rcases h j (by omega) with e | e <;> rw [e] <;> simp
noncomputable def co (p : List Int) (k : Nat) : Int := p.getD k 0
theorem co_nil (k : Nat) : co [] k = 0 := by simp [co]
theorem co_zero (x : Int) (r : List Int) : co (x :: r) 0 = x := by simp [co]
theorem co_succ (x : Int) (r : List Int) (k : Nat) : co (x :: r) (k + 1) = co r k := by simp [co]
theorem co_ge {p : List Int} {k : Nat} (h : p.length ≤ k) : co p k = 0 := by
  rw [co,List.getD_eq_getElem?_getD,List.getElem?_eq_none h]; rfl
theorem co_lt {p : List Int} {k : Nat} (h : k < p.length) : co p k = p[k] := by
  rw [co,List.getD_eq_getElem?_getD,List.getElem?_eq_getElem h]; rfl
theorem co_mem {p : List Int} {k : Nat} (h : k < p.length) : co p k ∈ p := by rw [co_lt h]; exact List.getElem_mem h
noncomputable def ofF (n : Nat) (f : Nat → Int) : List Int := (List.range n).map f
theorem ofF_len (n : Nat) (f : Nat → Int) : (ofF n f).length = n := by simp [ofF]
theorem co_ofF (n : Nat) (f : Nat → Int) (k : Nat) : co (ofF n f) k = if k < n then f k else 0 := by
  by_cases h : k < n
  · rw [if_pos h,co,ofF,List.getD_eq_getElem?_getD,List.getElem?_map,List.getElem?_range h]; rfl
  · rw [if_neg h,co_ge (by rw [ofF_len]; omega)]
theorem ofF_succ (n : Nat) (f : Nat → Int) : ofF (n + 1) f = ofF n f ++ [f n] := by
  rw [ofF,List.range_succ,List.map_append]; rfl
theorem ofF_co (p : List Int) : ofF p.length (co p) = p := by
  apply List.ext_getElem (by rw [ofF_len])
  intro i h1 h2
  simp only [ofF,List.getElem_map,List.getElem_range]
  exact co_lt h2
theorem co_ext {p q : List Int} (hl : p.length = q.length) (h : ∀ k,co p k = co q k) : p = q := by
  rw [← ofF_co p,← ofF_co q,hl]
  exact List.map_congr_left fun k _ => h k
theorem co_set (p : List Int) (i : Nat) (x : Int) (k : Nat) (hi : i < p.length) : co (p.set i x) k = if k = i then x else co p k := by
  unfold co
  rw [List.getD_eq_getElem?_getD,List.getElem?_set,List.getD_eq_getElem?_getD]
  by_cases e : i = k
  · subst e; simp [hi]
  · rw [if_neg e,if_neg (fun z => e z.symm)]
theorem co_map {f : Int → Int} (h : f 0 = 0) (p : List Int) (k : Nat) : co (p.map f) k = f (co p k) := getD_map h p k
theorem co_append (p q : List Int) (k : Nat) : co (p ++ q) k = if k < p.length then co p k else co q (k - p.length) := by
  unfold co
  by_cases h : k < p.length
  · rw [if_pos h,List.getD_eq_getElem?_getD,List.getElem?_append_left h,← List.getD_eq_getElem?_getD]
  · rw [if_neg h,List.getD_eq_getElem?_getD,List.getElem?_append_right (by omega),← List.getD_eq_getElem?_getD]
noncomputable def trim : List Int → List Int
  | [] => []
  | x :: r => if x = 0 ∧ trim r = [] then [] else x :: trim r
theorem co_trim : ∀ (p : List Int) (k : Nat),co (trim p) k = co p k
  | [],k => rfl
  | x :: r,k => by
    rw [trim]
    have ih := co_trim r
    by_cases h : x = 0 ∧ trim r = []
    · rw [if_pos h]
      rw [h.2] at ih
      cases k with
      | zero => rw [co_nil,co_zero,h.1]
      | succ k => rw [co_succ,← ih k,co_nil,co_nil]
    · rw [if_neg h]
      cases k with
      | zero => rw [co_zero,co_zero]
      | succ k => rw [co_succ,co_succ,ih k]
theorem trim_nil {p : List Int} : trim p = [] ↔ ∀ k,co p k = 0 := by
  constructor
  · intro h k; rw [← co_trim,h,co_nil]
  · intro h
    induction p with
    | nil => rfl
    | cons x r ih =>
      rw [trim,if_pos ⟨by have := h 0; rwa [co_zero] at this,ih fun k => by have := h (k + 1); rwa [co_succ] at this⟩]
theorem trim_ext : ∀ {p q : List Int},(∀ k,co p k = co q k) → trim p = trim q
  | [],q,h => by rw [show trim q = [] from trim_nil.mpr fun k => by rw [← h k,co_nil]]; rfl
  | x :: r,[],h => by rw [show trim (x :: r) = [] from trim_nil.mpr fun k => by rw [h k,co_nil]]; rfl
  | x :: r,y :: s,h => by
    have e1 := h 0
    rw [co_zero,co_zero] at e1
    have e2 : trim r = trim s := trim_ext fun k => by have := h (k + 1); rwa [co_succ,co_succ] at this
    rw [trim,trim,e1,e2]
theorem trim_trim (p : List Int) : trim (trim p) = trim p := trim_ext (co_trim p)
theorem trim_len_le : ∀ p : List Int,(trim p).length ≤ p.length
  | [] => Nat.le_refl _
  | x :: r => by
    have := trim_len_le r
    rw [trim]; split
    · simp
    · simp; omega
theorem trim_len_of : ∀ {p : List Int} {n : Nat},(∀ k,n ≤ k → co p k = 0) → (trim p).length ≤ n
  | [],n,_ => Nat.zero_le _
  | x :: r,0,h => by rw [trim_nil.mpr fun k => h k (Nat.zero_le _)]; exact Nat.le_refl 0
  | x :: r,n + 1,h => by
    have := trim_len_of (p := r) (n := n) fun k hk => by have := h (k + 1) (by omega); rwa [co_succ] at this
    rw [trim]; split
    · simp
    · simp; omega
theorem trim_zero (p : List Int) : trim (p ++ [0]) = trim p := trim_ext fun k => by
  rw [co_append]
  by_cases h : k < p.length
  · rw [if_pos h]
  · rw [if_neg h,co_ge (p := p) (by omega)]
    cases k - p.length with
    | zero => rfl
    | succ j => rw [co_succ,co_nil]
theorem trim_last : ∀ (p : List Int) {x : Int},x ≠ 0 → trim (p ++ [x]) = p ++ [x]
  | [],x,h => by simp [trim,h]
  | y :: r,x,h => by
    show trim (y :: (r ++ [x])) = _
    rw [trim,trim_last r h,if_neg (by simp)]; rfl
theorem trim_mem {p : List Int} {x : Int} (h : x ∈ trim p) : x ∈ p := by
  induction p with
  | nil => exact h
  | cons y r ih =>
    rw [trim] at h
    split at h
    · cases h
    · rcases List.mem_cons.mp h with rfl | h
      · exact List.mem_cons_self
      · exact List.mem_cons_of_mem _ (ih h)
structure Py (b : Int) (p : List Int) : Prop where
  tr : trim p = p
  nu : ∀ x ∈ p,tk b x = x
theorem Py.co {b : Int} {p : List Int} (h : Py b p) (k : Nat) : tk b (co p k) = co p k := by
  by_cases hk : k < p.length
  · exact h.nu _ (co_mem hk)
  · rw [co_ge (by omega),tk0]
theorem Py.ext {b : Int} {p q : List Int} (h : Py b p) (h' : Py b q) (e : ∀ k,tk b (Pm.co p k) = tk b (Pm.co q k)) : p = q := by
  rw [← h.tr,← h'.tr]
  exact trim_ext fun k => by rw [← h.co k,← h'.co k]; exact e k
theorem Py.of {b : Int} {p : List Int} (h : ∀ x ∈ p,tk b x = x) : Py b (trim p) := ⟨trim_trim p,fun x hx => h x (trim_mem hx)⟩
theorem Py.nil (b : Int) : Py b [] := ⟨rfl,fun _ h => nomatch h⟩
theorem mem_ofF {n : Nat} {f : Nat → Int} {x : Int} (h : x ∈ ofF n f) : ∃ k,k < n ∧ x = f k := by
  obtain ⟨k,hk,e⟩ := List.mem_map.mp h
  exact ⟨k,List.mem_range.mp hk,e.symm⟩
theorem Py.ofF (b : Int) (n : Nat) (f : Nat → Int) : Py b (trim (Pm.ofF n fun k => tk b (f k))) := Py.of fun x hx => by
  obtain ⟨k,_,rfl⟩ := mem_ofF hx
  exact tk_tk ..
noncomputable def add (b : Int) (p q : List Int) : List Int := trim (ofF (max p.length q.length) fun k => tk b (co p k + co q k))
noncomputable def mul (b : Int) (p q : List Int) : List Int := trim (ofF (p.length + q.length) fun k => tk b (cv (co p) (co q) k))
theorem mul_py (b : Int) (p q : List Int) : Py b (mul b p q) := Py.ofF ..
theorem add_co (b : Int) (p q : List Int) (k : Nat) : co (add b p q) k = tk b (co p k + co q k) := by
  rw [add,co_trim,co_ofF]
  split
  · rfl
  · rw [co_ge (p := p) (by omega),co_ge (p := q) (by omega),Int.add_zero,tk0]
theorem mul_co (b : Int) (p q : List Int) (k : Nat) : co (mul b p q) k = tk b (cv (co p) (co q) k) := by
  rw [mul,co_trim,co_ofF]
  split
  · rfl
  · rw [cv_zero,tk0]
    intro i hi
    by_cases h : i < p.length
    · exact .inr (co_ge (by omega))
    · exact .inl (co_ge (by omega))
noncomputable def W (f g : Nat → Int) (i k c : Nat) : Int := sm i (fun j => if j ≤ c then f j * g (c - j) else 0) + (if i ≤ c ∧ c - i < k then f i * g (c - i) else 0)
theorem W_zero (f g : Nat → Int) (c : Nat) : W f g 0 0 c = 0 := by simp [W,sm]
theorem W_step {f g : Nat → Int} {i k c : Nat} : W f g i (k + 1) c = W f g i k c + (if c = i + k then f i * g k else 0) := by
  unfold W
  by_cases h : c = i + k
  · rw [if_pos h,if_pos (by omega),if_neg (by omega),show c - i = k by omega]; omega
  · rw [if_neg h]
    by_cases h2 : i ≤ c ∧ c - i < k
    · rw [if_pos h2,if_pos (by omega)]; omega
    · rw [if_neg h2,if_neg (by omega)]; omega
theorem W_row {f g : Nat → Int} {i n c : Nat} (hg : ∀ k,n ≤ k → g k = 0) : W f g i n c = W f g (i + 1) 0 c := by
  unfold W
  rw [sm,if_neg (show ¬ (i + 1 ≤ c ∧ c - (i + 1) < 0) by omega)]
  by_cases h : i ≤ c
  · rw [if_pos h]
    by_cases h2 : c - i < n
    · rw [if_pos ⟨h,h2⟩]; omega
    · rw [if_neg (by omega),hg _ (by omega),Int.mul_zero]; omega
  · rw [if_neg (by omega),if_neg h]; omega
theorem W_end {f g : Nat → Int} {m c : Nat} (hf : ∀ k,m ≤ k → f k = 0) : W f g m 0 c = cv f g c := by
  unfold W
  rw [if_neg (by omega),Int.add_zero,cv_sm]
  by_cases h : m ≤ c + 1
  · rw [sm_more (n := c + 1) h fun k h1 _ => by rw [hf k h1,Int.zero_mul]]
    exact sm_congr fun j hj => if_pos (by omega)
  · rw [sm_more (m := c + 1) (n := m) (by omega) fun k h1 _ => if_neg (by omega)]
    exact sm_congr fun j hj => if_pos (by omega)
end Pm
namespace Pm
open Rm
theorem sm_swap (F : Nat → Nat → Int) (m : Nat) : ∀ n : Nat,sm m (fun k => sm n (fun j => F k j)) = sm n (fun j => sm m (fun k => F k j))
  | 0 => by simp only [sm]; exact sm_zero m
  | n + 1 => by
    simp only [sm]
    rw [sm_add,sm_swap F m n]
theorem S_sm (rule : List Int) (f : Nat → Int) (n : Nat) : ∀ m : Nat,S rule f n m = sm m (fun k => co rule k * f (n - 1 - k))
  | 0 => rfl
  | m + 1 => by rw [S,sm,S_sm rule f n m]; rfl
noncomputable def ks (p : List Int) (a : Nat → Int) (n : Nat) : Int := sm p.length (fun k => co p k * a (n + k))
theorem ks_rec {b : Int} {rule p : List Int} {a : Nat → Int} (ha : ∀ n,rule.length ≤ n → tk b (a n) = tk b (S rule a n rule.length)) {n : Nat} (hn : rule.length ≤ n) :
    tk b (ks p a n) = tk b (S rule (ks p a) n rule.length) := by
  have e1 : tk b (ks p a n) = tk b (sm p.length (fun k => co p k * sm rule.length (fun j => co rule j * a (n + k - 1 - j)))) := by
    refine tk_sm fun k _ => ?_
    rw [← tk_mul_r,ha (n + k) (by omega),tk_mul_r,S_sm]
  rw [e1,S_sm]
  congr 1
  have e2 : (fun k => co p k * sm rule.length (fun j => co rule j * a (n + k - 1 - j))) = fun k => sm rule.length (fun j => co rule j * (co p k * a (n + k - 1 - j))) := by
    funext k
    rw [← sm_mul]
    exact sm_congr fun j _ => Int.mul_left_comm ..
  rw [e2,sm_swap]
  refine sm_congr fun j hj => ?_
  rw [sm_mul]
  congr 1
  refine sm_congr fun k _ => ?_
  rw [show n - 1 - j + k = n + k - 1 - j by omega]
theorem ks_all {b : Int} {rule p : List Int} {a : Nat → Int} (ha : ∀ n,rule.length ≤ n → tk b (a n) = tk b (S rule a n rule.length)) (h0 : ∀ n,n < rule.length → tk b (ks p a n) = 0) :
    ∀ n,tk b (ks p a n) = 0 := by
  intro n
  induction n using Nat.strongRecOn with
  | ind n ih =>
    by_cases h : n < rule.length
    · exact h0 n h
    · rw [ks_rec ha (by omega),S_sm]
      have : tk b (sm rule.length fun k => co rule k * ks p a (n - 1 - k)) = tk b (sm rule.length fun _ => 0) := tk_sm fun k hk => by
        rw [← tk_mul_r,ih (n - 1 - k) (by omega),Int.mul_zero]
      rw [this,sm_zero,tk0]
noncomputable def ofRule (b : Int) (c : List Int) : List Int := ofF c.length (fun k => tk b (0 - co c (c.length - 1 - k))) ++ [1]
noncomputable def ruleOf (b : Int) (p : List Int) : List Int := ofF (p.length - 1) (fun k => tk b (0 - co p (p.length - 1 - 1 - k)))
theorem ofRule_len (b : Int) (c : List Int) : (ofRule b c).length = c.length + 1 := by simp [ofRule,ofF_len]
theorem neg_neg_tk (b x : Int) : tk b (0 - tk b (0 - x)) = tk b x := by
  have h : tk b (tk b (0 - x) + (0 - tk b (0 - x))) = tk b ((0 - x) + (0 - tk b (0 - x))) := tk_add_l ..
  have e1 : tk b (0 - x) + (0 - tk b (0 - x)) = 0 := by omega
  rw [e1] at h
  have h2 : tk b (tk b (0 - tk b (0 - x)) + (0 - x)) = tk b 0 := by rw [tk_add_l,Int.add_comm]; exact h.symm
  have h3 : tk b (tk b (0 - tk b (0 - x))) = tk b x := by
    have := tk_congr_add h2 (rfl : tk b x = tk b x)
    rw [show tk b (0 - tk b (0 - x)) + (0 - x) + x = tk b (0 - tk b (0 - x)) by omega,Int.zero_add] at this
    exact this
  rwa [tk_tk] at h3
theorem at_rec {b : Int} {rule starts : List Int} (hl : rule.length = starts.length) : ∀ n,rule.length ≤ n → tk b (at_ b rule starts n) = tk b (S rule (at_ b rule starts) n rule.length) := fun n hn => by
  rw [at_ge hl (by omega),tk_tk]
theorem Bd_co {p : List Int} {u : Nat} (h : ∀ x ∈ p,Bd u x) (k : Nat) : Bd u (co p k) := Bd.getD h k
end Pm
namespace Pm
open Rm
theorem sm_single (x : Int) (j : Nat) : ∀ n : Nat,sm n (fun i => if i = j then x else 0) = if j < n then x else 0
  | 0 => by simp [sm]
  | n + 1 => by
    rw [sm,sm_single x j n]
    by_cases h : n = j
    · rw [if_pos h,if_neg (by omega),if_pos (by omega)]; omega
    · rw [if_neg h]
      by_cases h2 : j < n
      · rw [if_pos h2,if_pos (by omega)]; omega
      · rw [if_neg h2,if_neg (by omega)]; omega
theorem tk_sub_zero {b x y : Int} : tk b (x - y) = 0 ↔ tk b x = tk b y := by
  constructor
  · intro h
    have := tk_congr_add (b := b) (x := x - y) (x' := 0) (y := y) (y' := y) (by rw [h,tk0]) rfl
    rwa [show x - y + y = x by omega,Int.zero_add] at this
  · intro h
    have := tk_congr_add (b := b) (x := x) (x' := y) (y := -y) (y' := -y) h rfl
    rw [show x + -y = x - y by omega,show y + -y = 0 by omega,tk0] at this
    exact this
theorem cv_point (f : Int) (s : Nat) (g : Nat → Int) (k : Nat) : cv (fun i => if i = s then f else 0) g k = if s ≤ k then f * g (k - s) else 0 := by
  rw [cv_sm]
  have e : sm (k + 1) (fun j => (if j = s then f else 0) * g (k - j)) = sm (k + 1) (fun j => if j = s then f * g (k - s) else 0) := sm_congr fun j _ => by
    by_cases h : j = s
    · rw [if_pos h,if_pos h,h]
    · rw [if_neg h,if_neg h,Int.zero_mul]
  rw [e,sm_single]
  by_cases h : s ≤ k
  · rw [if_pos h,if_pos (by omega)]
  · rw [if_neg h,if_neg (by omega)]
structure Mon (m : List Int) : Prop where
  pos : 0 < m.length
  one : co m (m.length - 1) = 1
structure Div (b : Int) (p m q r : List Int) : Prop where
  qy : Py b q
  ry : Py b r
  short : r.length < m.length
  eq : ∀ k,tk b (cv (co q) (co m) k + co r k) = tk b (co p k)
theorem Div.uniq {b : Int} {p m q r q' r' : List Int} (hm : Mon m) (h : Div b p m q r) (h' : Div b p m q' r') : q = q' ∧ r = r' := by
  have hp := hm.pos
  have e1 : ∀ k,tk b (cv (fun i => co q i - co q' i) (co m) k + (co r k - co r' k)) = 0 := by
    intro k
    have e2 : cv (fun i => co q i - co q' i) (co m) k = cv (co q) (co m) k - cv (co q') (co m) k := by
      have := cv_addl (co q) (fun i => -1 * co q' i) (co m) k
      rw [cv_mull] at this
      have e3 : (fun i => co q i + -1 * co q' i) = fun i => co q i - co q' i := by funext i; omega
      rw [e3] at this
      omega
    rw [e2,show cv (co q) (co m) k - cv (co q') (co m) k + (co r k - co r' k) = (cv (co q) (co m) k + co r k) - (cv (co q') (co m) k + co r' k) by omega,tk_sub_zero,h.eq,h'.eq]
  have e4 : ∀ d j,q.length + q'.length ≤ j + d → tk b (co q j - co q' j) = 0 := by
    intro d
    induction d with
    | zero => intro j hj; rw [co_ge (by omega),co_ge (by omega)]; exact tk0 b
    | succ d ih =>
      intro j hj
      have e5 := e1 (j + (m.length - 1))
      have hs := h.short
      have hs' := h'.short
      rw [co_ge (p := r) (by omega),co_ge (p := r') (by omega),Int.sub_zero,Int.add_zero,cv_sm] at e5
      rw [← e5]
      have e6 : tk b (sm (j + (m.length - 1) + 1) fun i => (co q i - co q' i) * co m (j + (m.length - 1) - i)) = tk b (sm (j + (m.length - 1) + 1) fun i => if i = j then co q j - co q' j else 0) := tk_sm fun i hi => by
        by_cases c : i = j
        · rw [if_pos c,c,show j + (m.length - 1) - j = m.length - 1 by omega,hm.one,Int.mul_one]
        · rw [if_neg c]
          by_cases c2 : i < j
          · rw [co_ge (p := m) (by omega),Int.mul_zero]
          · rw [← tk_mul_l,ih i (by omega),Int.zero_mul]
      rw [e6,sm_single,if_pos (by omega)]
  have eq : q = q' := h.qy.ext h'.qy fun k => tk_sub_zero.mp (e4 (q.length + q'.length) k (by omega))
  refine ⟨eq,h.ry.ext h'.ry fun k => ?_⟩
  have e7 := e1 k
  rw [eq] at e7
  have e8 : (fun i => co q' i - co q' i) = fun _ => 0 := by funext i; omega
  rw [e8,cv_zero (fun _ _ => .inl rfl),Int.zero_add] at e7
  exact tk_sub_zero.mp e7
structure DivI (b : Int) (p m : List Int) (s : Nat) (o l : List Int) : Prop where
  eq : ∀ k,tk b (cv (co o) (co m) k + co l k) = tk b (co p k)
  zero : ∀ k,s + (m.length - 1) ≤ k → co l k = 0
  low : ∀ k,k < s → co o k = 0
  ol : o.length = p.length - (m.length - 1)
  ll : l.length = p.length
  on : ∀ k,tk b (co o k) = co o k
  ln : ∀ k,tk b (co l k) = co l k
theorem DivI.start {b : Int} {p m : List Int} (hp : ∀ k,tk b (co p k) = co p k) : DivI b p m (p.length - (m.length - 1)) (ofF (p.length - (m.length - 1)) fun _ => 0) p := by
  have z : ∀ k,co (ofF (p.length - (m.length - 1)) fun _ => 0) k = 0 := fun k => by rw [co_ofF]; split <;> rfl
  exact ⟨fun k => by rw [cv_zero fun i _ => .inl (z i),Int.zero_add],fun k hk => co_ge (by omega),fun k _ => z k,ofF_len _ _,rfl,fun k => by rw [z,tk0],hp⟩
noncomputable def lf (b f : Int) (s t : Nat) (l m : List Int) (k : Nat) : Int := if s ≤ k ∧ k < s + t then tk b (co l k - f * co m (k - s)) else co l k
theorem lf_zero (b f : Int) (s : Nat) (l m : List Int) (k : Nat) : lf b f s 0 l m k = co l k := if_neg (by omega)
theorem lf_step (b f : Int) (s t : Nat) (l m : List Int) (k : Nat) : lf b f s (t + 1) l m k = if k = s + t then tk b (lf b f s t l m k - f * co m t) else lf b f s t l m k := by
  unfold lf
  by_cases h : k = s + t
  · rw [if_pos h,if_pos (by omega),if_neg (by omega),show k - s = t by omega]
  · rw [if_neg h]
    by_cases h2 : s ≤ k ∧ k < s + t
    · rw [if_pos h2,if_pos (by omega)]
    · rw [if_neg h2,if_neg (by omega)]
theorem lf_all {b f : Int} {s : Nat} {l m : List Int} (hl : ∀ k,tk b (co l k) = co l k) (k : Nat) : lf b f s m.length l m k = tk b (co l k - (if s ≤ k then f * co m (k - s) else 0)) := by
  unfold lf
  by_cases h : s ≤ k
  · rw [if_pos h]
    by_cases h2 : k < s + m.length
    · rw [if_pos ⟨h,h2⟩]
    · rw [if_neg (by omega),co_ge (p := m) (by omega),Int.mul_zero,Int.sub_zero,hl]
  · rw [if_neg (by omega),if_neg h,Int.sub_zero,hl]
theorem DivI.step {b : Int} {p m o l l' : List Int} {s : Nat} (hm : Mon m) (h : DivI b p m (s + 1) o l) (hs : s < p.length - (m.length - 1)) (hl : l'.length = l.length) (e : ∀ k,co l' k = lf b (co l (s + (m.length - 1))) s m.length l m k) :
    DivI b p m s (o.set s (co l (s + (m.length - 1)))) l' := by
  have hp := hm.pos
  have ho := h.ol
  have eo : co (o.set s (co l (s + (m.length - 1)))) = fun k => co o k + (if k = s then co l (s + (m.length - 1)) else 0) := by
    funext k
    rw [co_set _ _ _ _ (by omega)]
    by_cases c : k = s
    · rw [if_pos c,if_pos c,c,h.low s (by omega),Int.zero_add]
    · rw [if_neg c,if_neg c,Int.add_zero]
  have el : ∀ k,co l' k = tk b (co l k - (if s ≤ k then co l (s + (m.length - 1)) * co m (k - s) else 0)) := fun k => by rw [e,lf_all h.ln]
  refine ⟨fun k => ?_,fun k hk => ?_,fun k hk => ?_,by rw [List.length_set,ho],by rw [hl,h.ll],fun k => ?_,fun k => by rw [el,tk_tk]⟩
  · rw [eo,cv_addl (co o),cv_point,el,tk_add_r,← h.eq k]
    congr 1; omega
  · rw [el,if_pos (by omega)]
    by_cases c : k = s + (m.length - 1)
    · rw [c,show s + (m.length - 1) - s = m.length - 1 by omega,hm.one,Int.mul_one,Int.sub_self,tk0]
    · rw [h.zero k (by omega),co_ge (p := m) (by omega),Int.mul_zero,Int.sub_zero,tk0]
  · rw [eo]; simp only; rw [h.low k (by omega),if_neg (by omega),Int.add_zero]
  · rw [co_set _ _ _ _ (by omega)]
    split
    · exact h.ln _
    · exact h.on _
theorem DivI.stop {b : Int} {p m o l : List Int} (hm : Mon m) (h : DivI b p m 0 o l) : Div b p m (trim o) (trim l) := by
  have hp := hm.pos
  have y : ∀ {x : List Int},(∀ k,tk b (co x k) = co x k) → Py b (trim x) := fun hx => Py.of fun z hz => by
    obtain ⟨k,hk,e⟩ := List.mem_iff_getElem.mp hz
    rw [← e,← co_lt hk]; exact hx k
  refine ⟨y h.on,y h.ln,?_,fun k => ?_⟩
  · have := trim_len_of (p := l) (n := m.length - 1) fun k hk => h.zero k (by omega)
    omega
  · rw [co_trim,← h.eq k]
    congr 2
    exact cv_congr (fun i _ => co_trim _ _) (fun _ _ => rfl)
end Pm
namespace Pm
open Rm
theorem sm_shift (g : Nat → Int) (j : Nat) : ∀ m : Nat,sm (j + m) (fun k => if j ≤ k then g (k - j) else 0) = sm m g
  | 0 => by
    rw [Nat.add_zero]
    exact sm_none fun k hk => if_neg (by omega)
  | m + 1 => by
    rw [← Nat.add_assoc,sm,sm,sm_shift g j m,if_pos (by omega),Nat.add_sub_cancel_left]
theorem ks_more (p : List Int) (a : Nat → Int) (n : Nat) {N : Nat} (h : p.length ≤ N) : sm N (fun k => co p k * a (n + k)) = ks p a n :=
  sm_more h fun k h1 _ => by rw [co_ge h1,Int.zero_mul]
theorem ks_tk {b : Int} {p q : List Int} {a : Nat → Int} (h : ∀ k,tk b (co p k) = tk b (co q k)) (n : Nat) : tk b (ks p a n) = tk b (ks q a n) := by
  rw [← ks_more p a n (Nat.le_max_left p.length q.length),← ks_more q a n (Nat.le_max_right p.length q.length)]
  exact tk_sm fun k _ => by rw [← tk_mul_l,h k,tk_mul_l]
theorem ks_add {b : Int} (p q : List Int) (a : Nat → Int) (n : Nat) : tk b (ks (add b p q) a n) = tk b (ks p a n + ks q a n) := by
  have hl : (add b p q).length ≤ max p.length q.length := by
    have := trim_len_le (ofF (max p.length q.length) fun k => tk b (co p k + co q k))
    rwa [ofF_len] at this
  rw [← ks_more _ a n hl,← ks_more p a n (Nat.le_max_left p.length q.length),← ks_more q a n (Nat.le_max_right p.length q.length),← sm_add]
  exact tk_sm fun k _ => by rw [add_co,tk_mul_l,Int.add_mul]
theorem ks_mul {b : Int} (p q : List Int) (a : Nat → Int) (n : Nat) : tk b (ks (mul b p q) a n) = tk b (ks p (ks q a) n) := by
  have hl : (mul b p q).length ≤ p.length + q.length := by
    have := trim_len_le (ofF (p.length + q.length) fun k => tk b (cv (co p) (co q) k))
    rwa [ofF_len] at this
  rw [← ks_more _ a n hl]
  have e1 : tk b (sm (p.length + q.length) fun k => co (mul b p q) k * a (n + k)) = tk b (sm (p.length + q.length) fun k => sm p.length fun j => co p j * (if j ≤ k then co q (k - j) * a (n + k) else 0)) := tk_sm fun k _ => by
    rw [mul_co,tk_mul_l,← W_end (m := p.length) fun j hj => co_ge hj,W,if_neg (by omega),Int.add_zero,Int.mul_comm,← sm_mul]
    congr 1
    refine sm_congr fun j _ => ?_
    by_cases h : j ≤ k
    · rw [if_pos h,if_pos h,Int.mul_comm,Int.mul_assoc]
    · rw [if_neg h,if_neg h,Int.mul_zero,Int.mul_zero]
  rw [e1,sm_swap]
  congr 1
  refine sm_congr fun j hj => ?_
  rw [sm_mul]
  congr 1
  have e2 : (fun k => if j ≤ k then co q (k - j) * a (n + k) else 0) = fun k => if j ≤ k then (fun i => co q i * a (n + j + i)) (k - j) else 0 := by
    funext k
    by_cases h : j ≤ k
    · rw [if_pos h,if_pos h]
      show _ = co q (k - j) * a (n + j + (k - j))
      rw [show n + j + (k - j) = n + k by omega]
    · rw [if_neg h,if_neg h]
  rw [e2,show p.length + q.length = j + (p.length - j + q.length) by omega]
  refine (sm_shift (fun i => co q i * a (n + j + i)) j _).trans ?_
  exact ks_more q a (n + j) (by omega)
theorem ks_zero {b : Int} {p : List Int} {a : Nat → Int} (h : ∀ n,tk b (a n) = 0) (n : Nat) : tk b (ks p a n) = 0 := by
  have : tk b (ks p a n) = tk b (sm p.length fun _ => 0) := tk_sm fun k _ => by rw [← tk_mul_r,h,Int.mul_zero]
  rw [this,sm_zero,tk0]
noncomputable def Kp (b : Int) (p : List Int) (a : Nat → Int) : Prop := ∀ n,tk b (ks p a n) = 0
theorem Kp.mulr {b : Int} {q : List Int} {a : Nat → Int} (h : Kp b q a) (p : List Int) : Kp b (mul b p q) a := fun n => by rw [ks_mul]; exact ks_zero h n
theorem Kp.ofRule {b : Int} {rule : List Int} {a : Nat → Int} (ha : ∀ n,rule.length ≤ n → tk b (a n) = tk b (S rule a n rule.length)) : Kp b (ofRule b rule) a := fun n => by
  unfold ks
  rw [ofRule_len,sm]
  have e1 : co (Pm.ofRule b rule) rule.length = 1 := by
    rw [Pm.ofRule,co_append,ofF_len,if_neg (by omega),Nat.sub_self]; rfl
  have e2 : tk b (sm rule.length fun k => co (Pm.ofRule b rule) k * a (n + k)) = tk b (sm rule.length fun k => -1 * (co rule (rule.length - 1 - k) * a (n + k))) := tk_sm fun k hk => by
    rw [Pm.ofRule,co_append,ofF_len,if_pos hk,co_ofF,if_pos hk,tk_mul_l,Int.zero_sub,Int.neg_mul,Int.neg_one_mul]
  have e3 : S rule a (n + rule.length) rule.length = sm rule.length fun k => co rule (rule.length - 1 - k) * a (n + k) := by
    rw [S_sm]
    have rev : ∀ (m : Nat) (f : Nat → Int),sm m f = sm m fun k => f (m - 1 - k) := by
      intro m
      induction m with
      | zero => intro f; rfl
      | succ m ih =>
        intro f
        rw [sm_head,sm,ih fun i => f (i + 1),Int.add_comm]
        have : m + 1 - 1 - m = 0 := by omega
        rw [this]
        congr 1
        exact sm_congr fun k hk => by rw [show m - 1 - k + 1 = m + 1 - 1 - k by omega]
    rw [rev]
    exact sm_congr fun k hk => by rw [show n + rule.length - 1 - (rule.length - 1 - k) = n + k by omega]
  rw [e1,Int.one_mul,← tk_add_l,e2,tk_add_l,sm_mul,← e3,← tk_add_r,ha (n + rule.length) (by omega),tk_add_r,Int.neg_one_mul,Int.add_left_neg,tk0]
noncomputable def In2 (b : Int) (p q x : List Int) : Prop := ∃ u v,∀ k,tk b (co x k) = tk b (cv (co u) (co p) k + cv (co v) (co q) k)
theorem co_add0 (p q : List Int) (k : Nat) : co (add 0 p q) k = co p k + co q k := by rw [add_co,tk_zero]
theorem co_mul0 (p q : List Int) (k : Nat) : co (mul 0 p q) k = cv (co p) (co q) k := by rw [mul_co,tk_zero]
theorem In2.left (b : Int) (p q : List Int) : In2 b p q p := ⟨[1],[],fun k => by
  rw [cv_zero (f := co []) fun i _ => .inl (co_nil _),Int.add_zero,cv_sm,sm_more (m := 1) (by omega) fun j h1 _ => by rw [show co [1] j = 0 from co_ge (by simpa using h1),Int.zero_mul]]
  simp [sm,co_zero]⟩
theorem In2.swap {b : Int} {p q x : List Int} (h : In2 b p q x) : In2 b q p x := by
  obtain ⟨u,v,e⟩ := h
  exact ⟨v,u,fun k => by rw [e,Int.add_comm]⟩
theorem In2.trans {b : Int} {p q g s x : List Int} (hg : In2 b p q g) (hs : In2 b p q s) (h : In2 b g s x) : In2 b p q x := by
  obtain ⟨a,c,eg⟩ := hg
  obtain ⟨a',c',es⟩ := hs
  obtain ⟨u,v,e⟩ := h
  refine ⟨add 0 (mul 0 u a) (mul 0 v a'),add 0 (mul 0 u c) (mul 0 v c'),fun k => ?_⟩
  have e1 : tk b (cv (co u) (co g) k) = tk b (cv (co u) (fun i => cv (co a) (co p) i + cv (co c) (co q) i) k) := cv_tk (fun _ _ => rfl) fun i _ => eg i
  have e2 : tk b (cv (co v) (co s) k) = tk b (cv (co v) (fun i => cv (co a') (co p) i + cv (co c') (co q) i) k) := cv_tk (fun _ _ => rfl) fun i _ => es i
  rw [e,tk_congr_add e1 e2]
  congr 1
  have f1 : ∀ y z : List Int,co (add 0 (mul 0 u y) (mul 0 v z)) = fun i => cv (co u) (co y) i + cv (co v) (co z) i := fun y z => by
    funext i; rw [co_add0,co_mul0,co_mul0]
  rw [f1,f1,cv_addl (cv (co u) (co a)),cv_addl (cv (co u) (co c)),cv_addr,cv_addr,cv_assoc,cv_assoc,cv_assoc,cv_assoc]
  omega
theorem Div.in1 {b : Int} {p m q r : List Int} (h : Div b p m q r) : In2 b m r p := by
  refine ⟨q,[1],fun k => ?_⟩
  obtain ⟨u,v,e⟩ := In2.left b r []
  rw [← h.eq k]
  have : cv (co [1]) (co r) k = co r k := by
    rw [cv_sm,sm_more (m := 1) (by omega) fun j h1 _ => by rw [show co [1] j = 0 from co_ge (by simpa using h1),Int.zero_mul]]
    simp [sm,co_zero]
  rw [this]
theorem Div.in2 {b : Int} {p m q r : List Int} (h : Div b p m q r) : In2 b p m r := by
  refine ⟨[1],q.map (-1 * ·),fun k => ?_⟩
  have e1 : cv (co [1]) (co p) k = co p k := by
    rw [cv_sm,sm_more (m := 1) (by omega) fun j h1 _ => by rw [show co [1] j = 0 from co_ge (by simpa using h1),Int.zero_mul]]
    simp [sm,co_zero]
  have e2 : co (q.map (-1 * ·)) = fun i => -1 * co q i := by funext i; rw [co_map (by simp)]
  rw [e1,e2,cv_mull]
  have := tk_congr_add (h.eq k) (rfl : tk b (-1 * cv (co q) (co m) k) = tk b (-1 * cv (co q) (co m) k))
  rw [← this]
  congr 1; omega
structure Gcd (b : Int) (p q g : List Int) : Prop where
  py : Py b g
  mon : Mon g
  sum : In2 b p q g
  one : In2 b g [] p
  two : In2 b g [] q
theorem In2.dv {b : Int} {g p : List Int} (h : In2 b g [] p) : ∃ u,∀ k,tk b (co p k) = tk b (cv (co u) (co g) k) := by
  obtain ⟨u,v,e⟩ := h
  exact ⟨u,fun k => by rw [e,cv_zero (g := co []) fun i _ => .inr (co_nil _),Int.add_zero]⟩
end Pm
namespace Pm
open Rm
theorem last_split {p : List Int} (h : p ≠ []) : p = p.dropLast ++ [co p (p.length - 1)] := by
  have hp : 0 < p.length := List.length_pos_iff.mpr h
  conv => lhs; rw [← List.dropLast_concat_getLast h]
  congr 2
  rw [co_lt (by omega),List.getLast_eq_getElem]
theorem trim_of_last {p : List Int} (h : p ≠ []) (h0 : co p (p.length - 1) ≠ 0) : trim p = p := by
  have e := last_split h
  rw [e,trim_last _ h0]
theorem last_ne {p : List Int} (h : p ≠ []) (ht : trim p = p) : co p (p.length - 1) ≠ 0 := by
  intro z
  have e := last_split h
  rw [z] at e
  have e2 : trim p = trim p.dropLast := by
    conv => lhs; rw [e]
    exact trim_zero _
  have := trim_len_le p.dropLast
  rw [← e2,ht,List.length_dropLast] at this
  have hp : 0 < p.length := List.length_pos_iff.mpr h
  omega
structure MonOf (b : Int) (p m : List Int) : Prop where
  py : Py b m
  len : m.length = p.length
  mon : p ≠ [] → Mon m
  to : ∃ c,∀ k,tk b (co m k) = tk b (c * co p k)
  of : ∃ c,∀ k,tk b (co p k) = tk b (c * co m k)
theorem In2.scale {b : Int} {p m : List Int} (h : ∃ c,∀ k,tk b (co m k) = tk b (c * co p k)) (q : List Int) : In2 b p q m := by
  obtain ⟨c,e⟩ := h
  refine ⟨[c],[],fun k => ?_⟩
  rw [cv_zero (f := co []) fun i _ => .inl (co_nil _),Int.add_zero,e,cv_sm,sm_more (m := 1) (by omega) fun j h1 _ => by rw [show co [c] j = 0 from co_ge (by simpa using h1),Int.zero_mul]]
  simp [sm,co_zero]
theorem MonOf.nil (b : Int) : MonOf b [] [] := ⟨Py.nil b,rfl,fun h => absurd rfl h,⟨0,fun k => by rw [co_nil,Int.zero_mul]⟩,⟨0,fun k => by rw [co_nil,Int.zero_mul]⟩⟩
noncomputable def monicN (P : Nat) (p : List Int) : List Int := p.map fun x => x * (co p (p.length - 1)) ^ (P - 2) % (P : Int)
structure GcdI (b : Int) (p q g s : List Int) : Prop where
  gy : Py b g
  sy : Py b s
  gm : g ≠ [] → Mon g
  sm_ : s ≠ [] → Mon s
  some : s = [] → g ≠ []
  gi : In2 b p q g
  si : In2 b p q s
  pi : In2 b g s p
  qi : In2 b g s q
theorem GcdI.start {b : Int} {p q g s : List Int} (hg : MonOf b p g) (hs : MonOf b q s) (h : q = [] → p ≠ []) : GcdI b p q g s := by
  have lg := hg.len
  have ls := hs.len
  have pn : g ≠ [] → p ≠ [] := fun z e => z (List.eq_nil_of_length_eq_zero (by rw [lg,e]; rfl))
  have qn : s ≠ [] → q ≠ [] := fun z e => z (List.eq_nil_of_length_eq_zero (by rw [ls,e]; rfl))
  refine ⟨hg.py,hs.py,fun z => hg.mon (pn z),fun z => hs.mon (qn z),fun z e => ?_,In2.scale hg.to q,(In2.scale hs.to p).swap,In2.scale hg.of s,(In2.scale hs.of g).swap⟩
  have q0 : q = [] := List.eq_nil_of_length_eq_zero (by rw [← ls,z]; rfl)
  exact h q0 (List.eq_nil_of_length_eq_zero (by rw [← lg,e]; rfl))
theorem GcdI.step {b : Int} {p q g s o l m : List Int} (h : GcdI b p q g s) (hs : s ≠ []) (d : Div b g s o l) (hm : MonOf b l m) : GcdI b p q s m := by
  have lm := hm.len
  have ln : m ≠ [] → l ≠ [] := fun z e => z (List.eq_nil_of_length_eq_zero (by rw [lm,e]; rfl))
  have li : In2 b p q l := h.gi.trans h.si d.in2
  have gs : In2 b s m g := (In2.left b s m).trans (In2.scale hm.of s).swap d.in1
  refine ⟨h.sy,hm.py,h.sm_,fun z => hm.mon (ln z),fun _ => hs,h.si,li.trans li (In2.scale hm.to l),?_,?_⟩
  · exact gs.trans (In2.left b s m) h.pi
  · exact gs.trans (In2.left b s m) h.qi
theorem GcdI.stop {b : Int} {p q g s : List Int} (h : GcdI b p q g s) (hs : s = []) : Gcd b p q g := by
  subst hs
  exact ⟨h.gy,h.gm (h.some rfl),h.gi,h.pi,h.qi⟩
end Pm
namespace Pm
open Rm
theorem ofRule_mon (b : Int) (c : List Int) : Mon (ofRule b c) := ⟨by rw [ofRule_len]; omega,by
  rw [ofRule_len,ofRule,co_append,ofF_len,if_neg (by omega),show c.length + 1 - 1 - c.length = 0 by omega]; rfl⟩
theorem ruleOf_len (b : Int) (p : List Int) : (ruleOf b p).length = p.length - 1 := by rw [ruleOf,ofF_len]
theorem ofRule_ruleOf {b : Int} {w : List Int} (hw : ∀ k,tk b (co w k) = co w k) (hm : Mon w) : ofRule b (ruleOf b w) = w := by
  have hp := hm.pos
  refine co_ext (by rw [ofRule_len,ruleOf_len]; omega) fun k => ?_
  rw [ofRule,co_append,ofF_len,ruleOf_len]
  by_cases h : k < w.length - 1
  · rw [if_pos h,co_ofF,if_pos h,ruleOf,co_ofF,if_pos (by omega),neg_neg_tk,show w.length - 1 - 1 - (w.length - 1 - 1 - k) = k by omega,hw]
  · rw [if_neg h]
    by_cases c : k = w.length - 1
    · rw [c,Nat.sub_self,hm.one]; rfl
    · rw [co_ge (p := w) (by omega),co_ge]
      simp; omega
theorem ks_ofRule {b : Int} {rule : List Int} {a : Nat → Int} (n : Nat) : tk b (ks (ofRule b rule) a n) = tk b (a (n + rule.length) - S rule a (n + rule.length) rule.length) := by
  unfold ks
  rw [ofRule_len,sm]
  have e1 : co (ofRule b rule) rule.length = 1 := by
    rw [ofRule,co_append,ofF_len,if_neg (by omega),Nat.sub_self]; rfl
  have e2 : tk b (sm rule.length fun k => co (ofRule b rule) k * a (n + k)) = tk b (sm rule.length fun k => -1 * (co rule (rule.length - 1 - k) * a (n + k))) := tk_sm fun k hk => by
    rw [ofRule,co_append,ofF_len,if_pos hk,co_ofF,if_pos hk,tk_mul_l,Int.zero_sub,Int.neg_mul,Int.neg_one_mul]
  have e3 : S rule a (n + rule.length) rule.length = sm rule.length fun k => co rule (rule.length - 1 - k) * a (n + k) := by
    rw [S_sm]
    have rev : ∀ (m : Nat) (f : Nat → Int),sm m f = sm m fun k => f (m - 1 - k) := by
      intro m
      induction m with
      | zero => intro f; rfl
      | succ m ih =>
        intro f
        rw [sm_head,sm,ih fun i => f (i + 1),Int.add_comm]
        have : m + 1 - 1 - m = 0 := by omega
        rw [this]
        congr 1
        exact sm_congr fun k hk => by rw [show m - 1 - k + 1 = m + 1 - 1 - k by omega]
    rw [rev]
    exact sm_congr fun k hk => by rw [show n + rule.length - 1 - (rule.length - 1 - k) = n + k by omega]
  rw [e1,Int.one_mul,← tk_add_l,e2,tk_add_l,sm_mul,← e3]
  congr 1; omega
theorem Kp.rec {b : Int} {rule : List Int} {a : Nat → Int} (h : Kp b (Pm.ofRule b rule) a) : ∀ n,rule.length ≤ n → tk b (a n) = tk b (S rule a n rule.length) := fun n hn => by
  have := h (n - rule.length)
  rw [ks_ofRule,show n - rule.length + rule.length = n by omega] at this
  exact tk_sub_zero.mp this
theorem at_longer {b : Int} {w : List Int} {a : Nat → Int} (hw : ∀ k,tk b (co w k) = co w k) (hm : Mon w) (hk : Kp b w a) (ha : ∀ n,tk b (a n) = a n) {starts : List Int} (hl : starts.length = w.length - 1) (hs : ∀ i,i < starts.length → starts.getD i 0 = a i) (n : Nat) :
    at_ b (ruleOf b w) starts n = a n := by
  have lr := ruleOf_len b w
  rw [← ofRule_ruleOf hw hm] at hk
  refine at_uniq (by omega) (g := a) (fun i hi => (hs i hi).symm) (fun i hi => ?_) n
  rw [← ha i]
  exact hk.rec i (by omega)
end Pm
namespace Dm
open Pm
end Dm
namespace Dm
open Pm
end Dm
namespace Dm
open Pm Rm
noncomputable def Dom (b : Int) : Prop := ∀ x y,tk b x ≠ 0 → tk b (x * y) = 0 → tk b y = 0
theorem tk_zero_iff {b x : Int} : tk b x = 0 ↔ ∃ e,x = b * e := by
  unfold tk
  split
  · rename_i h
    constructor
    · intro z; exact ⟨0,by rw [z,Int.mul_zero]⟩
    · rintro ⟨e,he⟩; rw [he,h,Int.zero_mul]
  · constructor
    · intro z; exact ⟨x / b,(Int.mul_ediv_cancel' (Int.dvd_of_emod_eq_zero z)).symm⟩
    · rintro ⟨e,he⟩; rw [he]; exact Int.mul_emod_right b e
noncomputable def ln (L : List (List Int)) (i : Nat) : List Int := L.getD i []
end Dm
namespace Dm
open Rm Pm
end Dm
namespace Pm
open Rm
noncomputable def Fs (f : Nat → Int) (n : Nat) : Prop := ∀ k,n ≤ k → f k = 0
theorem Fs.co (p : List Int) : Fs (co p) p.length := fun _ h => co_ge h
theorem Fs.mono {f : Nat → Int} {m n : Nat} (h : Fs f m) (hmn : m ≤ n) : Fs f n := fun k hk => h k (by omega)
theorem Fs.add {f g : Nat → Int} {n : Nat} (h : Fs f n) (h' : Fs g n) : Fs (fun k => f k + g k) n := fun k hk => by show f k + g k = 0; rw [h k hk,h' k hk]; rfl
theorem Fs.mul {f : Nat → Int} {n : Nat} (c : Int) (h : Fs f n) : Fs (fun k => c * f k) n := fun k hk => by show c * f k = 0; rw [h k hk,Int.mul_zero]
theorem Fs.cv {f g : Nat → Int} {m n : Nat} (h : Fs f m) (h' : Fs g n) : Fs (Pm.cv f g) (m + n) := fun k hk => cv_zero fun i _ => by
  by_cases c : m ≤ i
  · exact .inl (h i c)
  · exact .inr (h' _ (by omega))
theorem tkz_mul {b x : Int} (y : Int) (h : tk b x = 0) : tk b (y * x) = 0 := by rw [← tk_mul_r,h,Int.mul_zero,tk0]
theorem mon_cancel {b : Int} {m : List Int} (hm : Mon m) {f : Nat → Int} {n : Nat} (hf : Fs f n) (h : ∀ k,m.length - 1 ≤ k → tk b (cv f (co m) k) = 0) : ∀ k,tk b (f k) = 0 := by
  have q : ∀ d j,n ≤ j + d → tk b (f j) = 0 := fun d => by
    induction d with
    | zero => intro j hj; rw [hf j hj,tk0]
    | succ d ih =>
      intro j hj
      have e := h (j + (m.length - 1)) (by omega)
      rw [cv_sm] at e
      have e2 : tk b (sm (j + (m.length - 1) + 1) fun i => f i * co m (j + (m.length - 1) - i)) = tk b (sm (j + (m.length - 1) + 1) fun i => if i = j then f j else 0) := tk_sm fun i hi => by
        by_cases c : i = j
        · rw [if_pos c,c,Nat.add_sub_cancel_left,hm.one,Int.mul_one]
        · rw [if_neg c,tk0]
          by_cases d2 : i < j
          · rw [co_ge (by have := hm.pos; omega),Int.mul_zero,tk0]
          · rw [Int.mul_comm]; exact tkz_mul _ (ih i (by omega))
      rw [e2,sm_single,if_pos (by omega)] at e
      exact e
  exact fun k => q n k (by omega)
noncomputable def Dv (b : Int) (m : List Int) (f : Nat → Int) : Prop := ∃ s n,Fs s n ∧ ∀ k,tk b (f k) = tk b (cv s (co m) k)
theorem Dv.congr {b : Int} {m : List Int} {f g : Nat → Int} (e : ∀ k,tk b (f k) = tk b (g k)) (h : Dv b m f) : Dv b m g := by
  obtain ⟨s,n,hs,h⟩ := h
  exact ⟨s,n,hs,fun k => by rw [← e,h]⟩
theorem Dv.zero (b : Int) (m : List Int) : Dv b m fun _ => 0 := ⟨fun _ => 0,0,fun _ _ => rfl,fun k => by rw [cv_zero fun i _ => .inl rfl]⟩
theorem Dv.add {b : Int} {m : List Int} {f g : Nat → Int} (h : Dv b m f) (h' : Dv b m g) : Dv b m fun k => f k + g k := by
  obtain ⟨s,n,hs,h⟩ := h
  obtain ⟨s',n',hs',h'⟩ := h'
  exact ⟨fun k => s k + s' k,n + n',(hs.mono (by omega)).add (hs'.mono (by omega)),fun k => by rw [cv_addl]; exact tk_congr_add (h k) (h' k)⟩
theorem Dv.smul {b : Int} {m : List Int} {f : Nat → Int} (c : Int) (h : Dv b m f) : Dv b m fun k => c * f k := by
  obtain ⟨s,n,hs,h⟩ := h
  exact ⟨fun k => c * s k,n,hs.mul c,fun k => by rw [cv_mull,← tk_mul_r,h,tk_mul_r]⟩
theorem Dv.sub {b : Int} {m : List Int} {f g : Nat → Int} (h : Dv b m f) (h' : Dv b m g) : Dv b m fun k => f k - g k :=
  (h.add (h'.smul (-1))).congr fun k => by rw [show f k + -1 * g k = f k - g k by omega]
theorem Dv.self {b : Int} {m : List Int} {g : Nat → Int} {n : Nat} (hg : Fs g n) : Dv b m (cv g (co m)) := ⟨g,n,hg,fun _ => rfl⟩
theorem Dv.short {b : Int} {m : List Int} (hm : Mon m) {f : Nat → Int} (hf : Fs f (m.length - 1)) (h : Dv b m f) : ∀ k,tk b (f k) = 0 := by
  obtain ⟨s,n,hs,h⟩ := h
  have z := mon_cancel (b := b) hm hs fun k hk => by rw [← h,hf k hk,tk0]
  intro k
  rw [h,← tk0 b,← cv_zero (f := fun _ => (0 : Int)) (g := co m) (k := k) fun i _ => .inl rfl]
  exact cv_tk (fun i _ => by rw [z,tk0]) fun i _ => rfl
noncomputable def tp (P : List Int) (a : Nat → Int) (k : Nat) : Int := sm (P.length - 1 - k) fun i => co P (k + 1 + i) * a i
theorem tp_fs (P : List Int) (a : Nat → Int) : Fs (tp P a) (P.length - 1) := fun k hk => by unfold tp; rw [show P.length - 1 - k = 0 by omega]; rfl
theorem tp_tk {b : Int} {P : List Int} {a a' : Nat → Int} (h : ∀ n,tk b (a n) = tk b (a' n)) (k : Nat) : tk b (tp P a k) = tk b (tp P a' k) := tk_sm fun i _ => by rw [← tk_mul_r,h,tk_mul_r]
theorem tp_lin (P : List Int) (c : Int) (a a' : Nat → Int) (k : Nat) : tp P (fun n => c * a n + a' n) k = c * tp P a k + tp P a' k := by
  unfold tp
  rw [← sm_mul,← sm_add]
  refine sm_congr fun i _ => ?_
  rw [Int.mul_add,Int.mul_left_comm]
theorem tp_shift {b : Int} {P : List Int} (hP : 0 < P.length) {a : Nat → Int} (h0 : tk b (ks P a 0) = 0) (k : Nat) : tk b (if k = 0 then 0 else tp P a (k - 1)) = tk b (tp P (fun n => a (n + 1)) k + a 0 * co P k) := by
  by_cases c : k = 0
  · rw [if_pos c,c,tk0,← h0]
    refine congrArg (tk b) ?_
    unfold ks tp
    obtain ⟨N,hN⟩ : ∃ N,P.length = N + 1 := ⟨P.length - 1,by omega⟩
    rw [hN,sm_head,Nat.add_sub_cancel,Nat.sub_zero,Int.add_comm,Int.mul_comm (co P 0)]
    congr 1
    exact sm_congr fun i _ => by rw [Nat.zero_add,Nat.zero_add,Nat.add_comm 1 i]
  · rw [if_neg c]
    by_cases d : k < P.length
    · refine congrArg (tk b) ?_
      unfold tp
      rw [show P.length - 1 - (k - 1) = (P.length - 1 - k) + 1 by omega,sm_head,Int.add_comm]
      congr 1
      · exact sm_congr fun i _ => by rw [show k - 1 + 1 + (i + 1) = k + 1 + i by omega]
      · rw [show k - 1 + 1 + 0 = k by omega,Int.mul_comm]
    · rw [tp_fs P a (k - 1) (by omega),tp_fs P _ k (by omega),co_ge (by omega),Int.mul_zero]; rfl
theorem cv_cons (x : Int) (q : List Int) (f : Nat → Int) (k : Nat) : cv (co (x :: q)) f k = x * f k + (if k = 0 then 0 else cv (co q) f (k - 1)) := by
  cases k with
  | zero => rw [cv,co_zero,if_pos rfl,Int.add_zero]
  | succ k =>
    rw [cv,co_zero,if_neg (by omega),Nat.add_sub_cancel]
    congr 1
theorem cv_x (q f : Nat → Int) (k : Nat) : (if k = 0 then 0 else cv q f (k - 1)) = cv q (fun i => if i = 0 then 0 else f (i - 1)) k := by
  cases k with
  | zero => rw [if_pos rfl,cv,if_pos rfl,Int.mul_zero]
  | succ k => rw [if_neg (by omega),Nat.add_sub_cancel,cv_last,if_pos rfl,Int.mul_zero,Int.add_zero]; rfl
theorem ks_cons (x : Int) (q : List Int) (a : Nat → Int) (n : Nat) : ks (x :: q) a n = x * a n + ks q (fun n => a (n + 1)) n := by
  unfold ks
  rw [List.length_cons,sm_head,co_zero,Nat.add_zero]
  congr 1
theorem top_acts {b : Int} {P : List Int} (hP : 0 < P.length) : ∀ (q : List Int) {a : Nat → Int},Kp b P a → Dv b P fun k => cv (co q) (tp P a) k - tp P (ks q a) k
  | [],a,_ => (Dv.zero b P).congr fun k => by
    rw [cv_zero fun i _ => .inl (co_nil i)]
    have : tp P (ks [] a) k = 0 := sm_none fun i _ => by show co P (k + 1 + i) * 0 = 0; exact Int.mul_zero _
    rw [this]; rfl
  | x :: q,a,h => by
    have h1 : Kp b P fun n => a (n + 1) := fun n => by
      have e : ks P (fun n => a (n + 1)) n = ks P a (n + 1) := sm_congr fun k _ => by show _ * a (n + k + 1) = _ * a (n + 1 + k); rw [show n + k + 1 = n + 1 + k by omega]
      rw [e]; exact h (n + 1)
    have ih := top_acts hP q h1
    have d := Dv.self (b := b) (m := P) ((Fs.co q).mul (a 0))
    refine (ih.add d).congr fun k => ?_
    have e1 : tk b (if k = 0 then 0 else cv (co q) (tp P a) (k - 1)) = tk b (cv (co q) (tp P fun n => a (n + 1)) k + a 0 * cv (co q) (co P) k) := by
      rw [cv_x,← cv_mull,cv_tk (fun i _ => rfl) fun i _ => tp_shift hP (h 0) i,cv_addr]
      congr 2
      rw [cv_comm,cv_mull,cv_mull,cv_comm]
    have e2 : tp P (ks (x :: q) a) k = x * tp P a k + tp P (ks q fun n => a (n + 1)) k := by
      rw [← tp_lin]
      unfold tp
      exact sm_congr fun i _ => by rw [ks_cons]
    rw [cv_cons,e2,cv_mull]
    have e3 := tk_congr_add e1 (rfl : tk b (-(tp P (ks q fun n => a (n + 1)) k)) = _)
    rw [show x * tp P a k + (if k = 0 then 0 else cv (co q) (tp P a) (k - 1)) - (x * tp P a k + tp P (ks q fun n => a (n + 1)) k) = (if k = 0 then 0 else cv (co q) (tp P a) (k - 1)) + -(tp P (ks q fun n => a (n + 1)) k) by omega,e3]
    refine congrArg (tk b) ?_
    omega
theorem top_none {b : Int} {P : List Int} (hm : Mon P) {e : Nat → Int} (h : ∀ k,tk b (tp P e k) = 0) : ∀ n,n < P.length - 1 → tk b (e n) = 0 := fun n => by
  induction n using Nat.strongRecOn with
  | ind n ih =>
    intro hn
    have q := h (P.length - 1 - 1 - n)
    unfold tp at q
    rw [show P.length - 1 - (P.length - 1 - 1 - n) = n + 1 by omega,sm] at q
    have z : tk b (sm n fun i => co P (P.length - 1 - 1 - n + 1 + i) * e i) = 0 := by
      have := tk_sm (b := b) (n := n) (f := fun i => co P (P.length - 1 - 1 - n + 1 + i) * e i) (g := fun _ => 0) fun i hi => by rw [tk0]; exact tkz_mul _ (ih i hi (by omega))
      rw [this,sm_zero,tk0]
    rw [← tk_add_l,z,Int.zero_add,show P.length - 1 - 1 - n + 1 + n = P.length - 1 by omega,hm.one,Int.one_mul] at q
    exact q
theorem keeps_iff {b : Int} {rule : List Int} {a : Nat → Int} (ha : ∀ n,rule.length ≤ n → tk b (a n) = tk b (S rule a n rule.length)) (q : List Int) :
    Kp b q a ↔ Dv b (ofRule b rule) (cv (co q) (tp (ofRule b rule) a)) := by
  have hm := ofRule_mon b rule
  have hK : Kp b (ofRule b rule) a := Kp.ofRule ha
  have A := top_acts hm.pos q hK
  constructor
  · intro h
    have z : Dv b (ofRule b rule) (tp (ofRule b rule) (ks q a)) := (Dv.zero b _).congr fun k => by
      have := tp_tk (b := b) (P := ofRule b rule) (a := ks q a) (a' := fun _ => 0) (fun n => by rw [h n,tk0]) k
      rw [this]
      exact (congrArg (tk b) (show tp (ofRule b rule) (fun _ => 0) k = 0 from sm_none fun i _ => Int.mul_zero _)).symm
    exact (A.add z).congr fun k => by rw [Int.sub_add_cancel]
  · intro h
    have z : Dv b (ofRule b rule) (tp (ofRule b rule) (ks q a)) := (h.sub A).congr fun k => by
      rw [show cv (co q) (tp (ofRule b rule) a) k - (cv (co q) (tp (ofRule b rule) a) k - tp (ofRule b rule) (ks q a) k) = tp (ofRule b rule) (ks q a) k by omega]
    have n0 := top_none hm (z.short hm (tp_fs _ _))
    rw [ofRule_len,Nat.add_sub_cancel] at n0
    exact ks_all ha n0
structure GcdW (b : Int) (p : List Int) (t : Nat → Int) (g : List Int) : Prop where
  mon : Mon g
  one : Dv b g (co p)
  two : Dv b g t
  sum : ∃ (N : Int) (u v : Nat → Int) (n : Nat),tk b N ≠ 0 ∧ Fs u n ∧ Fs v n ∧ ∀ k,tk b (N * co g k) = tk b (cv u (co p) k + cv v t k)
theorem div_ex {b : Int} {m : List Int} (hm : Mon m) {p : List Int} (hp : ∀ k,tk b (co p k) = co p k) : ∃ q r,Div b p m q r := by
  have go : ∀ d,d ≤ p.length - (m.length - 1) → ∃ o l,DivI b p m (p.length - (m.length - 1) - d) o l := fun d => by
    induction d with
    | zero => intro _; exact ⟨_,_,DivI.start hp⟩
    | succ d ih =>
      intro hd
      obtain ⟨o,l,I⟩ := ih (by omega)
      obtain ⟨s,hs⟩ : ∃ s,p.length - (m.length - 1) - d = s + 1 := ⟨p.length - (m.length - 1) - d - 1,by omega⟩
      rw [hs] at I
      refine ⟨o.set s (co l (s + (m.length - 1))),ofF l.length fun k => lf b (co l (s + (m.length - 1))) s m.length l m k,?_⟩
      rw [show p.length - (m.length - 1) - (d + 1) = s by omega]
      refine I.step hm (by omega) (ofF_len ..) fun k => ?_
      rw [co_ofF]
      by_cases c : k < l.length
      · rw [if_pos c]
      · rw [if_neg c]
        have hl := I.ll
        have hmp := hm.pos
        unfold lf
        rw [if_neg (by omega),co_ge (by omega)]
  obtain ⟨o,l,I⟩ := go _ (Nat.le_refl _)
  rw [Nat.sub_self] at I
  exact ⟨_,_,I.stop hm⟩
theorem dv_of_times {b : Int} (hD : ∀ x y,tk b x ≠ 0 → tk b (x * y) = 0 → tk b y = 0) {L : List Int} (hL : Mon L) {N : Int} (hN : tk b N ≠ 0) {f : Nat → Int} {n : Nat} (hf : Fs f n) (h : Dv b L fun k => N * f k) : Dv b L f := by
  obtain ⟨o,r,D⟩ := div_ex (b := b) hL (p := ofF n fun k => tk b (f k)) fun k => by
    rw [co_ofF]; split
    · exact tk_tk ..
    · exact tk0 b
  have ef : ∀ k,tk b (co (ofF n fun k => tk b (f k)) k) = tk b (f k) := fun k => by
    rw [co_ofF]
    by_cases c : k < n
    · rw [if_pos c,tk_tk]
    · rw [if_neg c,hf k (by omega)]
  have e : ∀ k,tk b (f k) = tk b (cv (co o) (co L) k + co r k) := fun k => by rw [D.eq,ef]
  have z : Dv b L fun k => N * co r k := (h.sub ((Dv.self (b := b) (m := L) (Fs.co o)).smul N)).congr fun k => by
    rw [show N * f k - N * cv (co o) (co L) k = N * (f k - cv (co o) (co L) k) by rw [Int.mul_sub],← tk_mul_r,← tk_mul_r b N (co r k)]
    congr 2
    have := e k
    have q := tk_congr_add this (rfl : tk b (-cv (co o) (co L) k) = _)
    rw [show f k - cv (co o) (co L) k = f k + -cv (co o) (co L) k by omega,q]
    exact congrArg (tk b) (by omega)
  have hr : Fs (fun k => N * co r k) (L.length - 1) := ((Fs.co r).mono (by have := D.short; omega)).mul N
  have z0 := z.short hL hr
  refine ⟨co o,o.length,Fs.co o,fun k => ?_⟩
  rw [e,← tk_add_r,hD N _ hN (z0 k),Int.add_zero]
theorem GcdW.keeps {b : Int} (hD : ∀ x y,tk b x ≠ 0 → tk b (x * y) = 0 → tk b y = 0) {rule : List Int} {a : Nat → Int} (ha : ∀ n,rule.length ≤ n → tk b (a n) = tk b (S rule a n rule.length)) {g L : List Int} (h : GcdW b (ofRule b rule) (tp (ofRule b rule) a) g) (hL : Mon L)
    (hP : ∀ k,tk b (co (ofRule b rule) k) = tk b (cv (co L) (co g) k)) (q : List Int) : Kp b q a ↔ Dv b L (co q) := by
  rw [keeps_iff ha q]
  generalize ofRule b rule = P at h hP
  obtain ⟨t,nt,ht,hT⟩ := h.two
  obtain ⟨N,u,v,n,hN,hu,hv,hs⟩ := h.sum
  generalize tp P a = T at h hT hs
  have bez : ∀ k,tk b ((if k = 0 then N else 0) - (cv u (co L) k + cv v t k)) = 0 := by
    refine mon_cancel (b := b) h.mon (n := 1 + (n + L.length) + (n + nt)) (fun k hk => ?_) fun k _ => ?_
    · show (if k = 0 then N else 0) - (cv u (co L) k + cv v t k) = 0
      rw [if_neg (by omega),hu.cv (Fs.co L) k (by omega),hv.cv ht k (by omega)]; rfl
    · have e : cv (fun k => (if k = 0 then N else 0) - (cv u (co L) k + cv v t k)) (co g) k = N * co g k + -1 * (cv u (cv (co L) (co g)) k + cv v (cv t (co g)) k) := by
        rw [← cv_assoc,← cv_assoc,← cv_addl,← cv_mull]
        have e2 : N * co g k = cv (fun k => if k = 0 then N else 0) (co g) k := by rw [cv_point,if_pos (Nat.zero_le _),Nat.sub_zero]
        rw [e2,← cv_addl]
        refine cv_congr (fun i _ => ?_) fun i _ => rfl
        omega
      rw [e,← tk_add_l,hs,tk_add_l]
      have e3 : tk b (cv u (co P) k + cv v T k) = tk b (cv u (cv (co L) (co g)) k + cv v (cv t (co g)) k) := tk_congr_add (cv_tk (fun i _ => rfl) fun i _ => hP i) (cv_tk (fun i _ => rfl) fun i _ => hT i)
      have e4 := tk_congr_add e3 (rfl : tk b (-1 * (cv u (cv (co L) (co g)) k + cv v (cv t (co g)) k)) = _)
      rw [e4,show ∀ x : Int,x + -1 * x = 0 from fun x => by omega,tk0]
  constructor
  · rintro ⟨s,ns,hs',e⟩
    have qt : ∀ k,tk b (cv (co q) t k - cv s (co L) k) = 0 := by
      refine mon_cancel (b := b) h.mon (n := (q.length + nt) + (ns + L.length)) (fun k hk => ?_) fun k _ => ?_
      · show cv (co q) t k - cv s (co L) k = 0
        rw [(Fs.co q).cv ht k (by omega),hs'.cv (Fs.co L) k (by omega)]; rfl
      · have e1 : cv (fun k => cv (co q) t k - cv s (co L) k) (co g) k = cv (co q) (cv t (co g)) k + -1 * cv s (cv (co L) (co g)) k := by
          rw [← cv_assoc,← cv_assoc,← cv_mull,← cv_addl]
          exact cv_congr (fun i _ => by omega) fun i _ => rfl
        have e2 : tk b (cv (co q) (cv t (co g)) k) = tk b (cv s (cv (co L) (co g)) k) := by
          rw [← cv_tk (fun i _ => rfl) (fun i _ => hT i),e,cv_tk (fun i _ => rfl) fun i _ => hP i]
        have e3 := tk_congr_add e2 (rfl : tk b (-1 * cv s (cv (co L) (co g)) k) = _)
        rw [e1,e3,show ∀ x : Int,x + -1 * x = 0 from fun x => by omega,tk0]
    refine dv_of_times hD hL hN (Fs.co q) ?_
    refine ⟨fun k => cv (co q) u k + cv v s k,(q.length + n) + (n + ns),((((Fs.co q).cv hu)).mono (by omega)).add ((hv.cv hs').mono (by omega)),fun k => ?_⟩
    have e1 : tk b (N * co q k) = tk b (cv (fun k => cv u (co L) k + cv v t k) (co q) k) := by
      have e2 : N * co q k = cv (fun k => if k = 0 then N else 0) (co q) k := by rw [cv_point,if_pos (Nat.zero_le _),Nat.sub_zero]
      rw [e2]
      exact cv_tk (fun i _ => tk_sub_zero.mp (bez i)) fun i _ => rfl
    rw [e1,cv_addl,cv_addl]
    refine tk_congr_add ?_ ?_
    · exact congrArg (tk b) ((cv_comm ..).trans (cv_assoc ..).symm)
    · rw [cv_assoc,cv_assoc]
      refine cv_tk (fun i _ => rfl) fun i _ => ?_
      rw [cv_comm]
      exact tk_sub_zero.mp (qt i)
  · rintro ⟨s,ns,hs',e⟩
    refine ⟨cv s t,ns + nt,hs'.cv ht,fun k => ?_⟩
    rw [cv_tk (fun i _ => e i) (fun i _ => hT i),cv_tk (f := cv s t) (fun i _ => rfl) (fun i _ => hP i)]
    refine congrArg (tk b) ?_
    rw [cv_assoc,cv_assoc]
    refine cv_congr (fun i _ => rfl) fun i _ => ?_
    rw [← cv_assoc,← cv_assoc]
    exact cv_congr (fun j _ => cv_comm ..) fun j _ => rfl
end Pm
namespace Om
noncomputable def Prime (p : Nat) : Prop := 2 ≤ p ∧ ∀ d,d ∣ p → d = 1 ∨ d = p
theorem Prime.cop {p x : Nat} (h : Prime p) (hx : ¬ p ∣ x) : Nat.Coprime p x := by
  rcases h.2 _ (Nat.gcd_dvd_left p x) with e | e
  · exact e
  · exact absurd (e ▸ Nat.gcd_dvd_right p x) hx
theorem Prime.dvd {p x y : Nat} (h : Prime p) (hd : p ∣ x * y) : p ∣ x ∨ p ∣ y := by
  by_cases c : p ∣ x
  · exact .inl c
  · exact .inr ((h.cop c).dvd_of_dvd_mul_left hd)
noncomputable def ch : Nat → Nat → Nat
  | _,0 => 1
  | 0,_ + 1 => 0
  | n + 1,k + 1 => ch n k + ch n (k + 1)
theorem ch_zero (n : Nat) : ch n 0 = 1 := by cases n <;> rfl
theorem ch_out : ∀ (n k : Nat),n < k → ch n k = 0
  | 0,k + 1,_ => rfl
  | n + 1,k + 1,h => by rw [ch,ch_out n k (by omega),ch_out n (k + 1) (by omega)]
theorem ch_self : ∀ n,ch n n = 1
  | 0 => rfl
  | n + 1 => by rw [ch,ch_self n,ch_out n (n + 1) (by omega)]
theorem ch_absorb : ∀ n k : Nat,(k + 1) * ch (n + 1) (k + 1) = (n + 1) * ch n k
  | 0,0 => rfl
  | 0,k + 1 => by
    have e : ch (0 + 1) (k + 1 + 1) = ch 0 (k + 1) + ch 0 (k + 1 + 1) := rfl
    rw [e,ch_out 0 (k + 1) (by omega),ch_out 0 (k + 1 + 1) (by omega)]; simp
  | n + 1,0 => by
    have := ch_absorb n 0
    have e : ch (n + 1 + 1) (0 + 1) = ch (n + 1) 0 + ch (n + 1) (0 + 1) := rfl
    simp only [ch_zero] at e ⊢
    rw [e]
    rw [ch_zero] at this
    omega
  | n + 1,k + 1 => by
    have h1 := ch_absorb n k
    have h2 := ch_absorb n (k + 1)
    rw [ch,Nat.mul_add]
    have e1 : (k + 1 + 1) * ch (n + 1) (k + 1) = (n + 1) * ch n k + ch (n + 1) (k + 1) := by rw [Nat.succ_mul,h1]
    rw [e1,h2]
    have e2 : ch (n + 1) (k + 1) = ch n k + ch n (k + 1) := rfl
    rw [e2,Nat.succ_mul (n + 1),Nat.mul_add]
    omega
theorem Prime.dch {p k : Nat} (h : Prime p) (h0 : 0 < k) (hk : k < p) : p ∣ ch p k := by
  obtain ⟨n,rfl⟩ : ∃ n,p = n + 1 := ⟨p - 1,by have := h.1; omega⟩
  obtain ⟨j,rfl⟩ : ∃ j,k = j + 1 := ⟨k - 1,by omega⟩
  have e := ch_absorb n j
  rcases h.dvd (x := j + 1) (y := Om.ch (n + 1) (j + 1)) (by rw [e]; exact Nat.dvd_mul_right ..) with d | d
  · exact absurd (Nat.le_of_dvd (by omega) d) (by omega)
  · exact d
noncomputable def sN (f : Nat → Nat) : Nat → Nat
  | 0 => 0
  | n + 1 => sN f n + f n
theorem sN_congr {f g : Nat → Nat} : ∀ {n : Nat},(∀ k,k < n → f k = g k) → sN f n = sN g n
  | 0,_ => rfl
  | n + 1,h => by rw [sN,sN,sN_congr fun k hk => h k (by omega),h n (by omega)]
theorem sN_add (f g : Nat → Nat) : ∀ n,sN (fun k => f k + g k) n = sN f n + sN g n
  | 0 => rfl
  | n + 1 => by rw [sN,sN,sN,sN_add f g n]; omega
theorem sN_mul (c : Nat) (f : Nat → Nat) : ∀ n,sN (fun k => c * f k) n = c * sN f n
  | 0 => rfl
  | n + 1 => by rw [sN,sN,sN_mul c f n,Nat.mul_add]
theorem sN_head (f : Nat → Nat) : ∀ n,sN f (n + 1) = f 0 + sN (fun k => f (k + 1)) n
  | 0 => by rw [sN,sN,sN]; omega
  | n + 1 => by rw [sN,sN_head f n,sN]; omega
theorem sN_dvd {p : Nat} {f : Nat → Nat} : ∀ {n : Nat},(∀ k,k < n → p ∣ f k) → p ∣ sN f n
  | 0,_ => Nat.dvd_zero _
  | n + 1,h => Nat.dvd_add (sN_dvd fun k hk => h k (by omega)) (h n (by omega))
theorem binom (a : Nat) : ∀ n,(a + 1) ^ n = sN (fun k => ch n k * a ^ k) (n + 1)
  | 0 => by simp [sN,ch]
  | n + 1 => by
    rw [Nat.pow_succ,binom a n,sN_head (fun k => ch (n + 1) k * a ^ k) (n + 1)]
    have e1 : sN (fun k => ch (n + 1) (k + 1) * a ^ (k + 1)) (n + 1) = sN (fun k => a * (ch n k * a ^ k)) (n + 1) + sN (fun k => ch n (k + 1) * a ^ (k + 1)) (n + 1) := by
      rw [← sN_add]
      refine sN_congr fun k _ => ?_
      rw [ch,Nat.add_mul,Nat.pow_succ]
      congr 1
      rw [Nat.mul_comm a,Nat.mul_assoc]
    have e2 : sN (fun k => ch n k * a ^ k) (n + 1) = 1 + sN (fun k => ch n (k + 1) * a ^ (k + 1)) (n + 1) := by
      have e3 : sN (fun k => ch n k * a ^ k) (n + 1 + 1) = sN (fun k => ch n k * a ^ k) (n + 1) := by rw [sN,ch_out n (n + 1) (by omega),Nat.zero_mul,Nat.add_zero]
      rw [← e3,sN_head]
      rw [ch_zero,Nat.pow_zero]
    rw [e1,sN_mul,ch_zero,Nat.pow_zero,Nat.mul_add,Nat.mul_one,Nat.mul_comm]
    omega
theorem Prime.pow {p : Nat} (h : Prime p) : ∀ a : Nat,a ^ p % p = a % p
  | 0 => by rw [Nat.zero_pow (by have := h.1; omega)]
  | a + 1 => by
    obtain ⟨n,rfl⟩ : ∃ n,p = n + 1 := ⟨p - 1,by have := h.1; omega⟩
    have e : (a + 1) ^ (n + 1) = 1 + sN (fun k => ch (n + 1) (k + 1) * a ^ (k + 1)) n + a ^ (n + 1) := by
      rw [binom,sN,sN_head,ch_zero,Nat.pow_zero,ch_self,Nat.one_mul,Nat.one_mul]
    obtain ⟨c,hc⟩ : (n + 1) ∣ sN (fun k => ch (n + 1) (k + 1) * a ^ (k + 1)) n := sN_dvd fun k hk => Nat.dvd_trans (h.dch (by omega) (by omega)) (Nat.dvd_mul_right ..)
    rw [e,hc,show 1 + (n + 1) * c + a ^ (n + 1) = (a ^ (n + 1) + 1) + (n + 1) * c by omega,Nat.add_mul_mod_self_left,Nat.add_mod,Prime.pow h a,← Nat.add_mod]
theorem Prime.fermat {p a : Nat} (h : Prime p) (h0 : a ≠ 0) (ha : a < p) : a ^ (p - 1) % p = 1 := by
  have hp := h.1
  have e := h.pow a
  obtain ⟨n,rfl⟩ : ∃ n,p = n + 1 := ⟨p - 1,by omega⟩
  rw [Nat.add_sub_cancel]
  have one : 1 ≤ a ^ n := Nat.pow_pos (by omega)
  have d : (n + 1) ∣ a * (a ^ n - 1) := by
    have e2 : a * (a ^ n - 1) = a ^ (n + 1) - a := by rw [Nat.mul_sub,Nat.mul_one,Nat.pow_succ,Nat.mul_comm]
    rw [e2]
    exact Nat.dvd_of_mod_eq_zero (Nat.sub_mod_eq_zero_of_mod_eq e)
  rcases h.dvd d with d | ⟨c,hc⟩
  · exact absurd (Nat.le_of_dvd (by omega) d) (by omega)
  · rw [show a ^ n = 1 + (n + 1) * c by omega,Nat.add_mul_mod_self_left]
    exact Nat.mod_eq_of_lt (by omega)
end Om
namespace Pm
open Rm
theorem nat_dvd {p : Nat} {x : Int} : (p : Int) ∣ x ↔ p ∣ x.natAbs := Int.ofNat_dvd_left
theorem prime_mul {p : Nat} (hp : Om.Prime p) {x y : Int} (h : (p : Int) ∣ x * y) : (p : Int) ∣ x ∨ (p : Int) ∣ y := by
  rw [nat_dvd,Int.natAbs_mul] at h
  rcases hp.dvd h with h | h
  · exact .inl (nat_dvd.mpr h)
  · exact .inr (nat_dvd.mpr h)
end Pm
namespace Dm
open Pm Rm
end Dm
namespace Dm
open Pm Rm
theorem Dom.pr {p : Nat} (hp : Om.Prime p) : Dom (p : Int) := fun x y hx h => by
  have h2 := hp.1
  obtain ⟨e,he⟩ := tk_zero_iff.mp h
  rcases prime_mul hp (x := x) (y := y) ⟨e,he⟩ with ⟨z,hz⟩ | ⟨z,hz⟩
  · exact absurd (tk_zero_iff.mpr ⟨z,hz⟩) hx
  · exact tk_zero_iff.mpr ⟨z,hz⟩
end Dm
namespace Pm
open Rm Dm
theorem Dv.len {b : Int} (h1 : tk b 1 = 1) {m p : List Int} (hm : Mon m) (hp : Mon p) (h : Dv b m (co p)) : m.length ≤ p.length := by
  by_cases c : m.length ≤ p.length
  · exact c
  · exfalso
    have := h.short hm ((Fs.co p).mono (by omega)) (p.length - 1)
    rw [hp.one,h1] at this
    exact absurd this (by decide)
theorem mon_left {b : Int} (h1 : tk b 1 = 1) {P g : List Int} (hP : Mon P) (hg : Mon g) (h : Dv b g (co P)) : ∃ L : List Int,Mon L ∧ (∀ k,tk b (co L k) = co L k) ∧ L.length + g.length = P.length + 1 ∧ ∀ k,tk b (co P k) = tk b (cv (co L) (co g) k) := by
  have hl := h.len h1 hg hP
  have hp := hP.pos
  have hgp := hg.pos
  obtain ⟨s,n,hs,h⟩ := h
  have key : ∀ d j,n ≤ j + d → P.length - g.length < j → tk b (s j) = 0 := fun d => by
    induction d with
    | zero => intro j hj _; rw [hs j hj,tk0]
    | succ d ih =>
      intro j hj hj2
      have e := h (j + (g.length - 1))
      rw [co_ge (by omega),tk0,cv_sm] at e
      have e2 : tk b (sm (j + (g.length - 1) + 1) fun i => s i * co g (j + (g.length - 1) - i)) = tk b (sm (j + (g.length - 1) + 1) fun i => if i = j then s j else 0) := tk_sm fun i hi => by
        by_cases c : i = j
        · rw [if_pos c,c,Nat.add_sub_cancel_left,hg.one,Int.mul_one]
        · rw [if_neg c,tk0]
          by_cases d2 : i < j
          · rw [co_ge (by omega),Int.mul_zero,tk0]
          · rw [Int.mul_comm]; exact tkz_mul _ (ih i (by omega) (by omega))
      rw [e2,sm_single,if_pos (by omega)] at e
      exact e.symm
  have z : ∀ k,P.length - g.length < k → tk b (s k) = 0 := fun k hk => key n k (by omega) hk
  have t1 : tk b (s (P.length - g.length)) = 1 := by
    have e := h (P.length - 1)
    rw [hP.one,h1,cv_sm] at e
    have e2 : tk b (sm (P.length - 1 + 1) fun i => s i * co g (P.length - 1 - i)) = tk b (sm (P.length - 1 + 1) fun i => if i = P.length - g.length then s (P.length - g.length) else 0) := tk_sm fun i hi => by
      by_cases c : i = P.length - g.length
      · rw [if_pos c,c,show P.length - 1 - (P.length - g.length) = g.length - 1 by omega,hg.one,Int.mul_one]
      · rw [if_neg c,tk0]
        by_cases d2 : i < P.length - g.length
        · rw [co_ge (by omega),Int.mul_zero,tk0]
        · rw [Int.mul_comm]; exact tkz_mul _ (z i (by omega))
    rw [e2,sm_single,if_pos (by omega)] at e
    exact e.symm
  have hc : ∀ k,co (ofF (P.length - g.length + 1) fun k => tk b (s k)) k = tk b (s k) := fun k => by
    rw [co_ofF]
    by_cases c : k < P.length - g.length + 1
    · rw [if_pos c]
    · rw [if_neg c,z k (by omega)]
  refine ⟨ofF (P.length - g.length + 1) fun k => tk b (s k),⟨by rw [ofF_len]; omega,?_⟩,fun k => ?_,by rw [ofF_len]; omega,fun k => ?_⟩
  · rw [ofF_len,Nat.add_sub_cancel,hc,t1]
  · rw [hc,tk_tk]
  · rw [h k]
    exact cv_tk (fun i _ => by rw [hc,tk_tk]) fun i _ => rfl
end Pm
namespace Pm
open Rm Dm
theorem one_tk {p : Nat} (hp : Om.Prime p) : tk (p : Int) 1 = 1 := by
  have := hp.1
  rw [tk_pos (by omega)]; exact Int.emod_eq_of_lt (by decide) (by omega)
theorem Dv.same {b : Int} (h1 : tk b 1 = 1) {m p : List Int} (hm : Mon m) (hp : Mon p) (h : Dv b m (co p)) (hl : m.length = p.length) (k : Nat) : tk b (co p k) = tk b (co m k) := by
  obtain ⟨L,hL,_,hlen,e⟩ := mon_left h1 hp hm h
  have hm0 := hm.pos
  have h2 : L.length = 1 := by omega
  have e0 : co L 0 = 1 := by have := hL.one; rwa [h2] at this
  rw [e k]
  refine congrArg (tk b) ?_
  rw [cv_sm,sm_more (m := 1) (by omega) fun j h3 _ => by rw [co_ge (p := L) (by omega),Int.zero_mul]]
  simp [sm,e0]
theorem In2.to {b : Int} {g p q : List Int} (h : In2 b g [] p) (e : ∀ k,tk b (co p k) = tk b (co q k)) : Dv b g (co q) := by
  obtain ⟨u,h⟩ := h.dv
  exact ⟨co u,u.length,Fs.co u,fun k => by rw [← e,h]⟩
end Pm
namespace Om
theorem prime_try {n : Nat} (h2 : 2 ≤ n) (h : ∀ d,2 ≤ d → d * d ≤ n → ¬ d ∣ n) : Prime n := ⟨h2,fun d hd => by
  by_cases c1 : d = 1
  · exact .inl c1
  by_cases c2 : d = n
  · exact .inr c2
  exfalso
  obtain ⟨e,he⟩ := hd
  have d0 : d ≠ 0 := fun z => by rw [z,Nat.zero_mul] at he; omega
  have e0 : e ≠ 0 := fun z => by rw [z,Nat.mul_zero] at he; omega
  have e1 : e ≠ 1 := fun z => by rw [z,Nat.mul_one] at he; omega
  by_cases c : d ≤ e
  · exact h d (by omega) (by rw [he]; exact Nat.mul_le_mul_left d c) ⟨e,he⟩
  · exact h e (by omega) (by rw [he]; exact Nat.mul_le_mul_right e (by omega)) ⟨d,by rw [he,Nat.mul_comm]⟩⟩
theorem Prime.fermatI {p : Nat} {a : Int} (h : Prime p) (h0 : 0 < a) (ha : a < (p : Int)) : a ^ (p - 1) % (p : Int) = 1 := by
  obtain ⟨n,rfl⟩ : ∃ n : Nat,a = (n : Int) := ⟨a.toNat,by omega⟩
  have := h.fermat (a := n) (by omega) (by omega)
  have e : ((n ^ (p - 1) % p : Nat) : Int) = ((1 : Nat) : Int) := by rw [this]
  rw [Int.natCast_emod,Int.natCast_pow] at e
  exact e
end Om
namespace Pm
open Rm
theorem monicN_pr {P : Nat} (hP : Om.Prime P) {p : List Int} (hp : Py P p) (hn : p ≠ []) : MonOf P p (monicN P p) := by
  have h2 := hP.1
  have hpos : 0 < p.length := List.length_pos_iff.mpr hn
  have hP0 : (P : Int) ≠ 0 := by omega
  have tkP : ∀ n,tk (P : Int) n = n % (P : Int) := fun n => tk_pos hP0 n
  have l0 := last_ne hn hp.tr
  have l1 := hp.co (p.length - 1)
  rw [tkP] at l1
  have r0 : 0 ≤ co p (p.length - 1) := by rw [← l1]; exact Int.emod_nonneg _ hP0
  have r1 : co p (p.length - 1) < (P : Int) := by rw [← l1]; exact Int.emod_lt_of_pos _ (by omega)
  generalize hl : co p (p.length - 1) = a at l0 r0 r1
  have hinv : (a ^ (P - 2) * a) % (P : Int) = 1 := by
    rw [← Int.pow_succ,show (P - 2).succ = P - 1 by omega]
    exact hP.fermatI (by omega) r1
  have e : ∀ k,co (monicN P p) k = co p k * a ^ (P - 2) % (P : Int) := fun k => by
    rw [monicN,co_map (by simp),hl]
  have len : (monicN P p).length = p.length := by rw [monicN,List.length_map]
  have top : co (monicN P p) ((monicN P p).length - 1) = 1 := by
    rw [len,e,hl,Int.mul_comm]; exact hinv
  have hm : monicN P p ≠ [] := fun z => by rw [z] at len; simp at len; omega
  refine ⟨⟨trim_of_last hm (by rw [top]; decide),fun x hx => ?_⟩,len,fun _ => ⟨by omega,top⟩,⟨a ^ (P - 2),fun k => ?_⟩,⟨a,fun k => ?_⟩⟩
  · obtain ⟨y,_,rfl⟩ := List.mem_map.mp hx
    rw [tkP]; exact Int.emod_emod_of_dvd _ (Int.dvd_refl _)
  · rw [e,tkP,tkP,Int.emod_emod_of_dvd _ (Int.dvd_refl _),Int.mul_comm]
  · rw [e,tkP,tkP,Int.mul_emod a,Int.emod_emod_of_dvd _ (Int.dvd_refl _),← Int.mul_emod,Int.mul_left_comm a,Int.mul_comm a,Int.mul_emod,hinv]
    rw [Int.mul_one,Int.emod_emod_of_dvd _ (Int.dvd_refl _)]
end Pm
namespace Pm
theorem pigeon : ∀ (N n : Nat) (c : Nat → Nat),(∀ i,i < n → c i < N) → (∀ i j,i < j → j < n → c i ≠ c j) → n ≤ N
  | 0,n,c,h,_ => by
    rcases Nat.eq_zero_or_pos n with z | z
    · omega
    · have := h 0 z; omega
  | N + 1,n,c,h,d => by
    by_cases e : ∃ i,i < n ∧ c i = N
    · obtain ⟨i0,hi0,e0⟩ := e
      have := pigeon N (n - 1) (fun i => c (if i < i0 then i else i + 1)) (fun i hi => by
        have h1 : (if i < i0 then i else i + 1) < n := by split <;> omega
        have h2 := h _ h1
        have h3 : c (if i < i0 then i else i + 1) ≠ N := fun z => by
          by_cases c1 : i < i0
          · rw [if_pos c1] at z; exact d i i0 c1 hi0 (by rw [z,e0])
          · rw [if_neg c1] at z; exact d i0 (i + 1) (by omega) (by omega) (by rw [z,e0])
        omega) fun i j hij hj => by
          have h1 : (if i < i0 then i else i + 1) < (if j < i0 then j else j + 1) := by split <;> split <;> omega
          have h2 : (if j < i0 then j else j + 1) < n := by split <;> omega
          exact d _ _ h1 h2
      omega
    · have := pigeon N n c (fun i hi => by
        have := h i hi
        have : c i ≠ N := fun z => e ⟨i,hi,z⟩
        omega) d
      omega
noncomputable def code (p : Nat) : List Int → Nat
  | [] => 0
  | x :: r => x.toNat + p * code p r
theorem code_lt {p : Nat} : ∀ (xs : List Int),(∀ x ∈ xs,0 ≤ x ∧ x < (p : Int)) → code p xs < p ^ xs.length
  | [],_ => Nat.one_pos
  | x :: r,h => by
    have hx := h x (List.mem_cons_self ..)
    have ih := code_lt r fun y hy => h y (List.mem_cons_of_mem _ hy)
    rw [List.length_cons,Nat.pow_succ,code]
    have : p * (code p r + 1) ≤ p * p ^ r.length := Nat.mul_le_mul_left p ih
    rw [Nat.mul_add,Nat.mul_one] at this
    rw [Nat.mul_comm (p ^ r.length)]
    omega
theorem code_inj {p : Nat} : ∀ (xs ys : List Int),xs.length = ys.length → (∀ x ∈ xs,0 ≤ x ∧ x < (p : Int)) → (∀ x ∈ ys,0 ≤ x ∧ x < (p : Int)) → code p xs = code p ys → xs = ys
  | [],[],_,_,_,_ => rfl
  | [],_ :: _,h,_,_,_ => by cases h
  | _ :: _,[],h,_,_,_ => by cases h
  | x :: r,y :: t,hl,hx,hy,e => by
    have h1 := hx x (List.mem_cons_self ..)
    have h2 := hy y (List.mem_cons_self ..)
    rw [code,code] at e
    have m := congrArg (· % p) e
    simp only [Nat.add_mul_mod_self_left] at m
    rw [Nat.mod_eq_of_lt (by omega),Nat.mod_eq_of_lt (by omega)] at m
    have e2 : code p r = code p t := by
      rw [m] at e
      exact Nat.eq_of_mul_eq_mul_left (by omega) (Nat.add_left_cancel e)
    rw [code_inj r t (by simpa using hl) (fun z hz => hx z (List.mem_cons_of_mem _ hz)) (fun z hz => hy z (List.mem_cons_of_mem _ hz)) e2]
    rw [show x = y by omega]
noncomputable def win (f : Nat → Int) (l i : Nat) : List Int := (List.range l).map fun j => f (i + j)
theorem win_len (f : Nat → Int) (l i : Nat) : (win f l i).length = l := by rw [win,List.length_map,List.length_range]
theorem win_get (f : Nat → Int) {l i j : Nat} (h : j < l) : (win f l i).getD j 0 = f (i + j) := by
  rw [win,List.getD_eq_getElem?_getD,List.getElem?_map,List.getElem?_range h]; rfl
theorem win_next (f : Nat → Int) (l i : Nat) : (win f l i ++ [f (i + l)]).drop 1 = win f l (i + 1) := by
  have e : win f l i ++ [f (i + l)] = win f (l + 1) i := by
    rw [win,win,List.range_succ,List.map_append]; rfl
  rw [e,win,win,List.range_succ_eq_map,List.map_cons,List.drop_one,List.tail_cons,List.map_map]
  exact List.map_congr_left fun j _ => by show f (i + (j + 1)) = f (i + 1 + j); rw [show i + (j + 1) = i + 1 + j by omega]
theorem win_most {p l n : Nat} {f : Nat → Int} (hf : ∀ i,0 ≤ f i ∧ f i < (p : Int)) (d : ∀ i j,i < j → j < n → win f l i ≠ win f l j) : n ≤ p ^ l := by
  have hw : ∀ i,∀ x ∈ win f l i,0 ≤ x ∧ x < (p : Int) := fun i x hx => by
    obtain ⟨j,_,rfl⟩ := List.mem_map.mp hx
    exact hf _
  refine pigeon (p ^ l) n (fun i => code p (win f l i)) (fun i _ => ?_) fun i j hij hj z => d i j hij hj ?_
  · have := code_lt (win f l i) (hw i)
    rwa [win_len] at this
  · exact code_inj _ _ (by rw [win_len,win_len]) (hw i) (hw j) z
structure Rnd (f : Nat → Int) (l bg ln : Nat) : Prop where
  pos : 0 < ln
  again : win f l (bg + ln) = win f l bg
  first : ∀ i j,i < j → j < bg + ln → win f l i ≠ win f l j
theorem Rnd.uniq {f : Nat → Int} {l bg ln bg' ln' : Nat} (h : Rnd f l bg ln) (h' : Rnd f l bg' ln') : bg = bg' ∧ ln = ln' := by
  have p := h.pos
  have p' := h'.pos
  rcases Nat.lt_trichotomy (bg + ln) (bg' + ln') with c | c | c
  · exact absurd h.again.symm (h'.first bg (bg + ln) (by omega) c)
  · have : bg = bg' := by
      rcases Nat.lt_trichotomy bg bg' with d | d | d
      · have e : win f l bg = win f l bg' := by rw [← h.again,c,h'.again]
        exact absurd e (h.first bg bg' d (by omega))
      · exact d
      · have e : win f l bg' = win f l bg := by rw [← h'.again,← c,h.again]
        exact absurd e (h'.first bg' bg d (by omega))
    exact ⟨this,by omega⟩
  · exact absurd h'.again.symm (h.first bg' (bg' + ln') (by omega) c)
end Pm
namespace Pm
open Rm
noncomputable def unit (n j : Nat) : List Int := ofF n fun i => if i = j then 1 else 0
theorem unit_len (n j : Nat) : (unit n j).length = n := ofF_len ..
theorem unit_get (n j i : Nat) : (unit n j).getD i 0 = if i < n then (if i = j then 1 else 0) else 0 := co_ofF ..
noncomputable def ej (b : Int) (rule : List Int) (j n : Nat) : Int := at_ b rule (unit rule.length j) n
theorem ej_start {b : Int} {rule : List Int} {j n : Nat} (h : n < rule.length) : ej b rule j n = if n = j then 1 else 0 := by
  rw [ej,at_lt (by rw [unit_len]; exact h),unit_get,if_pos h]
theorem ej_rec {b : Int} {rule : List Int} (j : Nat) : ∀ n,rule.length ≤ n → tk b (ej b rule j n) = tk b (S rule (ej b rule j) n rule.length) := at_rec (by rw [unit_len])
theorem ej_tk {b : Int} (h1 : tk b 1 = 1) {rule : List Int} (j n : Nat) : tk b (ej b rule j n) = ej b rule j n := by
  by_cases h : n < rule.length
  · rw [ej_start h]; split
    · exact h1
    · exact tk0 b
  · have e : ej b rule j n = tk b (S rule (ej b rule j) n rule.length) := at_ge (by rw [unit_len]) (by rw [unit_len]; omega)
    rw [e,tk_tk]
theorem S_point {rule : List Int} {f : Nat → Int} {n j : Nat} (hn : rule.length ≤ n) (hj : j < rule.length) (h : ∀ i,i < n → f i = if i = n - rule.length + j then 1 else 0) :
    S rule f n rule.length = co rule (rule.length - 1 - j) := by
  rw [S_sm]
  have e : sm rule.length (fun k => co rule k * f (n - 1 - k)) = sm rule.length (fun k => if k = rule.length - 1 - j then co rule (rule.length - 1 - j) else 0) := by
    refine sm_congr fun k hk => ?_
    rw [h _ (by omega)]
    by_cases e : k = rule.length - 1 - j
    · rw [if_pos e,if_pos (by omega),Int.mul_one,e]
    · rw [if_neg e,if_neg (by omega),Int.mul_zero]
  rw [e,sm_single,if_pos (by omega)]
theorem ej_next {b : Int} (h1 : tk b 1 = 1) {rule : List Int} {j : Nat} (hj : j < rule.length) (n : Nat) :
    ej b rule j (n + 1) = tk b ((if j = 0 then 0 else ej b rule (j - 1) n) + ej b rule (rule.length - 1) n * co rule (rule.length - 1 - j)) := by
  have hw := at_window (b := b) (rule := rule) (starts := unit rule.length j) (w := ofF rule.length fun i => ej b rule j (1 + i)) (d := 1) (by rw [unit_len]) (by rw [ofF_len,unit_len]) (fun i hi => by
    rw [ofF_len] at hi
    have := co_ofF rule.length (fun i => ej b rule j (1 + i)) i
    rw [if_pos hi] at this
    exact this) n
  have e : ej b rule j (n + 1) = at_ b rule (ofF rule.length fun i => ej b rule j (1 + i)) n := by rw [hw,Nat.add_comm]; rfl
  have hN : ej b rule j rule.length = tk b (co rule (rule.length - 1 - j)) := by
    have q : ej b rule j rule.length = tk b (S rule (ej b rule j) rule.length rule.length) := at_ge (by rw [unit_len]) (by rw [unit_len]; omega)
    rw [q,S_point (Nat.le_refl _) hj]
    intro i hi
    rw [ej_start hi,Nat.sub_self,Nat.zero_add]
  by_cases h0 : j = 0
  · rw [e,if_pos h0]
    have q := at_both (b := b) (c := co rule (rule.length - 1 - j)) (rule := rule) (s1 := ofF rule.length fun _ => 0) (s2 := unit rule.length (rule.length - 1)) (s3 := ofF rule.length fun i => ej b rule j (1 + i)) (by rw [ofF_len]) (by rw [unit_len]) (by rw [ofF_len]) (fun i hi => by
      rw [ofF_len] at hi
      have e1 := co_ofF rule.length (fun i => ej b rule j (1 + i)) i
      have e2 := co_ofF rule.length (fun _ => (0 : Int)) i
      rw [if_pos hi] at e1 e2
      show co _ i = tk b (co _ i + _ * (unit rule.length (rule.length - 1)).getD i 0)
      rw [e1,e2,unit_get,if_pos hi]
      by_cases c : i = rule.length - 1
      · rw [if_pos c,Int.mul_one,Int.zero_add,show 1 + i = rule.length by omega,hN]
      · rw [if_neg c,Int.mul_zero,Int.zero_add,tk0,ej_start (by omega),if_neg (by omega)]) n
    rw [q]
    have z : at_ b rule (ofF rule.length fun _ => 0) n = 0 := by
      refine at_uniq (by rw [ofF_len]) (g := fun _ => 0) (fun i hi => ?_) (fun i _ => ?_) n
      · have := co_ofF rule.length (fun _ => (0 : Int)) i
        show (0 : Int) = co _ i
        rw [this]; split <;> rfl
      · rw [S_sm,sm_none (fun k _ => Int.mul_zero _),tk0]
    rw [z,Int.mul_comm]; rfl
  · rw [e,if_neg h0]
    have q := at_both (b := b) (c := co rule (rule.length - 1 - j)) (rule := rule) (s1 := unit rule.length (j - 1)) (s2 := unit rule.length (rule.length - 1)) (s3 := ofF rule.length fun i => ej b rule j (1 + i)) (by rw [unit_len]) (by rw [unit_len]) (by rw [ofF_len]) (fun i hi => by
      rw [ofF_len] at hi
      have e1 := co_ofF rule.length (fun i => ej b rule j (1 + i)) i
      rw [if_pos hi] at e1
      show co _ i = tk b ((unit rule.length (j - 1)).getD i 0 + _ * (unit rule.length (rule.length - 1)).getD i 0)
      rw [e1,unit_get,unit_get,if_pos hi,if_pos hi]
      by_cases c : i = rule.length - 1
      · rw [if_pos c,if_neg (by omega),Int.mul_one,Int.zero_add,show 1 + i = rule.length by omega,hN]
      · rw [if_neg c,Int.mul_zero,Int.add_zero,ej_start (by omega)]
        by_cases d : i = j - 1
        · rw [if_pos d,if_pos (by omega),h1]
        · rw [if_neg d,if_neg (by omega),tk0]) n
    rw [q,Int.mul_comm]; rfl
theorem sm_rev (f : Nat → Int) : ∀ n : Nat,sm n f = sm n (fun k => f (n - 1 - k))
  | 0 => rfl
  | n + 1 => by
    rw [sm_head,sm_rev (fun i => f (i + 1)) n,sm]
    rw [Int.add_comm]
    congr 1
    · exact sm_congr fun k hk => by rw [show n - 1 - k + 1 = n + 1 - 1 - k by omega]
    · rw [show n + 1 - 1 - n = 0 by omega]
theorem jump_sum {b : Int} (h1 : tk b 1 = 1) {rule : List Int} {a : Nat → Int} (ha : ∀ n,rule.length ≤ n → tk b (a n) = tk b (S rule a n rule.length)) :
    ∀ n m,tk b (sm rule.length fun k => ej b rule k n * a (m + k)) = tk b (a (m + n))
  | 0,m => by
    by_cases h0 : rule.length = 0
    · rw [h0,ha (m + 0) (by omega),h0]; rfl
    · have e : sm rule.length (fun k => ej b rule k 0 * a (m + k)) = sm rule.length (fun k => if k = 0 then a m else 0) := by
        refine sm_congr fun k _ => ?_
        rw [ej_start (by omega)]
        by_cases e : k = 0
        · rw [if_pos e,if_pos e.symm,Int.one_mul,e]; rfl
        · rw [if_neg e,if_neg (fun z => e z.symm),Int.zero_mul]
      rw [e,sm_single,if_pos (by omega)]; rfl
  | n + 1,m => by
    by_cases h0 : rule.length = 0
    · rw [h0,ha (m + (n + 1)) (by omega),h0]; rfl
    obtain ⟨N,hN⟩ : ∃ N,rule.length = N + 1 := ⟨rule.length - 1,by omega⟩
    have ih := jump_sum h1 ha n (m + 1)
    rw [show m + (n + 1) = m + 1 + n by omega,← ih]
    have e1 : tk b (sm rule.length fun k => ej b rule k (n + 1) * a (m + k)) = tk b (sm rule.length fun k => (if k = 0 then 0 else ej b rule (k - 1) n) * a (m + k) + ej b rule N n * (co rule (N - k) * a (m + k))) := by
      refine tk_sm fun k hk => ?_
      rw [ej_next h1 hk,tk_mul_l,Int.add_mul,Int.mul_assoc,hN]; rfl
    rw [e1,sm_add,sm_mul,hN]
    have e2 : sm (N + 1) (fun k => (if k = 0 then 0 else ej b rule (k - 1) n) * a (m + k)) = sm N (fun k => ej b rule k n * a (m + 1 + k)) := by
      rw [sm_head,if_pos rfl,Int.zero_mul,Int.zero_add]
      refine sm_congr fun k _ => ?_
      rw [if_neg (by omega),Nat.add_sub_cancel,show m + (k + 1) = m + 1 + k by omega]
    have e3 : tk b (sm (N + 1) fun k => co rule (N - k) * a (m + k)) = tk b (a (m + 1 + N)) := by
      rw [show m + 1 + N = m + (N + 1) by omega,ha (m + (N + 1)) (by omega),S_sm,hN]
      congr 1
      rw [sm_rev]
      refine sm_congr fun k hk => ?_
      rw [show N - (N + 1 - 1 - k) = k by omega,show m + (N + 1 - 1 - k) = m + (N + 1) - 1 - k by omega]
    rw [e2]
    show _ = tk b (sm N _ + _)
    rw [← tk_add_r,← tk_mul_r,e3,tk_mul_r,tk_add_r]
noncomputable def Gr (b : Int) (rule : List Int) (a : Nat → Int) : Prop := ∀ n,rule.length ≤ n → tk b (a n) = tk b (S rule a n rule.length)
theorem Gr.shift {b : Int} {rule : List Int} {a : Nat → Int} (h : Gr b rule a) (m : Nat) : Gr b rule fun n => a (n + m) := fun n hn => by
  have e : (fun n => a (n + m)) = fun n => a (m + n) := funext fun n => by rw [Nat.add_comm]
  rw [e,S_shift hn]
  exact h (m + n) (by omega)
theorem ks_seq {b : Int} {p : List Int} {a a' : Nat → Int} (h : ∀ n,tk b (a n) = tk b (a' n)) (n : Nat) : tk b (ks p a n) = tk b (ks p a' n) :=
  tk_sm fun k _ => by rw [← tk_mul_r,h,tk_mul_r]
noncomputable def Pw (b : Int) (rule : List Int) (m : Nat) (p : List Int) : Prop := ∀ a,Gr b rule a → ∀ n,tk b (ks p a n) = tk b (a (n + m))
theorem Pw.one (b : Int) (rule : List Int) : Pw b rule 0 [1] := fun a _ n => by simp [ks,sm,co_zero]
theorem Pw.x (b : Int) (rule : List Int) : Pw b rule 1 [0,1] := fun a _ n => by simp [ks,sm,co_zero,co_succ]
theorem Pw.mul {b : Int} {rule : List Int} {m m' : Nat} {p q : List Int} (h : Pw b rule m p) (h' : Pw b rule m' q) : Pw b rule (m + m') (mul b p q) := fun a ha n => by
  rw [ks_mul,ks_seq (h' a ha),h _ (ha.shift m'),Nat.add_assoc]
theorem Pw.left {b : Int} {rule : List Int} {m : Nat} {p q r : List Int} (h : Pw b rule m p) (d : Div b p (ofRule b rule) q r) : Pw b rule m r := fun a ha n => by
  rw [← h a ha n]
  have e1 : ∀ k,tk b (co (Pm.add b (Pm.mul b q (ofRule b rule)) r) k) = tk b (co p k) := fun k => by rw [add_co,mul_co,tk_tk,tk_add_l]; exact d.eq k
  rw [← ks_tk e1,ks_add,← tk_add_l,(Kp.ofRule ha).mulr q n,Int.zero_add]
theorem ej_gr (b : Int) (rule : List Int) (j : Nat) : Gr b rule (ej b rule j) := ej_rec j
theorem Pw.co {b : Int} (h1 : tk b 1 = 1) {rule : List Int} {m : Nat} {r : List Int} (h : Pw b rule m r) (hy : Py b r) (hs : r.length ≤ rule.length) {j : Nat} (hj : j < rule.length) : Pm.co r j = ej b rule j m := by
  have q := h _ (ej_gr b rule j) 0
  rw [Nat.zero_add,ej_tk h1,← ks_more r _ 0 hs] at q
  have e : sm rule.length (fun k => Pm.co r k * ej b rule j (0 + k)) = sm rule.length (fun k => if k = j then Pm.co r j else 0) := sm_congr fun k hk => by
    rw [Nat.zero_add,ej_start hk]
    by_cases c : k = j
    · rw [if_pos c,if_pos c,Int.mul_one,c]
    · rw [if_neg c,if_neg c,Int.mul_zero]
  rw [e,sm_single,if_pos hj,hy.co] at q
  exact q
noncomputable def rest (b : Int) (rule : List Int) (m : Nat) : List Int := ofF rule.length fun j => ej b rule j m
theorem rest_len (b : Int) (rule : List Int) (m : Nat) : (rest b rule m).length = rule.length := ofF_len ..
theorem co_rest {b : Int} {rule : List Int} {m j : Nat} (hj : j < rule.length) : Pm.co (rest b rule m) j = ej b rule j m := by rw [rest,co_ofF,if_pos hj]
theorem jump_rest {b : Int} (h1 : tk b 1 = 1) {rule : List Int} {a : Nat → Int} (ha : Gr b rule a) (n m : Nat) : tk b (sm rule.length fun k => Pm.co (rest b rule n) k * a (m + k)) = tk b (a (m + n)) := by
  rw [← jump_sum h1 ha n m]
  exact congrArg (tk b) (sm_congr fun k hk => by rw [co_rest hk])
theorem tk_range {b x : Int} (hb : 0 < b) : 0 ≤ tk b x ∧ tk b x < b := by
  rw [tk_pos (by omega)]
  exact ⟨Int.emod_nonneg _ (by omega),Int.emod_lt_of_pos _ hb⟩
end Pm
namespace K59
open PySem L2
seal PA PE PS PSs PT PW PI PG PGs PO PIf
def top (i : Nat) : Stmt := PySem.Challenge.pw_nextbyrule_k59_whole_far_places_come_rou.main.body.getD i (.Pass ⟨0,0,0,0⟩)
noncomputable abbrev s_taken : Stmt := top 8
noncomputable abbrev s_inverse : Stmt := top 9
noncomputable abbrev s_over : Stmt := top 10
noncomputable abbrev s_next_place : Stmt := top 12
noncomputable abbrev s_first_places : Stmt := top 13
noncomputable abbrev s_trimmed : Stmt := top 15
noncomputable abbrev s_number_at : Stmt := top 16
noncomputable abbrev s_times : Stmt := top 17
noncomputable abbrev s_divided : Stmt := top 18
noncomputable abbrev s_monic : Stmt := top 19
noncomputable abbrev s_greatest : Stmt := top 20
noncomputable abbrev s_of_rule : Stmt := top 21
noncomputable abbrev s_rule_of : Stmt := top 22
noncomputable abbrev s_sum_at : Stmt := top 23
noncomputable abbrev s_refuse_far_jump : Stmt := top 26
noncomputable abbrev s_power_left : Stmt := top 27
noncomputable abbrev s_jump : Stmt := top 28
noncomputable abbrev s_place_at : Stmt := top 29
noncomputable abbrev s_onward : Stmt := top 30
noncomputable abbrev s_whole_greatest : Stmt := top 38
noncomputable abbrev s_shared_divisor : Stmt := top 39
noncomputable abbrev s_top_of : Stmt := top 41
noncomputable abbrev s_least_of : Stmt := top 42
noncomputable abbrev s_shortest : Stmt := top 43
noncomputable abbrev s_refuse_wide : Stmt := top 46
noncomputable abbrev s_round_row : Stmt := top 47
noncomputable abbrev s_came_round : Stmt := top 48
noncomputable abbrev s_round_of : Stmt := top 49
noncomputable abbrev s_where : Stmt := top 50
noncomputable abbrev s_Lcell_at : Stmt := top 52
noncomputable abbrev s_Lmixed : Stmt := top 53
noncomputable abbrev s_Ltaken : Stmt := top 55
noncomputable abbrev s_Lnumber : Stmt := top 56
noncomputable abbrev s_Lgone : Stmt := top 57
noncomputable abbrev s_Lrow : Stmt := top 58
noncomputable abbrev s_Llonger : Stmt := top 59
noncomputable abbrev s_Lback : Stmt := top 60
noncomputable abbrev s_Lnumbers_right : Stmt := top 61
noncomputable abbrev s_law : Stmt := top 62
theorem sc_taken : FnScope ["by","number"] ["by","number"] (defScope s_taken) := ⟨rfl,rfl,rfl,by decide +kernel,rfl,by decide +kernel,by decide +kernel⟩
theorem sc_inverse : FnScope ["prime","number","power","square","left"] ["prime","number"] (defScope s_inverse) := ⟨rfl,rfl,rfl,by decide +kernel,rfl,by decide +kernel,by decide +kernel⟩
theorem sc_over : FnScope ["by","one","other"] ["by","one","other"] (defScope s_over) := ⟨rfl,rfl,rfl,by decide +kernel,rfl,by decide +kernel,by decide +kernel⟩
theorem sc_next_place : FnScope ["by","rule","before","total","k"] ["by","rule","before"] (defScope s_next_place) := ⟨rfl,rfl,rfl,by decide +kernel,rfl,by decide +kernel,by decide +kernel⟩
theorem sc_first_places : FnScope ["row","count","by","rule","starts","found"] ["row","count"] (defScope s_first_places) := ⟨rfl,rfl,rfl,by decide +kernel,rfl,by decide +kernel,by decide +kernel⟩
theorem sc_trimmed : FnScope ["numbers","end"] ["numbers"] (defScope s_trimmed) := ⟨rfl,rfl,rfl,by decide +kernel,rfl,by decide +kernel,by decide +kernel⟩
theorem sc_number_at : FnScope ["poly","k"] ["poly","k"] (defScope s_number_at) := ⟨rfl,rfl,rfl,by decide +kernel,rfl,by decide +kernel,by decide +kernel⟩
theorem sc_times : FnScope ["by","one","other","total","i","k"] ["by","one","other"] (defScope s_times) := ⟨rfl,rfl,rfl,by decide +kernel,rfl,by decide +kernel,by decide +kernel⟩
theorem sc_divided : FnScope ["by","one","other","top","often","left","shift","factor","k"] ["by","one","other"] (defScope s_divided) := ⟨rfl,rfl,rfl,by decide +kernel,rfl,by decide +kernel,by decide +kernel⟩
theorem sc_monic : FnScope ["prime","poly","last"] ["prime","poly"] (defScope s_monic) := ⟨rfl,rfl,rfl,by decide +kernel,rfl,by decide +kernel,by decide +kernel⟩
theorem sc_greatest : FnScope ["by","one","other","great","small","left"] ["by","one","other"] (defScope s_greatest) := ⟨rfl,rfl,rfl,by decide +kernel,rfl,by decide +kernel,by decide +kernel⟩
theorem sc_of_rule : FnScope ["by","rule","length","numbers"] ["by","rule"] (defScope s_of_rule) := ⟨rfl,rfl,rfl,by decide +kernel,rfl,by decide +kernel,by decide +kernel⟩
theorem sc_rule_of : FnScope ["by","poly","length"] ["by","poly"] (defScope s_rule_of) := ⟨rfl,rfl,rfl,by decide +kernel,rfl,by decide +kernel,by decide +kernel⟩
theorem sc_sum_at : FnScope ["by","poly","found","n"] ["by","poly","found","n"] (defScope s_sum_at) := ⟨rfl,rfl,rfl,by decide +kernel,rfl,by decide +kernel,by decide +kernel⟩
theorem sc_refuse_far_jump : FnScope ["by","n"] ["by","n"] (defScope s_refuse_far_jump) := ⟨rfl,rfl,rfl,by decide +kernel,rfl,by decide +kernel,by decide +kernel⟩
theorem sc_power_left : FnScope ["by","poly","n","left","figure","doubled"] ["by","poly","n"] (defScope s_power_left) := ⟨rfl,rfl,rfl,by decide +kernel,rfl,by decide +kernel,by decide +kernel⟩
theorem sc_jump : FnScope ["row","n","by","rule","left"] ["row","n"] (defScope s_jump) := ⟨rfl,rfl,rfl,by decide +kernel,rfl,by decide +kernel,by decide +kernel⟩
theorem sc_place_at : FnScope ["row","n"] ["row","n"] (defScope s_place_at) := ⟨rfl,rfl,rfl,by decide +kernel,rfl,by decide +kernel,by decide +kernel⟩
theorem sc_onward : FnScope ["row","n","by","numbers","near","starts"] ["row","n"] (defScope s_onward) := ⟨rfl,rfl,rfl,by decide +kernel,rfl,by decide +kernel,by decide +kernel⟩
theorem sc_whole_greatest : FnScope ["one","other","told","modulus","prime","ripe","seen","before"] ["one","other"] (defScope s_whole_greatest) := ⟨rfl,rfl,rfl,by decide +kernel,rfl,by decide +kernel,by decide +kernel⟩
theorem sc_shared_divisor : FnScope ["by","one","other"] ["by","one","other"] (defScope s_shared_divisor) := ⟨rfl,rfl,rfl,by decide +kernel,rfl,by decide +kernel,by decide +kernel⟩
theorem sc_top_of : FnScope ["row","poly","by","starts","top","k","parts"] ["row","poly"] (defScope s_top_of) := ⟨rfl,rfl,rfl,by decide +kernel,rfl,by decide +kernel,by decide +kernel⟩
theorem sc_least_of : FnScope ["row","by","poly","top"] ["row"] (defScope s_least_of) := ⟨rfl,rfl,rfl,by decide +kernel,rfl,by decide +kernel,by decide +kernel⟩
theorem sc_shortest : FnScope ["row","least","rule"] ["row"] (defScope s_shortest) := ⟨rfl,rfl,rfl,by decide +kernel,rfl,by decide +kernel,by decide +kernel⟩
theorem sc_refuse_wide : FnScope ["prime","length","windows","turn"] ["prime","length"] (defScope s_refuse_wide) := ⟨rfl,rfl,rfl,by decide +kernel,rfl,by decide +kernel,by decide +kernel⟩
theorem sc_round_row : FnScope ["row","least"] ["row"] (defScope s_round_row) := ⟨rfl,rfl,rfl,by decide +kernel,rfl,by decide +kernel,by decide +kernel⟩
theorem sc_came_round : FnScope ["row","by","rule","window","seen","begin"] ["row"] (defScope s_came_round) := ⟨rfl,rfl,rfl,by decide +kernel,rfl,by decide +kernel,by decide +kernel⟩
theorem sc_round_of : FnScope ["row"] ["row"] (defScope s_round_of) := ⟨rfl,rfl,rfl,by decide +kernel,rfl,by decide +kernel,by decide +kernel⟩
theorem sc_where : FnScope ["row","number","least","found","begin","length","numbers","early","starts"] ["row","number"] (defScope s_where) := ⟨rfl,rfl,rfl,by decide +kernel,rfl,by decide +kernel,by decide +kernel⟩
theorem sc_Lcell_at : FnScope ["_law_script","_law_k"] ["_law_script","_law_k"] (defScope s_Lcell_at) := ⟨rfl,rfl,rfl,by decide +kernel,rfl,by decide +kernel,by decide +kernel⟩
theorem sc_Lmixed : FnScope ["_law_cell","_law_k","_law_number_here"] ["_law_cell","_law_k"] (defScope s_Lmixed) := ⟨rfl,rfl,rfl,by decide +kernel,rfl,by decide +kernel,by decide +kernel⟩
theorem sc_Ltaken : FnScope ["_law_by_here","_law_number_here"] ["_law_by_here","_law_number_here"] (defScope s_Ltaken) := ⟨rfl,rfl,rfl,by decide +kernel,rfl,by decide +kernel,by decide +kernel⟩
theorem sc_Lnumber : FnScope ["_law_by_here","_law_cell","_law_sort"] ["_law_by_here","_law_cell","_law_sort"] (defScope s_Lnumber) := ⟨rfl,rfl,rfl,by decide +kernel,rfl,by decide +kernel,by decide +kernel⟩
theorem sc_Lgone : FnScope ["_law_row_here","_law_count","_law_by_here","_law_rule","_law_starts","_law_found","_law_total","_law_k","_law_number_here"] ["_law_row_here","_law_count"] (defScope s_Lgone) := ⟨rfl,rfl,rfl,by decide +kernel,rfl,by decide +kernel,by decide +kernel⟩
theorem sc_Lrow : FnScope ["_law_script","_law_start","_law_by_here","_law_most","_law_cell","_law_size","_law_sort","_law_rule","_law_starts"] ["_law_script","_law_start","_law_by_here","_law_most"] (defScope s_Lrow) := ⟨rfl,rfl,rfl,by decide +kernel,rfl,by decide +kernel,by decide +kernel⟩
theorem sc_Llonger : FnScope ["_law_row_here","_law_number_here","_law_by_here","_law_rule","_law_starts","_law_low","_law_some"] ["_law_row_here","_law_number_here"] (defScope s_Llonger) := ⟨rfl,rfl,rfl,by decide +kernel,rfl,by decide +kernel,by decide +kernel⟩
theorem sc_Lback : FnScope ["_law_n","_law_begin","_law_length"] ["_law_n","_law_begin","_law_length"] (defScope s_Lback) := ⟨rfl,rfl,rfl,by decide +kernel,rfl,by decide +kernel,by decide +kernel⟩
theorem sc_Lnumbers_right : FnScope ["_law_row_here","_law_some","_law_begin","_law_length","_law_seen","_law_number_here","_law_early","_law_starts","_law_step","_law_due"] ["_law_row_here","_law_some","_law_begin","_law_length"] (defScope s_Lnumbers_right) := ⟨rfl,rfl,rfl,by decide +kernel,rfl,by decide +kernel,by decide +kernel⟩
theorem sc_law : FnScope ["_law_script","_law_first","_law_prime","_law_row_here","_law_k","_law_begin","_law_length","_law_some","_law_n","_law_m","_law_at_place","_law_later","_law_onward_some","_law_told"] ["_law_script"] (defScope s_law) := ⟨rfl,rfl,rfl,by decide +kernel,rfl,by decide +kernel,by decide +kernel⟩
noncomputable abbrev cs_monic1 : Scope := { kind := .function,names := [(".0",.local),("number",.local),("over",.globalImplicit),("last",.cell),("prime",.cell)],isGenerator := false,isCoroutine := false }
noncomputable abbrev cs_of_rule1 : Scope := { kind := .function,names := [(".0",.local),("k",.local),("taken",.globalImplicit),("by",.cell),("length",.cell),("rule",.cell)],isGenerator := false,isCoroutine := false }
noncomputable abbrev cs_rule_of1 : Scope := { kind := .function,names := [(".0",.local),("k",.local),("taken",.globalImplicit),("by",.cell),("length",.cell),("poly",.cell)],isGenerator := false,isCoroutine := false }
noncomputable abbrev cs_sum_at1 : Scope := { kind := .function,names := [(".0",.local),("k",.local),("found",.cell),("n",.cell),("poly",.cell)],isGenerator := false,isCoroutine := false }
noncomputable abbrev cs_jump1 : Scope := { kind := .function,names := [(".0",.local),("i",.local),("number_at",.globalImplicit),("left",.cell)],isGenerator := false,isCoroutine := false }
noncomputable abbrev cs_onward1 : Scope := { kind := .function,names := [(".0",.local),("m",.local),("sum_at",.globalImplicit),("by",.cell),("near",.cell),("numbers",.cell)],isGenerator := false,isCoroutine := false }
noncomputable abbrev cs_top_of1 : Scope := { kind := .function,names := [(".0",.local),("j",.local),("k",.cell),("poly",.cell),("starts",.cell)],isGenerator := false,isCoroutine := false }
noncomputable abbrev cs_where1 : Scope := { kind := .function,names := [(".0",.local),("n",.local),("number",.cell),("numbers",.cell)],isGenerator := false,isCoroutine := false }
noncomputable abbrev cs_where2 : Scope := { kind := .function,names := [(".0",.local),("n",.local),("number",.cell),("numbers",.cell)],isGenerator := false,isCoroutine := false }
noncomputable abbrev cs_Lrow1 : Scope := { kind := .function,names := [(".0",.local),("_law_k",.local),("_law_number",.globalImplicit),("_law_mixed",.globalImplicit),("_law_cell_at",.globalImplicit),("_law_by_here",.cell),("_law_script",.cell),("_law_sort",.cell),("_law_start",.cell)],isGenerator := false,isCoroutine := false }
noncomputable abbrev cs_Lrow2 : Scope := { kind := .function,names := [(".0",.local),("_law_k",.local),("_law_number",.globalImplicit),("_law_mixed",.globalImplicit),("_law_cell_at",.globalImplicit),("_law_by_here",.cell),("_law_script",.cell),("_law_sort",.cell),("_law_start",.cell)],isGenerator := false,isCoroutine := false }
noncomputable abbrev cs_Lrow3 : Scope := { kind := .function,names := [(".0",.local),("_law_k",.local),("_law_number_here",.local),("_law_mixed",.globalImplicit),("_law_cell",.cell)],isGenerator := false,isCoroutine := false }
noncomputable abbrev cs_Llonger1 : Scope := { kind := .function,names := [(".0",.local),("_law_part",.local)],isGenerator := false,isCoroutine := false }
noncomputable abbrev cs_Llonger2 : Scope := { kind := .function,names := [(".0",.local),("_law_one",.local),("_law_other",.local),("_law_number_here",.cell)],isGenerator := false,isCoroutine := false }
noncomputable abbrev cs_Llonger3 : Scope := { kind := .function,names := [(".0",.local),("_law_part",.local),("_law_taken",.globalImplicit),("_law_by_here",.cell)],isGenerator := false,isCoroutine := false }
noncomputable abbrev cs_Lnumbers_right1 : Scope := { kind := .function,names := [(".0",.local),("_law_n",.local),("_law_number_here",.cell),("_law_some",.cell)],isGenerator := false,isCoroutine := false }
noncomputable abbrev cs_Lnumbers_right2 : Scope := { kind := .function,names := [(".0",.local),("_law_n",.local),("_law_begin",.cell)],isGenerator := false,isCoroutine := false }
noncomputable abbrev cs_Lnumbers_right3 : Scope := { kind := .function,names := [(".0",.local),("_law_n",.local),("_law_begin",.cell)],isGenerator := false,isCoroutine := false }
noncomputable abbrev cs_law1 : Scope := { kind := .function,names := [(".0",.local),("_law_k",.local),("_law_back",.globalImplicit),("_law_begin",.cell),("_law_length",.cell),("_law_n",.cell),("_law_some",.cell)],isGenerator := false,isCoroutine := false }
structure Bt (mg : Str → Option Value) : Prop where
  b_enumerate : mg "enumerate" = none
  b_len : mg "len" = none
  b_list : mg "list" = none
  b_max : mg "max" = none
  b_min : mg "min" = none
  b_range : mg "range" = none
  b_sum : mg "sum" = none
  b_tuple : mg "tuple" = none
  b_zip : mg "zip" = none
  g_BELOW_THE_PRIMES : ∃ t,mg "BELOW_THE_PRIMES" = some (.int 1000000 t)
  g_FARTHEST_BY_0 : ∃ t,mg "FARTHEST_BY_0" = some (.int 400 t)
  g_MOST_WINDOWS : ∃ t,mg "MOST_WINDOWS" = some (.int 4096 t)
structure Ms (K : PySem.W.Frag) (mg : Str → Option Value) (base : Heap) (A_NoBy A_TooLong : Addr) : Prop where
  m_NoBy : mg "NoBy" = some (.ref A_NoBy)
  m_TooLong : mg "TooLong" = some (.ref A_TooLong)
  x_NoBy : ExC mg base "NoBy" A_NoBy
  i_NoBy : ExI K A_NoBy
  k_NoBy_NoBy : PySem.W.kitOne K (.ref A_NoBy) (.ref A_NoBy) = some true
  k_NoBy_TooLong : PySem.W.kitOne K (.ref A_NoBy) (.ref A_TooLong) = some false
  k_NoBy_ValueError : PySem.W.kitOne K (.ref A_NoBy) (.type "ValueError") = some true
  x_TooLong : ExC mg base "TooLong" A_TooLong
  i_TooLong : ExI K A_TooLong
  k_TooLong_NoBy : PySem.W.kitOne K (.ref A_TooLong) (.ref A_NoBy) = some false
  k_TooLong_TooLong : PySem.W.kitOne K (.ref A_TooLong) (.ref A_TooLong) = some true
  k_TooLong_ValueError : PySem.W.kitOne K (.ref A_TooLong) (.type "ValueError") = some true
noncomputable abbrev KLAW : Nat := 14
noncomputable def cellAt (ns : List Int) (k : Int) : Int := if k < (ns.length : Int) then ns.getD k.toNat 0 else 0
theorem emod_lo (a : Int) {b : Int} (h : 0 < b) : 0 ≤ a % b := Int.emod_nonneg _ (by omega)
theorem emod_hi (a : Int) {b : Int} (h : 0 < b) : a % b < b := Int.emod_lt_of_pos _ h
theorem atI_ints {ns : List Int} {k : Int} (h0 : 0 ≤ k) (h1 : k < (ns.length : Int)) : atI (ns.map V.int) k = some (.int (ns.getD k.toNat 0)) := by
  have e : k = ((k.toNat : Nat) : Int) := by omega
  have hk : k.toNat < ns.length := by omega
  conv => lhs; rw [e]
  exact atI_nat (by rw [List.getElem?_map,List.getElem?_eq_getElem hk,List.getD_eq_getElem?_getD,List.getElem?_eq_getElem hk] <;> rfl)
theorem dec_true {p : Prop} [Decidable p] (c : decide p = true) : p := of_decide_eq_true c
theorem dec_false {p : Prop} [Decidable p] (c : ¬ decide p = true) : ¬ p := of_decide_eq_false (Bool.eq_false_iff.mpr c)
noncomputable def IsNum (b x : Int) : Prop := b = 0 ∨ (0 ≤ x ∧ x < b)
structure Rw where
  b : Int
  rule : List Int
  starts : List Int
structure RwOk (r : Rw) : Prop where
  len : r.rule.length = r.starts.length
  short : r.rule.length ≤ 12
  by0 : 0 ≤ r.b
  by1 : Rm.Bd 2000 r.b
  ruleNum : ∀ x ∈ r.rule,IsNum r.b x
  startsNum : ∀ x ∈ r.starts,IsNum r.b x
  ruleBd : ∀ x ∈ r.rule,Rm.Bd 2000 x
  startsBd : ∀ x ∈ r.starts,Rm.Bd 2000 x
noncomputable def Rw.row (r : Rw) (n : Nat) : List Int := Rm.row r.b r.rule r.starts n
noncomputable def Rw.at (r : Rw) (n : Nat) : Int := Rm.at_ r.b r.rule r.starts n
theorem Rw.row_len (r : Rw) (n : Nat) : (r.row n).length = n := Rm.row_len ..
theorem mulBd {x y : Int} {m n : Nat} (h : Rm.Bd m x) (h' : Rm.Bd n y) (hn : m + n ≤ 134217728) : IntMulOk x y :=
  IntMulOk.of_le (intBits_le_iff.mpr h) (intBits_le_iff.mpr h') hn
noncomputable def RowIs (H : Hp) (v : V) (r : Rw) : Prop :=
  ∃ a p q,v = .ref a ∧ H a = some (.tup [.int r.b,.ref p,.ref q]) ∧ H p = some (.tup (r.rule.map V.int)) ∧ H q = some (.tup (r.starts.map V.int))
theorem RowIs.same {H H' : Hp} {v : V} {r : Rw} (h : RowIs H v r) (g : Same H H') : RowIs H' v r := by
  obtain ⟨a,p,q,e,h1,h2,h3⟩ := h
  exact ⟨a,p,q,e,g _ _ h1,g _ _ h2,g _ _ h3⟩
theorem map_snoc (xs : List Int) (x : Int) : (xs ++ [x]).map V.int = xs.map V.int ++ [.int x] := by rw [List.map_append]; rfl
noncomputable def Told (H : Hp) (Q : VK) (xs : List V) : Prop := ∀ r H',Same H H' → H r = none → H' r = some (.lst xs) → Q (.ref r) H'
inductive SpLaw_  (K : PySem.W.Frag) (vs : List V) (H : Hp) (Q : VK) (E : XK) : Prop | mk (a : Addr) (ns : List Int) (z_0 : vs = [.ref a]) (z_1 : SqL K H a (ns.map V.int)) (z_2 : ns.length ≤ 63) (z_3 : (∀ x ∈ ns,PySem.Builtin.Int.intBits x ≤ 1048576)) (z_4 : ∀ H',Q (.bl true) H')
noncomputable def spLaw  (K : PySem.W.Frag) : Sp := fun vs H Q E => SpLaw_ K vs H Q E
theorem cut_to (xs : List V) (k : Nat) : cutV xs none (some (k : Int)) = xs.take k := by
  unfold cutV
  rw [HT.sIx_nat,HT.sIx_none,List.drop_zero,Nat.sub_zero,List.take_eq_take_iff]
  omega
theorem cut_from (xs : List V) {k : Nat} (h : k ≤ xs.length) : cutV xs (some (k : Int)) none = xs.drop k := by
  unfold cutV
  rw [HT.sIx_nat,HT.sIx_none,Nat.min_eq_left h,List.take_of_length_le (by rw [List.length_drop]; omega)]
theorem cut_drop (xs : List V) (k : Nat) : cutV xs (some (k : Int)) none = xs.drop k := by
  unfold cutV
  rw [HT.sIx_nat,HT.sIx_none]
  by_cases h : k ≤ xs.length
  · rw [Nat.min_eq_left h,List.take_of_length_le (by rw [List.length_drop]; omega)]
  · rw [Nat.min_eq_right (by omega),List.drop_eq_nil_of_le (Nat.le_refl _),List.drop_eq_nil_of_le (by omega),List.take_nil]
noncomputable def ToldT (H : Hp) (Q : VK) (ns : List Int) : Prop := ∀ p H',Same H H' → H' p = some (.tup (ns.map V.int)) → Q (.ref p) H'
theorem take_step {xs : List Int} {n : Nat} (h : 0 < n) (hn : n ≤ xs.length) : xs.take n = xs.take (n - 1) ++ [xs.getD (n - 1) 0] := by
  obtain ⟨m,rfl⟩ : ∃ m,n = m + 1 := ⟨n - 1,by omega⟩
  rw [Nat.add_sub_cancel,List.take_add_one,List.getElem?_eq_getElem (by omega),List.getD_eq_getElem?_getD,List.getElem?_eq_getElem (by omega)]
  rfl
theorem trim_down {xs : List Int} {n : Nat} (h : 0 < n) (hn : n ≤ xs.length) (ht : Pm.trim (xs.take n) = Pm.trim xs) (h0 : xs.getD (n - 1) 0 = 0) : Pm.trim (xs.take (n - 1)) = Pm.trim xs := by
  rw [take_step h hn,h0,Pm.trim_zero] at ht
  exact ht
theorem trim_stop {xs : List Int} {n : Nat} (hn : n ≤ xs.length) (ht : Pm.trim (xs.take n) = Pm.trim xs) (h0 : n = 0 ∨ xs.getD (n - 1) 0 ≠ 0) : xs.take n = Pm.trim xs := by
  rcases h0 with h0 | h0
  · subst h0; rw [← ht]; rfl
  · by_cases hz : n = 0
    · subst hz; rw [← ht]; rfl
    · rw [← ht,take_step (by omega) hn,Pm.trim_last _ h0]
theorem ixN_of {n j : Nat} {i : Int} (e : i = (j : Int)) (h : j < n) : ixN n i = some j := by
  subst e
  unfold ixN
  rw [if_pos (by omega),if_pos (by omega),Int.toNat_natCast]
theorem map_set_int (L : List Int) (j : Nat) (x : Int) : (L.map V.int).set j (.int x) = (L.set j x).map V.int := by rw [List.map_set]
theorem replicate_ofF (n : Nat) : (List.replicate n [V.int 0]).flatten = (Pm.ofF n fun _ => 0).map V.int := by
  induction n with
  | zero => rfl
  | succ n ih =>
    rw [Pm.ofF_succ,List.map_append,← ih,List.replicate_succ',List.flatten_append]
    rfl
theorem comp_rng {n : Nat} {ix : List (Option Nat)} {te : TE} {σ : St} {H1 : Hp} {Q : VK} (hz : n ≤ 1000) {rest : St} (hst : cst ix σ = none :: rest) (f : Nat → Int)
    (he : ∀ H' k,Same H1 H' → k < n → ∀ kk : VK,kk (.int (f k)) H' → te (some (.int (0 + (k : Int))) :: rest) H' kk)
    (hQ : ∀ D,H1 D = none → Q (.ref D) (upd H1 D (.lst ((Pm.ofF n f).map V.int)))) : CompK ix (gName 0) tYes te σ Q (Itr 0 n) H1 := by
  refine comp_pure its_range (by rw [List.length_map,List.length_range]; exact Nat.le_of_lt (small1000 hz)) hst (fun _ => true) (fun x => match x with | .int k => .int (f k.toNat) | _ => .non) ?_ ?_ ?_
  · intro H2 x g2 hx k hk; exact hk
  · intro H2 x g2 hx _ k hk
    obtain ⟨j,hj,rfl⟩ := List.mem_map.mp hx
    have e1 : (0 + (j : Int)).toNat = j := by omega
    refine he H2 j g2 (List.mem_range.mp hj) k ?_
    have hk' : k (V.int (f (0 + (j : Int)).toNat)) H2 := hk
    rwa [e1] at hk'
  · intro D hD
    have el : ((((List.range n).map fun i => V.int (0 + (i : Nat))).filter fun _ => true).map fun x => match x with | .int k => V.int (f k.toNat) | _ => V.non) = (Pm.ofF n f).map V.int := by
      rw [List.filter_eq_self.mpr (by simp),List.map_map,Pm.ofF,List.map_map]
      refine List.map_congr_left fun k _ => ?_
      show V.int (f (0 + (k : Int)).toNat) = V.int (f k)
      rw [show (0 + (k : Int)).toNat = k by omega]
    rw [el]
    exact hQ D hD
theorem comp_tup {K : PySem.W.Frag} {a : Addr} {xs : List Int} {ix : List (Option Nat)} {te : TE} {σ : St} {H1 : Hp} {Q : VK} (hA : H1 a = some (.tup (xs.map V.int))) (hz : xs.length ≤ 1000) {rest : St} (hst : cst ix σ = none :: rest) (f : Int → Int)
    (he : ∀ H' x,Same H1 H' → x ∈ xs → ∀ kk : VK,kk (.int (f x)) H' → te (some (.int x) :: rest) H' kk)
    (hQ : ∀ D,H1 D = none → Q (.ref D) (upd H1 D (.lst ((xs.map f).map V.int)))) : CompK ix (gName 0) tYes te σ Q (Itt K a) H1 := by
  refine comp_pure (its_tup (SqT.of hA)) (by rw [List.length_map]; exact Nat.le_of_lt (small1000 hz)) hst (fun _ => true) (fun x => match x with | .int k => .int (f k) | _ => .non) ?_ ?_ ?_
  · intro H2 x g2 hx k hk; exact hk
  · intro H2 x g2 hx _ k hk
    obtain ⟨y,hy,rfl⟩ := List.mem_map.mp hx
    exact he H2 y g2 hy k hk
  · intro D hD
    have el : (((xs.map V.int).filter fun _ => true).map fun x => match x with | .int k => V.int (f k) | _ => V.non) = (xs.map f).map V.int := by
      rw [List.filter_eq_self.mpr (by simp),List.map_map,List.map_map]; rfl
    rw [el]
    exact hQ D hD
theorem comp_lst {K : PySem.W.Frag} {a : Addr} {xs : List Int} {ix : List (Option Nat)} {te : TE} {σ : St} {H1 : Hp} {Q : VK} (hA : H1 a = some (.lst (xs.map V.int))) (hz : xs.length ≤ 1000) {rest : St} (hst : cst ix σ = none :: rest) (f : Int → Int)
    (he : ∀ H' x,Same H1 H' → x ∈ xs → ∀ kk : VK,kk (.int (f x)) H' → te (some (.int x) :: rest) H' kk)
    (hQ : ∀ D,H1 D = none → Q (.ref D) (upd H1 D (.lst ((xs.map f).map V.int)))) : CompK ix (gName 0) tYes te σ Q (Itl K a) H1 := by
  refine comp_pure (its_list (SqL.of hA)) (by rw [List.length_map]; exact Nat.le_of_lt (small1000 hz)) hst (fun _ => true) (fun x => match x with | .int k => .int (f k) | _ => .non) ?_ ?_ ?_
  · intro H2 x g2 hx k hk; exact hk
  · intro H2 x g2 hx _ k hk
    obtain ⟨y,hy,rfl⟩ := List.mem_map.mp hx
    exact he H2 y g2 hy k hk
  · intro D hD
    have el : (((xs.map V.int).filter fun _ => true).map fun x => match x with | .int k => V.int (f k) | _ => V.non) = (xs.map f).map V.int := by
      rw [List.filter_eq_self.mpr (by simp),List.map_map,List.map_map]; rfl
    rw [el]
    exact hQ D hD
theorem map_int_get {p : List Int} {i : Nat} {x : V} (h : (p.map V.int)[i]? = some x) : x = .int (Pm.co p i) ∧ i < p.length := by
  by_cases hi : i < p.length
  · rw [List.getElem?_map,List.getElem?_eq_getElem hi] at h
    cases h
    refine ⟨?_,hi⟩
    show V.int _ = V.int (p.getD i 0)
    rw [List.getD_eq_getElem?_getD,List.getElem?_eq_getElem hi]; rfl
  · rw [List.getElem?_eq_none (by rw [List.length_map]; omega)] at h; cases h
theorem comp_val {J : It} {xs : List V} {ix : List (Option Nat)} {te : TE} {σ : St} {H1 : Hp} {Q : VK} (I : ItS J xs H1) (hz : xs.length ≤ sizeLine) {rest : St} (hst : cst ix σ = none :: rest) (F : V → V)
    (he : ∀ (H' : Hp) (x : V),Same H1 H' → x ∈ xs → ∀ k : VK,(∀ H2,Same H' H2 → k (F x) H2) → te (some x :: rest) H' k)
    (hQ : ∀ D H',H1 D = none → Same H1 H' → H' D = some (.lst (xs.map F)) → Q (.ref D) H') :
    CompK ix (gName 0) tYes te σ Q J H1 := by
  constructor
  intro D hD
  refine ⟨fun i m σ' H' => m = xs.length - i ∧ i ≤ xs.length ∧ (∃ o,σ' = o :: rest) ∧ Same H1 H' ∧ H' D = some (.lst ((xs.take i).map F)),⟨xs.length,by simp,Nat.zero_le _,⟨none,hst⟩,Same.new hD _,by rw [upd_same]; rfl⟩,?_⟩
  rintro i m σ' H' ⟨rfl,hi,⟨o,rfl⟩,g,hl⟩
  by_cases hlt : i < xs.length
  · refine .inr ⟨I.go i _ g hlt,fun x H2 y => ?_⟩
    obtain ⟨rfl,hx⟩ := I.yld i _ x H2 g y
    have hx := hx hlt
    have hm : x ∈ xs := List.mem_of_getElem? hx
    have et : xs.take (i + 1) = xs.take i ++ [x] := by rw [List.take_add_one,hx]; rfl
    change te (some x :: rest) H2 _
    refine he H2 x g hm _ fun H3 g3 => ⟨_,g3 _ _ hl,by rw [List.length_map,List.length_take]; omega,xs.length - (i + 1),by omega,rfl,hlt,⟨_,rfl⟩,Same.upd (g.trans g3) hD _,?_⟩
    rw [upd_same,et,List.map_append]; rfl
  · have e : i = xs.length := by omega
    subst e
    rw [List.take_length] at hl
    exact .inl ⟨I.stop _ _ g (Nat.le_refl _),hQ D H' hD g hl⟩
theorem comp_rngV {n : Nat} {ix : List (Option Nat)} {te : TE} {σ : St} {H1 : Hp} {Q : VK} (hz : n ≤ 1000) {rest : St} (hst : cst ix σ = none :: rest) (f : Nat → Int)
    (he : ∀ H' k,Same H1 H' → k < n → ∀ kk : VK,(∀ H2,Same H' H2 → kk (.int (f k)) H2) → te (some (.int (0 + (k : Int))) :: rest) H' kk)
    (hQ : ∀ D H',H1 D = none → Same H1 H' → H' D = some (.lst ((Pm.ofF n f).map V.int)) → Q (.ref D) H') : CompK ix (gName 0) tYes te σ Q (Itr 0 n) H1 := by
  refine comp_val its_range (by rw [List.length_map,List.length_range]; exact Nat.le_of_lt (small1000 hz)) hst (fun x => match x with | .int k => .int (f k.toNat) | _ => .non) ?_ ?_
  · intro H2 x g2 hx k hk
    obtain ⟨j,hj,rfl⟩ := List.mem_map.mp hx
    have e1 : (0 + (j : Int)).toNat = j := by omega
    refine he H2 j g2 (List.mem_range.mp hj) k fun H3 g3 => ?_
    have hk' : k (V.int (f (0 + (j : Int)).toNat)) H3 := hk H3 g3
    rwa [e1] at hk'
  · intro D H' hD g hl
    refine hQ D H' hD g ?_
    rw [hl,Pm.ofF,List.map_map,List.map_map]
    refine congrArg (fun z => some (HO.lst z)) (List.map_congr_left fun k _ => ?_)
    show V.int (f (0 + (k : Int)).toNat) = V.int (f k)
    rw [show (0 + (k : Int)).toNat = k by omega]
theorem primesN_range : ∀ P ∈ Om.primesN,2 ≤ P ∧ P < 1000 := by decide +kernel
inductive SpTaken_  (vs : List V) (H : Hp) (Q : VK) (E : XK) : Prop | mk (b n : Int) (z_0 : vs = [.int b,.int n]) (z_1 : 0 ≤ b) (z_2 : Q (.int (Rm.tk b n)) H)
noncomputable def spTaken : Sp := fun vs H Q E => SpTaken_  vs H Q E
inductive SpNext_  (K : PySem.W.Frag) (vs : List V) (H : Hp) (Q : VK) (E : XK) : Prop | mk (b : Int) (r s : Addr) (rule before : List Int) (z_0 : vs = [.int b,.ref r,.ref s]) (z_1 : 0 ≤ b) (z_2 : SqT K H r (rule.map V.int)) (z_3 : (SqL K H s (before.map V.int) ∨ SqT K H s (before.map V.int))) (z_4 : rule.length ≤ before.length) (z_5 : rule.length ≤ 12) (z_6 : before.length ≤ 5000) (z_7 : (∀ x ∈ rule,Rm.Bd 2000 x)) (z_8 : (∀ x ∈ before,Rm.Bd 2100000 x)) (z_9 : Q (.int (Rm.tk b (Rm.S rule (fun i => before.getD i 0) before.length rule.length))) H)
noncomputable def spNext  (K : PySem.W.Frag) : Sp := fun vs H Q E => SpNext_ K vs H Q E
theorem RwOk.rowBdW {r : Rw} (h : RwOk r) (hb : 0 < r.b) (n : Nat) : ∀ x ∈ r.row n,Rm.Bd 2100000 x := by
  intro x hx
  have e : r.row n = (List.range n).map r.at := Rm.row_eq ..
  rw [e] at hx
  obtain ⟨i,_,rfl⟩ := List.mem_map.mp hx
  have := Rm.at_range h.len hb (fun y hy => by
    rcases h.startsNum y hy with z | z
    · omega
    · exact z) i
  have e2 : r.at i = Rm.at_ r.b r.rule r.starts i := rfl
  rw [e2]
  have b1 := h.by1
  have b2 : Rm.Bd 2000 (Rm.at_ r.b r.rule r.starts i) := Nat.lt_of_le_of_lt (by omega) b1
  exact b2.mono (by decide)
inductive SpFirst_  (K : PySem.W.Frag) (vs : List V) (H : Hp) (Q : VK) (E : XK) : Prop | mk (v : V) (r : Rw) (c : Int) (z_0 : vs = [v,.int c]) (z_1 : RowIs H v r) (z_2 : RwOk r) (z_3 : 0 < r.b) (z_4 : 0 ≤ c) (z_5 : c ≤ 4096) (z_6 : Told H Q ((r.row c.toNat).map V.int))
noncomputable def spFirst  (K : PySem.W.Frag) : Sp := fun vs H Q E => SpFirst_ K vs H Q E
inductive SpInverseQ_  (vs : List V) (H : Hp) (Q : VK) (E : XK) : Prop | mk (P : Nat) (a : Int) (z_0 : vs = [.int P,.int a]) (z_1 : Om.Prime P) (z_2 : P < 2097152) (z_3 : 0 < a) (z_4 : a < (P : Int)) (z_5 : ∀ x : Int,0 ≤ x → x < 2097152 → x % (P : Int) = a ^ (P - 2) % (P : Int) → Q (.int x) H)
noncomputable def spInverseQ : Sp := fun vs H Q E => SpInverseQ_  vs H Q E
inductive SpOverQ_  (vs : List V) (H : Hp) (Q : VK) (E : XK) : Prop | mk (P : Nat) (one other : Int) (z_0 : vs = [.int P,.int one,.int other]) (z_1 : Om.Prime P) (z_2 : P < 2097152) (z_3 : 0 < other) (z_4 : other < (P : Int)) (z_5 : Q (.int (one * other ^ (P - 2) % (P : Int))) H)
noncomputable def spOverQ : Sp := fun vs H Q E => SpOverQ_  vs H Q E
inductive SpTrim_  (K : PySem.W.Frag) (vs : List V) (H : Hp) (Q : VK) (E : XK) : Prop | mk (l : Addr) (xs : List Int) (z_0 : vs = [.ref l]) (z_1 : SqL K H l (xs.map V.int)) (z_2 : ToldT H Q (Pm.trim xs))
noncomputable def spTrim  (K : PySem.W.Frag) : Sp := fun vs H Q E => SpTrim_ K vs H Q E
inductive SpNumAt_  (vs : List V) (H : Hp) (Q : VK) (E : XK) : Prop | mk (a : Addr) (p : List Int) (k : Int) (z_0 : vs = [.ref a,.int k]) (z_1 : H a = some (.tup (p.map V.int))) (z_2 : 0 ≤ k) (z_3 : Q (.int (Pm.co p k.toNat)) H)
noncomputable def spNumAt : Sp := fun vs H Q E => SpNumAt_  vs H Q E
inductive SpTimes_  (vs : List V) (H : Hp) (Q : VK) (E : XK) : Prop | mk (b : Int) (a c : Addr) (p r : List Int) (z_0 : vs = [.int b,.ref a,.ref c]) (z_1 : 0 ≤ b) (z_2 : H a = some (.tup (p.map V.int))) (z_3 : H c = some (.tup (r.map V.int))) (z_4 : p.length ≤ 400) (z_5 : r.length ≤ 400) (z_6 : (∀ x ∈ p,Rm.Bd 1000000 x)) (z_7 : (∀ x ∈ r,Rm.Bd 1000000 x)) (z_8 : ToldT H Q (Pm.mul b p r))
noncomputable def spTimes : Sp := fun vs H Q E => SpTimes_  vs H Q E
noncomputable def ToldD (H : Hp) (Q : VK) (b : Int) (P M : List Int) : Prop := ∀ t x y q r H',Same H H' → H' t = some (.tup [.ref x,.ref y]) → H' x = some (.tup (List.map V.int q)) → H' y = some (.tup (List.map V.int r)) → Pm.Div b P M q r →
  (∀ z ∈ q,True) → (∀ z ∈ r,True) → q.length ≤ P.length → Q (.ref t) H'
inductive SpDividedP_  (vs : List V) (H : Hp) (Q : VK) (E : XK) : Prop | mk (b : Int) (a c : Addr) (P M : List Int) (z_0 : vs = [.int b,.ref a,.ref c]) (z_1 : 0 < b) (z_2 : b < 2097152) (z_3 : H a = some (.tup (P.map V.int))) (z_4 : H c = some (.tup (M.map V.int))) (z_5 : P.length ≤ 40) (z_6 : M.length ≤ 40) (z_7 : Pm.Mon M) (z_8 : (∀ k,Rm.tk b (Pm.co P k) = Pm.co P k)) (z_9 : ToldD H Q b P M)
noncomputable def spDividedP : Sp := fun vs H Q E => SpDividedP_  vs H Q E
theorem tk_small {b x : Int} (h0 : 0 < b) (h1 : b < 2097152) (h : Rm.tk b x = x) : -(2 ^ 64) < x ∧ x < 2 ^ 64 := by
  rw [← h,Rm.tk_pos (by omega)]
  have := emod_lo x h0
  have := emod_hi x h0
  omega
theorem rng62 {n : Nat} (h : n ≤ 1000) : -(2 ^ 62) ≤ (n : Int) ∧ (n : Int) < 2 ^ 62 := by omega
theorem ixs {s t n : Nat} (h : s + t < n) : 0 ≤ (s : Int) + (0 + (t : Int)) ∧ (s : Int) + (0 + (t : Int)) < (n : Int) := by omega
theorem ixt {s m n : Nat} (hm : 0 < m) (h : s + m ≤ n) : 0 ≤ (s : Int) + ((m : Int) - 1) ∧ (s : Int) + ((m : Int) - 1) < (n : Int) := by omega
theorem ixk {t n : Nat} (h : t < n) : 0 ≤ 0 + (t : Int) ∧ 0 + (t : Int) < (n : Int) := by omega
theorem max_zero (m n : Nat) : (if (m : Int) - ((n : Int) - 1) > 0 then (m : Int) - ((n : Int) - 1) else 0).toNat = m - (n - 1) ∨ n = 0 := by
  by_cases h : n = 0
  · exact .inr h
  · left; split <;> omega
noncomputable def ToldM (H : Hp) (Q : VK) (b : Int) (p : List Int) : Prop := ∀ t m H',Same H H' → H' t = some (.tup (List.map V.int m)) → Pm.MonOf b p m → Q (.ref t) H'
inductive SpMonicQ_  (vs : List V) (H : Hp) (Q : VK) (E : XK) : Prop | mk (P : Nat) (a : Addr) (p : List Int) (z_0 : vs = [.int P,.ref a]) (z_1 : Om.Prime P) (z_2 : P < 2097152) (z_3 : H a = some (.tup (p.map V.int))) (z_4 : p.length ≤ 300) (z_5 : Pm.Py P p) (z_6 : ToldM H Q P p)
noncomputable def spMonicQ : Sp := fun vs H Q E => SpMonicQ_  vs H Q E
noncomputable def ToldG (H : Hp) (Q : VK) (b : Int) (p r : List Int) : Prop := ∀ t g H',Same H H' → H' t = some (.tup (List.map V.int g)) → Pm.Gcd b p r g → g.length ≤ max p.length r.length → Q (.ref t) H'
inductive SpGreatestQ_  (vs : List V) (H : Hp) (Q : VK) (E : XK) : Prop | mk (P : Nat) (a c : Addr) (p r : List Int) (z_0 : vs = [.int P,.ref a,.ref c]) (z_1 : Om.Prime P) (z_2 : P < 2097152) (z_3 : H a = some (.tup (p.map V.int))) (z_4 : H c = some (.tup (r.map V.int))) (z_5 : p.length ≤ 40) (z_6 : r.length ≤ 40) (z_7 : Pm.Py P p) (z_8 : Pm.Py P r) (z_9 : (r = [] → p ≠ [])) (z_10 : ToldG H Q P p r)
noncomputable def spGreatestQ : Sp := fun vs H Q E => SpGreatestQ_  vs H Q E
noncomputable def spNever : Sp := fun _ _ _ _ => False
inductive SpOfRule_  (vs : List V) (H : Hp) (Q : VK) (E : XK) : Prop | mk (b : Int) (a : Addr) (c : List Int) (z_0 : vs = [.int b,.ref a]) (z_1 : 0 ≤ b) (z_2 : H a = some (.tup (c.map V.int))) (z_3 : c.length ≤ 100) (z_4 : ToldT H Q (Pm.ofRule b c))
noncomputable def spOfRule : Sp := fun vs H Q E => SpOfRule_  vs H Q E
inductive SpRuleOf_  (vs : List V) (H : Hp) (Q : VK) (E : XK) : Prop | mk (b : Int) (a : Addr) (p : List Int) (z_0 : vs = [.int b,.ref a]) (z_1 : 0 ≤ b) (z_2 : H a = some (.tup (p.map V.int))) (z_3 : 0 < p.length) (z_4 : p.length ≤ 100) (z_5 : ToldT H Q (Pm.ruleOf b p))
noncomputable def spRuleOf : Sp := fun vs H Q E => SpRuleOf_  vs H Q E
theorem comp_rngL {lo : Int} {n : Nat} {ix : List (Option Nat)} {te : TE} {σ : St} {H1 : Hp} {Q : VK} (hz : n ≤ 1000) {rest : St} (hst : cst ix σ = none :: rest) (f : Nat → Int)
    (he : ∀ H' k,Same H1 H' → k < n → ∀ kk : VK,kk (.int (f k)) H' → te (some (.int (lo + (k : Int))) :: rest) H' kk)
    (hQ : ∀ D,H1 D = none → Q (.ref D) (upd H1 D (.lst ((Pm.ofF n f).map V.int)))) : CompK ix (gName 0) tYes te σ Q (Itr lo n) H1 := by
  refine comp_pure its_range (by rw [List.length_map,List.length_range]; exact Nat.le_of_lt (small1000 hz)) hst (fun _ => true) (fun x => match x with | .int k => .int (f (k - lo).toNat) | _ => .non) ?_ ?_ ?_
  · intro H2 x g2 hx k hk; exact hk
  · intro H2 x g2 hx _ k hk
    obtain ⟨j,hj,rfl⟩ := List.mem_map.mp hx
    have e1 : (lo + (j : Int) - lo).toNat = j := by omega
    refine he H2 j g2 (List.mem_range.mp hj) k ?_
    have hk' : k (V.int (f (lo + (j : Int) - lo).toNat)) H2 := hk
    rwa [e1] at hk'
  · intro D hD
    have el : ((((List.range n).map fun i => V.int (lo + (i : Nat))).filter fun _ => true).map fun x => match x with | .int k => V.int (f (k - lo).toNat) | _ => V.non) = (Pm.ofF n f).map V.int := by
      rw [List.filter_eq_self.mpr (by simp),List.map_map,Pm.ofF,List.map_map]
      refine List.map_congr_left fun k _ => ?_
      show V.int (f (lo + (k : Int) - lo).toNat) = V.int (f k)
      rw [show (lo + (k : Int) - lo).toNat = k by omega]
    rw [el]
    exact hQ D hD
theorem primesN_try : (Om.primesN.all fun p => (List.range 32).all fun d => decide (d < 2) || decide (p < d * d) || decide (p % d ≠ 0)) = true := by decide +kernel
theorem primesN_pr {P : Nat} (h : P ∈ Om.primesN) : Om.Prime P := by
  have hr := primesN_range P h
  refine Om.prime_try hr.1 fun d hd hdd hdv => ?_
  have h32 : d < 32 := by
    by_cases c : d < 32
    · exact c
    · have : 32 * 32 ≤ d * d := Nat.mul_le_mul (by omega) (by omega)
      omega
  have := List.all_eq_true.mp (List.all_eq_true.mp primesN_try P h) d (List.mem_range.mpr h32)
  simp only [Bool.or_eq_true,decide_eq_true_eq] at this
  have := Nat.mod_eq_zero_of_dvd hdv
  omega
noncomputable def topL (r : Rw) : List Int := Pm.trim (Pm.ofF r.rule.length fun k => Rm.tk r.b (Pm.tp (Pm.ofRule r.b r.rule) r.at k))
theorem topL_co (r : Rw) (k : Nat) : Pm.co (topL r) k = Rm.tk r.b (Pm.tp (Pm.ofRule r.b r.rule) r.at k) := by
  rw [topL,Pm.co_trim,Pm.co_ofF]
  by_cases c : k < r.rule.length
  · rw [if_pos c]
  · rw [if_neg c,Pm.tp_fs _ _ k (by rw [Pm.ofRule_len]; omega),Pm.tk0]
theorem topL_len (r : Rw) : (topL r).length ≤ r.rule.length := by
  have := Pm.trim_len_le (Pm.ofF r.rule.length fun k => Rm.tk r.b (Pm.tp (Pm.ofRule r.b r.rule) r.at k))
  rwa [Pm.ofF_len] at this
theorem RwOk.poly_bd {r : Rw} (ok : RwOk r) : ∀ x ∈ Pm.ofRule r.b r.rule,Rm.Bd 2000 x := by
  intro x hx
  rcases List.mem_append.mp hx with hx | hx
  · obtain ⟨k,_,rfl⟩ := Pm.mem_ofF hx
    refine Rm.tk_bd ok.by0 ok.by1 ?_
    have := Pm.Bd_co ok.ruleBd (r.rule.length - 1 - k)
    unfold Rm.Bd at this ⊢
    rw [Int.zero_sub,Int.natAbs_neg]; exact this
  · rw [List.mem_singleton.mp hx]
    exact (Rm.Bd.of (n := 10) (by decide) (by decide)).mono (by decide)
theorem ixr (i k : Nat) : (0 + (i : Int) + 1 + (k : Int)).toNat = i + 1 + k := by omega
theorem ixv (i k : Nat) : (0 + (i : Int) + 1 + (k : Int) - 1 - (0 + (i : Int))).toNat = k := by omega
theorem ixp {i k m n : Nat} (h : k < m - i) (hn : n = m + 1) : 0 ≤ 0 + (i : Int) + 1 + (k : Int) ∧ 0 + (i : Int) + 1 + (k : Int) < (n : Int) := by omega
theorem ixq {i k m n : Nat} (h : k < m - i) (hn : m = n) : 0 ≤ 0 + (i : Int) + 1 + (k : Int) - 1 - (0 + (i : Int)) ∧ 0 + (i : Int) + 1 + (k : Int) - 1 - (0 + (i : Int)) < (n : Int) := by omega
inductive SpTop_  (vs : List V) (H : Hp) (Q : VK) (E : XK) : Prop | mk (v : V) (r : Rw) (a : Addr) (z_0 : vs = [v,.ref a]) (z_1 : RowIs H v r) (z_2 : RwOk r) (z_3 : H a = some (.tup ((Pm.ofRule r.b r.rule).map V.int))) (z_4 : ToldT H Q (topL r))
noncomputable def spTop : Sp := fun vs H Q E => SpTop_  vs H Q E
inductive SpShared_  (vs : List V) (H : Hp) (Q : VK) (E : XK) : Prop | mk (b : Int) (a c : Addr) (P t : List Int) (z_0 : vs = [.int b,.ref a,.ref c]) (z_1 : H a = some (.tup (P.map V.int))) (z_2 : H c = some (.tup (t.map V.int))) (z_3 : P.length ≤ 40) (z_4 : t.length ≤ 40) (z_5 : Pm.Mon P) (z_6 : (∃ p : Nat,b = (p : Int) ∧ Om.Prime p ∧ p < 2097152 ∧ Pm.Py p P ∧ Pm.Py p t ∧ ToldG H Q p P t))
noncomputable def spShared : Sp := fun vs H Q E => SpShared_  vs H Q E
structure LeastOf (b : Int) (f : Nat → Int) (L : List Int) : Prop where
  mon : Pm.Mon L
  nu : ∀ k,Rm.tk b (Pm.co L k) = Pm.co L k
  kp : Pm.Kp b L f
  all : ∀ q,Pm.Kp b q f → Pm.Dv b L (Pm.co q)
noncomputable def ByQ (b : Int) : Prop := ∃ P : Nat,P ∈ Om.primesN ∧ b = (P : Int)
theorem ByQ.one {b : Int} (h : ByQ b) : Rm.tk b 1 = 1 := by
  obtain ⟨P,hP,rfl⟩ := h
  exact Pm.one_tk (primesN_pr hP)
theorem RwOk.kp {r : Rw} (ok : RwOk r) : Pm.Kp r.b (Pm.ofRule r.b r.rule) r.at := Pm.Kp.ofRule (Pm.at_rec ok.len)
theorem mon_py {b : Int} {L : List Int} (h : Pm.Mon L) (hn : ∀ k,Rm.tk b (Pm.co L k) = Pm.co L k) : Pm.Py b L := ⟨Pm.trim_of_last (fun z => by have := h.pos; rw [z] at this; exact absurd this (by decide)) (by rw [h.one]; decide),fun x hx => by
  obtain ⟨k,hk,e⟩ := List.mem_iff_getElem.mp hx
  have := hn k
  rwa [Pm.co_lt hk,e] at this⟩
theorem ofRule_nu (b : Int) (c : List Int) (h1 : Rm.tk b 1 = 1) (k : Nat) : Rm.tk b (Pm.co (Pm.ofRule b c) k) = Pm.co (Pm.ofRule b c) k := by
  have h : ∀ x ∈ Pm.ofRule b c,Rm.tk b x = x := fun x hx => by
    rcases List.mem_append.mp hx with hx | hx
    · obtain ⟨j,_,e⟩ := Pm.mem_ofF hx
      rw [e,Rm.tk_tk]
    · rw [List.mem_singleton.mp hx,h1]
  by_cases hk : k < (Pm.ofRule b c).length
  · exact h _ (Pm.co_mem hk)
  · rw [Pm.co_ge (by omega),Pm.tk0]
theorem least_pr {p : Nat} (hp : Om.Prime p) {r : Rw} (ok : RwOk r) (hb : r.b = (p : Int)) {g L o : List Int} (hG : Pm.Gcd p (Pm.ofRule r.b r.rule) (topL r) g) (D : Pm.Div p (Pm.ofRule r.b r.rule) g o L) : LeastOf r.b r.at o ∧ o.length ≤ r.rule.length + 1 := by
  have h1 := Pm.one_tk hp
  have hm := Pm.ofRule_mon r.b r.rule
  have hd : Pm.Dv p g (Pm.co (Pm.ofRule r.b r.rule)) := hG.one.to fun _ => rfl
  obtain ⟨L',hL',hn',hl',e'⟩ := Pm.mon_left h1 hm hG.mon hd
  have D' : Pm.Div p (Pm.ofRule r.b r.rule) g L' [] := ⟨mon_py hL' hn',Pm.Py.nil _,hG.mon.pos,fun k => by rw [Pm.co_nil,Int.add_zero]; exact (e' k).symm⟩
  obtain ⟨eo,_⟩ := D.uniq hG.mon D'
  subst eo
  have W : Pm.GcdW p (Pm.ofRule p r.rule) (Pm.tp (Pm.ofRule p r.rule) r.at) g := by
    rw [← hb]
    refine ⟨hG.mon,by rw [hb]; rw [hb] at hd; exact hd,?_,?_⟩
    · rw [hb]
      refine (hG.two.to (q := topL r) fun _ => rfl).congr fun k => ?_
      rw [topL_co,hb,Rm.tk_tk]
    · obtain ⟨u,v,e⟩ := hG.sum
      refine ⟨1,Pm.co u,Pm.co v,u.length + v.length,by rw [hb,h1]; decide,(Pm.Fs.co u).mono (by omega),(Pm.Fs.co v).mono (by omega),fun k => ?_⟩
      rw [Int.one_mul,hb]
      rw [hb] at e
      rw [e k]
      refine Rm.tk_congr_add rfl (Pm.cv_tk (fun _ _ => rfl) fun i _ => ?_)
      rw [topL_co,hb,Rm.tk_tk]
  have ha : ∀ n,r.rule.length ≤ n → Rm.tk (p : Int) (r.at n) = Rm.tk p (Rm.S r.rule r.at n r.rule.length) := by
    rw [← hb]; exact Pm.at_rec ok.len
  have K := W.keeps (Dm.Dom.pr hp) ha hL' (by rw [← hb]; rw [← hb] at e'; exact e')
  refine ⟨⟨hL',by rw [hb]; exact hn',?_,fun q hq => ?_⟩,?_⟩
  · rw [hb]
    refine (K o).mpr ⟨fun k => if k = 0 then 1 else 0,1,fun k hk => if_neg (by omega),fun k => ?_⟩
    rw [Pm.cv_point,if_pos (Nat.zero_le _),Int.one_mul,Nat.sub_zero]
  · rw [hb] at hq ⊢; exact (K q).mp hq
  · have := hG.mon.pos
    rw [Pm.ofRule_len] at hl'
    omega
inductive SpLeast_  (vs : List V) (H : Hp) (Q : VK) (E : XK) : Prop | mk (v : V) (r : Rw) (z_0 : vs = [v]) (z_1 : RowIs H v r) (z_2 : RwOk r) (z_3 : ByQ r.b) (z_4 : ∀ t L H',Same H H' → H' t = some (.tup (List.map V.int L)) → LeastOf r.b r.at L → L.length ≤ r.rule.length + 1 → Q (.ref t) H')
noncomputable def spLeast : Sp := fun vs H Q E => SpLeast_  vs H Q E
noncomputable def shortR (r : Rw) (L : List Int) : Rw := ⟨r.b,Pm.ruleOf r.b L,r.starts.take (L.length - 1)⟩
inductive SpShort_  (vs : List V) (H : Hp) (Q : VK) (E : XK) : Prop | mk (v : V) (r : Rw) (z_0 : vs = [v]) (z_1 : RowIs H v r) (z_2 : RwOk r) (z_3 : ByQ r.b) (z_4 : ∀ v' L H',Same H H' → RowIs H' v' (shortR r L) → LeastOf r.b r.at L → L.length ≤ r.rule.length + 1 → Q v' H')
noncomputable def spShort : Sp := fun vs H Q E => SpShort_  vs H Q E
theorem num_tk {b x : Int} (h : IsNum b x) : Rm.tk b x = x := by
  rcases h with rfl | ⟨h1,h2⟩
  · exact Rm.tk_zero x
  · rw [Rm.tk_pos (by omega)]; exact Int.emod_eq_of_lt h1 h2
theorem RwOk.at_num {r : Rw} (ok : RwOk r) (n : Nat) : IsNum r.b (r.at n) := by
  by_cases h : r.b = 0
  · exact .inl h
  · have h0 := ok.by0
    refine .inr (Rm.at_range ok.len (by omega) (fun x hx => ?_) n)
    rcases ok.startsNum x hx with z | z
    · exact absurd z h
    · exact z
theorem RwOk.at_tk {r : Rw} (ok : RwOk r) (n : Nat) : Rm.tk r.b (r.at n) = r.at n := num_tk (ok.at_num n)
theorem shortR_at {r : Rw} (hn : ∀ n,Rm.tk r.b (r.at n) = r.at n) {L : List Int} (h : LeastOf r.b r.at L) (hl : L.length ≤ r.starts.length + 1) (n : Nat) : (shortR r L).at n = r.at n := by
  have hp := h.mon.pos
  refine Pm.at_longer h.nu h.mon h.kp hn (starts := r.starts.take (L.length - 1)) ?_ ?_ n
  · rw [List.length_take]; omega
  · intro i hi
    rw [List.length_take] at hi
    have e : r.at i = r.starts.getD i 0 := Rm.at_lt (by omega)
    rw [e,List.getD_eq_getElem?_getD,List.getElem?_take,if_pos (by omega),← List.getD_eq_getElem?_getD]
theorem shortR_ok {r : Rw} (ok : RwOk r) (hB : ByQ r.b) {L : List Int} (h : LeastOf r.b r.at L) (hl : L.length ≤ r.rule.length + 1) : RwOk (shortR r L) := by
  obtain ⟨P,hP,e⟩ := hB
  have hr := primesN_range P hP
  have hs := ok.short
  have hle := ok.len
  have hp := h.mon.pos
  have hru : ∀ x ∈ Pm.ruleOf r.b L,0 ≤ x ∧ x < r.b := fun x hx => by
    obtain ⟨k,_,rfl⟩ := Pm.mem_ofF hx
    rw [Rm.tk_pos (by omega)]
    exact ⟨emod_lo _ (by omega),emod_hi _ (by omega)⟩
  refine ⟨?_,?_,ok.by0,ok.by1,fun x hx => .inr (hru x hx),fun x hx => ok.startsNum x (List.mem_of_mem_take hx),fun x hx => ?_,fun x hx => ok.startsBd x (List.mem_of_mem_take hx)⟩
  · show (Pm.ruleOf r.b L).length = (r.starts.take (L.length - 1)).length
    rw [Pm.ruleOf_len,List.length_take]; omega
  · show (Pm.ruleOf r.b L).length ≤ 12
    rw [Pm.ruleOf_len]; omega
  · have := hru x hx
    exact (Rm.Bd.of (n := 10) (by omega) (by omega)).mono (by decide)
theorem LeastOf.uniq {b : Int} (h1 : Rm.tk b 1 = 1) {f : Nat → Int} {L L' : List Int} (h : LeastOf b f L) (h' : LeastOf b f L') : L = L' := by
  have d := h.all L' h'.kp
  have d' := h'.all L h.kp
  have l1 := d.len h1 h.mon h'.mon
  have l2 := d'.len h1 h'.mon h.mon
  refine Pm.co_ext (by omega) fun k => ?_
  rw [← h.nu k,← h'.nu k]
  exact (d.same h1 h.mon h'.mon (by omega) k).symm
theorem win_iff {b : Int} {f : Nat → Int} {L : List Int} (h : LeastOf b f L) (hf : ∀ i,Rm.tk b (f i) = f i) {n : Nat} (hn : L.length - 1 ≤ n) (i j : Nat) : Pm.win f n i = Pm.win f n j ↔ Pm.win f (L.length - 1) i = Pm.win f (L.length - 1) j := by
  have hp := h.mon.pos
  obtain ⟨d,hd⟩ : ∃ d,L.length = d + 1 := ⟨L.length - 1,by omega⟩
  have hone := h.mon.one
  rw [hd,Nat.add_sub_cancel] at hone
  have e1 : L.length - 1 = d := by omega
  rw [e1] at hn ⊢
  constructor
  · intro z
    refine Pm.co_ext (by rw [Pm.win_len,Pm.win_len]) fun k => ?_
    by_cases c : k < d
    · have := congrArg (fun l : List Int => l.getD k 0) z
      rw [Pm.win_get _ (by omega),Pm.win_get _ (by omega)] at this
      exact (Pm.win_get f c).trans (this.trans (Pm.win_get f c).symm)
    · rw [Pm.co_ge (by rw [Pm.win_len]; omega),Pm.co_ge (by rw [Pm.win_len]; omega)]
  · intro z
    have al : ∀ k,f (i + k) = f (j + k) := fun k => by
      induction k using Nat.strongRecOn with
      | ind k ih =>
        by_cases c : k < d
        · have := congrArg (fun l => l.getD k 0) z
          rwa [Pm.win_get _ c,Pm.win_get _ c] at this
        · have k1 := h.kp (i + (k - d))
          have k2 := h.kp (j + (k - d))
          unfold Pm.ks at k1 k2
          rw [hd,Pm.sm,hone,Int.one_mul,show i + (k - d) + d = i + k by omega] at k1
          rw [hd,Pm.sm,hone,Int.one_mul,show j + (k - d) + d = j + k by omega] at k2
          have eA : Pm.sm d (fun t => Pm.co L t * f (i + (k - d) + t)) = Pm.sm d (fun t => Pm.co L t * f (j + (k - d) + t)) := Pm.sm_congr fun t ht => by
            rw [show i + (k - d) + t = i + (k - d + t) by omega,show j + (k - d) + t = j + (k - d + t) by omega,ih (k - d + t) (by omega)]
          rw [eA] at k1
          generalize Pm.sm d (fun t => Pm.co L t * f (j + (k - d) + t)) = A at k1 k2
          have t1 : Rm.tk b (f (i + k)) = Rm.tk b (-A) := by
            have := Rm.tk_add_l b (A + f (i + k)) (-A)
            rw [k1,Int.zero_add,show A + f (i + k) + -A = f (i + k) by omega] at this
            exact this.symm
          have t2 : Rm.tk b (f (j + k)) = Rm.tk b (-A) := by
            have := Rm.tk_add_l b (A + f (j + k)) (-A)
            rw [k2,Int.zero_add,show A + f (j + k) + -A = f (j + k) by omega] at this
            exact this.symm
          rw [← hf (i + k),← hf (j + k),t1,t2]
    exact List.map_congr_left fun k _ => al k
inductive SpWide_  (C : Addr) (vs : List V) (H : Hp) (Q : VK) (E : XK) : Prop | mk (P l : Nat) (z_0 : vs = [.int P,.int l]) (z_1 : P < 1000) (z_2 : l ≤ 12) (z_3 : (P ^ l ≤ 4096 → Q .non H)) (z_4 : (4096 < P ^ l → E (.ref C) none H))
noncomputable def spWide  (C : Addr) : Sp := fun vs H Q E => SpWide_ C vs H Q E
noncomputable def RoundTo (C1 C2 : Addr) (H : Hp) (E : XK) (r : Rw) (G : List Int → Prop) : Prop :=
  (r.b = 0 → E (.ref C1) none H) ∧ (r.b ≠ 0 → ByQ r.b ∧ ∀ L,LeastOf r.b r.at L → L.length ≤ r.rule.length + 1 → (4096 < r.b.toNat ^ (L.length - 1) → ∀ H',Same H H' → E (.ref C2) none H') ∧ (r.b.toNat ^ (L.length - 1) ≤ 4096 → G L))
noncomputable def spRoundRow (C1 C2 : Addr) : Sp := fun vs H Q E => ∃ (v : V) (r : Rw),vs = [v] ∧ RowIs H v r ∧ RwOk r ∧ RoundTo C1 C2 H E r fun L => ∀ v' H',Same H H' → RowIs H' v' (shortR r L) → Q v' H'
noncomputable def KK (xs : List Int) : List Key := xs.map .inl
theorem KK_map (xs : List Int) : (KK xs).map kV = xs.map V.int := by rw [KK,List.map_map]; rfl
theorem KK_inj {xs ys : List Int} (h : KK xs = KK ys) : xs = ys := by
  have := congrArg (List.map kV) h
  rw [KK_map,KK_map] at this
  exact (List.map_inj_right (fun a b e => by cases e; rfl)).mp this
structure Seen (f : Nat → Int) (l n : Nat) (kvs : List (List Key × V)) : Prop where
  len : kvs.length = n
  at_ : ∀ i,i < n → valV kvs (KK (Pm.win f l i)) = some (.int (i : Int))
  out : ∀ k,(∀ i,i < n → k ≠ KK (Pm.win f l i)) → valV kvs k = none
  diff : ∀ i j,i < j → j < n → Pm.win f l i ≠ Pm.win f l j
theorem Seen.more {f : Nat → Int} {l n : Nat} {kvs : List (List Key × V)} (h : Seen f l n kvs) (hn : valV kvs (KK (Pm.win f l n)) = none) : Seen f l (n + 1) (putK kvs (KK (Pm.win f l n)) (.int (n : Int))) := by
  have d : ∀ i,i < n → Pm.win f l i ≠ Pm.win f l n := fun i hi z => by
    have := h.at_ i hi
    rw [z,hn] at this; cases this
  refine ⟨?_,fun i hi => ?_,fun k hk => ?_,fun i j hij hj => ?_⟩
  · rw [putK_new _ hn,List.length_append,h.len]; rfl
  · rw [valV_put]
    by_cases c : i = n
    · rw [c,if_pos rfl]
    · rw [if_neg fun z => d i (by omega) (KK_inj z)]; exact h.at_ i (by omega)
  · rw [valV_put,if_neg (hk n (by omega))]
    exact h.out k fun i hi => hk i (by omega)
  · by_cases c : j = n
    · rw [c]; exact d i (by omega)
    · exact h.diff i j hij (by omega)
theorem tk_bdD' {b x : Int} (hb : Rm.Bd 2000 b) (h0 : 0 ≤ x) (h1 : x < b) : Rm.Bd 2000 x := by
  unfold Rm.Bd at hb ⊢
  omega
inductive SpCame_  (vs : List V) (H : Hp) (Q : VK) (E : XK) : Prop | mk (v : V) (r : Rw) (z_0 : vs = [v]) (z_1 : RowIs H v r) (z_2 : RwOk r) (z_3 : 0 < r.b) (z_4 : r.b.toNat ^ r.rule.length ≤ 4096) (z_5 : ∀ (bg ln : Nat) p H',Same H H' → H' p = some (.tup [.int (bg : Int),.int (ln : Int)]) → Pm.Rnd r.at r.rule.length bg ln → Q (.ref p) H')
noncomputable def spCame : Sp := fun vs H Q E => SpCame_  vs H Q E
noncomputable def spRoundOf (C1 C2 : Addr) : Sp := fun vs H Q E => ∃ (v : V) (r : Rw),vs = [v] ∧ RowIs H v r ∧ RwOk r ∧ RoundTo C1 C2 H E r fun L => ∀ (bg ln : Nat) p H',Same H H' → H' p = some (.tup [.int (bg : Int),.int (ln : Int)]) → Pm.Rnd r.at (L.length - 1) bg ln → Q (.ref p) H'
theorem atI_back {ns : List Int} {k : Int} (j : Nat) (h0 : k < 0) (e : k + (ns.length : Int) = (j : Int)) : atI (ns.map V.int) k = some (.int (ns.getD j 0)) := by
  have hj : j < ns.length := by omega
  unfold atI ixN
  rw [List.length_map,if_neg (by omega),if_pos (by omega),show (k + (ns.length : Int)).toNat = j by omega]
  show (ns.map V.int)[j]? = _
  rw [List.getElem?_map,List.getElem?_eq_getElem hj,List.getD_eq_getElem?_getD,List.getElem?_eq_getElem hj]
  rfl
noncomputable def whr (p : Nat → Bool) (lo n : Nat) : List Int := (((List.range n).map (lo + ·)).filter p).map fun (i : Nat) => (i : Int)
theorem whr_len (p : Nat → Bool) (lo n : Nat) : (whr p lo n).length ≤ n := by
  rw [whr,List.length_map]
  refine Nat.le_trans (List.length_filter_le ..) ?_
  rw [List.length_map,List.length_range]; exact Nat.le_refl _
theorem comp_rngW {lo n : Nat} {ix : List (Option Nat)} {tc : TT} {te : TE} {σ : St} {H1 : Hp} {Q : VK} (hz : n ≤ sizeLine) {rest : St} (hst : cst ix σ = none :: rest) (p : Nat → Bool)
    (ht : ∀ H' k,Same H1 H' → k < n → ∀ kk : Bool → Hp → Prop,kk (p (lo + k)) H' → tc (some (.int ((lo : Int) + (k : Int))) :: rest) H' kk)
    (he : ∀ H' k,Same H1 H' → k < n → ∀ kk : VK,kk (.int ((lo : Int) + (k : Int))) H' → te (some (.int ((lo : Int) + (k : Int))) :: rest) H' kk)
    (hQ : ∀ D,H1 D = none → Q (.ref D) (upd H1 D (.lst ((whr p lo n).map V.int)))) : CompK ix (gName 0) tc te σ Q (Itr (lo : Int) n) H1 := by
  refine comp_pure its_range (by rw [List.length_map,List.length_range]; exact hz) hst (fun x => match x with | .int k => p k.toNat | _ => false) (fun x => x) ?_ ?_ ?_
  · intro H2 x g2 hx k hk
    obtain ⟨j,hj,rfl⟩ := List.mem_map.mp hx
    have e1 : ((lo : Int) + (j : Int)).toNat = lo + j := by omega
    refine ht H2 j g2 (List.mem_range.mp hj) k ?_
    have hk' : k (p ((lo : Int) + (j : Int)).toNat) H2 := hk
    rwa [e1] at hk'
  · intro H2 x g2 hx hp k hk
    obtain ⟨j,hj,rfl⟩ := List.mem_map.mp hx
    exact he H2 j g2 (List.mem_range.mp hj) k hk
  · intro D hD
    have el : ((((List.range n).map fun i => V.int ((lo : Int) + (i : Nat))).filter fun x => match x with | .int k => p k.toNat | _ => false).map fun x => x) = (whr p lo n).map V.int := by
      rw [List.map_id',whr,List.filter_map,List.filter_map,List.map_map,List.map_map]
      have e2 : ((fun x => match x with | V.int k => p k.toNat | _ => false) ∘ fun (i : Nat) => V.int ((lo : Int) + (i : Nat))) = p ∘ (lo + ·) := by
        funext i
        show p ((lo : Int) + (i : Int)).toNat = p (lo + i)
        rw [show ((lo : Int) + (i : Int)).toNat = lo + i by omega]
      rw [e2]
      refine List.map_congr_left fun i _ => ?_
      show V.int ((lo : Int) + (i : Int)) = V.int (((lo + i : Nat)) : Int)
      rw [Int.natCast_add]
    have := hQ D hD
    rw [← el] at this
    exact this
noncomputable def atIs (f : Nat → Int) (x : Int) : Nat → Bool := fun i => decide (f i = x)
noncomputable def spWhere (C1 C2 : Addr) : Sp := fun vs H Q E => ∃ (v : V) (r : Rw) (x : Int),vs = [v,.int x] ∧ RowIs H v r ∧ RwOk r ∧ RoundTo C1 C2 H E r fun L =>
  ∀ (bg ln : Nat) p le ls H',Same H H' → Pm.Rnd r.at (L.length - 1) bg ln → bg + ln ≤ 4096 → H' p = some (.tup [.ref le,.ref ls,.int (ln : Int)]) → H' le = some (.lst ((whr (atIs r.at x) 0 bg).map V.int)) → H' ls = some (.lst ((whr (atIs r.at x) bg ln).map V.int)) → H le = none → H ls = none → le ≠ ls → Q (.ref p) H'
inductive SpRefJ_  (vs : List V) (H : Hp) (Q : VK) (E : XK) : Prop | mk (b n : Int) (z_0 : vs = [.int b,.int n]) (z_1 : 0 ≤ n) (z_2 : (b = 0 → n ≤ 400)) (z_3 : Q .non H)
noncomputable def spRefJ : Sp := fun vs H Q E => SpRefJ_  vs H Q E
theorem py_bdQ {b : Int} (hB : ByQ b) {l : List Int} (h : ∀ k,Rm.tk b (Pm.co l k) = Pm.co l k) : ∀ x ∈ l,Rm.Bd 2000 x := fun x hx => by
  obtain ⟨k,hk,e⟩ := List.mem_iff_getElem.mp hx
  obtain ⟨P0,hP0,eb⟩ := hB
  have hr := primesN_range P0 hP0
  have := Pm.tk_range (b := b) (x := Pm.co l k) (by omega)
  rw [h,Pm.co_lt hk,e] at this
  exact (Rm.Bd.of (n := 10) (by omega) (by omega)).mono (by decide)
theorem figs_lt {n : Nat} {k : Nat} (h : PySem.Builtin.Int.intBits (n : Int) ≤ k) : n / 2 ^ k = 0 := by
  have : (n : Int).natAbs < 2 ^ k := intBits_le_iff.mp h
  exact Nat.div_eq_of_lt (by omega)
theorem figs_step (n k : Nat) : n / 2 ^ k = 2 * (n / 2 ^ (k + 1)) + n / 2 ^ k % 2 := by
  rw [Nat.pow_succ,← Nat.div_div_eq_div_mul]
  omega
inductive SpPower_  (vs : List V) (H : Hp) (Q : VK) (E : XK) : Prop | mk (b : Int) (a : Addr) (rule : List Int) (n : Nat) (z_0 : vs = [.int b,.ref a,.int n]) (z_1 : ByQ b) (z_2 : H a = some (.tup ((Pm.ofRule b rule).map V.int))) (z_3 : rule.length ≤ 12) (z_4 : Rm.Bd 400 (n : Int)) (z_5 : ∀ p H' l,Same H H' → H' p = some (.tup (List.map V.int l)) → Pm.Pw b rule n l → Pm.Py b l → l.length ≤ rule.length → Q (.ref p) H')
noncomputable def spPower : Sp := fun vs H Q E => SpPower_  vs H Q E
theorem mul_lenF (b : Int) (p q : List Int) : (Pm.mul b p q).length ≤ p.length + q.length := by
  refine Nat.le_trans (Pm.trim_len_le _) ?_
  rw [Pm.ofF_len]
  exact Nat.le_refl _
theorem one_tk {b : Int} (hb : Rm.tk b 1 = 1) (k : Nat) : Rm.tk b (Pm.co [1] k) = Pm.co [1] k := by
  cases k with
  | zero => rw [Pm.co_zero]; exact hb
  | succ k => rw [Pm.co_succ,Pm.co_nil]; exact Pm.tk0 b
inductive SpJump_  (vs : List V) (H : Hp) (Q : VK) (E : XK) : Prop | mk (v : V) (r : Rw) (n : Nat) (z_0 : vs = [v,.int n]) (z_1 : RowIs H v r) (z_2 : RwOk r) (z_3 : ByQ r.b) (z_4 : Rm.Bd 400 (n : Int)) (z_5 : ToldT H Q (Pm.rest r.b r.rule n))
noncomputable def spJump : Sp := fun vs H Q E => SpJump_  vs H Q E
inductive SpSumAt_  (vs : List V) (H : Hp) (Q : VK) (E : XK) : Prop | mk (b : Int) (a l : Addr) (p f : List Int) (n : Nat) (z_0 : vs = [.int b,.ref a,.ref l,.int (0 + (n : Int))]) (z_1 : 0 ≤ b) (z_2 : H a = some (.tup (p.map V.int))) (z_3 : (H l = some (.lst (f.map V.int)) ∨ H l = some (.tup (f.map V.int)))) (z_4 : n + p.length ≤ f.length) (z_5 : p.length ≤ 1000) (z_6 : (∀ x ∈ p,Rm.Bd 1000000 x)) (z_7 : (∀ x ∈ f,Rm.Bd 300000 x)) (z_8 : ∀ H',Same H H' → Q (.int (Rm.tk b (Pm.ks p (Pm.co f) n))) H')
noncomputable def spSumAt : Sp := fun vs H Q E => SpSumAt_  vs H Q E
theorem RwOk.sum_atQ {r : Rw} (ok : RwOk r) (hB : ByQ r.b) (n m N : Nat) (hN : m + r.rule.length ≤ N) : Rm.tk r.b (Pm.ks (Pm.rest r.b r.rule n) (Pm.co (r.row N)) m) = r.at (m + n) := by
  have hG : Pm.Gr r.b r.rule r.at := Pm.at_rec ok.len
  rw [← ok.at_tk,← Pm.jump_rest hB.one hG n m]
  unfold Pm.ks
  rw [Pm.rest_len]
  refine congrArg (Rm.tk r.b) (Pm.sm_congr fun k hk => ?_)
  have e2 : Pm.co (r.row N) (m + k) = r.at (m + k) := Rm.row_get _ _ _ (by omega)
  rw [e2]
theorem RwOk.row_startsQ {r : Rw} (ok : RwOk r) : r.row r.rule.length = r.starts := by
  have q : r.row r.rule.length = r.starts.take r.rule.length := Rm.row_starts (by have := ok.len; omega)
  rw [q,ok.len,List.take_length]
theorem rest_bdQ {b : Int} (hB : ByQ b) (rule : List Int) (n : Nat) : ∀ x ∈ Pm.rest b rule n,Rm.Bd 2000 x := py_bdQ hB fun k => by
  rw [Pm.rest,Pm.co_ofF]
  split
  · exact Pm.ej_tk hB.one _ _
  · exact Pm.tk0 b
inductive SpPlaceAt_  (vs : List V) (H : Hp) (Q : VK) (E : XK) : Prop | mk (v : V) (r : Rw) (n : Nat) (z_0 : vs = [v,.int n]) (z_1 : RowIs H v r) (z_2 : RwOk r) (z_3 : ByQ r.b) (z_4 : Rm.Bd 400 (n : Int)) (z_5 : ∀ H',Same H H' → Q (.int (r.at n)) H')
noncomputable def spPlaceAt : Sp := fun vs H Q E => SpPlaceAt_  vs H Q E
theorem RwOk.rowBdQ {r : Rw} (ok : RwOk r) (hb : 0 < r.b) (n : Nat) : ∀ x ∈ r.row n,Rm.Bd 2000 x := fun x hx => by
  have e : r.row n = (List.range n).map r.at := Rm.row_eq ..
  rw [e] at hx
  obtain ⟨i,_,rfl⟩ := List.mem_map.mp hx
  rcases ok.at_num i with z | z
  · omega
  · exact tk_bdD' ok.by1 z.1 z.2
noncomputable def onR (r : Rw) (n : Nat) : Rw := ⟨r.b,r.rule,Pm.ofF r.rule.length fun m => r.at (m + n)⟩
inductive SpOnward_  (vs : List V) (H : Hp) (Q : VK) (E : XK) : Prop | mk (v : V) (r : Rw) (n : Nat) (z_0 : vs = [v,.int n]) (z_1 : RowIs H v r) (z_2 : RwOk r) (z_3 : ByQ r.b) (z_4 : Rm.Bd 400 (n : Int)) (z_5 : ∀ v' H',Same H H' → RowIs H' v' (onR r n) → Q v' H')
noncomputable def spOnward : Sp := fun vs H Q E => SpOnward_  vs H Q E
inductive SpCell_  (K : PySem.W.Frag) (vs : List V) (H : Hp) (Q : VK) (E : XK) : Prop | mk (a ns k) (z_0 : vs = [.ref a,.int k]) (z_1 : SqL K H a (ns.map V.int)) (z_2 : 0 ≤ k) (z_3 : Q (.int (cellAt ns k)) H)
noncomputable def spCell  (K : PySem.W.Frag) : Sp := fun vs H Q E => SpCell_ K vs H Q E
noncomputable def mixedN (c k : Int) : Int := (c % 2147483647 + 1) * (k * k + 48271) % 2147483629
noncomputable def mixedI (c k : Int) : Int := mixedN c k * (mixedN c k + 3 * k) % 2147483587
inductive SpMixed_  (vs : List V) (H : Hp) (Q : VK) (E : XK) : Prop | mk (c k : Int) (z_0 : vs = [.int c,.int k]) (z_1 : 0 ≤ k) (z_2 : k ≤ 1000) (z_3 : Q (.int (mixedI c k)) H)
noncomputable def spMixed : Sp := fun vs H Q E => SpMixed_  vs H Q E
structure RwL (b : Int) (most : Nat) (r : Rw) : Prop where
  by_ : r.b = b
  len : r.rule.length = r.starts.length
  short : r.rule.length ≤ most
  ruleNum : ∀ x ∈ r.rule,IsNum b x
  startsNum : ∀ x ∈ r.starts,IsNum b x
  ruleBd : ∀ x ∈ r.rule,Rm.Bd 45 x
  startsBd : ∀ x ∈ r.starts,Rm.Bd 45 x
theorem RwL.ok {b : Int} {most : Nat} {r : Rw} (hB : ByQ b) (h : RwL b most r) (hm : most ≤ 12) : RwOk r := by
  have hr : 0 < b ∧ b < 1000 := by obtain ⟨P0,hP0,e⟩ := hB; have := primesN_range P0 hP0; omega
  have e := h.by_
  have := h.short
  exact ⟨h.len,by omega,by rw [e]; omega,by rw [e]; exact (Rm.Bd.of (n := 10) (by omega) (by omega)).mono (by decide),by rw [e]; exact h.ruleNum,by rw [e]; exact h.startsNum,fun x hx => (h.ruleBd x hx).mono (by decide),fun x hx => (h.startsBd x hx).mono (by decide)⟩
noncomputable def num15 (b c s : Int) : Int := c % b
theorem num15_num {b : Int} (hB : ByQ b) (c s : Int) : IsNum b (num15 b c s) := by
  have hr : 0 < b := by obtain ⟨P0,hP0,e⟩ := hB; have := primesN_range P0 hP0; omega
  exact .inr ⟨emod_lo c hr,emod_hi c hr⟩
theorem num15_bd {b : Int} (hB : ByQ b) (c s : Int) : Rm.Bd 45 (num15 b c s) := by
  have hr : 0 < b ∧ b < 1000 := by obtain ⟨P0,hP0,e⟩ := hB; have := primesN_range P0 hP0; omega
  have := emod_lo c hr.1
  have := emod_hi c hr.1
  refine (Rm.Bd.of (n := 10) ?_ ?_).mono (by decide) <;> unfold num15 <;> omega
theorem IsNum.zero {b : Int} (hB : ByQ b) : IsNum b 0 := by
  have hr : 0 < b := by obtain ⟨P0,hP0,e⟩ := hB; have := primesN_range P0 hP0; omega
  exact .inr ⟨Int.le_refl _,hr⟩
noncomputable def longerR (b n : Int) (rule : List Int) : List Int := Pm.ofF (rule.length + 1) fun k => Rm.tk b (0 - ((if k < rule.length then 0 - Pm.co rule k else 0) - n * (if k = 0 then 1 else 0 - Pm.co rule (k - 1))))
theorem longerR_len (b n : Int) (rule : List Int) : (longerR b n rule).length = rule.length + 1 := Pm.ofF_len ..
noncomputable def lowL (rule : List Int) : List Int := 1 :: rule.map fun x => 0 - x
theorem lowL_len (rule : List Int) : (lowL rule).length = rule.length + 1 := by rw [lowL,List.length_cons,List.length_map]
theorem lowL_co (rule : List Int) (k : Nat) : Pm.co (lowL rule) k = if k = 0 then 1 else 0 - Pm.co rule (k - 1) := by
  cases k with
  | zero => rfl
  | succ k =>
    rw [if_neg (by omega),Nat.add_sub_cancel]
    show Pm.co (1 :: _) (k + 1) = _
    rw [Pm.co_succ,Pm.co_map (f := fun x => 0 - x) rfl]
noncomputable def midL (n : Int) (rule : List Int) : List Int := List.zipWith (fun x y => x - n * y) (lowL rule ++ [0]) ([0] ++ lowL rule)
theorem midL_len (n : Int) (rule : List Int) : (midL n rule).length = rule.length + 2 := by
  rw [midL,List.length_zipWith,List.length_append,List.length_append,lowL_len]
  show min (rule.length + 1 + 1) (1 + (rule.length + 1)) = _
  omega
theorem zip_co {F : Int → Int → Int} {p q : List Int} {k : Nat} (h1 : k < p.length) (h2 : k < q.length) : Pm.co (List.zipWith F p q) k = F (Pm.co p k) (Pm.co q k) := by
  unfold Pm.co
  rw [List.getD_eq_getElem?_getD,List.getElem?_zipWith,List.getD_eq_getElem?_getD,List.getD_eq_getElem?_getD,List.getElem?_eq_getElem h1,List.getElem?_eq_getElem h2]
  rfl
theorem midL_co {n : Int} {rule : List Int} {k : Nat} (hk : k < rule.length + 1) : Pm.co (midL n rule) (k + 1) = (if k < rule.length then 0 - Pm.co rule k else 0) - n * (if k = 0 then 1 else 0 - Pm.co rule (k - 1)) := by
  have l1 : (lowL rule ++ [0]).length = rule.length + 2 := by rw [List.length_append,lowL_len]; rfl
  have l2 : ([0] ++ lowL rule).length = rule.length + 2 := by rw [List.length_append,lowL_len]; show 1 + _ = _; omega
  rw [midL,zip_co (by omega) (by omega),Pm.co_append,lowL_len,Pm.co_append,List.length_singleton,if_neg (by omega : ¬ k + 1 < 1),Nat.add_sub_cancel,lowL_co,lowL_co]
  congr 1
  by_cases c : k < rule.length
  · rw [if_pos (by omega),if_neg (by omega),if_pos c,Nat.add_sub_cancel]
  · rw [if_neg (by omega),if_neg c,show k + 1 - (rule.length + 1) = 0 by omega]; rfl
theorem longerR_mid (b n : Int) (rule : List Int) : ((midL n rule).drop 1).map (fun x => Rm.tk b (0 - x)) = longerR b n rule := by
  refine Pm.co_ext (by rw [List.length_map,List.length_drop,midL_len,longerR_len]; omega) fun k => ?_
  rw [Pm.co_map (f := fun x => Rm.tk b (0 - x)) (by show Rm.tk b (0 - 0) = 0; exact Pm.tk0 b),longerR,Pm.co_ofF]
  have ed : Pm.co ((midL n rule).drop 1) k = Pm.co (midL n rule) (k + 1) := by
    unfold Pm.co
    rw [List.getD_eq_getElem?_getD,List.getElem?_drop,Nat.add_comm,← List.getD_eq_getElem?_getD]
  by_cases c : k < rule.length + 1
  · rw [if_pos c,ed,midL_co c]
  · rw [if_neg c,ed,Pm.co_ge (by rw [midL_len]; omega)]
    exact Pm.tk0 b
theorem longerR_at {b n : Int} {r : Rw} (hl : r.rule.length = r.starts.length) (hs : ∀ x ∈ r.starts,IsNum b x) (hb : r.b = b) (m : Nat) : Rm.at_ b (longerR b n r.rule) (r.row (r.rule.length + 1)) m = r.at m := by
  have e0 : ∀ i,i < r.rule.length + 1 → (r.row (r.rule.length + 1)).getD i 0 = r.at i := fun i hi => Rm.row_get _ _ _ hi
  refine Rm.at_uniq (by rw [longerR_len,Rw.row_len]) (g := r.at) (fun i hi => ?_) (fun i hi => ?_) m
  · rw [Rw.row_len] at hi
    exact (e0 i hi).symm
  · rw [Rw.row_len] at hi
    have h1 : r.at i = Rm.tk b (Rm.S r.rule r.at i r.rule.length) := by rw [← hb]; exact Rm.at_ge hl (by omega)
    rw [longerR_len,h1,Pm.S_sm,Pm.S_sm]
    have e1 : Rm.tk b (Pm.sm (r.rule.length + 1) fun k => Pm.co (longerR b n r.rule) k * r.at (i - 1 - k)) = Rm.tk b (Pm.sm (r.rule.length + 1) fun k => (if k < r.rule.length then Pm.co r.rule k * r.at (i - 1 - k) else 0) + n * (if k = 0 then r.at (i - 1) else -(Pm.co r.rule (k - 1) * r.at (i - 1 - k)))) := Pm.tk_sm fun k hk => by
      rw [longerR,Pm.co_ofF,if_pos hk,Rm.tk_mul_l]
      refine congrArg (Rm.tk b) ?_
      by_cases c : k = 0
      · rw [if_pos c,if_pos c,c]
        by_cases d : 0 < r.rule.length
        · rw [if_pos d,if_pos d,Nat.sub_zero,Int.mul_one,show (0 - (0 - Pm.co r.rule 0 - n)) = Pm.co r.rule 0 + n by omega,Int.add_mul]
        · rw [if_neg d,if_neg d,Nat.sub_zero,Int.mul_one,show (0 - (0 - n)) = n by omega,Int.zero_add]
      · rw [if_neg c,if_neg c]
        by_cases d : k < r.rule.length
        · rw [if_pos d,if_pos d,Int.sub_mul,Int.sub_mul,Int.mul_assoc,Int.sub_mul,Int.sub_mul,Int.mul_sub,Int.mul_neg]
          omega
        · rw [if_neg d,if_neg d,Int.sub_mul,Int.sub_mul,Int.mul_assoc,Int.sub_mul,Int.mul_sub,Int.mul_neg]
          omega
    rw [e1,Pm.sm_add,Pm.sm_mul]
    have e2 : Pm.sm (r.rule.length + 1) (fun k => if k < r.rule.length then Pm.co r.rule k * r.at (i - 1 - k) else 0) = Pm.sm r.rule.length fun k => Pm.co r.rule k * r.at (i - 1 - k) := by
      rw [Pm.sm,if_neg (Nat.lt_irrefl _),Int.add_zero]
      exact Pm.sm_congr fun k hk => if_pos hk
    have e3 : Pm.sm (r.rule.length + 1) (fun k => if k = 0 then r.at (i - 1) else -(Pm.co r.rule (k - 1) * r.at (i - 1 - k))) = r.at (i - 1) + -1 * Pm.sm r.rule.length fun k => Pm.co r.rule k * r.at (i - 1 - 1 - k) := by
      rw [Pm.sm_head,if_pos rfl,← Pm.sm_mul]
      congr 1
      refine Pm.sm_congr fun k _ => ?_
      rw [if_neg (by omega),Nat.add_sub_cancel,show i - 1 - (k + 1) = i - 1 - 1 - k by omega]
      omega
    rw [e2,e3]
    have z : Rm.tk b (r.at (i - 1) + -1 * Pm.sm r.rule.length fun k => Pm.co r.rule k * r.at (i - 1 - 1 - k)) = 0 := by
      have h2 : r.at (i - 1) = Rm.tk b (Rm.S r.rule r.at (i - 1) r.rule.length) := by rw [← hb]; exact Rm.at_ge hl (by omega)
      rw [h2,Pm.S_sm,Rm.tk_add_l,show ∀ x : Int,x + -1 * x = 0 from fun x => by omega,Pm.tk0]
    rw [← Rm.tk_add_r,← Rm.tk_mul_r,z,Int.mul_zero,Pm.tk0,Int.add_zero]
noncomputable def zipF (F : Int → Int → Int) : V → V → V
  | .int u,.int v => .int (F u v)
  | _,_ => .non
theorem zipF_map (F : Int → Int → Int) : ∀ p q : List Int,List.zipWith (zipF F) (p.map V.int) (q.map V.int) = (List.zipWith F p q).map V.int
  | [],_ => by simp
  | _ :: _,[] => by simp
  | a :: p,b :: q => by
    rw [List.map_cons,List.map_cons,List.zipWith_cons_cons,zipF_map F p q]; rfl
theorem ofF_mapIdx (p : List Int) (F : Nat → Int → Int) : (p.map V.int).mapIdx (fun j x => match x with | .int n => V.int (F j n) | _ => V.non) = (Pm.ofF p.length fun j => F j (Pm.co p j)).map V.int := by
  refine List.ext_getElem? fun j => ?_
  rw [List.getElem?_mapIdx,List.getElem?_map,List.getElem?_map]
  by_cases hj : j < p.length
  · rw [List.getElem?_eq_getElem hj,Pm.ofF,List.getElem?_map,List.getElem?_range hj]
    show some (V.int (F j p[j])) = some (V.int (F j (p.getD j 0)))
    rw [List.getD_eq_getElem?_getD,List.getElem?_eq_getElem hj]; rfl
  · rw [List.getElem?_eq_none (by omega),List.getElem?_eq_none (by rw [Pm.ofF_len]; omega)]; rfl
inductive SpNum59_  (vs : List V) (H : Hp) (Q : VK) (E : XK) : Prop | mk (b c s : Int) (z_0 : vs = [.int b,.int c,.int s]) (z_1 : 0 < b) (z_2 : Q (.int (num15 b c s)) H)
noncomputable def spNum59 : Sp := fun vs H Q E => SpNum59_  vs H Q E
inductive SpGone_  (vs : List V) (H : Hp) (Q : VK) (E : XK) : Prop | mk (v : V) (r : Rw) (c : Int) (z_0 : vs = [v,.int c]) (z_1 : RowIs H v r) (z_2 : RwOk r) (z_3 : 0 < r.b) (z_4 : 0 ≤ c) (z_5 : c ≤ 4200) (z_6 : Told H Q ((r.row c.toNat).map V.int))
noncomputable def spGone : Sp := fun vs H Q E => SpGone_  vs H Q E
noncomputable def sortL : List Int := [0,0,0,1,0,2]
inductive SpRow20_  (K : PySem.W.Frag) (vs : List V) (H : Hp) (Q : VK) (E : XK) : Prop | mk (a : Addr) (ns : List Int) (st b : Int) (most : Nat) (z_0 : vs = [.ref a,.int st,.int b,.int most]) (z_1 : SqL K H a (ns.map V.int)) (z_2 : 0 ≤ st) (z_3 : ByQ b) (z_4 : most ≤ 12) (z_5 : ∀ v r H',Same H H' → RowIs H' v r → RwL b most r → Q v H')
noncomputable def spRow20  (K : PySem.W.Frag) : Sp := fun vs H Q E => SpRow20_ K vs H Q E
inductive SpLonger20_  (vs : List V) (H : Hp) (Q : VK) (E : XK) : Prop | mk (v : V) (r : Rw) (n : Int) (z_0 : vs = [v,.int n]) (z_1 : RowIs H v r) (z_2 : RwOk r) (z_3 : 0 < r.b) (z_4 : r.rule.length < 12) (z_5 : Rm.Bd 45 n) (z_6 : ∀ v' H',Same H H' → RowIs H' v' ⟨r.b,longerR r.b n r.rule,r.row (r.rule.length + 1)⟩ → Q v' H')
noncomputable def spLonger20 : Sp := fun vs H Q E => SpLonger20_  vs H Q E
theorem eqv_row (b b' : Int) (p s p' s' : List Int) : PyData.eqv (.tuple [.int b,.tuple (p.map .int),.tuple (s.map .int)]) (.tuple [.int b',.tuple (p'.map .int),.tuple (s'.map .int)]) = decide (b = b' ∧ p = p' ∧ s = s') := by
  have e1 := eqv_tup p p'
  have e2 := eqv_tup s s'
  rw [PyData.eqv] at e1 e2
  simp only [PyData.eqvAll,PyData.eqv,e1,e2,Bool.and_true,Bool.decide_and]
  rfl
theorem shaped_row (b : Int) (p r : List Int) : SeqAt.shaped (.tuple [.int b,.tuple (p.map .int),.tuple (r.map .int)]) = true := by
  have h1 := canLay_ints p
  have h2 := canLay_ints r
  have h3 := depth_ints p
  have h4 := depth_ints r
  simp only [SeqAt.shaped,PyData.canLay0,PyData.canLayAll0,PyData.depth,PyData.depthAll,h1,h2,Bool.true_and,Bool.and_true]
  exact decide_eq_true (by omega)
theorem eqRR {K : PySem.W.Frag} {g : Bool → Bool} {H : Hp} {v v' : V} {r r' : Rw} {Q : VK} (h : RowIs H v r) (h' : RowIs H v' r') (q : Q (.bl (g (decide (r.b = r'.b ∧ r.rule = r'.rule ∧ r.starts = r'.starts)))) H) : rEqV K g v v' H Q := by
  obtain ⟨a,x,y,rfl,ha,hx,hy⟩ := h
  obtain ⟨c,x',y',rfl,hc,hx',hy'⟩ := h'
  exact .inl ⟨_,_,.tup (SqT.of ha) (.cons (.int _) (.cons (.tup (SqT.of hx) (RdDs.ints _)) (.cons (.tup (SqT.of hy) (RdDs.ints _)) .nil))),.tup (SqT.of hc) (.cons (.int _) (.cons (.tup (SqT.of hx') (RdDs.ints _)) (.cons (.tup (SqT.of hy') (RdDs.ints _)) .nil))),
    shaped_row ..,shaped_row ..,by rw [eqv_row]; exact q⟩
theorem LeastOf.go_on {b : Int} {f : Nat → Int} {L : List Int} (h : LeastOf b f L) (hf : ∀ i,Rm.tk b (f i) = f i) {i j : Nat} (z : Pm.win f (L.length - 1) i = Pm.win f (L.length - 1) j) (k : Nat) : f (i + k) = f (j + k) := by
  have := congrArg (fun l : List Int => l.getD k 0) ((win_iff h hf (n := L.length - 1 + (k + 1)) (by omega) i j).mpr z)
  rwa [Pm.win_get _ (by omega),Pm.win_get _ (by omega)] at this
theorem LeastOf.per {b : Int} {f : Nat → Int} {L : List Int} (h : LeastOf b f L) (hf : ∀ i,Rm.tk b (f i) = f i) {bg ln : Nat} (hr : Pm.Rnd f (L.length - 1) bg ln) (n : Nat) (hn : bg ≤ n) : f (n + ln) = f n := by
  have := h.go_on hf hr.again (n - bg)
  rwa [show bg + ln + (n - bg) = n + ln by omega,show bg + (n - bg) = n by omega] at this
noncomputable def backN (n bg ln : Nat) : Nat := if n < bg then n else bg + (n - bg) % ln
theorem per_many {f : Nat → Int} {bg ln : Nat} (hp : ∀ n,bg ≤ n → f (n + ln) = f n) (n : Nat) (hn : bg ≤ n) : ∀ q,f (n + ln * q) = f n
  | 0 => rfl
  | q + 1 => by rw [Nat.mul_succ,← Nat.add_assoc,hp _ (by omega),per_many hp n hn q]
theorem back_add {f : Nat → Int} {bg ln : Nat} (hp : ∀ n,bg ≤ n → f (n + ln) = f n) (n t : Nat) : f (backN n bg ln + t) = f (n + t) := by
  unfold backN
  split
  · rfl
  · have e := Nat.mod_add_div (n - bg) ln
    have := per_many hp (bg + (n - bg) % ln + t) (by omega) ((n - bg) / ln)
    rw [← this]
    congr 1
    omega
theorem back_at {f : Nat → Int} {bg ln : Nat} (hp : ∀ n,bg ≤ n → f (n + ln) = f n) (n : Nat) : f (backN n bg ln) = f n := back_add hp n 0
theorem back_lt {n bg ln : Nat} (h : 0 < ln) : backN n bg ln < bg + ln := by
  unfold backN
  have := Nat.mod_lt (n - bg) h
  split <;> omega
theorem rnd_wide {b : Int} {f : Nat → Int} {L : List Int} (h : LeastOf b f L) (hf : ∀ i,Rm.tk b (f i) = f i) {n : Nat} (hn : L.length - 1 ≤ n) {bg ln : Nat} (hr : Pm.Rnd f (L.length - 1) bg ln) : Pm.Rnd f n bg ln :=
  ⟨hr.pos,(win_iff h hf hn _ _).mpr hr.again,fun i j hij hj z => hr.first i j hij hj ((win_iff h hf hn _ _).mp z)⟩
theorem win_shift (f : Nat → Int) (N n i : Nat) : Pm.win (fun m => f (m + n)) N i = Pm.win f N (i + n) := List.map_congr_left fun j _ => by
  show f (i + j + n) = f (i + n + j)
  congr 1; omega
theorem rnd_later {f : Nat → Int} {N bg ln : Nat} (hr : Pm.Rnd f N bg ln) (hp : ∀ n,bg ≤ n → f (n + ln) = f n) (n : Nat) : Pm.Rnd (fun m => f (m + n)) N (bg - n) ln := by
  refine ⟨hr.pos,?_,fun i j hij hj z => ?_⟩
  · rw [win_shift,win_shift]
    by_cases c : n ≤ bg
    · rw [show bg - n + ln + n = bg + ln by omega,show bg - n + n = bg by omega]; exact hr.again
    · refine List.map_congr_left fun j _ => ?_
      rw [show bg - n + ln + n + j = bg - n + n + j + ln by omega]
      exact hp _ (by omega)
  · rw [win_shift,win_shift] at z
    by_cases c : n ≤ bg
    · exact hr.first (i + n) (j + n) (by omega) (by omega) z
    · have w : ∀ m,Pm.win f N m = Pm.win f N (backN m bg ln) := fun m => List.map_congr_left fun t _ => (back_add hp m t).symm
      rw [w (i + n),w (j + n)] at z
      have li := back_lt (n := i + n) (bg := bg) hr.pos
      have lj := back_lt (n := j + n) (bg := bg) hr.pos
      have ne : backN (i + n) bg ln ≠ backN (j + n) bg ln := by
        unfold backN
        rw [if_neg (by omega),if_neg (by omega)]
        intro e
        have e1 : (j + n - bg) % ln = (i + n - bg) % ln := by omega
        have e2 := Nat.sub_mod_eq_zero_of_mod_eq e1
        rw [show j + n - bg - (i + n - bg) = j - i by omega,Nat.mod_eq_of_lt (by omega)] at e2
        omega
      rcases Nat.lt_or_gt_of_ne ne with d | d
      · exact hr.first _ _ d lj z
      · exact hr.first _ _ d li z.symm
theorem whr_add (p : Nat → Bool) (m n : Nat) : whr p 0 (m + n) = whr p 0 m ++ whr p m n := by
  unfold whr
  rw [← List.map_append,← List.filter_append]
  congr 2
  rw [List.range_add,List.map_append,List.map_map]
  congr 1
  · refine List.map_congr_left fun a _ => ?_
    show 0 + (m + a) = m + a
    omega
theorem whr_mem {p : Nat → Bool} {lo n : Nat} {x : Int} (h : x ∈ whr p lo n) : (lo : Int) ≤ x ∧ x < (lo : Int) + (n : Int) := by
  obtain ⟨k,hk,rfl⟩ := List.mem_map.mp h
  obtain ⟨hk,_⟩ := List.mem_filter.mp hk
  obtain ⟨j,hj,rfl⟩ := List.mem_map.mp hk
  have := List.mem_range.mp hj
  show (lo : Int) ≤ ((lo + j : Nat) : Int) ∧ _
  omega
theorem whr_early (p : Nat → Bool) (m n : Nat) : (whr p 0 (m + n)).filter (fun x => decide (x < (m : Int))) = whr p 0 m := by
  rw [whr_add,List.filter_append,List.filter_eq_self.mpr,List.filter_eq_nil_iff.mpr,List.append_nil]
  · intro x hx
    have := whr_mem hx
    simp; omega
  · intro x hx
    have := whr_mem hx
    simp; omega
theorem whr_later (p : Nat → Bool) (m n : Nat) : (whr p 0 (m + n)).filter (fun x => decide (x ≥ (m : Int))) = whr p m n := by
  rw [whr_add,List.filter_append,List.filter_eq_nil_iff.mpr,List.filter_eq_self.mpr,List.nil_append]
  · intro x hx
    have := whr_mem hx
    simp; omega
  · intro x hx
    have := whr_mem hx
    simp; omega
noncomputable def seenN (f : Nat → Int) (i : Nat) : Nat → Nat
  | 0 => 0
  | M + 1 => seenN f i M + if f M < (i : Int) then 1 else 0
theorem whr_succ (p : Nat → Bool) (M : Nat) : (whr p 0 (M + 1)).length = (whr p 0 M).length + if p M = true then 1 else 0 := by
  rw [whr_add,List.length_append]
  congr 1
  unfold whr
  rw [List.length_map,show List.range 1 = [0] from rfl,List.map_singleton,Nat.add_zero,List.filter_cons,List.filter_nil]
  split <;> rfl
theorem seen_step (f : Nat → Int) (i : Nat) : ∀ M,seenN f i M + (whr (atIs f (i : Int)) 0 M).length = seenN f (i + 1) M
  | 0 => rfl
  | M + 1 => by
    have ih := seen_step f i M
    rw [seenN,seenN,whr_succ,← ih]
    have e : (atIs f (i : Int) M = true) ↔ f M = (i : Int) := by unfold atIs; simp
    by_cases c : f M = (i : Int)
    · rw [if_pos (e.mpr c),if_neg (by omega),if_pos (by omega)]; omega
    · rw [if_neg (fun z => c (e.mp z))]
      by_cases d : f M < (i : Int)
      · rw [if_pos d,if_pos (by omega)]; omega
      · rw [if_neg d,if_neg (by omega)]; omega
theorem seen_none {f : Nat → Int} (h : ∀ n,0 ≤ f n) : ∀ M,seenN f 0 M = 0
  | 0 => rfl
  | M + 1 => by rw [seenN,seen_none h M,if_neg (by have := h M; omega)]
theorem seen_all {f : Nat → Int} {i : Nat} (h : ∀ n,f n < (i : Int)) : ∀ M,seenN f i M = M
  | 0 => rfl
  | M + 1 => by rw [seenN,seen_all h M,if_pos (h M)]
theorem comp_lstF {K : PySem.W.Frag} {a : Addr} {xs : List Int} {ix : List (Option Nat)} {tc : TT} {te : TE} {σ : St} {H1 : Hp} {Q : VK} (hA : H1 a = some (.lst (xs.map V.int))) (hz : xs.length ≤ sizeLine) {rest : St} (hst : cst ix σ = none :: rest) (p : Int → Bool)
    (ht : ∀ H' x,Same H1 H' → x ∈ xs → ∀ k : Bool → Hp → Prop,k (p x) H' → tc (some (.int x) :: rest) H' k)
    (he : ∀ H' x,Same H1 H' → x ∈ xs → ∀ kk : VK,kk (.int x) H' → te (some (.int x) :: rest) H' kk)
    (hQ : ∀ D,H1 D = none → Q (.ref D) (upd H1 D (.lst ((xs.filter p).map V.int)))) : CompK ix (gName 0) tc te σ Q (Itl K a) H1 := by
  refine comp_pure (its_list (SqL.of hA)) (by rw [List.length_map]; exact hz) hst (fun x => match x with | .int k => p k | _ => false) (fun x => x) ?_ ?_ ?_
  · intro H2 x g2 hx k hk
    obtain ⟨y,hy,rfl⟩ := List.mem_map.mp hx
    exact ht H2 y g2 hy k hk
  · intro H2 x g2 hx _ k hk
    obtain ⟨y,hy,rfl⟩ := List.mem_map.mp hx
    exact he H2 y g2 hy k hk
  · intro D hD
    have el : (((xs.map V.int).filter fun x => match x with | .int k => p k | _ => false).map fun x => x) = (xs.filter p).map V.int := by
      rw [List.map_id',List.filter_map]; rfl
    rw [el]
    exact hQ D hD
theorem RwOk.longerQ {r : Rw} (ok : RwOk r) (hB : ByQ r.b) (hs : r.rule.length < 12) (n : Int) : RwOk ⟨r.b,longerR r.b n r.rule,r.row (r.rule.length + 1)⟩ := by
  have hr : 0 < r.b ∧ r.b < 1000 := by obtain ⟨P0,hP0,e⟩ := hB; have := primesN_range P0 hP0; omega
  have hb : ∀ x : Int,0 ≤ x ∧ x < r.b → Rm.Bd 2000 x := fun x hx => (Rm.Bd.of (n := 10) (by omega) (by omega)).mono (by decide)
  have h1 : ∀ x ∈ longerR r.b n r.rule,0 ≤ x ∧ x < r.b := fun x hx => by
    obtain ⟨k,_,rfl⟩ := Pm.mem_ofF hx
    exact Pm.tk_range hr.1
  have h2 : ∀ x ∈ r.row (r.rule.length + 1),0 ≤ x ∧ x < r.b := fun x hx => by
    have e : r.row (r.rule.length + 1) = (List.range (r.rule.length + 1)).map r.at := Rm.row_eq ..
    rw [e] at hx
    obtain ⟨i,_,rfl⟩ := List.mem_map.mp hx
    rcases ok.at_num i with z | z
    · omega
    · exact z
  exact ⟨by show (longerR r.b n r.rule).length = (r.row _).length; rw [longerR_len,Rw.row_len],by show (longerR r.b n r.rule).length ≤ 12; rw [longerR_len]; omega,ok.by0,ok.by1,fun x hx => .inr (h1 x hx),fun x hx => .inr (h2 x hx),fun x hx => hb x (h1 x hx),fun x hx => hb x (h2 x hx)⟩
theorem onR_at {r : Rw} (ok : RwOk r) (n m : Nat) : (onR r n).at m = r.at (m + n) := by
  refine Rm.at_uniq (b := r.b) (rule := r.rule) (starts := Pm.ofF r.rule.length fun m => r.at (m + n)) (by rw [Pm.ofF_len]) (g := fun m => r.at (m + n)) (fun i hi => ?_) (fun i hi => ?_) m
  · rw [Pm.ofF_len] at hi
    have := Pm.co_ofF r.rule.length (fun m => r.at (m + n)) i
    rw [if_pos hi] at this
    exact this.symm
  · rw [Pm.ofF_len] at hi
    have e : r.at (i + n) = Rm.tk r.b (Rm.S r.rule r.at (i + n) r.rule.length) := Rm.at_ge ok.len (by have := ok.len; omega)
    show r.at (i + n) = _
    rw [e,Pm.S_sm,Pm.S_sm]
    refine congrArg (Rm.tk r.b) (Pm.sm_congr fun k hk => ?_)
    rw [show i + n - 1 - k = i - 1 - k + n by omega]
theorem onR_ok {r : Rw} (ok : RwOk r) (hB : ByQ r.b) (n : Nat) : RwOk (onR r n) := by
  have hr : 0 < r.b ∧ r.b < 1000 := by obtain ⟨P0,hP0,e⟩ := hB; have := primesN_range P0 hP0; omega
  have h2 : ∀ x ∈ (onR r n).starts,0 ≤ x ∧ x < r.b := fun x hx => by
    obtain ⟨i,_,rfl⟩ := Pm.mem_ofF hx
    rcases ok.at_num (i + n) with z | z
    · omega
    · exact z
  exact ⟨by show r.rule.length = (Pm.ofF _ _).length; rw [Pm.ofF_len],ok.short,ok.by0,ok.by1,ok.ruleNum,fun x hx => .inr (h2 x hx),ok.ruleBd,fun x hx => (Rm.Bd.of (n := 10) (by have := h2 x hx; omega) (by have := h2 x hx; omega)).mono (by decide)⟩
theorem LeastOf.short {r : Rw} (hB : ByQ r.b) {f : Nat → Int} {L : List Int} (h : LeastOf r.b f L) (ok : RwOk r) (e : ∀ n,r.at n = f n) : L.length ≤ r.rule.length + 1 := by
  have : r.at = f := funext e
  have hk := ok.kp
  rw [this] at hk
  have := (h.all _ hk).len hB.one h.mon (Pm.ofRule_mon _ _)
  rwa [Pm.ofRule_len] at this
inductive SpBack_  (vs : List V) (H : Hp) (Q : VK) (E : XK) : Prop | mk (n bg ln : Nat) (z_0 : vs = [.int n,.int bg,.int ln]) (z_1 : 0 < ln) (z_2 : Q (.int (backN n bg ln)) H)
noncomputable def spBack : Sp := fun vs H Q E => SpBack_  vs H Q E
structure Known (r : Rw) (L : List Int) (bg ln : Nat) : Prop where
  ok : RwOk r
  by_ : ByQ r.b
  small : r.b ≤ 13
  least : LeastOf r.b r.at L
  len : L.length ≤ r.rule.length + 1
  pow : r.b.toNat ^ (L.length - 1) ≤ 4096
  rnd : Pm.Rnd r.at (L.length - 1) bg ln
theorem Known.pos {r : Rw} {L : List Int} {bg ln : Nat} (h : Known r L bg ln) : 0 < r.b := by
  obtain ⟨P0,hP0,e⟩ := h.by_; have := primesN_range P0 hP0; omega
theorem Known.rng {r : Rw} {L : List Int} {bg ln : Nat} (h : Known r L bg ln) (i : Nat) : 0 ≤ r.at i ∧ r.at i < ((r.b.toNat : Nat) : Int) := by
  have := h.pos
  rw [Int.toNat_of_nonneg (by omega)]
  rcases h.ok.at_num i with z | z
  · omega
  · exact z
theorem Known.most {r : Rw} {L : List Int} {bg ln : Nat} (h : Known r L bg ln) : bg + ln ≤ 4096 := Nat.le_trans (Pm.win_most h.rng h.rnd.first) h.pow
theorem Known.per {r : Rw} {L : List Int} {bg ln : Nat} (h : Known r L bg ln) (n : Nat) (hn : bg ≤ n) : r.at (n + ln) = r.at n := h.least.per h.ok.at_tk h.rnd n hn
theorem Known.later {r : Rw} {L : List Int} {bg ln : Nat} (k : Known r L bg ln) (n : Nat) {L' : List Int} (h' : LeastOf r.b (onR r n).at L') : L'.length ≤ L.length ∧ ∀ bg' ln',Pm.Rnd (onR r n).at (L'.length - 1) bg' ln' → bg' = bg - n ∧ ln' = ln := by
  have e : (onR r n).at = fun m => r.at (m + n) := funext (onR_at k.ok n)
  have hk : Pm.Kp r.b L (onR r n).at := by
    rw [e]
    intro m
    have := k.least.kp (m + n)
    unfold Pm.ks at this ⊢
    rw [← this]
    refine congrArg (Rm.tk r.b) (Pm.sm_congr fun t _ => ?_)
    show _ * r.at (m + t + n) = _
    rw [show m + t + n = m + n + t by omega]
  have l1 := (h'.all _ hk).len k.by_.one h'.mon k.least.mon
  refine ⟨l1,fun bg' ln' hr' => ?_⟩
  have w1 := rnd_wide h' (fun i => by rw [onR_at k.ok]; exact k.ok.at_tk _) (n := L.length - 1) (by omega) hr'
  have w2 := rnd_later k.rnd k.per n
  rw [e] at w1
  exact w1.uniq w2
theorem Known.shorter {r : Rw} {L : List Int} {bg ln : Nat} (k : Known r L bg ln) {L2 : List Int} (h2 : LeastOf r.b r.at L2) (l2 : L2.length ≤ r.rule.length + 1) {L3 : List Int} (h3 : LeastOf r.b (shortR r L2).at L3) : L3 = L ∧ ∀ bg' ln',Pm.Rnd (shortR r L2).at (L3.length - 1) bg' ln' → bg' = bg ∧ ln' = ln := by
  have e : (shortR r L2).at = r.at := funext fun n => shortR_at k.ok.at_tk h2 (by have := k.ok.len; omega) n
  rw [e] at h3
  have e3 := h3.uniq k.by_.one k.least
  refine ⟨e3,fun bg' ln' hr' => ?_⟩
  rw [e,e3] at hr'
  exact hr'.uniq k.rnd
theorem far_bd59 {n : Nat} (h : (n : Int) < 10 ^ 60) : Rm.Bd 400 (n : Int) := (Rm.Bd.of (n := 200) (by omega) (by omega)).mono (by decide)
inductive SpNumR_  (vs : List V) (H : Hp) (Q : VK) (E : XK) : Prop | mk (v : V) (r : Rw) (L : List Int) (bg ln : Nat) (sl : Addr) (z_0 : vs = [v,.ref sl,.int bg,.int ln]) (z_1 : RowIs H v r) (z_2 : Known r L bg ln) (z_3 : H sl = some (.lst ((r.row (bg + ln + 12)).map V.int))) (z_4 : ∀ H',Same H H' → Q (.bl true) H')
noncomputable def spNumR : Sp := fun vs H Q E => SpNumR_  vs H Q E
noncomputable def prL : List Int := [2,3,5,7,13]
noncomputable def moL : List Int := [6,6,5,4,3]
theorem prL_ok : ∀ k < 5,∃ (P m : Nat),P ∈ Om.primesN ∧ m ≤ 6 ∧ P ≤ 13 ∧ P ^ m ≤ 4096 ∧ prL.getD k 0 = (P : Int) ∧ moL.getD k 0 = (m : Int) := fun k hk => by
  match k,hk with
  | 0,_ => exact ⟨2,6,by decide +kernel,by decide,by decide,by decide,rfl,rfl⟩
  | 1,_ => exact ⟨3,6,by decide +kernel,by decide,by decide,by decide,rfl,rfl⟩
  | 2,_ => exact ⟨5,5,by decide +kernel,by decide,by decide,by decide,rfl,rfl⟩
  | 3,_ => exact ⟨7,4,by decide +kernel,by decide,by decide,by decide,rfl,rfl⟩
  | 4,_ => exact ⟨13,3,by decide +kernel,by decide,by decide,by decide,rfl,rfl⟩
section
variable {P : Program} {w : World} {K : PySem.W.Frag} {mg : Str → Option Value} {base : Heap}
variable {A_NoBy A_TooLong : Addr}
theorem ok_taken (B : Bt mg) (F : Fn K mg "taken" s_taken ["by","number"]) (M : Ms K mg base A_NoBy A_TooLong) : Cal P w K mg base "taken" 1 ["by","number"] spTaken := by
  refine F.cal sc_taken (fun vs H Q E h => ?_) (fun f cdv A outer s H vs Q E hr h => ?_)
  · obtain ⟨b,n,rfl,_⟩ := h; rfl
  · obtain ⟨b,n,rfl,h0,q⟩ := h
    refine ⟨_,(pss_cons (ps_if (pt_cmpR (xeq K hr) (pv 0) pe_int (nomark _))
      (pss_one (ps_ret (pv 1)))
      pss_nil)
      (pss_one (ps_ret (pe_op op_mod (pv 1) (pv 0))))),?_⟩
    refine ⟨_,rfl,_,rfl,?_⟩
    refine ite2 (fun c => ?_) (fun c => ?_)
    · refine ⟨_,rfl,?_⟩
      have c' : b = 0 := dec_true c
      have e : Rm.tk b n = n := by rw [c',Rm.tk_zero]
      rw [e] at q; exact q
    · have c' : ¬ b = 0 := dec_false c
      refine ⟨_,rfl,_,rfl,_,_,rfl,rfl,(by omega : (0 : Int) < b),?_⟩
      rw [Rm.tk_pos c'] at q; exact q
theorem ok_next_place (B : Bt mg) (F : Fn K mg "next_place" s_next_place ["by","rule","before"]) (M : Ms K mg base A_NoBy A_TooLong) (C_taken : Cal P w K mg base "taken" 1 ["by","number"] spTaken) : Cal P w K mg base "next_place" 2 ["by","rule","before"] (spNext K) := by
  refine F.cal sc_next_place (fun vs H Q E h => ?_) (fun f cdv A outer s H vs Q E hr h => ?_)
  · obtain ⟨b,r,s,rule,before,rfl,_⟩ := h; rfl
  · obtain ⟨b,r,s',rule,before,rfl,hb,hR,hS,hl,hl2,hl3,bR,bS,q⟩ := h
    refine ⟨_,(pss_cons (ps_set (i := 3) sc_next_place.nd rfl (Or.inl rfl) pe_int)
      (pss_cons (ps_for PassesOwn.never rfl (pi_range1 rfl B.b_range (pa_cons (pe_callB (xlen K) rfl B.b_len boot_len (pa_n (pv 1) pa_nil)) pa_nil)) (pg_name (i := 4) sc_next_place.nd rfl (Or.inl rfl))
      (pss_one (ps_set (i := 3) sc_next_place.nd rfl (Or.inl rfl) (pe_op (xadd K) (pv 3) (pe_op v_mul (pe_ix (xix K) (pv 1) (pv 4) (fun _ _ => rfl)) (pe_ix (xix K) (pv 2) (pe_op op_sub (pe_op op_sub (pe_callB (xlen K) rfl B.b_len boot_len (pa_n (pv 2) pa_nil)) pe_int) (pv 4)) (fun _ _ => rfl)))))))
      (pss_one (ps_ret (pe_callC C_taken hr rfl (pa_n (pv 0) (pa_n (pv 3) pa_nil))))))),?_⟩
    have lR : (rule.map V.int).length = rule.length := List.length_map _
    have lS : (before.map V.int).length = before.length := List.length_map _
    have hLen : LenV K (.ref s') H before.length := hS.elim (fun h => .inl ⟨_,h,lS.symm⟩) (fun h => .inr ⟨_,h,lS.symm⟩)
    refine ⟨_,rfl,.ref r,rule.length,rfl,.inr ⟨_,hR,lR.symm⟩,?_⟩
    refine ⟨(rule.length : Int),rfl,(by omega : -(2 ^ 62) ≤ (rule.length : Int)),(by omega : (rule.length : Int) < 2 ^ 62),?_⟩
    refine for_range (lo := 0) (n := (rule.length : Int).toNat) (fun i σ' H' => ∃ o,σ' = [some (.int b),some (.ref r),some (.ref s'),some (.int (Rm.S rule (fun i => before.getD i 0) before.length i)),o] ∧ H' = H) ⟨none,rfl,rfl⟩ ?_ ?_
    · rintro i σ' H' hi ⟨o,rfl,rfl⟩
      have hi' : i < rule.length := by omega
      have e0 : (0 : Int) + (i : Int) = (i : Int) := by omega
      have e1 : (before.length : Int) - 1 - (0 + (i : Int)) = ((before.length - 1 - i : Nat) : Int) := by omega
      refine ⟨_,rfl,?_⟩
      refine ⟨_,rfl,_,rfl,_,_,.inr hR,atI_ints (ns := rule) (by omega : (0 : Int) ≤ 0 + (i : Int)) (by omega),?_⟩
      refine ⟨_,rfl,_,rfl,.ref s',before.length,rfl,hLen,_,_,rfl,rfl,_,rfl,_,_,rfl,rfl,?_⟩
      refine ⟨_,_,hS,atI_ints (ns := before) (by omega : (0 : Int) ≤ (before.length : Int) - 1 - (0 + (i : Int))) (by omega),?_⟩
      refine ⟨mulBd (Rm.Bd.getD bR _) (Rm.Bd.getD bS _) (by decide),?_⟩
      refine ⟨some (.int (0 + (i : Int))),?_,rfl⟩
      rw [e1,e0,Int.toNat_natCast,Int.toNat_natCast]
      rfl
    · rintro σ' H' ⟨o,rfl,rfl⟩
      refine ⟨_,rfl,_,rfl,b,_,rfl,hb,?_⟩
      rw [show (rule.length : Int).toNat = rule.length from Int.toNat_natCast _]
      exact q
theorem ok_first_places (B : Bt mg) (F : Fn K mg "first_places" s_first_places ["row","count"]) (M : Ms K mg base A_NoBy A_TooLong) (C_next_place : Cal P w K mg base "next_place" 2 ["by","rule","before"] (spNext K)) : Cal P w K mg base "first_places" 3 ["row","count"] (spFirst K) := by
  refine F.cal sc_first_places (fun vs H Q E h => ?_) (fun f cdv A outer s H vs Q E hr h => ?_)
  · obtain ⟨v,r,c,rfl,_⟩ := h; rfl
  · obtain ⟨v,r,c,rfl,⟨a,p,p2,rfl,hA,hR,hS⟩,ok,hbp,hc0,hc1,q⟩ := h
    refine ⟨_,(pss_cons (ps_set (i := 2) sc_first_places.nd rfl (Or.inl rfl) (pe_ix (xix K) (pv 0) pe_int (fun _ _ => rfl)))
      (pss_cons (ps_set (i := 3) sc_first_places.nd rfl (Or.inl rfl) (pe_ix (xix K) (pv 0) pe_int (fun _ _ => rfl)))
      (pss_cons (ps_set (i := 4) sc_first_places.nd rfl (Or.inl rfl) (pe_ix (xix K) (pv 0) pe_int (fun _ _ => rfl)))
      (pss_cons (ps_set (i := 5) sc_first_places.nd rfl (Or.inl rfl) (pe_bar (pe_callTy (xlist K) rfl B.b_list boot_list (pa_cons (pe_slice (xsl K) (pv 4) po_none (po_some (pv 1))) pa_nil))))
      (pss_cons (ps_while PassesOwn.never (pt_cmpR op_lt (pe_callB (xlen K) rfl B.b_len boot_len (pa_n (pv 5) pa_nil)) (pv 1) (nomark _))
      (pss_one (ps_expr (xappend K (pv 5) (pe_callC C_next_place hr rfl (pa_n (pv 2) (pa_n (pv 3) (pa_n (pv 5) pa_nil))))))))
      (pss_one (ps_ret (pv 5)))))))),?_⟩
    have hl := ok.len
    have hl2 := ok.short
    have lS : (r.starts.map V.int).length = r.starts.length := List.length_map _
    refine ⟨_,rfl,_,_,.inr (SqT.of hA),rfl,?_⟩
    refine ⟨_,rfl,_,_,.inr (SqT.of hA),rfl,?_⟩
    refine ⟨_,rfl,_,_,.inr (SqT.of hA),rfl,?_⟩
    have hcut : cutV (r.starts.map V.int) none (some c) = (r.row (min c.toNat r.starts.length)).map V.int := by
      have e : r.row (min c.toNat r.starts.length) = r.starts.take (min c.toNat r.starts.length) := Rm.row_starts (Nat.min_le_right _ _)
      rw [e]
      have e2 : c = ((c.toNat : Nat) : Int) := by omega
      unfold cutV
      rw [e2,HT.sIx_nat,HT.sIx_none,List.drop_zero,Nat.sub_zero,lS,List.map_take,Int.toNat_natCast]
    refine Bar.by (fun v H1 => ∃ l,v = .ref l ∧ Same H H1 ∧ H l = none ∧ H1 l = some (.lst ((r.row (min c.toNat r.starts.length)).map V.int))) (fun kk hkk => ?_) ?_
    · refine ⟨_,rfl,_,rfl,_,rfl,?_⟩
      by_cases hw : r.starts.length ≤ c.toNat
      · -- the whole of it
        refine .inr (.inr ⟨_,SqT.of hS,?_,?_⟩)
        · have e2 : c = ((c.toNat : Nat) : Int) := by omega
          rw [e2,HT.sIx_nat,HT.sIx_none,lS]; omega
        · refine ⟨p2,_,rfl,.inr (SqT.of hS),fun l hl1 => hkk _ _ ⟨l,rfl,Same.new hl1 _,hl1,?_⟩⟩
          rw [upd_same,Nat.min_eq_right hw]
          have e : r.row r.starts.length = r.starts := (Rm.row_starts (Nat.le_refl _)).trans (List.take_length ..)
          rw [e]
      · refine .inr (.inl ⟨_,SqT.of hS,?_,fun p3 hp3 => ?_⟩)
        · have e2 : c = ((c.toNat : Nat) : Int) := by omega
          rw [e2,HT.sIx_nat,HT.sIx_none,lS]; omega
        · refine ⟨p3,_,rfl,.inr (SqT.of upd_same),fun l hl1 => ?_⟩
          have g3 := Same.new hp3 (.tup (cutV (r.starts.map V.int) none (some c)))
          refine hkk _ _ ⟨l,rfl,g3.trans (Same.new hl1 _),g3.free hl1,?_⟩
          rw [upd_same,hcut]
    rintro v H1 ⟨l,rfl,g1,hl1,hr1⟩
    refine ⟨fun m σ' H' => ∃ n : Nat,m = c.toNat - n ∧ min c.toNat r.starts.length ≤ n ∧ n ≤ c.toNat ∧ σ' = [some (.ref a),some (.int c),some (.int r.b),some (.ref p),some (.ref p2),some (.ref l)] ∧ Same H H' ∧ H' l = some (.lst ((r.row n).map V.int)),
      ⟨_,min c.toNat r.starts.length,rfl,Nat.le_refl _,Nat.min_le_left _ _,rfl,g1,hr1⟩,?_⟩
    rintro m σ' H' ⟨n,rfl,h1,h2,rfl,g,hL⟩
    have lL : ((r.row n).map V.int).length = n := by rw [List.length_map,Rw.row_len]
    refine ⟨_,rfl,.ref l,n,rfl,.inl ⟨_,SqL.of hL,lL.symm⟩,_,rfl,_,_,rfl,rfl,_,rfl,?_⟩
    refine ite2 (fun cc => ?_) (fun cc => ?_)
    · have hn : n < c.toNat := by have := dec_true cc; omega
      refine ⟨_,fun _ _ z => z,?_⟩
      refine ⟨_,rfl,.inl ⟨rfl,_,SqL.of hL⟩,_,rfl,_,rfl,_,rfl,r.b,p,l,r.rule,r.row n,rfl,ok.by0,SqT.of (g _ _ hR),(.inl (SqL.of hL)),?_,hl2,?_,ok.ruleBd,ok.rowBdW hbp n,?_⟩
      · rw [Rw.row_len]; omega
      · rw [Rw.row_len]; omega
      · refine ⟨l,_,_,rfl,rfl,hL,?_,?_⟩
        · rw [lL]; exact Nat.lt_of_lt_of_le (show n < 4097 by omega) (by decide)
        · refine ⟨c.toNat - (n + 1),by omega,n + 1,rfl,by omega,by omega,rfl,g.upd hl1 _,?_⟩
          rw [upd_same,Rw.row_len]
          have e : r.row (n + 1) = r.row n ++ [Rm.tk r.b (Rm.S r.rule (fun i => (r.row n).getD i 0) n r.rule.length)] := by
            show _ ++ [if n < r.starts.length then r.starts.getD n 0 else _] = _
            rw [if_neg (by omega)]; rfl
          rw [e,List.map_append]; rfl
    · have hn : n = c.toNat := by have := dec_false cc; omega
      subst hn
      refine ⟨_,rfl,?_⟩
      exact q l H' g hl1 hL
theorem ok_inverse (B : Bt mg) (F : Fn K mg "inverse" s_inverse ["prime","number"]) (M : Ms K mg base A_NoBy A_TooLong) (C_taken : Cal P w K mg base "taken" 1 ["by","number"] spTaken) : Cal P w K mg base "inverse" 2 ["prime","number"] spInverseQ := by
  refine F.cal sc_inverse (fun vs H Q E h => ?_) (fun f cdv A outer s H vs Q E hr h => ?_)
  · obtain ⟨P,a,rfl,_⟩ := h; rfl
  · obtain ⟨P',a,rfl,hP,hPb,h0,h1,q⟩ := h
    have hr2 : 2 ≤ P' ∧ P' < 2097152 := ⟨hP.1,hPb⟩
    refine ⟨_,(pss_cons (ps_set (i := 2) sc_inverse.nd rfl (Or.inl rfl) pe_int)
      (pss_cons (ps_set (i := 3) sc_inverse.nd rfl (Or.inl rfl) (pv 1))
      (pss_cons (ps_set (i := 4) sc_inverse.nd rfl (Or.inl rfl) (pe_op op_sub (pv 0) pe_int))
      (pss_cons (ps_while PassesOwn.never (pt_cmpR op_gt (pv 4) pe_int (nomark _))
      (pss_cons (ps_bar (ps_if (pt_cmpR (xeq K hr) (pe_op op_mod (pv 4) pe_int) pe_int (nomark _))
      (pss_one (ps_set (i := 2) sc_inverse.nd rfl (Or.inl rfl) (pe_callC C_taken hr rfl (pa_n (pv 0) (pa_b (pe_op v_mul (pv 2) (pv 3)) pa_nil)))))
      pss_nil))
      (pss_cons (ps_set (i := 3) sc_inverse.nd rfl (Or.inl rfl) (pe_callC C_taken hr rfl (pa_n (pv 0) (pa_b (pe_op v_mul (pv 3) (pv 3)) pa_nil))))
      (pss_one (ps_set (i := 4) sc_inverse.nd rfl (Or.inl rfl) (pe_op op_fdiv (pv 4) pe_int))))))
      (pss_one (ps_ret (pv 2))))))),?_⟩
    refine ⟨_,rfl,?_⟩
    refine ⟨_,rfl,_,_,rfl,rfl,?_⟩
    have e0 : ((P' : Int) - 2).toNat = P' - 2 := by omega
    refine ⟨fun m σ' H' => ∃ power square left : Int,σ' = [some (.int P'),some (.int a),some (.int power),some (.int square),some (.int left)] ∧ H' = H ∧ m = left.toNat ∧ 0 ≤ power ∧ power < 2097152 ∧ 0 ≤ square ∧ square < 2097152 ∧ 0 ≤ left ∧ Om.Keeps P' a (P' - 2) power square left.toNat,
      ⟨_,1,a,(P' : Int) - 2,rfl,rfl,rfl,by decide,by decide,by omega,by omega,by omega,by rw [e0]; exact Om.keeps_start _ _ _⟩,?_⟩
    rintro m σ' H' ⟨power,square,left,rfl,rfl,rfl,p0,p1,s0,s1,l0,hk⟩
    refine ⟨_,rfl,_,_,rfl,rfl,_,rfl,?_⟩
    refine ite2 (fun c => ?_) (fun c => ?_)
    · have c' : 0 < left := dec_true c
      refine ⟨_,fun _ _ z => z,?_⟩
      have hpos : (0 : Int) < (P' : Int) := by omega
      have tkP : ∀ n,Rm.tk (P' : Int) n = n % (P' : Int) := fun n => Rm.tk_pos (by omega) n
      refine BarS.by (fun σ' H2 => ∃ power' : Int,σ' = [some (.int P'),some (.int a),some (.int power'),some (.int square),some (.int left)] ∧ H2 = H' ∧ ((left % 2 = 1 ∧ power' = power * square % (P' : Int)) ∨ (¬ left % 2 = 1 ∧ power' = power))) (fun N hN => ?_) ?_
      · refine ⟨_,rfl,_,_,rfl,rfl,(by decide : (0 : Int) < 2),_,rfl,?_⟩
        refine ite2 (fun c2 => ?_) (fun c2 => ?_)
        · refine ⟨_,rfl,_,rfl,_,rfl,mulL (by omega) (by omega),P',_,rfl,by omega,?_⟩
          exact hN _ _ ⟨_,rfl,rfl,.inl ⟨dec_true c2,tkP _⟩⟩
        · exact hN _ _ ⟨_,rfl,rfl,.inr ⟨dec_false c2,rfl⟩⟩
      rintro σ' H2 ⟨power',rfl,rfl,hp⟩
      refine ⟨_,rfl,_,rfl,_,rfl,mulL (by omega) (by omega),P',_,rfl,by omega,?_⟩
      refine ⟨_,rfl,_,_,rfl,rfl,⟨by decide,by decide⟩,?_⟩
      have b1 := emod_lo (square * square) hpos
      have b2 := emod_hi (square * square) hpos
      have b3 := emod_lo (power * square) hpos
      have b4 := emod_hi (power * square) hpos
      have el : (left / 2).toNat = left.toNat / 2 := by omega
      refine ⟨_,?_,power',square * square % (P' : Int),left / 2,by rw [tkP]; rfl,rfl,rfl,?_,?_,b1,by omega,by omega,?_⟩
      · omega
      · rcases hp with ⟨_,rfl⟩ | ⟨_,rfl⟩
        · exact b3
        · exact p0
      · rcases hp with ⟨_,rfl⟩ | ⟨_,rfl⟩
        · omega
        · exact p1
      · rw [el]
        rcases hp with ⟨hodd,rfl⟩ | ⟨hodd,rfl⟩
        · exact Om.keeps_odd hk (by omega)
        · exact Om.keeps_even hk (by omega)
    · have c' : left = 0 := by have := dec_false c; omega
      subst c'
      refine ⟨_,rfl,?_⟩
      exact q power p0 p1 (Om.keeps_end hk)
theorem ok_over (B : Bt mg) (F : Fn K mg "over" s_over ["by","one","other"]) (M : Ms K mg base A_NoBy A_TooLong) (C_taken : Cal P w K mg base "taken" 1 ["by","number"] spTaken) (C_inverse : Cal P w K mg base "inverse" 2 ["prime","number"] spInverseQ) : Cal P w K mg base "over" 3 ["by","one","other"] spOverQ := by
  refine F.cal sc_over (fun vs H Q E h => ?_) (fun f cdv A outer s H vs Q E hr h => ?_)
  · obtain ⟨P,one,other,rfl,_⟩ := h; rfl
  · obtain ⟨P',one,other,rfl,hP,hPb,o0,o1,q⟩ := h
    refine ⟨_,(pss_cons (ps_if (pt_cmpR (xeq K hr) (pv 0) pe_int (nomark _))
      (pss_one ps_never)
      pss_nil)
      (pss_cons (ps_if (pt_cmpR (xeq K hr) (pe_callC C_taken hr rfl (pa_n (pv 0) (pa_n (pv 2) pa_nil))) pe_int (nomark _))
      (pss_one ps_never)
      pss_nil)
      (pss_one (ps_ret (pe_callC C_taken hr rfl (pa_n (pv 0) (pa_b (pe_op v_mul (pv 1) (pe_callC C_inverse hr rfl (pa_n (pv 0) (pa_n (pv 2) pa_nil)))) pa_nil))))))),?_⟩
    have hr2 : 2 ≤ P' ∧ P' < 2097152 := ⟨hP.1,hPb⟩
    refine ⟨_,rfl,_,rfl,?_⟩
    refine ite2 (fun c => absurd (dec_true c) (by omega)) (fun _ => ?_)
    have tkP : ∀ n,Rm.tk (P' : Int) n = n % (P' : Int) := fun n => Rm.tk_pos (by omega) n
    refine ⟨_,rfl,_,rfl,P',other,rfl,by omega,_,rfl,?_⟩
    have et : Rm.tk (P' : Int) other = other := by rw [tkP]; exact Int.emod_eq_of_lt (by omega) o1
    rw [et]
    refine ite2 (fun c2 => absurd (dec_true c2) (by omega)) (fun _ => ?_)
    refine ⟨_,rfl,_,rfl,_,rfl,_,rfl,P',other,rfl,hP,hPb,o0,o1,fun x x0 x1 hx => ?_⟩
    refine ⟨mulR (by omega) (by omega),P',_,rfl,by omega,?_⟩
    rw [tkP,Om.mod_mul (rfl : one % (P' : Int) = one % (P' : Int)) hx]
    exact q
theorem ok_trimmed (B : Bt mg) (F : Fn K mg "trimmed" s_trimmed ["numbers"]) (M : Ms K mg base A_NoBy A_TooLong) : Cal P w K mg base "trimmed" 1 ["numbers"] (spTrim K) := by
  refine F.cal sc_trimmed (fun vs H Q E h => ?_) (fun f cdv A outer s H vs Q E hr h => ?_)
  · obtain ⟨l,xs,rfl,_⟩ := h; rfl
  · obtain ⟨l,xs,rfl,hL,q⟩ := h
    refine ⟨_,(pss_cons (ps_set (i := 1) sc_trimmed.nd rfl (Or.inl rfl) (pe_callB (xlen K) rfl B.b_len boot_len (pa_n (pv 0) pa_nil)))
      (pss_cons (ps_while PassesOwn.never (PW.pt (pw_and (pt_cmpR op_gt (pv 1) pe_int (nomark _)) (pw_and1 (pt_cmpR (xeq K hr) (pe_ix (xix K) (pv 0) (pe_op op_sub (pv 1) pe_int) (fun _ _ => rfl)) pe_int (nomark _)))))
      (pss_one (ps_set (i := 1) sc_trimmed.nd rfl (Or.inl rfl) (pe_op op_sub (pv 1) pe_int))))
      (pss_one (ps_ret (pe_callTy (xtuple K) rfl B.b_tuple boot_tuple (pa_cons (pe_slice (xsl K) (pv 0) po_none (po_some (pv 1))) pa_nil)))))),?_⟩
    have lL : (xs.map V.int).length = xs.length := List.length_map _
    refine ⟨_,rfl,.ref l,xs.length,rfl,.inl ⟨_,hL,lL.symm⟩,?_⟩
    refine ⟨fun m σ' H' => ∃ n : Nat,m = n ∧ n ≤ xs.length ∧ σ' = [some (.ref l),some (.int (n : Int))] ∧ H' = H ∧ Pm.trim (xs.take n) = Pm.trim xs,⟨_,xs.length,rfl,Nat.le_refl _,rfl,rfl,by rw [List.take_length]⟩,?_⟩
    rintro m σ' H' ⟨n,e0,hn,rfl,rfl,ht⟩
    refine ⟨_,rfl,_,_,rfl,rfl,_,rfl,?_⟩
    refine ite2 (fun c => ?_) (fun c => iteF ?_)
    · have h0 : 0 < n := by have := dec_true c; omega
      have e1 : ((n : Int) - 1).toNat = n - 1 := by omega
      refine ⟨_,rfl,_,rfl,_,_,rfl,rfl,_,_,.inl hL,atI_ints (ns := xs) (by omega : (0 : Int) ≤ (n : Int) - 1) (by omega),_,rfl,?_⟩
      refine ite2 (fun c2 => ?_) (fun c2 => ?_)
      · have hz := dec_true c2
        rw [e1] at hz
        refine ⟨_,fun _ _ z => z,?_⟩
        refine ⟨_,rfl,_,_,rfl,rfl,?_⟩
        refine ⟨n - 1,by omega,n - 1,rfl,by omega,?_,rfl,trim_down h0 hn ht hz⟩
        rw [show ((n - 1 : Nat) : Int) = (n : Int) - 1 by omega]
        rfl
      · have hz := dec_false c2
        rw [e1] at hz
        refine ⟨_,rfl,_,rfl,_,rfl,.inl ⟨_,hL,fun p hp => ?_⟩⟩
        refine ⟨p,_,rfl,.inl ⟨SqL.of upd_same,fun p2 hp2 => ?_⟩⟩
        refine q p2 _ ((Same.new hp _).trans (Same.new hp2 _)) ?_
        rw [upd_same,cut_to,← List.map_take,trim_stop hn ht (.inr hz)]
    · have h0 : n = 0 := by have := dec_false c; omega
      refine ⟨_,rfl,_,rfl,_,rfl,.inl ⟨_,hL,fun p hp => ?_⟩⟩
      refine ⟨p,_,rfl,.inl ⟨SqL.of upd_same,fun p2 hp2 => ?_⟩⟩
      refine q p2 _ ((Same.new hp _).trans (Same.new hp2 _)) ?_
      rw [upd_same,cut_to,← List.map_take,trim_stop hn ht (.inl h0)]
theorem ok_number_at (B : Bt mg) (F : Fn K mg "number_at" s_number_at ["poly","k"]) (M : Ms K mg base A_NoBy A_TooLong) : Cal P w K mg base "number_at" 1 ["poly","k"] spNumAt := by
  refine F.cal sc_number_at (fun vs H Q E h => ?_) (fun f cdv A outer s H vs Q E hr h => ?_)
  · obtain ⟨a,p,k,rfl,_⟩ := h; rfl
  · obtain ⟨a,p,k,rfl,hA,h0,q⟩ := h
    refine ⟨_,(pss_one (ps_ret (pe_ifExp (pt_cmpR op_lt (pv 1) (pe_callB (xlen K) rfl B.b_len boot_len (pa_n (pv 0) pa_nil)) (nomark _)) (pe_ix (xix K) (pv 0) (pv 1) (fun _ _ => rfl)) pe_int))),?_⟩
    have lP : (p.map V.int).length = p.length := List.length_map _
    refine ⟨_,rfl,_,rfl,.ref a,p.length,rfl,.inr ⟨_,SqT.of hA,lP.symm⟩,_,_,rfl,rfl,_,rfl,?_⟩
    refine ite2 (fun c => ?_) (fun c => ?_)
    · exact ⟨_,rfl,_,rfl,_,_,.inr (SqT.of hA),atI_ints (ns := p) h0 (dec_true c),q⟩
    · have c' := dec_false c
      have e : Pm.co p k.toNat = 0 := Pm.co_ge (by omega)
      rw [e] at q
      exact q
theorem ok_times (B : Bt mg) (F : Fn K mg "times" s_times ["by","one","other"]) (M : Ms K mg base A_NoBy A_TooLong) (C_taken : Cal P w K mg base "taken" 1 ["by","number"] spTaken) (C_trimmed : Cal P w K mg base "trimmed" 1 ["numbers"] (spTrim K)) : Cal P w K mg base "times" 2 ["by","one","other"] spTimes := by
  refine F.cal sc_times (fun vs H Q E h => ?_) (fun f cdv A outer s H vs Q E hr h => ?_)
  · obtain ⟨b,a,c,p,r,rfl,_⟩ := h; rfl
  · obtain ⟨b,a,c,p,r,rfl,hb,hA,hC,zA,zC,bA,bC,q⟩ := h
    refine ⟨_,(pss_cons (ps_set (i := 3) sc_times.nd rfl (Or.inl rfl) (pe_op v_mul (pe_lst (pa_k pe_int pa_nil)) (pe_op (xadd K) (pe_callB (xlen K) rfl B.b_len boot_len (pa_n (pv 1) pa_nil)) (pe_callB (xlen K) rfl B.b_len boot_len (pa_n (pv 2) pa_nil)))))
      (pss_cons (ps_for PassesOwn.never rfl (pi_range1 rfl B.b_range (pa_cons (pe_callB (xlen K) rfl B.b_len boot_len (pa_n (pv 1) pa_nil)) pa_nil)) (pg_name (i := 4) sc_times.nd rfl (Or.inl rfl))
      (pss_one (ps_for PassesOwn.never rfl (pi_range1 rfl B.b_range (pa_cons (pe_callB (xlen K) rfl B.b_len boot_len (pa_n (pv 2) pa_nil)) pa_nil)) (pg_name (i := 5) sc_times.nd rfl (Or.inl rfl))
      (pss_one (ps_asg (pe_callC C_taken hr rfl (pa_n (pv 0) (pa_b (pe_op (xadd K) (pe_ix (xix K) (pv 3) (pe_op (xadd K) (pv 4) (pv 5)) (fun _ _ => rfl)) (pe_op v_mul (pe_ix (xix K) (pv 1) (pv 4) (fun _ _ => rfl)) (pe_ix (xix K) (pv 2) (pv 5) (fun _ _ => rfl)))) pa_nil))) (pg_sub (pv 3) (pe_op (xadd K) (pv 4) (pv 5)) set_list))))))
      (pss_one (ps_ret (pe_callC C_trimmed hr rfl (pa_n (pv 3) pa_nil)))))),?_⟩
    have lP : (p.map V.int).length = p.length := List.length_map _
    have lR : (r.map V.int).length = r.length := List.length_map _
    refine ⟨(by show 1 ≤ sizeLine; decide),fun l0 h0 => ?_⟩
    have g0 := Same.new h0 (.lst [.int 0])
    refine ⟨_,rfl,.ref a,p.length,rfl,.inr ⟨_,SqT.of (g0 _ _ hA),lP.symm⟩,_,rfl,.ref c,r.length,rfl,.inr ⟨_,SqT.of (g0 _ _ hC),lR.symm⟩,?_⟩
    have en : ((p.length : Int) + (r.length : Int)).toNat = p.length + r.length := by omega
    refine ⟨_,upd_same,(by omega : -(2 ^ 63) ≤ (p.length : Int) + (r.length : Int)),(by omega : (p.length : Int) + (r.length : Int) < 2 ^ 63),?_,fun l hl => ?_⟩
    · rw [en]; show 1 * (p.length + r.length) ≤ sizeLine; rw [Nat.one_mul]; exact Nat.le_of_lt (small1000 (by omega))
    have g1 := g0.trans (Same.new hl (.lst (List.replicate ((p.length : Int) + (r.length : Int)).toNat [V.int 0]).flatten))
    have hl0 : H l = none := g0.free hl
    refine ⟨_,rfl,.ref a,p.length,rfl,.inr ⟨_,SqT.of (g1 _ _ hA),lP.symm⟩,?_⟩
    refine ⟨(p.length : Int),rfl,(by omega : -(2 ^ 62) ≤ (p.length : Int)),(by omega : (p.length : Int) < 2 ^ 62),?_⟩
    refine for_range (lo := 0) (n := (p.length : Int).toNat) (fun i σ' H' => ∃ o4 o5 L,σ' = [some (.int b),some (.ref a),some (.ref c),some (.ref l),o4,o5] ∧ Same H H' ∧ H' l = some (.lst (L.map V.int)) ∧ L.length = p.length + r.length ∧ ∀ k,Pm.co L k = Rm.tk b (Pm.W (Pm.co p) (Pm.co r) i 0 k))
      ⟨_,_,Pm.ofF (p.length + r.length) (fun _ => 0),rfl,g1,(by rw [upd_same,en,replicate_ofF]),Pm.ofF_len _ _,fun k => by rw [Pm.co_ofF,Pm.W_zero,Pm.tk0]; split <;> rfl⟩ ?_ ?_
    · rintro i σ' H' hi ⟨o4,o5,L,rfl,g,hL,zL,hW⟩
      have hi' : i < p.length := by omega
      refine ⟨_,rfl,.ref c,r.length,rfl,.inr ⟨_,SqT.of (g _ _ hC),lR.symm⟩,?_⟩
      refine ⟨(r.length : Int),rfl,(by omega : -(2 ^ 62) ≤ (r.length : Int)),(by omega : (r.length : Int) < 2 ^ 62),?_⟩
      refine for_range (lo := 0) (n := (r.length : Int).toNat) (fun k σ' H' => ∃ o5 L,σ' = [some (.int b),some (.ref a),some (.ref c),some (.ref l),some (.int (0 + (i : Int))),o5] ∧ Same H H' ∧ H' l = some (.lst (L.map V.int)) ∧ L.length = p.length + r.length ∧ ∀ j,Pm.co L j = Rm.tk b (Pm.W (Pm.co p) (Pm.co r) i k j))
        ⟨_,L,rfl,g,hL,zL,hW⟩ ?_ ?_
      · rintro k σ' H2 hk ⟨o5,L,rfl,g,hL,zL,hW⟩
        have hk' : k < r.length := by omega
        have lL : (L.map V.int).length = L.length := List.length_map _
        have e1 : (0 + (i : Int) + (0 + (k : Int))).toNat = i + k := by omega
        have e2 : (0 + (i : Int)).toNat = i := by omega
        have e3 : (0 + (k : Int)).toNat = k := by omega
        refine ⟨_,rfl,_,rfl,_,rfl,_,rfl,_,_,.inl (SqL.of hL),atI_ints (ns := L) (by omega : (0 : Int) ≤ 0 + (i : Int) + (0 + (k : Int))) (by omega),?_⟩
        refine ⟨_,rfl,_,rfl,_,_,.inr (SqT.of (g _ _ hA)),atI_ints (ns := p) (by omega : (0 : Int) ≤ 0 + (i : Int)) (by omega),?_⟩
        refine ⟨_,rfl,_,rfl,_,_,.inr (SqT.of (g _ _ hC)),atI_ints (ns := r) (by omega : (0 : Int) ≤ 0 + (k : Int)) (by omega),?_⟩
        refine ⟨mulBd (Rm.Bd.getD bA _) (Rm.Bd.getD bC _) (by decide),?_⟩
        refine ⟨b,_,rfl,hb,?_⟩
        refine ⟨_,rfl,_,rfl,_,rfl,l,_,_,i + k,rfl,rfl,hL,ixN_of (by omega) (by rw [lL]; omega),?_⟩
        refine ⟨_,L.set (i + k) _,rfl,g.upd hl0 _,(by rw [upd_same,map_set_int]),(by rw [List.length_set]; exact zL),fun j => ?_⟩
        rw [Pm.co_set _ _ _ _ (by omega),Pm.W_step,e1,e2,e3]
        by_cases ej : j = i + k
        · have hw := hW j
          rw [if_pos ej,if_pos ej]
          rw [ej] at hw ⊢
          rw [← Rm.tk_add_l b (Pm.W (Pm.co p) (Pm.co r) i k (i + k)),← hw]; rfl
        · rw [if_neg ej,if_neg ej,Int.add_zero]; exact hW j
      · rintro σ' H2 ⟨o5,L,rfl,g,hL,zL,hW⟩
        refine ⟨_,_,L,rfl,g,hL,zL,fun k => ?_⟩
        rw [hW k,Int.toNat_natCast,Pm.W_row fun k hk => Pm.co_ge hk]
    · rintro σ' H' ⟨o4,o5,L,rfl,g,hL,zL,hW⟩
      refine ⟨_,rfl,l,L,rfl,SqL.of hL,fun t H2 g2 ht => q t H2 (g.trans g2) ?_⟩
      have e : Pm.trim L = Pm.mul b p r := by
        refine Pm.trim_ext fun k => ?_
        rw [hW k,Int.toNat_natCast,Pm.W_end fun k hk => Pm.co_ge hk,Pm.co_ofF]
        split
        · rfl
        · rw [← Pm.mul_co,Pm.mul,Pm.co_trim,Pm.co_ofF,if_neg (by assumption)]
      rw [← e]; exact ht
theorem ok_divided (B : Bt mg) (F : Fn K mg "divided" s_divided ["by","one","other"]) (M : Ms K mg base A_NoBy A_TooLong) (C_taken : Cal P w K mg base "taken" 1 ["by","number"] spTaken) (C_trimmed : Cal P w K mg base "trimmed" 1 ["numbers"] (spTrim K)) : Cal P w K mg base "divided" 2 ["by","one","other"] spDividedP := by
  refine F.cal sc_divided (fun vs H Q E h => ?_) (fun f cdv A outer s H vs Q E hr h => ?_)
  · obtain ⟨b,a,c,P,M,rfl,_⟩ := h; rfl
  · obtain ⟨b,a,c,P,M,rfl,hb,hb1,hA,hC,zA,zC,hM,nP,q⟩ := h
    refine ⟨_,(pss_cons (ps_set (i := 3) sc_divided.nd rfl (Or.inl rfl) (pe_op op_sub (pe_callB (xlen K) rfl B.b_len boot_len (pa_n (pv 2) pa_nil)) pe_int))
      (pss_cons (ps_set (i := 4) sc_divided.nd rfl (Or.inl rfl) (pe_op v_mul (pe_lst (pa_k pe_int pa_nil)) (pe_callB (call_max2 rfl) rfl B.b_max boot_max (pa_k pe_int (pa_b (pe_op op_sub (pe_callB (xlen K) rfl B.b_len boot_len (pa_n (pv 1) pa_nil)) (pv 3)) pa_nil)))))
      (pss_cons (ps_set (i := 5) sc_divided.nd rfl (Or.inl rfl) (pe_callTy (xlist K) rfl B.b_list boot_list (pa_n (pv 1) pa_nil)))
      (pss_cons (ps_for PassesOwn.never rfl (pi_rangeD rfl B.b_range (pa_b (pe_op op_sub (pe_callB (xlen K) rfl B.b_len boot_len (pa_n (pv 4) pa_nil)) pe_int) (pa_u (pe_un un_neg pe_int) (pa_u (pe_un un_neg pe_int) pa_nil)))) (pg_name (i := 6) sc_divided.nd rfl (Or.inl rfl))
      (pss_cons (ps_set (i := 7) sc_divided.nd rfl (Or.inl rfl) (pe_ix (xix K) (pv 5) (pe_op (xadd K) (pv 6) (pv 3)) (fun _ _ => rfl)))
      (pss_cons (ps_asg (pv 7) (pg_sub (pv 4) (pv 6) set_list))
      (pss_one (ps_for PassesOwn.never rfl (pi_range1 rfl B.b_range (pa_cons (pe_callB (xlen K) rfl B.b_len boot_len (pa_n (pv 2) pa_nil)) pa_nil)) (pg_name (i := 8) sc_divided.nd rfl (Or.inl rfl))
      (pss_one (ps_asg (pe_callC C_taken hr rfl (pa_n (pv 0) (pa_b (pe_op op_sub (pe_ix (xix K) (pv 5) (pe_op (xadd K) (pv 6) (pv 8)) (fun _ _ => rfl)) (pe_op v_mul (pv 7) (pe_ix (xix K) (pv 2) (pv 8) (fun _ _ => rfl)))) pa_nil))) (pg_sub (pv 5) (pe_op (xadd K) (pv 6) (pv 8)) set_list))))))))
      (pss_one (ps_ret (pe_tup (pa_cons (pe_callC C_trimmed hr rfl (pa_n (pv 4) pa_nil)) (pa_cons (pe_callC C_trimmed hr rfl (pa_n (pv 5) pa_nil)) pa_nil))))))))),?_⟩
    have lP : (P.map V.int).length = P.length := List.length_map _
    have lM : (M.map V.int).length = M.length := List.length_map _
    have hMp := hM.pos
    refine ⟨_,rfl,.ref c,M.length,rfl,.inr ⟨_,SqT.of hC,lM.symm⟩,_,_,rfl,rfl,?_⟩
    refine ⟨(by show 1 ≤ sizeLine; decide),fun l0 h0 => ?_⟩
    have g0 := Same.new h0 (.lst [.int 0])
    refine ⟨_,rfl,.ref a,P.length,rfl,.inr ⟨_,SqT.of (g0 _ _ hA),lP.symm⟩,_,rfl,_,_,rfl,rfl,_,_,rfl,?_⟩
    have en : (if (P.length : Int) - ((M.length : Int) - 1) > 0 then (P.length : Int) - ((M.length : Int) - 1) else 0).toNat = P.length - (M.length - 1) := (max_zero P.length M.length).resolve_right (by omega)
    refine ⟨_,upd_same,?_,?_,?_,fun lo hlo => ?_⟩
    · split <;> omega
    · split <;> omega
    · rw [en]; show 1 * (P.length - (M.length - 1)) ≤ sizeLine; rw [Nat.one_mul]; exact Nat.le_of_lt (small1000 (by omega))
    rw [en,replicate_ofF]
    have hlo0 : H lo = none := g0.free hlo
    have g1 := g0.trans (Same.new hlo (.lst ((Pm.ofF (P.length - (M.length - 1)) fun _ => 0).map V.int)))
    have hO0 : (upd (upd H l0 (.lst [.int 0])) lo (.lst ((Pm.ofF (P.length - (M.length - 1)) fun _ => 0).map V.int))) lo = some (.lst ((Pm.ofF (P.length - (M.length - 1)) fun _ => 0).map V.int)) := upd_same
    generalize upd (upd H l0 (.lst [.int 0])) lo (.lst ((Pm.ofF (P.length - (M.length - 1)) fun _ => 0).map V.int)) = H1 at g1 hO0
    refine ⟨_,rfl,a,_,rfl,.inr (SqT.of (g1 _ _ hA)),fun ll hll => ?_⟩
    have hll0 : H ll = none := g1.free hll
    have hne : lo ≠ ll := ne_of_none hO0 hll
    have gll := Same.new hll (.lst (P.map V.int))
    have g2 := g1.trans gll
    have hO2 := gll _ _ hO0
    have hL2 : (upd H1 ll (.lst (P.map V.int))) ll = some (.lst (P.map V.int)) := upd_same
    generalize upd H1 ll (.lst (P.map V.int)) = H2 at gll g2 hO2 hL2
    generalize hn : P.length - (M.length - 1) = n at hO2
    refine ⟨_,rfl,.ref lo,n,rfl,.inl ⟨_,SqL.of hO2,by rw [List.length_map,Pm.ofF_len]⟩,_,_,rfl,rfl,_,rfl,_,rfl,(n : Int) - 1,-1,rfl,⟨by omega,by omega,by omega,by omega⟩,?_⟩
    refine for_down (lo := (n : Int) - 1) (n := ((n : Int) - 1 - (-1)).toNat) (fun i σ' H' => ∃ o6 o7 o8 O L,σ' = [some (.int b),some (.ref a),some (.ref c),some (.int ((M.length : Int) - 1)),some (.ref lo),some (.ref ll),o6,o7,o8] ∧ Same H H' ∧ H' lo = some (.lst (List.map V.int O)) ∧ H' ll = some (.lst (List.map V.int L)) ∧ Pm.DivI b P M (n - i) O L)
      ⟨_,_,_,_,P,rfl,g2,hO2,hL2,(by rw [Nat.sub_zero,← hn]; exact Pm.DivI.start nP)⟩ ?_ ?_
    · rintro i σ' H' hi ⟨o6,o7,o8,O,L,rfl,g,hO,hL,I⟩
      have hi' : i < n := by omega
      have hs : n - i = n - (i + 1) + 1 := by omega
      rw [hs] at I
      generalize es : n - (i + 1) = s at I
      have esI : (n : Int) - 1 - (i : Int) = (s : Int) := by omega
      rw [esI]
      have hlL := I.ll
      have hlO := I.ol
      have hsM : s + M.length ≤ L.length := by omega
      have hsO : s < O.length := by omega
      have lO : (O.map V.int).length = O.length := List.length_map _
      have e1 : ((s : Int) + ((M.length : Int) - 1)).toNat = s + (M.length - 1) := by omega
      refine ⟨_,rfl,_,rfl,_,rfl,_,_,.inl (SqL.of hL),atI_ints (ns := L) (ixt hMp hsM).1 (ixt hMp hsM).2,?_⟩
      rw [e1]
      have eF : L.getD (s + (M.length - 1)) 0 = Pm.co L (s + (M.length - 1)) := rfl
      rw [eF]
      have hF := tk_small hb hb1 (I.ln (s + (M.length - 1)))
      generalize hf : Pm.co L (s + (M.length - 1)) = f at hF
      refine ⟨_,rfl,_,rfl,_,rfl,lo,_,_,s,rfl,rfl,hO,ixN_of rfl (by rw [lO]; exact hsO),?_⟩
      have hO3 : (upd H' lo (.lst ((O.map V.int).set s (.int f)))) lo = some (.lst ((O.set s f).map V.int)) := by rw [upd_same,map_set_int]
      have hL3 : (upd H' lo (.lst ((O.map V.int).set s (.int f)))) ll = some (.lst (L.map V.int)) := by rw [upd_ne hne.symm]; exact hL
      have g3 := g.upd hlo0 (.lst ((O.map V.int).set s (.int f)))
      generalize upd H' lo (.lst ((O.map V.int).set s (.int f))) = H3 at hO3 hL3 g3
      refine ⟨_,rfl,.ref c,M.length,rfl,.inr ⟨_,SqT.of (g3 _ _ hC),lM.symm⟩,?_⟩
      refine ⟨(M.length : Int),rfl,(rng62 (Nat.le_trans zC (by decide))).1,(rng62 (Nat.le_trans zC (by decide))).2,?_⟩
      refine for_range (lo := 0) (n := (M.length : Int).toNat) (fun t σ' H' => ∃ o8 L',σ' = [some (.int b),some (.ref a),some (.ref c),some (.int ((M.length : Int) - 1)),some (.ref lo),some (.ref ll),some (.int (s : Int)),some (.int f),o8] ∧ Same H H' ∧ H' lo = some (.lst ((O.set s f).map V.int)) ∧ H' ll = some (.lst (List.map V.int L')) ∧ L'.length = L.length ∧ ∀ k,Pm.co L' k = Pm.lf b f s t L M k)
        ⟨_,L,rfl,g3,hO3,hL3,rfl,fun k => (Pm.lf_zero ..).symm⟩ ?_ ?_
      · rintro t σ' H4 ht ⟨o8,L',rfl,g4,hO4,hL4,zL',eL'⟩
        have ht' : t < M.length := by rw [Int.toNat_natCast] at ht; exact ht
        have hst : s + t < L'.length := by rw [zL']; exact Nat.lt_of_lt_of_le (Nat.add_lt_add_left ht' s) hsM
        have lL' : (L'.map V.int).length = L'.length := List.length_map _
        have e2 : ((s : Int) + (0 + (t : Int))).toNat = s + t := by omega
        have e3 : (0 + (t : Int)).toNat = t := by omega
        refine ⟨_,rfl,_,rfl,_,rfl,_,rfl,_,_,.inl (SqL.of hL4),atI_ints (ns := L') (ixs hst).1 (ixs hst).2,?_⟩
        refine ⟨_,rfl,_,rfl,_,rfl,_,_,.inr (SqT.of (g4 _ _ hC)),atI_ints (ns := M) (ixk ht').1 (ixk ht').2,?_⟩
        refine ⟨mulL hF.1 hF.2,_,_,rfl,rfl,?_⟩
        refine ⟨b,_,rfl,Int.le_of_lt hb,?_⟩
        refine ⟨_,rfl,_,rfl,_,rfl,ll,_,_,s + t,rfl,rfl,hL4,ixN_of (by rw [Int.zero_add]; exact (Int.natCast_add s t).symm) (by rw [lL']; exact hst),?_⟩
        refine ⟨_,L'.set (s + t) _,rfl,g4.upd hll0 _,(by rw [upd_ne hne]; exact hO4),(by rw [upd_same,map_set_int]),(by rw [List.length_set]; exact zL'),fun k => ?_⟩
        rw [Pm.co_set _ _ _ _ hst,Pm.lf_step,e2,e3,← eL' k]
        by_cases ek : k = s + t
        · rw [if_pos ek,if_pos ek,ek]; rfl
        · rw [if_neg ek,if_neg ek]
      · rintro σ' H4 ⟨o8,L',rfl,g4,hO4,hL4,zL',eL'⟩
        rw [Int.toNat_natCast] at eL'
        refine ⟨_,_,_,O.set s f,L',rfl,g4,hO4,hL4,?_⟩
        rw [← hf]
        rw [← hf] at eL'
        exact I.step hM (by omega) zL' eL'
    · rintro σ' H' ⟨o6,o7,o8,O,L,rfl,g,hO,hL,I⟩
      have e9 : ((n : Int) - 1 - (-1)).toNat = n := by omega
      rw [e9] at I
      rw [Nat.sub_self] at I
      refine ⟨_,rfl,lo,O,rfl,SqL.of hO,fun t1 H3 g3 h3 => ?_⟩
      refine ⟨_,rfl,ll,L,rfl,SqL.of (g3 _ _ hL),fun t2 H4 g4 h4 => ?_⟩
      refine ⟨(by show 2 ≤ sizeLine; decide),fun t ht => ?_⟩
      have gt := Same.new ht (.tup [.ref t1,.ref t2])
      refine q t t1 t2 (Pm.trim O) (Pm.trim L) _ (g.trans (g3.trans (g4.trans gt))) upd_same (gt _ _ (g4 _ _ h3)) (gt _ _ h4) (I.stop hM) (fun _ _ => trivial) (fun _ _ => trivial) ?_
      have := Pm.trim_len_le O
      have := I.ol
      omega
theorem ok_monic (B : Bt mg) (F : Fn K mg "monic" s_monic ["prime","poly"]) (M : Ms K mg base A_NoBy A_TooLong) (C_over : Cal P w K mg base "over" 3 ["by","one","other"] spOverQ) : Cal P w K mg base "monic" 4 ["prime","poly"] spMonicQ := by
  refine F.cal sc_monic (fun vs H Q E h => ?_) (fun f cdv A outer s H vs Q E hr h => ?_)
  · obtain ⟨P,a,p,rfl,_⟩ := h; rfl
  · obtain ⟨P',a,p,rfl,hP,hPb,hA,zA,pP,q⟩ := h
    refine ⟨_,(pss_cons (ps_if (pt_cmpR (xeq K hr) (pe_callB (xlen K) rfl B.b_len boot_len (pa_n (pv 1) pa_nil)) pe_int (nomark _))
      (pss_one (ps_ret (pe_tup pa_nil)))
      pss_nil)
      (pss_cons (ps_set (i := 2) sc_monic.nd rfl (Or.inr rfl) (pe_ix (xix K) (pv 1) (pe_op op_sub (pe_callB (xlen K) rfl B.b_len boot_len (pa_n (pv 1) pa_nil)) pe_int) (fun _ _ => rfl)))
      (pss_one (ps_ret (pe_callTy (xtuple K) rfl B.b_tuple boot_tuple (pa_cons (pe_comp (sc := cs_monic1) (N := ["number","last","prime"]) (ix := [none,some 2,some 0]) (comp_mk (by kernel_rfl) (by kernel_rfl) (by kernel_rfl) (by kernel_rfl) (by kernel_rfl) (by kernel_rfl) (by kernel_rfl) (by kernel_rfl)) rfl (xseq K (pv 1)) (fun cl C s₀ H₀ ex => ⟨(pg_name (i := 0) (show (["number","last","prime"] : List Str).Nodup by decide +kernel) rfl (Or.inl rfl)),pif_nil,(pe_callC C_over hr rfl (pa_n (pv 2) (pa_n (pv 0) (pa_n (pv 1) pa_nil))))⟩)) pa_nil)))))),?_⟩
    have hr2 : 2 ≤ P' ∧ P' < 2097152 := ⟨hP.1,hPb⟩
    have lP : (p.map V.int).length = p.length := List.length_map _
    refine ⟨_,rfl,.ref a,p.length,rfl,.inr ⟨_,SqT.of hA,lP.symm⟩,_,rfl,?_⟩
    refine ite2 (fun c => ?_) (fun c => ?_)
    · have c' : (p.length : Int) = 0 := dec_true c
      have e : p = [] := List.eq_nil_of_length_eq_zero (by omega)
      subst e
      exact ⟨Nat.zero_le _,fun t ht => q t [] _ (Same.new ht _) upd_same (Pm.MonOf.nil _)⟩
    · have c' : ¬ (p.length : Int) = 0 := dec_false c
      have hn : p ≠ [] := fun e => c' (by rw [e]; rfl)
      have hpos : 0 < p.length := by omega
      have e1 : ((p.length : Int) - 1).toNat = p.length - 1 := by omega
      refine ⟨_,rfl,_,rfl,.ref a,p.length,rfl,.inr ⟨_,SqT.of hA,lP.symm⟩,_,_,rfl,rfl,_,_,.inr (SqT.of hA),atI_ints (ns := p) (by omega : (0 : Int) ≤ (p.length : Int) - 1) (by omega),?_⟩
      rw [e1]
      have l0 := Pm.last_ne hn pP.tr
      have l1 := pP.co (p.length - 1)
      rw [Rm.tk_pos (by omega)] at l1
      have r0 : 0 ≤ Pm.co p (p.length - 1) := by rw [← l1]; exact Int.emod_nonneg _ (by omega)
      have r1 : Pm.co p (p.length - 1) < (P' : Int) := by rw [← l1]; exact Int.emod_lt_of_pos _ (by omega)
      refine ⟨_,rfl,a,rfl,.inr ⟨⟨_,SqT.of hA⟩,comp_tup hA (by omega) rfl (fun x => x * (Pm.co p (p.length - 1)) ^ (P' - 2) % (P' : Int)) ?_ ?_⟩⟩
      · intro H2 x g2 hx k hk
        exact ⟨_,rfl,_,rfl,_,rfl,P',x,_,rfl,hP,hPb,by show 0 < Pm.co p (p.length - 1); omega,r1,hk⟩
      · intro D hD
        refine ⟨D,_,rfl,.inl ⟨SqL.of upd_same,fun t ht => ?_⟩⟩
        exact q t (Pm.monicN P' p) _ ((Same.new hD _).trans (Same.new ht _)) upd_same (Pm.monicN_pr hP pP hn)
theorem ok_greatest (B : Bt mg) (F : Fn K mg "greatest" s_greatest ["by","one","other"]) (M : Ms K mg base A_NoBy A_TooLong) (C_monic : Cal P w K mg base "monic" 4 ["prime","poly"] spMonicQ) (C_divided : Cal P w K mg base "divided" 2 ["by","one","other"] spDividedP) : Cal P w K mg base "greatest" 5 ["by","one","other"] spGreatestQ := by
  refine F.cal sc_greatest (fun vs H Q E h => ?_) (fun f cdv A outer s H vs Q E hr h => ?_)
  · obtain ⟨P,a,c,p,r,rfl,_⟩ := h; rfl
  · obtain ⟨P',a,c,p,r,rfl,hP,hPb,hA,hC,zA,zC,pP,pR,hne,q⟩ := h
    refine ⟨_,(pss_cons (ps_set (i := 3) sc_greatest.nd rfl (Or.inl rfl) (pe_callC C_monic hr rfl (pa_n (pv 0) (pa_n (pv 1) pa_nil))))
      (pss_cons (ps_set (i := 4) sc_greatest.nd rfl (Or.inl rfl) (pe_callC C_monic hr rfl (pa_n (pv 0) (pa_n (pv 2) pa_nil))))
      (pss_cons (ps_while PassesOwn.never (pt_cmpR op_gt (pe_callB (xlen K) rfl B.b_len boot_len (pa_n (pv 4) pa_nil)) pe_int (nomark _))
      (pss_cons (ps_set (i := 5) sc_greatest.nd rfl (Or.inl rfl) (pe_ix (xix K) (pe_callC C_divided hr rfl (pa_n (pv 0) (pa_n (pv 3) (pa_n (pv 4) pa_nil)))) pe_int (fun _ _ => rfl)))
      (pss_cons (ps_set (i := 3) sc_greatest.nd rfl (Or.inl rfl) (pv 4))
      (pss_one (ps_set (i := 4) sc_greatest.nd rfl (Or.inl rfl) (pe_callC C_monic hr rfl (pa_n (pv 0) (pa_n (pv 5) pa_nil))))))))
      (pss_one (ps_ret (pv 3)))))),?_⟩
    have hr2 : 2 ≤ P' ∧ P' < 2097152 := ⟨hP.1,hPb⟩
    refine ⟨_,rfl,_,rfl,P',a,p,rfl,hP,hPb,hA,by omega,pP,fun tg g0 H1 g1 hG mG => ?_⟩
    refine ⟨_,rfl,_,rfl,P',c,r,rfl,hP,hPb,g1 _ _ hC,by omega,pR,fun ts s0 H2 g2 hS' mS => ?_⟩
    have lg0 := mG.len
    have ls0 := mS.len
    refine ⟨fun m σ' H' => ∃ (o5 : Option V) (tg ts : Addr) (g s : List Int),m = s.length ∧ σ' = [some (.int P'),some (.ref a),some (.ref c),some (.ref tg),some (.ref ts),o5] ∧ Same H H' ∧ H' tg = some (.tup (g.map V.int)) ∧ H' ts = some (.tup (s.map V.int)) ∧ Pm.GcdI P' p r g s ∧ g.length ≤ max p.length r.length ∧ s.length ≤ max p.length r.length,
      ⟨_,_,tg,ts,g0,s0,rfl,rfl,g1.trans g2,g2 _ _ hG,hS',Pm.GcdI.start mG mS hne,by omega,by omega⟩,?_⟩
    rintro m σ' H' ⟨o5,tg,ts,gg,ss,rfl,rfl,g,hG,hS',I,zg,zs⟩
    have lS : (ss.map V.int).length = ss.length := List.length_map _
    refine ⟨_,rfl,.ref ts,ss.length,rfl,.inr ⟨_,SqT.of hS',lS.symm⟩,_,_,rfl,rfl,_,rfl,?_⟩
    refine ite2 (fun cc => ?_) (fun cc => ?_)
    · have hs : ss ≠ [] := fun e => by have := dec_true cc; rw [e] at this; simp at this
      have hMs := I.sm_ hs
      refine ⟨_,fun _ _ z => z,?_⟩
      refine ⟨_,rfl,_,rfl,_,rfl,P',tg,ts,gg,ss,rfl,by omega,by omega,hG,hS',by omega,by omega,hMs,I.gy.co,fun t x y o l H3 g3 hT hX hY D _ _ _ => ?_⟩
      refine ⟨_,_,.inr (SqT.of hT),rfl,?_⟩
      refine ⟨_,rfl,?_⟩
      have hsh := D.short
      refine ⟨_,rfl,_,rfl,P',y,l,rfl,hP,hPb,hY,by omega,D.ry,fun tm m H4 g4 hM mM => ?_⟩
      have lm := mM.len
      exact ⟨m.length,by omega,_,ts,tm,ss,m,rfl,rfl,g.trans (g3.trans g4),(g3.trans g4) _ _ hS',hM,I.step hs D mM,zs,by omega⟩
    · have hs : ss = [] := List.eq_nil_of_length_eq_zero (by have := dec_false cc; omega)
      refine ⟨_,rfl,?_⟩
      exact q tg gg H' g hG (I.stop hs) zg
theorem ok_whole_greatest (B : Bt mg) (F : Fn K mg "whole_greatest" s_whole_greatest ["one","other"]) (M : Ms K mg base A_NoBy A_TooLong) : Cal P w K mg base "whole_greatest" 6 ["one","other"] spNever := by
  refine F.cal sc_whole_greatest (fun vs H Q E h => ?_) (fun f cdv A outer s H vs Q E hr h => ?_)
  · exact h.elim
  · exact h.elim
theorem ok_of_rule (B : Bt mg) (F : Fn K mg "of_rule" s_of_rule ["by","rule"]) (M : Ms K mg base A_NoBy A_TooLong) (C_taken : Cal P w K mg base "taken" 1 ["by","number"] spTaken) : Cal P w K mg base "of_rule" 2 ["by","rule"] spOfRule := by
  refine F.cal sc_of_rule (fun vs H Q E h => ?_) (fun f cdv A outer s H vs Q E hr h => ?_)
  · obtain ⟨b,a,c,rfl,_⟩ := h; rfl
  · obtain ⟨b,a,c,rfl,hb,hA,zA,q⟩ := h
    refine ⟨_,(pss_cons (ps_set (i := 2) sc_of_rule.nd rfl (Or.inr rfl) (pe_callB (xlen K) rfl B.b_len boot_len (pa_n (pv 1) pa_nil)))
      (pss_cons (ps_setC (i := 3) (hN := sc_of_rule.nd) (hi' := rfl) (hx := (Or.inl rfl)) (sc := cs_of_rule1) (N := ["k","by","length","rule"]) (ix := [none,some 0,some 2,some 1]) (comp_mk (by kernel_rfl) (by kernel_rfl) (by kernel_rfl) (by kernel_rfl) (by kernel_rfl) (by kernel_rfl) (by kernel_rfl) (by kernel_rfl)) rfl (pi_range1 rfl B.b_range (pa_n (pv 2) pa_nil)) (fun cl C s₀ H₀ ex => ⟨(pg_name (i := 0) (show (["k","by","length","rule"] : List Str).Nodup by decide +kernel) rfl (Or.inl rfl)),pif_nil,(pe_callC C_taken hr rfl (pa_n (pv 1) (pa_b (pe_op op_sub pe_int (pe_ix (xix K) (pv 3) (pe_op op_sub (pe_op op_sub (pv 2) pe_int) (pv 0)) (fun _ _ => rfl))) pa_nil)))⟩))
      (pss_one (ps_ret (pe_callTy (xtuple K) rfl B.b_tuple boot_tuple (pa_b (pe_op (xadd K) (pv 3) (pe_lst (pa_k pe_int pa_nil))) pa_nil)))))),?_⟩
    have lC : (c.map V.int).length = c.length := List.length_map _
    refine ⟨_,rfl,.ref a,c.length,rfl,.inr ⟨_,SqT.of hA,lC.symm⟩,?_⟩
    refine ⟨_,rfl,(c.length : Int),rfl,(by omega : -(2 ^ 62) ≤ (c.length : Int)),(by omega : (c.length : Int) < 2 ^ 62),?_⟩
    rw [Int.toNat_natCast]
    refine comp_rng (n := c.length) (by omega) rfl (fun k => Rm.tk b (0 - Pm.co c (c.length - 1 - k))) ?_ ?_
    · intro H2 k g2 hk kk hkk
      have e1 : ((c.length : Int) - 1 - (0 + (k : Int))).toNat = c.length - 1 - k := by omega
      refine ⟨_,rfl,_,rfl,_,rfl,_,_,rfl,rfl,_,rfl,_,_,rfl,rfl,_,_,.inr (SqT.of (g2 _ _ hA)),atI_ints (ns := c) (by omega : (0 : Int) ≤ (c.length : Int) - 1 - (0 + (k : Int))) (by omega),_,_,rfl,rfl,?_⟩
      refine ⟨b,_,rfl,hb,?_⟩
      rw [e1]
      exact hkk
    · intro D hD
      have g1 := Same.new hD (.lst ((Pm.ofF c.length fun k => Rm.tk b (0 - Pm.co c (c.length - 1 - k))).map V.int))
      refine ⟨_,rfl,(by show 1 ≤ sizeLine; decide),fun l2 hl2 => ?_⟩
      have g2 := Same.new hl2 (.lst [.int 1])
      refine .inl ⟨_,_,g2 _ _ upd_same,upd_same,?_,fun l3 hl3 => ?_⟩
      · rw [List.length_map,Pm.ofF_len]; exact Nat.le_of_lt (small1000 (by show _ + 1 ≤ 1000; omega))
      refine ⟨l3,_,rfl,.inl ⟨SqL.of upd_same,fun t ht => ?_⟩⟩
      refine q t _ (g1.trans (g2.trans ((Same.new hl3 _).trans (Same.new ht _)))) ?_
      rw [upd_same,Pm.ofRule,map_snoc]
theorem ok_rule_of (B : Bt mg) (F : Fn K mg "rule_of" s_rule_of ["by","poly"]) (M : Ms K mg base A_NoBy A_TooLong) (C_taken : Cal P w K mg base "taken" 1 ["by","number"] spTaken) : Cal P w K mg base "rule_of" 2 ["by","poly"] spRuleOf := by
  refine F.cal sc_rule_of (fun vs H Q E h => ?_) (fun f cdv A outer s H vs Q E hr h => ?_)
  · obtain ⟨b,a,p,rfl,_⟩ := h; rfl
  · obtain ⟨b,a,p,rfl,hb,hA,z0,zA,q⟩ := h
    refine ⟨_,(pss_cons (ps_set (i := 2) sc_rule_of.nd rfl (Or.inr rfl) (pe_op op_sub (pe_callB (xlen K) rfl B.b_len boot_len (pa_n (pv 1) pa_nil)) pe_int))
      (pss_one (ps_ret (pe_callTy (xtuple K) rfl B.b_tuple boot_tuple (pa_cons (pe_comp (sc := cs_rule_of1) (N := ["k","by","length","poly"]) (ix := [none,some 0,some 2,some 1]) (comp_mk (by kernel_rfl) (by kernel_rfl) (by kernel_rfl) (by kernel_rfl) (by kernel_rfl) (by kernel_rfl) (by kernel_rfl) (by kernel_rfl)) rfl (pi_range1 rfl B.b_range (pa_n (pv 2) pa_nil)) (fun cl C s₀ H₀ ex => ⟨(pg_name (i := 0) (show (["k","by","length","poly"] : List Str).Nodup by decide +kernel) rfl (Or.inl rfl)),pif_nil,(pe_callC C_taken hr rfl (pa_n (pv 1) (pa_b (pe_op op_sub pe_int (pe_ix (xix K) (pv 3) (pe_op op_sub (pe_op op_sub (pv 2) pe_int) (pv 0)) (fun _ _ => rfl))) pa_nil)))⟩)) pa_nil))))),?_⟩
    have lC : (p.map V.int).length = p.length := List.length_map _
    refine ⟨_,rfl,.ref a,p.length,rfl,.inr ⟨_,SqT.of hA,lC.symm⟩,_,_,rfl,rfl,?_⟩
    refine ⟨_,rfl,(p.length : Int) - 1,rfl,(by omega : -(2 ^ 62) ≤ (p.length : Int) - 1),(by omega : (p.length : Int) - 1 < 2 ^ 62),?_⟩
    rw [show ((p.length : Int) - 1).toNat = p.length - 1 by omega]
    refine comp_rng (n := p.length - 1) (by omega) rfl (fun k => Rm.tk b (0 - Pm.co p (p.length - 1 - 1 - k))) ?_ ?_
    · intro H2 k g2 hk kk hkk
      have e1 : ((p.length : Int) - 1 - 1 - (0 + (k : Int))).toNat = p.length - 1 - 1 - k := by omega
      refine ⟨_,rfl,_,rfl,_,rfl,_,_,rfl,rfl,_,rfl,_,_,rfl,rfl,_,_,.inr (SqT.of (g2 _ _ hA)),atI_ints (ns := p) (by omega : (0 : Int) ≤ (p.length : Int) - 1 - 1 - (0 + (k : Int))) (by omega),_,_,rfl,rfl,?_⟩
      refine ⟨b,_,rfl,hb,?_⟩
      rw [e1]
      exact hkk
    · intro D hD
      refine ⟨D,_,rfl,.inl ⟨SqL.of upd_same,fun t ht => ?_⟩⟩
      exact q t _ ((Same.new hD _).trans (Same.new ht _)) upd_same
theorem ok_top_of (B : Bt mg) (F : Fn K mg "top_of" s_top_of ["row","poly"]) (M : Ms K mg base A_NoBy A_TooLong) (C_taken : Cal P w K mg base "taken" 1 ["by","number"] spTaken) (C_trimmed : Cal P w K mg base "trimmed" 1 ["numbers"] (spTrim K)) : Cal P w K mg base "top_of" 2 ["row","poly"] spTop := by
  refine F.cal sc_top_of (fun vs H Q E h => ?_) (fun f cdv A outer s H vs Q E hr h => ?_)
  · obtain ⟨v,r,a,rfl,_⟩ := h; rfl
  · obtain ⟨v,r,a,rfl,⟨a0,p,p2,rfl,hA,hR,hS⟩,ok,hP,q⟩ := h
    refine ⟨_,(pss_cons (ps_set (i := 2) sc_top_of.nd rfl (Or.inl rfl) (pe_ix (xix K) (pv 0) pe_int (fun _ _ => rfl)))
      (pss_cons (ps_set (i := 3) sc_top_of.nd rfl (Or.inr rfl) (pe_ix (xix K) (pv 0) pe_int (fun _ _ => rfl)))
      (pss_cons (ps_set (i := 4) sc_top_of.nd rfl (Or.inl rfl) (pe_lst pa_nil))
      (pss_cons (ps_for PassesOwn.never rfl (pi_range1 rfl B.b_range (pa_cons (pe_callB (xlen K) rfl B.b_len boot_len (pa_n (pv 3) pa_nil)) pa_nil)) (pg_name (i := 5) sc_top_of.nd rfl (Or.inr rfl))
      (pss_cons (ps_setC (i := 6) (hN := sc_top_of.nd) (hi' := rfl) (hx := (Or.inl rfl)) (sc := cs_top_of1) (N := ["j","k","poly","starts"]) (ix := [none,some 5,some 1,some 3]) (comp_mk (by kernel_rfl) (by kernel_rfl) (by kernel_rfl) (by kernel_rfl) (by kernel_rfl) (by kernel_rfl) (by kernel_rfl) (by kernel_rfl)) rfl (pi_range2 rfl B.b_range (pa_b (pe_op (xadd K) (pv 5) pe_int) (pa_cons (pe_callB (xlen K) rfl B.b_len boot_len (pa_n (pv 1) pa_nil)) pa_nil))) (fun cl C s₀ H₀ ex => ⟨(pg_name (i := 0) (show (["j","k","poly","starts"] : List Str).Nodup by decide +kernel) rfl (Or.inl rfl)),pif_nil,(pe_op v_mul (pe_ix (xix K) (pv 2) (pv 0) (fun _ _ => rfl)) (pe_ix (xix K) (pv 3) (pe_op op_sub (pe_op op_sub (pv 0) pe_int) (pv 1)) (fun _ _ => rfl)))⟩))
      (pss_one (ps_expr (xappend K (pv 4) (pe_callC C_taken hr rfl (pa_n (pv 2) (pa_cons (pe_callB (xsum K rfl) rfl B.b_sum boot_sum (pa_n (pv 6) pa_nil)) pa_nil))))))))
      (pss_one (ps_ret (pe_callC C_trimmed hr rfl (pa_n (pv 4) pa_nil)))))))),?_⟩
    have hl := ok.len
    have hs := ok.short
    have lS : (r.starts.map V.int).length = r.starts.length := List.length_map _
    have lP : ((Pm.ofRule r.b r.rule).map V.int).length = r.rule.length + 1 := by rw [List.length_map,Pm.ofRule_len]
    refine ⟨_,rfl,_,_,.inr (SqT.of hA),rfl,?_⟩
    refine ⟨_,rfl,_,_,.inr (SqT.of hA),rfl,?_⟩
    refine ⟨Nat.zero_le _,fun l0 h0 => ?_⟩
    have g0 := Same.new h0 (.lst [])
    refine ⟨_,rfl,.ref p2,r.starts.length,rfl,.inr ⟨_,SqT.of (g0 _ _ hS),lS.symm⟩,?_⟩
    refine ⟨(r.starts.length : Int),rfl,(rng62 (by omega)).1,(rng62 (by omega)).2,?_⟩
    refine for_range (lo := 0) (n := (r.starts.length : Int).toNat) (fun i σ' H' => ∃ o5 o6,σ' = [some (.ref a0),some (.ref a),some (.int r.b),some (.ref p2),some (.ref l0),o5,o6] ∧ Same H H' ∧ H' l0 = some (.lst ((Pm.ofF i fun k => Rm.tk r.b (Pm.tp (Pm.ofRule r.b r.rule) r.at k)).map V.int)))
      ⟨_,_,rfl,g0,upd_same⟩ ?_ ?_
    · rintro i σ' H' hi ⟨o5,o6,rfl,g,hL⟩
      have hi' : i < r.starts.length := by omega
      refine ⟨_,rfl,_,rfl,.ref a,r.rule.length + 1,rfl,.inr ⟨_,SqT.of (g _ _ hP),lP.symm⟩,?_⟩
      refine ⟨_,_,rfl,⟨by omega,by omega,by omega,by omega⟩,?_⟩
      rw [show (((r.rule.length + 1 : Nat) : Int) - (0 + (i : Int) + 1)).toNat = r.rule.length - i by omega]
      refine comp_rngL (lo := 0 + (i : Int) + 1) (n := r.rule.length - i) (by omega) rfl (fun k => Pm.co (Pm.ofRule r.b r.rule) (i + 1 + k) * r.at k) ?_ ?_
      · intro H2 k g2 hk kk hkk
        have e1 := ixr i k
        have e2 := ixv i k
        have lq : (Pm.ofRule r.b r.rule).length = r.rule.length + 1 := Pm.ofRule_len ..
        refine ⟨_,rfl,_,rfl,_,_,.inr (SqT.of (g2 _ _ (g _ _ hP))),atI_ints (ns := Pm.ofRule r.b r.rule) (ixp hk lq).1 (ixp hk lq).2,?_⟩
        refine ⟨_,rfl,_,rfl,_,_,rfl,rfl,_,rfl,_,_,rfl,rfl,_,_,.inr (SqT.of (g2 _ _ (g _ _ hS))),atI_ints (ns := r.starts) (ixq hk hl).1 (ixq hk hl).2,?_⟩
        refine ⟨mulBd (Rm.Bd.getD ok.poly_bd _) (Rm.Bd.getD ok.startsBd _) (by decide),?_⟩
        rw [e1,e2]
        have e3 : r.at k = r.starts.getD k 0 := Rm.at_lt (by omega)
        rw [e3] at hkk
        exact hkk
      · intro D hD
        have g3 := Same.new hD (.lst ((Pm.ofF (r.rule.length - i) fun k => Pm.co (Pm.ofRule r.b r.rule) (i + 1 + k) * r.at k).map V.int))
        have hL3 := g3 _ _ hL
        have lL : ((Pm.ofF i fun k => Rm.tk r.b (Pm.tp (Pm.ofRule r.b r.rule) r.at k)).map V.int).length = i := by rw [List.length_map,Pm.ofF_len]
        refine ⟨_,rfl,.inl ⟨rfl,_,SqL.of hL3⟩,_,rfl,_,rfl,D,_,rfl,SqL.of upd_same,r.b,_,rfl,ok.by0,?_⟩
        refine ⟨l0,_,_,rfl,rfl,hL3,?_,?_⟩
        · rw [lL]; exact small1000 (by omega)
        · refine ⟨_,_,rfl,(g.trans g3).upd h0 _,?_⟩
          rw [upd_same,Pm.ofF_succ,map_snoc]
          have e4 : Pm.tp (Pm.ofRule r.b r.rule) r.at i = (Pm.ofF (r.rule.length - i) fun k => Pm.co (Pm.ofRule r.b r.rule) (i + 1 + k) * r.at k).sum := by
            unfold Pm.tp
            rw [Pm.ofF,Pm.list_sum,Pm.ofRule_len,Nat.add_sub_cancel]
          rw [e4]
    · rintro σ' H' ⟨o5,o6,rfl,g,hL⟩
      refine ⟨_,rfl,l0,_,rfl,SqL.of hL,fun t1 H3 g3 h3 => ?_⟩
      refine q t1 H3 (g.trans g3) ?_
      rw [h3,topL,hl,Int.toNat_natCast]
theorem ok_shared_divisor (B : Bt mg) (F : Fn K mg "shared_divisor" s_shared_divisor ["by","one","other"]) (M : Ms K mg base A_NoBy A_TooLong) (C_whole_greatest : Cal P w K mg base "whole_greatest" 6 ["one","other"] spNever) (C_greatest : Cal P w K mg base "greatest" 5 ["by","one","other"] spGreatestQ) : Cal P w K mg base "shared_divisor" 7 ["by","one","other"] spShared := by
  refine F.cal sc_shared_divisor (fun vs H Q E h => ?_) (fun f cdv A outer s H vs Q E hr h => ?_)
  · obtain ⟨b,a,c,P,t,rfl,_⟩ := h; rfl
  · obtain ⟨b,a,c,P',t,rfl,hA,hC,zP,zt,hP,h⟩ := h
    refine ⟨_,(pss_one (ps_ret (pe_ifExp (pt_cmpR (xeq K hr) (pv 0) pe_int (nomark _)) (pe_callC C_whole_greatest hr rfl (pa_n (pv 1) (pa_n (pv 2) pa_nil))) (pe_callC C_greatest hr rfl (pa_n (pv 0) (pa_n (pv 1) (pa_n (pv 2) pa_nil))))))),?_⟩
    refine ⟨_,rfl,_,rfl,?_⟩
    refine ite2 (fun c0 => ?_) (fun c0 => ?_)
    · have c0' : b = 0 := dec_true c0
      obtain ⟨p,rfl,hp,_⟩ := h
      have := hp.1; omega
    · obtain ⟨p,rfl,hp,hpb,yP,yt,q⟩ := h
      exact ⟨_,rfl,_,rfl,_,rfl,p,a,c,P',t,rfl,hp,hpb,hA,hC,zP,zt,yP,yt,fun _ z => by have := hP.pos; rw [z] at this; exact absurd this (by decide),q⟩
theorem ok_least_of (B : Bt mg) (F : Fn K mg "least_of" s_least_of ["row"]) (M : Ms K mg base A_NoBy A_TooLong) (C_of_rule : Cal P w K mg base "of_rule" 2 ["by","rule"] spOfRule) (C_top_of : Cal P w K mg base "top_of" 2 ["row","poly"] spTop) (C_divided : Cal P w K mg base "divided" 2 ["by","one","other"] spDividedP) (C_shared_divisor : Cal P w K mg base "shared_divisor" 7 ["by","one","other"] spShared) : Cal P w K mg base "least_of" 8 ["row"] spLeast := by
  refine F.cal sc_least_of (fun vs H Q E h => ?_) (fun f cdv A outer s H vs Q E hr h => ?_)
  · obtain ⟨v,r,rfl,_⟩ := h; rfl
  · obtain ⟨v,r,rfl,⟨a0,p,p2,rfl,hA,hR,hS⟩,ok,hB,q⟩ := h
    refine ⟨_,(pss_cons (ps_set (i := 1) sc_least_of.nd rfl (Or.inl rfl) (pe_ix (xix K) (pv 0) pe_int (fun _ _ => rfl)))
      (pss_cons (ps_set (i := 2) sc_least_of.nd rfl (Or.inl rfl) (pe_callC C_of_rule hr rfl (pa_n (pv 1) (pa_cons (pe_ix (xix K) (pv 0) pe_int (fun _ _ => rfl)) pa_nil))))
      (pss_cons (ps_set (i := 3) sc_least_of.nd rfl (Or.inl rfl) (pe_callC C_top_of hr rfl (pa_n (pv 0) (pa_n (pv 2) pa_nil))))
      (pss_one (ps_ret (pe_ix (xix K) (pe_callC C_divided hr rfl (pa_n (pv 1) (pa_n (pv 2) (pa_cons (pe_callC C_shared_divisor hr rfl (pa_n (pv 1) (pa_n (pv 2) (pa_n (pv 3) pa_nil)))) pa_nil)))) pe_int (fun _ _ => rfl))))))),?_⟩
    have hs := ok.short
    have hb1 := (fun (h : ByQ r.b) => (by obtain ⟨P,hP,e⟩ := h; have := primesN_range P hP; omega : r.b < 1000)) hB
    have hm := Pm.ofRule_mon r.b r.rule
    have lq : (Pm.ofRule r.b r.rule).length = r.rule.length + 1 := Pm.ofRule_len ..
    refine ⟨_,rfl,_,_,.inr (SqT.of hA),rfl,?_⟩
    refine ⟨_,rfl,_,rfl,_,_,.inr (SqT.of hA),rfl,r.b,p,r.rule,rfl,ok.by0,hR,by omega,fun tP H1 g1 hP => ?_⟩
    refine ⟨_,rfl,_,rfl,.ref a0,r,tP,rfl,⟨a0,p,p2,rfl,g1 _ _ hA,g1 _ _ hR,g1 _ _ hS⟩,ok,hP,fun tT H2 g2 hTp => ?_⟩
    have hP2 := g2 _ _ hP
    have lt := topL_len r
    refine ⟨_,rfl,_,rfl,_,rfl,_,rfl,_,rfl,r.b,tP,tT,Pm.ofRule r.b r.rule,topL r,rfl,hP2,hTp,by omega,by omega,hm,?_⟩
    have nP := ofRule_nu r.b r.rule hB.one
    obtain ⟨P0,hP0,hb⟩ := hB
    have hp := primesN_pr hP0
    have hr := primesN_range P0 hP0
    have yP : Pm.Py (P0 : Int) (Pm.ofRule r.b r.rule) := by rw [← hb]; exact mon_py hm nP
    have yt : Pm.Py (P0 : Int) (topL r) := by rw [← hb]; exact Pm.Py.ofF ..
    refine ⟨P0,hb,hp,by omega,yP,yt,fun tg g H3 g3 hg hG hgl => ?_⟩
    refine ⟨r.b,tP,tg,Pm.ofRule r.b r.rule,g,rfl,by omega,by omega,g3 _ _ hP2,hg,by omega,by omega,hG.mon,nP,fun t x y o l H4 g4 ht hx hy D _ _ _ => ?_⟩
    refine ⟨_,_,.inr (SqT.of ht),rfl,?_⟩
    rw [hb] at D
    rw [← hb] at D
    obtain ⟨hl1,hl2⟩ := least_pr hp ok hb hG (by rw [hb] at D ⊢; exact D)
    exact q x o H4 (g1.trans (g2.trans (g3.trans g4))) hx hl1 hl2
theorem ok_shortest (B : Bt mg) (F : Fn K mg "shortest" s_shortest ["row"]) (M : Ms K mg base A_NoBy A_TooLong) (C_least_of : Cal P w K mg base "least_of" 8 ["row"] spLeast) (C_rule_of : Cal P w K mg base "rule_of" 2 ["by","poly"] spRuleOf) : Cal P w K mg base "shortest" 9 ["row"] spShort := by
  refine F.cal sc_shortest (fun vs H Q E h => ?_) (fun f cdv A outer s H vs Q E hr h => ?_)
  · obtain ⟨v,r,rfl,_⟩ := h; rfl
  · obtain ⟨v,r,rfl,⟨a0,p,p2,rfl,hA,hR,hS⟩,ok,hB,q⟩ := h
    refine ⟨_,(pss_cons (ps_set (i := 1) sc_shortest.nd rfl (Or.inl rfl) (pe_callC C_least_of hr rfl (pa_n (pv 0) pa_nil)))
      (pss_cons (ps_set (i := 2) sc_shortest.nd rfl (Or.inl rfl) (pe_callC C_rule_of hr rfl (pa_cons (pe_ix (xix K) (pv 0) pe_int (fun _ _ => rfl)) (pa_n (pv 1) pa_nil))))
      (pss_one (ps_ret (pe_tup (pa_cons (pe_ix (xix K) (pv 0) pe_int (fun _ _ => rfl)) (pa_n (pv 2) (pa_cons (pe_callTy (xtuple K) rfl B.b_tuple boot_tuple (pa_cons (pe_slice (xsl K) (pe_ix (xix K) (pv 0) pe_int (fun _ _ => rfl)) po_none (po_some (pe_callB (xlen K) rfl B.b_len boot_len (pa_n (pv 2) pa_nil)))) pa_nil)) pa_nil)))))))),?_⟩
    have hs := ok.short
    have hl := ok.len
    have lS : (r.starts.map V.int).length = r.starts.length := List.length_map _
    refine ⟨_,rfl,.ref a0,r,rfl,⟨a0,p,p2,rfl,hA,hR,hS⟩,ok,hB,fun tL L H1 g1 hL lst ll => ?_⟩
    have hLp := lst.mon.pos
    refine ⟨_,rfl,_,_,.inr (SqT.of (g1 _ _ hA)),rfl,_,rfl,r.b,tL,L,rfl,ok.by0,hL,hLp,by omega,fun tR H2 g2 hR2 => ?_⟩
    have lR : ((Pm.ruleOf r.b L).map V.int).length = L.length - 1 := by rw [List.length_map,Pm.ruleOf_len]
    have hA2 := (g1.trans g2) _ _ hA
    have hS2 := (g1.trans g2) _ _ hS
    refine ⟨_,rfl,_,_,.inr (SqT.of hA2),rfl,_,rfl,_,rfl,_,_,.inr (SqT.of hA2),rfl,?_⟩
    refine ⟨_,rfl,.ref tR,L.length - 1,rfl,.inr ⟨_,SqT.of hR2,lR.symm⟩,?_⟩
    refine ⟨_,rfl,?_⟩
    by_cases hw : r.starts.length ≤ L.length - 1
    · refine .inr (.inr ⟨_,SqT.of hS2,?_,?_⟩)
      · rw [HT.sIx_nat,HT.sIx_none,lS]; omega
      · refine ⟨p2,_,rfl,.inr ⟨SqT.of hS2,?_⟩⟩
        refine ⟨(by show 3 ≤ sizeLine; decide),fun t ht => ?_⟩
        have g3 := Same.new ht (.tup [.int r.b,.ref tR,.ref p2])
        refine q (.ref t) L _ (g1.trans (g2.trans g3)) ⟨t,tR,p2,rfl,upd_same,g3 _ _ hR2,?_⟩ lst ll
        show _ = some (HO.tup ((r.starts.take (L.length - 1)).map V.int))
        rw [List.take_of_length_le hw]
        exact g3 _ _ hS2
    · refine .inr (.inl ⟨_,SqT.of hS2,?_,fun p3 hp3 => ?_⟩)
      · rw [HT.sIx_nat,HT.sIx_none,lS]; omega
      · refine ⟨p3,_,rfl,.inr ⟨SqT.of upd_same,?_⟩⟩
        have g3 := Same.new hp3 (.tup (cutV (r.starts.map V.int) none (some ((L.length - 1 : Nat) : Int))))
        refine ⟨(by show 3 ≤ sizeLine; decide),fun t ht => ?_⟩
        have g4 := Same.new ht (.tup [.int r.b,.ref tR,.ref p3])
        refine q (.ref t) L _ (g1.trans (g2.trans (g3.trans g4))) ⟨t,tR,p3,rfl,upd_same,(g3.trans g4) _ _ hR2,?_⟩ lst ll
        show _ = some (HO.tup ((r.starts.take (L.length - 1)).map V.int))
        rw [List.map_take,← cut_to]
        exact g4 _ _ upd_same
theorem ok_refuse_wide (B : Bt mg) (F : Fn K mg "refuse_wide" s_refuse_wide ["prime","length"]) (M : Ms K mg base A_NoBy A_TooLong) : Cal P w K mg base "refuse_wide" 1 ["prime","length"] (spWide A_TooLong) := by
  refine F.calF sc_refuse_wide (fun vs H Q E h => ?_) (fun f cdv A outer s H vs Q E hr h => ?_)
  · obtain ⟨P',l,rfl,_⟩ := h; rfl
  · obtain ⟨P',l,rfl,hP,hl,q1,q2⟩ := h
    refine ⟨_,(pss_cons (ps_set (i := 2) sc_refuse_wide.nd rfl (Or.inl rfl) pe_int)
      (pss_cons (ps_for PassesOwn.leaving rfl (pi_range1 rfl B.b_range (pa_n (pv 1) pa_nil)) (pg_name (i := 3) sc_refuse_wide.nd rfl (Or.inl rfl))
      (pss_one (ps_set (i := 2) sc_refuse_wide.nd rfl (Or.inl rfl) (pe_op v_mul (pv 2) (pv 0)))))
      (pss_one (ps_if (pt_cmpR op_gt (pv 2) (pe_globI rfl B.g_MOST_WINDOWS) (nomark _))
      (pss_one (ps_raise M.x_TooLong rfl (pa_k pe_str pa_nil)))
      pss_nil)))),?_⟩
    refine ⟨_,rfl,(l : Int),rfl,(by omega : -(2 ^ 62) ≤ (l : Int)),(by omega : (l : Int) < 2 ^ 62),?_⟩
    rw [Int.toNat_natCast]
    refine for_range (lo := 0) (n := l) (fun i σ' H' => ∃ o3 : Option V,σ' = [some (.int P'),some (.int l),some (.int ((P' ^ i : Nat) : Int)),o3] ∧ H = H') ⟨_,rfl,rfl⟩ ?_ ?_
    · rintro i σ' H' hi ⟨o3,rfl,rfl⟩
      refine ⟨_,rfl,_,rfl,mulR (by omega) (by omega),some (.int (0 + (i : Int))),?_,rfl⟩
      rw [Nat.pow_succ,Int.natCast_mul]; rfl
    · rintro σ' H' ⟨o3,rfl,rfl⟩
      refine ⟨_,rfl,_,_,rfl,rfl,_,rfl,?_⟩
      refine ite2 (fun c => ⟨(by show 1 ≤ sizeLine; decide),q2 ?_⟩) (fun c => q1 ?_)
      · have c' : (4096 : Int) < ((P' ^ l : Nat) : Int) := dec_true c
        omega
      · have c' : ¬ (4096 : Int) < ((P' ^ l : Nat) : Int) := dec_false c
        omega
theorem ok_round_row (B : Bt mg) (F : Fn K mg "round_row" s_round_row ["row"]) (M : Ms K mg base A_NoBy A_TooLong) (C_shortest : Cal P w K mg base "shortest" 9 ["row"] spShort) (C_refuse_wide : Cal P w K mg base "refuse_wide" 1 ["prime","length"] (spWide A_TooLong)) : Cal P w K mg base "round_row" 10 ["row"] (spRoundRow A_NoBy A_TooLong) := by
  refine F.calF sc_round_row (fun vs H Q E h => ?_) (fun f cdv A outer s H vs Q E hr h => ?_)
  · obtain ⟨v,r,rfl,_⟩ := h; rfl
  · obtain ⟨v,r,rfl,hR,ok,q1,q2⟩ := h
    refine ⟨_,(pss_cons (ps_if (pt_cmpR (xeq K hr) (pe_ix (xix K) (pv 0) pe_int (fun _ _ => rfl)) pe_int (nomark _))
      (pss_one (ps_raise M.x_NoBy rfl (pa_k pe_str pa_nil)))
      pss_nil)
      (pss_cons (ps_set (i := 1) sc_round_row.nd rfl (Or.inl rfl) (pe_callC C_shortest hr rfl (pa_n (pv 0) pa_nil)))
      (pss_cons (ps_expr (pe_callCF C_refuse_wide hr rfl (pa_cons (pe_ix (xix K) (pv 0) pe_int (fun _ _ => rfl)) (pa_cons (pe_callB (xlen K) rfl B.b_len boot_len (pa_cons (pe_ix (xix K) (pv 1) pe_int (fun _ _ => rfl)) pa_nil)) pa_nil))))
      (pss_one (ps_ret (pv 1)))))),?_⟩
    have hR' := hR
    obtain ⟨a,p,p2,rfl,hA,hRu,hS⟩ := hR
    refine ⟨_,rfl,_,_,.inr (SqT.of hA),rfl,_,rfl,?_⟩
    refine ite2 (fun c => ⟨(by show 1 ≤ sizeLine; decide),q1 (dec_true c)⟩) (fun c => ?_)
    have c' : r.b ≠ 0 := dec_false c
    obtain ⟨hB,q3⟩ := q2 c'
    refine ⟨_,rfl,.ref a,r,rfl,hR',ok,hB,fun v' L H1 g1 hR1 hL hl => ?_⟩
    obtain ⟨q4,q5⟩ := q3 L hL hl
    obtain ⟨P0,hP0,eb⟩ := hB
    have hr := primesN_range P0 hP0
    have hs := ok.short
    rw [eb,Int.toNat_natCast] at q4 q5
    obtain ⟨a1,r1,s1,rfl,hA1,hRu1,hS1⟩ := id hR1
    have lR : ((shortR r L).rule.map V.int).length = L.length - 1 := by
      rw [List.length_map]; exact Pm.ruleOf_len ..
    refine ⟨_,rfl,_,_,.inr (SqT.of (g1 _ _ hA)),rfl,_,rfl,_,_,.inr (SqT.of hA1),rfl,.ref r1,L.length - 1,rfl,.inr ⟨_,SqT.of hRu1,lR.symm⟩,?_⟩
    refine ⟨P0,L.length - 1,by rw [eb]; rfl,by omega,by omega,fun hw => ?_,fun hw => q4 hw _ g1⟩
    exact ⟨_,rfl,q5 hw _ _ g1 hR1⟩
theorem ok_came_round (B : Bt mg) (F : Fn K mg "came_round" s_came_round ["row"]) (M : Ms K mg base A_NoBy A_TooLong) (C_next_place : Cal P w K mg base "next_place" 2 ["by","rule","before"] (spNext K)) : Cal P w K mg base "came_round" 3 ["row"] spCame := by
  refine F.cal sc_came_round (fun vs H Q E h => ?_) (fun f cdv A outer s H vs Q E hr h => ?_)
  · obtain ⟨v,r,rfl,_⟩ := h; rfl
  · obtain ⟨v,r,rfl,⟨a,p,p2,rfl,hA,hR,hS⟩,ok,hb,hw,q⟩ := h
    refine ⟨_,(pss_cons (ps_set (i := 1) sc_came_round.nd rfl (Or.inl rfl) (pe_ix (xix K) (pv 0) pe_int (fun _ _ => rfl)))
      (pss_cons (ps_set (i := 2) sc_came_round.nd rfl (Or.inl rfl) (pe_ix (xix K) (pv 0) pe_int (fun _ _ => rfl)))
      (pss_cons (ps_set (i := 3) sc_came_round.nd rfl (Or.inl rfl) (pe_bar (pe_ix (xix K) (pv 0) pe_int (fun _ _ => rfl))))
      (pss_cons (ps_set (i := 4) sc_came_round.nd rfl (Or.inl rfl) pe_dnewT)
      (pss_cons (ps_while PassesOwn.never (pt_cmp (pc_dnotin hr.hu (pv 3) (pv 4)))
      (pss_cons (ps_dput hr.hu (pv 4) (pv 3) (pe_callB call_lenT rfl B.b_len boot_len (pa_n (pv 4) pa_nil)) rfl)
      (pss_one (ps_set (i := 3) sc_came_round.nd rfl (Or.inl rfl) (pe_bar (pe_slice (xsl K) (pe_op (xadd K) (pv 3) (pe_tup (pa_cons (pe_callC C_next_place hr rfl (pa_n (pv 1) (pa_n (pv 2) (pa_n (pv 3) pa_nil)))) pa_nil))) (po_some pe_int) po_none))))))
      (pss_cons (ps_set (i := 5) sc_came_round.nd rfl (Or.inl rfl) (pe_dget hr.hu (pv 4) (pv 3) (fun _ _ => rfl)))
      (pss_one (ps_ret (pe_tup (pa_n (pv 5) (pa_b (pe_op op_sub (pe_callB call_lenT rfl B.b_len boot_len (pa_n (pv 4) pa_nil)) (pv 5)) pa_nil))))))))))),?_⟩
    have hl := ok.len
    have hs := ok.short
    refine ⟨_,rfl,_,_,.inr (SqT.of hA),rfl,?_⟩
    refine ⟨_,rfl,_,_,.inr (SqT.of hA),rfl,?_⟩
    refine Bar.by (fun v H1 => v = .ref p2 ∧ H = H1) (fun kk hkk => ⟨_,rfl,_,_,.inr (SqT.of hA),rfl,hkk _ _ ⟨rfl,rfl⟩⟩) ?_
    rintro _ _ ⟨rfl,rfl⟩
    refine fun sd hsd => ?_
    have g0 := Same.new hsd (.dT [])
    have w0 : Pm.win r.at r.rule.length 0 = r.starts := by
      refine Pm.co_ext (by rw [Pm.win_len]; exact hl) fun k => ?_
      by_cases c : k < r.rule.length
      · exact (Pm.win_get _ c).trans (by rw [Nat.zero_add]; exact Rm.at_lt (by omega))
      · rw [Pm.co_ge (by rw [Pm.win_len]; omega),Pm.co_ge (by omega)]
    have hrng : ∀ i,0 ≤ r.at i ∧ r.at i < ((r.b.toNat : Nat) : Int) := fun i => by
      rw [Int.toNat_of_nonneg (by omega)]
      refine Rm.at_range hl hb (fun x hx => ?_) i
      rcases ok.startsNum x hx with z | z
      · omega
      · exact z
    refine ⟨fun m σ' H' => ∃ (n : Nat) (wa : Addr) (kvs : List (List Key × V)),m = 4096 - n ∧ n ≤ 4096 ∧ σ' = [some (.ref a),some (.int r.b),some (.ref p),some (.ref wa),some (.ref sd),none] ∧ Same H H' ∧ H' wa = some (.tup ((Pm.win r.at r.rule.length n).map V.int)) ∧ H' sd = some (.dT kvs) ∧ Seen r.at r.rule.length n kvs,
      ⟨_,0,p2,[],rfl,by decide,rfl,g0,by rw [w0]; exact g0 _ _ hS,upd_same,⟨rfl,fun i hi => absurd hi (Nat.not_lt_zero _),fun _ _ => rfl,fun i j _ hj => absurd hj (Nat.not_lt_zero _)⟩⟩,?_⟩
    rintro m σ' H' ⟨n,wa,kvs,rfl,hn,rfl,g,hwa,hkv,sn⟩
    have hwk : H' wa = some (.tup ((KK (Pm.win r.at r.rule.length n)).map kV)) := by rw [KK_map]; exact hwa
    refine ⟨_,rfl,_,rfl,sd,_,rfl,DGet.t hkv hwk,_,rfl,?_⟩
    refine ite2 (fun c => ?_) (fun c => ?_)
    · have hnone : valV kvs (KK (Pm.win r.at r.rule.length n)) = none := by
        cases e : valV kvs (KK (Pm.win r.at r.rule.length n)) with
        | none => rfl
        | some u => rw [e] at c; exact absurd c (by simp)
      have sn' := sn.more hnone
      have hn1 : n + 1 ≤ 4096 := Nat.le_trans (Pm.win_most hrng sn'.diff) hw
      refine ⟨_,fun _ _ z => z,?_⟩
      refine ⟨_,rfl,sd,kvs,rfl,hkv,_,rfl,_,rfl,sd,_,rfl,DPut.t hkv hwk (by rw [sn.len]; exact Nat.lt_of_le_of_lt hn (by decide)),?_⟩
      rw [sn.len]
      have hne : wa ≠ sd := fun z => by rw [z,hkv] at hwa; cases hwa
      have fsd : H sd = none := hsd
      have g2 : Same H (upd H' sd (.dT (putK kvs (KK (Pm.win r.at r.rule.length n)) (.int (n : Int))))) := g.upd fsd _
      have hwa2 : (upd H' sd (.dT (putK kvs (KK (Pm.win r.at r.rule.length n)) (.int (n : Int))))) wa = some (.tup ((Pm.win r.at r.rule.length n).map V.int)) := by rw [upd_ne hne]; exact hwa
      have hkv2 : (upd H' sd (.dT (putK kvs (KK (Pm.win r.at r.rule.length n)) (.int (n : Int))))) sd = some (.dT (putK kvs (KK (Pm.win r.at r.rule.length n)) (.int (n : Int)))) := upd_same
      generalize upd H' sd (.dT (putK kvs (KK (Pm.win r.at r.rule.length n)) (.int (n : Int)))) = H2 at g2 hwa2 hkv2
      have wl := Pm.win_len r.at r.rule.length n
      have bw : ∀ x ∈ Pm.win r.at r.rule.length n,Rm.Bd 2100000 x := fun x hx => by
        obtain ⟨j,_,rfl⟩ := List.mem_map.mp hx
        have := hrng (n + j)
        exact (tk_bdD' ok.by1 this.1 (by have := this.2; rw [Int.toNat_of_nonneg (by omega)] at this; exact this)).mono (by decide)
      have ev : Rm.tk r.b (Rm.S r.rule (fun i => (Pm.win r.at r.rule.length n).getD i 0) (Pm.win r.at r.rule.length n).length r.rule.length) = r.at (n + r.rule.length) := by
        rw [wl]
        have e1 : r.at (n + r.rule.length) = Rm.tk r.b (Rm.S r.rule r.at (n + r.rule.length) r.rule.length) := Rm.at_ge hl (by omega)
        rw [e1,← Rm.S_shift (f := r.at) (d := n) (Nat.le_refl _)]
        refine congrArg _ (Rm.S_congr fun k hk => ?_)
        exact Pm.win_get _ (by omega)
      refine Bar.by (fun v H1 => ∃ w1,v = .ref w1 ∧ Same H2 H1 ∧ H1 w1 = some (.tup ((Pm.win r.at r.rule.length (n + 1)).map V.int))) (fun kk hkk => ?_) ?_
      · refine ⟨_,rfl,_,rfl,_,rfl,_,rfl,r.b,p,wa,r.rule,Pm.win r.at r.rule.length n,rfl,ok.by0,SqT.of (g2 _ _ hR),.inr (SqT.of hwa2),by rw [wl]; exact Nat.le_refl _,hs,by rw [wl]; omega,ok.ruleBd,bw,?_⟩
        rw [ev]
        refine ⟨(by show 1 ≤ sizeLine; decide),fun t1 ht1 => ?_⟩
        have g3 := Same.new ht1 (.tup [.int (r.at (n + r.rule.length))])
        have h3 : (upd H2 t1 (.tup [.int (r.at (n + r.rule.length))])) t1 = some (.tup [.int (r.at (n + r.rule.length))]) := upd_same
        have hwa3 := g3 _ _ hwa2
        generalize upd H2 t1 (.tup [.int (r.at (n + r.rule.length))]) = H3 at g3 h3 hwa3
        have ecut : cutV ((Pm.win r.at r.rule.length n).map V.int ++ [.int (r.at (n + r.rule.length))]) (some 1) none = (Pm.win r.at r.rule.length (n + 1)).map V.int := by
          have := cut_from ((Pm.win r.at r.rule.length n).map V.int ++ [.int (r.at (n + r.rule.length))]) (k := 1) (by rw [List.length_append]; simp)
          rw [← Pm.win_next,List.map_drop,List.map_append]
          exact this
        have lc : ((Pm.win r.at r.rule.length n).map V.int ++ [V.int (r.at (n + r.rule.length))]).length = r.rule.length + 1 := by rw [List.length_append,List.length_map,wl]; rfl
        refine .inr ⟨_,_,SqT.of hwa3,SqT.of h3,?_,fun e => ?_,fun _ z => (by cases z),fun e _ p4 hp4 => ?_⟩
        · rw [List.length_map,wl]
          exact Nat.le_of_lt (small1000 (by show r.rule.length + 1 ≤ 1000; omega))
        · rw [e,List.nil_append] at ecut lc
          refine ⟨_,rfl,.inr (.inl ⟨_,SqT.of h3,?_,fun p5 hp5 => ?_⟩)⟩
          · rw [lc]
            show ¬ (HT.sIx (r.rule.length + 1) 0 (some ((1 : Nat) : Int)) = 0 ∧ _)
            rw [HT.sIx_nat]; omega
          · exact hkk _ _ ⟨p5,rfl,g3.trans (Same.new hp5 _),by rw [upd_same,ecut]⟩
        · have g4 := Same.new hp4 (.tup ((Pm.win r.at r.rule.length n).map V.int ++ [.int (r.at (n + r.rule.length))]))
          refine ⟨_,rfl,.inr (.inl ⟨_,SqT.of upd_same,?_,fun p5 hp5 => ?_⟩)⟩
          · rw [lc]
            show ¬ (HT.sIx (r.rule.length + 1) 0 (some ((1 : Nat) : Int)) = 0 ∧ _)
            rw [HT.sIx_nat]; omega
          · exact hkk _ _ ⟨p5,rfl,g3.trans (g4.trans (Same.new hp5 _)),by rw [upd_same,ecut]⟩
      · rintro _ H4 ⟨w1,rfl,g4,hw1⟩
        exact ⟨4096 - (n + 1),by omega,n + 1,w1,_,rfl,hn1,rfl,g2.trans g4,hw1,g4 _ _ hkv2,sn'⟩
    · obtain ⟨i,hi,ei⟩ : ∃ i,i < n ∧ Pm.win r.at r.rule.length n = Pm.win r.at r.rule.length i := by
        refine Classical.byContradiction fun hno => c ?_
        rw [sn.out _ fun i hi z => hno ⟨i,hi,KK_inj z⟩]; rfl
      have hv : valV kvs (KK (Pm.win r.at r.rule.length n)) = some (.int (i : Int)) := by rw [ei]; exact sn.at_ i hi
      have hg := DGet.t hkv hwk
      rw [hv] at hg
      refine ⟨_,rfl,_,rfl,sd,_,rfl,hg,?_⟩
      refine ⟨_,rfl,_,rfl,sd,kvs,rfl,hkv,_,rfl,_,_,rfl,rfl,?_⟩
      rw [sn.len]
      refine ⟨(by show 2 ≤ sizeLine; decide),fun p6 hp6 => ?_⟩
      refine q i (n - i) p6 _ (g.trans (Same.new hp6 _)) ?_ ⟨by omega,?_,fun x y hxy hy => sn.diff x y hxy (by omega)⟩
      · rw [upd_same]
        show some (HO.tup [.int (i : Int),.int ((n : Int) - (i : Int))]) = _
        rw [show (n : Int) - (i : Int) = ((n - i : Nat) : Int) by omega]
      · rw [show i + (n - i) = n by omega]; exact ei
theorem ok_round_of (B : Bt mg) (F : Fn K mg "round_of" s_round_of ["row"]) (M : Ms K mg base A_NoBy A_TooLong) (C_came_round : Cal P w K mg base "came_round" 3 ["row"] spCame) (C_round_row : Cal P w K mg base "round_row" 10 ["row"] (spRoundRow A_NoBy A_TooLong)) : Cal P w K mg base "round_of" 11 ["row"] (spRoundOf A_NoBy A_TooLong) := by
  refine F.calF sc_round_of (fun vs H Q E h => ?_) (fun f cdv A outer s H vs Q E hr h => ?_)
  · obtain ⟨v,r,rfl,_⟩ := h; rfl
  · obtain ⟨v,r,rfl,hR,ok,q1,q2⟩ := h
    refine ⟨_,(pss_one (ps_ret (pe_callC C_came_round hr rfl (pa_cons (pe_callCF C_round_row hr rfl (pa_n (pv 0) pa_nil)) pa_nil)))),?_⟩
    refine ⟨_,rfl,v,r,rfl,hR,ok,q1,fun hb => ⟨(q2 hb).1,fun L hL hl => ⟨((q2 hb).2 L hL hl).1,fun hw v' H1 g1 hR1 => ?_⟩⟩⟩
    have q3 := ((q2 hb).2 L hL hl).2 hw
    have hB := (q2 hb).1
    have h0 := ok.by0
    have le : (shortR r L).rule.length = L.length - 1 := Pm.ruleOf_len ..
    refine ⟨v',shortR r L,rfl,hR1,shortR_ok ok hB hL hl,(by show 0 < r.b; omega),by rw [le]; exact hw,fun bg ln p H2 g2 hp hRd => ?_⟩
    refine q3 bg ln p H2 (g1.trans g2) hp ?_
    have e : (shortR r L).at = r.at := funext fun n => shortR_at ok.at_tk hL (by have := ok.len; omega) n
    rw [e,le] at hRd
    exact hRd
theorem ok_where (B : Bt mg) (F : Fn K mg "where" s_where ["row","number"]) (M : Ms K mg base A_NoBy A_TooLong) (C_round_row : Cal P w K mg base "round_row" 10 ["row"] (spRoundRow A_NoBy A_TooLong)) (C_came_round : Cal P w K mg base "came_round" 3 ["row"] spCame) (C_first_places : Cal P w K mg base "first_places" 3 ["row","count"] (spFirst K)) : Cal P w K mg base "where" 12 ["row","number"] (spWhere A_NoBy A_TooLong) := by
  refine F.calF sc_where (fun vs H Q E h => ?_) (fun f cdv A outer s H vs Q E hr h => ?_)
  · obtain ⟨v,r,x,rfl,_⟩ := h; rfl
  · obtain ⟨v,r,x,rfl,hR,ok,q1,q2⟩ := h
    refine ⟨_,(pss_cons (ps_set (i := 2) sc_where.nd rfl (Or.inl rfl) (pe_callCF C_round_row hr rfl (pa_n (pv 0) pa_nil)))
      (pss_cons (ps_set (i := 3) sc_where.nd rfl (Or.inl rfl) (pe_callC C_came_round hr rfl (pa_n (pv 2) pa_nil)))
      (pss_cons (ps_set (i := 4) sc_where.nd rfl (Or.inl rfl) (pe_ix (xix K) (pv 3) pe_int (fun _ _ => rfl)))
      (pss_cons (ps_set (i := 5) sc_where.nd rfl (Or.inl rfl) (pe_ix (xix K) (pv 3) pe_int (fun _ _ => rfl)))
      (pss_cons (ps_set (i := 6) sc_where.nd rfl (Or.inr rfl) (pe_callC C_first_places hr rfl (pa_n (pv 2) (pa_b (pe_op (xadd K) (pv 4) (pv 5)) pa_nil))))
      (pss_cons (ps_setC (i := 7) (hN := sc_where.nd) (hi' := rfl) (hx := (Or.inl rfl)) (sc := cs_where1) (N := ["n","number","numbers"]) (ix := [none,some 1,some 6]) (comp_mk (by kernel_rfl) (by kernel_rfl) (by kernel_rfl) (by kernel_rfl) (by kernel_rfl) (by kernel_rfl) (by kernel_rfl) (by kernel_rfl)) rfl (pi_range1 rfl B.b_range (pa_n (pv 4) pa_nil)) (fun cl C s₀ H₀ ex => ⟨(pg_name (i := 0) (show (["n","number","numbers"] : List Str).Nodup by decide +kernel) rfl (Or.inl rfl)),(pif_one (pt_cmpR (xeq K hr) (pe_ix (xix K) (pv 2) (pv 0) (fun _ _ => rfl)) (pv 1) (nomark _))),(pv 0)⟩))
      (pss_cons (ps_setC (i := 8) (hN := sc_where.nd) (hi' := rfl) (hx := (Or.inl rfl)) (sc := cs_where2) (N := ["n","number","numbers"]) (ix := [none,some 1,some 6]) (comp_mk (by kernel_rfl) (by kernel_rfl) (by kernel_rfl) (by kernel_rfl) (by kernel_rfl) (by kernel_rfl) (by kernel_rfl) (by kernel_rfl)) rfl (pi_range2 rfl B.b_range (pa_n (pv 4) (pa_b (pe_op (xadd K) (pv 4) (pv 5)) pa_nil))) (fun cl C s₀ H₀ ex => ⟨(pg_name (i := 0) (show (["n","number","numbers"] : List Str).Nodup by decide +kernel) rfl (Or.inl rfl)),(pif_one (pt_cmpR (xeq K hr) (pe_ix (xix K) (pv 2) (pv 0) (fun _ _ => rfl)) (pv 1) (nomark _))),(pv 0)⟩))
      (pss_one (ps_ret (pe_tup (pa_n (pv 7) (pa_n (pv 8) (pa_n (pv 5) pa_nil))))))))))))),?_⟩
    refine ⟨_,rfl,v,r,rfl,hR,ok,q1,fun hb => ⟨(q2 hb).1,fun L hL hl => ⟨((q2 hb).2 L hL hl).1,fun hw v' H1 g1 hR1 => ?_⟩⟩⟩
    have q3 := ((q2 hb).2 L hL hl).2 hw
    have hB := (q2 hb).1
    have h0 := ok.by0
    have le : (shortR r L).rule.length = L.length - 1 := Pm.ruleOf_len ..
    have e : (shortR r L).at = r.at := funext fun n => shortR_at ok.at_tk hL (by have := ok.len; omega) n
    have okS := shortR_ok ok hB hL hl
    refine ⟨_,rfl,v',shortR r L,rfl,hR1,okS,(by show 0 < r.b; omega),by rw [le]; exact hw,fun bg ln p H2 g2 hp hRd => ?_⟩
    rw [e,le] at hRd
    have hrng : ∀ i,0 ≤ r.at i ∧ r.at i < ((r.b.toNat : Nat) : Int) := fun i => by
      rw [Int.toNat_of_nonneg (by omega)]
      refine Rm.at_range ok.len (by omega) (fun x hx => ?_) i
      rcases ok.startsNum x hx with z | z
      · omega
      · exact z
    have hbl : bg + ln ≤ 4096 := Nat.le_trans (Pm.win_most (l := L.length - 1) hrng hRd.first) hw
    refine ⟨_,rfl,_,_,.inr (SqT.of hp),rfl,?_⟩
    refine ⟨_,rfl,_,_,.inr (SqT.of hp),rfl,?_⟩
    refine ⟨_,rfl,_,rfl,_,rfl,v',shortR r L,_,rfl,hR1.same g2,okS,(by show 0 < r.b; omega),(by omega : (0 : Int) ≤ (bg : Int) + (ln : Int)),(by omega : (bg : Int) + (ln : Int) ≤ 4096),fun l H3 g3 hl3 hr3 => ?_⟩
    have er : (shortR r L).row (((bg : Int) + (ln : Int)).toNat) = (List.range (bg + ln)).map r.at := by
      have e1 : (shortR r L).row (((bg : Int) + (ln : Int)).toNat) = (List.range (((bg : Int) + (ln : Int)).toNat)).map (shortR r L).at := Rm.row_eq ..
      rw [e1,e,show ((bg : Int) + (ln : Int)).toNat = bg + ln by omega]
    rw [er] at hr3
    obtain ⟨nu,hnu⟩ : ∃ nu : List Int,nu = (List.range (bg + ln)).map r.at := ⟨_,rfl⟩
    rw [← hnu] at hr3
    have lnu : nu.length = bg + ln := by rw [hnu,List.length_map,List.length_range]
    have gnu : ∀ i,i < bg + ln → nu.getD i 0 = r.at i := fun i hi => by
      rw [hnu,List.getD_eq_getElem?_getD,List.getElem?_map,List.getElem?_range hi]; rfl
    have gA := g1.trans (g2.trans g3)
    refine ⟨_,rfl,(bg : Int),rfl,(by omega : -(2 ^ 62) ≤ (bg : Int)),(by omega : (bg : Int) < 2 ^ 62),?_⟩
    rw [Int.toNat_natCast]
    refine comp_rngW (lo := 0) (Nat.le_trans (show bg ≤ 4096 by omega) (by decide)) rfl (atIs r.at x) ?_ ?_ ?_
    · intro H5 k g5 hk kk hkk
      refine ⟨_,rfl,_,rfl,_,_,.inl (SqL.of (g5 _ _ hr3)),atI_ints (ns := nu) (by omega : (0 : Int) ≤ ((0 : Nat) : Int) + (k : Int)) (by omega),_,rfl,_,rfl,?_⟩
      rw [show (((0 : Nat) : Int) + (k : Int)).toNat = 0 + k by omega,gnu _ (by omega)]
      exact hkk
    · intro H5 k g5 hk kk hkk
      exact ⟨_,rfl,hkk⟩
    intro D1 hD1
    have g4 := Same.new hD1 (.lst ((whr (atIs r.at x) 0 bg).map V.int))
    have h4 : (upd H3 D1 (.lst ((whr (atIs r.at x) 0 bg).map V.int))) D1 = some (.lst ((whr (atIs r.at x) 0 bg).map V.int)) := upd_same
    have hr4 := g4 _ _ hr3
    have fD1 := gA.free hD1
    generalize upd H3 D1 (.lst ((whr (atIs r.at x) 0 bg).map V.int)) = H4 at g4 h4 hr4
    refine ⟨_,rfl,_,rfl,_,rfl,_,_,rfl,⟨(by omega : -(2 ^ 62) ≤ (bg : Int)),(by omega : (bg : Int) < 2 ^ 62),(by omega : -(2 ^ 62) ≤ (bg : Int) + (ln : Int)),(by omega : (bg : Int) + (ln : Int) < 2 ^ 62)⟩,?_⟩
    rw [show ((bg : Int) + (ln : Int) - (bg : Int)).toNat = ln by omega]
    refine comp_rngW (Nat.le_trans (show ln ≤ 4096 by omega) (by decide)) rfl (atIs r.at x) ?_ ?_ ?_
    · intro H5 k g5 hk kk hkk
      refine ⟨_,rfl,_,rfl,_,_,.inl (SqL.of (g5 _ _ hr4)),atI_ints (ns := nu) (by omega : (0 : Int) ≤ (bg : Int) + (k : Int)) (by omega),_,rfl,_,rfl,?_⟩
      rw [show ((bg : Int) + (k : Int)).toNat = bg + k by omega,gnu _ (by omega)]
      exact hkk
    · intro H5 k g5 hk kk hkk
      exact ⟨_,rfl,hkk⟩
    intro D2 hD2
    have g5 := Same.new hD2 (.lst ((whr (atIs r.at x) bg ln).map V.int))
    have h5 : (upd H4 D2 (.lst ((whr (atIs r.at x) bg ln).map V.int))) D2 = some (.lst ((whr (atIs r.at x) bg ln).map V.int)) := upd_same
    have fD2 := (gA.trans g4).free hD2
    have ne : D1 ≠ D2 := fun z => by rw [← z,h4] at hD2; cases hD2
    have h4' := g5 _ _ h4
    generalize upd H4 D2 (.lst ((whr (atIs r.at x) bg ln).map V.int)) = H5 at g5 h5 h4'
    refine ⟨_,rfl,_,rfl,_,rfl,(by show 3 ≤ sizeLine; decide),fun p9 hp9 => ?_⟩
    have g6 := Same.new hp9 (.tup [.ref D1,.ref D2,.int (ln : Int)])
    exact q3 bg ln p9 D1 D2 _ (gA.trans (g4.trans (g5.trans g6))) hRd hbl upd_same (g6 _ _ h4') (g6 _ _ h5) fD1 fD2 ne
theorem ok_refuse_far_jump (B : Bt mg) (F : Fn K mg "refuse_far_jump" s_refuse_far_jump ["by","n"]) (M : Ms K mg base A_NoBy A_TooLong) : Cal P w K mg base "refuse_far_jump" 1 ["by","n"] spRefJ := by
  refine F.cal sc_refuse_far_jump (fun vs H Q E h => ?_) (fun f cdv A outer s H vs Q E hr h => ?_)
  · obtain ⟨b,n,rfl,_⟩ := h; rfl
  · obtain ⟨b,n,rfl,h0,h1,q⟩ := h
    refine ⟨_,(pss_one (ps_if (PW.pt (pw_or (pt_cmpR op_lt (pv 1) pe_int (nomark _)) (pw_or1 (PW.pt (pw_and (pt_cmpR (xeq K hr) (pv 0) pe_int (nomark _)) (pw_and1 (pt_cmpR op_gt (pv 1) (pe_globI rfl B.g_FARTHEST_BY_0) (nomark _))))))))
      (pss_one ps_never)
      pss_nil)),?_⟩
    refine ⟨_,rfl,_,_,rfl,rfl,_,rfl,?_⟩
    rw [decide_eq_false (by omega : ¬ n < 0)]
    refine iteF ?_
    refine ⟨_,rfl,_,rfl,?_⟩
    refine ite2 (fun c => ?_) (fun c => ?_)
    · have := h1 (dec_true c)
      refine ⟨_,rfl,_,_,rfl,rfl,_,rfl,?_⟩
      rw [decide_eq_false (by omega : ¬ n > 400)]
      exact iteF q
    · exact iteF q
theorem ok_power_left (B : Bt mg) (F : Fn K mg "power_left" s_power_left ["by","poly","n"]) (M : Ms K mg base A_NoBy A_TooLong) (C_divided : Cal P w K mg base "divided" 2 ["by","one","other"] spDividedP) (C_times : Cal P w K mg base "times" 2 ["by","one","other"] spTimes) : Cal P w K mg base "power_left" 3 ["by","poly","n"] spPower := by
  refine F.cal sc_power_left (fun vs H Q E h => ?_) (fun f cdv A outer s H vs Q E hr h => ?_)
  · obtain ⟨b,a,rule,n,rfl,_⟩ := h; rfl
  · obtain ⟨b,a,rule,n,rfl,hBq,hA,hrl,hN,q⟩ := h
    refine ⟨_,(pss_cons (ps_set (i := 3) sc_power_left.nd rfl (Or.inl rfl) (pe_ix (xix K) (pe_callC C_divided hr rfl (pa_n (pv 0) (pa_t (pe_tup (pa_k pe_int pa_nil)) (pa_n (pv 1) pa_nil)))) pe_int (fun _ _ => rfl)))
      (pss_cons (ps_for PassesOwn.never rfl (pi_rangeD rfl B.b_range (pa_b (pe_op op_sub (xbits K (pv 2)) pe_int) (pa_u (pe_un un_neg pe_int) (pa_u (pe_un un_neg pe_int) pa_nil)))) (pg_name (i := 4) sc_power_left.nd rfl (Or.inl rfl))
      (pss_cons (ps_set (i := 5) sc_power_left.nd rfl (Or.inl rfl) (pe_callC C_times hr rfl (pa_n (pv 0) (pa_n (pv 3) (pa_n (pv 3) pa_nil)))))
      (pss_cons (ps_bar (ps_if (pt_cmpR (xeq K hr) (pe_op op_mod (pe_op op_shr (pv 2) (pv 4)) pe_int) pe_int (nomark _))
      (pss_one (ps_set (i := 5) sc_power_left.nd rfl (Or.inl rfl) (pe_callC C_times hr rfl (pa_n (pv 0) (pa_n (pv 5) (pa_t (pe_tup (pa_k pe_int (pa_k pe_int pa_nil))) pa_nil))))))
      pss_nil))
      (pss_one (ps_set (i := 3) sc_power_left.nd rfl (Or.inl rfl) (pe_ix (xix K) (pe_callC C_divided hr rfl (pa_n (pv 0) (pa_n (pv 5) (pa_n (pv 1) pa_nil)))) pe_int (fun _ _ => rfl)))))))
      (pss_one (ps_ret (pv 3))))),?_⟩
    have hM := Pm.ofRule_mon b rule
    have lM := Pm.ofRule_len b rule
    have hrg : 0 < b ∧ b < 1000 := by obtain ⟨P0,hP0,eb⟩ := hBq; have := primesN_range P0 hP0; omega
    have hlo : 0 ≤ b := by omega
    have h1 := hBq.one
    refine ⟨_,rfl,(by show 1 ≤ sizeLine; decide),fun t0 ht0 => ?_⟩
    have g0 := Same.new ht0 (.tup [.int 1])
    refine ⟨_,rfl,b,t0,a,[1],Pm.ofRule b rule,rfl,hrg.1,by omega,upd_same,g0 _ _ hA,by decide,by omega,hM,one_tk h1,fun t x y q1 r1 H1 g1 ht hx hy d1 bq1 br1 lq1 => ?_⟩
    refine ⟨_,_,.inr (SqT.of ht),rfl,?_⟩
    refine ⟨_,rfl,rfl,_,rfl,rfl,?_⟩
    have hB4 : PySem.Builtin.Int.intBits (n : Int) ≤ 400 := intBits_le_iff.mpr hN
    generalize hB : PySem.Builtin.Int.intBits (n : Int) = B at hB4
    have hB0 : n / 2 ^ B = 0 := figs_lt (Nat.le_of_eq hB)
    refine ⟨_,_,rfl,rfl,_,rfl,_,rfl,(B : Int) - 1,-1,rfl,⟨by omega,by omega,by omega,by omega⟩,?_⟩
    refine for_down (lo := (B : Int) - 1) (n := ((B : Int) - 1 - (-1)).toNat) (fun i σ' H' => ∃ (p : Addr) (l : List Int) (o4 o5 : Option V),σ' = [some (.int b),some (.ref a),some (.int n),some (.ref p),o4,o5] ∧ Same H H' ∧ H' p = some (.tup (List.map V.int l)) ∧ Pm.Pw b rule (n / 2 ^ (B - i)) l ∧ Pm.Py b l ∧ l.length ≤ rule.length)
      ⟨y,r1,_,_,rfl,g0.trans g1,hy,?_,d1.ry,?_⟩ ?_ ?_
    · rw [Nat.sub_zero,hB0]
      exact (Pm.Pw.one b rule).left d1
    · have := d1.short; omega
    · rintro i σ' H' hi ⟨p,l,o4,o5,rfl,g,hp,hw,hy2,hl⟩
      have hi' : i < B := by omega
      obtain ⟨k,hk⟩ : ∃ k,B - i = k + 1 := ⟨B - i - 1,by omega⟩
      rw [hk] at hw
      have ek : B - (i + 1) = k := by omega
      have ekI : (B : Int) - 1 - (i : Int) = (k : Int) := by omega
      rw [ekI]
      have bl2 : ∀ x ∈ l,Rm.Bd 1000000 x := fun x hx => (py_bdQ hBq hy2.co x hx).mono (by decide)
      refine ⟨_,rfl,_,rfl,_,rfl,b,p,p,l,l,rfl,hlo,hp,hp,by omega,by omega,bl2,bl2,fun p2 H2 g2 hp2 => ?_⟩
      have hw2 : Pm.Pw b rule (n / 2 ^ (k + 1) + n / 2 ^ (k + 1)) (Pm.mul b l l) := hw.mul hw
      have bD : ∀ x ∈ Pm.mul b l l,Rm.Bd 2000 x := py_bdQ hBq (Pm.mul_py b _ _).co
      have lD := mul_lenF b l l
      refine BarS.by (fun σ' H' => ∃ (p3 : Addr) (l3 : List Int),σ' = [some (.int b),some (.ref a),some (.int n),some (.ref p),some (.int (k : Int)),some (.ref p3)] ∧ Same H H' ∧ H' p3 = some (.tup (List.map V.int l3)) ∧ Pm.Pw b rule (n / 2 ^ k) l3 ∧ (∀ j,Rm.tk b (Pm.co l3 j) = Pm.co l3 j) ∧ l3.length ≤ 40) (fun NN hNN => ?_) ?_
      · refine ⟨_,rfl,_,rfl,_,_,rfl,rfl,(by omega : (0 : Int) ≤ (k : Int)),_,_,rfl,rfl,(by decide : (0 : Int) < 2),_,rfl,?_⟩
        have eshift : ((n : Int) / 2 ^ (k : Int).toNat) % 2 = ((n / 2 ^ k % 2 : Nat) : Int) := by
          rw [Int.toNat_natCast]
          norm_cast
        rw [eshift]
        have fs := figs_step n k
        refine ite2 (fun c => ?_) (fun c => ?_)
        · have c' : n / 2 ^ k % 2 = 1 := by have := dec_true c; omega
          refine ⟨_,rfl,_,rfl,(by show 2 ≤ sizeLine; decide),fun t2 ht2 => ?_⟩
          have g3 := Same.new ht2 (.tup [.int 0,.int 1])
          refine ⟨b,p2,t2,Pm.mul b l l,[0,1],rfl,hlo,g3 _ _ hp2,upd_same,by omega,by decide,fun x hx => (bD x hx).mono (by decide),fun x hx => ?_,fun p4 H4 g4 hp4 => ?_⟩
          · rcases List.mem_cons.mp hx with rfl | hx
            · exact Rm.Bd.zero _
            · rw [List.mem_singleton.mp hx]; exact (Rm.Bd.of (n := 1) (by decide) (by decide)).mono (by decide)
          · refine hNN _ _ ⟨p4,_,rfl,g.trans (g2.trans (g3.trans g4)),hp4,?_,fun j => (Pm.mul_py b _ _).co j,?_⟩
            · have := hw2.mul (Pm.Pw.x b rule)
              rw [fs,c',show 2 * (n / 2 ^ (k + 1)) + 1 = n / 2 ^ (k + 1) + n / 2 ^ (k + 1) + 1 by omega]
              exact this
            · have := mul_lenF b (Pm.mul b l l) [0,1]
              have e2 : ([0,1] : List Int).length = 2 := rfl
              omega
        · have c' : n / 2 ^ k % 2 = 0 := by have := dec_false c; omega
          refine hNN _ _ ⟨p2,_,rfl,g.trans g2,hp2,?_,fun j => (Pm.mul_py b _ _).co j,by omega⟩
          rw [fs,c',show 2 * (n / 2 ^ (k + 1)) + 0 = n / 2 ^ (k + 1) + n / 2 ^ (k + 1) by omega]
          exact hw2
      · rintro σ' H3 ⟨p3,l3,rfl,g3,hp3,hw3,ht3,z3⟩
        refine ⟨_,rfl,_,rfl,_,rfl,b,p3,a,l3,Pm.ofRule b rule,rfl,hrg.1,by omega,hp3,g3 _ _ hA,by omega,by omega,hM,ht3,fun t x y q4 r4 H4 g4 ht hx hy d4 _ _ _ => ?_⟩
        refine ⟨_,_,.inr (SqT.of ht),rfl,?_⟩
        refine ⟨y,r4,_,_,rfl,g3.trans g4,hy,?_,d4.ry,?_⟩
        · rw [ek]; exact hw3.left d4
        · have := d4.short; omega
    · rintro σ' H' ⟨p,l,o4,o5,rfl,g,hp,hw,hy2,hl⟩
      have e9 : B - ((B : Int) - 1 - (-1)).toNat = 0 := by omega
      rw [e9,Nat.pow_zero,Nat.div_one] at hw
      exact ⟨_,rfl,q p H' l g hp hw hy2 hl⟩
theorem ok_jump (B : Bt mg) (F : Fn K mg "jump" s_jump ["row","n"]) (M : Ms K mg base A_NoBy A_TooLong) (C_refuse_far_jump : Cal P w K mg base "refuse_far_jump" 1 ["by","n"] spRefJ) (C_power_left : Cal P w K mg base "power_left" 3 ["by","poly","n"] spPower) (C_of_rule : Cal P w K mg base "of_rule" 2 ["by","rule"] spOfRule) (C_number_at : Cal P w K mg base "number_at" 1 ["poly","k"] spNumAt) : Cal P w K mg base "jump" 4 ["row","n"] spJump := by
  refine F.cal sc_jump (fun vs H Q E h => ?_) (fun f cdv A outer s H vs Q E hr h => ?_)
  · obtain ⟨v,r,n,rfl,_⟩ := h; rfl
  · obtain ⟨v,r,n,rfl,⟨a,p,p2,rfl,hA,hR,hS⟩,ok,hB,hN,q⟩ := h
    refine ⟨_,(pss_cons (ps_set (i := 2) sc_jump.nd rfl (Or.inl rfl) (pe_ix (xix K) (pv 0) pe_int (fun _ _ => rfl)))
      (pss_cons (ps_set (i := 3) sc_jump.nd rfl (Or.inl rfl) (pe_ix (xix K) (pv 0) pe_int (fun _ _ => rfl)))
      (pss_cons (ps_expr (pe_callC C_refuse_far_jump hr rfl (pa_n (pv 2) (pa_n (pv 1) pa_nil))))
      (pss_cons (ps_set (i := 4) sc_jump.nd rfl (Or.inr rfl) (pe_callC C_power_left hr rfl (pa_n (pv 2) (pa_cons (pe_callC C_of_rule hr rfl (pa_n (pv 2) (pa_n (pv 3) pa_nil))) (pa_n (pv 1) pa_nil)))))
      (pss_one (ps_ret (pe_callTy (xtuple K) rfl B.b_tuple boot_tuple (pa_cons (pe_comp (sc := cs_jump1) (N := ["i","left"]) (ix := [none,some 4]) (comp_mk (by kernel_rfl) (by kernel_rfl) (by kernel_rfl) (by kernel_rfl) (by kernel_rfl) (by kernel_rfl) (by kernel_rfl) (by kernel_rfl)) rfl (pi_range1 rfl B.b_range (pa_cons (pe_callB (xlen K) rfl B.b_len boot_len (pa_n (pv 3) pa_nil)) pa_nil)) (fun cl C s₀ H₀ ex => ⟨(pg_name (i := 0) (show (["i","left"] : List Str).Nodup by decide +kernel) rfl (Or.inl rfl)),pif_nil,(pe_callC C_number_at hr rfl (pa_n (pv 1) (pa_n (pv 0) pa_nil)))⟩)) pa_nil)))))))),?_⟩
    have hb0 : r.b ≠ 0 := by obtain ⟨P0,hP0,eb⟩ := hB; have := primesN_range P0 hP0; omega
    have hl := ok.short
    refine ⟨_,rfl,_,_,.inr (SqT.of hA),rfl,?_⟩
    refine ⟨_,rfl,_,_,.inr (SqT.of hA),rfl,?_⟩
    refine ⟨_,rfl,_,rfl,r.b,n,rfl,by omega,fun z => absurd z hb0,?_⟩
    refine ⟨_,rfl,_,rfl,_,rfl,r.b,p,r.rule,rfl,ok.by0,hR,by omega,fun t1 H1 g1 h1 => ?_⟩
    refine ⟨_,rfl,r.b,t1,r.rule,n,rfl,hB,h1,hl,hN,fun t2 H2 l g2 h2 hw hy hz => ?_⟩
    have g12 := g1.trans g2
    refine ⟨_,rfl,.ref p,r.rule.length,rfl,.inr ⟨_,SqT.of (g12 _ _ hR),(List.length_map _).symm⟩,?_⟩
    refine ⟨(r.rule.length : Int),rfl,(by omega : -(2 ^ 62) ≤ (r.rule.length : Int)),(by omega : (r.rule.length : Int) < 2 ^ 62),?_⟩
    rw [Int.toNat_natCast]
    refine comp_rng (n := r.rule.length) (by omega) rfl (fun j => Pm.ej r.b r.rule j n) ?_ ?_
    · intro H3 k g3 hk kk hkk
      refine ⟨_,rfl,_,rfl,t2,l,0 + (k : Int),rfl,g3 _ _ h2,by omega,?_⟩
      rw [show (0 + (k : Int)).toNat = k by omega,hw.co hB.one hy hz hk]
      exact hkk
    · intro D hD
      refine ⟨D,_,rfl,.inl ⟨SqL.of upd_same,fun t ht => ?_⟩⟩
      exact q t _ (g12.trans ((Same.new hD _).trans (Same.new ht _))) upd_same
theorem ok_sum_at (B : Bt mg) (F : Fn K mg "sum_at" s_sum_at ["by","poly","found","n"]) (M : Ms K mg base A_NoBy A_TooLong) (C_taken : Cal P w K mg base "taken" 1 ["by","number"] spTaken) : Cal P w K mg base "sum_at" 2 ["by","poly","found","n"] spSumAt := by
  refine F.cal sc_sum_at (fun vs H Q E h => ?_) (fun f cdv A outer s H vs Q E hr h => ?_)
  · obtain ⟨b,a,l,p,f,n,rfl,_⟩ := h; rfl
  · obtain ⟨b,a,l,p,fo,n,rfl,hb,hA,hL,hn,zA,bA,bF,q⟩ := h
    refine ⟨_,(pss_one (ps_ret (pe_callC C_taken hr rfl (pa_n (pv 0) (pa_cons (pe_callB (xsum K rfl) rfl B.b_sum boot_sum (pa_cons (pe_comp (sc := cs_sum_at1) (N := ["k","found","n","poly"]) (ix := [none,some 2,some 3,some 1]) (comp_mk (by kernel_rfl) (by kernel_rfl) (by kernel_rfl) (by kernel_rfl) (by kernel_rfl) (by kernel_rfl) (by kernel_rfl) (by kernel_rfl)) rfl (pi_range1 rfl B.b_range (pa_cons (pe_callB (xlen K) rfl B.b_len boot_len (pa_n (pv 1) pa_nil)) pa_nil)) (fun cl C s₀ H₀ ex => ⟨(pg_name (i := 0) (show (["k","found","n","poly"] : List Str).Nodup by decide +kernel) rfl (Or.inl rfl)),pif_nil,(pe_op v_mul (pe_ix (xix K) (pv 3) (pv 0) (fun _ _ => rfl)) (pe_ix (xix K) (pv 1) (pe_op (xadd K) (pv 2) (pv 0)) (fun _ _ => rfl)))⟩)) pa_nil)) pa_nil))))),?_⟩
    have lC : (p.map V.int).length = p.length := List.length_map _
    refine ⟨_,rfl,_,rfl,.ref a,p.length,rfl,.inr ⟨_,SqT.of hA,lC.symm⟩,?_⟩
    refine ⟨(p.length : Int),rfl,(by omega : -(2 ^ 62) ≤ (p.length : Int)),(by omega : (p.length : Int) < 2 ^ 62),?_⟩
    rw [Int.toNat_natCast]
    refine comp_rng (n := p.length) zA rfl (fun k => Pm.co p k * Pm.co fo (n + k)) ?_ ?_
    · intro H2 k g2 hk kk hkk
      have e1 : (0 + (k : Int)).toNat = k := by omega
      have e2 : (0 + (n : Int) + (0 + (k : Int))).toNat = n + k := by omega
      refine ⟨_,rfl,_,rfl,_,_,.inr (SqT.of (g2 _ _ hA)),atI_ints (ns := p) (by omega : (0 : Int) ≤ 0 + (k : Int)) (by omega),?_⟩
      refine ⟨_,rfl,_,rfl,_,rfl,_,_,hL.imp (fun z => SqL.of (g2 _ _ z)) (fun z => SqT.of (g2 _ _ z)),atI_ints (ns := fo) (by omega : (0 : Int) ≤ 0 + (n : Int) + (0 + (k : Int))) (by omega),?_⟩
      refine ⟨mulBd (Rm.Bd.getD bA _) (Rm.Bd.getD bF _) (by decide),?_⟩
      rw [e1,e2]
      exact hkk
    · intro D hD
      refine ⟨D,_,rfl,SqL.of upd_same,b,_,rfl,hb,?_⟩
      have := q _ (Same.new hD (.lst ((Pm.ofF p.length fun k => Pm.co p k * Pm.co fo (n + k)).map V.int)))
      unfold Pm.ks at this
      rw [Pm.ofF,Pm.list_sum]
      exact this
theorem ok_place_at (B : Bt mg) (F : Fn K mg "place_at" s_place_at ["row","n"]) (M : Ms K mg base A_NoBy A_TooLong) (C_sum_at : Cal P w K mg base "sum_at" 2 ["by","poly","found","n"] spSumAt) (C_jump : Cal P w K mg base "jump" 4 ["row","n"] spJump) : Cal P w K mg base "place_at" 5 ["row","n"] spPlaceAt := by
  refine F.cal sc_place_at (fun vs H Q E h => ?_) (fun f cdv A outer s H vs Q E hr h => ?_)
  · obtain ⟨v,r,n,rfl,_⟩ := h; rfl
  · obtain ⟨v,r,n,rfl,hR,ok,hB,hN,q⟩ := h
    refine ⟨_,(pss_one (ps_ret (pe_callC C_sum_at hr rfl (pa_cons (pe_ix (xix K) (pv 0) pe_int (fun _ _ => rfl)) (pa_cons (pe_callC C_jump hr rfl (pa_n (pv 0) (pa_n (pv 1) pa_nil))) (pa_cons (pe_ix (xix K) (pv 0) pe_int (fun _ _ => rfl)) (pa_k pe_int pa_nil))))))),?_⟩
    obtain ⟨a,p,p2,rfl,hA,hP,hS⟩ := id hR
    have hsh := ok.short
    have hl := ok.len
    refine ⟨_,rfl,_,_,.inr (SqT.of hA),rfl,?_⟩
    refine ⟨_,rfl,_,rfl,.ref a,r,n,rfl,hR,ok,hB,hN,fun tj H1 g1 hj => ?_⟩
    refine ⟨_,rfl,_,_,.inr (SqT.of (g1 _ _ hA)),rfl,?_⟩
    refine ⟨r.b,tj,p2,Pm.rest r.b r.rule n,r.starts,0,rfl,ok.by0,hj,.inr (g1 _ _ hS),by rw [Pm.rest_len]; omega,by rw [Pm.rest_len]; omega,fun x hx => (rest_bdQ hB _ _ x hx).mono (by decide),fun x hx => (ok.startsBd x hx).mono (by decide),fun H2 g2 => ?_⟩
    rw [← ok.row_startsQ,ok.sum_atQ hB n 0 r.rule.length (by omega),Nat.zero_add]
    exact q _ (g1.trans g2)
theorem ok_onward (B : Bt mg) (F : Fn K mg "onward" s_onward ["row","n"]) (M : Ms K mg base A_NoBy A_TooLong) (C_jump : Cal P w K mg base "jump" 4 ["row","n"] spJump) (C_first_places : Cal P w K mg base "first_places" 3 ["row","count"] (spFirst K)) (C_sum_at : Cal P w K mg base "sum_at" 2 ["by","poly","found","n"] spSumAt) : Cal P w K mg base "onward" 6 ["row","n"] spOnward := by
  refine F.cal sc_onward (fun vs H Q E h => ?_) (fun f cdv A outer s H vs Q E hr h => ?_)
  · obtain ⟨v,r,n,rfl,_⟩ := h; rfl
  · obtain ⟨v,r,n,rfl,hR,ok,hB,hN,q⟩ := h
    refine ⟨_,(pss_cons (ps_set (i := 2) sc_onward.nd rfl (Or.inr rfl) (pe_ix (xix K) (pv 0) pe_int (fun _ _ => rfl)))
      (pss_cons (ps_set (i := 3) sc_onward.nd rfl (Or.inr rfl) (pe_callC C_jump hr rfl (pa_n (pv 0) (pa_n (pv 1) pa_nil))))
      (pss_cons (ps_set (i := 4) sc_onward.nd rfl (Or.inr rfl) (pe_callC C_first_places hr rfl (pa_n (pv 0) (pa_b (pe_op v_mul pe_int (pe_callB (xlen K) rfl B.b_len boot_len (pa_n (pv 3) pa_nil))) pa_nil))))
      (pss_cons (ps_setC (i := 5) (hN := sc_onward.nd) (hi' := rfl) (hx := (Or.inl rfl)) (sc := cs_onward1) (N := ["m","by","near","numbers"]) (ix := [none,some 2,some 4,some 3]) (comp_mk (by kernel_rfl) (by kernel_rfl) (by kernel_rfl) (by kernel_rfl) (by kernel_rfl) (by kernel_rfl) (by kernel_rfl) (by kernel_rfl)) rfl (pi_range1 rfl B.b_range (pa_cons (pe_callB (xlen K) rfl B.b_len boot_len (pa_n (pv 3) pa_nil)) pa_nil)) (fun cl C s₀ H₀ ex => ⟨(pg_name (i := 0) (show (["m","by","near","numbers"] : List Str).Nodup by decide +kernel) rfl (Or.inl rfl)),pif_nil,(pe_callC C_sum_at hr rfl (pa_n (pv 1) (pa_n (pv 3) (pa_n (pv 2) (pa_n (pv 0) pa_nil)))))⟩))
      (pss_one (ps_ret (pe_tup (pa_n (pv 2) (pa_cons (pe_ix (xix K) (pv 0) pe_int (fun _ _ => rfl)) (pa_cons (pe_callTy (xtuple K) rfl B.b_tuple boot_tuple (pa_n (pv 5) pa_nil)) pa_nil)))))))))),?_⟩
    obtain ⟨a,p,p2,rfl,hA,hP,hS⟩ := id hR
    have hsh := ok.short
    have hl := ok.len
    have hb0 : 0 < r.b := by obtain ⟨P0,hP0,eb⟩ := hB; have := primesN_range P0 hP0; omega
    refine ⟨_,rfl,_,_,.inr (SqT.of hA),rfl,?_⟩
    refine ⟨_,rfl,_,rfl,.ref a,r,n,rfl,hR,ok,hB,hN,fun tj H1 g1 hj => ?_⟩
    have lJ : ((Pm.rest r.b r.rule n).map V.int).length = r.rule.length := by rw [List.length_map,Pm.rest_len]
    refine ⟨_,rfl,_,rfl,.ref tj,r.rule.length,rfl,.inr ⟨_,SqT.of hj,lJ.symm⟩,mulL (by decide) (by decide),?_⟩
    refine ⟨.ref a,r,2 * (r.rule.length : Int),rfl,hR.same g1,ok,hb0,by omega,by omega,fun ln H2 g2 fn hn2 => ?_⟩
    rw [show (2 * (r.rule.length : Int)).toNat = 2 * r.rule.length by omega] at hn2
    have hj2 := g2 _ _ hj
    refine ⟨_,rfl,.ref tj,r.rule.length,rfl,.inr ⟨_,SqT.of hj2,lJ.symm⟩,?_⟩
    refine ⟨(r.rule.length : Int),rfl,(by omega : -(2 ^ 62) ≤ (r.rule.length : Int)),(by omega : (r.rule.length : Int) < 2 ^ 62),?_⟩
    rw [Int.toNat_natCast]
    refine comp_rngV (n := r.rule.length) (by omega) rfl (fun m => r.at (m + n)) ?_ ?_
    · intro H3 k g3 hk kk hkk
      have g23 := g2.trans g3
      refine ⟨_,rfl,_,rfl,_,rfl,_,rfl,r.b,tj,ln,Pm.rest r.b r.rule n,r.row (2 * r.rule.length),k,rfl,ok.by0,g3 _ _ hj2,.inl (g3 _ _ hn2),by rw [Pm.rest_len,Rw.row_len]; omega,by rw [Pm.rest_len]; omega,fun x hx => (rest_bdQ hB _ _ x hx).mono (by decide),fun x hx => ?_,fun H4 g4 => ?_⟩
      · have := ok.rowBdQ hb0 (2 * r.rule.length) x hx
        exact this.mono (by decide)
      · rw [ok.sum_atQ hB n k (2 * r.rule.length) (by omega)]
        exact hkk _ g4
    intro D H4 hD g4 hD4
    refine ⟨_,rfl,_,rfl,_,_,.inr (SqT.of (g4 _ _ (g2 _ _ (g1 _ _ hA)))),rfl,?_⟩
    refine ⟨_,rfl,D,_,rfl,.inl ⟨SqL.of hD4,fun t1 ht1 => ?_⟩⟩
    have gt1 := Same.new ht1 (.tup ((Pm.ofF r.rule.length fun m => r.at (m + n)).map V.int))
    refine ⟨(by show 3 ≤ sizeLine; decide),fun t2 ht2 => ?_⟩
    have gt2 := Same.new ht2 (.tup [.int r.b,.ref p,.ref t1])
    have gA := g1.trans (g2.trans (g4.trans (gt1.trans gt2)))
    exact q _ _ gA ⟨t2,p,t1,rfl,upd_same,gA _ _ hP,gt2 _ _ upd_same⟩
theorem ok_Lcell_at (B : Bt mg) (F : Fn K mg "_law_cell_at" s_Lcell_at ["_law_script","_law_k"]) (M : Ms K mg base A_NoBy A_TooLong) : Cal P w K mg base "_law_cell_at" 1 ["_law_script","_law_k"] (spCell K) := by
  refine F.cal sc_Lcell_at (fun vs H Q E h => ?_) (fun f cdv A outer s H vs Q E hr h => ?_)
  · obtain ⟨a,ns,k,rfl,_⟩ := h; rfl
  · obtain ⟨a,ns,k,rfl,hS,h0,q⟩ := h
    refine ⟨_,(pss_cons (ps_if (pt_cmpR op_lt (pv 1) (pe_callB (xlen K) rfl B.b_len boot_len (pa_n (pv 0) pa_nil)) (nomark _))
      (pss_one (ps_ret (pe_ix (xix K) (pv 0) (pv 1) (fun _ _ => rfl))))
      pss_nil)
      (pss_one (ps_ret pe_int))),?_⟩
    have hl : (ns.map V.int).length = ns.length := List.length_map _
    refine ⟨_,rfl,_,rfl,.ref a,ns.length,rfl,.inl ⟨_,hS,hl.symm⟩,_,_,rfl,rfl,_,rfl,?_⟩
    refine ite2 (fun c => ?_) (fun c => ?_)
    · have c' : k < (ns.length : Int) := dec_true c
      refine ⟨_,rfl,_,rfl,ns.map V.int,.int (ns.getD k.toNat 0),.inl hS,atI_ints h0 c',?_⟩
      have e : cellAt ns k = ns.getD k.toNat 0 := if_pos c'
      rw [e] at q; exact q
    · have c' : ¬ k < (ns.length : Int) := dec_false c
      have e : cellAt ns k = 0 := if_neg c'
      rw [e] at q; exact q
theorem ok_Lmixed (B : Bt mg) (F : Fn K mg "_law_mixed" s_Lmixed ["_law_cell","_law_k"]) (M : Ms K mg base A_NoBy A_TooLong) : Cal P w K mg base "_law_mixed" 1 ["_law_cell","_law_k"] spMixed := by
  refine F.cal sc_Lmixed (fun vs H Q E h => ?_) (fun f cdv A outer s H vs Q E hr h => ?_)
  · obtain ⟨c,k,rfl,_⟩ := h; rfl
  · obtain ⟨c,k,rfl,h0,h1,q⟩ := h
    refine ⟨_,(pss_cons (ps_set (i := 2) sc_Lmixed.nd rfl (Or.inl rfl) (pe_op op_mod (pe_op v_mul (pe_op (xadd K) (pe_op op_mod (pv 0) pe_int) pe_int) (pe_op (xadd K) (pe_op v_mul (pv 1) (pv 1)) pe_int)) pe_int))
      (pss_one (ps_ret (pe_op op_mod (pe_op v_mul (pv 2) (pe_op (xadd K) (pv 2) (pe_op v_mul pe_int (pv 1)))) pe_int)))),?_⟩
    have b1 : 0 ≤ c % 2147483647 := emod_lo _ (by decide)
    have b2 : c % 2147483647 < 2147483647 := emod_hi _ (by decide)
    refine ⟨_,rfl,_,_,rfl,rfl,(by decide : (0 : Int) < 2147483647),?_⟩
    refine ⟨_,rfl,_,rfl,mulL (by omega) (by omega),?_⟩
    refine ⟨mulL (by show -(2 ^ 64) < c % 2147483647 + 1; omega) (by show c % 2147483647 + 1 < 2 ^ 64; omega),_,_,rfl,rfl,(by decide : (0 : Int) < 2147483629),?_⟩
    have m0 : 0 ≤ mixedN c k := emod_lo _ (by decide)
    have m1 : mixedN c k < 2147483629 := emod_hi _ (by decide)
    refine ⟨_,rfl,_,rfl,_,rfl,mulL (by decide) (by decide),?_⟩
    refine ⟨mulL (by show -(2 ^ 64) < mixedN c k; omega) (by show mixedN c k < 2 ^ 64; omega),_,_,rfl,rfl,(by decide : (0 : Int) < 2147483587),?_⟩
    exact q
theorem ok_Ltaken (B : Bt mg) (F : Fn K mg "_law_taken" s_Ltaken ["_law_by_here","_law_number_here"]) (M : Ms K mg base A_NoBy A_TooLong) : Cal P w K mg base "_law_taken" 1 ["_law_by_here","_law_number_here"] spTaken := by
  refine F.cal sc_Ltaken (fun vs H Q E h => ?_) (fun f cdv A outer s H vs Q E hr h => ?_)
  · obtain ⟨b,n,rfl,_⟩ := h; rfl
  · obtain ⟨b,n,rfl,h0,q⟩ := h
    refine ⟨_,(pss_cons (ps_if (pt_cmpR (xeq K hr) (pv 0) pe_int (nomark _))
      (pss_one (ps_ret (pv 1)))
      pss_nil)
      (pss_one (ps_ret (pe_op op_mod (pv 1) (pv 0))))),?_⟩
    refine ⟨_,rfl,_,rfl,?_⟩
    refine ite2 (fun c => ?_) (fun c => ?_)
    · refine ⟨_,rfl,?_⟩
      have c' : b = 0 := dec_true c
      have e : Rm.tk b n = n := by rw [c',Rm.tk_zero]
      rw [e] at q; exact q
    · have c' : ¬ b = 0 := dec_false c
      refine ⟨_,rfl,_,rfl,_,_,rfl,rfl,(by omega : (0 : Int) < b),?_⟩
      rw [Rm.tk_pos c'] at q; exact q
theorem ok_Lnumber (B : Bt mg) (F : Fn K mg "_law_number" s_Lnumber ["_law_by_here","_law_cell","_law_sort"]) (M : Ms K mg base A_NoBy A_TooLong) : Cal P w K mg base "_law_number" 1 ["_law_by_here","_law_cell","_law_sort"] spNum59 := by
  refine F.cal sc_Lnumber (fun vs H Q E h => ?_) (fun f cdv A outer s H vs Q E hr h => ?_)
  · obtain ⟨b,c,s,rfl,_⟩ := h; rfl
  · obtain ⟨b,c,s,rfl,hb,q⟩ := h
    refine ⟨_,(pss_cons (ps_if (pt_cmpR op_gt (pv 0) pe_int (nomark _))
      (pss_one (ps_ret (pe_op op_mod (pv 1) (pv 0))))
      pss_nil)
      (pss_cons (ps_if (pt_cmpR (xeq K hr) (pv 2) pe_int (nomark _))
      (pss_one (ps_ret (pe_op op_sub (pe_op op_mod (pv 1) pe_int) pe_int)))
      pss_nil)
      (pss_cons (ps_if (pt_cmpR (xeq K hr) (pv 2) pe_int (nomark _))
      (pss_one (ps_ret (pe_op op_sub (pe_op op_mod (pv 1) pe_int) pe_int)))
      pss_nil)
      (pss_one (ps_ret (pe_op (xadd K) (pe_op op_sub (pe_op op_mod (pe_op v_mul (pv 1) pe_int) (pe_op op_sub (pe_op v_mul pe_int (pe_op op_pow pe_int pe_int)) pe_int)) (pe_op op_pow pe_int pe_int)) pe_int)))))),?_⟩
    refine ⟨_,rfl,_,_,rfl,rfl,_,rfl,?_⟩
    rw [decide_eq_true (show b > 0 by omega)]
    refine iteT ?_
    exact ⟨_,rfl,_,rfl,_,_,rfl,rfl,hb,q⟩
theorem ok_Lgone (B : Bt mg) (F : Fn K mg "_law_gone" s_Lgone ["_law_row_here","_law_count"]) (M : Ms K mg base A_NoBy A_TooLong) (C_Ltaken : Cal P w K mg base "_law_taken" 1 ["_law_by_here","_law_number_here"] spTaken) : Cal P w K mg base "_law_gone" 2 ["_law_row_here","_law_count"] spGone := by
  refine F.cal sc_Lgone (fun vs H Q E h => ?_) (fun f cdv A outer s H vs Q E hr h => ?_)
  · obtain ⟨v,r,c,rfl,_⟩ := h; rfl
  · obtain ⟨v,r,c,rfl,⟨a,p,p2,rfl,hA,hR,hS⟩,ok,hb,hc0,hc1,q⟩ := h
    refine ⟨_,(pss_cons (ps_asg (pv 0) (xgtup K (n := 3) rfl (pgs_cons (pg_name (i := 2) sc_Lgone.nd rfl (Or.inl rfl)) (pgs_cons (pg_name (i := 3) sc_Lgone.nd rfl (Or.inl rfl)) (pgs_cons (pg_name (i := 4) sc_Lgone.nd rfl (Or.inl rfl)) pgs_nil)))))
      (pss_cons (ps_set (i := 5) sc_Lgone.nd rfl (Or.inl rfl) (pe_bar (pe_callTy (xlist K) rfl B.b_list boot_list (pa_cons (pe_slice (xsl K) (pv 4) po_none (po_some (pv 1))) pa_nil))))
      (pss_cons (ps_while PassesOwn.never (pt_cmpR op_lt (pe_callB (xlen K) rfl B.b_len boot_len (pa_n (pv 5) pa_nil)) (pv 1) (nomark _))
      (pss_cons (ps_set (i := 6) sc_Lgone.nd rfl (Or.inl rfl) pe_int)
      (pss_cons (ps_for PassesOwn.never rfl (pi_enum K rfl B.b_enumerate (pa_n (pv 3) pa_nil)) (xgtup K (n := 2) rfl (pgs_cons (pg_name (i := 7) sc_Lgone.nd rfl (Or.inl rfl)) (pgs_cons (pg_name (i := 8) sc_Lgone.nd rfl (Or.inl rfl)) pgs_nil)))
      (pss_one (ps_set (i := 6) sc_Lgone.nd rfl (Or.inl rfl) (pe_op (xadd K) (pv 6) (pe_op v_mul (pv 8) (pe_ix (xix K) (pv 5) (pe_op op_sub (pe_op op_sub (pe_callB (xlen K) rfl B.b_len boot_len (pa_n (pv 5) pa_nil)) pe_int) (pv 7)) (fun _ _ => rfl)))))))
      (pss_one (ps_expr (xappend K (pv 5) (pe_callC C_Ltaken hr rfl (pa_n (pv 2) (pa_n (pv 6) pa_nil)))))))))
      (pss_one (ps_ret (pv 5)))))),?_⟩
    have hl := ok.len
    have hl2 := ok.short
    have lS : (r.starts.map V.int).length = r.starts.length := List.length_map _
    have lR : (r.rule.map V.int).length = r.rule.length := List.length_map _
    refine ⟨_,rfl,a,_,rfl,SqT.of hA,rfl,_,_,rfl,_,_,rfl,_,_,rfl,rfl,?_⟩
    have hcut : cutV (r.starts.map V.int) none (some c) = (r.row (min c.toNat r.starts.length)).map V.int := by
      have e : r.row (min c.toNat r.starts.length) = r.starts.take (min c.toNat r.starts.length) := Rm.row_starts (Nat.min_le_right _ _)
      rw [e]
      have e2 : c = ((c.toNat : Nat) : Int) := by omega
      unfold cutV
      rw [e2,HT.sIx_nat,HT.sIx_none,List.drop_zero,Nat.sub_zero,lS,List.map_take,Int.toNat_natCast]
    refine Bar.by (fun v H1 => ∃ l,v = .ref l ∧ Same H H1 ∧ H l = none ∧ H1 l = some (.lst ((r.row (min c.toNat r.starts.length)).map V.int))) (fun kk hkk => ?_) ?_
    · refine ⟨_,rfl,_,rfl,_,rfl,?_⟩
      by_cases hw : r.starts.length ≤ c.toNat
      · refine .inr (.inr ⟨_,SqT.of hS,?_,?_⟩)
        · have e2 : c = ((c.toNat : Nat) : Int) := by omega
          rw [e2,HT.sIx_nat,HT.sIx_none,lS]; omega
        · refine ⟨p2,_,rfl,.inr (SqT.of hS),fun l hl1 => hkk _ _ ⟨l,rfl,Same.new hl1 _,hl1,?_⟩⟩
          rw [upd_same,Nat.min_eq_right hw]
          have e : r.row r.starts.length = r.starts := (Rm.row_starts (Nat.le_refl _)).trans (List.take_length ..)
          rw [e]
      · refine .inr (.inl ⟨_,SqT.of hS,?_,fun p3 hp3 => ?_⟩)
        · have e2 : c = ((c.toNat : Nat) : Int) := by omega
          rw [e2,HT.sIx_nat,HT.sIx_none,lS]; omega
        · refine ⟨p3,_,rfl,.inr (SqT.of upd_same),fun l hl1 => ?_⟩
          have g3 := Same.new hp3 (.tup (cutV (r.starts.map V.int) none (some c)))
          refine hkk _ _ ⟨l,rfl,g3.trans (Same.new hl1 _),g3.free hl1,?_⟩
          rw [upd_same,hcut]
    rintro v H1 ⟨l,rfl,g1,hl1,hr1⟩
    refine ⟨fun m σ' H' => ∃ (n : Nat) (o6 o7 o8 : Option V),m = c.toNat - n ∧ min c.toNat r.starts.length ≤ n ∧ n ≤ c.toNat ∧ σ' = [some (.ref a),some (.int c),some (.int r.b),some (.ref p),some (.ref p2),some (.ref l),o6,o7,o8] ∧ Same H H' ∧ H' l = some (.lst ((r.row n).map V.int)),
      ⟨_,min c.toNat r.starts.length,_,_,_,rfl,Nat.le_refl _,Nat.min_le_left _ _,rfl,g1,hr1⟩,?_⟩
    rintro m σ' H' ⟨n,o6,o7,o8,rfl,h1,h2,rfl,g,hL⟩
    have lL : ((r.row n).map V.int).length = n := by rw [List.length_map,Rw.row_len]
    have lN : (r.row n).length = n := Rw.row_len ..
    refine ⟨_,rfl,.ref l,n,rfl,.inl ⟨_,SqL.of hL,lL.symm⟩,_,rfl,_,_,rfl,rfl,_,rfl,?_⟩
    refine ite2 (fun cc => ?_) (fun cc => ?_)
    · have hn : n < c.toNat := by have := dec_true cc; omega
      refine ⟨_,fun _ _ z => z,?_⟩
      refine ⟨_,rfl,true,p,_,rfl,SqT.of (g _ _ hR),?_⟩
      refine for_enum (t := true) (a := p) (xs := r.rule.map V.int) (fun i σ' H2 => ∃ (o7 o8 : Option V),σ' = [some (.ref a),some (.int c),some (.int r.b),some (.ref p),some (.ref p2),some (.ref l),some (.int (Rm.S r.rule (fun i => (r.row n).getD i 0) n i)),o7,o8] ∧ Same H' H2) ⟨_,_,rfl,Same.refl _⟩ (fun i σ' H2 ⟨_,_,_,z⟩ => SqT.of (z _ _ (g _ _ hR))) ?_ ?_
      · rintro i x σ' H2 pt hx ⟨o7,o8,rfl,g2⟩ hpt
        obtain ⟨rfl,hi⟩ := map_int_get hx
        have g3 := Same.new hpt (.tup [.int (i : Int),.int (Pm.co r.rule i)])
        have hL3 := g3 _ _ (g2 _ _ hL)
        refine ⟨pt,_,rfl,SqT.of upd_same,rfl,_,_,rfl,_,_,rfl,rfl,?_⟩
        refine ⟨_,rfl,_,rfl,_,rfl,_,rfl,.ref l,n,rfl,.inl ⟨_,SqL.of hL3,lL.symm⟩,_,_,rfl,rfl,_,rfl,_,_,rfl,rfl,_,_,.inl (SqL.of hL3),atI_ints (ns := r.row n) (by omega : (0 : Int) ≤ (n : Int) - 1 - (i : Int)) (by omega),?_⟩
        refine ⟨mulBd (Pm.Bd_co ok.ruleBd i) (Rm.Bd.getD (ok.rowBdW hb n) _) (by decide),?_⟩
        refine ⟨some (.int (i : Int)),some (.int (Pm.co r.rule i)),?_,g2.trans g3⟩
        rw [show ((n : Int) - 1 - (i : Int)).toNat = n - 1 - i by omega]
        rfl
      rintro σ' H2 ⟨o7,o8,rfl,g2⟩
      rw [lR]
      have hL2 := g2 _ _ hL
      refine ⟨_,rfl,.inl ⟨rfl,_,SqL.of hL2⟩,_,rfl,_,rfl,r.b,_,rfl,ok.by0,?_⟩
      refine ⟨l,_,_,rfl,rfl,hL2,?_,?_⟩
      · rw [lL]; exact Nat.lt_of_lt_of_le (show n < 5000 by omega) (by decide)
      · refine ⟨c.toNat - (n + 1),by omega,n + 1,_,_,_,rfl,by omega,by omega,rfl,(g.trans g2).upd hl1 _,?_⟩
        rw [upd_same]
        have e : r.row (n + 1) = r.row n ++ [Rm.tk r.b (Rm.S r.rule (fun i => (r.row n).getD i 0) n r.rule.length)] := by
          show _ ++ [if n < r.starts.length then r.starts.getD n 0 else _] = _
          rw [if_neg (by omega)]; rfl
        rw [e,List.map_append]; rfl
    · have hn : n = c.toNat := by have := dec_false cc; omega
      subst hn
      exact ⟨_,rfl,q l H' g hl1 hL⟩
theorem ok_Lrow (B : Bt mg) (F : Fn K mg "_law_row" s_Lrow ["_law_script","_law_start","_law_by_here","_law_most"]) (M : Ms K mg base A_NoBy A_TooLong) (C_Lcell_at : Cal P w K mg base "_law_cell_at" 1 ["_law_script","_law_k"] (spCell K)) (C_Lnumber : Cal P w K mg base "_law_number" 1 ["_law_by_here","_law_cell","_law_sort"] spNum59) (C_Lmixed : Cal P w K mg base "_law_mixed" 1 ["_law_cell","_law_k"] spMixed) : Cal P w K mg base "_law_row" 2 ["_law_script","_law_start","_law_by_here","_law_most"] (spRow20 K) := by
  refine F.cal sc_Lrow (fun vs H Q E h => ?_) (fun f cdv A outer s H vs Q E hr h => ?_)
  · obtain ⟨a,ns,st,b,most,rfl,_⟩ := h; rfl
  · obtain ⟨a,ns,st,b,most,rfl,hS,s0,hB,hm,q⟩ := h
    refine ⟨_,(pss_cons (ps_set (i := 4) sc_Lrow.nd rfl (Or.inr rfl) (pe_callC C_Lcell_at hr rfl (pa_n (pv 0) (pa_n (pv 1) pa_nil))))
      (pss_cons (ps_set (i := 5) sc_Lrow.nd rfl (Or.inl rfl) (pe_op op_mod (pv 4) (pe_op (xadd K) (pv 3) pe_int)))
      (pss_cons (ps_set (i := 6) sc_Lrow.nd rfl (Or.inr rfl) (pe_ix (xix K) (pe_lst (pa_k pe_int (pa_k pe_int (pa_k pe_int (pa_k pe_int (pa_k pe_int (pa_k pe_int pa_nil))))))) (pe_op op_mod (pe_op op_fdiv (pv 4) pe_int) pe_int) (fun _ _ => rfl)))
      (pss_cons (ps_setC (i := 7) (hN := sc_Lrow.nd) (hi' := rfl) (hx := (Or.inl rfl)) (sc := cs_Lrow1) (N := ["_law_k","_law_by_here","_law_script","_law_sort","_law_start"]) (ix := [none,some 2,some 0,some 6,some 1]) (comp_mk (by kernel_rfl) (by kernel_rfl) (by kernel_rfl) (by kernel_rfl) (by kernel_rfl) (by kernel_rfl) (by kernel_rfl) (by kernel_rfl)) rfl (pi_range1 rfl B.b_range (pa_n (pv 5) pa_nil)) (fun cl C s₀ H₀ ex => ⟨(pg_name (i := 0) (show (["_law_k","_law_by_here","_law_script","_law_sort","_law_start"] : List Str).Nodup by decide +kernel) rfl (Or.inl rfl)),pif_nil,(pe_callC C_Lnumber hr rfl (pa_n (pv 1) (pa_cons (pe_callC C_Lmixed hr rfl (pa_cons (pe_callC C_Lcell_at hr rfl (pa_n (pv 2) (pa_b (pe_op (xadd K) (pv 4) pe_int) pa_nil))) (pa_n (pv 0) pa_nil))) (pa_n (pv 3) pa_nil))))⟩))
      (pss_cons (ps_setC (i := 8) (hN := sc_Lrow.nd) (hi' := rfl) (hx := (Or.inl rfl)) (sc := cs_Lrow2) (N := ["_law_k","_law_by_here","_law_script","_law_sort","_law_start"]) (ix := [none,some 2,some 0,some 6,some 1]) (comp_mk (by kernel_rfl) (by kernel_rfl) (by kernel_rfl) (by kernel_rfl) (by kernel_rfl) (by kernel_rfl) (by kernel_rfl) (by kernel_rfl)) rfl (pi_range1 rfl B.b_range (pa_n (pv 5) pa_nil)) (fun cl C s₀ H₀ ex => ⟨(pg_name (i := 0) (show (["_law_k","_law_by_here","_law_script","_law_sort","_law_start"] : List Str).Nodup by decide +kernel) rfl (Or.inl rfl)),pif_nil,(pe_callC C_Lnumber hr rfl (pa_n (pv 1) (pa_cons (pe_callC C_Lmixed hr rfl (pa_cons (pe_callC C_Lcell_at hr rfl (pa_n (pv 2) (pa_b (pe_op (xadd K) (pv 4) pe_int) pa_nil))) (pa_b (pe_op (xadd K) pe_int (pv 0)) pa_nil))) (pa_n (pv 3) pa_nil))))⟩))
      (pss_cons (ps_bar (ps_if (pt_cmpR (xeq K hr) (pe_op op_mod (pe_op op_fdiv (pv 4) pe_int) pe_int) pe_int (nomark _))
      (pss_one (ps_setC (i := 7) (hN := sc_Lrow.nd) (hi' := rfl) (hx := (Or.inl rfl)) (sc := cs_Lrow3) (N := ["_law_k","_law_number_here","_law_cell"]) (ix := [none,none,some 4]) (comp_mk (by kernel_rfl) (by kernel_rfl) (by kernel_rfl) (by kernel_rfl) (by kernel_rfl) (by kernel_rfl) (by kernel_rfl) (by kernel_rfl)) rfl (pi_enum K rfl B.b_enumerate (pa_n (pv 7) pa_nil)) (fun cl C s₀ H₀ ex => ⟨(xgtup K (n := 2) rfl (pgs_cons (pg_name (i := 0) (show (["_law_k","_law_number_here","_law_cell"] : List Str).Nodup by decide +kernel) rfl (Or.inl rfl)) (pgs_cons (pg_name (i := 1) (show (["_law_k","_law_number_here","_law_cell"] : List Str).Nodup by decide +kernel) rfl (Or.inl rfl)) pgs_nil))),pif_nil,(pe_op v_mul (pv 1) (pe_op op_mod (pe_callC C_Lmixed hr rfl (pa_n (pv 2) (pa_b (pe_op (xadd K) pe_int (pv 0)) pa_nil))) pe_int))⟩)))
      pss_nil))
      (pss_cons (ps_bar (ps_if (PW.pt (pw_and (pt_cmpR (xeq K hr) (pe_op op_mod (pe_op op_fdiv (pv 4) pe_int) pe_int) pe_int (nomark _)) (pw_and1 (pt_cmpR op_gt (pv 5) pe_int (nomark _)))))
      (pss_one (ps_set (i := 8) sc_Lrow.nd rfl (Or.inl rfl) (pe_op (xadd K) (pe_op v_mul (pe_lst (pa_k pe_int pa_nil)) (pe_op op_sub (pv 5) pe_int)) (pe_lst (pa_cons (pe_ix (xix K) (pv 8) (pe_un un_neg pe_int) (fun _ _ => rfl)) pa_nil)))))
      pss_nil))
      (pss_one (ps_ret (pe_tup (pa_n (pv 2) (pa_cons (pe_callTy (xtuple K) rfl B.b_tuple boot_tuple (pa_n (pv 7) pa_nil)) (pa_cons (pe_callTy (xtuple K) rfl B.b_tuple boot_tuple (pa_n (pv 8) pa_nil)) pa_nil))))))))))))),?_⟩
    have hb0 : 0 < b := by obtain ⟨P0,hP0,e⟩ := hB; have := primesN_range P0 hP0; omega
    refine ⟨_,rfl,_,rfl,a,ns,st,rfl,hS,s0,?_⟩
    generalize cellAt ns st = c
    refine ⟨_,rfl,_,rfl,_,_,rfl,rfl,(by show 0 < (most : Int) + 1; omega),?_⟩
    obtain ⟨N,eN,hN⟩ : ∃ N : Nat,c % ((most : Int) + 1) = (N : Int) ∧ N ≤ most := by
      have h0 := emod_lo c (show 0 < (most : Int) + 1 by omega)
      have h1 := emod_hi c (show 0 < (most : Int) + 1 by omega)
      exact ⟨_,(Int.toNat_of_nonneg h0).symm,by omega⟩
    dsimp only
    rw [eN]
    refine ⟨(by show 6 ≤ sizeLine; decide),fun p6 hp6 => ?_⟩
    have g1 := Same.new hp6 (.lst (sortL.map V.int))
    have e0 := emod_lo (c / 13) (show (0 : Int) < 6 by decide)
    have e1 := emod_hi (c / 13) (show (0 : Int) < 6 by decide)
    refine ⟨_,rfl,_,_,rfl,rfl,⟨by decide,by decide⟩,_,_,rfl,rfl,(by decide : (0 : Int) < 6),_,_,.inl (SqL.of upd_same),atI_ints (ns := sortL) e0 e1,?_⟩
    generalize sortL.getD (c / 13 % 6).toNat 0 = so
    have eH : (upd H p6 (.lst [.int 0,.int 0,.int 0,.int 1,.int 0,.int 2])) = upd H p6 (.lst (sortL.map V.int)) := rfl
    rw [eH]
    generalize upd H p6 (.lst (sortL.map V.int)) = H1 at g1
    have hS1 := g1.seq hS
    refine ⟨_,rfl,(N : Int),rfl,(by omega : -(2 ^ 62) ≤ (N : Int)),(by omega : (N : Int) < 2 ^ 62),?_⟩
    rw [Int.toNat_natCast]
    refine comp_rng (n := N) (by omega) rfl (fun k => num15 b (mixedI (cellAt ns (st + 1)) (0 + (k : Int))) so) ?_ ?_
    · intro H2 k g2 hk kk hkk
      exact ⟨_,rfl,_,rfl,_,rfl,a,ns,st + 1,rfl,g2.seq hS1,by omega,_,rfl,cellAt ns (st + 1),0 + (k : Int),rfl,by omega,by omega,_,rfl,b,_,so,rfl,hb0,hkk⟩
    intro D1 hD1
    generalize hr0 : (Pm.ofF N fun k => num15 b (mixedI (cellAt ns (st + 1)) (0 + (k : Int))) so) = rule
    have lr : rule.length = N := by rw [← hr0]; exact Pm.ofF_len ..
    have nr : ∀ x ∈ rule,IsNum b x ∧ Rm.Bd 45 x := fun x hx => by
      rw [← hr0] at hx
      obtain ⟨j,_,rfl⟩ := Pm.mem_ofF hx
      exact ⟨num15_num hB _ _,num15_bd hB _ _⟩
    clear hr0
    have g2 := Same.new hD1 (.lst (rule.map V.int))
    have h1 : (upd H1 D1 (.lst (rule.map V.int))) D1 = some (.lst (rule.map V.int)) := upd_same
    generalize upd H1 D1 (.lst (rule.map V.int)) = H2 at g2 h1
    have hS2 := g2.seq hS1
    refine ⟨_,rfl,(N : Int),rfl,(by omega : -(2 ^ 62) ≤ (N : Int)),(by omega : (N : Int) < 2 ^ 62),?_⟩
    rw [Int.toNat_natCast]
    refine comp_rng (n := N) (by omega) rfl (fun k => num15 b (mixedI (cellAt ns (st + 2)) (20 + (0 + (k : Int)))) so) ?_ ?_
    · intro H3 k g3 hk kk hkk
      exact ⟨_,rfl,_,rfl,_,rfl,a,ns,st + 2,rfl,g3.seq hS2,by omega,_,rfl,cellAt ns (st + 2),20 + (0 + (k : Int)),rfl,by omega,by omega,_,rfl,b,_,so,rfl,hb0,hkk⟩
    intro D2 hD2
    generalize hs0 : (Pm.ofF N fun k => num15 b (mixedI (cellAt ns (st + 2)) (20 + (0 + (k : Int)))) so) = starts
    have ls : starts.length = N := by rw [← hs0]; exact Pm.ofF_len ..
    have nst : ∀ x ∈ starts,IsNum b x ∧ Rm.Bd 45 x := fun x hx => by
      rw [← hs0] at hx
      obtain ⟨j,_,rfl⟩ := Pm.mem_ofF hx
      exact ⟨num15_num hB _ _,num15_bd hB _ _⟩
    clear hs0
    have g3 := Same.new hD2 (.lst (starts.map V.int))
    have h2 : (upd H2 D2 (.lst (starts.map V.int))) D2 = some (.lst (starts.map V.int)) := upd_same
    have h1' := g3 _ _ h1
    generalize upd H2 D2 (.lst (starts.map V.int)) = H3 at g3 h2 h1'
    have gA := g1.trans (g2.trans g3)
    refine BarS.by (fun σ' H' => ∃ (l1 : Addr) (rule : List Int),σ' = [some (.ref a),some (.int st),some (.int b),some (.int most),some (.int c),some (.int N),some (.int so),some (.ref l1),some (.ref D2)] ∧ Same H3 H' ∧ H' l1 = some (.lst (rule.map V.int)) ∧ rule.length = N ∧ ∀ x ∈ rule,IsNum b x ∧ Rm.Bd 45 x) (fun NN hNN => ?_) ?_
    · refine ⟨_,rfl,_,_,rfl,rfl,⟨by decide,by decide⟩,_,_,rfl,rfl,(by decide : (0 : Int) < 3),_,rfl,?_⟩
      refine ite2 (fun _ => ?_) (fun _ => hNN _ _ ⟨D1,rule,rfl,Same.refl _,h1',lr,nr⟩)
      refine ⟨_,rfl,false,D1,_,rfl,SqL.of h1',?_⟩
      refine comp_enum (t := false) (SqL.of h1') (by rw [List.length_map,lr]; exact Nat.le_of_lt (small1000 (by omega))) rfl (fun k x => match x with | .int n => .int (n * (mixedI c (40 + (k : Int)) % 2)) | _ => .non) ?_ ?_
      · intro H4 k x g4 hxk kk hkk
        obtain ⟨rfl,hk⟩ := map_int_get hxk
        have m0 := emod_lo (mixedI c (40 + (k : Int))) (show (0 : Int) < 2 by decide)
        have m1 := emod_hi (mixedI c (40 + (k : Int))) (show (0 : Int) < 2 by decide)
        exact ⟨_,rfl,_,rfl,_,rfl,c,40 + (k : Int),rfl,by omega,by omega,_,_,rfl,rfl,(by decide : (0 : Int) < 2),mulR (by show -(2 ^ 64) < mixedI c (40 + (k : Int)) % 2; omega) (by show mixedI c (40 + (k : Int)) % 2 < 2 ^ 64; omega),hkk _ (Same.refl _)⟩
      · intro D3 H4 hD3 g4 hD4
        have ed : H4 D3 = some (.lst ((Pm.ofF rule.length fun k => Pm.co rule k * (mixedI c (40 + (k : Int)) % 2)).map V.int)) := hD4.trans (congrArg (fun z => some (HO.lst z)) (ofF_mapIdx rule fun k n => n * (mixedI c (40 + (k : Int)) % 2)))
        refine hNN _ _ ⟨D3,_,rfl,g4,ed,by rw [Pm.ofF_len]; exact lr,fun x hx => ?_⟩
        obtain ⟨k,hk,rfl⟩ := Pm.mem_ofF hx
        have nk := nr _ (Pm.co_mem hk)
        have m0 := emod_lo (mixedI c (40 + (k : Int))) (show (0 : Int) < 2 by decide)
        have m1 := emod_hi (mixedI c (40 + (k : Int))) (show (0 : Int) < 2 by decide)
        rcases (show mixedI c (40 + (k : Int)) % 2 = 0 ∨ mixedI c (40 + (k : Int)) % 2 = 1 by omega) with z | z
        · rw [z,Int.mul_zero]; exact ⟨IsNum.zero hB,Rm.Bd.zero _⟩
        · rw [z,Int.mul_one]; exact nk
    clear nr lr h1 h1'
    rintro σ' H4 ⟨l1,rule,rfl,g4,h1,lr,nr⟩
    have h2' := g4 _ _ h2
    refine BarS.by (fun σ' H' => ∃ (l2 : Addr) (starts : List Int),σ' = [some (.ref a),some (.int st),some (.int b),some (.int most),some (.int c),some (.int N),some (.int so),some (.ref l1),some (.ref l2)] ∧ Same H4 H' ∧ H' l2 = some (.lst (starts.map V.int)) ∧ starts.length = N ∧ ∀ x ∈ starts,IsNum b x ∧ Rm.Bd 45 x) (fun NN hNN => ?_) ?_
    · refine ⟨_,rfl,_,_,rfl,rfl,⟨by decide,by decide⟩,_,_,rfl,rfl,(by decide : (0 : Int) < 3),_,rfl,?_⟩
      refine ite2 (fun _ => ?_) (fun _ => iteF (hNN _ _ ⟨D2,starts,rfl,Same.refl _,h2',ls,nst⟩))
      refine ⟨_,rfl,_,_,rfl,rfl,_,rfl,?_⟩
      refine ite2 (fun cc => ?_) (fun _ => hNN _ _ ⟨D2,starts,rfl,Same.refl _,h2',ls,nst⟩)
      have hN0 : 0 < N := by have := dec_true cc; omega
      refine ⟨(by show 1 ≤ sizeLine; decide),fun m1 hm1 => ?_⟩
      have k1 := Same.new hm1 (.lst [.int 0])
      have e1 : (upd H4 m1 (.lst [.int 0])) m1 = some (.lst [.int 0]) := upd_same
      generalize upd H4 m1 (.lst [.int 0]) = G1 at k1 e1
      refine ⟨_,rfl,_,_,rfl,rfl,_,e1,by omega,by omega,?_,fun m2 hm2 => ?_⟩
      · show 1 * ((N : Int) - 1).toNat ≤ sizeLine
        rw [Nat.one_mul]; exact Nat.le_of_lt (small1000 (by omega))
      rw [show ((N : Int) - 1).toNat = N - 1 by omega,replicate_ofF]
      have k2 := Same.new hm2 (.lst ((Pm.ofF (N - 1) fun _ => 0).map V.int))
      have e2 : (upd G1 m2 (.lst ((Pm.ofF (N - 1) fun _ => 0).map V.int))) m2 = some (.lst ((Pm.ofF (N - 1) fun _ => 0).map V.int)) := upd_same
      generalize upd G1 m2 (.lst ((Pm.ofF (N - 1) fun _ => 0).map V.int)) = G2 at k2 e2
      have h2G := k2 _ _ (k1 _ _ h2')
      refine ⟨_,rfl,_,rfl,_,_,.inl (SqL.of h2G),atI_back (ns := starts) (N - 1) (by omega) (by omega),(by show 1 ≤ sizeLine; decide),fun m3 hm3 => ?_⟩
      have k3 := Same.new hm3 (.lst [.int (starts.getD (N - 1) 0)])
      have e3 : (upd G2 m3 (.lst [.int (starts.getD (N - 1) 0)])) m3 = some (.lst [.int (starts.getD (N - 1) 0)]) := upd_same
      have e2' := k3 _ _ e2
      generalize upd G2 m3 (.lst [.int (starts.getD (N - 1) 0)]) = G3 at k3 e3 e2'
      refine .inl ⟨_,_,e2',e3,?_,fun m4 hm4 => ?_⟩
      · rw [List.length_map,Pm.ofF_len]; exact Nat.le_of_lt (small1000 (by show _ + 1 ≤ 1000; omega))
      have k4 := Same.new hm4 (.lst ((Pm.ofF (N - 1) fun _ => 0).map V.int ++ [.int (starts.getD (N - 1) 0)]))
      refine hNN _ _ ⟨m4,(Pm.ofF (N - 1) fun _ => 0) ++ [Pm.co starts (N - 1)],rfl,k1.trans (k2.trans (k3.trans k4)),by rw [upd_same,map_snoc]; rfl,by rw [List.length_append,Pm.ofF_len]; show N - 1 + 1 = N; omega,fun x hx => ?_⟩
      rcases List.mem_append.mp hx with hx | hx
      · obtain ⟨_,_,rfl⟩ := Pm.mem_ofF hx
        exact ⟨IsNum.zero hB,Rm.Bd.zero _⟩
      · rw [List.mem_singleton.mp hx]; exact nst _ (Pm.co_mem (by omega))
    clear nst ls h2 h2'
    rintro σ' H5 ⟨l2,starts,rfl,g5,h2,ls,nst⟩
    refine ⟨_,rfl,_,rfl,l1,_,rfl,.inl ⟨SqL.of (g5 _ _ h1),fun t1 ht1 => ?_⟩⟩
    have gt1 := Same.new ht1 (.tup (rule.map V.int))
    refine ⟨_,rfl,l2,_,rfl,.inl ⟨SqL.of (gt1 _ _ h2),fun t2 ht2 => ?_⟩⟩
    have gt2 := Same.new ht2 (.tup (starts.map V.int))
    refine ⟨(by show 3 ≤ sizeLine; decide),fun t3 ht3 => ?_⟩
    have gt3 := Same.new ht3 (.tup [.int b,.ref t1,.ref t2])
    exact q (.ref t3) ⟨b,rule,starts⟩ _ (gA.trans (g4.trans (g5.trans (gt1.trans (gt2.trans gt3))))) ⟨t3,t1,t2,rfl,upd_same,gt3 _ _ (gt2 _ _ upd_same),gt3 _ _ upd_same⟩ ⟨rfl,lr.trans ls.symm,by show rule.length ≤ most; omega,fun x hx => (nr x hx).1,fun x hx => (nst x hx).1,fun x hx => (nr x hx).2,fun x hx => (nst x hx).2⟩
theorem ok_Llonger (B : Bt mg) (F : Fn K mg "_law_longer" s_Llonger ["_law_row_here","_law_number_here"]) (M : Ms K mg base A_NoBy A_TooLong) (C_Lgone : Cal P w K mg base "_law_gone" 2 ["_law_row_here","_law_count"] spGone) (C_Ltaken : Cal P w K mg base "_law_taken" 1 ["_law_by_here","_law_number_here"] spTaken) : Cal P w K mg base "_law_longer" 3 ["_law_row_here","_law_number_here"] spLonger20 := by
  refine F.cal sc_Llonger (fun vs H Q E h => ?_) (fun f cdv A outer s H vs Q E hr h => ?_)
  · obtain ⟨v,r,n,rfl,_⟩ := h; rfl
  · obtain ⟨v,r,n,rfl,hRI,ok,hb,hsh,hn,q⟩ := h
    refine ⟨_,(pss_cons (ps_asg (pv 0) (xgtup K (n := 3) rfl (pgs_cons (pg_name (i := 2) sc_Llonger.nd rfl (Or.inr rfl)) (pgs_cons (pg_name (i := 3) sc_Llonger.nd rfl (Or.inl rfl)) (pgs_cons (pg_name (i := 4) sc_Llonger.nd rfl (Or.inl rfl)) pgs_nil)))))
      (pss_cons (ps_set (i := 5) sc_Llonger.nd rfl (Or.inl rfl) (pe_op (xadd K) (pe_lst (pa_k pe_int pa_nil)) (pe_comp (sc := cs_Llonger1) (N := ["_law_part"]) (ix := [none]) (comp_mk (by kernel_rfl) (by kernel_rfl) (by kernel_rfl) (by kernel_rfl) (by kernel_rfl) (by kernel_rfl) (by kernel_rfl) (by kernel_rfl)) rfl (xseq K (pv 3)) (fun cl C s₀ H₀ ex => ⟨(pg_name (i := 0) (show (["_law_part"] : List Str).Nodup by decide +kernel) rfl (Or.inl rfl)),pif_nil,(pe_op op_sub pe_int (pv 0))⟩))))
      (pss_cons (ps_setC (i := 5) (hN := sc_Llonger.nd) (hi' := rfl) (hx := (Or.inl rfl)) (sc := cs_Llonger2) (N := ["_law_one","_law_other","_law_number_here"]) (ix := [none,none,some 1]) (comp_mk (by kernel_rfl) (by kernel_rfl) (by kernel_rfl) (by kernel_rfl) (by kernel_rfl) (by kernel_rfl) (by kernel_rfl) (by kernel_rfl)) rfl (pi_zip K rfl B.b_zip (pa_b (pe_op (xadd K) (pv 5) (pe_lst (pa_k pe_int pa_nil))) (pa_b (pe_op (xadd K) (pe_lst (pa_k pe_int pa_nil)) (pv 5)) pa_nil))) (fun cl C s₀ H₀ ex => ⟨(xgtup K (n := 2) rfl (pgs_cons (pg_name (i := 0) (show (["_law_one","_law_other","_law_number_here"] : List Str).Nodup by decide +kernel) rfl (Or.inl rfl)) (pgs_cons (pg_name (i := 1) (show (["_law_one","_law_other","_law_number_here"] : List Str).Nodup by decide +kernel) rfl (Or.inl rfl)) pgs_nil))),pif_nil,(pe_op op_sub (pv 0) (pe_op v_mul (pv 2) (pv 1)))⟩))
      (pss_cons (ps_set (i := 6) sc_Llonger.nd rfl (Or.inl rfl) (pe_callC C_Lgone hr rfl (pa_n (pv 0) (pa_b (pe_op (xadd K) (pe_callB (xlen K) rfl B.b_len boot_len (pa_n (pv 3) pa_nil)) pe_int) pa_nil))))
      (pss_one (ps_ret (pe_tup (pa_n (pv 2) (pa_cons (pe_callTy (xtuple K) rfl B.b_tuple boot_tuple (pa_cons (pe_comp (sc := cs_Llonger3) (N := ["_law_part","_law_by_here"]) (ix := [none,some 2]) (comp_mk (by kernel_rfl) (by kernel_rfl) (by kernel_rfl) (by kernel_rfl) (by kernel_rfl) (by kernel_rfl) (by kernel_rfl) (by kernel_rfl)) rfl (xseq K (pe_slice (xsl K) (pv 5) (po_some pe_int) po_none)) (fun cl C s₀ H₀ ex => ⟨(pg_name (i := 0) (show (["_law_part","_law_by_here"] : List Str).Nodup by decide +kernel) rfl (Or.inl rfl)),pif_nil,(pe_callC C_Ltaken hr rfl (pa_n (pv 1) (pa_b (pe_op op_sub pe_int (pv 0)) pa_nil)))⟩)) pa_nil)) (pa_cons (pe_callTy (xtuple K) rfl B.b_tuple boot_tuple (pa_n (pv 6) pa_nil)) pa_nil)))))))))),?_⟩
    obtain ⟨a,p,p2,rfl,hA,hR,hS⟩ := id hRI
    have lR : (r.rule.map V.int).length = r.rule.length := List.length_map _
    refine ⟨_,rfl,a,_,rfl,SqT.of hA,rfl,_,_,rfl,_,_,rfl,_,_,rfl,rfl,?_⟩
    refine ⟨(by show 1 ≤ sizeLine; decide),fun l1 hl1 => ?_⟩
    have g1 := Same.new hl1 (.lst [.int 1])
    have h1 : (upd H l1 (.lst [.int 1])) l1 = some (.lst [.int 1]) := upd_same
    generalize upd H l1 (.lst [.int 1]) = H1 at g1 h1
    refine ⟨_,rfl,p,rfl,.inr ⟨⟨_,SqT.of (g1 _ _ hR)⟩,?_⟩⟩
    refine comp_tup (g1 _ _ hR) (by omega) rfl (fun x => 0 - x) ?_ ?_
    · intro H2 x g2 hx k hk
      exact ⟨_,rfl,_,_,rfl,rfl,hk⟩
    intro D1 hD1
    have g2 := Same.new hD1 (.lst ((r.rule.map fun x => 0 - x).map V.int))
    have h2 : (upd H1 D1 (.lst ((r.rule.map fun x => 0 - x).map V.int))) D1 = some (.lst ((r.rule.map fun x => 0 - x).map V.int)) := upd_same
    have h1' := g2 _ _ h1
    generalize upd H1 D1 (.lst ((r.rule.map fun x => 0 - x).map V.int)) = H2 at g2 h2 h1'
    refine .inl ⟨_,_,h1',h2,?_,fun l2 hl2 => ?_⟩
    · rw [List.length_map,List.length_map]; exact Nat.le_of_lt (small1000 (by show 1 + _ ≤ 1000; omega))
    have g3 := Same.new hl2 (.lst ([.int 1] ++ (r.rule.map fun x => 0 - x).map V.int))
    have h3 : (upd H2 l2 (.lst ([.int 1] ++ (r.rule.map fun x => 0 - x).map V.int))) l2 = some (.lst ((lowL r.rule).map V.int)) := upd_same
    generalize upd H2 l2 (.lst ([.int 1] ++ (r.rule.map fun x => 0 - x).map V.int)) = H3 at g3 h3
    have lLo := lowL_len r.rule
    refine ⟨_,rfl,(by show 1 ≤ sizeLine; decide),fun l3 hl3 => ?_⟩
    have g4 := Same.new hl3 (.lst [.int 0])
    have h4 : (upd H3 l3 (.lst [.int 0])) l3 = some (.lst [.int 0]) := upd_same
    have h3a := g4 _ _ h3
    generalize upd H3 l3 (.lst [.int 0]) = H4 at g4 h4 h3a
    refine .inl ⟨_,_,h3a,h4,?_,fun l4 hl4 => ?_⟩
    · rw [List.length_map,lLo]; exact Nat.le_of_lt (small1000 (by show _ + 1 ≤ 1000; omega))
    have g5 := Same.new hl4 (.lst ((lowL r.rule).map V.int ++ [.int 0]))
    have h5 : (upd H4 l4 (.lst ((lowL r.rule).map V.int ++ [.int 0]))) l4 = some (.lst ((lowL r.rule ++ [0]).map V.int)) := by rw [upd_same,map_snoc]
    have h3b := g5 _ _ h3a
    generalize upd H4 l4 (.lst ((lowL r.rule).map V.int ++ [.int 0])) = H5 at g5 h5 h3b
    refine ⟨(by show 1 ≤ sizeLine; decide),fun l5 hl5 => ?_⟩
    have g6 := Same.new hl5 (.lst [.int 0])
    have h6 : (upd H5 l5 (.lst [.int 0])) l5 = some (.lst [.int 0]) := upd_same
    have h3c := g6 _ _ h3b
    have h5a := g6 _ _ h5
    generalize upd H5 l5 (.lst [.int 0]) = H6 at g6 h6 h3c h5a
    refine ⟨_,rfl,.inl ⟨_,_,h6,h3c,?_,fun l6 hl6 => ?_⟩⟩
    · rw [List.length_map,lLo]; exact Nat.le_of_lt (small1000 (by show 1 + _ ≤ 1000; omega))
    have g7 := Same.new hl6 (.lst ([.int 0] ++ (lowL r.rule).map V.int))
    have h7 : (upd H6 l6 (.lst ([.int 0] ++ (lowL r.rule).map V.int))) l6 = some (.lst (([0] ++ lowL r.rule).map V.int)) := upd_same
    have h5b := g7 _ _ h5a
    generalize upd H6 l6 (.lst ([.int 0] ++ (lowL r.rule).map V.int)) = H7 at g7 h7 h5b
    refine ⟨false,false,l4,l6,_,_,rfl,SqL.of h5b,SqL.of h7,?_⟩
    refine comp_zip (t1 := false) (t2 := false) (SqL.of h5b) (SqL.of h7) (by rw [List.length_map,List.length_append,lLo]; exact Nat.le_of_lt (small1000 (by show _ + 1 + 1 ≤ 1000; omega))) rfl (zipF fun x y => x - n * y) ?_ ?_
    · intro H8 k x y g8 hxk hyk kk hkk
      obtain ⟨rfl,_⟩ := map_int_get hxk
      obtain ⟨rfl,_⟩ := map_int_get hyk
      exact ⟨_,rfl,_,rfl,_,rfl,mulL (by have := hn; unfold Rm.Bd at this; omega) (by have := hn; unfold Rm.Bd at this; omega),_,_,rfl,rfl,hkk⟩
    intro D2 H8 hD2 g8 hD8
    rw [zipF_map] at hD8
    have eM : List.zipWith (fun x y => x - n * y) (lowL r.rule ++ [0]) ([0] ++ lowL r.rule) = midL n r.rule := rfl
    rw [eM] at hD8
    have gA := g1.trans (g2.trans (g3.trans (g4.trans (g5.trans (g6.trans (g7.trans g8))))))
    refine ⟨_,rfl,_,rfl,.ref p,r.rule.length,rfl,.inr ⟨_,SqT.of (gA _ _ hR),lR.symm⟩,.ref a,r,(r.rule.length : Int) + 1,rfl,hRI.same gA,ok,hb,by omega,by omega,fun ls H9 g9 fs hs => ?_⟩
    rw [show ((r.rule.length : Int) + 1).toNat = r.rule.length + 1 by omega] at hs
    refine ⟨_,rfl,_,rfl,_,rfl,.inl ⟨_,SqL.of (g9 _ _ hD8),fun l7 hl7 => ?_⟩⟩
    rw [show (1 : Int) = ((1 : Nat) : Int) from rfl,cut_drop,← List.map_drop]
    have g10 := Same.new hl7 (.lst (((midL n r.rule).drop 1).map V.int))
    have h10 : (upd H9 l7 (.lst (((midL n r.rule).drop 1).map V.int))) l7 = some (.lst (((midL n r.rule).drop 1).map V.int)) := upd_same
    have hs10 := g10 _ _ hs
    generalize upd H9 l7 (.lst (((midL n r.rule).drop 1).map V.int)) = H10 at g10 h10 hs10
    refine ⟨l7,rfl,.inl ⟨⟨_,SqL.of h10⟩,?_⟩⟩
    refine comp_lst h10 (by rw [List.length_drop,midL_len]; omega) rfl (fun x => Rm.tk r.b (0 - x)) ?_ ?_
    · intro H11 x g11 hx k hk
      exact ⟨_,rfl,_,rfl,_,_,rfl,rfl,r.b,_,rfl,ok.by0,hk⟩
    intro D3 hD3
    rw [longerR_mid]
    have g11 := Same.new hD3 (.lst ((longerR r.b n r.rule).map V.int))
    refine ⟨D3,_,rfl,.inl ⟨SqL.of upd_same,fun t1 ht1 => ?_⟩⟩
    have gt1 := Same.new ht1 (.tup ((longerR r.b n r.rule).map V.int))
    refine ⟨_,rfl,ls,_,rfl,.inl ⟨SqL.of (gt1 _ _ (g11 _ _ hs10)),fun t2 ht2 => ?_⟩⟩
    have gt2 := Same.new ht2 (.tup ((r.row (r.rule.length + 1)).map V.int))
    refine ⟨(by show 3 ≤ sizeLine; decide),fun t3 ht3 => ?_⟩
    have gt3 := Same.new ht3 (.tup [.int r.b,.ref t1,.ref t2])
    exact q (.ref t3) _ (gA.trans (g9.trans (g10.trans (g11.trans (gt1.trans (gt2.trans gt3)))))) ⟨t3,t1,t2,rfl,upd_same,gt3 _ _ (gt2 _ _ upd_same),gt3 _ _ upd_same⟩
theorem ok_Lback (B : Bt mg) (F : Fn K mg "_law_back" s_Lback ["_law_n","_law_begin","_law_length"]) (M : Ms K mg base A_NoBy A_TooLong) : Cal P w K mg base "_law_back" 1 ["_law_n","_law_begin","_law_length"] spBack := by
  refine F.cal sc_Lback (fun vs H Q E h => ?_) (fun f cdv A outer s H vs Q E hr h => ?_)
  · obtain ⟨n,bg,ln,rfl,_⟩ := h; rfl
  · obtain ⟨n,bg,ln,rfl,hl,q⟩ := h
    refine ⟨_,(pss_cons (ps_if (pt_cmpR op_lt (pv 0) (pv 1) (nomark _))
      (pss_one (ps_ret (pv 0)))
      pss_nil)
      (pss_one (ps_ret (pe_op (xadd K) (pv 1) (pe_op op_mod (pe_op op_sub (pv 0) (pv 1)) (pv 2)))))),?_⟩
    refine ⟨_,rfl,_,rfl,_,_,rfl,rfl,_,rfl,?_⟩
    refine ite2 (fun c => ?_) (fun c => ?_)
    · have c' := dec_true c
      have e : backN n bg ln = n := if_pos (by omega)
      rw [e] at q
      exact ⟨_,rfl,q⟩
    · have c' := dec_false c
      have e : backN n bg ln = bg + (n - bg) % ln := if_neg (by omega)
      rw [e] at q
      refine ⟨_,rfl,_,rfl,_,rfl,_,_,rfl,rfl,_,rfl,_,_,rfl,rfl,(by omega : (0 : Int) < (ln : Int)),?_⟩
      have e2 : (bg : Int) + ((n : Int) - (bg : Int)) % (ln : Int) = ((bg + (n - bg) % ln : Nat) : Int) := by
        rw [Int.natCast_add,Int.natCast_emod,Int.natCast_sub (by omega)]
      rw [← e2] at q
      exact q
theorem ok_Lnumbers_right (B : Bt mg) (F : Fn K mg "_law_numbers_right" s_Lnumbers_right ["_law_row_here","_law_some","_law_begin","_law_length"]) (M : Ms K mg base A_NoBy A_TooLong) (C_where : Cal P w K mg base "where" 12 ["row","number"] (spWhere A_NoBy A_TooLong)) : Cal P w K mg base "_law_numbers_right" 13 ["_law_row_here","_law_some","_law_begin","_law_length"] spNumR := by
  refine F.cal sc_Lnumbers_right (fun vs H Q E h => ?_) (fun f cdv A outer s H vs Q E hr h => ?_)
  · obtain ⟨v,r,L,bg,ln,sl,rfl,_⟩ := h; rfl
  · obtain ⟨v,r,L,bg,ln,sl,rfl,hR,k,hSl,q⟩ := h
    refine ⟨_,(pss_cons (ps_set (i := 4) sc_Lnumbers_right.nd rfl (Or.inl rfl) pe_int)
      (pss_cons (ps_for PassesOwn.never rfl (pi_range1 rfl B.b_range (pa_cons (pe_callB (call_min2 rfl) rfl B.b_min boot_min (pa_cons (pe_ix (xix K) (pv 0) pe_int (fun _ _ => rfl)) (pa_k pe_int pa_nil))) pa_nil)) (pg_name (i := 5) sc_Lnumbers_right.nd rfl (Or.inr rfl))
      (pss_cons (ps_asg (pe_callC C_where hr rfl (pa_n (pv 0) (pa_n (pv 5) pa_nil))) (xgtup K (n := 3) rfl (pgs_cons (pg_name (i := 6) sc_Lnumbers_right.nd rfl (Or.inl rfl)) (pgs_cons (pg_name (i := 7) sc_Lnumbers_right.nd rfl (Or.inl rfl)) (pgs_cons (pg_name (i := 8) sc_Lnumbers_right.nd rfl (Or.inl rfl)) pgs_nil)))))
      (pss_cons (ps_setC (i := 9) (hN := sc_Lnumbers_right.nd) (hi' := rfl) (hx := (Or.inl rfl)) (sc := cs_Lnumbers_right1) (N := ["_law_n","_law_number_here","_law_some"]) (ix := [none,some 5,some 1]) (comp_mk (by kernel_rfl) (by kernel_rfl) (by kernel_rfl) (by kernel_rfl) (by kernel_rfl) (by kernel_rfl) (by kernel_rfl) (by kernel_rfl)) rfl (pi_range1 rfl B.b_range (pa_b (pe_op (xadd K) (pv 2) (pv 3)) pa_nil)) (fun cl C s₀ H₀ ex => ⟨(pg_name (i := 0) (show (["_law_n","_law_number_here","_law_some"] : List Str).Nodup by decide +kernel) rfl (Or.inl rfl)),(pif_one (pt_cmpR (xeq K hr) (pe_ix (xix K) (pv 2) (pv 0) (fun _ _ => rfl)) (pv 1) (nomark _))),(pv 0)⟩))
      (pss_cons (ps_if (PW.pt (pw_or (pt_cmpR (xne K hr) (pv 6) (pe_comp (sc := cs_Lnumbers_right3) (N := ["_law_n","_law_begin"]) (ix := [none,some 2]) (comp_mk (by kernel_rfl) (by kernel_rfl) (by kernel_rfl) (by kernel_rfl) (by kernel_rfl) (by kernel_rfl) (by kernel_rfl) (by kernel_rfl)) rfl (xseq K (pv 9)) (fun cl C s₀ H₀ ex => ⟨(pg_name (i := 0) (show (["_law_n","_law_begin"] : List Str).Nodup by decide +kernel) rfl (Or.inl rfl)),(pif_one (pt_cmpR op_lt (pv 0) (pv 1) (nomark _))),(pv 0)⟩)) (nomark _)) (pw_or (pt_cmpR (xne K hr) (pv 7) (pe_comp (sc := cs_Lnumbers_right2) (N := ["_law_n","_law_begin"]) (ix := [none,some 2]) (comp_mk (by kernel_rfl) (by kernel_rfl) (by kernel_rfl) (by kernel_rfl) (by kernel_rfl) (by kernel_rfl) (by kernel_rfl) (by kernel_rfl)) rfl (xseq K (pv 9)) (fun cl C s₀ H₀ ex => ⟨(pg_name (i := 0) (show (["_law_n","_law_begin"] : List Str).Nodup by decide +kernel) rfl (Or.inl rfl)),(pif_one (pt_cmpR op_ge (pv 0) (pv 1) (nomark _))),(pv 0)⟩)) (nomark _)) (pw_or1 (pt_cmpR (xne K hr) (pv 8) (pv 3) (nomark _))))))
      (pss_one (ps_ret pe_bl))
      pss_nil)
      (pss_one (ps_set (i := 4) sc_Lnumbers_right.nd rfl (Or.inl rfl) (pe_op (xadd K) (pv 4) (pe_callB (xlen K) rfl B.b_len boot_len (pa_n (pv 9) pa_nil)))))))))
      (pss_one (ps_ret (pe_or (pe_cmpR op_gt (pe_ix (xix K) (pv 0) pe_int (fun _ _ => rfl)) pe_int (nomark _)) (pe_one (pe_cmpR (xeq K hr) (pv 4) (pe_op (xadd K) (pv 2) (pv 3)) (nomark _)))))))),?_⟩
    obtain ⟨xa,xp,xq,rfl,hxA,hxR,hxS⟩ := id hR
    have hpos := k.pos
    have hsm := k.small
    have hmo := k.most
    obtain ⟨P0,eP⟩ : ∃ P0 : Nat,r.b = (P0 : Int) := ⟨r.b.toNat,(Int.toNat_of_nonneg (by omega)).symm⟩
    refine ⟨_,rfl,_,_,.inr (SqT.of hxA),rfl,_,_,rfl,(P0 : Int),?_,by omega,by omega,?_⟩
    · rw [eP]
      rw [if_neg (show ¬ (40 : Int) < (P0 : Int) by omega)]
    rw [Int.toNat_natCast]
    refine for_range (lo := 0) (n := P0) (fun i σ' H' => ∃ (o5 o6 o7 o8 o9 : Option V),σ' = [some (.ref xa),some (.ref sl),some (.int bg),some (.int ln),some (.int (seenN r.at i (bg + ln) : Nat)),o5,o6,o7,o8,o9] ∧ Same H H') ⟨_,_,_,_,_,by rw [seen_none fun n => (k.rng n).1]; rfl,Same.refl _⟩ ?_ ?_
    · rintro i σ' H1 hi ⟨o5,o6,o7,o8,o9,rfl,g1⟩
      have hSl1 := g1 _ _ hSl
      refine ⟨_,rfl,_,rfl,.ref xa,r,0 + (i : Int),rfl,hR.same g1,k.ok,fun z => (by omega),fun _ => ⟨k.by_,fun L' hL' hl' => ?_⟩⟩
      have eL := hL'.uniq k.by_.one k.least
      subst eL
      refine ⟨fun hw => absurd k.pow (Nat.not_le_of_gt hw),fun _ bg2 ln2 p le ls H2 g2 hRd2 _ hp hle hls _ _ _ => ?_⟩
      obtain ⟨rfl,rfl⟩ := hRd2.uniq k.rnd
      refine ⟨p,_,rfl,SqT.of hp,rfl,_,_,rfl,_,_,rfl,_,_,rfl,rfl,?_⟩
      have hSl2 := g2 _ _ hSl1
      have lrow : (r.row (bg2 + ln2 + 12)).length = bg2 + ln2 + 12 := Rw.row_len ..
      refine ⟨_,rfl,_,rfl,(bg2 : Int) + (ln2 : Int),rfl,(by omega : -(2 ^ 62) ≤ (bg2 : Int) + (ln2 : Int)),(by omega : (bg2 : Int) + (ln2 : Int) < 2 ^ 62),?_⟩
      rw [show ((bg2 : Int) + (ln2 : Int)).toNat = bg2 + ln2 by omega]
      obtain ⟨x,hx⟩ : ∃ x : Int,x = (i : Int) := ⟨_,rfl⟩
      refine comp_rngW (lo := 0) (n := bg2 + ln2) (Nat.le_trans hmo (by decide)) rfl (atIs r.at (i : Int)) ?_ ?_ ?_
      · intro H9 t g9 ht kk hkk
        refine ⟨_,rfl,_,rfl,_,_,.inl (SqL.of (g9 _ _ hSl2)),atI_ints (ns := r.row (bg2 + ln2 + 12)) (by omega : (0 : Int) ≤ ((0 : Nat) : Int) + (t : Int)) (by omega),_,rfl,_,rfl,?_⟩
        have e2 : (r.row (bg2 + ln2 + 12)).getD (((0 : Nat) : Int) + (t : Int)).toNat 0 = r.at (0 + t) := by
          rw [show (((0 : Nat) : Int) + (t : Int)).toNat = 0 + t by omega]
          exact Rm.row_get _ _ _ (by omega)
        rw [e2,Int.zero_add]
        exact hkk
      · intro H9 t g9 ht kk hkk
        exact ⟨_,rfl,hkk⟩
      intro D1 hD1
      have lw := whr_len (atIs r.at (i : Int)) 0 (bg2 + ln2)
      have g3 := Same.new hD1 (.lst ((whr (atIs r.at (i : Int)) 0 (bg2 + ln2)).map V.int))
      have h3 : (upd H2 D1 (.lst ((whr (atIs r.at (i : Int)) 0 (bg2 + ln2)).map V.int))) D1 = some (.lst ((whr (atIs r.at (i : Int)) 0 (bg2 + ln2)).map V.int)) := upd_same
      have hle3 := g3 _ _ hle
      have hls3 := g3 _ _ hls
      rw [Int.zero_add] at hle3 hls3
      generalize upd H2 D1 (.lst ((whr (atIs r.at (i : Int)) 0 (bg2 + ln2)).map V.int)) = H3 at g3 h3 hle3 hls3
      have lz : (whr (atIs r.at (i : Int)) 0 (bg2 + ln2)).length ≤ sizeLine := Nat.le_trans (Nat.le_trans lw hmo) (by decide)
      refine ⟨_,rfl,_,rfl,D1,rfl,.inl ⟨⟨_,SqL.of h3⟩,?_⟩⟩
      refine comp_lstF h3 lz rfl (fun x => decide (x < (bg2 : Int))) ?_ ?_ ?_
      · intro H4 y g4 hy kk hk
        exact ⟨_,rfl,_,rfl,_,_,rfl,rfl,_,rfl,hk⟩
      · intro H4 y g4 hy kk hk
        exact ⟨_,rfl,hk⟩
      intro D2 hD2
      have g4 := Same.new hD2 (.lst (((whr (atIs r.at (i : Int)) 0 (bg2 + ln2)).filter fun x => decide (x < (bg2 : Int))).map V.int))
      refine eqLL (SqL.of (g4 _ _ hle3)) (SqL.of upd_same) ⟨_,rfl,?_⟩
      rw [decide_eq_true (whr_early (atIs r.at (i : Int)) bg2 ln2).symm]
      refine iteF ?_
      have h34 := g4 _ _ h3
      have hls4 := g4 _ _ hls3
      generalize upd H3 D2 (.lst (((whr (atIs r.at (i : Int)) 0 (bg2 + ln2)).filter fun x => decide (x < (bg2 : Int))).map V.int)) = H4 at g4 h34 hls4
      refine ⟨_,rfl,_,rfl,D1,rfl,.inl ⟨⟨_,SqL.of h34⟩,?_⟩⟩
      refine comp_lstF h34 lz rfl (fun x => decide (x ≥ (bg2 : Int))) ?_ ?_ ?_
      · intro H5 y g5 hy kk hk
        exact ⟨_,rfl,_,rfl,_,_,rfl,rfl,_,rfl,hk⟩
      · intro H5 y g5 hy kk hk
        exact ⟨_,rfl,hk⟩
      intro D3 hD3
      have g5 := Same.new hD3 (.lst (((whr (atIs r.at (i : Int)) 0 (bg2 + ln2)).filter fun x => decide (x ≥ (bg2 : Int))).map V.int))
      refine eqLL (SqL.of (g5 _ _ hls4)) (SqL.of upd_same) ⟨_,rfl,?_⟩
      rw [decide_eq_true (whr_later (atIs r.at (i : Int)) bg2 ln2).symm]
      refine iteF ?_
      have h35 := g5 _ _ h34
      generalize upd H4 D3 (.lst (((whr (atIs r.at (i : Int)) 0 (bg2 + ln2)).filter fun x => decide (x ≥ (bg2 : Int))).map V.int)) = H5 at g5 h35
      refine ⟨_,rfl,_,rfl,_,rfl,?_⟩
      rw [decide_eq_true rfl]
      refine iteF ?_
      refine ⟨_,rfl,_,rfl,.ref D1,(whr (atIs r.at (i : Int)) 0 (bg2 + ln2)).length,rfl,.inl ⟨_,SqL.of h35,(List.length_map _).symm⟩,?_⟩
      refine ⟨some (.int (0 + (i : Int))),some (.ref le),some (.ref ls),some (.int (ln2 : Int)),some (.ref D1),?_,g1.trans (g2.trans (g3.trans (g4.trans g5)))⟩
      rw [← seen_step r.at i (bg2 + ln2),Int.natCast_add]
      rfl
    · rintro σ' H1 ⟨o5,o6,o7,o8,o9,rfl,g1⟩
      refine ⟨_,rfl,_,_,.inr (SqT.of (g1 _ _ hxA)),rfl,_,_,rfl,rfl,?_⟩
      rw [decide_eq_false (show ¬ r.b > 40 by omega)]
      have tn : r.b.toNat = P0 := by rw [eP,Int.toNat_natCast]
      have e9 : seenN r.at P0 (bg + ln) = bg + ln := seen_all (fun n => by have := (k.rng n).2; rwa [tn] at this) _
      refine ⟨_,rfl,iteF ?_⟩
      refine ⟨_,rfl,_,rfl,_,rfl,?_⟩
      rw [e9]
      have e10 : decide (((bg + ln : Nat) : Int) = (bg : Int) + (ln : Int)) = true := decide_eq_true (Int.natCast_add ..)
      show Q (.bl (id (decide (((bg + ln : Nat) : Int) = (bg : Int) + (ln : Int))))) H1
      rw [e10]
      exact q _ g1
theorem ok_law (B : Bt mg) {f : Addr} {fd : FuncData} (F : Fun K "law" "law" s_law f fd) (M : Ms K mg base A_NoBy A_TooLong) (C_Lcell_at : Cal P w K mg base "_law_cell_at" 1 ["_law_script","_law_k"] (spCell K)) (C_Lrow : Cal P w K mg base "_law_row" 2 ["_law_script","_law_start","_law_by_here","_law_most"] (spRow20 K)) (C_Llonger : Cal P w K mg base "_law_longer" 3 ["_law_row_here","_law_number_here"] spLonger20) (C_Lmixed : Cal P w K mg base "_law_mixed" 1 ["_law_cell","_law_k"] spMixed) (C_round_of : Cal P w K mg base "round_of" 11 ["row"] (spRoundOf A_NoBy A_TooLong)) (C_Lgone : Cal P w K mg base "_law_gone" 2 ["_law_row_here","_law_count"] spGone) (C_Lback : Cal P w K mg base "_law_back" 1 ["_law_n","_law_begin","_law_length"] spBack) (C_place_at : Cal P w K mg base "place_at" 5 ["row","n"] spPlaceAt) (C_onward : Cal P w K mg base "onward" 6 ["row","n"] spOnward) (C_jump : Cal P w K mg base "jump" 4 ["row","n"] spJump) (C_shortest : Cal P w K mg base "shortest" 9 ["row"] spShort) (C_Lnumbers_right : Cal P w K mg base "_law_numbers_right" 13 ["_law_row_here","_law_some","_law_begin","_law_length"] spNumR) : FnOk P w K mg base (Flown P w) KLAW f fd ["_law_script"] (spLaw K) := by
  refine F.okN (k := 13) sc_law (fun vs H Q E h => ?_) (fun cdv A outer s H vs Q E hr h => ?_)
  · obtain ⟨a,ns,rfl,_⟩ := h; rfl
  · obtain ⟨a,ns,rfl,hS,hlen,_,q⟩ := h
    refine ⟨_,(pss_cons (ps_set (i := 1) sc_law.nd rfl (Or.inl rfl) (pe_callC C_Lcell_at hr rfl (pa_n (pv 0) (pa_k pe_int pa_nil))))
      (pss_cons (ps_set (i := 2) sc_law.nd rfl (Or.inl rfl) (pe_ix (xix K) (pe_lst (pa_k pe_int (pa_k pe_int (pa_k pe_int (pa_k pe_int (pa_k pe_int pa_nil)))))) (pe_op op_mod (pv 1) pe_int) (fun _ _ => rfl)))
      (pss_cons (ps_set (i := 3) sc_law.nd rfl (Or.inl rfl) (pe_callC C_Lrow hr rfl (pa_n (pv 0) (pa_k pe_int (pa_n (pv 2) (pa_cons (pe_ix (xix K) (pe_lst (pa_k pe_int (pa_k pe_int (pa_k pe_int (pa_k pe_int (pa_k pe_int pa_nil)))))) (pe_op op_mod (pv 1) pe_int) (fun _ _ => rfl)) pa_nil))))))
      (pss_cons (ps_for PassesOwn.never rfl (pi_range1 rfl B.b_range (pa_b (pe_op op_mod (pe_callC C_Lcell_at hr rfl (pa_n (pv 0) (pa_k pe_int pa_nil))) pe_int) pa_nil)) (pg_name (i := 4) sc_law.nd rfl (Or.inl rfl))
      (pss_one (ps_set (i := 3) sc_law.nd rfl (Or.inl rfl) (pe_callC C_Llonger hr rfl (pa_n (pv 3) (pa_b (pe_op op_mod (pe_callC C_Lmixed hr rfl (pa_cons (pe_callC C_Lcell_at hr rfl (pa_n (pv 0) (pa_k pe_int pa_nil))) (pa_n (pv 4) pa_nil))) (pv 2)) pa_nil))))))
      (pss_cons (ps_asg (pe_callC C_round_of hr rfl (pa_n (pv 3) pa_nil)) (xgtup K (n := 2) rfl (pgs_cons (pg_name (i := 5) sc_law.nd rfl (Or.inr rfl)) (pgs_cons (pg_name (i := 6) sc_law.nd rfl (Or.inr rfl)) pgs_nil))))
      (pss_cons (ps_set (i := 7) sc_law.nd rfl (Or.inr rfl) (pe_callC C_Lgone hr rfl (pa_n (pv 3) (pa_b (pe_op (xadd K) (pe_op (xadd K) (pv 5) (pv 6)) pe_int) pa_nil))))
      (pss_cons (ps_set (i := 8) sc_law.nd rfl (Or.inr rfl) (pe_op op_mod (pe_callC C_Lcell_at hr rfl (pa_n (pv 0) (pa_k pe_int pa_nil))) (pe_op op_pow pe_int pe_int)))
      (pss_cons (ps_set (i := 9) sc_law.nd rfl (Or.inl rfl) (pe_op op_mod (pe_callC C_Lcell_at hr rfl (pa_n (pv 0) (pa_k pe_int pa_nil))) (pe_op op_pow pe_int pe_int)))
      (pss_cons (ps_set (i := 10) sc_law.nd rfl (Or.inl rfl) (pe_callC C_Lback hr rfl (pa_n (pv 8) (pa_n (pv 5) (pa_n (pv 6) pa_nil)))))
      (pss_cons (ps_if (PW.pt (pw_or (pt_cmpR (xne K hr) (pe_callC C_place_at hr rfl (pa_n (pv 3) (pa_n (pv 8) pa_nil))) (pe_ix (xix K) (pv 7) (pv 10) (fun _ _ => rfl)) (nomark _)) (pw_or1 (pt_cmpR (xne K hr) (pe_callC C_place_at hr rfl (pa_n (pv 3) (pa_n (pv 9) pa_nil))) (pe_ix (xix K) (pv 7) (pe_callC C_Lback hr rfl (pa_n (pv 9) (pa_n (pv 5) (pa_n (pv 6) pa_nil)))) (fun _ _ => rfl)) (nomark _)))))
      (pss_one (ps_ret pe_bl))
      pss_nil)
      (pss_cons (ps_set (i := 11) sc_law.nd rfl (Or.inl rfl) (pe_callC C_onward hr rfl (pa_n (pv 3) (pa_n (pv 8) pa_nil))))
      (pss_cons (ps_setC (i := 12) (hN := sc_law.nd) (hi' := rfl) (hx := (Or.inl rfl)) (sc := cs_law1) (N := ["_law_k","_law_begin","_law_length","_law_n","_law_some"]) (ix := [none,some 5,some 6,some 8,some 7]) (comp_mk (by kernel_rfl) (by kernel_rfl) (by kernel_rfl) (by kernel_rfl) (by kernel_rfl) (by kernel_rfl) (by kernel_rfl) (by kernel_rfl)) rfl (pi_range1 rfl B.b_range (pa_cons (pe_callB (xlen K) rfl B.b_len boot_len (pa_cons (pe_ix (xix K) (pv 3) pe_int (fun _ _ => rfl)) pa_nil)) pa_nil)) (fun cl C s₀ H₀ ex => ⟨(pg_name (i := 0) (show (["_law_k","_law_begin","_law_length","_law_n","_law_some"] : List Str).Nodup by decide +kernel) rfl (Or.inl rfl)),pif_nil,(pe_ix (xix K) (pv 4) (pe_callC C_Lback hr rfl (pa_b (pe_op (xadd K) (pv 3) (pv 0)) (pa_n (pv 1) (pa_n (pv 2) pa_nil)))) (fun _ _ => rfl))⟩))
      (pss_cons (ps_if (pt_cmpR (xne K hr) (pv 11) (pe_tup (pa_n (pv 2) (pa_cons (pe_ix (xix K) (pv 3) pe_int (fun _ _ => rfl)) (pa_cons (pe_callTy (xtuple K) rfl B.b_tuple boot_tuple (pa_n (pv 12) pa_nil)) pa_nil)))) (nomark _))
      (pss_one (ps_ret pe_bl))
      pss_nil)
      (pss_cons (ps_set (i := 13) sc_law.nd rfl (Or.inl rfl) (pe_callC C_round_of hr rfl (pa_n (pv 11) pa_nil)))
      (pss_cons (ps_if (PW.pt (pw_or (pt_cmpR (xne K hr) (pe_ix (xix K) (pv 13) pe_int (fun _ _ => rfl)) (pv 6) (nomark _)) (pw_or1 (pt_cmpR (xne K hr) (pe_ix (xix K) (pv 13) pe_int (fun _ _ => rfl)) (pe_callB (call_max2 rfl) rfl B.b_max boot_max (pa_k pe_int (pa_b (pe_op op_sub (pv 5) (pv 8)) pa_nil))) (nomark _)))))
      (pss_one (ps_ret pe_bl))
      pss_nil)
      (pss_cons (ps_if (PW.pt (pw_or (pt_cmpR (xne K hr) (pe_callC C_onward hr rfl (pa_n (pv 11) (pa_n (pv 9) pa_nil))) (pe_callC C_onward hr rfl (pa_n (pv 3) (pa_b (pe_op (xadd K) (pv 8) (pv 9)) pa_nil))) (nomark _)) (pw_or1 (pt_cmpR (xne K hr) (pe_callB (xlen K) rfl B.b_len boot_len (pa_cons (pe_callC C_jump hr rfl (pa_n (pv 3) (pa_n (pv 8) pa_nil))) pa_nil)) (pe_callB (xlen K) rfl B.b_len boot_len (pa_cons (pe_ix (xix K) (pv 3) pe_int (fun _ _ => rfl)) pa_nil)) (nomark _)))))
      (pss_one (ps_ret pe_bl))
      pss_nil)
      (pss_one (ps_ret (pe_and (pe_callC C_Lnumbers_right hr rfl (pa_n (pv 3) (pa_n (pv 7) (pa_n (pv 5) (pa_n (pv 6) pa_nil))))) (pe_one (pe_cmpR (xeq K hr) (pe_callC C_round_of hr rfl (pa_cons (pe_callC C_shortest hr rfl (pa_n (pv 3) pa_nil)) pa_nil)) (pe_tup (pa_n (pv 5) (pa_n (pv 6) pa_nil))) (nomark _)))))))))))))))))))))),?_⟩
    refine ⟨_,rfl,a,ns,0,rfl,hS,by decide,?_⟩
    generalize cellAt ns 0 = c0
    have e0 := emod_lo c0 (show (0 : Int) < 5 by decide)
    have e1 := emod_hi c0 (show (0 : Int) < 5 by decide)
    obtain ⟨P0,m,hP0,hm6,hP13,hpw,eP,em⟩ := prL_ok (c0 % 5).toNat (by omega)
    have hPr := primesN_range P0 hP0
    refine ⟨(by show 5 ≤ sizeLine; decide),fun p1 hp1 => ?_⟩
    have g1 := Same.new hp1 (.lst (prL.map V.int))
    refine ⟨_,rfl,_,_,rfl,rfl,(by decide : (0 : Int) < 5),_,_,.inl (SqL.of upd_same),atI_ints (ns := prL) e0 e1,?_⟩
    rw [eP]
    have eH : (upd H p1 (.lst [.int 2,.int 3,.int 5,.int 7,.int 13])) = upd H p1 (.lst (prL.map V.int)) := rfl
    rw [eH]
    have hS1 := g1.seq hS
    generalize upd H p1 (.lst (prL.map V.int)) = H1 at g1 hS1
    refine ⟨_,rfl,_,rfl,(by show 5 ≤ sizeLine; decide),fun p2 hp2 => ?_⟩
    have g2 := Same.new hp2 (.lst (moL.map V.int))
    refine ⟨_,rfl,_,_,rfl,rfl,(by decide : (0 : Int) < 5),_,_,.inl (SqL.of upd_same),atI_ints (ns := moL) e0 e1,?_⟩
    rw [em]
    have eH : (upd H1 p2 (.lst [.int 6,.int 6,.int 5,.int 4,.int 3])) = upd H1 p2 (.lst (moL.map V.int)) := rfl
    rw [eH]
    have hS2 := g2.seq hS1
    generalize upd H1 p2 (.lst (moL.map V.int)) = H2 at g2 hS2
    have hBq : ByQ (P0 : Int) := ⟨P0,hP0,rfl⟩
    refine ⟨a,ns,1,(P0 : Int),m,rfl,hS2,by decide,hBq,by omega,fun v0 r0 H3 g3 hR0 hL0 => ?_⟩
    have ok0 := hL0.ok hBq (by omega)
    have hS3 := g3.seq hS2
    have f0 := emod_lo (cellAt ns 4) (show (0 : Int) < 4 by decide)
    have f1 := emod_hi (cellAt ns 4) (show (0 : Int) < 4 by decide)
    refine ⟨_,rfl,a,ns,4,rfl,hS3,by decide,_,_,rfl,rfl,(by decide : (0 : Int) < 4),cellAt ns 4 % 4,rfl,(by omega : -(2 ^ 62) ≤ cellAt ns 4 % 4),(by omega : cellAt ns 4 % 4 < 2 ^ 62),?_⟩
    generalize hst : (cellAt ns 4 % 4).toNat = st
    have hst3 : st ≤ 3 := by omega
    refine for_range (lo := 0) (n := st) (fun i σ' H' => ∃ (o4 : Option V) (v : V) (r : Rw),σ' = [some (.ref a),some (.int c0),some (.int (P0 : Int)),some v,o4,none,none,none,none,none,none,none,none,none] ∧ Same H3 H' ∧ RowIs H' v r ∧ RwOk r ∧ r.b = (P0 : Int) ∧ r.rule.length ≤ m + i ∧ ∀ n,r.at n = r0.at n)
      ⟨_,v0,r0,rfl,Same.refl _,hR0,ok0,hL0.by_,hL0.short,fun _ => rfl⟩ ?_ ?_
    · rintro i σ' H4 hi ⟨o4,v,r,rfl,g4,hR,ok,hb,hlr,hat⟩
      have hPp : (0 : Int) < (P0 : Int) := by omega
      generalize hnn : mixedI (cellAt ns 4) (0 + (i : Int)) = nn
      have k0 := emod_lo nn hPp
      have k1 := emod_hi nn hPp
      have hB : ByQ r.b := hb ▸ hBq
      refine ⟨_,rfl,_,rfl,a,ns,4,rfl,g4.seq hS3,by decide,_,rfl,cellAt ns 4,0 + (i : Int),rfl,by omega,by omega,?_⟩
      rw [hnn]
      refine ⟨_,rfl,_,_,rfl,rfl,hPp,v,r,_,rfl,hR,ok,by omega,by omega,(Rm.Bd.of (n := 10) (by omega) (by omega)).mono (by decide),fun v' H5 g5 hR' => ?_⟩
      refine ⟨_,v',_,rfl,g4.trans g5,hR',ok.longerQ hB (by omega) _,hb,?_,fun n => ?_⟩
      · show (longerR _ _ _).length ≤ _
        rw [longerR_len]; omega
      · rw [← hat n]
        exact longerR_at ok.len ok.startsNum rfl n
    rintro σ' H4 ⟨o4,v,r,rfl,g4,hR,ok,hb,hlr,hat⟩
    have hB : ByQ r.b := hb ▸ hBq
    have hpos : 0 < r.b := by omega
    have hS4 := g4.seq hS3
    have hpow : ∀ {L : List Int},LeastOf r.b r.at L → r.b.toNat ^ (L.length - 1) ≤ 4096 := fun {L} hL => by
      have hb0 : r0.b = r.b := hL0.by_.trans hb.symm
      have l0 := LeastOf.short (r := r0) (L := L) (f := r.at) (hb0 ▸ hB) (hb0 ▸ hL) ok0 fun n => (hat n).symm
      have l1 := hL0.short
      rw [hb,Int.toNat_natCast]
      exact Nat.le_trans (Nat.pow_le_pow_right (by omega) (show L.length - 1 ≤ m by omega)) hpw
    refine ⟨_,rfl,v,r,rfl,hR,ok,fun z => absurd z (by omega),fun _ => ⟨hB,fun L hL hl => ⟨fun hw => absurd (hpow hL) (Nat.not_le_of_gt hw),fun _ bg ln p H5 g5 hp hRd => ?_⟩⟩⟩
    have k : Known r L bg ln := ⟨ok,hB,by omega,hL,hl,hpow hL,hRd⟩
    have hmo := k.most
    have hln := k.rnd.pos
    refine ⟨p,_,rfl,SqT.of hp,rfl,_,_,rfl,_,_,rfl,rfl,?_⟩
    have hR5 := hR.same g5
    have hS5 := g5.seq hS4
    refine ⟨_,rfl,_,rfl,_,rfl,v,r,(bg : Int) + (ln : Int) + 12,rfl,hR5,ok,hpos,by omega,by omega,fun sl H6 g6 fs hs => ?_⟩
    rw [show ((bg : Int) + (ln : Int) + 12).toNat = bg + ln + 12 by omega] at hs
    have hR6 := hR5.same g6
    have hS6 := g6.seq hS5
    clear hR0 hL0 ok0 hR hS hS1 hS2 hS3 hS4 hS5 hR5
    have hM : (0 : Int) < 10 ^ (59 : Int).toNat := by decide
    have hM2 : (0 : Int) < 10 ^ (30 : Int).toNat := by decide
    refine ⟨_,rfl,a,ns,5,rfl,hS6,by decide,_,_,rfl,rfl,⟨by decide,by decide,by decide⟩,_,_,rfl,rfl,hM,?_⟩
    obtain ⟨n,en⟩ : ∃ n : Nat,cellAt ns 5 % 10 ^ (59 : Int).toNat = (n : Int) := ⟨_,(Int.toNat_of_nonneg (emod_lo _ hM)).symm⟩
    have ln59 := emod_hi (cellAt ns 5) hM
    dsimp only
    rw [en] at ln59 ⊢
    refine ⟨_,rfl,a,ns,6,rfl,hS6,by decide,_,_,rfl,rfl,⟨by decide,by decide,by decide⟩,_,_,rfl,rfl,hM2,?_⟩
    obtain ⟨mm,em2⟩ : ∃ n : Nat,cellAt ns 6 % 10 ^ (30 : Int).toNat = (n : Int) := ⟨_,(Int.toNat_of_nonneg (emod_lo _ hM2)).symm⟩
    have ln30 := emod_hi (cellAt ns 6) hM2
    dsimp only
    rw [em2] at ln30 ⊢
    have q59 : (10 : Int) ^ (59 : Int).toNat = 10 ^ 59 := rfl
    have q30 : (10 : Int) ^ (30 : Int).toNat = 10 ^ 30 := rfl
    rw [q59] at ln59
    rw [q30] at ln30
    have bn : Rm.Bd 400 (n : Int) := far_bd59 (by omega)
    have bm : Rm.Bd 400 (mm : Int) := far_bd59 (by omega)
    have bnm : Rm.Bd 400 ((n + mm : Nat) : Int) := far_bd59 (by omega)
    clear en em2 hM hM2 q59 q30
    have hat2 : ∀ t : Nat,(r.row (bg + ln + 12)).getD (backN t bg ln : Int).toNat 0 = r.at t := fun t => by
      rw [Int.toNat_natCast,← back_at k.per t]
      exact Rm.row_get _ _ _ (by have := back_lt (n := t) (bg := bg) hln; omega)
    have lrow : (r.row (bg + ln + 12)).length = bg + ln + 12 := Rw.row_len ..
    have hbk : ∀ t : Nat,(backN t bg ln : Int) < ((r.row (bg + ln + 12)).length : Int) := fun t => by have := back_lt (n := t) (bg := bg) hln; omega
    refine ⟨_,rfl,_,rfl,_,rfl,n,bg,ln,rfl,hln,?_⟩
    refine ⟨_,rfl,_,rfl,v,r,n,rfl,hR6,ok,hB,bn,fun H7 g7 => ?_⟩
    refine ⟨_,rfl,_,rfl,_,_,.inl (SqL.of (g7 _ _ hs)),atI_ints (ns := r.row (bg + ln + 12)) (by omega : (0 : Int) ≤ (backN n bg ln : Int)) (hbk n),_,rfl,?_⟩
    rw [hat2 n,decide_eq_true rfl]
    refine iteF ?_
    refine ⟨_,rfl,_,rfl,v,r,mm,rfl,hR6.same g7,ok,hB,bm,fun H8 g8 => ?_⟩
    have g78 := g7.trans g8
    refine ⟨_,rfl,_,rfl,_,rfl,_,rfl,mm,bg,ln,rfl,hln,_,_,.inl (SqL.of (g78 _ _ hs)),atI_ints (ns := r.row (bg + ln + 12)) (by omega : (0 : Int) ≤ (backN mm bg ln : Int)) (hbk mm),_,rfl,?_⟩
    rw [hat2 mm,decide_eq_true rfl]
    refine iteF ?_
    have hR8 := hR6.same g78
    have hs8 := g78 _ _ hs
    refine ⟨_,rfl,_,rfl,v,r,n,rfl,hR8,ok,hB,bn,fun lv H9 g9 hLv => ?_⟩
    have hR9 := hR8.same g9
    have hs9 := g9 _ _ hs8
    obtain ⟨xa,xp,xq,rfl,hxA,hxR,hxS⟩ := id hR9
    have lR : (r.rule.map V.int).length = r.rule.length := List.length_map _
    have hsh := ok.short
    refine ⟨_,rfl,_,_,.inr (SqT.of hxA),rfl,.ref xp,r.rule.length,rfl,.inr ⟨_,SqT.of hxR,lR.symm⟩,(r.rule.length : Int),rfl,(by omega : -(2 ^ 62) ≤ (r.rule.length : Int)),(by omega : (r.rule.length : Int) < 2 ^ 62),?_⟩
    rw [Int.toNat_natCast]
    refine comp_rng (n := r.rule.length) (by omega) rfl (fun j => r.at (j + n)) ?_ ?_
    · intro H10 j g10 hj kk hkk
      refine ⟨_,rfl,_,rfl,_,rfl,_,rfl,_,rfl,n + j,bg,ln,?_,hln,_,_,.inl (SqL.of (g10 _ _ hs9)),atI_ints (ns := r.row (bg + ln + 12)) (by omega : (0 : Int) ≤ (backN (n + j) bg ln : Int)) (hbk _),?_⟩
      · rw [show (n : Int) + (0 + (j : Int)) = ((n + j : Nat) : Int) by omega]; rfl
      · rw [hat2,Nat.add_comm n j]
        exact hkk
    intro D hD
    have g10 := Same.new hD (.lst ((Pm.ofF r.rule.length fun j => r.at (j + n)).map V.int))
    have h10 : (upd H9 D (.lst ((Pm.ofF r.rule.length fun j => r.at (j + n)).map V.int))) D = some (.lst ((Pm.ofF r.rule.length fun j => r.at (j + n)).map V.int)) := upd_same
    generalize upd H9 D (.lst ((Pm.ofF r.rule.length fun j => r.at (j + n)).map V.int)) = H10 at g10 h10
    refine ⟨_,rfl,_,rfl,_,rfl,_,_,.inr (SqT.of (g10 _ _ hxA)),rfl,_,rfl,D,_,rfl,.inl ⟨SqL.of h10,fun t1 ht1 => ?_⟩⟩
    have gt1 := Same.new ht1 (.tup ((Pm.ofF r.rule.length fun j => r.at (j + n)).map V.int))
    refine ⟨(by show 3 ≤ sizeLine; decide),fun t2 ht2 => ?_⟩
    have gt2 := Same.new ht2 (.tup [.int (P0 : Int),.ref xp,.ref t1])
    have gA := g10.trans (gt1.trans gt2)
    refine eqRR (hLv.same gA) (r' := ⟨(P0 : Int),r.rule,Pm.ofF r.rule.length fun j => r.at (j + n)⟩) ⟨t2,xp,t1,rfl,upd_same,gA _ _ hxR,gt2 _ _ upd_same⟩ ⟨_,rfl,?_⟩
    rw [decide_eq_true ⟨hb,rfl,rfl⟩]
    refine iteF ?_
    have hLv2 := hLv.same gA
    have hR11 := hR9.same gA
    have hs11 := gA _ _ hs9
    generalize upd (upd H10 t1 (.tup ((Pm.ofF r.rule.length fun j => r.at (j + n)).map V.int))) t2 (.tup [.int (P0 : Int),.ref xp,.ref t1]) = H11 at hLv2 hR11 hs11
    clear hLv hR9 hs9 hs8 hR8 hR6 hs g10 h10 gt1 gt2 gA hxA hxR hxS
    refine ⟨_,rfl,lv,onR r n,rfl,hLv2,onR_ok ok hB n,fun z => absurd (show r.b = 0 from z) (by omega),fun _ => ⟨hB,fun L' hL' hl' => ?_⟩⟩
    obtain ⟨ll,hu⟩ := k.later n hL'
    have hpw' : r.b.toNat ^ (L'.length - 1) ≤ 4096 := Nat.le_trans (Nat.pow_le_pow_right (by omega) (by omega)) k.pow
    refine ⟨fun hw => absurd hpw' (Nat.not_le_of_gt hw),fun _ bg' ln' p' H12 g12 hp' hRd' => ?_⟩
    obtain ⟨rfl,rfl⟩ := hu bg' ln' hRd'
    refine ⟨_,rfl,_,_,.inr (SqT.of hp'),rfl,_,rfl,_,rfl,?_⟩
    rw [decide_eq_true rfl]
    refine iteF ?_
    refine ⟨_,rfl,_,_,.inr (SqT.of hp'),rfl,_,rfl,_,rfl,_,_,rfl,rfl,_,_,rfl,_,rfl,?_⟩
    rw [decide_eq_true (show ((bg - n : Nat) : Int) = if (bg : Int) - (n : Int) > 0 then (bg : Int) - (n : Int) else 0 by split <;> omega)]
    refine iteF ?_
    refine ⟨_,rfl,_,rfl,lv,onR r n,mm,rfl,hLv2.same g12,onR_ok ok hB n,hB,bm,fun v1 H13 g13 hv1 => ?_⟩
    have hR13 := hR11.same (g12.trans g13)
    refine ⟨_,rfl,_,rfl,_,rfl,.ref xa,r,n + mm,(by rw [Int.natCast_add]; rfl),hR13,ok,hB,bnm,fun v2 H14 g14 hv2 => ?_⟩
    refine eqRR (hv1.same g14) hv2 ⟨_,rfl,?_⟩
    have eon : (Pm.ofF r.rule.length fun j => (onR r n).at (j + mm)) = Pm.ofF r.rule.length fun j => r.at (j + (n + mm)) := congrArg (Pm.ofF r.rule.length) (funext fun j => by rw [onR_at ok,show j + mm + n = j + (n + mm) by omega])
    rw [decide_eq_true ⟨rfl,rfl,eon⟩]
    refine iteF ?_
    have hR14 := hR13.same g14
    refine ⟨_,rfl,_,rfl,.ref xa,r,n,rfl,hR14,ok,hB,bn,fun tj H15 g15 hj => ?_⟩
    have hR15 := hR14.same g15
    obtain ⟨ya,yp,yq,ye,hyA,hyR,hyS⟩ := id hR15
    cases ye
    refine ⟨.ref tj,r.rule.length,rfl,.inr ⟨_,SqT.of hj,by rw [List.length_map,Pm.rest_len]⟩,_,rfl,_,_,.inr (SqT.of hyA),rfl,.ref yp,r.rule.length,rfl,.inr ⟨_,SqT.of hyR,lR.symm⟩,_,rfl,?_⟩
    rw [decide_eq_true rfl]
    refine iteF ?_
    have hs15 := g15 _ _ (g14 _ _ (g13 _ _ (g12 _ _ hs11)))
    refine ⟨_,rfl,_,rfl,_,rfl,_,rfl,.ref xa,r,L,bg,ln',sl,rfl,hR15,k,hs15,fun H16 g16 => ?_⟩
    refine ⟨_,rfl,iteT ?_⟩
    refine ⟨_,rfl,.ref xa,r,rfl,hR15.same g16,ok,hB,fun sv L2 H17 g17 hRs hL2 hl2 => ?_⟩
    have okS := shortR_ok ok hB hL2 hl2
    refine ⟨sv,shortR r L2,rfl,hRs,okS,fun z => absurd (show r.b = 0 from z) (by omega),fun _ => ⟨hB,fun L3 hL3 hl3 => ?_⟩⟩
    obtain ⟨e3,hu3⟩ := k.shorter hL2 hl2 hL3
    refine ⟨fun hw => absurd (show r.b.toNat ^ (L3.length - 1) ≤ 4096 by rw [e3]; exact k.pow) (Nat.not_le_of_gt hw),fun _ bg3 ln3 p3 H18 g18 hp3 hRd3 => ?_⟩
    obtain ⟨rfl,rfl⟩ := hu3 bg3 ln3 hRd3
    refine ⟨_,rfl,_,rfl,(by show 2 ≤ sizeLine; decide),fun tz htz => ?_⟩
    have gz := Same.new htz (.tup [.int (bg3 : Int),.int (ln3 : Int)])
    refine eqTT (ns := [(bg3 : Int),(ln3 : Int)]) (ms := [(bg3 : Int),(ln3 : Int)]) (SqT.of (gz _ _ hp3)) (SqT.of upd_same) ?_
    rw [decide_eq_true rfl]
    exact q _
end
theorem all_mk {l : PySem.W.OpenLaw} {w : World} {K : PySem.W.Frag} {h : Heap} {mg : Str → Option Value} {fa : Addr} (X : K.In h) (G : h.Ns mainGlobals mg) (hfa : mg "law" = some (.ref fa))
    (F0 : FnIn K "taken" s_taken) (F1 : FnIn K "inverse" s_inverse) (F2 : FnIn K "over" s_over) (F3 : FnIn K "next_place" s_next_place) (F4 : FnIn K "first_places" s_first_places) (F5 : FnIn K "trimmed" s_trimmed) (F6 : FnIn K "number_at" s_number_at) (F7 : FnIn K "times" s_times) (F8 : FnIn K "divided" s_divided) (F9 : FnIn K "monic" s_monic) (F10 : FnIn K "greatest" s_greatest) (F11 : FnIn K "of_rule" s_of_rule) (F12 : FnIn K "rule_of" s_rule_of) (F13 : FnIn K "sum_at" s_sum_at) (F14 : FnIn K "refuse_far_jump" s_refuse_far_jump) (F15 : FnIn K "power_left" s_power_left) (F16 : FnIn K "jump" s_jump) (F17 : FnIn K "place_at" s_place_at) (F18 : FnIn K "onward" s_onward) (F19 : FnIn K "whole_greatest" s_whole_greatest) (F20 : FnIn K "shared_divisor" s_shared_divisor) (F21 : FnIn K "top_of" s_top_of) (F22 : FnIn K "least_of" s_least_of) (F23 : FnIn K "shortest" s_shortest) (F24 : FnIn K "refuse_wide" s_refuse_wide) (F25 : FnIn K "round_row" s_round_row) (F26 : FnIn K "came_round" s_came_round) (F27 : FnIn K "round_of" s_round_of) (F28 : FnIn K "where" s_where) (F29 : FnIn K "_law_cell_at" s_Lcell_at) (F30 : FnIn K "_law_mixed" s_Lmixed) (F31 : FnIn K "_law_taken" s_Ltaken) (F32 : FnIn K "_law_number" s_Lnumber) (F33 : FnIn K "_law_gone" s_Lgone) (F34 : FnIn K "_law_row" s_Lrow) (F35 : FnIn K "_law_longer" s_Llonger) (F36 : FnIn K "_law_back" s_Lback) (F37 : FnIn K "_law_numbers_right" s_Lnumbers_right) (FL : FnIn K "law" s_law) (z_enumerate : PySem.W.nsIn K mainGlobals "enumerate" = some none) (z_len : PySem.W.nsIn K mainGlobals "len" = some none) (z_list : PySem.W.nsIn K mainGlobals "list" = some none) (z_max : PySem.W.nsIn K mainGlobals "max" = some none) (z_min : PySem.W.nsIn K mainGlobals "min" = some none) (z_range : PySem.W.nsIn K mainGlobals "range" = some none) (z_sum : PySem.W.nsIn K mainGlobals "sum" = some none) (z_tuple : PySem.W.nsIn K mainGlobals "tuple" = some none) (z_zip : PySem.W.nsIn K mainGlobals "zip" = some none) (g_BELOW_THE_PRIMES : ∃ t,PySem.W.nsIn K mainGlobals "BELOW_THE_PRIMES" = some (some (.int 1000000 t))) (g_FARTHEST_BY_0 : ∃ t,PySem.W.nsIn K mainGlobals "FARTHEST_BY_0" = some (some (.int 400 t))) (g_MOST_WINDOWS : ∃ t,PySem.W.nsIn K mainGlobals "MOST_WINDOWS" = some (some (.int 4096 t))) {A_NoBy : Addr} (n_NoBy : PySem.W.nsIn K mainGlobals "NoBy" = some (some (.ref A_NoBy))) {A_TooLong : Addr} (n_TooLong : PySem.W.nsIn K mainGlobals "TooLong" = some (some (.ref A_TooLong))) (q_NoBy : PySem.W.excIn K A_NoBy [.type "ValueError",.type "Exception",.type "BaseException",.type "object"] "ValueError.__new__" = true) (w1_NoBy : PySem.W.findIn K (.ref A_NoBy) "__getattribute__" = some (some (.builtin "BaseException.__getattribute__"))) (w2_NoBy : PySem.W.findIn K (.ref A_NoBy) "__getattr__" = some none) (w3_NoBy : PySem.W.findIn K (.ref A_NoBy) "__class__" = some (some (.builtin "object.__class__"))) (w4_NoBy : PySem.W.mroIn K A_NoBy (.type "BaseException") = some true) (w5_NoBy : PySem.W.mroIn K A_NoBy (.type "object") = some true) (w6_NoBy : (PySem.W.clsIn K A_NoBy).isSome = true) (k_NoBy_NoBy : PySem.W.kitOne K (.ref A_NoBy) (.ref A_NoBy) = some true) (k_NoBy_TooLong : PySem.W.kitOne K (.ref A_NoBy) (.ref A_TooLong) = some false) (k_NoBy_ValueError : PySem.W.kitOne K (.ref A_NoBy) (.type "ValueError") = some true) (q_TooLong : PySem.W.excIn K A_TooLong [.type "ValueError",.type "Exception",.type "BaseException",.type "object"] "ValueError.__new__" = true) (w1_TooLong : PySem.W.findIn K (.ref A_TooLong) "__getattribute__" = some (some (.builtin "BaseException.__getattribute__"))) (w2_TooLong : PySem.W.findIn K (.ref A_TooLong) "__getattr__" = some none) (w3_TooLong : PySem.W.findIn K (.ref A_TooLong) "__class__" = some (some (.builtin "object.__class__"))) (w4_TooLong : PySem.W.mroIn K A_TooLong (.type "BaseException") = some true) (w5_TooLong : PySem.W.mroIn K A_TooLong (.type "object") = some true) (w6_TooLong : (PySem.W.clsIn K A_TooLong).isSome = true) (k_TooLong_NoBy : PySem.W.kitOne K (.ref A_TooLong) (.ref A_NoBy) = some false) (k_TooLong_TooLong : PySem.W.kitOne K (.ref A_TooLong) (.ref A_TooLong) = some true) (k_TooLong_ValueError : PySem.W.kitOne K (.ref A_TooLong) (.type "ValueError") = some true) :
    ∃ fd : FuncData,(∀ (s : Shared) (v : Value),BindsTo s fd ⟨[v],[]⟩ [("_law_script",v)]) ∧ ∀ base : Heap,K.In base → base.Ns mainGlobals mg → FnOk l.prog w K mg base (Flown l.prog w) KLAW fa fd ["_law_script"] (spLaw K) := by
  obtain ⟨f,oc,od,kV,doc,pm,an,cdv,ct,sl,e1,e2,e3,e4⟩ := FL.ex
  have e := hfa.symm.trans (PySem.W.mg_of X G e1)
  cases e
  have FF := fun_mk (st := s_law) e2 e3 e4
  have B : Bt mg := ⟨PySem.W.mg_none_of X G z_enumerate,PySem.W.mg_none_of X G z_len,PySem.W.mg_none_of X G z_list,PySem.W.mg_none_of X G z_max,PySem.W.mg_none_of X G z_min,PySem.W.mg_none_of X G z_range,PySem.W.mg_none_of X G z_sum,PySem.W.mg_none_of X G z_tuple,PySem.W.mg_none_of X G z_zip,(let ⟨t,q⟩ := g_BELOW_THE_PRIMES; ⟨t,PySem.W.mg_of X G q⟩),(let ⟨t,q⟩ := g_FARTHEST_BY_0; ⟨t,PySem.W.mg_of X G q⟩),(let ⟨t,q⟩ := g_MOST_WINDOWS; ⟨t,PySem.W.mg_of X G q⟩)⟩
  have G0 := F0.fn X G (ps := ["by","number"]) fun _ _ _ _ _ _ us hl => by obtain ⟨_,_,rfl⟩ := L2.us2 hl; rfl
  have G1 := F1.fn X G (ps := ["prime","number"]) fun _ _ _ _ _ _ us hl => by obtain ⟨_,_,rfl⟩ := L2.us2 hl; rfl
  have G2 := F2.fn X G (ps := ["by","one","other"]) fun _ _ _ _ _ _ us hl => by obtain ⟨_,_,_,rfl⟩ := L2.us3 hl; rfl
  have G3 := F3.fn X G (ps := ["by","rule","before"]) fun _ _ _ _ _ _ us hl => by obtain ⟨_,_,_,rfl⟩ := L2.us3 hl; rfl
  have G4 := F4.fn X G (ps := ["row","count"]) fun _ _ _ _ _ _ us hl => by obtain ⟨_,_,rfl⟩ := L2.us2 hl; rfl
  have G5 := F5.fn X G (ps := ["numbers"]) fun _ _ _ _ _ _ us hl => by obtain ⟨_,rfl⟩ := L2.us1 hl; rfl
  have G6 := F6.fn X G (ps := ["poly","k"]) fun _ _ _ _ _ _ us hl => by obtain ⟨_,_,rfl⟩ := L2.us2 hl; rfl
  have G7 := F7.fn X G (ps := ["by","one","other"]) fun _ _ _ _ _ _ us hl => by obtain ⟨_,_,_,rfl⟩ := L2.us3 hl; rfl
  have G8 := F8.fn X G (ps := ["by","one","other"]) fun _ _ _ _ _ _ us hl => by obtain ⟨_,_,_,rfl⟩ := L2.us3 hl; rfl
  have G9 := F9.fn X G (ps := ["prime","poly"]) fun _ _ _ _ _ _ us hl => by obtain ⟨_,_,rfl⟩ := L2.us2 hl; rfl
  have G10 := F10.fn X G (ps := ["by","one","other"]) fun _ _ _ _ _ _ us hl => by obtain ⟨_,_,_,rfl⟩ := L2.us3 hl; rfl
  have G11 := F11.fn X G (ps := ["by","rule"]) fun _ _ _ _ _ _ us hl => by obtain ⟨_,_,rfl⟩ := L2.us2 hl; rfl
  have G12 := F12.fn X G (ps := ["by","poly"]) fun _ _ _ _ _ _ us hl => by obtain ⟨_,_,rfl⟩ := L2.us2 hl; rfl
  have G13 := F13.fn X G (ps := ["by","poly","found","n"]) fun _ _ _ _ _ _ us hl => by obtain ⟨_,_,_,_,rfl⟩ := L2.us4 hl; rfl
  have G14 := F14.fn X G (ps := ["by","n"]) fun _ _ _ _ _ _ us hl => by obtain ⟨_,_,rfl⟩ := L2.us2 hl; rfl
  have G15 := F15.fn X G (ps := ["by","poly","n"]) fun _ _ _ _ _ _ us hl => by obtain ⟨_,_,_,rfl⟩ := L2.us3 hl; rfl
  have G16 := F16.fn X G (ps := ["row","n"]) fun _ _ _ _ _ _ us hl => by obtain ⟨_,_,rfl⟩ := L2.us2 hl; rfl
  have G17 := F17.fn X G (ps := ["row","n"]) fun _ _ _ _ _ _ us hl => by obtain ⟨_,_,rfl⟩ := L2.us2 hl; rfl
  have G18 := F18.fn X G (ps := ["row","n"]) fun _ _ _ _ _ _ us hl => by obtain ⟨_,_,rfl⟩ := L2.us2 hl; rfl
  have G19 := F19.fn X G (ps := ["one","other"]) fun _ _ _ _ _ _ us hl => by obtain ⟨_,_,rfl⟩ := L2.us2 hl; rfl
  have G20 := F20.fn X G (ps := ["by","one","other"]) fun _ _ _ _ _ _ us hl => by obtain ⟨_,_,_,rfl⟩ := L2.us3 hl; rfl
  have G21 := F21.fn X G (ps := ["row","poly"]) fun _ _ _ _ _ _ us hl => by obtain ⟨_,_,rfl⟩ := L2.us2 hl; rfl
  have G22 := F22.fn X G (ps := ["row"]) fun _ _ _ _ _ _ us hl => by obtain ⟨_,rfl⟩ := L2.us1 hl; rfl
  have G23 := F23.fn X G (ps := ["row"]) fun _ _ _ _ _ _ us hl => by obtain ⟨_,rfl⟩ := L2.us1 hl; rfl
  have G24 := F24.fn X G (ps := ["prime","length"]) fun _ _ _ _ _ _ us hl => by obtain ⟨_,_,rfl⟩ := L2.us2 hl; rfl
  have G25 := F25.fn X G (ps := ["row"]) fun _ _ _ _ _ _ us hl => by obtain ⟨_,rfl⟩ := L2.us1 hl; rfl
  have G26 := F26.fn X G (ps := ["row"]) fun _ _ _ _ _ _ us hl => by obtain ⟨_,rfl⟩ := L2.us1 hl; rfl
  have G27 := F27.fn X G (ps := ["row"]) fun _ _ _ _ _ _ us hl => by obtain ⟨_,rfl⟩ := L2.us1 hl; rfl
  have G28 := F28.fn X G (ps := ["row","number"]) fun _ _ _ _ _ _ us hl => by obtain ⟨_,_,rfl⟩ := L2.us2 hl; rfl
  have G29 := F29.fn X G (ps := ["_law_script","_law_k"]) fun _ _ _ _ _ _ us hl => by obtain ⟨_,_,rfl⟩ := L2.us2 hl; rfl
  have G30 := F30.fn X G (ps := ["_law_cell","_law_k"]) fun _ _ _ _ _ _ us hl => by obtain ⟨_,_,rfl⟩ := L2.us2 hl; rfl
  have G31 := F31.fn X G (ps := ["_law_by_here","_law_number_here"]) fun _ _ _ _ _ _ us hl => by obtain ⟨_,_,rfl⟩ := L2.us2 hl; rfl
  have G32 := F32.fn X G (ps := ["_law_by_here","_law_cell","_law_sort"]) fun _ _ _ _ _ _ us hl => by obtain ⟨_,_,_,rfl⟩ := L2.us3 hl; rfl
  have G33 := F33.fn X G (ps := ["_law_row_here","_law_count"]) fun _ _ _ _ _ _ us hl => by obtain ⟨_,_,rfl⟩ := L2.us2 hl; rfl
  have G34 := F34.fn X G (ps := ["_law_script","_law_start","_law_by_here","_law_most"]) fun _ _ _ _ _ _ us hl => by obtain ⟨_,_,_,_,rfl⟩ := L2.us4 hl; rfl
  have G35 := F35.fn X G (ps := ["_law_row_here","_law_number_here"]) fun _ _ _ _ _ _ us hl => by obtain ⟨_,_,rfl⟩ := L2.us2 hl; rfl
  have G36 := F36.fn X G (ps := ["_law_n","_law_begin","_law_length"]) fun _ _ _ _ _ _ us hl => by obtain ⟨_,_,_,rfl⟩ := L2.us3 hl; rfl
  have G37 := F37.fn X G (ps := ["_law_row_here","_law_some","_law_begin","_law_length"]) fun _ _ _ _ _ _ us hl => by obtain ⟨_,_,_,_,rfl⟩ := L2.us4 hl; rfl
  refine ⟨PySem.W.fnOf "law" "law" (defArgs s_law) (defBody s_law) (defScope s_law) .none kV doc pm an cdv ct,fun s v => .of_eq rfl,fun base kB gB => ?_⟩
  have M : Ms K mg base A_NoBy A_TooLong := ⟨PySem.W.mg_of X G n_NoBy,PySem.W.mg_of X G n_TooLong,exC_of kB gB n_NoBy q_NoBy F.excBase_ValueError (by decide),⟨w1_NoBy,w2_NoBy,w3_NoBy,w4_NoBy,w5_NoBy,w6_NoBy⟩,k_NoBy_NoBy,k_NoBy_TooLong,k_NoBy_ValueError,exC_of kB gB n_TooLong q_TooLong F.excBase_ValueError (by decide),⟨w1_TooLong,w2_TooLong,w3_TooLong,w4_TooLong,w5_TooLong,w6_TooLong⟩,k_TooLong_NoBy,k_TooLong_TooLong,k_TooLong_ValueError⟩
  have C_taken := ok_taken (P := l.prog) (w := w) (base := base) B G0 M
  have C_inverse := ok_inverse (P := l.prog) (w := w) (base := base) B G1 M C_taken
  have C_over := ok_over (P := l.prog) (w := w) (base := base) B G2 M C_taken C_inverse
  have C_next_place := ok_next_place (P := l.prog) (w := w) (base := base) B G3 M C_taken
  have C_first_places := ok_first_places (P := l.prog) (w := w) (base := base) B G4 M C_next_place
  have C_trimmed := ok_trimmed (P := l.prog) (w := w) (base := base) B G5 M
  have C_number_at := ok_number_at (P := l.prog) (w := w) (base := base) B G6 M
  have C_times := ok_times (P := l.prog) (w := w) (base := base) B G7 M C_taken C_trimmed
  have C_divided := ok_divided (P := l.prog) (w := w) (base := base) B G8 M C_taken C_trimmed
  have C_monic := ok_monic (P := l.prog) (w := w) (base := base) B G9 M C_over
  have C_greatest := ok_greatest (P := l.prog) (w := w) (base := base) B G10 M C_monic C_divided
  have C_of_rule := ok_of_rule (P := l.prog) (w := w) (base := base) B G11 M C_taken
  have C_rule_of := ok_rule_of (P := l.prog) (w := w) (base := base) B G12 M C_taken
  have C_sum_at := ok_sum_at (P := l.prog) (w := w) (base := base) B G13 M C_taken
  have C_refuse_far_jump := ok_refuse_far_jump (P := l.prog) (w := w) (base := base) B G14 M
  have C_power_left := ok_power_left (P := l.prog) (w := w) (base := base) B G15 M C_divided C_times
  have C_jump := ok_jump (P := l.prog) (w := w) (base := base) B G16 M C_refuse_far_jump C_power_left C_of_rule C_number_at
  have C_place_at := ok_place_at (P := l.prog) (w := w) (base := base) B G17 M C_sum_at C_jump
  have C_onward := ok_onward (P := l.prog) (w := w) (base := base) B G18 M C_jump C_first_places C_sum_at
  have C_whole_greatest := ok_whole_greatest (P := l.prog) (w := w) (base := base) B G19 M
  have C_shared_divisor := ok_shared_divisor (P := l.prog) (w := w) (base := base) B G20 M C_whole_greatest C_greatest
  have C_top_of := ok_top_of (P := l.prog) (w := w) (base := base) B G21 M C_taken C_trimmed
  have C_least_of := ok_least_of (P := l.prog) (w := w) (base := base) B G22 M C_of_rule C_top_of C_divided C_shared_divisor
  have C_shortest := ok_shortest (P := l.prog) (w := w) (base := base) B G23 M C_least_of C_rule_of
  have C_refuse_wide := ok_refuse_wide (P := l.prog) (w := w) (base := base) B G24 M
  have C_round_row := ok_round_row (P := l.prog) (w := w) (base := base) B G25 M C_shortest C_refuse_wide
  have C_came_round := ok_came_round (P := l.prog) (w := w) (base := base) B G26 M C_next_place
  have C_round_of := ok_round_of (P := l.prog) (w := w) (base := base) B G27 M C_came_round C_round_row
  have C_where := ok_where (P := l.prog) (w := w) (base := base) B G28 M C_round_row C_came_round C_first_places
  have C_Lcell_at := ok_Lcell_at (P := l.prog) (w := w) (base := base) B G29 M
  have C_Lmixed := ok_Lmixed (P := l.prog) (w := w) (base := base) B G30 M
  have C_Ltaken := ok_Ltaken (P := l.prog) (w := w) (base := base) B G31 M
  have C_Lnumber := ok_Lnumber (P := l.prog) (w := w) (base := base) B G32 M
  have C_Lgone := ok_Lgone (P := l.prog) (w := w) (base := base) B G33 M C_Ltaken
  have C_Lrow := ok_Lrow (P := l.prog) (w := w) (base := base) B G34 M C_Lcell_at C_Lnumber C_Lmixed
  have C_Llonger := ok_Llonger (P := l.prog) (w := w) (base := base) B G35 M C_Lgone C_Ltaken
  have C_Lback := ok_Lback (P := l.prog) (w := w) (base := base) B G36 M
  have C_Lnumbers_right := ok_Lnumbers_right (P := l.prog) (w := w) (base := base) B G37 M C_where
  exact ok_law B FF M C_Lcell_at C_Lrow C_Llonger C_Lmixed C_round_of C_Lgone C_Lback C_place_at C_onward C_jump C_shortest C_Lnumbers_right
end K59
namespace L2
open PySem PySem.W PySem.W.X
theorem walkX_of {q : Program} {loose : List Str} {XP : (Str → Option Value) → Heap → Prop} {K : Params → Frag} {as : List Addr} {n t : Nat} {r : RowW} {d : DefRec} {kwd : List (Str × PySem.Expr)} {run : Value → List Value → Sem Value} (keys : ∀ P,as = (K P).map (·.1))
    (W : WalkO q loose XP (fun w h => (K w.params).In h) r d kwd run) : WalkX q loose XP (obsZ as) (valZ K n t) r d kwd run :=
  fun w s0 s1 mg mb G y a o pm cd doc dV kV h1 h2 h3 h4 h5 h6 args vals as' L p1 p2 p3 p4 p5 => W w s0 s1 mg mb G (InK.keeps w _ _ (z_facts keys y).2.1 L.keeps) a o pm cd doc dV kV h1 h2 h3 h4 h5 h6 args vals as' p1 p2 p3 p4 p5
end L2
namespace K59
def topF (i : Nat) : PySem.Stmt := PySem.Challenge.pw_nextbyrule_k59_whole_far_places_come_rou.main.body.getD i (.Pass ⟨0,0,0,0⟩)
def pwL : PySem.Program := { PySem.Challenge.pw_nextbyrule_k59_whole_far_places_come_rou with main := { PySem.Challenge.pw_nextbyrule_k59_whole_far_places_come_rou.main with body := [topF 0,topF 1,topF 2,topF 3,topF 4,topF 5,topF 6,topF 7,topF 8,topF 9,topF 10,topF 11,topF 12,topF 13,topF 14,topF 15,topF 16,topF 17,topF 18,topF 19,topF 20,topF 21,topF 22,topF 23,topF 24,topF 25,topF 26,topF 27,topF 28,topF 29,topF 30,topF 31,topF 32,topF 33,topF 34,topF 35,topF 36,topF 37,topF 38,topF 39,topF 40,topF 41,topF 42,topF 43,topF 44,topF 45,topF 46,topF 47,topF 48,topF 49,topF 50,topF 51,topF 52,topF 53,topF 54,topF 55,topF 56,topF 57,topF 58,topF 59,topF 60,topF 61,topF 62] } }
def rwL : PySem.W.OpenLaw := { PySem.Challenge.rw_nextbyrule_k59_whole_far_places_come_rou with prog := pwL }
end K59
namespace K59
namespace H
noncomputable section
open PySem PySem.W PySem.Calls PyProof.Rows
theorem warm : (K59.pwL.main.body.isEmpty || true) = true := by k_qdec
abbrev nd (v : Obj) (l r : BT) : BT := .node v l r
abbrev e : BT := .nil
abbrev kh := PyData.keyHash
abbrev tt (i : Nat) : Stmt := PySem.W.Fast.tw4300429478650921905 i
def z0 : Str := ⟨⟨[95,95,110,97,109,101,95,95]⟩⟩
def z1 : Str := ⟨⟨[108,97,119,95,110,101,120,116,98,121,114,117,108,101,95,107,53,57,95,119,104,111,108,101,95,102,97,114,95,112,108,97,99,101,115,95,99,111,109,101,95,114,111,117]⟩⟩
def z2 : Str := ⟨⟨[95,95,100,111,99,95,95]⟩⟩
def z3 : Str := ⟨⟨[95,95,112,97,99,107,97,103,101,95,95]⟩⟩
def z4 : Str := ⟨⟨[95,95,108,111,97,100,101,114,95,95]⟩⟩
def z5 : Str := ⟨⟨[95,95,115,112,101,99,95,95]⟩⟩
def z6 : Str := ⟨⟨[95,95,97,110,110,111,116,97,116,105,111,110,115,95,95]⟩⟩
def z7 : Str := ⟨⟨[95,95,98,117,105,108,116,105,110,115,95,95]⟩⟩
def z8 : Str := ⟨⟨[95,95,102,105,108,101,95,95]⟩⟩
def z9 : Str := ⟨⟨[47,99,108,97,105,109,47,99,117,116,46,112,121]⟩⟩
def z10 : Str := ⟨⟨[95,95,99,97,99,104,101,100,95,95]⟩⟩
def z11 : Str := ⟨⟨[82,117,108,101,69,114,114,111,114]⟩⟩
def z12 : Str := ⟨⟨[78,111,78,117,109,98,101,114]⟩⟩
def z13 : Str := ⟨⟨[78,111,66,121]⟩⟩
def z14 : Str := ⟨⟨[84,111,111,70,97,114]⟩⟩
def z15 : Str := ⟨⟨[84,111,111,76,111,110,103]⟩⟩
def z16 : Str := ⟨⟨[105,115,95,112,114,105,109,101]⟩⟩
def z17 : Str := ⟨⟨[116,97,107,101,110]⟩⟩
def z18 : Str := ⟨⟨[105,110,118,101,114,115,101]⟩⟩
def z19 : Str := ⟨⟨[111,118,101,114]⟩⟩
def z20 : Str := ⟨⟨[110,101,120,116,95,112,108,97,99,101]⟩⟩
def z21 : Str := ⟨⟨[102,105,114,115,116,95,112,108,97,99,101,115]⟩⟩
def z22 : Str := ⟨⟨[116,114,105,109,109,101,100]⟩⟩
def z23 : Str := ⟨⟨[110,117,109,98,101,114,95,97,116]⟩⟩
def z24 : Str := ⟨⟨[116,105,109,101,115]⟩⟩
def z25 : Str := ⟨⟨[100,105,118,105,100,101,100]⟩⟩
def z26 : Str := ⟨⟨[109,111,110,105,99]⟩⟩
def z27 : Str := ⟨⟨[103,114,101,97,116,101,115,116]⟩⟩
def z28 : Str := ⟨⟨[111,102,95,114,117,108,101]⟩⟩
def z29 : Str := ⟨⟨[114,117,108,101,95,111,102]⟩⟩
def z30 : Str := ⟨⟨[115,117,109,95,97,116]⟩⟩
def z31 : Str := ⟨⟨[70,65,82,84,72,69,83,84,95,66,89,95,48]⟩⟩
def z32 : Str := ⟨⟨[114,101,102,117,115,101,95,102,97,114,95,106,117,109,112]⟩⟩
def z33 : Str := ⟨⟨[112,111,119,101,114,95,108,101,102,116]⟩⟩
def z34 : Str := ⟨⟨[106,117,109,112]⟩⟩
def z35 : Str := ⟨⟨[112,108,97,99,101,95,97,116]⟩⟩
def z36 : Str := ⟨⟨[111,110,119,97,114,100]⟩⟩
def z37 : Str := ⟨⟨[66,69,76,79,87,95,84,72,69,95,80,82,73,77,69,83]⟩⟩
def z38 : Str := ⟨⟨[112,114,105,109,101,95,97,98,111,118,101]⟩⟩
def z39 : Str := ⟨⟨[100,105,118,105,100,101,115]⟩⟩
def z40 : Str := ⟨⟨[116,97,107,101,110,95,112,111,108,121]⟩⟩
def z41 : Str := ⟨⟨[110,101,97,114,101,115,116]⟩⟩
def z42 : Str := ⟨⟨[106,111,105,110,101,100]⟩⟩
def z43 : Str := ⟨⟨[119,104,111,108,101,95,103,114,101,97,116,101,115,116]⟩⟩
def z44 : Str := ⟨⟨[115,104,97,114,101,100,95,100,105,118,105,115,111,114]⟩⟩
def z45 : Str := ⟨⟨[116,111,112,95,111,102]⟩⟩
def z46 : Str := ⟨⟨[108,101,97,115,116,95,111,102]⟩⟩
def z47 : Str := ⟨⟨[115,104,111,114,116,101,115,116]⟩⟩
def z48 : Str := ⟨⟨[77,79,83,84,95,87,73,78,68,79,87,83]⟩⟩
def z49 : Str := ⟨⟨[114,101,102,117,115,101,95,119,105,100,101]⟩⟩
def z50 : Str := ⟨⟨[114,111,117,110,100,95,114,111,119]⟩⟩
def z51 : Str := ⟨⟨[99,97,109,101,95,114,111,117,110,100]⟩⟩
def z52 : Str := ⟨⟨[114,111,117,110,100,95,111,102]⟩⟩
def z53 : Str := ⟨⟨[119,104,101,114,101]⟩⟩
def z54 : Str := ⟨⟨[95,108,97,119,95,99,101,108,108,95,97,116]⟩⟩
def z55 : Str := ⟨⟨[95,108,97,119,95,109,105,120,101,100]⟩⟩
def z56 : Str := ⟨⟨[95,108,97,119,95,98,121]⟩⟩
def z57 : Str := ⟨⟨[95,108,97,119,95,116,97,107,101,110]⟩⟩
def z58 : Str := ⟨⟨[95,108,97,119,95,110,117,109,98,101,114]⟩⟩
def z59 : Str := ⟨⟨[95,108,97,119,95,103,111,110,101]⟩⟩
def z60 : Str := ⟨⟨[95,108,97,119,95,114,111,119]⟩⟩
def z61 : Str := ⟨⟨[95,108,97,119,95,108,111,110,103,101,114]⟩⟩
def z62 : Str := ⟨⟨[95,108,97,119,95,98,97,99,107]⟩⟩
def z63 : Str := ⟨⟨[95,108,97,119,95,110,117,109,98,101,114,115,95,114,105,103,104,116]⟩⟩
def z64 : Str := ⟨⟨[108,97,119]⟩⟩
def z65 : Str := ⟨⟨[60,109,111,100,117,108,101,62]⟩⟩
def z66 : Str := ⟨⟨[95,95,109,97,105,110,95,95]⟩⟩
def z67 : Str := ⟨⟨[95,95,109,111,100,117,108,101,95,95]⟩⟩
def z68 : Str := ⟨⟨[110,101,120,116,98,121,114,117,108,101,46,101,114,114,111,114,115]⟩⟩
def z69 : Str := ⟨⟨[95,95,113,117,97,108,110,97,109,101,95,95]⟩⟩
def z70 : Str := ⟨⟨[95,95,102,105,114,115,116,108,105,110,101,110,111,95,95]⟩⟩
def z71 : Str := ⟨⟨[95,95,115,116,97,116,105,99,95,97,116,116,114,105,98,117,116,101,115,95,95]⟩⟩
def z72 : Str := ⟨⟨[95,95,119,101,97,107,114,101,102,95,95]⟩⟩
def z73 : Str := ⟨⟨[110,117,109,98,101,114]⟩⟩
def z74 : Str := ⟨⟨[100,105,118,105,115,111,114]⟩⟩
def z75 : Str := ⟨⟨[110,101,120,116,98,121,114,117,108,101,46,110,117,109,98,101,114,115]⟩⟩
def z76 : Str := ⟨⟨[98,121]⟩⟩
def z77 : Str := ⟨⟨[112,114,105,109,101]⟩⟩
def z78 : Str := ⟨⟨[112,111,119,101,114]⟩⟩
def z79 : Str := ⟨⟨[115,113,117,97,114,101]⟩⟩
def z80 : Str := ⟨⟨[108,101,102,116]⟩⟩
def z81 : Str := ⟨⟨[111,110,101]⟩⟩
def z82 : Str := ⟨⟨[111,116,104,101,114]⟩⟩
def z83 : Str := ⟨⟨[114,117,108,101]⟩⟩
def z84 : Str := ⟨⟨[98,101,102,111,114,101]⟩⟩
def z85 : Str := ⟨⟨[116,111,116,97,108]⟩⟩
def z86 : Str := ⟨⟨[107]⟩⟩
def z87 : Str := ⟨⟨[110,101,120,116,98,121,114,117,108,101,46,114,111,119,115]⟩⟩
def z88 : Str := ⟨⟨[114,111,119]⟩⟩
def z89 : Str := ⟨⟨[99,111,117,110,116]⟩⟩
def z90 : Str := ⟨⟨[115,116,97,114,116,115]⟩⟩
def z91 : Str := ⟨⟨[102,111,117,110,100]⟩⟩
def z92 : Str := ⟨⟨[110,117,109,98,101,114,115]⟩⟩
def z93 : Str := ⟨⟨[101,110,100]⟩⟩
def z94 : Str := ⟨⟨[110,101,120,116,98,121,114,117,108,101,46,112,111,108,121,115]⟩⟩
def z95 : Str := ⟨⟨[112,111,108,121]⟩⟩
def z96 : Str := ⟨⟨[105]⟩⟩
def z97 : Str := ⟨⟨[116,111,112]⟩⟩
def z98 : Str := ⟨⟨[111,102,116,101,110]⟩⟩
def z99 : Str := ⟨⟨[115,104,105,102,116]⟩⟩
def z100 : Str := ⟨⟨[102,97,99,116,111,114]⟩⟩
def z101 : Str := ⟨⟨[103,114,101,97,116]⟩⟩
def z102 : Str := ⟨⟨[115,109,97,108,108]⟩⟩
def z103 : Str := ⟨⟨[110]⟩⟩
def z104 : Str := ⟨⟨[110,101,120,116,98,121,114,117,108,101,46,102,97,114]⟩⟩
def z105 : Str := ⟨⟨[102,105,103,117,114,101]⟩⟩
def z106 : Str := ⟨⟨[100,111,117,98,108,101,100]⟩⟩
def z107 : Str := ⟨⟨[110,101,120,116,98,121,114,117,108,101,46,119,104,111,108,101,115]⟩⟩
def z108 : Str := ⟨⟨[109,111,110,105,99,95,111,110,101]⟩⟩
def z109 : Str := ⟨⟨[109,111,100,117,108,117,115]⟩⟩
def z110 : Str := ⟨⟨[114,101,115,116]⟩⟩
def z111 : Str := ⟨⟨[109,111,114,101]⟩⟩
def z112 : Str := ⟨⟨[110,101,120,116,98,121,114,117,108,101,46,115,104,111,114,116,101,115,116]⟩⟩
def z113 : Str := ⟨⟨[108,101,97,115,116]⟩⟩
def z114 : Str := ⟨⟨[108,101,110,103,116,104]⟩⟩
def z115 : Str := ⟨⟨[119,105,110,100,111,119,115]⟩⟩
def z116 : Str := ⟨⟨[116,117,114,110]⟩⟩
def z117 : Str := ⟨⟨[110,101,120,116,98,121,114,117,108,101,46,114,111,117,110,100,115]⟩⟩
def z118 : Str := ⟨⟨[119,105,110,100,111,119]⟩⟩
def z119 : Str := ⟨⟨[115,101,101,110]⟩⟩
def z120 : Str := ⟨⟨[98,101,103,105,110]⟩⟩
def z121 : Str := ⟨⟨[95,108,97,119,95,115,99,114,105,112,116]⟩⟩
def z122 : Str := ⟨⟨[95,108,97,119,95,107]⟩⟩
def z123 : Str := ⟨⟨[95,108,97,119,95,99,101,108,108]⟩⟩
def z124 : Str := ⟨⟨[95,108,97,119,95,110,117,109,98,101,114,95,104,101,114,101]⟩⟩
def z125 : Str := ⟨⟨[95,108,97,119,95,98,121,95,104,101,114,101]⟩⟩
def z126 : Str := ⟨⟨[95,108,97,119,95,115,111,114,116]⟩⟩
def z127 : Str := ⟨⟨[95,108,97,119,95,114,111,119,95,104,101,114,101]⟩⟩
def z128 : Str := ⟨⟨[95,108,97,119,95,99,111,117,110,116]⟩⟩
def z129 : Str := ⟨⟨[95,108,97,119,95,114,117,108,101]⟩⟩
def z130 : Str := ⟨⟨[95,108,97,119,95,115,116,97,114,116,115]⟩⟩
def z131 : Str := ⟨⟨[95,108,97,119,95,102,111,117,110,100]⟩⟩
def z132 : Str := ⟨⟨[95,108,97,119,95,116,111,116,97,108]⟩⟩
def z133 : Str := ⟨⟨[95,108,97,119,95,110]⟩⟩
def z134 : Str := ⟨⟨[95,108,97,119,95,98,101,103,105,110]⟩⟩
def z135 : Str := ⟨⟨[95,108,97,119,95,108,101,110,103,116,104]⟩⟩
noncomputable abbrev t0 : String := PySem.W.SL.s14018661285674007319x4
noncomputable abbrev t1 : String := PySem.W.SL.s7097527257260152453x26
noncomputable abbrev t2 : String := PySem.W.SL.s2766695959194262286x5
noncomputable abbrev t3 : String := PySem.W.SL.s5856160107412720595x4
noncomputable abbrev t4 : String := PySem.W.SL.s658472552662922059x5
noncomputable abbrev t5 : String := PySem.W.SL.s6070975301684473832x10
noncomputable abbrev t6 : String := PySem.W.SL.s11030030927630378310x26
noncomputable abbrev t7 : String := PySem.W.SL.s10062305145149207511x16
noncomputable abbrev t8 : String := PySem.W.SL.s17162191345867700912x4
noncomputable abbrev t9 : String := PySem.W.SL.s4209523147560561109x18
noncomputable abbrev t10 : String := PySem.W.SL.s5946037652744460706x9
noncomputable abbrev t11 : String := PySem.W.SL.s4278001404047624695x13
noncomputable abbrev t12 : String := PySem.W.SL.s2742458400755230247x6
noncomputable abbrev t13 : String := PySem.W.SL.s14755015743595814543x17
noncomputable abbrev t14 : String := PySem.W.SL.s10220274742760427390x26
noncomputable abbrev t15 : String := PySem.W.SL.s4290257624100764138x5
noncomputable abbrev t16 : String := PySem.W.SL.s4860613602091757760x24
noncomputable abbrev t17 : String := PySem.W.SL.s7174869446012820540x8
def l3 (P : Params) : List DictEntry := [⟨kh P z0,.str z0 165,.str z1 594⟩,⟨kh P z2,.str z2 166,.none⟩,⟨kh P z3,.str z3 167,.none⟩,⟨kh P z4,.str z4 168,.builtin t1⟩,⟨kh P z5,.str z5 169,.none⟩,⟨kh P z6,.str z6 170,.ref 6⟩,⟨kh P z7,.str z7 171,.ref 4⟩,⟨kh P z8,.str z8 173,.str z9 172⟩,⟨kh P z10,.str z10 174,.none⟩,⟨kh P z11,.str z11 206,.ref 24⟩,⟨kh P z12,.str z12 222,.ref 37⟩,⟨kh P z13,.str z13 238,.ref 49⟩,⟨kh P z14,.str z14 254,.ref 61⟩,⟨kh P z15,.str z15 270,.ref 73⟩,⟨kh P z16,.str z16 280,.ref 82⟩,⟨kh P z17,.str z17 288,.ref 89⟩,⟨kh P z18,.str z18 299,.ref 96⟩,⟨kh P z19,.str z19 308,.ref 103⟩,⟨kh P z20,.str z20 321,.ref 110⟩,⟨kh P z21,.str z21 333,.ref 117⟩,⟨kh P z22,.str z22 343,.ref 124⟩,⟨kh P z23,.str z23 351,.ref 131⟩,⟨kh P z24,.str z24 363,.ref 138⟩,⟨kh P z25,.str z25 378,.ref 145⟩,⟨kh P z26,.str z26 384,.ref 150⟩,⟨kh P z27,.str z27 396,.ref 157⟩,⟨kh P z28,.str z28 402,.ref 162⟩,⟨kh P z29,.str z29 408,.ref 167⟩,⟨kh P z30,.str z30 414,.ref 172⟩,⟨kh P z31,.str z31 418,.int 400 417⟩,⟨kh P z32,.str z32 426,.ref 179⟩,⟨kh P z33,.str z33 438,.ref 186⟩,⟨kh P z34,.str z34 444,.ref 191⟩,⟨kh P z35,.str z35 452,.ref 198⟩,⟨kh P z36,.str z36 458,.ref 203⟩,⟨kh P z37,.str z37 462,.int 1000000 461⟩,⟨kh P z38,.str z38 470,.ref 210⟩,⟨kh P z39,.str z39 478,.ref 217⟩,⟨kh P z40,.str z40 484,.ref 222⟩,⟨kh P z41,.str z41 493,.ref 229⟩,⟨kh P z42,.str z42 504,.ref 236⟩,⟨kh P z43,.str z43 510,.ref 241⟩,⟨kh P z44,.str z44 519,.ref 248⟩,⟨kh P z45,.str z45 527,.ref 253⟩,⟨kh P z46,.str z46 537,.ref 260⟩,⟨kh P z47,.str z47 546,.ref 267⟩,⟨kh P z48,.str z48 550,.int 4096 549⟩,⟨kh P z49,.str z49 560,.ref 274⟩,⟨kh P z50,.str z50 568,.ref 281⟩,⟨kh P z51,.str z51 580,.ref 288⟩,⟨kh P z52,.str z52 587,.ref 295⟩,⟨kh P z53,.str z53 593,.ref 300⟩,⟨kh P z54,.str z54 603,.ref 307⟩,⟨kh P z55,.str z55 612,.ref 314⟩,⟨kh P z56,.str z56 619,.ref 321⟩,⟨kh P z57,.str z57 627,.ref 328⟩,⟨kh P z58,.str z58 636,.ref 335⟩,⟨kh P z59,.str z59 651,.ref 342⟩,⟨kh P z60,.str z60 657,.ref 347⟩,⟨kh P z61,.str z61 663,.ref 352⟩,⟨kh P z62,.str z62 672,.ref 359⟩,⟨kh P z63,.str z63 678,.ref 364⟩,⟨kh P z64,.str z64 684,.ref 369⟩]
def o3 (P : Params) : Obj := ⟨.type t0,.none,.dict ⟨l3 P⟩ 63,⟨[]⟩⟩
def v3_1 (P : Params) : Obj := ⟨.type t0,.none,.dict ⟨[⟨kh P z0,.str z0 165,.str z68 187⟩,⟨kh P z2,.str z2 166,.none⟩,⟨kh P z3,.str z3 167,.none⟩,⟨kh P z4,.str z4 168,.builtin t1⟩,⟨kh P z5,.str z5 169,.none⟩,⟨kh P z6,.str z6 170,.ref 6⟩,⟨kh P z7,.str z7 171,.ref 4⟩,⟨kh P z8,.str z8 173,.str z9 172⟩,⟨kh P z10,.str z10 174,.none⟩,⟨kh P z11,.str z11 206,.ref 24⟩]⟩ 10,⟨[]⟩⟩
def v3_4 (P : Params) : Obj := ⟨.type t0,.none,.dict ⟨[⟨kh P z0,.str z0 165,.str z68 187⟩,⟨kh P z2,.str z2 166,.none⟩,⟨kh P z3,.str z3 167,.none⟩,⟨kh P z4,.str z4 168,.builtin t1⟩,⟨kh P z5,.str z5 169,.none⟩,⟨kh P z6,.str z6 170,.ref 6⟩,⟨kh P z7,.str z7 171,.ref 4⟩,⟨kh P z8,.str z8 173,.str z9 172⟩,⟨kh P z10,.str z10 174,.none⟩,⟨kh P z11,.str z11 206,.ref 24⟩,⟨kh P z12,.str z12 222,.ref 37⟩]⟩ 11,⟨[]⟩⟩
def v3_7 (P : Params) : Obj := ⟨.type t0,.none,.dict ⟨[⟨kh P z0,.str z0 165,.str z68 187⟩,⟨kh P z2,.str z2 166,.none⟩,⟨kh P z3,.str z3 167,.none⟩,⟨kh P z4,.str z4 168,.builtin t1⟩,⟨kh P z5,.str z5 169,.none⟩,⟨kh P z6,.str z6 170,.ref 6⟩,⟨kh P z7,.str z7 171,.ref 4⟩,⟨kh P z8,.str z8 173,.str z9 172⟩,⟨kh P z10,.str z10 174,.none⟩,⟨kh P z11,.str z11 206,.ref 24⟩,⟨kh P z12,.str z12 222,.ref 37⟩,⟨kh P z13,.str z13 238,.ref 49⟩]⟩ 12,⟨[]⟩⟩
def v3_10 (P : Params) : Obj := ⟨.type t0,.none,.dict ⟨[⟨kh P z0,.str z0 165,.str z68 187⟩,⟨kh P z2,.str z2 166,.none⟩,⟨kh P z3,.str z3 167,.none⟩,⟨kh P z4,.str z4 168,.builtin t1⟩,⟨kh P z5,.str z5 169,.none⟩,⟨kh P z6,.str z6 170,.ref 6⟩,⟨kh P z7,.str z7 171,.ref 4⟩,⟨kh P z8,.str z8 173,.str z9 172⟩,⟨kh P z10,.str z10 174,.none⟩,⟨kh P z11,.str z11 206,.ref 24⟩,⟨kh P z12,.str z12 222,.ref 37⟩,⟨kh P z13,.str z13 238,.ref 49⟩,⟨kh P z14,.str z14 254,.ref 61⟩]⟩ 13,⟨[]⟩⟩
def v3_13 (P : Params) : Obj := ⟨.type t0,.none,.dict ⟨[⟨kh P z0,.str z0 165,.str z87 309⟩,⟨kh P z2,.str z2 166,.none⟩,⟨kh P z3,.str z3 167,.none⟩,⟨kh P z4,.str z4 168,.builtin t1⟩,⟨kh P z5,.str z5 169,.none⟩,⟨kh P z6,.str z6 170,.ref 6⟩,⟨kh P z7,.str z7 171,.ref 4⟩,⟨kh P z8,.str z8 173,.str z9 172⟩,⟨kh P z10,.str z10 174,.none⟩,⟨kh P z11,.str z11 206,.ref 24⟩,⟨kh P z12,.str z12 222,.ref 37⟩,⟨kh P z13,.str z13 238,.ref 49⟩,⟨kh P z14,.str z14 254,.ref 61⟩,⟨kh P z15,.str z15 270,.ref 73⟩,⟨kh P z16,.str z16 280,.ref 82⟩,⟨kh P z17,.str z17 288,.ref 89⟩,⟨kh P z18,.str z18 299,.ref 96⟩,⟨kh P z19,.str z19 308,.ref 103⟩,⟨kh P z20,.str z20 321,.ref 110⟩]⟩ 19,⟨[]⟩⟩
def v3_15 (P : Params) : Obj := ⟨.type t0,.none,.dict ⟨[⟨kh P z0,.str z0 165,.str z104 415⟩,⟨kh P z2,.str z2 166,.none⟩,⟨kh P z3,.str z3 167,.none⟩,⟨kh P z4,.str z4 168,.builtin t1⟩,⟨kh P z5,.str z5 169,.none⟩,⟨kh P z6,.str z6 170,.ref 6⟩,⟨kh P z7,.str z7 171,.ref 4⟩,⟨kh P z8,.str z8 173,.str z9 172⟩,⟨kh P z10,.str z10 174,.none⟩,⟨kh P z11,.str z11 206,.ref 24⟩,⟨kh P z12,.str z12 222,.ref 37⟩,⟨kh P z13,.str z13 238,.ref 49⟩,⟨kh P z14,.str z14 254,.ref 61⟩,⟨kh P z15,.str z15 270,.ref 73⟩,⟨kh P z16,.str z16 280,.ref 82⟩,⟨kh P z17,.str z17 288,.ref 89⟩,⟨kh P z18,.str z18 299,.ref 96⟩,⟨kh P z19,.str z19 308,.ref 103⟩,⟨kh P z20,.str z20 321,.ref 110⟩,⟨kh P z21,.str z21 333,.ref 117⟩,⟨kh P z22,.str z22 343,.ref 124⟩,⟨kh P z23,.str z23 351,.ref 131⟩,⟨kh P z24,.str z24 363,.ref 138⟩,⟨kh P z25,.str z25 378,.ref 145⟩,⟨kh P z26,.str z26 384,.ref 150⟩,⟨kh P z27,.str z27 396,.ref 157⟩,⟨kh P z28,.str z28 402,.ref 162⟩,⟨kh P z29,.str z29 408,.ref 167⟩,⟨kh P z30,.str z30 414,.ref 172⟩,⟨kh P z31,.str z31 418,.int 400 417⟩,⟨kh P z32,.str z32 426,.ref 179⟩,⟨kh P z33,.str z33 438,.ref 186⟩]⟩ 32,⟨[]⟩⟩
def v3_17 (P : Params) : Obj := ⟨.type t0,.none,.dict ⟨[⟨kh P z0,.str z0 165,.str z112 520⟩,⟨kh P z2,.str z2 166,.none⟩,⟨kh P z3,.str z3 167,.none⟩,⟨kh P z4,.str z4 168,.builtin t1⟩,⟨kh P z5,.str z5 169,.none⟩,⟨kh P z6,.str z6 170,.ref 6⟩,⟨kh P z7,.str z7 171,.ref 4⟩,⟨kh P z8,.str z8 173,.str z9 172⟩,⟨kh P z10,.str z10 174,.none⟩,⟨kh P z11,.str z11 206,.ref 24⟩,⟨kh P z12,.str z12 222,.ref 37⟩,⟨kh P z13,.str z13 238,.ref 49⟩,⟨kh P z14,.str z14 254,.ref 61⟩,⟨kh P z15,.str z15 270,.ref 73⟩,⟨kh P z16,.str z16 280,.ref 82⟩,⟨kh P z17,.str z17 288,.ref 89⟩,⟨kh P z18,.str z18 299,.ref 96⟩,⟨kh P z19,.str z19 308,.ref 103⟩,⟨kh P z20,.str z20 321,.ref 110⟩,⟨kh P z21,.str z21 333,.ref 117⟩,⟨kh P z22,.str z22 343,.ref 124⟩,⟨kh P z23,.str z23 351,.ref 131⟩,⟨kh P z24,.str z24 363,.ref 138⟩,⟨kh P z25,.str z25 378,.ref 145⟩,⟨kh P z26,.str z26 384,.ref 150⟩,⟨kh P z27,.str z27 396,.ref 157⟩,⟨kh P z28,.str z28 402,.ref 162⟩,⟨kh P z29,.str z29 408,.ref 167⟩,⟨kh P z30,.str z30 414,.ref 172⟩,⟨kh P z31,.str z31 418,.int 400 417⟩,⟨kh P z32,.str z32 426,.ref 179⟩,⟨kh P z33,.str z33 438,.ref 186⟩,⟨kh P z34,.str z34 444,.ref 191⟩,⟨kh P z35,.str z35 452,.ref 198⟩,⟨kh P z36,.str z36 458,.ref 203⟩,⟨kh P z37,.str z37 462,.int 1000000 461⟩,⟨kh P z38,.str z38 470,.ref 210⟩,⟨kh P z39,.str z39 478,.ref 217⟩,⟨kh P z40,.str z40 484,.ref 222⟩,⟨kh P z41,.str z41 493,.ref 229⟩,⟨kh P z42,.str z42 504,.ref 236⟩,⟨kh P z43,.str z43 510,.ref 241⟩,⟨kh P z44,.str z44 519,.ref 248⟩,⟨kh P z45,.str z45 527,.ref 253⟩,⟨kh P z46,.str z46 537,.ref 260⟩]⟩ 45,⟨[]⟩⟩
def v3_19 (P : Params) : Obj := ⟨.type t0,.none,.dict ⟨(l3 P).take 58⟩ 58,⟨[]⟩⟩
def o11 (P : Params) : Obj := ⟨.type t2,.none,.seq ⟨[]⟩ 0,⟨[]⟩⟩
def l12 (P : Params) : List Value := [.int 2 0,.int 0 0,.ref 20,.int 4 0,.int 0 0,.ref 33,.int 6 0,.int 0 0,.ref 45,.int 8 0,.int 0 0,.ref 57,.int 10 0,.int 0 0,.ref 69,.int 13 0,.int 0 0,.ref 81,.int 22 0,.int 0 0,.ref 88,.int 26 0,.int 0 0,.ref 95,.int 36 0,.int 0 0,.ref 102,.int 43 0,.int 0 0,.ref 109,.int 48 0,.int 0 0,.ref 116,.int 57 0,.int 0 0,.ref 123,.int 62 0,.int 0 0,.ref 130,.int 64 0,.int 0 0,.ref 137,.int 70 0,.int 0 0,.ref 144,.int 80 0,.int 0 0,.ref 149,.int 85 0,.int 0 0,.ref 156,.int 93 0,.int 0 0,.ref 161,.int 97 0,.int 0 0,.ref 166,.int 100 0,.int 0 0,.ref 171,.int 104 0,.int 0 0,.ref 178,.int 107 0,.int 0 0,.ref 185,.int 115 0,.int 0 0,.ref 190,.int 121 0,.int 0 0,.ref 197,.int 123 0,.int 0 0,.ref 202,.int 131 0,.int 0 0,.ref 209,.int 136 0,.int 0 0,.ref 216,.int 138 0,.int 0 0,.ref 221,.int 140 0,.int 0 0,.ref 228,.int 143 0,.int 0 0,.ref 235,.int 146 0,.int 0 0,.ref 240,.int 164 0,.int 0 0,.ref 247,.int 167 0,.int 0 0,.ref 252,.int 175 0,.int 0 0,.ref 259,.int 180 0,.int 0 0,.ref 266,.int 186 0,.int 0 0,.ref 273,.int 192 0,.int 0 0,.ref 280,.int 198 0,.int 0 0,.ref 287,.int 208 0,.int 0 0,.ref 294,.int 210 0,.int 0 0,.ref 299,.int 220 0,.int 0 0,.ref 306,.int 224 0,.int 0 0,.ref 313,.int 227 0,.int 0 0,.ref 320,.int 229 0,.int 0 0,.ref 327,.int 233 0,.int 0 0,.ref 334,.int 241 0,.int 0 0,.ref 341,.int 250 0,.int 0 0,.ref 346,.int 261 0,.int 0 0,.ref 351,.int 267 0,.int 0 0,.ref 358,.int 271 0,.int 0 0,.ref 363,.int 280 0,.int 0 0,.ref 368]
def o12 (P : Params) : Obj := ⟨.none,.none,.fields ⟨l12 P⟩,⟨[]⟩⟩
def v12_0 (P : Params) : Obj := ⟨.none,.none,.fields ⟨(l12 P).take 0⟩,⟨[]⟩⟩
def v12_2 (P : Params) : Obj := ⟨.none,.none,.fields ⟨(l12 P).take 3⟩,⟨[]⟩⟩
def v12_5 (P : Params) : Obj := ⟨.none,.none,.fields ⟨(l12 P).take 6⟩,⟨[]⟩⟩
def v12_8 (P : Params) : Obj := ⟨.none,.none,.fields ⟨(l12 P).take 9⟩,⟨[]⟩⟩
def v12_11 (P : Params) : Obj := ⟨.none,.none,.fields ⟨(l12 P).take 12⟩,⟨[]⟩⟩
def v12_14 (P : Params) : Obj := ⟨.none,.none,.fields ⟨(l12 P).take 30⟩,⟨[]⟩⟩
def v12_16 (P : Params) : Obj := ⟨.none,.none,.fields ⟨(l12 P).take 66⟩,⟨[]⟩⟩
def v12_18 (P : Params) : Obj := ⟨.none,.none,.fields ⟨(l12 P).take 102⟩,⟨[]⟩⟩
def v12_20 (P : Params) : Obj := ⟨.none,.none,.fields ⟨(l12 P).take 138⟩,⟨[]⟩⟩
def o13 (P : Params) : Obj := ⟨.type t3,.none,.fields ⟨[.str z65 182,.str z65 183,.str z9 184,.int 1 0,.int 0 0,.int 0 0,.int 0 0,.int 0 0,.ref 11,.bool false,.int 181 0,.ref 12,.none,.none,.none,.none,.int 185 0,.int 1 0,.str z9 186]⟩,⟨[]⟩⟩
def o14 (P : Params) : Obj := ⟨.type t4,.none,.plain,⟨[.some (.ref 13),.some (.ref 3),.some (.ref 3),.none,.some (.str z66 164),.none,.some (.ref 0)]⟩⟩
def o15 (P : Params) : Obj := ⟨.type t2,.none,.seq ⟨[.type t5]⟩ 0,⟨[]⟩⟩
def o16 (P : Params) : Obj := ⟨.type t6,.none,.fields ⟨[.builtin t7,.type t8]⟩,⟨[]⟩⟩
def o17 (P : Params) : Obj := ⟨.type t0,.none,.dict ⟨[⟨kh P z67,.str z67 196,.str z68 187⟩,⟨kh P z69,.str z69 198,.str z11 197⟩,⟨kh P z70,.str z70 200,.int 2 199⟩,⟨kh P z71,.str z71 201,.ref 22⟩]⟩ 4,⟨[]⟩⟩
def o18 (P : Params) : Obj := ⟨.type t2,.none,.seq ⟨[]⟩ 0,⟨[]⟩⟩
def o19 (P : Params) : Obj := ⟨.none,.none,.fields ⟨[]⟩,⟨[]⟩⟩
def o20 (P : Params) : Obj := ⟨.type t3,.none,.fields ⟨[.str z11 191,.str z11 192,.str z9 193,.int 2 0,.int 0 0,.int 0 0,.int 0 0,.int 0 0,.ref 18,.bool false,.int 181 0,.ref 19,.none,.none,.none,.none,.int 194 0,.int 2 0,.str z9 195]⟩,⟨[]⟩⟩
def o21 (P : Params) : Obj := ⟨.type t4,.none,.plain,⟨[.some (.ref 20),.some (.ref 3),.some (.ref 17),.none,.some (.str z68 187),.none,.some (.ref 0)]⟩⟩
def o22 (P : Params) : Obj := ⟨.type t2,.none,.seq ⟨[]⟩ 0,⟨[]⟩⟩
def o23 (P : Params) : Obj := ⟨.type t0,.none,.dict ⟨[⟨kh P z67,.str z67 196,.str z68 187⟩,⟨kh P z70,.str z70 200,.int 2 199⟩,⟨kh P z71,.str z71 201,.ref 22⟩,⟨kh P z72,.str z72 203,.ref 25⟩,⟨kh P z2,.str z2 204,.none⟩]⟩ 3,⟨[]⟩⟩
def o24 (P : Params) : Obj := ⟨.type t8,.none,.cls ⟨z11,[.type t5],[.ref 24,.type t5,.type t10,.type t11,.type t12],23,z11,true,[],[.ref 37,.ref 49,.ref 61,.ref 73],false,.none,false⟩,⟨[.some (.ref 15),.none,.some (.str z11 189),.some (.str z11 197),.some (.builtin t9),.some (.bool true)]⟩⟩
def v24_3 (P : Params) : Obj := ⟨.type t8,.none,.cls ⟨z11,[.type t5],[.ref 24,.type t5,.type t10,.type t11,.type t12],23,z11,true,[],[],false,.none,false⟩,⟨[.some (.ref 15),.none,.some (.str z11 189),.some (.str z11 197),.some (.builtin t9),.some (.bool true)]⟩⟩
def v24_6 (P : Params) : Obj := ⟨.type t8,.none,.cls ⟨z11,[.type t5],[.ref 24,.type t5,.type t10,.type t11,.type t12],23,z11,true,[],[.ref 37],false,.none,false⟩,⟨[.some (.ref 15),.none,.some (.str z11 189),.some (.str z11 197),.some (.builtin t9),.some (.bool true)]⟩⟩
def v24_9 (P : Params) : Obj := ⟨.type t8,.none,.cls ⟨z11,[.type t5],[.ref 24,.type t5,.type t10,.type t11,.type t12],23,z11,true,[],[.ref 37,.ref 49],false,.none,false⟩,⟨[.some (.ref 15),.none,.some (.str z11 189),.some (.str z11 197),.some (.builtin t9),.some (.bool true)]⟩⟩
def v24_12 (P : Params) : Obj := ⟨.type t8,.none,.cls ⟨z11,[.type t5],[.ref 24,.type t5,.type t10,.type t11,.type t12],23,z11,true,[],[.ref 37,.ref 49,.ref 61],false,.none,false⟩,⟨[.some (.ref 15),.none,.some (.str z11 189),.some (.str z11 197),.some (.builtin t9),.some (.bool true)]⟩⟩
def o25 (P : Params) : Obj := ⟨.type t13,.none,.fields ⟨[.str z72 202,.ref 24,.builtin t14,.none]⟩,⟨[]⟩⟩
def o26 (P : Params) : Obj := ⟨.type t15,.none,.fields ⟨[.ref 24,.ref 24,.ref 24]⟩,⟨[]⟩⟩
def o27 (P : Params) : Obj := ⟨.type t6,.none,.fields ⟨[.builtin t16,.ref 24]⟩,⟨[]⟩⟩
def o28 (P : Params) : Obj := ⟨.type t2,.none,.seq ⟨[.ref 24]⟩ 0,⟨[]⟩⟩
def o29 (P : Params) : Obj := ⟨.type t6,.none,.fields ⟨[.builtin t7,.type t8]⟩,⟨[]⟩⟩
def o30 (P : Params) : Obj := ⟨.type t0,.none,.dict ⟨[⟨kh P z67,.str z67 214,.str z68 187⟩,⟨kh P z69,.str z69 216,.str z12 215⟩,⟨kh P z70,.str z70 218,.int 4 217⟩,⟨kh P z71,.str z71 219,.ref 35⟩]⟩ 4,⟨[]⟩⟩
def o31 (P : Params) : Obj := ⟨.type t2,.none,.seq ⟨[]⟩ 0,⟨[]⟩⟩
def o32 (P : Params) : Obj := ⟨.none,.none,.fields ⟨[]⟩,⟨[]⟩⟩
def o33 (P : Params) : Obj := ⟨.type t3,.none,.fields ⟨[.str z12 209,.str z12 210,.str z9 211,.int 4 0,.int 0 0,.int 0 0,.int 0 0,.int 0 0,.ref 31,.bool false,.int 181 0,.ref 32,.none,.none,.none,.none,.int 212 0,.int 4 0,.str z9 213]⟩,⟨[]⟩⟩
def o34 (P : Params) : Obj := ⟨.type t4,.none,.plain,⟨[.some (.ref 33),.some (.ref 3),.some (.ref 30),.none,.some (.str z68 187),.none,.some (.ref 0)]⟩⟩
def o35 (P : Params) : Obj := ⟨.type t2,.none,.seq ⟨[]⟩ 0,⟨[]⟩⟩
def o36 (P : Params) : Obj := ⟨.type t0,.none,.dict ⟨[⟨kh P z67,.str z67 214,.str z68 187⟩,⟨kh P z70,.str z70 218,.int 4 217⟩,⟨kh P z71,.str z71 219,.ref 35⟩,⟨kh P z2,.str z2 220,.none⟩]⟩ 2,⟨[]⟩⟩
def o37 (P : Params) : Obj := ⟨.type t8,.none,.cls ⟨z12,[.ref 24],[.ref 37,.ref 24,.type t5,.type t10,.type t11,.type t12],36,z12,true,[],[],false,.none,false⟩,⟨[.some (.ref 28),.none,.some (.str z12 207),.some (.str z12 215),.some (.builtin t9),.some (.bool true)]⟩⟩
def o38 (P : Params) : Obj := ⟨.type t15,.none,.fields ⟨[.ref 37,.ref 37,.ref 37]⟩,⟨[]⟩⟩
def o39 (P : Params) : Obj := ⟨.type t6,.none,.fields ⟨[.builtin t16,.ref 37]⟩,⟨[]⟩⟩
def o40 (P : Params) : Obj := ⟨.type t2,.none,.seq ⟨[.ref 24]⟩ 0,⟨[]⟩⟩
def o41 (P : Params) : Obj := ⟨.type t6,.none,.fields ⟨[.builtin t7,.type t8]⟩,⟨[]⟩⟩
def o42 (P : Params) : Obj := ⟨.type t0,.none,.dict ⟨[⟨kh P z67,.str z67 230,.str z68 187⟩,⟨kh P z69,.str z69 232,.str z13 231⟩,⟨kh P z70,.str z70 234,.int 6 233⟩,⟨kh P z71,.str z71 235,.ref 47⟩]⟩ 4,⟨[]⟩⟩
def o43 (P : Params) : Obj := ⟨.type t2,.none,.seq ⟨[]⟩ 0,⟨[]⟩⟩
def o44 (P : Params) : Obj := ⟨.none,.none,.fields ⟨[]⟩,⟨[]⟩⟩
def o45 (P : Params) : Obj := ⟨.type t3,.none,.fields ⟨[.str z13 225,.str z13 226,.str z9 227,.int 6 0,.int 0 0,.int 0 0,.int 0 0,.int 0 0,.ref 43,.bool false,.int 181 0,.ref 44,.none,.none,.none,.none,.int 228 0,.int 6 0,.str z9 229]⟩,⟨[]⟩⟩
def o46 (P : Params) : Obj := ⟨.type t4,.none,.plain,⟨[.some (.ref 45),.some (.ref 3),.some (.ref 42),.none,.some (.str z68 187),.none,.some (.ref 0)]⟩⟩
def o47 (P : Params) : Obj := ⟨.type t2,.none,.seq ⟨[]⟩ 0,⟨[]⟩⟩
def o48 (P : Params) : Obj := ⟨.type t0,.none,.dict ⟨[⟨kh P z67,.str z67 230,.str z68 187⟩,⟨kh P z70,.str z70 234,.int 6 233⟩,⟨kh P z71,.str z71 235,.ref 47⟩,⟨kh P z2,.str z2 236,.none⟩]⟩ 2,⟨[]⟩⟩
def o49 (P : Params) : Obj := ⟨.type t8,.none,.cls ⟨z13,[.ref 24],[.ref 49,.ref 24,.type t5,.type t10,.type t11,.type t12],48,z13,true,[],[],false,.none,false⟩,⟨[.some (.ref 40),.none,.some (.str z13 223),.some (.str z13 231),.some (.builtin t9),.some (.bool true)]⟩⟩
def o50 (P : Params) : Obj := ⟨.type t15,.none,.fields ⟨[.ref 49,.ref 49,.ref 49]⟩,⟨[]⟩⟩
def o51 (P : Params) : Obj := ⟨.type t6,.none,.fields ⟨[.builtin t16,.ref 49]⟩,⟨[]⟩⟩
def o52 (P : Params) : Obj := ⟨.type t2,.none,.seq ⟨[.ref 24]⟩ 0,⟨[]⟩⟩
def o53 (P : Params) : Obj := ⟨.type t6,.none,.fields ⟨[.builtin t7,.type t8]⟩,⟨[]⟩⟩
def o54 (P : Params) : Obj := ⟨.type t0,.none,.dict ⟨[⟨kh P z67,.str z67 246,.str z68 187⟩,⟨kh P z69,.str z69 248,.str z14 247⟩,⟨kh P z70,.str z70 250,.int 8 249⟩,⟨kh P z71,.str z71 251,.ref 59⟩]⟩ 4,⟨[]⟩⟩
def o55 (P : Params) : Obj := ⟨.type t2,.none,.seq ⟨[]⟩ 0,⟨[]⟩⟩
def o56 (P : Params) : Obj := ⟨.none,.none,.fields ⟨[]⟩,⟨[]⟩⟩
def o57 (P : Params) : Obj := ⟨.type t3,.none,.fields ⟨[.str z14 241,.str z14 242,.str z9 243,.int 8 0,.int 0 0,.int 0 0,.int 0 0,.int 0 0,.ref 55,.bool false,.int 181 0,.ref 56,.none,.none,.none,.none,.int 244 0,.int 8 0,.str z9 245]⟩,⟨[]⟩⟩
def o58 (P : Params) : Obj := ⟨.type t4,.none,.plain,⟨[.some (.ref 57),.some (.ref 3),.some (.ref 54),.none,.some (.str z68 187),.none,.some (.ref 0)]⟩⟩
def o59 (P : Params) : Obj := ⟨.type t2,.none,.seq ⟨[]⟩ 0,⟨[]⟩⟩
def o60 (P : Params) : Obj := ⟨.type t0,.none,.dict ⟨[⟨kh P z67,.str z67 246,.str z68 187⟩,⟨kh P z70,.str z70 250,.int 8 249⟩,⟨kh P z71,.str z71 251,.ref 59⟩,⟨kh P z2,.str z2 252,.none⟩]⟩ 2,⟨[]⟩⟩
def o61 (P : Params) : Obj := ⟨.type t8,.none,.cls ⟨z14,[.ref 24],[.ref 61,.ref 24,.type t5,.type t10,.type t11,.type t12],60,z14,true,[],[],false,.none,false⟩,⟨[.some (.ref 52),.none,.some (.str z14 239),.some (.str z14 247),.some (.builtin t9),.some (.bool true)]⟩⟩
def o62 (P : Params) : Obj := ⟨.type t15,.none,.fields ⟨[.ref 61,.ref 61,.ref 61]⟩,⟨[]⟩⟩
def o63 (P : Params) : Obj := ⟨.type t6,.none,.fields ⟨[.builtin t16,.ref 61]⟩,⟨[]⟩⟩
def o64 (P : Params) : Obj := ⟨.type t2,.none,.seq ⟨[.ref 24]⟩ 0,⟨[]⟩⟩
def o65 (P : Params) : Obj := ⟨.type t6,.none,.fields ⟨[.builtin t7,.type t8]⟩,⟨[]⟩⟩
def o66 (P : Params) : Obj := ⟨.type t0,.none,.dict ⟨[⟨kh P z67,.str z67 262,.str z68 187⟩,⟨kh P z69,.str z69 264,.str z15 263⟩,⟨kh P z70,.str z70 266,.int 10 265⟩,⟨kh P z71,.str z71 267,.ref 71⟩]⟩ 4,⟨[]⟩⟩
def o67 (P : Params) : Obj := ⟨.type t2,.none,.seq ⟨[]⟩ 0,⟨[]⟩⟩
def o68 (P : Params) : Obj := ⟨.none,.none,.fields ⟨[]⟩,⟨[]⟩⟩
def o69 (P : Params) : Obj := ⟨.type t3,.none,.fields ⟨[.str z15 257,.str z15 258,.str z9 259,.int 10 0,.int 0 0,.int 0 0,.int 0 0,.int 0 0,.ref 67,.bool false,.int 181 0,.ref 68,.none,.none,.none,.none,.int 260 0,.int 10 0,.str z9 261]⟩,⟨[]⟩⟩
def o70 (P : Params) : Obj := ⟨.type t4,.none,.plain,⟨[.some (.ref 69),.some (.ref 3),.some (.ref 66),.none,.some (.str z68 187),.none,.some (.ref 0)]⟩⟩
def o71 (P : Params) : Obj := ⟨.type t2,.none,.seq ⟨[]⟩ 0,⟨[]⟩⟩
def o72 (P : Params) : Obj := ⟨.type t0,.none,.dict ⟨[⟨kh P z67,.str z67 262,.str z68 187⟩,⟨kh P z70,.str z70 266,.int 10 265⟩,⟨kh P z71,.str z71 267,.ref 71⟩,⟨kh P z2,.str z2 268,.none⟩]⟩ 2,⟨[]⟩⟩
def o73 (P : Params) : Obj := ⟨.type t8,.none,.cls ⟨z15,[.ref 24],[.ref 73,.ref 24,.type t5,.type t10,.type t11,.type t12],72,z15,true,[],[],false,.none,false⟩,⟨[.some (.ref 64),.none,.some (.str z15 255),.some (.str z15 263),.some (.builtin t9),.some (.bool true)]⟩⟩
def o74 (P : Params) : Obj := ⟨.type t15,.none,.fields ⟨[.ref 73,.ref 73,.ref 73]⟩,⟨[]⟩⟩
def o75 (P : Params) : Obj := ⟨.type t6,.none,.fields ⟨[.builtin t16,.ref 73]⟩,⟨[]⟩⟩
def o76 (P : Params) : Obj := ⟨.type t2,.none,.seq ⟨[]⟩ 0,⟨[]⟩⟩
def o77 (P : Params) : Obj := ⟨.none,.none,.fields ⟨[]⟩,⟨[]⟩⟩
def o78 (P : Params) : Obj := ⟨.type t2,.none,.seq ⟨[.str z73 276,.str z74 277]⟩ 0,⟨[]⟩⟩
def o79 (P : Params) : Obj := ⟨.type t2,.none,.seq ⟨[]⟩ 0,⟨[]⟩⟩
def o80 (P : Params) : Obj := ⟨.none,.none,.func ⟨z16,z16,L2.defArgs (tt 7),.stmts (L2.defBody (tt 7)),L2.defScope (tt 7),0,[],.none,.none,.none,.none,.none,.none,.none,0⟩,⟨[]⟩⟩
def o81 (P : Params) : Obj := ⟨.type t3,.none,.fields ⟨[.str z16 273,.str z16 274,.str z9 275,.int 13 0,.int 1 0,.int 0 0,.int 0 0,.int 3 0,.ref 76,.bool true,.int 181 0,.ref 77,.none,.ref 78,.ref 79,.ref 80,.int 278 0,.int 13 0,.str z9 279]⟩,⟨[]⟩⟩
def o82 (P : Params) : Obj := ⟨.type t17,.none,.func ⟨z16,z16,L2.defArgs (tt 7),.stmts (L2.defBody (tt 7)),L2.defScope (tt 7),3,[],.none,.none,.none,.str z75 271,.none,.ref 81,.none,0⟩,⟨[]⟩⟩
def o83 (P : Params) : Obj := ⟨.type t2,.none,.seq ⟨[]⟩ 0,⟨[]⟩⟩
def o84 (P : Params) : Obj := ⟨.none,.none,.fields ⟨[]⟩,⟨[]⟩⟩
def o85 (P : Params) : Obj := ⟨.type t2,.none,.seq ⟨[.str z76 284,.str z73 285]⟩ 0,⟨[]⟩⟩
def o86 (P : Params) : Obj := ⟨.type t2,.none,.seq ⟨[]⟩ 0,⟨[]⟩⟩
def o87 (P : Params) : Obj := ⟨.none,.none,.func ⟨z17,z17,L2.defArgs (tt 8),.stmts (L2.defBody (tt 8)),L2.defScope (tt 8),0,[],.none,.none,.none,.none,.none,.none,.none,0⟩,⟨[]⟩⟩
def o88 (P : Params) : Obj := ⟨.type t3,.none,.fields ⟨[.str z17 281,.str z17 282,.str z9 283,.int 22 0,.int 2 0,.int 0 0,.int 0 0,.int 3 0,.ref 83,.bool true,.int 181 0,.ref 84,.none,.ref 85,.ref 86,.ref 87,.int 286 0,.int 22 0,.str z9 287]⟩,⟨[]⟩⟩
def o89 (P : Params) : Obj := ⟨.type t17,.none,.func ⟨z17,z17,L2.defArgs (tt 8),.stmts (L2.defBody (tt 8)),L2.defScope (tt 8),3,[],.none,.none,.none,.str z75 271,.none,.ref 88,.none,0⟩,⟨[]⟩⟩
def o90 (P : Params) : Obj := ⟨.type t2,.none,.seq ⟨[]⟩ 0,⟨[]⟩⟩
def o91 (P : Params) : Obj := ⟨.none,.none,.fields ⟨[]⟩,⟨[]⟩⟩
def o92 (P : Params) : Obj := ⟨.type t2,.none,.seq ⟨[.str z77 292,.str z73 293,.str z78 294,.str z79 295,.str z80 296]⟩ 0,⟨[]⟩⟩
def o93 (P : Params) : Obj := ⟨.type t2,.none,.seq ⟨[]⟩ 0,⟨[]⟩⟩
def o94 (P : Params) : Obj := ⟨.none,.none,.func ⟨z18,z18,L2.defArgs (tt 9),.stmts (L2.defBody (tt 9)),L2.defScope (tt 9),0,[],.none,.none,.none,.none,.none,.none,.none,0⟩,⟨[]⟩⟩
def o95 (P : Params) : Obj := ⟨.type t3,.none,.fields ⟨[.str z18 289,.str z18 290,.str z9 291,.int 26 0,.int 2 0,.int 0 0,.int 0 0,.int 3 0,.ref 90,.bool true,.int 181 0,.ref 91,.none,.ref 92,.ref 93,.ref 94,.int 297 0,.int 26 0,.str z9 298]⟩,⟨[]⟩⟩
def o96 (P : Params) : Obj := ⟨.type t17,.none,.func ⟨z18,z18,L2.defArgs (tt 9),.stmts (L2.defBody (tt 9)),L2.defScope (tt 9),3,[],.none,.none,.none,.str z75 271,.none,.ref 95,.none,0⟩,⟨[]⟩⟩
def o97 (P : Params) : Obj := ⟨.type t2,.none,.seq ⟨[]⟩ 0,⟨[]⟩⟩
def o98 (P : Params) : Obj := ⟨.none,.none,.fields ⟨[]⟩,⟨[]⟩⟩
def o99 (P : Params) : Obj := ⟨.type t2,.none,.seq ⟨[.str z76 303,.str z81 304,.str z82 305]⟩ 0,⟨[]⟩⟩
def o100 (P : Params) : Obj := ⟨.type t2,.none,.seq ⟨[]⟩ 0,⟨[]⟩⟩
def o101 (P : Params) : Obj := ⟨.none,.none,.func ⟨z19,z19,L2.defArgs (tt 10),.stmts (L2.defBody (tt 10)),L2.defScope (tt 10),0,[],.none,.none,.none,.none,.none,.none,.none,0⟩,⟨[]⟩⟩
def o102 (P : Params) : Obj := ⟨.type t3,.none,.fields ⟨[.str z19 300,.str z19 301,.str z9 302,.int 36 0,.int 3 0,.int 0 0,.int 0 0,.int 3 0,.ref 97,.bool true,.int 181 0,.ref 98,.none,.ref 99,.ref 100,.ref 101,.int 306 0,.int 36 0,.str z9 307]⟩,⟨[]⟩⟩
def o103 (P : Params) : Obj := ⟨.type t17,.none,.func ⟨z19,z19,L2.defArgs (tt 10),.stmts (L2.defBody (tt 10)),L2.defScope (tt 10),3,[],.none,.none,.none,.str z75 271,.none,.ref 102,.none,0⟩,⟨[]⟩⟩
def o104 (P : Params) : Obj := ⟨.type t2,.none,.seq ⟨[]⟩ 0,⟨[]⟩⟩
def o105 (P : Params) : Obj := ⟨.none,.none,.fields ⟨[]⟩,⟨[]⟩⟩
def o106 (P : Params) : Obj := ⟨.type t2,.none,.seq ⟨[.str z76 314,.str z83 315,.str z84 316,.str z85 317,.str z86 318]⟩ 0,⟨[]⟩⟩
def o107 (P : Params) : Obj := ⟨.type t2,.none,.seq ⟨[]⟩ 0,⟨[]⟩⟩
def o108 (P : Params) : Obj := ⟨.none,.none,.func ⟨z20,z20,L2.defArgs (tt 12),.stmts (L2.defBody (tt 12)),L2.defScope (tt 12),0,[],.none,.none,.none,.none,.none,.none,.none,0⟩,⟨[]⟩⟩
def o109 (P : Params) : Obj := ⟨.type t3,.none,.fields ⟨[.str z20 311,.str z20 312,.str z9 313,.int 43 0,.int 3 0,.int 0 0,.int 0 0,.int 3 0,.ref 104,.bool true,.int 181 0,.ref 105,.none,.ref 106,.ref 107,.ref 108,.int 319 0,.int 43 0,.str z9 320]⟩,⟨[]⟩⟩
def o110 (P : Params) : Obj := ⟨.type t17,.none,.func ⟨z20,z20,L2.defArgs (tt 12),.stmts (L2.defBody (tt 12)),L2.defScope (tt 12),3,[],.none,.none,.none,.str z87 309,.none,.ref 109,.none,0⟩,⟨[]⟩⟩
def o111 (P : Params) : Obj := ⟨.type t2,.none,.seq ⟨[]⟩ 0,⟨[]⟩⟩
def o112 (P : Params) : Obj := ⟨.none,.none,.fields ⟨[]⟩,⟨[]⟩⟩
def o113 (P : Params) : Obj := ⟨.type t2,.none,.seq ⟨[.str z88 325,.str z89 326,.str z76 327,.str z83 328,.str z90 329,.str z91 330]⟩ 0,⟨[]⟩⟩
def o114 (P : Params) : Obj := ⟨.type t2,.none,.seq ⟨[]⟩ 0,⟨[]⟩⟩
def o115 (P : Params) : Obj := ⟨.none,.none,.func ⟨z21,z21,L2.defArgs (tt 13),.stmts (L2.defBody (tt 13)),L2.defScope (tt 13),0,[],.none,.none,.none,.none,.none,.none,.none,0⟩,⟨[]⟩⟩
def o116 (P : Params) : Obj := ⟨.type t3,.none,.fields ⟨[.str z21 322,.str z21 323,.str z9 324,.int 48 0,.int 2 0,.int 0 0,.int 0 0,.int 3 0,.ref 111,.bool true,.int 181 0,.ref 112,.none,.ref 113,.ref 114,.ref 115,.int 331 0,.int 48 0,.str z9 332]⟩,⟨[]⟩⟩
def o117 (P : Params) : Obj := ⟨.type t17,.none,.func ⟨z21,z21,L2.defArgs (tt 13),.stmts (L2.defBody (tt 13)),L2.defScope (tt 13),3,[],.none,.none,.none,.str z87 309,.none,.ref 116,.none,0⟩,⟨[]⟩⟩
def o118 (P : Params) : Obj := ⟨.type t2,.none,.seq ⟨[]⟩ 0,⟨[]⟩⟩
def o119 (P : Params) : Obj := ⟨.none,.none,.fields ⟨[]⟩,⟨[]⟩⟩
def o120 (P : Params) : Obj := ⟨.type t2,.none,.seq ⟨[.str z92 339,.str z93 340]⟩ 0,⟨[]⟩⟩
def o121 (P : Params) : Obj := ⟨.type t2,.none,.seq ⟨[]⟩ 0,⟨[]⟩⟩
def o122 (P : Params) : Obj := ⟨.none,.none,.func ⟨z22,z22,L2.defArgs (tt 15),.stmts (L2.defBody (tt 15)),L2.defScope (tt 15),0,[],.none,.none,.none,.none,.none,.none,.none,0⟩,⟨[]⟩⟩
def o123 (P : Params) : Obj := ⟨.type t3,.none,.fields ⟨[.str z22 336,.str z22 337,.str z9 338,.int 57 0,.int 1 0,.int 0 0,.int 0 0,.int 3 0,.ref 118,.bool true,.int 181 0,.ref 119,.none,.ref 120,.ref 121,.ref 122,.int 341 0,.int 57 0,.str z9 342]⟩,⟨[]⟩⟩
def o124 (P : Params) : Obj := ⟨.type t17,.none,.func ⟨z22,z22,L2.defArgs (tt 15),.stmts (L2.defBody (tt 15)),L2.defScope (tt 15),3,[],.none,.none,.none,.str z94 334,.none,.ref 123,.none,0⟩,⟨[]⟩⟩
def o125 (P : Params) : Obj := ⟨.type t2,.none,.seq ⟨[]⟩ 0,⟨[]⟩⟩
def o126 (P : Params) : Obj := ⟨.none,.none,.fields ⟨[]⟩,⟨[]⟩⟩
def o127 (P : Params) : Obj := ⟨.type t2,.none,.seq ⟨[.str z95 347,.str z86 348]⟩ 0,⟨[]⟩⟩
def o128 (P : Params) : Obj := ⟨.type t2,.none,.seq ⟨[]⟩ 0,⟨[]⟩⟩
def o129 (P : Params) : Obj := ⟨.none,.none,.func ⟨z23,z23,L2.defArgs (tt 16),.stmts (L2.defBody (tt 16)),L2.defScope (tt 16),0,[],.none,.none,.none,.none,.none,.none,.none,0⟩,⟨[]⟩⟩
def o130 (P : Params) : Obj := ⟨.type t3,.none,.fields ⟨[.str z23 344,.str z23 345,.str z9 346,.int 62 0,.int 2 0,.int 0 0,.int 0 0,.int 3 0,.ref 125,.bool true,.int 181 0,.ref 126,.none,.ref 127,.ref 128,.ref 129,.int 349 0,.int 62 0,.str z9 350]⟩,⟨[]⟩⟩
def o131 (P : Params) : Obj := ⟨.type t17,.none,.func ⟨z23,z23,L2.defArgs (tt 16),.stmts (L2.defBody (tt 16)),L2.defScope (tt 16),3,[],.none,.none,.none,.str z94 334,.none,.ref 130,.none,0⟩,⟨[]⟩⟩
def o132 (P : Params) : Obj := ⟨.type t2,.none,.seq ⟨[]⟩ 0,⟨[]⟩⟩
def o133 (P : Params) : Obj := ⟨.none,.none,.fields ⟨[]⟩,⟨[]⟩⟩
def o134 (P : Params) : Obj := ⟨.type t2,.none,.seq ⟨[.str z76 355,.str z81 356,.str z82 357,.str z85 358,.str z96 359,.str z86 360]⟩ 0,⟨[]⟩⟩
def o135 (P : Params) : Obj := ⟨.type t2,.none,.seq ⟨[]⟩ 0,⟨[]⟩⟩
def o136 (P : Params) : Obj := ⟨.none,.none,.func ⟨z24,z24,L2.defArgs (tt 17),.stmts (L2.defBody (tt 17)),L2.defScope (tt 17),0,[],.none,.none,.none,.none,.none,.none,.none,0⟩,⟨[]⟩⟩
def o137 (P : Params) : Obj := ⟨.type t3,.none,.fields ⟨[.str z24 352,.str z24 353,.str z9 354,.int 64 0,.int 3 0,.int 0 0,.int 0 0,.int 3 0,.ref 132,.bool true,.int 181 0,.ref 133,.none,.ref 134,.ref 135,.ref 136,.int 361 0,.int 64 0,.str z9 362]⟩,⟨[]⟩⟩
def o138 (P : Params) : Obj := ⟨.type t17,.none,.func ⟨z24,z24,L2.defArgs (tt 17),.stmts (L2.defBody (tt 17)),L2.defScope (tt 17),3,[],.none,.none,.none,.str z94 334,.none,.ref 137,.none,0⟩,⟨[]⟩⟩
def o139 (P : Params) : Obj := ⟨.type t2,.none,.seq ⟨[]⟩ 0,⟨[]⟩⟩
def o140 (P : Params) : Obj := ⟨.none,.none,.fields ⟨[]⟩,⟨[]⟩⟩
def o141 (P : Params) : Obj := ⟨.type t2,.none,.seq ⟨[.str z76 367,.str z81 368,.str z82 369,.str z97 370,.str z98 371,.str z80 372,.str z99 373,.str z100 374,.str z86 375]⟩ 0,⟨[]⟩⟩
def o142 (P : Params) : Obj := ⟨.type t2,.none,.seq ⟨[]⟩ 0,⟨[]⟩⟩
def o143 (P : Params) : Obj := ⟨.none,.none,.func ⟨z25,z25,L2.defArgs (tt 18),.stmts (L2.defBody (tt 18)),L2.defScope (tt 18),0,[],.none,.none,.none,.none,.none,.none,.none,0⟩,⟨[]⟩⟩
def o144 (P : Params) : Obj := ⟨.type t3,.none,.fields ⟨[.str z25 364,.str z25 365,.str z9 366,.int 70 0,.int 3 0,.int 0 0,.int 0 0,.int 3 0,.ref 139,.bool true,.int 181 0,.ref 140,.none,.ref 141,.ref 142,.ref 143,.int 376 0,.int 70 0,.str z9 377]⟩,⟨[]⟩⟩
def o145 (P : Params) : Obj := ⟨.type t17,.none,.func ⟨z25,z25,L2.defArgs (tt 18),.stmts (L2.defBody (tt 18)),L2.defScope (tt 18),3,[],.none,.none,.none,.str z94 334,.none,.ref 144,.none,0⟩,⟨[]⟩⟩
def o146 (P : Params) : Obj := ⟨.type t2,.none,.seq ⟨[]⟩ 0,⟨[]⟩⟩
def o147 (P : Params) : Obj := ⟨.none,.none,.fields ⟨[]⟩,⟨[]⟩⟩
def o148 (P : Params) : Obj := ⟨.none,.none,.func ⟨z26,z26,L2.defArgs (tt 19),.stmts (L2.defBody (tt 19)),L2.defScope (tt 19),0,[],.none,.none,.none,.none,.none,.none,.none,0⟩,⟨[]⟩⟩
def o149 (P : Params) : Obj := ⟨.type t3,.none,.fields ⟨[.str z26 379,.str z26 380,.str z9 381,.int 80 0,.int 2 0,.int 0 0,.int 0 0,.int 3 0,.ref 146,.bool true,.int 181 0,.ref 147,.none,.none,.none,.ref 148,.int 382 0,.int 80 0,.str z9 383]⟩,⟨[]⟩⟩
def o150 (P : Params) : Obj := ⟨.type t17,.none,.func ⟨z26,z26,L2.defArgs (tt 19),.stmts (L2.defBody (tt 19)),L2.defScope (tt 19),3,[],.none,.none,.none,.str z94 334,.none,.ref 149,.none,0⟩,⟨[]⟩⟩
def o151 (P : Params) : Obj := ⟨.type t2,.none,.seq ⟨[]⟩ 0,⟨[]⟩⟩
def o152 (P : Params) : Obj := ⟨.none,.none,.fields ⟨[]⟩,⟨[]⟩⟩
def o153 (P : Params) : Obj := ⟨.type t2,.none,.seq ⟨[.str z76 388,.str z81 389,.str z82 390,.str z101 391,.str z102 392,.str z80 393]⟩ 0,⟨[]⟩⟩
def o154 (P : Params) : Obj := ⟨.type t2,.none,.seq ⟨[]⟩ 0,⟨[]⟩⟩
def o155 (P : Params) : Obj := ⟨.none,.none,.func ⟨z27,z27,L2.defArgs (tt 20),.stmts (L2.defBody (tt 20)),L2.defScope (tt 20),0,[],.none,.none,.none,.none,.none,.none,.none,0⟩,⟨[]⟩⟩
def o156 (P : Params) : Obj := ⟨.type t3,.none,.fields ⟨[.str z27 385,.str z27 386,.str z9 387,.int 85 0,.int 3 0,.int 0 0,.int 0 0,.int 3 0,.ref 151,.bool true,.int 181 0,.ref 152,.none,.ref 153,.ref 154,.ref 155,.int 394 0,.int 85 0,.str z9 395]⟩,⟨[]⟩⟩
def o157 (P : Params) : Obj := ⟨.type t17,.none,.func ⟨z27,z27,L2.defArgs (tt 20),.stmts (L2.defBody (tt 20)),L2.defScope (tt 20),3,[],.none,.none,.none,.str z94 334,.none,.ref 156,.none,0⟩,⟨[]⟩⟩
def o158 (P : Params) : Obj := ⟨.type t2,.none,.seq ⟨[]⟩ 0,⟨[]⟩⟩
def o159 (P : Params) : Obj := ⟨.none,.none,.fields ⟨[]⟩,⟨[]⟩⟩
def o160 (P : Params) : Obj := ⟨.none,.none,.func ⟨z28,z28,L2.defArgs (tt 21),.stmts (L2.defBody (tt 21)),L2.defScope (tt 21),0,[],.none,.none,.none,.none,.none,.none,.none,0⟩,⟨[]⟩⟩
def o161 (P : Params) : Obj := ⟨.type t3,.none,.fields ⟨[.str z28 397,.str z28 398,.str z9 399,.int 93 0,.int 2 0,.int 0 0,.int 0 0,.int 3 0,.ref 158,.bool true,.int 181 0,.ref 159,.none,.none,.none,.ref 160,.int 400 0,.int 93 0,.str z9 401]⟩,⟨[]⟩⟩
def o162 (P : Params) : Obj := ⟨.type t17,.none,.func ⟨z28,z28,L2.defArgs (tt 21),.stmts (L2.defBody (tt 21)),L2.defScope (tt 21),3,[],.none,.none,.none,.str z94 334,.none,.ref 161,.none,0⟩,⟨[]⟩⟩
def o163 (P : Params) : Obj := ⟨.type t2,.none,.seq ⟨[]⟩ 0,⟨[]⟩⟩
def o164 (P : Params) : Obj := ⟨.none,.none,.fields ⟨[]⟩,⟨[]⟩⟩
def o165 (P : Params) : Obj := ⟨.none,.none,.func ⟨z29,z29,L2.defArgs (tt 22),.stmts (L2.defBody (tt 22)),L2.defScope (tt 22),0,[],.none,.none,.none,.none,.none,.none,.none,0⟩,⟨[]⟩⟩
def o166 (P : Params) : Obj := ⟨.type t3,.none,.fields ⟨[.str z29 403,.str z29 404,.str z9 405,.int 97 0,.int 2 0,.int 0 0,.int 0 0,.int 3 0,.ref 163,.bool true,.int 181 0,.ref 164,.none,.none,.none,.ref 165,.int 406 0,.int 97 0,.str z9 407]⟩,⟨[]⟩⟩
def o167 (P : Params) : Obj := ⟨.type t17,.none,.func ⟨z29,z29,L2.defArgs (tt 22),.stmts (L2.defBody (tt 22)),L2.defScope (tt 22),3,[],.none,.none,.none,.str z94 334,.none,.ref 166,.none,0⟩,⟨[]⟩⟩
def o168 (P : Params) : Obj := ⟨.type t2,.none,.seq ⟨[]⟩ 0,⟨[]⟩⟩
def o169 (P : Params) : Obj := ⟨.none,.none,.fields ⟨[]⟩,⟨[]⟩⟩
def o170 (P : Params) : Obj := ⟨.none,.none,.func ⟨z30,z30,L2.defArgs (tt 23),.stmts (L2.defBody (tt 23)),L2.defScope (tt 23),0,[],.none,.none,.none,.none,.none,.none,.none,0⟩,⟨[]⟩⟩
def o171 (P : Params) : Obj := ⟨.type t3,.none,.fields ⟨[.str z30 409,.str z30 410,.str z9 411,.int 100 0,.int 4 0,.int 0 0,.int 0 0,.int 3 0,.ref 168,.bool true,.int 181 0,.ref 169,.none,.none,.none,.ref 170,.int 412 0,.int 100 0,.str z9 413]⟩,⟨[]⟩⟩
def o172 (P : Params) : Obj := ⟨.type t17,.none,.func ⟨z30,z30,L2.defArgs (tt 23),.stmts (L2.defBody (tt 23)),L2.defScope (tt 23),3,[],.none,.none,.none,.str z94 334,.none,.ref 171,.none,0⟩,⟨[]⟩⟩
def o173 (P : Params) : Obj := ⟨.type t2,.none,.seq ⟨[]⟩ 0,⟨[]⟩⟩
def o174 (P : Params) : Obj := ⟨.none,.none,.fields ⟨[]⟩,⟨[]⟩⟩
def o175 (P : Params) : Obj := ⟨.type t2,.none,.seq ⟨[.str z76 422,.str z103 423]⟩ 0,⟨[]⟩⟩
def o176 (P : Params) : Obj := ⟨.type t2,.none,.seq ⟨[]⟩ 0,⟨[]⟩⟩
def o177 (P : Params) : Obj := ⟨.none,.none,.func ⟨z32,z32,L2.defArgs (tt 26),.stmts (L2.defBody (tt 26)),L2.defScope (tt 26),0,[],.none,.none,.none,.none,.none,.none,.none,0⟩,⟨[]⟩⟩
def o178 (P : Params) : Obj := ⟨.type t3,.none,.fields ⟨[.str z32 419,.str z32 420,.str z9 421,.int 104 0,.int 2 0,.int 0 0,.int 0 0,.int 3 0,.ref 173,.bool true,.int 181 0,.ref 174,.none,.ref 175,.ref 176,.ref 177,.int 424 0,.int 104 0,.str z9 425]⟩,⟨[]⟩⟩
def o179 (P : Params) : Obj := ⟨.type t17,.none,.func ⟨z32,z32,L2.defArgs (tt 26),.stmts (L2.defBody (tt 26)),L2.defScope (tt 26),3,[],.none,.none,.none,.str z104 415,.none,.ref 178,.none,0⟩,⟨[]⟩⟩
def o180 (P : Params) : Obj := ⟨.type t2,.none,.seq ⟨[]⟩ 0,⟨[]⟩⟩
def o181 (P : Params) : Obj := ⟨.none,.none,.fields ⟨[]⟩,⟨[]⟩⟩
def o182 (P : Params) : Obj := ⟨.type t2,.none,.seq ⟨[.str z76 430,.str z95 431,.str z103 432,.str z80 433,.str z105 434,.str z106 435]⟩ 0,⟨[]⟩⟩
def o183 (P : Params) : Obj := ⟨.type t2,.none,.seq ⟨[]⟩ 0,⟨[]⟩⟩
def o184 (P : Params) : Obj := ⟨.none,.none,.func ⟨z33,z33,L2.defArgs (tt 27),.stmts (L2.defBody (tt 27)),L2.defScope (tt 27),0,[],.none,.none,.none,.none,.none,.none,.none,0⟩,⟨[]⟩⟩
def o185 (P : Params) : Obj := ⟨.type t3,.none,.fields ⟨[.str z33 427,.str z33 428,.str z9 429,.int 107 0,.int 3 0,.int 0 0,.int 0 0,.int 3 0,.ref 180,.bool true,.int 181 0,.ref 181,.none,.ref 182,.ref 183,.ref 184,.int 436 0,.int 107 0,.str z9 437]⟩,⟨[]⟩⟩
def o186 (P : Params) : Obj := ⟨.type t17,.none,.func ⟨z33,z33,L2.defArgs (tt 27),.stmts (L2.defBody (tt 27)),L2.defScope (tt 27),3,[],.none,.none,.none,.str z104 415,.none,.ref 185,.none,0⟩,⟨[]⟩⟩
def o187 (P : Params) : Obj := ⟨.type t2,.none,.seq ⟨[]⟩ 0,⟨[]⟩⟩
def o188 (P : Params) : Obj := ⟨.none,.none,.fields ⟨[]⟩,⟨[]⟩⟩
def o189 (P : Params) : Obj := ⟨.none,.none,.func ⟨z34,z34,L2.defArgs (tt 28),.stmts (L2.defBody (tt 28)),L2.defScope (tt 28),0,[],.none,.none,.none,.none,.none,.none,.none,0⟩,⟨[]⟩⟩
def o190 (P : Params) : Obj := ⟨.type t3,.none,.fields ⟨[.str z34 439,.str z34 440,.str z9 441,.int 115 0,.int 2 0,.int 0 0,.int 0 0,.int 3 0,.ref 187,.bool true,.int 181 0,.ref 188,.none,.none,.none,.ref 189,.int 442 0,.int 115 0,.str z9 443]⟩,⟨[]⟩⟩
def o191 (P : Params) : Obj := ⟨.type t17,.none,.func ⟨z34,z34,L2.defArgs (tt 28),.stmts (L2.defBody (tt 28)),L2.defScope (tt 28),3,[],.none,.none,.none,.str z104 415,.none,.ref 190,.none,0⟩,⟨[]⟩⟩
def o192 (P : Params) : Obj := ⟨.type t2,.none,.seq ⟨[]⟩ 0,⟨[]⟩⟩
def o193 (P : Params) : Obj := ⟨.none,.none,.fields ⟨[]⟩,⟨[]⟩⟩
def o194 (P : Params) : Obj := ⟨.type t2,.none,.seq ⟨[.str z88 448,.str z103 449]⟩ 0,⟨[]⟩⟩
def o195 (P : Params) : Obj := ⟨.type t2,.none,.seq ⟨[]⟩ 0,⟨[]⟩⟩
def o196 (P : Params) : Obj := ⟨.none,.none,.func ⟨z35,z35,L2.defArgs (tt 29),.stmts (L2.defBody (tt 29)),L2.defScope (tt 29),0,[],.none,.none,.none,.none,.none,.none,.none,0⟩,⟨[]⟩⟩
def o197 (P : Params) : Obj := ⟨.type t3,.none,.fields ⟨[.str z35 445,.str z35 446,.str z9 447,.int 121 0,.int 2 0,.int 0 0,.int 0 0,.int 3 0,.ref 192,.bool true,.int 181 0,.ref 193,.none,.ref 194,.ref 195,.ref 196,.int 450 0,.int 121 0,.str z9 451]⟩,⟨[]⟩⟩
def o198 (P : Params) : Obj := ⟨.type t17,.none,.func ⟨z35,z35,L2.defArgs (tt 29),.stmts (L2.defBody (tt 29)),L2.defScope (tt 29),3,[],.none,.none,.none,.str z104 415,.none,.ref 197,.none,0⟩,⟨[]⟩⟩
def o199 (P : Params) : Obj := ⟨.type t2,.none,.seq ⟨[]⟩ 0,⟨[]⟩⟩
def o200 (P : Params) : Obj := ⟨.none,.none,.fields ⟨[]⟩,⟨[]⟩⟩
def o201 (P : Params) : Obj := ⟨.none,.none,.func ⟨z36,z36,L2.defArgs (tt 30),.stmts (L2.defBody (tt 30)),L2.defScope (tt 30),0,[],.none,.none,.none,.none,.none,.none,.none,0⟩,⟨[]⟩⟩
def o202 (P : Params) : Obj := ⟨.type t3,.none,.fields ⟨[.str z36 453,.str z36 454,.str z9 455,.int 123 0,.int 2 0,.int 0 0,.int 0 0,.int 3 0,.ref 199,.bool true,.int 181 0,.ref 200,.none,.none,.none,.ref 201,.int 456 0,.int 123 0,.str z9 457]⟩,⟨[]⟩⟩
def o203 (P : Params) : Obj := ⟨.type t17,.none,.func ⟨z36,z36,L2.defArgs (tt 30),.stmts (L2.defBody (tt 30)),L2.defScope (tt 30),3,[],.none,.none,.none,.str z104 415,.none,.ref 202,.none,0⟩,⟨[]⟩⟩
def o204 (P : Params) : Obj := ⟨.type t2,.none,.seq ⟨[]⟩ 0,⟨[]⟩⟩
def o205 (P : Params) : Obj := ⟨.none,.none,.fields ⟨[]⟩,⟨[]⟩⟩
def o206 (P : Params) : Obj := ⟨.type t2,.none,.seq ⟨[.str z73 466,.str z91 467]⟩ 0,⟨[]⟩⟩
def o207 (P : Params) : Obj := ⟨.type t2,.none,.seq ⟨[]⟩ 0,⟨[]⟩⟩
def o208 (P : Params) : Obj := ⟨.none,.none,.func ⟨z38,z38,L2.defArgs (tt 33),.stmts (L2.defBody (tt 33)),L2.defScope (tt 33),0,[],.none,.none,.none,.none,.none,.none,.none,0⟩,⟨[]⟩⟩
def o209 (P : Params) : Obj := ⟨.type t3,.none,.fields ⟨[.str z38 463,.str z38 464,.str z9 465,.int 131 0,.int 1 0,.int 0 0,.int 0 0,.int 3 0,.ref 204,.bool true,.int 181 0,.ref 205,.none,.ref 206,.ref 207,.ref 208,.int 468 0,.int 131 0,.str z9 469]⟩,⟨[]⟩⟩
def o210 (P : Params) : Obj := ⟨.type t17,.none,.func ⟨z38,z38,L2.defArgs (tt 33),.stmts (L2.defBody (tt 33)),L2.defScope (tt 33),3,[],.none,.none,.none,.str z107 459,.none,.ref 209,.none,0⟩,⟨[]⟩⟩
def o211 (P : Params) : Obj := ⟨.type t2,.none,.seq ⟨[]⟩ 0,⟨[]⟩⟩
def o212 (P : Params) : Obj := ⟨.none,.none,.fields ⟨[]⟩,⟨[]⟩⟩
def o213 (P : Params) : Obj := ⟨.type t2,.none,.seq ⟨[.str z108 474,.str z95 475]⟩ 0,⟨[]⟩⟩
def o214 (P : Params) : Obj := ⟨.type t2,.none,.seq ⟨[]⟩ 0,⟨[]⟩⟩
def o215 (P : Params) : Obj := ⟨.none,.none,.func ⟨z39,z39,L2.defArgs (tt 34),.stmts (L2.defBody (tt 34)),L2.defScope (tt 34),0,[],.none,.none,.none,.none,.none,.none,.none,0⟩,⟨[]⟩⟩
def o216 (P : Params) : Obj := ⟨.type t3,.none,.fields ⟨[.str z39 471,.str z39 472,.str z9 473,.int 136 0,.int 2 0,.int 0 0,.int 0 0,.int 3 0,.ref 211,.bool true,.int 181 0,.ref 212,.none,.ref 213,.ref 214,.ref 215,.int 476 0,.int 136 0,.str z9 477]⟩,⟨[]⟩⟩
def o217 (P : Params) : Obj := ⟨.type t17,.none,.func ⟨z39,z39,L2.defArgs (tt 34),.stmts (L2.defBody (tt 34)),L2.defScope (tt 34),3,[],.none,.none,.none,.str z107 459,.none,.ref 216,.none,0⟩,⟨[]⟩⟩
def o218 (P : Params) : Obj := ⟨.type t2,.none,.seq ⟨[]⟩ 0,⟨[]⟩⟩
def o219 (P : Params) : Obj := ⟨.none,.none,.fields ⟨[]⟩,⟨[]⟩⟩
def o220 (P : Params) : Obj := ⟨.none,.none,.func ⟨z40,z40,L2.defArgs (tt 35),.stmts (L2.defBody (tt 35)),L2.defScope (tt 35),0,[],.none,.none,.none,.none,.none,.none,.none,0⟩,⟨[]⟩⟩
def o221 (P : Params) : Obj := ⟨.type t3,.none,.fields ⟨[.str z40 479,.str z40 480,.str z9 481,.int 138 0,.int 2 0,.int 0 0,.int 0 0,.int 3 0,.ref 218,.bool true,.int 181 0,.ref 219,.none,.none,.none,.ref 220,.int 482 0,.int 138 0,.str z9 483]⟩,⟨[]⟩⟩
def o222 (P : Params) : Obj := ⟨.type t17,.none,.func ⟨z40,z40,L2.defArgs (tt 35),.stmts (L2.defBody (tt 35)),L2.defScope (tt 35),3,[],.none,.none,.none,.str z107 459,.none,.ref 221,.none,0⟩,⟨[]⟩⟩
def o223 (P : Params) : Obj := ⟨.type t2,.none,.seq ⟨[]⟩ 0,⟨[]⟩⟩
def o224 (P : Params) : Obj := ⟨.none,.none,.fields ⟨[]⟩,⟨[]⟩⟩
def o225 (P : Params) : Obj := ⟨.type t2,.none,.seq ⟨[.str z109 488,.str z73 489,.str z110 490]⟩ 0,⟨[]⟩⟩
def o226 (P : Params) : Obj := ⟨.type t2,.none,.seq ⟨[]⟩ 0,⟨[]⟩⟩
def o227 (P : Params) : Obj := ⟨.none,.none,.func ⟨z41,z41,L2.defArgs (tt 36),.stmts (L2.defBody (tt 36)),L2.defScope (tt 36),0,[],.none,.none,.none,.none,.none,.none,.none,0⟩,⟨[]⟩⟩
def o228 (P : Params) : Obj := ⟨.type t3,.none,.fields ⟨[.str z41 485,.str z41 486,.str z9 487,.int 140 0,.int 2 0,.int 0 0,.int 0 0,.int 3 0,.ref 223,.bool true,.int 181 0,.ref 224,.none,.ref 225,.ref 226,.ref 227,.int 491 0,.int 140 0,.str z9 492]⟩,⟨[]⟩⟩
def o229 (P : Params) : Obj := ⟨.type t17,.none,.func ⟨z41,z41,L2.defArgs (tt 36),.stmts (L2.defBody (tt 36)),L2.defScope (tt 36),3,[],.none,.none,.none,.str z107 459,.none,.ref 228,.none,0⟩,⟨[]⟩⟩
def o230 (P : Params) : Obj := ⟨.type t2,.none,.seq ⟨[]⟩ 0,⟨[]⟩⟩
def o231 (P : Params) : Obj := ⟨.none,.none,.fields ⟨[]⟩,⟨[]⟩⟩
def o232 (P : Params) : Obj := ⟨.type t2,.none,.seq ⟨[.str z109 497,.str z73 498,.str z77 499,.str z110 500,.str z111 501]⟩ 0,⟨[]⟩⟩
def o233 (P : Params) : Obj := ⟨.type t2,.none,.seq ⟨[]⟩ 0,⟨[]⟩⟩
def o234 (P : Params) : Obj := ⟨.none,.none,.func ⟨z42,z42,L2.defArgs (tt 37),.stmts (L2.defBody (tt 37)),L2.defScope (tt 37),0,[],.none,.none,.none,.none,.none,.none,.none,0⟩,⟨[]⟩⟩
def o235 (P : Params) : Obj := ⟨.type t3,.none,.fields ⟨[.str z42 494,.str z42 495,.str z9 496,.int 143 0,.int 4 0,.int 0 0,.int 0 0,.int 3 0,.ref 230,.bool true,.int 181 0,.ref 231,.none,.ref 232,.ref 233,.ref 234,.int 502 0,.int 143 0,.str z9 503]⟩,⟨[]⟩⟩
def o236 (P : Params) : Obj := ⟨.type t17,.none,.func ⟨z42,z42,L2.defArgs (tt 37),.stmts (L2.defBody (tt 37)),L2.defScope (tt 37),3,[],.none,.none,.none,.str z107 459,.none,.ref 235,.none,0⟩,⟨[]⟩⟩
def o237 (P : Params) : Obj := ⟨.type t2,.none,.seq ⟨[]⟩ 0,⟨[]⟩⟩
def o238 (P : Params) : Obj := ⟨.none,.none,.fields ⟨[]⟩,⟨[]⟩⟩
def o239 (P : Params) : Obj := ⟨.none,.none,.func ⟨z43,z43,L2.defArgs (tt 38),.stmts (L2.defBody (tt 38)),L2.defScope (tt 38),0,[],.none,.none,.none,.none,.none,.none,.none,0⟩,⟨[]⟩⟩
def o240 (P : Params) : Obj := ⟨.type t3,.none,.fields ⟨[.str z43 505,.str z43 506,.str z9 507,.int 146 0,.int 2 0,.int 0 0,.int 0 0,.int 3 0,.ref 237,.bool true,.int 181 0,.ref 238,.none,.none,.none,.ref 239,.int 508 0,.int 146 0,.str z9 509]⟩,⟨[]⟩⟩
def o241 (P : Params) : Obj := ⟨.type t17,.none,.func ⟨z43,z43,L2.defArgs (tt 38),.stmts (L2.defBody (tt 38)),L2.defScope (tt 38),3,[],.none,.none,.none,.str z107 459,.none,.ref 240,.none,0⟩,⟨[]⟩⟩
def o242 (P : Params) : Obj := ⟨.type t2,.none,.seq ⟨[]⟩ 0,⟨[]⟩⟩
def o243 (P : Params) : Obj := ⟨.none,.none,.fields ⟨[]⟩,⟨[]⟩⟩
def o244 (P : Params) : Obj := ⟨.type t2,.none,.seq ⟨[.str z76 514,.str z81 515,.str z82 516]⟩ 0,⟨[]⟩⟩
def o245 (P : Params) : Obj := ⟨.type t2,.none,.seq ⟨[]⟩ 0,⟨[]⟩⟩
def o246 (P : Params) : Obj := ⟨.none,.none,.func ⟨z44,z44,L2.defArgs (tt 39),.stmts (L2.defBody (tt 39)),L2.defScope (tt 39),0,[],.none,.none,.none,.none,.none,.none,.none,0⟩,⟨[]⟩⟩
def o247 (P : Params) : Obj := ⟨.type t3,.none,.fields ⟨[.str z44 511,.str z44 512,.str z9 513,.int 164 0,.int 3 0,.int 0 0,.int 0 0,.int 3 0,.ref 242,.bool true,.int 181 0,.ref 243,.none,.ref 244,.ref 245,.ref 246,.int 517 0,.int 164 0,.str z9 518]⟩,⟨[]⟩⟩
def o248 (P : Params) : Obj := ⟨.type t17,.none,.func ⟨z44,z44,L2.defArgs (tt 39),.stmts (L2.defBody (tt 39)),L2.defScope (tt 39),3,[],.none,.none,.none,.str z107 459,.none,.ref 247,.none,0⟩,⟨[]⟩⟩
def o249 (P : Params) : Obj := ⟨.type t2,.none,.seq ⟨[]⟩ 0,⟨[]⟩⟩
def o250 (P : Params) : Obj := ⟨.none,.none,.fields ⟨[]⟩,⟨[]⟩⟩
def o251 (P : Params) : Obj := ⟨.none,.none,.func ⟨z45,z45,L2.defArgs (tt 41),.stmts (L2.defBody (tt 41)),L2.defScope (tt 41),0,[],.none,.none,.none,.none,.none,.none,.none,0⟩,⟨[]⟩⟩
def o252 (P : Params) : Obj := ⟨.type t3,.none,.fields ⟨[.str z45 522,.str z45 523,.str z9 524,.int 167 0,.int 2 0,.int 0 0,.int 0 0,.int 3 0,.ref 249,.bool true,.int 181 0,.ref 250,.none,.none,.none,.ref 251,.int 525 0,.int 167 0,.str z9 526]⟩,⟨[]⟩⟩
def o253 (P : Params) : Obj := ⟨.type t17,.none,.func ⟨z45,z45,L2.defArgs (tt 41),.stmts (L2.defBody (tt 41)),L2.defScope (tt 41),3,[],.none,.none,.none,.str z112 520,.none,.ref 252,.none,0⟩,⟨[]⟩⟩
def o254 (P : Params) : Obj := ⟨.type t2,.none,.seq ⟨[]⟩ 0,⟨[]⟩⟩
def o255 (P : Params) : Obj := ⟨.none,.none,.fields ⟨[]⟩,⟨[]⟩⟩
def o256 (P : Params) : Obj := ⟨.type t2,.none,.seq ⟨[.str z88 531,.str z76 532,.str z95 533,.str z97 534]⟩ 0,⟨[]⟩⟩
def o257 (P : Params) : Obj := ⟨.type t2,.none,.seq ⟨[]⟩ 0,⟨[]⟩⟩
def o258 (P : Params) : Obj := ⟨.none,.none,.func ⟨z46,z46,L2.defArgs (tt 42),.stmts (L2.defBody (tt 42)),L2.defScope (tt 42),0,[],.none,.none,.none,.none,.none,.none,.none,0⟩,⟨[]⟩⟩
def o259 (P : Params) : Obj := ⟨.type t3,.none,.fields ⟨[.str z46 528,.str z46 529,.str z9 530,.int 175 0,.int 1 0,.int 0 0,.int 0 0,.int 3 0,.ref 254,.bool true,.int 181 0,.ref 255,.none,.ref 256,.ref 257,.ref 258,.int 535 0,.int 175 0,.str z9 536]⟩,⟨[]⟩⟩
def o260 (P : Params) : Obj := ⟨.type t17,.none,.func ⟨z46,z46,L2.defArgs (tt 42),.stmts (L2.defBody (tt 42)),L2.defScope (tt 42),3,[],.none,.none,.none,.str z112 520,.none,.ref 259,.none,0⟩,⟨[]⟩⟩
def o261 (P : Params) : Obj := ⟨.type t2,.none,.seq ⟨[]⟩ 0,⟨[]⟩⟩
def o262 (P : Params) : Obj := ⟨.none,.none,.fields ⟨[]⟩,⟨[]⟩⟩
def o263 (P : Params) : Obj := ⟨.type t2,.none,.seq ⟨[.str z88 541,.str z113 542,.str z83 543]⟩ 0,⟨[]⟩⟩
def o264 (P : Params) : Obj := ⟨.type t2,.none,.seq ⟨[]⟩ 0,⟨[]⟩⟩
def o265 (P : Params) : Obj := ⟨.none,.none,.func ⟨z47,z47,L2.defArgs (tt 43),.stmts (L2.defBody (tt 43)),L2.defScope (tt 43),0,[],.none,.none,.none,.none,.none,.none,.none,0⟩,⟨[]⟩⟩
def o266 (P : Params) : Obj := ⟨.type t3,.none,.fields ⟨[.str z47 538,.str z47 539,.str z9 540,.int 180 0,.int 1 0,.int 0 0,.int 0 0,.int 3 0,.ref 261,.bool true,.int 181 0,.ref 262,.none,.ref 263,.ref 264,.ref 265,.int 544 0,.int 180 0,.str z9 545]⟩,⟨[]⟩⟩
def o267 (P : Params) : Obj := ⟨.type t17,.none,.func ⟨z47,z47,L2.defArgs (tt 43),.stmts (L2.defBody (tt 43)),L2.defScope (tt 43),3,[],.none,.none,.none,.str z112 520,.none,.ref 266,.none,0⟩,⟨[]⟩⟩
def o268 (P : Params) : Obj := ⟨.type t2,.none,.seq ⟨[]⟩ 0,⟨[]⟩⟩
def o269 (P : Params) : Obj := ⟨.none,.none,.fields ⟨[]⟩,⟨[]⟩⟩
def o270 (P : Params) : Obj := ⟨.type t2,.none,.seq ⟨[.str z77 554,.str z114 555,.str z115 556,.str z116 557]⟩ 0,⟨[]⟩⟩
def o271 (P : Params) : Obj := ⟨.type t2,.none,.seq ⟨[]⟩ 0,⟨[]⟩⟩
def o272 (P : Params) : Obj := ⟨.none,.none,.func ⟨z49,z49,L2.defArgs (tt 46),.stmts (L2.defBody (tt 46)),L2.defScope (tt 46),0,[],.none,.none,.none,.none,.none,.none,.none,0⟩,⟨[]⟩⟩
def o273 (P : Params) : Obj := ⟨.type t3,.none,.fields ⟨[.str z49 551,.str z49 552,.str z9 553,.int 186 0,.int 2 0,.int 0 0,.int 0 0,.int 3 0,.ref 268,.bool true,.int 181 0,.ref 269,.none,.ref 270,.ref 271,.ref 272,.int 558 0,.int 186 0,.str z9 559]⟩,⟨[]⟩⟩
def o274 (P : Params) : Obj := ⟨.type t17,.none,.func ⟨z49,z49,L2.defArgs (tt 46),.stmts (L2.defBody (tt 46)),L2.defScope (tt 46),3,[],.none,.none,.none,.str z117 547,.none,.ref 273,.none,0⟩,⟨[]⟩⟩
def o275 (P : Params) : Obj := ⟨.type t2,.none,.seq ⟨[]⟩ 0,⟨[]⟩⟩
def o276 (P : Params) : Obj := ⟨.none,.none,.fields ⟨[]⟩,⟨[]⟩⟩
def o277 (P : Params) : Obj := ⟨.type t2,.none,.seq ⟨[.str z88 564,.str z113 565]⟩ 0,⟨[]⟩⟩
def o278 (P : Params) : Obj := ⟨.type t2,.none,.seq ⟨[]⟩ 0,⟨[]⟩⟩
def o279 (P : Params) : Obj := ⟨.none,.none,.func ⟨z50,z50,L2.defArgs (tt 47),.stmts (L2.defBody (tt 47)),L2.defScope (tt 47),0,[],.none,.none,.none,.none,.none,.none,.none,0⟩,⟨[]⟩⟩
def o280 (P : Params) : Obj := ⟨.type t3,.none,.fields ⟨[.str z50 561,.str z50 562,.str z9 563,.int 192 0,.int 1 0,.int 0 0,.int 0 0,.int 3 0,.ref 275,.bool true,.int 181 0,.ref 276,.none,.ref 277,.ref 278,.ref 279,.int 566 0,.int 192 0,.str z9 567]⟩,⟨[]⟩⟩
def o281 (P : Params) : Obj := ⟨.type t17,.none,.func ⟨z50,z50,L2.defArgs (tt 47),.stmts (L2.defBody (tt 47)),L2.defScope (tt 47),3,[],.none,.none,.none,.str z117 547,.none,.ref 280,.none,0⟩,⟨[]⟩⟩
def o282 (P : Params) : Obj := ⟨.type t2,.none,.seq ⟨[]⟩ 0,⟨[]⟩⟩
def o283 (P : Params) : Obj := ⟨.none,.none,.fields ⟨[]⟩,⟨[]⟩⟩
def o284 (P : Params) : Obj := ⟨.type t2,.none,.seq ⟨[.str z88 572,.str z76 573,.str z83 574,.str z118 575,.str z119 576,.str z120 577]⟩ 0,⟨[]⟩⟩
def o285 (P : Params) : Obj := ⟨.type t2,.none,.seq ⟨[]⟩ 0,⟨[]⟩⟩
def o286 (P : Params) : Obj := ⟨.none,.none,.func ⟨z51,z51,L2.defArgs (tt 48),.stmts (L2.defBody (tt 48)),L2.defScope (tt 48),0,[],.none,.none,.none,.none,.none,.none,.none,0⟩,⟨[]⟩⟩
def o287 (P : Params) : Obj := ⟨.type t3,.none,.fields ⟨[.str z51 569,.str z51 570,.str z9 571,.int 198 0,.int 1 0,.int 0 0,.int 0 0,.int 3 0,.ref 282,.bool true,.int 181 0,.ref 283,.none,.ref 284,.ref 285,.ref 286,.int 578 0,.int 198 0,.str z9 579]⟩,⟨[]⟩⟩
def o288 (P : Params) : Obj := ⟨.type t17,.none,.func ⟨z51,z51,L2.defArgs (tt 48),.stmts (L2.defBody (tt 48)),L2.defScope (tt 48),3,[],.none,.none,.none,.str z117 547,.none,.ref 287,.none,0⟩,⟨[]⟩⟩
def o289 (P : Params) : Obj := ⟨.type t2,.none,.seq ⟨[]⟩ 0,⟨[]⟩⟩
def o290 (P : Params) : Obj := ⟨.none,.none,.fields ⟨[]⟩,⟨[]⟩⟩
def o291 (P : Params) : Obj := ⟨.type t2,.none,.seq ⟨[.str z88 584]⟩ 0,⟨[]⟩⟩
def o292 (P : Params) : Obj := ⟨.type t2,.none,.seq ⟨[]⟩ 0,⟨[]⟩⟩
def o293 (P : Params) : Obj := ⟨.none,.none,.func ⟨z52,z52,L2.defArgs (tt 49),.stmts (L2.defBody (tt 49)),L2.defScope (tt 49),0,[],.none,.none,.none,.none,.none,.none,.none,0⟩,⟨[]⟩⟩
def o294 (P : Params) : Obj := ⟨.type t3,.none,.fields ⟨[.str z52 581,.str z52 582,.str z9 583,.int 208 0,.int 1 0,.int 0 0,.int 0 0,.int 3 0,.ref 289,.bool true,.int 181 0,.ref 290,.none,.ref 291,.ref 292,.ref 293,.int 585 0,.int 208 0,.str z9 586]⟩,⟨[]⟩⟩
def o295 (P : Params) : Obj := ⟨.type t17,.none,.func ⟨z52,z52,L2.defArgs (tt 49),.stmts (L2.defBody (tt 49)),L2.defScope (tt 49),3,[],.none,.none,.none,.str z117 547,.none,.ref 294,.none,0⟩,⟨[]⟩⟩
def o296 (P : Params) : Obj := ⟨.type t2,.none,.seq ⟨[]⟩ 0,⟨[]⟩⟩
def o297 (P : Params) : Obj := ⟨.none,.none,.fields ⟨[]⟩,⟨[]⟩⟩
def o298 (P : Params) : Obj := ⟨.none,.none,.func ⟨z53,z53,L2.defArgs (tt 50),.stmts (L2.defBody (tt 50)),L2.defScope (tt 50),0,[],.none,.none,.none,.none,.none,.none,.none,0⟩,⟨[]⟩⟩
def o299 (P : Params) : Obj := ⟨.type t3,.none,.fields ⟨[.str z53 588,.str z53 589,.str z9 590,.int 210 0,.int 2 0,.int 0 0,.int 0 0,.int 3 0,.ref 296,.bool true,.int 181 0,.ref 297,.none,.none,.none,.ref 298,.int 591 0,.int 210 0,.str z9 592]⟩,⟨[]⟩⟩
def o300 (P : Params) : Obj := ⟨.type t17,.none,.func ⟨z53,z53,L2.defArgs (tt 50),.stmts (L2.defBody (tt 50)),L2.defScope (tt 50),3,[],.none,.none,.none,.str z117 547,.none,.ref 299,.none,0⟩,⟨[]⟩⟩
def o301 (P : Params) : Obj := ⟨.type t2,.none,.seq ⟨[]⟩ 0,⟨[]⟩⟩
def o302 (P : Params) : Obj := ⟨.none,.none,.fields ⟨[]⟩,⟨[]⟩⟩
def o303 (P : Params) : Obj := ⟨.type t2,.none,.seq ⟨[.str z121 599,.str z122 600]⟩ 0,⟨[]⟩⟩
def o304 (P : Params) : Obj := ⟨.type t2,.none,.seq ⟨[]⟩ 0,⟨[]⟩⟩
def o305 (P : Params) : Obj := ⟨.none,.none,.func ⟨z54,z54,L2.defArgs (tt 52),.stmts (L2.defBody (tt 52)),L2.defScope (tt 52),0,[],.none,.none,.none,.none,.none,.none,.none,0⟩,⟨[]⟩⟩
def o306 (P : Params) : Obj := ⟨.type t3,.none,.fields ⟨[.str z54 596,.str z54 597,.str z9 598,.int 220 0,.int 2 0,.int 0 0,.int 0 0,.int 3 0,.ref 301,.bool true,.int 181 0,.ref 302,.none,.ref 303,.ref 304,.ref 305,.int 601 0,.int 220 0,.str z9 602]⟩,⟨[]⟩⟩
def o307 (P : Params) : Obj := ⟨.type t17,.none,.func ⟨z54,z54,L2.defArgs (tt 52),.stmts (L2.defBody (tt 52)),L2.defScope (tt 52),3,[],.none,.none,.none,.str z1 594,.none,.ref 306,.none,0⟩,⟨[]⟩⟩
def o308 (P : Params) : Obj := ⟨.type t2,.none,.seq ⟨[]⟩ 0,⟨[]⟩⟩
def o309 (P : Params) : Obj := ⟨.none,.none,.fields ⟨[]⟩,⟨[]⟩⟩
def o310 (P : Params) : Obj := ⟨.type t2,.none,.seq ⟨[.str z123 607,.str z122 608,.str z124 609]⟩ 0,⟨[]⟩⟩
def o311 (P : Params) : Obj := ⟨.type t2,.none,.seq ⟨[]⟩ 0,⟨[]⟩⟩
def o312 (P : Params) : Obj := ⟨.none,.none,.func ⟨z55,z55,L2.defArgs (tt 53),.stmts (L2.defBody (tt 53)),L2.defScope (tt 53),0,[],.none,.none,.none,.none,.none,.none,.none,0⟩,⟨[]⟩⟩
def o313 (P : Params) : Obj := ⟨.type t3,.none,.fields ⟨[.str z55 604,.str z55 605,.str z9 606,.int 224 0,.int 2 0,.int 0 0,.int 0 0,.int 3 0,.ref 308,.bool true,.int 181 0,.ref 309,.none,.ref 310,.ref 311,.ref 312,.int 610 0,.int 224 0,.str z9 611]⟩,⟨[]⟩⟩
def o314 (P : Params) : Obj := ⟨.type t17,.none,.func ⟨z55,z55,L2.defArgs (tt 53),.stmts (L2.defBody (tt 53)),L2.defScope (tt 53),3,[],.none,.none,.none,.str z1 594,.none,.ref 313,.none,0⟩,⟨[]⟩⟩
def o315 (P : Params) : Obj := ⟨.type t2,.none,.seq ⟨[]⟩ 0,⟨[]⟩⟩
def o316 (P : Params) : Obj := ⟨.none,.none,.fields ⟨[]⟩,⟨[]⟩⟩
def o317 (P : Params) : Obj := ⟨.type t2,.none,.seq ⟨[.str z123 616]⟩ 0,⟨[]⟩⟩
def o318 (P : Params) : Obj := ⟨.type t2,.none,.seq ⟨[]⟩ 0,⟨[]⟩⟩
def o319 (P : Params) : Obj := ⟨.none,.none,.func ⟨z56,z56,L2.defArgs (tt 54),.stmts (L2.defBody (tt 54)),L2.defScope (tt 54),0,[],.none,.none,.none,.none,.none,.none,.none,0⟩,⟨[]⟩⟩
def o320 (P : Params) : Obj := ⟨.type t3,.none,.fields ⟨[.str z56 613,.str z56 614,.str z9 615,.int 227 0,.int 1 0,.int 0 0,.int 0 0,.int 3 0,.ref 315,.bool true,.int 181 0,.ref 316,.none,.ref 317,.ref 318,.ref 319,.int 617 0,.int 227 0,.str z9 618]⟩,⟨[]⟩⟩
def o321 (P : Params) : Obj := ⟨.type t17,.none,.func ⟨z56,z56,L2.defArgs (tt 54),.stmts (L2.defBody (tt 54)),L2.defScope (tt 54),3,[],.none,.none,.none,.str z1 594,.none,.ref 320,.none,0⟩,⟨[]⟩⟩
def o322 (P : Params) : Obj := ⟨.type t2,.none,.seq ⟨[]⟩ 0,⟨[]⟩⟩
def o323 (P : Params) : Obj := ⟨.none,.none,.fields ⟨[]⟩,⟨[]⟩⟩
def o324 (P : Params) : Obj := ⟨.type t2,.none,.seq ⟨[.str z125 623,.str z124 624]⟩ 0,⟨[]⟩⟩
def o325 (P : Params) : Obj := ⟨.type t2,.none,.seq ⟨[]⟩ 0,⟨[]⟩⟩
def o326 (P : Params) : Obj := ⟨.none,.none,.func ⟨z57,z57,L2.defArgs (tt 55),.stmts (L2.defBody (tt 55)),L2.defScope (tt 55),0,[],.none,.none,.none,.none,.none,.none,.none,0⟩,⟨[]⟩⟩
def o327 (P : Params) : Obj := ⟨.type t3,.none,.fields ⟨[.str z57 620,.str z57 621,.str z9 622,.int 229 0,.int 2 0,.int 0 0,.int 0 0,.int 3 0,.ref 322,.bool true,.int 181 0,.ref 323,.none,.ref 324,.ref 325,.ref 326,.int 625 0,.int 229 0,.str z9 626]⟩,⟨[]⟩⟩
def o328 (P : Params) : Obj := ⟨.type t17,.none,.func ⟨z57,z57,L2.defArgs (tt 55),.stmts (L2.defBody (tt 55)),L2.defScope (tt 55),3,[],.none,.none,.none,.str z1 594,.none,.ref 327,.none,0⟩,⟨[]⟩⟩
def o329 (P : Params) : Obj := ⟨.type t2,.none,.seq ⟨[]⟩ 0,⟨[]⟩⟩
def o330 (P : Params) : Obj := ⟨.none,.none,.fields ⟨[]⟩,⟨[]⟩⟩
def o331 (P : Params) : Obj := ⟨.type t2,.none,.seq ⟨[.str z125 631,.str z123 632,.str z126 633]⟩ 0,⟨[]⟩⟩
def o332 (P : Params) : Obj := ⟨.type t2,.none,.seq ⟨[]⟩ 0,⟨[]⟩⟩
def o333 (P : Params) : Obj := ⟨.none,.none,.func ⟨z58,z58,L2.defArgs (tt 56),.stmts (L2.defBody (tt 56)),L2.defScope (tt 56),0,[],.none,.none,.none,.none,.none,.none,.none,0⟩,⟨[]⟩⟩
def o334 (P : Params) : Obj := ⟨.type t3,.none,.fields ⟨[.str z58 628,.str z58 629,.str z9 630,.int 233 0,.int 3 0,.int 0 0,.int 0 0,.int 3 0,.ref 329,.bool true,.int 181 0,.ref 330,.none,.ref 331,.ref 332,.ref 333,.int 634 0,.int 233 0,.str z9 635]⟩,⟨[]⟩⟩
def o335 (P : Params) : Obj := ⟨.type t17,.none,.func ⟨z58,z58,L2.defArgs (tt 56),.stmts (L2.defBody (tt 56)),L2.defScope (tt 56),3,[],.none,.none,.none,.str z1 594,.none,.ref 334,.none,0⟩,⟨[]⟩⟩
def o336 (P : Params) : Obj := ⟨.type t2,.none,.seq ⟨[]⟩ 0,⟨[]⟩⟩
def o337 (P : Params) : Obj := ⟨.none,.none,.fields ⟨[]⟩,⟨[]⟩⟩
def o338 (P : Params) : Obj := ⟨.type t2,.none,.seq ⟨[.str z127 640,.str z128 641,.str z125 642,.str z129 643,.str z130 644,.str z131 645,.str z132 646,.str z122 647,.str z124 648]⟩ 0,⟨[]⟩⟩
def o339 (P : Params) : Obj := ⟨.type t2,.none,.seq ⟨[]⟩ 0,⟨[]⟩⟩
def o340 (P : Params) : Obj := ⟨.none,.none,.func ⟨z59,z59,L2.defArgs (tt 57),.stmts (L2.defBody (tt 57)),L2.defScope (tt 57),0,[],.none,.none,.none,.none,.none,.none,.none,0⟩,⟨[]⟩⟩
def o341 (P : Params) : Obj := ⟨.type t3,.none,.fields ⟨[.str z59 637,.str z59 638,.str z9 639,.int 241 0,.int 2 0,.int 0 0,.int 0 0,.int 3 0,.ref 336,.bool true,.int 181 0,.ref 337,.none,.ref 338,.ref 339,.ref 340,.int 649 0,.int 241 0,.str z9 650]⟩,⟨[]⟩⟩
def o342 (P : Params) : Obj := ⟨.type t17,.none,.func ⟨z59,z59,L2.defArgs (tt 57),.stmts (L2.defBody (tt 57)),L2.defScope (tt 57),3,[],.none,.none,.none,.str z1 594,.none,.ref 341,.none,0⟩,⟨[]⟩⟩
def o343 (P : Params) : Obj := ⟨.type t2,.none,.seq ⟨[]⟩ 0,⟨[]⟩⟩
def o344 (P : Params) : Obj := ⟨.none,.none,.fields ⟨[]⟩,⟨[]⟩⟩
def o345 (P : Params) : Obj := ⟨.none,.none,.func ⟨z60,z60,L2.defArgs (tt 58),.stmts (L2.defBody (tt 58)),L2.defScope (tt 58),0,[],.none,.none,.none,.none,.none,.none,.none,0⟩,⟨[]⟩⟩
def o346 (P : Params) : Obj := ⟨.type t3,.none,.fields ⟨[.str z60 652,.str z60 653,.str z9 654,.int 250 0,.int 4 0,.int 0 0,.int 0 0,.int 3 0,.ref 343,.bool true,.int 181 0,.ref 344,.none,.none,.none,.ref 345,.int 655 0,.int 250 0,.str z9 656]⟩,⟨[]⟩⟩
def o347 (P : Params) : Obj := ⟨.type t17,.none,.func ⟨z60,z60,L2.defArgs (tt 58),.stmts (L2.defBody (tt 58)),L2.defScope (tt 58),3,[],.none,.none,.none,.str z1 594,.none,.ref 346,.none,0⟩,⟨[]⟩⟩
def o348 (P : Params) : Obj := ⟨.type t2,.none,.seq ⟨[]⟩ 0,⟨[]⟩⟩
def o349 (P : Params) : Obj := ⟨.none,.none,.fields ⟨[]⟩,⟨[]⟩⟩
def o350 (P : Params) : Obj := ⟨.none,.none,.func ⟨z61,z61,L2.defArgs (tt 59),.stmts (L2.defBody (tt 59)),L2.defScope (tt 59),0,[],.none,.none,.none,.none,.none,.none,.none,0⟩,⟨[]⟩⟩
def o351 (P : Params) : Obj := ⟨.type t3,.none,.fields ⟨[.str z61 658,.str z61 659,.str z9 660,.int 261 0,.int 2 0,.int 0 0,.int 0 0,.int 3 0,.ref 348,.bool true,.int 181 0,.ref 349,.none,.none,.none,.ref 350,.int 661 0,.int 261 0,.str z9 662]⟩,⟨[]⟩⟩
def o352 (P : Params) : Obj := ⟨.type t17,.none,.func ⟨z61,z61,L2.defArgs (tt 59),.stmts (L2.defBody (tt 59)),L2.defScope (tt 59),3,[],.none,.none,.none,.str z1 594,.none,.ref 351,.none,0⟩,⟨[]⟩⟩
def o353 (P : Params) : Obj := ⟨.type t2,.none,.seq ⟨[]⟩ 0,⟨[]⟩⟩
def o354 (P : Params) : Obj := ⟨.none,.none,.fields ⟨[]⟩,⟨[]⟩⟩
def o355 (P : Params) : Obj := ⟨.type t2,.none,.seq ⟨[.str z133 667,.str z134 668,.str z135 669]⟩ 0,⟨[]⟩⟩
def o356 (P : Params) : Obj := ⟨.type t2,.none,.seq ⟨[]⟩ 0,⟨[]⟩⟩
def o357 (P : Params) : Obj := ⟨.none,.none,.func ⟨z62,z62,L2.defArgs (tt 60),.stmts (L2.defBody (tt 60)),L2.defScope (tt 60),0,[],.none,.none,.none,.none,.none,.none,.none,0⟩,⟨[]⟩⟩
def o358 (P : Params) : Obj := ⟨.type t3,.none,.fields ⟨[.str z62 664,.str z62 665,.str z9 666,.int 267 0,.int 3 0,.int 0 0,.int 0 0,.int 3 0,.ref 353,.bool true,.int 181 0,.ref 354,.none,.ref 355,.ref 356,.ref 357,.int 670 0,.int 267 0,.str z9 671]⟩,⟨[]⟩⟩
def o359 (P : Params) : Obj := ⟨.type t17,.none,.func ⟨z62,z62,L2.defArgs (tt 60),.stmts (L2.defBody (tt 60)),L2.defScope (tt 60),3,[],.none,.none,.none,.str z1 594,.none,.ref 358,.none,0⟩,⟨[]⟩⟩
def o360 (P : Params) : Obj := ⟨.type t2,.none,.seq ⟨[]⟩ 0,⟨[]⟩⟩
def o361 (P : Params) : Obj := ⟨.none,.none,.fields ⟨[]⟩,⟨[]⟩⟩
def o362 (P : Params) : Obj := ⟨.none,.none,.func ⟨z63,z63,L2.defArgs (tt 61),.stmts (L2.defBody (tt 61)),L2.defScope (tt 61),0,[],.none,.none,.none,.none,.none,.none,.none,0⟩,⟨[]⟩⟩
def o363 (P : Params) : Obj := ⟨.type t3,.none,.fields ⟨[.str z63 673,.str z63 674,.str z9 675,.int 271 0,.int 4 0,.int 0 0,.int 0 0,.int 3 0,.ref 360,.bool true,.int 181 0,.ref 361,.none,.none,.none,.ref 362,.int 676 0,.int 271 0,.str z9 677]⟩,⟨[]⟩⟩
def o364 (P : Params) : Obj := ⟨.type t17,.none,.func ⟨z63,z63,L2.defArgs (tt 61),.stmts (L2.defBody (tt 61)),L2.defScope (tt 61),3,[],.none,.none,.none,.str z1 594,.none,.ref 363,.none,0⟩,⟨[]⟩⟩
def o365 (P : Params) : Obj := ⟨.type t2,.none,.seq ⟨[]⟩ 0,⟨[]⟩⟩
def o366 (P : Params) : Obj := ⟨.none,.none,.fields ⟨[]⟩,⟨[]⟩⟩
def o367 (P : Params) : Obj := ⟨.none,.none,.func ⟨z64,z64,L2.defArgs (tt 62),.stmts (L2.defBody (tt 62)),L2.defScope (tt 62),0,[],.none,.none,.none,.none,.none,.none,.none,0⟩,⟨[]⟩⟩
def o368 (P : Params) : Obj := ⟨.type t3,.none,.fields ⟨[.str z64 679,.str z64 680,.str z9 681,.int 280 0,.int 1 0,.int 0 0,.int 0 0,.int 3 0,.ref 365,.bool true,.int 181 0,.ref 366,.none,.none,.none,.ref 367,.int 682 0,.int 280 0,.str z9 683]⟩,⟨[]⟩⟩
def o369 (P : Params) : Obj := ⟨.type t17,.none,.func ⟨z64,z64,L2.defArgs (tt 62),.stmts (L2.defBody (tt 62)),L2.defScope (tt 62),3,[],.none,.none,.none,.str z1 594,.none,.ref 368,.none,0⟩,⟨[]⟩⟩
def TF (P : Params) : BT := (nd (PySem.W.boot_o_0 P) (nd (PySem.W.boot_o_1 P) (nd (o3 P) (nd (PySem.W.boot_o_7 P) (nd (o15 P) (nd (o31 P) (nd (o63 P) (nd (o127 P) (nd (o255 P) e e) e) (nd (o191 P) (nd (o319 P) e e) e)) (nd (o95 P) (nd (o159 P) (nd (o287 P) e e) e) (nd (o223 P) (nd (o351 P) e e) e))) (nd (o47 P) (nd (o79 P) (nd (o143 P) (nd (o271 P) e e) e) (nd (o207 P) (nd (o335 P) e e) e)) (nd (o111 P) (nd (o175 P) (nd (o303 P) e e) e) (nd (o239 P) (nd (o367 P) e e) e)))) (nd (o23 P) (nd (o39 P) (nd (o71 P) (nd (o135 P) (nd (o263 P) e e) e) (nd (o199 P) (nd (o327 P) e e) e)) (nd (o103 P) (nd (o167 P) (nd (o295 P) e e) e) (nd (o231 P) (nd (o359 P) e e) e))) (nd (o55 P) (nd (o87 P) (nd (o151 P) (nd (o279 P) e e) e) (nd (o215 P) (nd (o343 P) e e) e)) (nd (o119 P) (nd (o183 P) (nd (o311 P) e e) e) (nd (o247 P) e e))))) (nd (o11 P) (nd (o19 P) (nd (o35 P) (nd (o67 P) (nd (o131 P) (nd (o259 P) e e) e) (nd (o195 P) (nd (o323 P) e e) e)) (nd (o99 P) (nd (o163 P) (nd (o291 P) e e) e) (nd (o227 P) (nd (o355 P) e e) e))) (nd (o51 P) (nd (o83 P) (nd (o147 P) (nd (o275 P) e e) e) (nd (o211 P) (nd (o339 P) e e) e)) (nd (o115 P) (nd (o179 P) (nd (o307 P) e e) e) (nd (o243 P) e e)))) (nd (o27 P) (nd (o43 P) (nd (o75 P) (nd (o139 P) (nd (o267 P) e e) e) (nd (o203 P) (nd (o331 P) e e) e)) (nd (o107 P) (nd (o171 P) (nd (o299 P) e e) e) (nd (o235 P) (nd (o363 P) e e) e))) (nd (o59 P) (nd (o91 P) (nd (o155 P) (nd (o283 P) e e) e) (nd (o219 P) (nd (o347 P) e e) e)) (nd (o123 P) (nd (o187 P) (nd (o315 P) e e) e) (nd (o251 P) e e)))))) (nd (PySem.W.boot_o_5 P) (nd (PySem.W.boot_o_9 P) (nd (o17 P) (nd (o33 P) (nd (o65 P) (nd (o129 P) (nd (o257 P) e e) e) (nd (o193 P) (nd (o321 P) e e) e)) (nd (o97 P) (nd (o161 P) (nd (o289 P) e e) e) (nd (o225 P) (nd (o353 P) e e) e))) (nd (o49 P) (nd (o81 P) (nd (o145 P) (nd (o273 P) e e) e) (nd (o209 P) (nd (o337 P) e e) e)) (nd (o113 P) (nd (o177 P) (nd (o305 P) e e) e) (nd (o241 P) (nd (o369 P) e e) e)))) (nd (o25 P) (nd (o41 P) (nd (o73 P) (nd (o137 P) (nd (o265 P) e e) e) (nd (o201 P) (nd (o329 P) e e) e)) (nd (o105 P) (nd (o169 P) (nd (o297 P) e e) e) (nd (o233 P) (nd (o361 P) e e) e))) (nd (o57 P) (nd (o89 P) (nd (o153 P) (nd (o281 P) e e) e) (nd (o217 P) (nd (o345 P) e e) e)) (nd (o121 P) (nd (o185 P) (nd (o313 P) e e) e) (nd (o249 P) e e))))) (nd (o13 P) (nd (o21 P) (nd (o37 P) (nd (o69 P) (nd (o133 P) (nd (o261 P) e e) e) (nd (o197 P) (nd (o325 P) e e) e)) (nd (o101 P) (nd (o165 P) (nd (o293 P) e e) e) (nd (o229 P) (nd (o357 P) e e) e))) (nd (o53 P) (nd (o85 P) (nd (o149 P) (nd (o277 P) e e) e) (nd (o213 P) (nd (o341 P) e e) e)) (nd (o117 P) (nd (o181 P) (nd (o309 P) e e) e) (nd (o245 P) e e)))) (nd (o29 P) (nd (o45 P) (nd (o77 P) (nd (o141 P) (nd (o269 P) e e) e) (nd (o205 P) (nd (o333 P) e e) e)) (nd (o109 P) (nd (o173 P) (nd (o301 P) e e) e) (nd (o237 P) (nd (o365 P) e e) e))) (nd (o61 P) (nd (o93 P) (nd (o157 P) (nd (o285 P) e e) e) (nd (o221 P) (nd (o349 P) e e) e)) (nd (o125 P) (nd (o189 P) (nd (o317 P) e e) e) (nd (o253 P) e e))))))) (nd (PySem.W.boot_o_2 P) (nd (PySem.W.boot_o_4 P) (nd (PySem.W.boot_o_8 P) (nd (o16 P) (nd (o32 P) (nd (o64 P) (nd (o128 P) (nd (o256 P) e e) e) (nd (o192 P) (nd (o320 P) e e) e)) (nd (o96 P) (nd (o160 P) (nd (o288 P) e e) e) (nd (o224 P) (nd (o352 P) e e) e))) (nd (o48 P) (nd (o80 P) (nd (o144 P) (nd (o272 P) e e) e) (nd (o208 P) (nd (o336 P) e e) e)) (nd (o112 P) (nd (o176 P) (nd (o304 P) e e) e) (nd (o240 P) (nd (o368 P) e e) e)))) (nd (o24 P) (nd (o40 P) (nd (o72 P) (nd (o136 P) (nd (o264 P) e e) e) (nd (o200 P) (nd (o328 P) e e) e)) (nd (o104 P) (nd (o168 P) (nd (o296 P) e e) e) (nd (o232 P) (nd (o360 P) e e) e))) (nd (o56 P) (nd (o88 P) (nd (o152 P) (nd (o280 P) e e) e) (nd (o216 P) (nd (o344 P) e e) e)) (nd (o120 P) (nd (o184 P) (nd (o312 P) e e) e) (nd (o248 P) e e))))) (nd (o12 P) (nd (o20 P) (nd (o36 P) (nd (o68 P) (nd (o132 P) (nd (o260 P) e e) e) (nd (o196 P) (nd (o324 P) e e) e)) (nd (o100 P) (nd (o164 P) (nd (o292 P) e e) e) (nd (o228 P) (nd (o356 P) e e) e))) (nd (o52 P) (nd (o84 P) (nd (o148 P) (nd (o276 P) e e) e) (nd (o212 P) (nd (o340 P) e e) e)) (nd (o116 P) (nd (o180 P) (nd (o308 P) e e) e) (nd (o244 P) e e)))) (nd (o28 P) (nd (o44 P) (nd (o76 P) (nd (o140 P) (nd (o268 P) e e) e) (nd (o204 P) (nd (o332 P) e e) e)) (nd (o108 P) (nd (o172 P) (nd (o300 P) e e) e) (nd (o236 P) (nd (o364 P) e e) e))) (nd (o60 P) (nd (o92 P) (nd (o156 P) (nd (o284 P) e e) e) (nd (o220 P) (nd (o348 P) e e) e)) (nd (o124 P) (nd (o188 P) (nd (o316 P) e e) e) (nd (o252 P) e e)))))) (nd (PySem.W.boot_o_6 P) (nd (PySem.W.boot_o_10 P) (nd (o18 P) (nd (o34 P) (nd (o66 P) (nd (o130 P) (nd (o258 P) e e) e) (nd (o194 P) (nd (o322 P) e e) e)) (nd (o98 P) (nd (o162 P) (nd (o290 P) e e) e) (nd (o226 P) (nd (o354 P) e e) e))) (nd (o50 P) (nd (o82 P) (nd (o146 P) (nd (o274 P) e e) e) (nd (o210 P) (nd (o338 P) e e) e)) (nd (o114 P) (nd (o178 P) (nd (o306 P) e e) e) (nd (o242 P) e e)))) (nd (o26 P) (nd (o42 P) (nd (o74 P) (nd (o138 P) (nd (o266 P) e e) e) (nd (o202 P) (nd (o330 P) e e) e)) (nd (o106 P) (nd (o170 P) (nd (o298 P) e e) e) (nd (o234 P) (nd (o362 P) e e) e))) (nd (o58 P) (nd (o90 P) (nd (o154 P) (nd (o282 P) e e) e) (nd (o218 P) (nd (o346 P) e e) e)) (nd (o122 P) (nd (o186 P) (nd (o314 P) e e) e) (nd (o250 P) e e))))) (nd (o14 P) (nd (o22 P) (nd (o38 P) (nd (o70 P) (nd (o134 P) (nd (o262 P) e e) e) (nd (o198 P) (nd (o326 P) e e) e)) (nd (o102 P) (nd (o166 P) (nd (o294 P) e e) e) (nd (o230 P) (nd (o358 P) e e) e))) (nd (o54 P) (nd (o86 P) (nd (o150 P) (nd (o278 P) e e) e) (nd (o214 P) (nd (o342 P) e e) e)) (nd (o118 P) (nd (o182 P) (nd (o310 P) e e) e) (nd (o246 P) e e)))) (nd (o30 P) (nd (o46 P) (nd (o78 P) (nd (o142 P) (nd (o270 P) e e) e) (nd (o206 P) (nd (o334 P) e e) e)) (nd (o110 P) (nd (o174 P) (nd (o302 P) e e) e) (nd (o238 P) (nd (o366 P) e e) e))) (nd (o62 P) (nd (o94 P) (nd (o158 P) (nd (o286 P) e e) e) (nd (o222 P) (nd (o350 P) e e) e)) (nd (o126 P) (nd (o190 P) (nd (o318 P) e e) e) (nd (o254 P) e e))))))))
def HF (P : Params) : Heap := ⟨⟨[PySem.W.boot_o_0 P,PySem.W.boot_o_1 P,PySem.W.boot_o_2 P,o3 P,PySem.W.boot_o_4 P,PySem.W.boot_o_5 P,PySem.W.boot_o_6 P,PySem.W.boot_o_7 P,PySem.W.boot_o_8 P,PySem.W.boot_o_9 P,PySem.W.boot_o_10 P,o11 P,o12 P,o13 P,o14 P,o15 P,o16 P,o17 P,o18 P,o19 P,o20 P,o21 P,o22 P,o23 P,o24 P,o25 P,o26 P,o27 P,o28 P,o29 P,o30 P,o31 P,o32 P,o33 P,o34 P,o35 P,o36 P,o37 P,o38 P,o39 P,o40 P,o41 P,o42 P,o43 P,o44 P,o45 P,o46 P,o47 P,o48 P,o49 P,o50 P,o51 P,o52 P,o53 P,o54 P,o55 P,o56 P,o57 P,o58 P,o59 P,o60 P,o61 P,o62 P,o63 P,o64 P,o65 P,o66 P,o67 P,o68 P,o69 P,o70 P,o71 P,o72 P,o73 P,o74 P,o75 P,o76 P,o77 P,o78 P,o79 P,o80 P,o81 P,o82 P,o83 P,o84 P,o85 P,o86 P,o87 P,o88 P,o89 P,o90 P,o91 P,o92 P,o93 P,o94 P,o95 P,o96 P,o97 P,o98 P,o99 P,o100 P,o101 P,o102 P,o103 P,o104 P,o105 P,o106 P,o107 P,o108 P,o109 P,o110 P,o111 P,o112 P,o113 P,o114 P,o115 P,o116 P,o117 P,o118 P,o119 P,o120 P,o121 P,o122 P,o123 P,o124 P,o125 P,o126 P,o127 P,o128 P,o129 P,o130 P,o131 P,o132 P,o133 P,o134 P,o135 P,o136 P,o137 P,o138 P,o139 P,o140 P,o141 P,o142 P,o143 P,o144 P,o145 P,o146 P,o147 P,o148 P,o149 P,o150 P,o151 P,o152 P,o153 P,o154 P,o155 P,o156 P,o157 P,o158 P,o159 P,o160 P,o161 P,o162 P,o163 P,o164 P,o165 P,o166 P,o167 P,o168 P,o169 P,o170 P,o171 P,o172 P,o173 P,o174 P,o175 P,o176 P,o177 P,o178 P,o179 P,o180 P,o181 P,o182 P,o183 P,o184 P,o185 P,o186 P,o187 P,o188 P,o189 P,o190 P,o191 P,o192 P,o193 P,o194 P,o195 P,o196 P,o197 P,o198 P,o199 P,o200 P,o201 P,o202 P,o203 P,o204 P,o205 P,o206 P,o207 P,o208 P,o209 P,o210 P,o211 P,o212 P,o213 P,o214 P,o215 P,o216 P,o217 P,o218 P,o219 P,o220 P,o221 P,o222 P,o223 P,o224 P,o225 P,o226 P,o227 P,o228 P,o229 P,o230 P,o231 P,o232 P,o233 P,o234 P,o235 P,o236 P,o237 P,o238 P,o239 P,o240 P,o241 P,o242 P,o243 P,o244 P,o245 P,o246 P,o247 P,o248 P,o249 P,o250 P,o251 P,o252 P,o253 P,o254 P,o255 P,o256 P,o257 P,o258 P,o259 P,o260 P,o261 P,o262 P,o263 P,o264 P,o265 P,o266 P,o267 P,o268 P,o269 P,o270 P,o271 P,o272 P,o273 P,o274 P,o275 P,o276 P,o277 P,o278 P,o279 P,o280 P,o281 P,o282 P,o283 P,o284 P,o285 P,o286 P,o287 P,o288 P,o289 P,o290 P,o291 P,o292 P,o293 P,o294 P,o295 P,o296 P,o297 P,o298 P,o299 P,o300 P,o301 P,o302 P,o303 P,o304 P,o305 P,o306 P,o307 P,o308 P,o309 P,o310 P,o311 P,o312 P,o313 P,o314 P,o315 P,o316 P,o317 P,o318 P,o319 P,o320 P,o321 P,o322 P,o323 P,o324 P,o325 P,o326 P,o327 P,o328 P,o329 P,o330 P,o331 P,o332 P,o333 P,o334 P,o335 P,o336 P,o337 P,o338 P,o339 P,o340 P,o341 P,o342 P,o343 P,o344 P,o345 P,o346 P,o347 P,o348 P,o349 P,o350 P,o351 P,o352 P,o353 P,o354 P,o355 P,o356 P,o357 P,o358 P,o359 P,o360 P,o361 P,o362 P,o363 P,o364 P,o365 P,o366 P,o367 P,o368 P,o369 P]⟩,{}⟩
def K (P : Params) : Frag := (nat_lit 0,PySem.W.boot_o_0 P)::(nat_lit 1,PySem.W.boot_o_1 P)::(nat_lit 2,PySem.W.boot_o_2 P)::(nat_lit 3,o3 P)::(nat_lit 4,PySem.W.boot_o_4 P)::(nat_lit 5,PySem.W.boot_o_5 P)::(nat_lit 6,PySem.W.boot_o_6 P)::(nat_lit 7,PySem.W.boot_o_7 P)::(nat_lit 8,PySem.W.boot_o_8 P)::(nat_lit 9,PySem.W.boot_o_9 P)::(nat_lit 10,PySem.W.boot_o_10 P)::(nat_lit 11,o11 P)::(nat_lit 12,o12 P)::(nat_lit 13,o13 P)::(nat_lit 14,o14 P)::(nat_lit 15,o15 P)::(nat_lit 22,o22 P)::(nat_lit 23,o23 P)::(nat_lit 24,o24 P)::(nat_lit 25,o25 P)::(nat_lit 28,o28 P)::(nat_lit 35,o35 P)::(nat_lit 36,o36 P)::(nat_lit 37,o37 P)::(nat_lit 40,o40 P)::(nat_lit 47,o47 P)::(nat_lit 48,o48 P)::(nat_lit 49,o49 P)::(nat_lit 52,o52 P)::(nat_lit 59,o59 P)::(nat_lit 60,o60 P)::(nat_lit 61,o61 P)::(nat_lit 64,o64 P)::(nat_lit 71,o71 P)::(nat_lit 72,o72 P)::(nat_lit 73,o73 P)::(nat_lit 76,o76 P)::(nat_lit 77,o77 P)::(nat_lit 78,o78 P)::(nat_lit 79,o79 P)::(nat_lit 80,o80 P)::(nat_lit 81,o81 P)::(nat_lit 82,o82 P)::(nat_lit 83,o83 P)::(nat_lit 84,o84 P)::(nat_lit 85,o85 P)::(nat_lit 86,o86 P)::(nat_lit 87,o87 P)::(nat_lit 88,o88 P)::(nat_lit 89,o89 P)::(nat_lit 90,o90 P)::(nat_lit 91,o91 P)::(nat_lit 92,o92 P)::(nat_lit 93,o93 P)::(nat_lit 94,o94 P)::(nat_lit 95,o95 P)::(nat_lit 96,o96 P)::(nat_lit 97,o97 P)::(nat_lit 98,o98 P)::(nat_lit 99,o99 P)::(nat_lit 100,o100 P)::(nat_lit 101,o101 P)::(nat_lit 102,o102 P)::(nat_lit 103,o103 P)::(nat_lit 104,o104 P)::(nat_lit 105,o105 P)::(nat_lit 106,o106 P)::(nat_lit 107,o107 P)::(nat_lit 108,o108 P)::(nat_lit 109,o109 P)::(nat_lit 110,o110 P)::(nat_lit 111,o111 P)::(nat_lit 112,o112 P)::(nat_lit 113,o113 P)::(nat_lit 114,o114 P)::(nat_lit 115,o115 P)::(nat_lit 116,o116 P)::(nat_lit 117,o117 P)::(nat_lit 118,o118 P)::(nat_lit 119,o119 P)::(nat_lit 120,o120 P)::(nat_lit 121,o121 P)::(nat_lit 122,o122 P)::(nat_lit 123,o123 P)::(nat_lit 124,o124 P)::(nat_lit 125,o125 P)::(nat_lit 126,o126 P)::(nat_lit 127,o127 P)::(nat_lit 128,o128 P)::(nat_lit 129,o129 P)::(nat_lit 130,o130 P)::(nat_lit 131,o131 P)::(nat_lit 132,o132 P)::(nat_lit 133,o133 P)::(nat_lit 134,o134 P)::(nat_lit 135,o135 P)::(nat_lit 136,o136 P)::(nat_lit 137,o137 P)::(nat_lit 138,o138 P)::(nat_lit 139,o139 P)::(nat_lit 140,o140 P)::(nat_lit 141,o141 P)::(nat_lit 142,o142 P)::(nat_lit 143,o143 P)::(nat_lit 144,o144 P)::(nat_lit 145,o145 P)::(nat_lit 146,o146 P)::(nat_lit 147,o147 P)::(nat_lit 148,o148 P)::(nat_lit 149,o149 P)::(nat_lit 150,o150 P)::(nat_lit 151,o151 P)::(nat_lit 152,o152 P)::(nat_lit 153,o153 P)::(nat_lit 154,o154 P)::(nat_lit 155,o155 P)::(nat_lit 156,o156 P)::(nat_lit 157,o157 P)::(nat_lit 158,o158 P)::(nat_lit 159,o159 P)::(nat_lit 160,o160 P)::(nat_lit 161,o161 P)::(nat_lit 162,o162 P)::(nat_lit 163,o163 P)::(nat_lit 164,o164 P)::(nat_lit 165,o165 P)::(nat_lit 166,o166 P)::(nat_lit 167,o167 P)::(nat_lit 168,o168 P)::(nat_lit 169,o169 P)::(nat_lit 170,o170 P)::(nat_lit 171,o171 P)::(nat_lit 172,o172 P)::(nat_lit 173,o173 P)::(nat_lit 174,o174 P)::(nat_lit 175,o175 P)::(nat_lit 176,o176 P)::(nat_lit 177,o177 P)::(nat_lit 178,o178 P)::(nat_lit 179,o179 P)::(nat_lit 180,o180 P)::(nat_lit 181,o181 P)::(nat_lit 182,o182 P)::(nat_lit 183,o183 P)::(nat_lit 184,o184 P)::(nat_lit 185,o185 P)::(nat_lit 186,o186 P)::(nat_lit 187,o187 P)::(nat_lit 188,o188 P)::(nat_lit 189,o189 P)::(nat_lit 190,o190 P)::(nat_lit 191,o191 P)::(nat_lit 192,o192 P)::(nat_lit 193,o193 P)::(nat_lit 194,o194 P)::(nat_lit 195,o195 P)::(nat_lit 196,o196 P)::(nat_lit 197,o197 P)::(nat_lit 198,o198 P)::(nat_lit 199,o199 P)::(nat_lit 200,o200 P)::(nat_lit 201,o201 P)::(nat_lit 202,o202 P)::(nat_lit 203,o203 P)::(nat_lit 204,o204 P)::(nat_lit 205,o205 P)::(nat_lit 206,o206 P)::(nat_lit 207,o207 P)::(nat_lit 208,o208 P)::(nat_lit 209,o209 P)::(nat_lit 210,o210 P)::(nat_lit 211,o211 P)::(nat_lit 212,o212 P)::(nat_lit 213,o213 P)::(nat_lit 214,o214 P)::(nat_lit 215,o215 P)::(nat_lit 216,o216 P)::(nat_lit 217,o217 P)::(nat_lit 218,o218 P)::(nat_lit 219,o219 P)::(nat_lit 220,o220 P)::(nat_lit 221,o221 P)::(nat_lit 222,o222 P)::(nat_lit 223,o223 P)::(nat_lit 224,o224 P)::(nat_lit 225,o225 P)::(nat_lit 226,o226 P)::(nat_lit 227,o227 P)::(nat_lit 228,o228 P)::(nat_lit 229,o229 P)::(nat_lit 230,o230 P)::(nat_lit 231,o231 P)::(nat_lit 232,o232 P)::(nat_lit 233,o233 P)::(nat_lit 234,o234 P)::(nat_lit 235,o235 P)::(nat_lit 236,o236 P)::(nat_lit 237,o237 P)::(nat_lit 238,o238 P)::(nat_lit 239,o239 P)::(nat_lit 240,o240 P)::(nat_lit 241,o241 P)::(nat_lit 242,o242 P)::(nat_lit 243,o243 P)::(nat_lit 244,o244 P)::(nat_lit 245,o245 P)::(nat_lit 246,o246 P)::(nat_lit 247,o247 P)::(nat_lit 248,o248 P)::(nat_lit 249,o249 P)::(nat_lit 250,o250 P)::(nat_lit 251,o251 P)::(nat_lit 252,o252 P)::(nat_lit 253,o253 P)::(nat_lit 254,o254 P)::(nat_lit 255,o255 P)::(nat_lit 256,o256 P)::(nat_lit 257,o257 P)::(nat_lit 258,o258 P)::(nat_lit 259,o259 P)::(nat_lit 260,o260 P)::(nat_lit 261,o261 P)::(nat_lit 262,o262 P)::(nat_lit 263,o263 P)::(nat_lit 264,o264 P)::(nat_lit 265,o265 P)::(nat_lit 266,o266 P)::(nat_lit 267,o267 P)::(nat_lit 268,o268 P)::(nat_lit 269,o269 P)::(nat_lit 270,o270 P)::(nat_lit 271,o271 P)::(nat_lit 272,o272 P)::(nat_lit 273,o273 P)::(nat_lit 274,o274 P)::(nat_lit 275,o275 P)::(nat_lit 276,o276 P)::(nat_lit 277,o277 P)::(nat_lit 278,o278 P)::(nat_lit 279,o279 P)::(nat_lit 280,o280 P)::(nat_lit 281,o281 P)::(nat_lit 282,o282 P)::(nat_lit 283,o283 P)::(nat_lit 284,o284 P)::(nat_lit 285,o285 P)::(nat_lit 286,o286 P)::(nat_lit 287,o287 P)::(nat_lit 288,o288 P)::(nat_lit 289,o289 P)::(nat_lit 290,o290 P)::(nat_lit 291,o291 P)::(nat_lit 292,o292 P)::(nat_lit 293,o293 P)::(nat_lit 294,o294 P)::(nat_lit 295,o295 P)::(nat_lit 296,o296 P)::(nat_lit 297,o297 P)::(nat_lit 298,o298 P)::(nat_lit 299,o299 P)::(nat_lit 300,o300 P)::(nat_lit 301,o301 P)::(nat_lit 302,o302 P)::(nat_lit 303,o303 P)::(nat_lit 304,o304 P)::(nat_lit 305,o305 P)::(nat_lit 306,o306 P)::(nat_lit 307,o307 P)::(nat_lit 308,o308 P)::(nat_lit 309,o309 P)::(nat_lit 310,o310 P)::(nat_lit 311,o311 P)::(nat_lit 312,o312 P)::(nat_lit 313,o313 P)::(nat_lit 314,o314 P)::(nat_lit 322,o322 P)::(nat_lit 323,o323 P)::(nat_lit 324,o324 P)::(nat_lit 325,o325 P)::(nat_lit 326,o326 P)::(nat_lit 327,o327 P)::(nat_lit 328,o328 P)::(nat_lit 329,o329 P)::(nat_lit 330,o330 P)::(nat_lit 331,o331 P)::(nat_lit 332,o332 P)::(nat_lit 333,o333 P)::(nat_lit 334,o334 P)::(nat_lit 335,o335 P)::(nat_lit 336,o336 P)::(nat_lit 337,o337 P)::(nat_lit 338,o338 P)::(nat_lit 339,o339 P)::(nat_lit 340,o340 P)::(nat_lit 341,o341 P)::(nat_lit 342,o342 P)::(nat_lit 343,o343 P)::(nat_lit 344,o344 P)::(nat_lit 345,o345 P)::(nat_lit 346,o346 P)::(nat_lit 347,o347 P)::(nat_lit 348,o348 P)::(nat_lit 349,o349 P)::(nat_lit 350,o350 P)::(nat_lit 351,o351 P)::(nat_lit 352,o352 P)::(nat_lit 353,o353 P)::(nat_lit 354,o354 P)::(nat_lit 355,o355 P)::(nat_lit 356,o356 P)::(nat_lit 357,o357 P)::(nat_lit 358,o358 P)::(nat_lit 359,o359 P)::(nat_lit 360,o360 P)::(nat_lit 361,o361 P)::(nat_lit 362,o362 P)::(nat_lit 363,o363 P)::(nat_lit 364,o364 P)::(nat_lit 365,o365 P)::(nat_lit 366,o366 P)::(nat_lit 367,o367 P)::(nat_lit 368,o368 P)::(nat_lit 369,o369 P)::[]
def as : List Nat := [nat_lit 0,nat_lit 1,nat_lit 2,nat_lit 3,nat_lit 4,nat_lit 5,nat_lit 6,nat_lit 7,nat_lit 8,nat_lit 9,nat_lit 10,nat_lit 11,nat_lit 12,nat_lit 13,nat_lit 14,nat_lit 15,nat_lit 22,nat_lit 23,nat_lit 24,nat_lit 25,nat_lit 28,nat_lit 35,nat_lit 36,nat_lit 37,nat_lit 40,nat_lit 47,nat_lit 48,nat_lit 49,nat_lit 52,nat_lit 59,nat_lit 60,nat_lit 61,nat_lit 64,nat_lit 71,nat_lit 72,nat_lit 73,nat_lit 76,nat_lit 77,nat_lit 78,nat_lit 79,nat_lit 80,nat_lit 81,nat_lit 82,nat_lit 83,nat_lit 84,nat_lit 85,nat_lit 86,nat_lit 87,nat_lit 88,nat_lit 89,nat_lit 90,nat_lit 91,nat_lit 92,nat_lit 93,nat_lit 94,nat_lit 95,nat_lit 96,nat_lit 97,nat_lit 98,nat_lit 99,nat_lit 100,nat_lit 101,nat_lit 102,nat_lit 103,nat_lit 104,nat_lit 105,nat_lit 106,nat_lit 107,nat_lit 108,nat_lit 109,nat_lit 110,nat_lit 111,nat_lit 112,nat_lit 113,nat_lit 114,nat_lit 115,nat_lit 116,nat_lit 117,nat_lit 118,nat_lit 119,nat_lit 120,nat_lit 121,nat_lit 122,nat_lit 123,nat_lit 124,nat_lit 125,nat_lit 126,nat_lit 127,nat_lit 128,nat_lit 129,nat_lit 130,nat_lit 131,nat_lit 132,nat_lit 133,nat_lit 134,nat_lit 135,nat_lit 136,nat_lit 137,nat_lit 138,nat_lit 139,nat_lit 140,nat_lit 141,nat_lit 142,nat_lit 143,nat_lit 144,nat_lit 145,nat_lit 146,nat_lit 147,nat_lit 148,nat_lit 149,nat_lit 150,nat_lit 151,nat_lit 152,nat_lit 153,nat_lit 154,nat_lit 155,nat_lit 156,nat_lit 157,nat_lit 158,nat_lit 159,nat_lit 160,nat_lit 161,nat_lit 162,nat_lit 163,nat_lit 164,nat_lit 165,nat_lit 166,nat_lit 167,nat_lit 168,nat_lit 169,nat_lit 170,nat_lit 171,nat_lit 172,nat_lit 173,nat_lit 174,nat_lit 175,nat_lit 176,nat_lit 177,nat_lit 178,nat_lit 179,nat_lit 180,nat_lit 181,nat_lit 182,nat_lit 183,nat_lit 184,nat_lit 185,nat_lit 186,nat_lit 187,nat_lit 188,nat_lit 189,nat_lit 190,nat_lit 191,nat_lit 192,nat_lit 193,nat_lit 194,nat_lit 195,nat_lit 196,nat_lit 197,nat_lit 198,nat_lit 199,nat_lit 200,nat_lit 201,nat_lit 202,nat_lit 203,nat_lit 204,nat_lit 205,nat_lit 206,nat_lit 207,nat_lit 208,nat_lit 209,nat_lit 210,nat_lit 211,nat_lit 212,nat_lit 213,nat_lit 214,nat_lit 215,nat_lit 216,nat_lit 217,nat_lit 218,nat_lit 219,nat_lit 220,nat_lit 221,nat_lit 222,nat_lit 223,nat_lit 224,nat_lit 225,nat_lit 226,nat_lit 227,nat_lit 228,nat_lit 229,nat_lit 230,nat_lit 231,nat_lit 232,nat_lit 233,nat_lit 234,nat_lit 235,nat_lit 236,nat_lit 237,nat_lit 238,nat_lit 239,nat_lit 240,nat_lit 241,nat_lit 242,nat_lit 243,nat_lit 244,nat_lit 245,nat_lit 246,nat_lit 247,nat_lit 248,nat_lit 249,nat_lit 250,nat_lit 251,nat_lit 252,nat_lit 253,nat_lit 254,nat_lit 255,nat_lit 256,nat_lit 257,nat_lit 258,nat_lit 259,nat_lit 260,nat_lit 261,nat_lit 262,nat_lit 263,nat_lit 264,nat_lit 265,nat_lit 266,nat_lit 267,nat_lit 268,nat_lit 269,nat_lit 270,nat_lit 271,nat_lit 272,nat_lit 273,nat_lit 274,nat_lit 275,nat_lit 276,nat_lit 277,nat_lit 278,nat_lit 279,nat_lit 280,nat_lit 281,nat_lit 282,nat_lit 283,nat_lit 284,nat_lit 285,nat_lit 286,nat_lit 287,nat_lit 288,nat_lit 289,nat_lit 290,nat_lit 291,nat_lit 292,nat_lit 293,nat_lit 294,nat_lit 295,nat_lit 296,nat_lit 297,nat_lit 298,nat_lit 299,nat_lit 300,nat_lit 301,nat_lit 302,nat_lit 303,nat_lit 304,nat_lit 305,nat_lit 306,nat_lit 307,nat_lit 308,nat_lit 309,nat_lit 310,nat_lit 311,nat_lit 312,nat_lit 313,nat_lit 314,nat_lit 322,nat_lit 323,nat_lit 324,nat_lit 325,nat_lit 326,nat_lit 327,nat_lit 328,nat_lit 329,nat_lit 330,nat_lit 331,nat_lit 332,nat_lit 333,nat_lit 334,nat_lit 335,nat_lit 336,nat_lit 337,nat_lit 338,nat_lit 339,nat_lit 340,nat_lit 341,nat_lit 342,nat_lit 343,nat_lit 344,nat_lit 345,nat_lit 346,nat_lit 347,nat_lit 348,nat_lit 349,nat_lit 350,nat_lit 351,nat_lit 352,nat_lit 353,nat_lit 354,nat_lit 355,nat_lit 356,nat_lit 357,nat_lit 358,nat_lit 359,nat_lit 360,nat_lit 361,nat_lit 362,nat_lit 363,nat_lit 364,nat_lit 365,nat_lit 366,nat_lit 367,nat_lit 368,nat_lit 369]
def cut (n : Nat) (t : BT) : Nat → Nat → BT := BT.rec (motive := fun _ => Nat → Nat → BT) (fun _ _ => .nil) (fun v _ _ l r a b => cond (Nat.blt b n) (.node v (l (Nat.mul 2 a) (Nat.add a b)) (r (Nat.mul 2 a) (Nat.add (Nat.mul 2 a) b))) .nil) t
def HA (P : Params) : Heap := ⟨⟨[PySem.W.boot_o_0 P,PySem.W.boot_o_1 P,PySem.W.boot_o_2 P,PySem.W.boot_o_3 P,PySem.W.boot_o_4 P,PySem.W.boot_o_5 P,PySem.W.boot_o_6 P,PySem.W.boot_o_7 P,PySem.W.boot_o_8 P,PySem.W.boot_o_9 P,PySem.W.boot_o_10 P,o11 P,v12_0 P,o13 P,o14 P]⟩,{}⟩
def SA (w : World) (os : OsState) : Shared := ⟨HA w.params,⟨[]⟩,{},187,os⟩
def T1 (P : Params) : BT := ((cut 15 (TF P) 1 0).set 3 fun _ => PySem.W.boot_o_3 P).set 12 fun _ => v12_0 P
def S1 (w : World) (os : OsState) : SharedT := ⟨T1 w.params,15,{},⟨[]⟩,{},187,os⟩
def T2 (P : Params) : BT := (((cut 28 (TF P) 1 0).set 3 fun _ => v3_1 P).set 12 fun _ => v12_2 P).set 24 fun _ => v24_3 P
def S2 (w : World) (os : OsState) : SharedT := ⟨T2 w.params,28,{},⟨[]⟩,{},207,os⟩
def T3 (P : Params) : BT := (((cut 40 (TF P) 1 0).set 3 fun _ => v3_4 P).set 12 fun _ => v12_5 P).set 24 fun _ => v24_6 P
def S3 (w : World) (os : OsState) : SharedT := ⟨T3 w.params,40,{},⟨[]⟩,{},223,os⟩
def T4 (P : Params) : BT := (((cut 52 (TF P) 1 0).set 3 fun _ => v3_7 P).set 12 fun _ => v12_8 P).set 24 fun _ => v24_9 P
def S4 (w : World) (os : OsState) : SharedT := ⟨T4 w.params,52,{},⟨[]⟩,{},239,os⟩
def T5 (P : Params) : BT := (((cut 64 (TF P) 1 0).set 3 fun _ => v3_10 P).set 12 fun _ => v12_11 P).set 24 fun _ => v24_12 P
def S5 (w : World) (os : OsState) : SharedT := ⟨T5 w.params,64,{},⟨[]⟩,{},255,os⟩
def T6 (P : Params) : BT := ((cut 111 (TF P) 1 0).set 3 fun _ => v3_13 P).set 12 fun _ => v12_14 P
def S6 (w : World) (os : OsState) : SharedT := ⟨T6 w.params,111,{},⟨[]⟩,{},322,os⟩
def T7 (P : Params) : BT := ((cut 187 (TF P) 1 0).set 3 fun _ => v3_15 P).set 12 fun _ => v12_16 P
def S7 (w : World) (os : OsState) : SharedT := ⟨T7 w.params,187,{},⟨[]⟩,{},439,os⟩
def T8 (P : Params) : BT := ((cut 261 (TF P) 1 0).set 3 fun _ => v3_17 P).set 12 fun _ => v12_18 P
def S8 (w : World) (os : OsState) : SharedT := ⟨T8 w.params,261,{},⟨[]⟩,{},538,os⟩
def T9 (P : Params) : BT := ((cut 343 (TF P) 1 0).set 3 fun _ => v3_19 P).set 12 fun _ => v12_20 P
def S9 (w : World) (os : OsState) : SharedT := ⟨T9 w.params,343,{},⟨[]⟩,{},652,os⟩
def T10 (P : Params) : BT := cut 370 (TF P) 1 0
def S10 (w : World) (os : OsState) : SharedT := ⟨T10 w.params,370,{},⟨[]⟩,{},685,os⟩
def SF (w : World) (os : OsState) : Shared := ⟨HF w.params,⟨[]⟩,{},685,os⟩
def ann : Option Value := some (.ref 6)
def env : Env := { scope := pwL.main.scope,locals := mainNs,globals := mainNs,cells := [],code := .ref 13,frame := some 14 }
def cE : Code := .body (behindTheImports pwL) env
abbrev BB : List Frame := [topFrame ⟨0,0,0,0⟩]
def q : Program := { pwL with main := { pwL.main with body := [topF 1,topF 2,topF 3,topF 4,topF 5,topF 7,topF 8,topF 9,topF 10,topF 12,topF 13,topF 15,topF 16,topF 17,topF 18,topF 19,topF 20,topF 21,topF 22,topF 23,topF 25,topF 26,topF 27,topF 28,topF 29,topF 30,topF 32,topF 33,topF 34,topF 35,topF 36,topF 37,topF 38,topF 39,topF 41,topF 42,topF 43,topF 45,topF 46,topF 47,topF 48,topF 49,topF 50,topF 52,topF 53,topF 54,topF 55,topF 56,topF 57,topF 58,topF 59,topF 60,topF 61,topF 62] } }
theorem warm2 : ((fun (_ : Env) (_ : Code) (_ : Program) => true) env cE q) = true := by k_qdec
theorem a0 : @segRunT = PySem.W.Fast.tw10110043849684766642 := PySem.W.Fast.te10110043849684766642
theorem a1 : @treeTable = PySem.W.Fast.tw14364793385576792824 := PySem.W.Fast.te14364793385576792824
theorem a2 : @topGo = PySem.W.Fast.tw15667345088766844465 := PySem.W.Fast.te15667345088766844465
theorem a3 : @topRun = PySem.W.Fast.tw14082659384304107361 := PySem.W.Fast.te14082659384304107361
theorem a4 : @segRun = PySem.W.Fast.tw14374325043358763698 := PySem.W.Fast.te14374325043358763698
theorem a5 : @denote = PySem.W.Fast.tw11892475500146522536 := PySem.W.Fast.te11892475500146522536
theorem a6 : @cE = PySem.W.Fast.tw14867018751212050004 := PySem.W.Fast.te14867018751212050004
theorem a7 : @env = PySem.W.Fast.tw4877733545194112743 := PySem.W.Fast.te4877733545194112743
theorem a8 : @q = PySem.W.Fast.tw8808006832572456407 := PySem.W.Fast.te8808006832572456407
theorem a9 : @pwL = PySem.W.Fast.tw402699194096442635 := PySem.W.Fast.te402699194096442635
theorem a10 : @topF = PySem.W.Fast.tw4300429478650921905 := PySem.W.Fast.te4300429478650921905
theorem a11 : @importedModules = PySem.W.Fast.tw5923862056798008813 := PySem.W.Fast.te5923862056798008813
theorem a12 : @openSeen = PySem.W.Fast.tw4187177175401517315 := PySem.W.Fast.te4187177175401517315
theorem a13 : @Heap.nsMap = PySem.W.Fast.tw8920871248978507458 := PySem.W.Fast.te8920871248978507458
set_option maxHeartbeats 0
theorem pre (w : World) (os : OsState) : topGo treeTable pwL w 11 ann 12 ⟨boot_heap w.params,⟨[]⟩,boot_drawn,boot_toks,os⟩ (topStub pwL) = some (SA w os,⟨denote treeTable cE,cE,⟨0,0,0,0⟩,BB⟩) := by
  (try rw [a0]);(try rw [a1]);(try rw [a2]);(try rw [a3]);(try rw [a4]);(try rw [a5]);(try rw [a6]);(try rw [a7]);(try rw [a8]);(try rw [a9]);(try rw [a10]); kernel_rfl
theorem blk (w : World) (os : OsState) : segRun treeTable pwL w 11 ann 1 1 (SA w os) (blockOf (behindTheImports pwL) env cE ⟨0,0,0,0⟩ BB) = some (.next,(S1 w os).abs,cE,⟨0,0,0,0⟩) := by
  (try rw [a0]);(try rw [a1]);(try rw [a2]);(try rw [a3]);(try rw [a4]);(try rw [a5]);(try rw [a6]);(try rw [a7]);(try rw [a8]);(try rw [a9]);(try rw [a10]); kernel_rfl
abbrev c1 : List Stmt := [topF 0,topF 1]
theorem p1 (w : World) (os : OsState) : segRunT treeTable pwL w 11 ann 1 196 (S1 w os) (piecesOf c1 env cE ⟨0,0,0,0⟩ BB) = some (.next,S2 w os,cE,⟨2,0,3,8⟩) := by
  unfold c1; (try rw [a0]);(try rw [a1]);(try rw [a2]);(try rw [a3]);(try rw [a4]);(try rw [a5]);(try rw [a6]);(try rw [a7]);(try rw [a8]);(try rw [a9]);(try rw [a10]); kernel_rfl
abbrev c2 : List Stmt := [topF 2]
theorem p2 (w : World) (os : OsState) : segRunT treeTable pwL w 11 ann 1 214 (S2 w os) (piecesOf c2 env cE ⟨2,0,3,8⟩ BB) = some (.next,S3 w os,cE,⟨4,0,5,8⟩) := by
  unfold c2; (try rw [a0]);(try rw [a1]);(try rw [a2]);(try rw [a3]);(try rw [a4]);(try rw [a5]);(try rw [a6]);(try rw [a7]);(try rw [a8]);(try rw [a9]);(try rw [a10]); kernel_rfl
abbrev c3 : List Stmt := [topF 3]
theorem p3 (w : World) (os : OsState) : segRunT treeTable pwL w 11 ann 1 214 (S3 w os) (piecesOf c3 env cE ⟨4,0,5,8⟩ BB) = some (.next,S4 w os,cE,⟨6,0,7,8⟩) := by
  unfold c3; (try rw [a0]);(try rw [a1]);(try rw [a2]);(try rw [a3]);(try rw [a4]);(try rw [a5]);(try rw [a6]);(try rw [a7]);(try rw [a8]);(try rw [a9]);(try rw [a10]); kernel_rfl
abbrev c4 : List Stmt := [topF 4]
theorem p4 (w : World) (os : OsState) : segRunT treeTable pwL w 11 ann 1 214 (S4 w os) (piecesOf c4 env cE ⟨6,0,7,8⟩ BB) = some (.next,S5 w os,cE,⟨8,0,9,8⟩) := by
  unfold c4; (try rw [a0]);(try rw [a1]);(try rw [a2]);(try rw [a3]);(try rw [a4]);(try rw [a5]);(try rw [a6]);(try rw [a7]);(try rw [a8]);(try rw [a9]);(try rw [a10]); kernel_rfl
abbrev c5 : List Stmt := [topF 5,topF 6,topF 7,topF 8,topF 9,topF 10,topF 11,topF 12]
theorem p5 (w : World) (os : OsState) : segRunT treeTable pwL w 11 ann 1 389 (S5 w os) (piecesOf c5 env cE ⟨8,0,9,8⟩ BB) = some (.next,S6 w os,cE,⟨43,0,47,27⟩) := by
  unfold c5; (try rw [a0]);(try rw [a1]);(try rw [a2]);(try rw [a3]);(try rw [a4]);(try rw [a5]);(try rw [a6]);(try rw [a7]);(try rw [a8]);(try rw [a9]);(try rw [a10]); kernel_rfl
abbrev c6 : List Stmt := [topF 13,topF 14,topF 15,topF 16,topF 17,topF 18,topF 19,topF 20,topF 21,topF 22,topF 23,topF 24,topF 25,topF 26,topF 27]
theorem p6 (w : World) (os : OsState) : segRunT treeTable pwL w 11 ann 1 395 (S6 w os) (piecesOf c6 env cE ⟨43,0,47,27⟩ BB) = some (.next,S7 w os,cE,⟨107,0,114,15⟩) := by
  unfold c6; (try rw [a0]);(try rw [a1]);(try rw [a2]);(try rw [a3]);(try rw [a4]);(try rw [a5]);(try rw [a6]);(try rw [a7]);(try rw [a8]);(try rw [a9]);(try rw [a10]); kernel_rfl
abbrev c7 : List Stmt := [topF 28,topF 29,topF 30,topF 31,topF 32,topF 33,topF 34,topF 35,topF 36,topF 37,topF 38,topF 39,topF 40,topF 41,topF 42]
theorem p7 (w : World) (os : OsState) : segRunT treeTable pwL w 11 ann 1 375 (S7 w os) (piecesOf c7 env cE ⟨107,0,114,15⟩ BB) = some (.next,S8 w os,cE,⟨175,0,179,62⟩) := by
  unfold c7; (try rw [a0]);(try rw [a1]);(try rw [a2]);(try rw [a3]);(try rw [a4]);(try rw [a5]);(try rw [a6]);(try rw [a7]);(try rw [a8]);(try rw [a9]);(try rw [a10]); kernel_rfl
abbrev c8 : List Stmt := [topF 43,topF 44,topF 45,topF 46,topF 47,topF 48,topF 49,topF 50,topF 51,topF 52,topF 53,topF 54,topF 55,topF 56,topF 57]
theorem p8 (w : World) (os : OsState) : segRunT treeTable pwL w 11 ann 1 398 (S8 w os) (piecesOf c8 env cE ⟨175,0,179,62⟩ BB) = some (.next,S9 w os,cE,⟨241,0,249,21⟩) := by
  unfold c8; (try rw [a0]);(try rw [a1]);(try rw [a2]);(try rw [a3]);(try rw [a4]);(try rw [a5]);(try rw [a6]);(try rw [a7]);(try rw [a8]);(try rw [a9]);(try rw [a10]); kernel_rfl
abbrev c9 : List Stmt := [topF 58,topF 59,topF 60,topF 61,topF 62]
theorem p9 (w : World) (os : OsState) : segRunT treeTable pwL w 11 ann 1 136 (S9 w os) (piecesOf c9 env cE ⟨241,0,249,21⟩ BB) = some (.next,S10 w os,cE,⟨280,0,302,147⟩) := by
  unfold c9; (try rw [a0]);(try rw [a1]);(try rw [a2]);(try rw [a3]);(try rw [a4]);(try rw [a5]);(try rw [a6]);(try rw [a7]);(try rw [a8]);(try rw [a9]);(try rw [a10]); kernel_rfl
theorem fin (w : World) (os : OsState) : topRun treeTable pwL w 11 ann 2 (S10 w os).abs ⟨doneF .next,cE,⟨280,0,302,147⟩,BB⟩ = some (SF w os) := by
  (try rw [a0]);(try rw [a1]);(try rw [a2]);(try rw [a3]);(try rw [a4]);(try rw [a5]);(try rw [a6]);(try rw [a7]);(try rw [a8]);(try rw [a9]);(try rw [a10]); kernel_rfl
theorem body : behindTheImports pwL = c1 ++ (c2 ++ (c3 ++ (c4 ++ (c5 ++ (c6 ++ (c7 ++ (c8 ++ (c9 ++ ([]))))))))) := by
  (try rw [a6]);(try rw [a7]);(try rw [a8]);(try rw [a9]);(try rw [a10]); kernel_rfl
theorem run (w : World) (os : OsState) : topRun treeTable pwL w 11 ann (12 + (1 + (196 + (214 + (214 + (214 + (389 + (395 + (375 + (398 + (136 + (2)))))))))))) ⟨boot_heap w.params,⟨[]⟩,boot_drawn,boot_toks,os⟩ (topStub pwL) = some (SF w os) :=
  go_top (pre w os) (piece_block (blk w os) (by rw [body]; exact piece_app (segRun_of (p1 w os)) (piece_app (segRun_of (p2 w os)) (piece_app (segRun_of (p3 w os)) (piece_app (segRun_of (p4 w os)) (piece_app (segRun_of (p5 w os)) (piece_app (segRun_of (p6 w os)) (piece_app (segRun_of (p7 w os)) (piece_app (segRun_of (p8 w os)) (piece_app (segRun_of (p9 w os)) (piece_nil (fin w os))))))))))))
theorem size (w : World) : ((boot_heap w.params).isNs mainGlobals && (Array.mk ([] : List GenState)).size == 0,(boot_heap w.params).objs.size,(boot_heap w.params).nsMap mainGlobals "__annotations__") = (true,11,ann) := by
  (try rw [a11]);(try rw [a12]);(try rw [a13]); kernel_rfl
abbrev Xt (s : Shared) : Bool := xlAt q [] s && recOk [] s
theorem lk1 (w : World) (os : OsState) : (staticsOk (importedModules pwL.main.body) (boot_heap w.params) (HF w.params) && namesBound pwL (HF w.params) && gensDone (SF w os) && laidKept (boot_heap w.params) (HF w.params)) = true := by
  (try rw [a11]);(try rw [a12]);(try rw [a13]);(try rw [a6]);(try rw [a7]);(try rw [a8]);(try rw [a9]);(try rw [a10]); kernel_rfl
theorem lk2 (w : World) (os : OsState) : openSeen q [] (importedModules pwL.main.body) Xt true (SF w os) = openGood q [] := by
  (try rw [a11]);(try rw [a12]);(try rw [a13]);(try rw [a6]);(try rw [a7]);(try rw [a8]);(try rw [a9]);(try rw [a10]); kernel_rfl
theorem lk3 (w : World) (os : OsState) : PySem.W.X.obsZ as (SF w os) = PySem.W.X.valZ K 370 685 w := by
  (try rw [a11]);(try rw [a12]);(try rw [a13]);(try rw [a6]);(try rw [a7]);(try rw [a8]);(try rw [a9]);(try rw [a10]); kernel_rfl
theorem imports : opening pwL = plainProg pwL.main.scope.names := by kernel_rfl
theorem left : LeftO pwL q [] Xt (PySem.W.X.obsZ as) (PySem.W.X.valZ K 370 685) 5170 :=
  LeftO.of_pieces (boot_open imports (by rfl) (fun s => by kernel_rfl)) size run (by rfl) fun w => funext fun os => looks_pair (lk1 w os) (looks_pair (lk2 w os) (lk3 w os))
end
end H
end K59
open PySem PySem.W PyProof.Rows
set_option maxRecDepth 100000 in
set_option maxHeartbeats 0 in
theorem PySem.Challenge.cw_nextbyrule_k59_whole_far_places_come_rou_holds : PySem.Challenge.rw_nextbyrule_k59_whole_far_places_come_rou.Holds := by
  change K59.rwL.Holds
  w_on; o_law; rename_i said
  refine holds_openX (d := ?d) (kwd := ?kwd) K59.H.left (fun s h => xl_of s (Bool.and_eq_true_iff.mp h).1) XL.keeps (by rfl) (by rfl) (by rfl) (fun s h => recFacts_of (Bool.and_eq_true_iff.mp h).2) (by rfl) said (by decide +kernel) ⟨rfl,rfl,rfl,rfl,rfl,by decide +kernel⟩ ?hw ?hc
  case hw => w_witness2
  k_fill
  refine L2.walkX_of (fun _ => by kernel_rfl) ?_
  refine L2.walk_ofB (l := K59.rwL) (n := 63) (k := K59.KLAW) (x := "_law_script") (CX := fun w => L2.Flown K59.rwL.prog w) (sp := fun _ => K59.spLaw _) rfl (by decide) rfl ⟨rfl,by decide,by decide⟩ (fun w h Y => Y) ?F (fun w H a ns hl hb _ hS => ⟨a,ns,rfl,hS,hl,hb,fun _ => rfl⟩) (fun _ _ _ _ _ z => L2.flown_none z)
  case F =>
    intro w mg fa h KX G hmg
    refine' K59.all_mk KX G hmg ?F0 ?F1 ?F2 ?F3 ?F4 ?F5 ?F6 ?F7 ?F8 ?F9 ?F10 ?F11 ?F12 ?F13 ?F14 ?F15 ?F16 ?F17 ?F18 ?F19 ?F20 ?F21 ?F22 ?F23 ?F24 ?F25 ?F26 ?F27 ?F28 ?F29 ?F30 ?F31 ?F32 ?F33 ?F34 ?F35 ?F36 ?F37 ?FL ?z_enumerate ?z_len ?z_list ?z_max ?z_min ?z_range ?z_sum ?z_tuple ?z_zip ?g_BELOW_THE_PRIMES ?g_FARTHEST_BY_0 ?g_MOST_WINDOWS ?n_NoBy ?n_TooLong ?q_NoBy ?w1_NoBy ?w2_NoBy ?w3_NoBy ?w4_NoBy ?w5_NoBy ?w6_NoBy ?k_NoBy_NoBy ?k_NoBy_TooLong ?k_NoBy_ValueError ?q_TooLong ?w1_TooLong ?w2_TooLong ?w3_TooLong ?w4_TooLong ?w5_TooLong ?w6_TooLong ?k_TooLong_NoBy ?k_TooLong_TooLong ?k_TooLong_ValueError
    (case F0 => (refine' L2.fnIn_mk ?a ?l ?c ?k; (case a => k_is); (case l => k_is); (case c => k_is); (case k => k_is)))
    (case F1 => (refine' L2.fnIn_mk ?a ?l ?c ?k; (case a => k_is); (case l => k_is); (case c => k_is); (case k => k_is)))
    (case F2 => (refine' L2.fnIn_mk ?a ?l ?c ?k; (case a => k_is); (case l => k_is); (case c => k_is); (case k => k_is)))
    (case F3 => (refine' L2.fnIn_mk ?a ?l ?c ?k; (case a => k_is); (case l => k_is); (case c => k_is); (case k => k_is)))
    (case F4 => (refine' L2.fnIn_mk ?a ?l ?c ?k; (case a => k_is); (case l => k_is); (case c => k_is); (case k => k_is)))
    (case F5 => (refine' L2.fnIn_mk ?a ?l ?c ?k; (case a => k_is); (case l => k_is); (case c => k_is); (case k => k_is)))
    (case F6 => (refine' L2.fnIn_mk ?a ?l ?c ?k; (case a => k_is); (case l => k_is); (case c => k_is); (case k => k_is)))
    (case F7 => (refine' L2.fnIn_mk ?a ?l ?c ?k; (case a => k_is); (case l => k_is); (case c => k_is); (case k => k_is)))
    (case F8 => (refine' L2.fnIn_mk ?a ?l ?c ?k; (case a => k_is); (case l => k_is); (case c => k_is); (case k => k_is)))
    (case F9 => (refine' L2.fnIn_mk ?a ?l ?c ?k; (case a => k_is); (case l => k_is); (case c => k_is); (case k => k_is)))
    (case F10 => (refine' L2.fnIn_mk ?a ?l ?c ?k; (case a => k_is); (case l => k_is); (case c => k_is); (case k => k_is)))
    (case F11 => (refine' L2.fnIn_mk ?a ?l ?c ?k; (case a => k_is); (case l => k_is); (case c => k_is); (case k => k_is)))
    (case F12 => (refine' L2.fnIn_mk ?a ?l ?c ?k; (case a => k_is); (case l => k_is); (case c => k_is); (case k => k_is)))
    (case F13 => (refine' L2.fnIn_mk ?a ?l ?c ?k; (case a => k_is); (case l => k_is); (case c => k_is); (case k => k_is)))
    (case F14 => (refine' L2.fnIn_mk ?a ?l ?c ?k; (case a => k_is); (case l => k_is); (case c => k_is); (case k => k_is)))
    (case F15 => (refine' L2.fnIn_mk ?a ?l ?c ?k; (case a => k_is); (case l => k_is); (case c => k_is); (case k => k_is)))
    (case F16 => (refine' L2.fnIn_mk ?a ?l ?c ?k; (case a => k_is); (case l => k_is); (case c => k_is); (case k => k_is)))
    (case F17 => (refine' L2.fnIn_mk ?a ?l ?c ?k; (case a => k_is); (case l => k_is); (case c => k_is); (case k => k_is)))
    (case F18 => (refine' L2.fnIn_mk ?a ?l ?c ?k; (case a => k_is); (case l => k_is); (case c => k_is); (case k => k_is)))
    (case F19 => (refine' L2.fnIn_mk ?a ?l ?c ?k; (case a => k_is); (case l => k_is); (case c => k_is); (case k => k_is)))
    (case F20 => (refine' L2.fnIn_mk ?a ?l ?c ?k; (case a => k_is); (case l => k_is); (case c => k_is); (case k => k_is)))
    (case F21 => (refine' L2.fnIn_mk ?a ?l ?c ?k; (case a => k_is); (case l => k_is); (case c => k_is); (case k => k_is)))
    (case F22 => (refine' L2.fnIn_mk ?a ?l ?c ?k; (case a => k_is); (case l => k_is); (case c => k_is); (case k => k_is)))
    (case F23 => (refine' L2.fnIn_mk ?a ?l ?c ?k; (case a => k_is); (case l => k_is); (case c => k_is); (case k => k_is)))
    (case F24 => (refine' L2.fnIn_mk ?a ?l ?c ?k; (case a => k_is); (case l => k_is); (case c => k_is); (case k => k_is)))
    (case F25 => (refine' L2.fnIn_mk ?a ?l ?c ?k; (case a => k_is); (case l => k_is); (case c => k_is); (case k => k_is)))
    (case F26 => (refine' L2.fnIn_mk ?a ?l ?c ?k; (case a => k_is); (case l => k_is); (case c => k_is); (case k => k_is)))
    (case F27 => (refine' L2.fnIn_mk ?a ?l ?c ?k; (case a => k_is); (case l => k_is); (case c => k_is); (case k => k_is)))
    (case F28 => (refine' L2.fnIn_mk ?a ?l ?c ?k; (case a => k_is); (case l => k_is); (case c => k_is); (case k => k_is)))
    (case F29 => (refine' L2.fnIn_mk ?a ?l ?c ?k; (case a => k_is); (case l => k_is); (case c => k_is); (case k => k_is)))
    (case F30 => (refine' L2.fnIn_mk ?a ?l ?c ?k; (case a => k_is); (case l => k_is); (case c => k_is); (case k => k_is)))
    (case F31 => (refine' L2.fnIn_mk ?a ?l ?c ?k; (case a => k_is); (case l => k_is); (case c => k_is); (case k => k_is)))
    (case F32 => (refine' L2.fnIn_mk ?a ?l ?c ?k; (case a => k_is); (case l => k_is); (case c => k_is); (case k => k_is)))
    (case F33 => (refine' L2.fnIn_mk ?a ?l ?c ?k; (case a => k_is); (case l => k_is); (case c => k_is); (case k => k_is)))
    (case F34 => (refine' L2.fnIn_mk ?a ?l ?c ?k; (case a => k_is); (case l => k_is); (case c => k_is); (case k => k_is)))
    (case F35 => (refine' L2.fnIn_mk ?a ?l ?c ?k; (case a => k_is); (case l => k_is); (case c => k_is); (case k => k_is)))
    (case F36 => (refine' L2.fnIn_mk ?a ?l ?c ?k; (case a => k_is); (case l => k_is); (case c => k_is); (case k => k_is)))
    (case F37 => (refine' L2.fnIn_mk ?a ?l ?c ?k; (case a => k_is); (case l => k_is); (case c => k_is); (case k => k_is)))
    (case FL => (refine' L2.fnIn_mk ?a ?l ?c ?k; (case a => k_is); (case l => k_is); (case c => k_is); (case k => k_is)))
    (case z_enumerate => k_is)
    (case z_len => k_is)
    (case z_list => k_is)
    (case z_max => k_is)
    (case z_min => k_is)
    (case z_range => k_is)
    (case z_sum => k_is)
    (case z_tuple => k_is)
    (case z_zip => k_is)
    (case g_BELOW_THE_PRIMES => exact ⟨_,by k_is⟩)
    (case g_FARTHEST_BY_0 => exact ⟨_,by k_is⟩)
    (case g_MOST_WINDOWS => exact ⟨_,by k_is⟩)
    (case n_NoBy => k_is)
    (case n_TooLong => k_is)
    (case q_NoBy => k_exc)
    (case w1_NoBy => k_is)
    (case w2_NoBy => k_is)
    (case w3_NoBy => k_is)
    (case w4_NoBy => k_is)
    (case w5_NoBy => k_is)
    (case w6_NoBy => kernel_rfl)
    (case k_NoBy_NoBy => kit_is)
    (case k_NoBy_TooLong => kit_is)
    (case k_NoBy_ValueError => kit_is)
    (case q_TooLong => k_exc)
    (case w1_TooLong => k_is)
    (case w2_TooLong => k_is)
    (case w3_TooLong => k_is)
    (case w4_TooLong => k_is)
    (case w5_TooLong => k_is)
    (case w6_TooLong => kernel_rfl)
    (case k_TooLong_NoBy => kit_is)
    (case k_TooLong_TooLong => kit_is)
    (case k_TooLong_ValueError => kit_is)
