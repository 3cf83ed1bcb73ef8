import PyProof.Rows.All
import Wide.All
import OpenK.AllK
import Wide.FinOn
import Lean
import PyProof.EqAt
import PyProof.EqKinds
import PyProof.TupleCall
import PySem.Challenge.RW_nextbyrule_k34_numbers_put_ahead
local macro_rules | `(tactic| omega)=>`(tactic| lia)
set_option Elab.async false
set_option linter.all false
set_option maxRecDepth 100000
namespace L2
open PySem PySem.Spec PyProof.Rows
noncomputable abbrev Key:=Sum Int Str
noncomputable def J7:Key->Value->Bool
 |.inl k,v=>Value.isInt k v
 |.inr x,v=>Value.isStrOf x v
noncomputable def V4(w:World):Key->Int
 |.inl k=>hashInt k
 |.inr x=>hashStr w x
theorem cW:∀{k:Key} {v:Value},J7 k v=true->(∃i t,k=Sum.inl i/\v=Value.int i t)∨(∃x t,k=Sum.inr x/\v=Value.str x t)
 |.inl i,v,h=>by
  obtain⟨t,e⟩:=Value.isInt_shape (k:=i) (v:=v) h
  exact .inl ⟨i,t,rfl,e⟩
 |.inr x,v,h=>by
  obtain⟨t,e⟩:=Value.isStrOf_shape (x:=x) (v:=v) h
  exact .inr ⟨x,t,rfl,e⟩
theorem JX(a b:Int):decide ((Sum.inl a:Key)=Sum.inl b)=(a==b):=by
 by_cases e:a=b
 ·subst e;simp
 ·have h:¬(Sum.inl a:Key)=Sum.inl b:=fun q=>e (Sum.inl.inj q)
  rw[decide_eq_false h]
  exact(beq_eq_false_iff_ne.mpr e).symm
theorem JV(a b:Str):decide ((Sum.inr a:Key)=Sum.inr b)=decide (a=b):=by
 by_cases e:a=b
 ·subst e;simp
 ·have h:¬(Sum.inr a:Key)=Sum.inr b:=fun q=>e (Sum.inr.inj q)
  rw[decide_eq_false h,decide_eq_false e]
theorem JL(a:Int)(b:Str):decide ((Sum.inl a:Key)=Sum.inr b)=false:=decide_eq_false (fun q=>nomatch q)
theorem Ji(a:Str)(b:Int):decide ((Sum.inr a:Key)=Sum.inl b)=false:=decide_eq_false (fun q=>nomatch q)
noncomputable def mR(prog:Program)(w:World):PySem.KeyKind prog w Key where
 is:=J7
 hash:=V4 w
 inj:=fun v a b ha hb=>by
  rcases cW ha with⟨i,t,rfl,rfl⟩|⟨x,t,rfl,rfl⟩
  ·rcases cW hb with⟨j,u,rfl,e⟩|⟨y,u,rfl,e⟩
   ·injection e with e1 _;rw[e1]
   ·exact nomatch e
  ·rcases cW hb with⟨j,u,rfl,e⟩|⟨y,u,rfl,e⟩
   ·exact nomatch e
   ·injection e with e1 _;rw[e1]
 byValue:=fun k v h=>by
  rcases cW h with⟨i,t,rfl,rfl⟩|⟨x,t,rfl,rfl⟩<;>rfl
 pyHash:=fun hv h=>by
  rcases cW hv with⟨i,t,rfl,rfl⟩|⟨x,t,rfl,rfl⟩
  ·exact wpAny_pyHash_int h
  ·exact wpAny_pyHash_str h
 eqBool:=fun hu hv h=>by
  rcases cW hu with⟨i,t,rfl,rfl⟩|⟨x,t,rfl,rfl⟩
  ·rcases cW hv with⟨j,u,rfl,rfl⟩|⟨y,u,rfl,rfl⟩
   ·rw[JX]at h;exact wpAny_eqBool_int h
   ·rw[JL]at h;exact SeqAt.EqAt.int_str i t y u _ _ _ _ h
  ·rcases cW hv with⟨j,u,rfl,rfl⟩|⟨y,u,rfl,rfl⟩
   ·rw[Ji]at h;exact SeqAt.EqAt.str_int x t j u _ _ _ _ h
   ·rw[JV]at h;exact wpAny_eqBool_str h
 «strs»:=fun k x t v h=>by
  rcases cW h with⟨i,u,rfl,e⟩|⟨y,u,rfl,e⟩
  ·exact nomatch e
  ·injection e with e1 _
   subst e1
   cases v<;>rfl
end L2
namespace L2
open PySem PySem.Spec PyProof.Rows
inductive V where
 |non|bl (b:Bool)|int (i:Int)|str (x:Str)|byt (b:Array UInt8)|flt (b:UInt64)|ref (a:Addr)|ty (n:String)
 deriving DecidableEq
noncomputable def RelV:V->Value->Prop
 |.non,u=>u=Value.none
 |.bl b,u=>u=Value.bool b
 |.int i,u=>∃t,u=Value.int i t
 |.str x,u=>∃t,u=Value.str x t
 |.byt b,u=>∃t,u=Value.bytes b t
 |.flt b,u=>∃t,u=Value.float b t
 |.ref a,u=>u=Value.ref a
 |.ty n,u=>u=Value.type n
noncomputable abbrev Vals:List V->List Value->Prop:=Paired RelV
theorem Vals.length{xs:List V}{us:List Value}(r:Vals xs us):xs.length=us.length:=Paired.length r
theorem Vals.get:∀{xs:List V} {us:List Value} {i:Nat} {x:V},Vals xs us->xs[i]?=some x->∃u,us[i]?=some u/\RelV x u
 |_,_,_,_,.nil,e=>by simp at e
 |_,_,0,_,.cons r _,e=>by simp at e;subst e;exact⟨_,rfl,r⟩
 |_,_,i+1,x,.cons _ t,e=>by
  obtain⟨u,h1,h2⟩:=Vals.get (i:=i) (x:=x) t (by simpa using e)
  exact⟨u,by simpa using h1,h2⟩
theorem Vals.set{x:V}{u:Value}(r:RelV x u):∀{xs:List V} {us:List Value} (i:Nat),Vals xs us->Vals (xs.set i x) (us.set i u)
 |_,_,_,.nil=> .nil
 |_,_,0,.cons _ t=> .cons r t
 |_,_,i+1,.cons q t=> .cons q (Vals.set r i t)
theorem Vals.append:∀{xs ys:List V} {us ws:List Value},Vals xs us->Vals ys ws->Vals (xs++ys) (us++ws)
 |_,_,_,_,.nil,s=>s
 |_,_,_,_,.cons r t,s=> .cons r (Vals.append t s)
theorem Vals.take:∀{xs:List V} {us:List Value} (n:Nat),Vals xs us->Vals (xs.take n) (us.take n)
 |_,_,0,_=> .nil
 |_,_,_+1,.nil=> .nil
 |_,_,n+1,.cons r t=> .cons r (Vals.take n t)
theorem Vals.drop:∀{xs:List V} {us:List Value} (n:Nat),Vals xs us->Vals (xs.drop n) (us.drop n)
 |_,_,0,r=>r
 |_,_,_+1,.nil=> .nil
 |_,_,n+1,.cons _ t=>Vals.drop n t
noncomputable def Di:Option V->Option Value->Prop
 |some v,some u=>RelV v u
 |none,none=>True
 |_,_=>False
noncomputable def KV{κ:Type}:List (κ×V)->List (κ×Value)->Prop:=Paired fun(p:κ×V) (q:κ×Value)=>p.1=q.1/\RelV p.2 q.2
noncomputable def kV:Key->V
 |.inl i=> .int i
 |.inr x=> .str x
inductive HO where
 /-- a list -/
 |lst (xs:List V)
 /-- a tuple (never changes) -/
 |tup (xs:List V)
 /-- a dict whose keys are ints and texts;one whose keys are tuples of ints and texts (the empty one is both) -/
 |dK (kvs:List (Key×V))|dT (kvs:List (List Key×V))
 /-- a set of ints: its members,its size -/
 |set (S:Int->Bool) (n:Nat)
 /-- an instance of the class at C,its dict at dx,its attributes -/
 |ins (C dx:Addr) (fs:List (Str×V))
 /-- the dict of the instance at x -/
 |own (x:Addr)
 /-- the dict of an exception -/
 |xd (fs:List (Str×V))
 /-- a bound method,f of x -/
 |met (f x:Addr)
 /-- a range object lo,lo+1,.. below hi -/
 |rng (lo hi:Int)
 /-- a thing that is known to the object (the script;a dict while a loop walks it): read,never written while it is so -/
 |frz (o:Obj) (u:HO)
 /-- a code object's table -/
 |tbl (ps:Array Value)
 /-- any other thing,by what is true of its one object (a def of one's own: SetO a S n:=HO.ext fun h=> ..) -/
 |ext (φ:Heap->Prop)
noncomputable abbrev Hp:=Addr->Option HO
noncomputable def upd(H:Hp)(a:Addr)(o:HO):Hp:=fun b=>if b=a then some o else H b
theorem aA{H:Hp}{a:Addr}{o:HO}:upd H a o a=some o:=by unfold upd;rw[if_pos rfl]
theorem bU{H:Hp}{a b:Addr}{o:HO}(h:b≠a):upd H a o b=H b:=by unfold upd;rw[if_neg h]
theorem Ie{H:Hp}{a:Addr}{o u:HO}:upd (upd H a o) a u=upd H a u:=by
 funext b;unfold upd;split<;>rfl
theorem dB{H:Hp}{a b:Addr}{o:HO}(h:H a=some o)(h':H b=none):a≠b:=by
 intro e;subst e;rw[h]at h';cases h'
section
variable (P:Program) (w:World)
noncomputable def fX(H:Hp)(h:Heap)(a:Addr):HO->Prop
 |.lst xs=>xs.length<=sizeLine/\∃(its:List Value) (n:Nat),Vals xs its/\h.get? a=some { cls:= .type "list",data:= .seq its.toArray n }
 |.tup xs=>xs.length<=sizeLine/\∃its:List Value,Vals xs its/\IsTup h a its.toArray
 |.dK kvs=>kvs.length<=sizeLine/\(a==sysModules)=false/\∃vs,KV kvs vs/\h.DictOf (mR P w) a vs
 |.dT kvs=>kvs.length<=sizeLine/\(a==sysModules)=false/\∃xs:List (List Key×Addr×Value),
   Paired (fun(p:List Key×V) (q:List Key×Addr×Value)=>p.1=q.1/\H q.2.1=some (.tup (p.1.map kV))/\RelV p.2 q.2.2) kvs xs/\
   ∃o es ep,h.get? a=some o/\o.ExactDict/\o.data = .dict es ep/\es.toList=xs.map (entryOfKey (tupleKind (mR P w)))/\(xs.map (·.1)).Nodup
 |.set S n=>h.SetOf (intKind P w) a S n
 |.ins C dx fs=>H dx=some (.own a)/\fs.length<=1000/\dx≠a/\h.get? a=some (PySem.W.instObj C dx)/\
   ∃mA,h.Ns1 dx mA/\(∀f,Di (fs.lookup f) (mA f))/\PySem.Within mA (fs.map (·.1))
 |.own _=>∃o,h.get? a=some o
 |.xd fs=>∃mA,h.Ns1 a mA/\∀f,Di (fs.lookup f) (mA f)
 |.rng lo hi=>∃t u v,h.get? a=some { cls:= .type "range",data:= .fields #[.int lo t,.int hi u,.int 1 v] }
 |.frz o u=>h.get? a=some o/\fX H h a u
 |.tbl ps=>h.get? a=some { cls:= .none,data:= .fields ps }
 |.met f x=>h.get? a=some (PySem.W.methodObj (.ref f) (.ref x))
 |.ext φ=>φ h/\(∃o,h.get? a=some o)/\∀h1 h2:Heap,φ h1->(∀o,h1.get? a=some o->h2.get? a=some o)->φ h2
noncomputable def HOk(H:Hp)(h:Heap):Prop:=∀a o,H a=some o->fX P w H h a o
end
section
variable {P:Program} {w:World} {H H':Hp} {h h':Heap} {a:Addr} {o:HO}
theorem fX.lt(x:fX P w H h a o):a<h.objs.size:=by
 cases o with
 |lst xs=>obtain⟨_,_,_,_,e⟩:=x;exact Heap.lt_size e
 |tup xs=>obtain⟨_,_,_,p⟩:=x;exact p.lt
 |dK kvs=>obtain⟨_,_,_,_,o,_,_,e,_⟩:=x;exact Heap.lt_size e
 |dT kvs=>obtain⟨_,_,_,_,o,_,_,e,_⟩:=x;exact Heap.lt_size e
 |set S n=>obtain⟨o,_,_,_,e,_⟩:=x;exact Heap.lt_size e
 |ins C dx fs=>obtain⟨_,_,_,e,_⟩:=x;exact Heap.lt_size e
 |own y=>obtain⟨_,e⟩:=x;exact Heap.lt_size e
 |xd fs=>obtain⟨_,⟨_,_,_,e,_⟩,_⟩:=x;exact Heap.lt_size e
 |rng lo hi=>obtain⟨_,_,_,e⟩:=x;exact Heap.lt_size e
 |frz ob u=>obtain⟨e,_⟩:=x;exact Heap.lt_size e
 |tbl ps=>exact Heap.lt_size (show h.get? a=some _ from x)
 |met f y=>exact Heap.lt_size (show h.get? a=some _ from x)
 |ext φ=>obtain⟨_,⟨_,e⟩,_⟩:=x;exact Heap.lt_size e
theorem Paired.Uy{α β:Type}{F G:α->β->Prop}:∀{l₁:List α} {l₂:List β},Paired F l₁ l₂->(∀a b,F a b->G a b)->Paired G l₁ l₂
 |_,_,.nil,_=> .nil
 |_,_,.cons r t,f=> .cons (f _ _ r) (Paired.Uy t f)
theorem fX.stay(x:fX P w H h a o)(k:∀b u,(b=a∨H b=some (.own a))->h.get? b=some u->h'.get? b=some u)
  (ho:∀b,H b=some (.own a)->H' b=some (.own a)) (ht:∀b xs,H b=some (.tup xs)->H' b=some (.tup xs)):fX P w H' h' a o:=by
 induction o with
 |lst xs=>obtain⟨z,its,n,r,e⟩:=x;exact⟨z,its,n,r,k _ _ (.inl rfl) e⟩
 |tup xs=>obtain⟨z,its,r,ob,e,c⟩:=x;exact⟨z,its,r,ob,k _ _ (.inl rfl) e,c⟩
 |dK kvs=>obtain⟨z,y,vs,r,ob,es,ep,e,c⟩:=x;exact⟨z,y,vs,r,ob,es,ep,k _ _ (.inl rfl) e,c⟩
 |dT kvs=>
  obtain⟨z,y,xs,r,ob,es,ep,e,c⟩:=x
  exact⟨z,y,xs,Paired.Uy r fun p q z=>⟨z.1,ht _ _ z.2.1,z.2.2⟩,ob,es,ep,k _ _ (.inl rfl) e,c⟩
 |set S n=>obtain⟨ob,es,ep,t,e,c⟩:=x;exact⟨ob,es,ep,t,k _ _ (.inl rfl) e,c⟩
 |ins C dx fs=>
  obtain⟨d,z,ne,e,mA,⟨od,es,ep,e2,c⟩,r⟩:=x
  exact⟨ho _ d,z,ne,k _ _ (.inl rfl) e,mA,⟨od,es,ep,k _ _ (.inr d) e2,c⟩,r⟩
 |own y=>obtain⟨ob,e⟩:=x;exact⟨ob,k _ _ (.inl rfl) e⟩
 |xd fs=>obtain⟨mA,⟨od,es,ep,e,c⟩,r⟩:=x;exact⟨mA,⟨od,es,ep,k _ _ (.inl rfl) e,c⟩,r⟩
 |rng lo hi=>obtain⟨t,u,v,e⟩:=x;exact⟨t,u,v,k _ _ (.inl rfl) e⟩
 |frz ob u ih=>obtain⟨e,q⟩:=x;exact⟨k _ _ (.inl rfl) e,ih q⟩
 |tbl ps=>
  have e:h.get? a=some { cls:= .none,data:= .fields ps }:=x
  show h'.get? a=some { cls:= .none,data:= .fields ps }
  exact k a _ (.inl rfl) e
 |met f y=>
  have e:h.get? a=some (PySem.W.methodObj (.ref f) (.ref y)):=x
  show h'.get? a=some (PySem.W.methodObj (.ref f) (.ref y))
  exact k a _ (.inl rfl) e
 |ext φ=>obtain⟨p,⟨o,e⟩,st⟩:=x;exact⟨st _ _ p fun o q=>k _ _ (.inl rfl) q,⟨o,k _ _ (.inl rfl) e⟩,st⟩
theorem HOk.lt(x:HOk P w H h)(e:H a=some o):a<h.objs.size:=(x a o e).lt
theorem HOk.fresh(x:HOk P w H h)(e:h.objs.size<=a):H a=none:=by
 cases q:H a with
 |none=>rfl
 |some u=>exact absurd (Nat.lt_of_lt_of_le (x.lt q) e) (Nat.lt_irrefl _)
theorem HOk.kept(x:HOk P w H h)(k:∀b u,h.get? b=some u->h'.get? b=some u):HOk P w H h':=fun a o e=>
 (x a o e).stay (fun b u _ q=>k b u q) (fun _ q=>q) fun _ _ q=>q
theorem HOk.laid(x:HOk P w H h)(k:∀b u,h.get? b=some u->h'.get? b=some u)(hp:h.objs.size<=a)(new:fX P w (upd H a o) h' a o):HOk P w (upd H a o) h':=fun b u e=>by
 have hn:=x.fresh hp
 by_cases hb:b=a
 ·subst hb;rw[aA]at e;cases e;exact new
 ·rw[bU hb]at e
  exact(x b u e).stay (fun c v _ q=>k c v q) (fun c q=>by rw[bU (dB q hn)];exact q) fun c xs q=>by rw[bU (dB q hn)];exact q
end
noncomputable def Rd(H:Hp)(a:Addr)(u:HO):Prop:=H a=some u∨∃o,H a=some (.frz o u)
theorem Rd.ok{P:Program}{w:World}{H:Hp}{h:Heap}{a:Addr}{u:HO}(r:Rd H a u)(x:HOk P w H h):fX P w H h a u:=by
 rcases r with r|⟨o,r⟩
 ·exact x a u r
 ·obtain⟨_,q⟩:=x a _ r
  exact q
noncomputable def Mut:Option HO->Prop
 |some (.lst _)=>True
 |some (.dK _)=>True
 |some (.dT _)=>True
 |some (.set _ _)=>True
 |some (.ins _ _ _)=>True
 |some (.ext _)=>True
 |_=>False
section
variable {P:Program} {w:World} {H:Hp} {h h':Heap} {x e:Addr} {o':HO}
theorem HOk.write(ok:HOk P w H h)(mu:Mut (H x))(he:e=x∨H e=some (.own x))(k:∀b u,b≠e->h.get? b=some u->h'.get? b=some u)(heo:∃u,h'.get? e=some u)
  (new:fX P w (upd H x o') h' x o'):HOk P w (upd H x o') h':=fun b u q=>by
 have nown:∀c y,H c=some (.own y)->c≠x:=fun c y r z=>by subst z;rw[r]at mu;exact mu
 have ntup:∀c xs,H c=some (.tup xs)->c≠x:=fun c xs r z=>by subst z;rw[r]at mu;exact mu
 by_cases hb:b=x
 ·subst hb;rw[aA]at q;cases q;exact new
 ·rw[bU hb]at q
  by_cases hbe:b=e
  ·have q':H b=some (.own x):=by
    rcases he with z|z
    ·exact absurd (hbe.trans z) hb
    ·rw[hbe];exact z
   rw[q]at q';cases q'
   obtain⟨v,hv⟩:=heo
   exact⟨v,by rw[hbe];exact hv⟩
  ·refine(ok b u q).stay (fun c v hc r=>k c v ?_ r) (fun c r=>by rw[bU (nown c b r)];exact r) fun c xs r=>by rw[bU (ntup c xs r)];exact r
   rcases hc with rfl|hc
   ·exact hbe
   ·rintro rfl
    rcases he with z|z
    ·exact nown c b hc z
    ·rw[hc]at z;cases z;exact hb rfl
end
structure Un(fs ex:List Addr)(H H':Hp)(h h':Heap):Prop where
 keep:∀b o,h.get? b=some o->H b=none->b∉fs->b∉ex->h'.get? b=some o
 slot:∀b o,h.get? b=some o->H b=none->b∈fs->b∉ex->∃sl,h'.get? b=some { o with slots:=sl }
 free:∀b o,h.get? b=some o->H b=none->b∉ex->H' b=none
 there:∀b o,h.get? b=some o->b∉ex->∃o',h'.get? b=some o'
 tups:∀b xs,H b=some (.tup xs)->H' b=some (.tup xs)
 frzs:∀b o u,H b=some (.frz o u)->H' b=some (.frz o u)
 tbls:∀b ps,H b=some (.tbl ps)->∃more,H' b=some (.tbl (ps++more))
section
variable {fs fs' ex ex':List Addr} {H H1 H2:Hp} {h h1 h2 h':Heap} {a x e:Addr} {o:HO}
theorem Un.any(u:Un fs ex H H1 h h1){b:Addr}{ob:Obj}(q:h.get? b=some ob)(n:H b=none)(hx:b∉ex):∃sl,h1.get? b=some { ob with slots:=sl }:=by
 by_cases hb:b∈fs
 ·exact u.slot b ob q n hb hx
 ·exact⟨ob.slots,u.keep b ob q n hb hx⟩
theorem Un.kept(k:∀b u,h.get? b=some u->h'.get? b=some u):Un fs ex H H h h':=
 ⟨fun b ob q _ _ _=>k b ob q,fun b ob q _ _ _=>⟨ob.slots,k b ob q⟩,fun _ _ _ n _=>n,fun b ob q _=>⟨ob,k b ob q⟩,fun _ _ q=>q,fun _ _ _ q=>q,fun _ ps q=>⟨#[],by rw[q];simp⟩⟩
theorem Un.refl:Un fs ex H H h h:=Un.kept fun _ _ q=>q
theorem Un.laid(k:∀b u,h.get? b=some u->h'.get? b=some u)(hp:h.objs.size<=a)(hn:H a=none):Un fs ex H (upd H a o) h h' where
 keep:=fun b u q _ _ _=>k b u q
 slot:=fun b u q _ _ _=>⟨u.slots,k b u q⟩
 free:=fun b u q n _=>by rw[bU (Nat.ne_of_lt (Nat.lt_of_lt_of_le (Heap.lt_size q) hp))];exact n
 there:=fun b u q _=>⟨u,k b u q⟩
 tups:=fun b xs q=>by rw[bU (dB q hn)];exact q
 frzs:=fun b u xs q=>by rw[bU (dB q hn)];exact q
 tbls:=fun b ps q=>⟨#[],by rw[bU (dB q hn),q];simp⟩
theorem Un.write(mu:Mut (H x))(he:e=x∨H e=some (.own x))(k:∀b u,b≠e->h.get? b=some u->h'.get? b=some u)(heo:∃u,h'.get? e=some u):Un fs ex H (upd H x o) h h':=by
 have hx:∀b,H b=none->b≠x:=fun b n z=>by subst z;rw[n]at mu;exact mu
 have hb:∀b,H b=none->b≠e:=fun b n z=>by
  subst z
  rcases he with r|r
  ·exact hx b n r
  ·rw[n]at r;cases r
 have hm:∀b u,H b=some u->¬Mut (some u)->b≠x:=fun b u q nm z=>by subst z;rw[q]at mu;exact nm mu
 refine⟨fun b u q n _ _=>k b u (hb b n) q,fun b u q n _ _=>⟨u.slots,k b u (hb b n) q⟩,fun b u q n _=>by rw[bU (hx b n)];exact n,fun b u q _=>?_,
  fun b xs q=>by rw[bU (hm b _ q fun z=>z)];exact q,fun b u xs q=>by rw[bU (hm b _ q fun z=>z)];exact q,fun b ps q=>⟨#[],by rw[bU (hm b _ q fun z=>z),q];simp⟩⟩
 by_cases hbe:b=e
 ·subst hbe;exact heo
 ·exact⟨u,k b u hbe q⟩
end
noncomputable def trk(h:Heap)(H:Hp):List Addr:=(List.range h.objs.size).filter fun a=>(H a).isSome
noncomputable def Dj(h:Heap)(H:Hp):Heap:=PySem.W.hideAll h (trk h H)
theorem Cv(h:Heap)(H:Hp):(Dj h H).objs.size=h.objs.size:=PySem.W.hideAll_size _ _
theorem Ed{h:Heap}{H:Hp}{b:Addr}{o:Obj}(e:h.get? b=some o)(n:H b=none):(Dj h H).get? b=some o:=
 PySem.W.hideAll_get _ e fun hm=>by
  have q:(H b).isSome=true:=(List.mem_filter.mp hm).2
  rw[n]at q;simp at q
theorem Ig{h:Heap}{H:Hp}{b:Addr}{o:Obj}(e:(Dj h H).get? b=some o):h.get? b=some o/\H b=none:=by
 have e':h.get? b=some o:=PySem.W.of_hideAll (trk h H) e
 refine⟨e',?_⟩
 cases q:H b with
 |none=>rfl
 |some x=>
  have hm:b∈trk h H:=List.mem_filter.mpr ⟨List.mem_range.mpr (Heap.lt_size e'),by simp[q]⟩
  have z:(Dj h H).get? b=none:=PySem.W.hideAll_none (trk h H) hm
  rw[z]at e;cases e
end L2
namespace L2
open PySem PySem.Spec PyProof.Rows
structure Mod(K:PySem.W.Frag)(mg:Str->Option Value)(base:Heap):Prop where
 kin:K.In base
 glob:base.Ns mainGlobals mg
 blt:∃mb,base.Ns builtinsNs mb/\∀x:Str,x≠ "__name__" -> mb x=bootBuiltins x
 nolimit:base.NoLimit
 digits:base.NoDigits
structure Cx where
 prog:Program
 w:World
 K:PySem.W.Frag
 mg:Str->Option Value
 base:Heap
 A:Around
 N:List Str
 s₀:Shared
 H₀:Hp
 env:Env
 outer:List Env
 stack:List Env
 ex:List Addr
 fn:Str->Bool
 calm:Bool
 pn:List (Addr×Obj)
 xe:Value->Shared->Prop
noncomputable def frs(l:List Env):List Addr:=l.filterMap (·.frame)
noncomputable abbrev Cx.fs(X:Cx):List Addr:=frs X.outer
noncomputable def Vis(sc:Scope)(x:Str):Prop:=sc.names.lookup x=some .local∨sc.names.lookup x=some .cell∨sc.names.lookup x=some .free
noncomputable def Loc(sc:Scope)(x:Str):Prop:=sc.names.lookup x=some .local∨sc.names.lookup x=some .cell
noncomputable def Look(env:Env)(h:Heap)(m:Str->Option Value)(x:Str)(u:Value):Prop:=
 (env.kindOf x=some .local/\m x=some u)∨((env.kindOf x=some .cell∨env.kindOf x=some .free)/\∃c,env.cells.lookup x=some c/\h.IsCell c (some u))
structure Cx.Ok(X:Cx):Prop where
 mod:Mod X.K X.mg X.base
 kind:X.env.scope.kind = .function
 glob:X.env.globals=mainGlobals
 blt:X.env.builtins=builtinsNs
 above:X.s₀.heap.objs.size<=X.env.locals
 inj:∀x y c,X.env.cells.lookup x=some c->X.env.cells.lookup y=some c->x=y
 has:∀x,(X.env.kindOf x=some .cell∨X.env.kindOf x=some .free)->∃c,X.env.cells.lookup x=some c
 cab:∀x c,X.fn x=true->X.env.cells.lookup x=some c->X.s₀.heap.objs.size<=c
 hd:X.calm=true->X.A.handled=none
 frames:X.A.frames=some X.stack
 stk:X.stack=X.outer∨(X.stack=X.env::X.outer/\X.env.frame=some X.env.locals)
 exf:∀b∈X.ex,b≠X.env.locals/\∀x c,X.env.cells.lookup x=some c->c≠b
 bs:∀b o,X.base.get? b=some o->X.s₀.heap.get? b=some o/\X.H₀ b=none
 bsz:X.base.objs.size<=X.s₀.heap.objs.size
 noex:∀b o,X.base.get? b=some o->b∉X.ex
 exfs:∀b∈X.ex,b∉X.fs
 yF:X.s₀.heap.FunFrames X.base X.outer
 frf:∀b∈X.fs,X.H₀ b=none
structure Inv(X:Cx)(pins:List (Addr×Obj))(σ:List (Option V))(H:Hp)(s:Shared):Prop where
 ok:X.Ok
 os:s.os=X.s₀.os
 bare:AllBare s.gens
 base:Un X.fs X.ex X.H₀ H X.s₀.heap s.heap
 loc:∃m,s.heap.Ns X.env.locals m/\∀(i:Nat) (x:Str) (v:V),X.N[i]?=some x->σ[i]?=some (some v)->Vis X.env.scope x->∃u,RelV v u/\Look X.env s.heap m x u
 cell:∀x c,X.env.cells.lookup x=some c->∃v,s.heap.IsCell c v
 free:H X.env.locals=none
 freeC:∀x c,X.env.cells.lookup x=some c->H c=none
 pin:∀p∈X.pn++pins,s.heap.get? p.1=some p.2/\H p.1=none/\p.1≠X.env.locals/\p.1∉X.fs/\∀v,p.2.data≠ .cell v
 hok:HOk X.prog X.w H s.heap
 len:σ.length=X.N.length
section
variable {X:Cx} {pins:List (Addr×Obj)} {σ:List (Option V)} {H H':Hp} {s:Shared} {h':Heap}
theorem Cx.Ok.VH(ok:X.Ok){b:Addr}{o:Obj}(e:X.base.get? b=some o):b∉X.fs:=fun hb=>by
 have:=(ok.yF.mem hb).1
 rw[e]at this;cases this
theorem Inv.bs(I:Inv X pins σ H s):∀b o,X.base.get? b=some o->s.heap.get? b=some o/\H b=none:=fun b o e=>
 ⟨I.base.keep b o (I.ok.bs b o e).1 (I.ok.bs b o e).2 (I.ok.VH e) (I.ok.noex b o e),I.base.free b o (I.ok.bs b o e).1 (I.ok.bs b o e).2 (I.ok.noex b o e)⟩
theorem Inv.bk(I:Inv X pins σ H s):∀b o,X.base.get? b=some o->s.heap.get? b=some o:=fun b o e=>(I.bs b o e).1
theorem Inv.mod(I:Inv X pins σ H s):Mod X.K X.mg X.base:=I.ok.mod
theorem Inv.kIn(I:Inv X pins σ H s):X.K.In s.heap:=I.ok.mod.kin.keeps I.bk
theorem Inv.lt(I:Inv X pins σ H s):X.env.locals<s.heap.objs.size:=let⟨_,hn,_⟩:=I.loc;hn.lt
theorem Inv.sz(I:Inv X pins σ H s):X.s₀.heap.objs.size<=s.heap.objs.size:=Nat.le_trans I.ok.above (Nat.le_of_lt I.lt)
theorem Inv.Nm(I:Inv X pins σ H s){a:Addr}(h:s.heap.objs.size<=a):a∉X.fs:=fun hb=>by
 obtain⟨_,o,ho,_⟩:=I.ok.yF.mem hb
 exact absurd (Nat.lt_of_lt_of_le (Heap.lt_size ho) (Nat.le_trans I.sz h)) (Nat.lt_irrefl _)
theorem Inv.cne(I:Inv X pins σ H s):∀x c,X.env.cells.lookup x=some c->c≠X.env.locals:=fun x c e z=>by
 obtain⟨v,o,ho,hd⟩:=I.cell x c e
 obtain⟨m,⟨o',es,ep,ho',hd',_⟩,_⟩:=I.loc
 rw[z,ho']at ho;cases ho;rw[hd']at hd;cases hd
theorem Inv.yF(I:Inv X pins σ H s):s.heap.FunFrames X.base X.outer:=by
 have all:∀(l:List Env),(∀b∈frs l,b∈X.fs)->X.s₀.heap.FunFrames X.base l->s.heap.FunFrames X.base l:=by
  intro l
  induction l with
  |nil=>intro _ _;trivial
  |cons env r ih=>
   intro hs hl
   obtain⟨hk,⟨L,o,hf,hn,ho,hd⟩,hr⟩:=hl
   have hL:L∈X.fs:=hs L (by unfold frs;rw[List.filterMap_cons,hf];exact List.mem_cons_self)
   obtain⟨sl,e⟩:=I.base.slot L o ho (I.ok.frf L hL) hL fun z=>I.ok.exfs L z hL
   exact⟨hk,⟨L,_,hf,hn,e,hd⟩,ih (fun b hb=>hs b (by unfold frs;rw[List.filterMap_cons,hf];exact List.mem_cons_of_mem _ hb)) hr⟩
 exact all X.outer (fun _ hb=>hb) I.ok.yF
theorem Inv.stack(I:Inv X pins σ H s):s.heap.FunFrames X.base X.stack:=by
 rcases I.ok.stk with e|⟨e,hf⟩
 ·rw[e];exact I.yF
 ·rw[e]
  obtain⟨m,hn,_⟩:=I.loc
  refine .cons (by rw[I.ok.kind];decide) hf hn ?_ I.yF
  exact Heap.get?_none_of_le (Nat.le_trans I.ok.bsz I.ok.above)
theorem Inv.uO(I:Inv X pins σ H s):∀b∈frs X.stack,b∈X.env.locals::X.fs:=fun b hb=>by
 rcases I.ok.stk with e|⟨e,hf⟩
 ·rw[e]at hb;exact List.mem_cons_of_mem _ hb
 ·rw[e]at hb
  unfold frs at hb
  rw[List.filterMap_cons,hf]at hb
  exact hb
theorem Inv.rm(I:Inv X pins σ H s):∀b∈frs X.stack,H b=none:=fun b hb=>by
 rcases List.mem_cons.mp (I.uO b hb)with e|hb
 ·rw[e];exact I.free
 ·obtain⟨_,o,ho,_⟩:=I.ok.yF.mem hb
  exact I.base.free b o ho (I.ok.frf b hb) fun z=>I.ok.exfs b z hb
theorem Inv.step{g':Array GenState}{t':Nat}{d':Drawn}{ch:List Addr}(I:Inv X pins σ H s)
  (hch:∀b∈ch,(b∈X.ex∨X.s₀.heap.objs.size<=b)/\b≠X.env.locals/\(∀x c,X.env.cells.lookup x=some c->c≠b)/\∀p∈X.pn++pins,p.1≠b)
  (keep:∀b o,b≠X.env.locals->b∉X.fs->b∉ch->s.heap.get? b=some o->H b=none->h'.get? b=some o)
  (slot:∀b o,b≠X.env.locals->b∈X.fs->b∉ch->s.heap.get? b=some o->H b=none->∃sl,h'.get? b=some { o with slots:=sl }) (free:∀b o,b∉ch->s.heap.get? b=some o->H b=none->H' b=none)
  (there:∀b o,b∉ch->s.heap.get? b=some o->∃o',h'.get? b=some o')
  (tups:∀b xs,H b=some (.tup xs)->H' b=some (.tup xs)) (frzs:∀b o u,H b=some (.frz o u)->H' b=some (.frz o u)) (tbls:∀b ps,H b=some (.tbl ps)->∃more,H' b=some (.tbl (ps++more)))
  (ns:∀m,s.heap.Ns X.env.locals m->h'.Ns X.env.locals m) (hok:HOk X.prog X.w H' h') (hg:AllBare g'):
  Inv X pins σ H' { s with heap:=h',gens:=g',drawn:=d',toks:=t' }:=by
 have neL:∀b o,X.s₀.heap.get? b=some o->b≠X.env.locals:=fun b o e=>Nat.ne_of_lt (Nat.lt_of_lt_of_le (Heap.lt_size e) I.ok.above)
 have neC:∀b o,X.s₀.heap.get? b=some o->b∉X.ex->b∉ch:=fun b o e hx hb=>by
  rcases(hch b hb).1 with z|z
  ·exact hx z
  ·exact absurd (Nat.lt_of_lt_of_le (Heap.lt_size e) z) (Nat.lt_irrefl _)
 have cellK:∀x c,X.env.cells.lookup x=some c->∀v,s.heap.IsCell c v->h'.IsCell c v:=fun x c e v ⟨o,ho,hd⟩=>by
  have nch:c∉ch:=fun z=>(hch c z).2.2.1 x c e rfl
  by_cases hc:c∈X.fs
  ·obtain⟨sl,q⟩:=slot c o (I.cne x c e) hc nch ho (I.freeC x c e)
   exact⟨_,q,hd⟩
  ·exact⟨o,keep c o (I.cne x c e) hc nch ho (I.freeC x c e),hd⟩
 refine⟨I.ok,I.os,hg,⟨fun b o e n hb hx=>?_,fun b o e n hb hx=>?_,fun b o e n hx=>?_,fun b o e hx=>?_,fun b xs e=>tups b xs (I.base.tups b xs e),fun b o xs e=>frzs b o xs (I.base.frzs b o xs e),fun b ps e=>?_⟩,?_,fun x c e=>?_,?_,fun x c e=>?_,fun p hp=>?_,hok,I.len⟩
 ·exact keep b o (neL b o e) hb (neC b o e hx) (I.base.keep b o e n hb hx) (I.base.free b o e n hx)
 ·obtain⟨sl,e1⟩:=I.base.slot b o e n hb hx
  obtain⟨sl',e2⟩:=slot b _ (neL b o e) hb (neC b o e hx) e1 (I.base.free b o e n hx)
  exact⟨sl',e2⟩
 ·obtain⟨o',e1⟩:=I.base.there b o e hx
  exact free b o' (neC b o e hx) e1 (I.base.free b o e n hx)
 ·obtain⟨o',e1⟩:=I.base.there b o e hx
  exact there b o' (neC b o e hx) e1
 ·obtain⟨m1,e1⟩:=I.base.tbls b ps e
  obtain⟨m2,e2⟩:=tbls b _ e1
  exact⟨m1++m2,by rw[e2,Array.append_assoc]⟩
 ·obtain⟨m,hn,hl⟩:=I.loc
  refine⟨m,ns m hn,fun i x v e1 e2 e3=>?_⟩
  obtain⟨u,r,l⟩:=hl i x v e1 e2 e3
  refine⟨u,r,?_⟩
  rcases l with l|⟨k,c,e,z⟩
  ·exact .inl l
  ·exact .inr ⟨k,c,e,cellK x c e _ z⟩
 ·obtain⟨v,z⟩:=I.cell x c e
  exact⟨v,cellK x c e v z⟩
 ·obtain⟨m,⟨o,_,_,ho,_⟩,_⟩:=I.loc
  exact free _ o (fun z=>(hch _ z).2.1 rfl) ho I.free
 ·obtain⟨v,o,ho,hd⟩:=I.cell x c e
  exact free c o (fun z=>(hch c z).2.2.1 x c e rfl) ho (I.freeC x c e)
 ·obtain⟨e,n,ne,nf,d⟩:=I.pin p hp
  have nch:p.1∉ch:=fun z=>(hch p.1 z).2.2.2 p hp rfl
  exact⟨keep p.1 p.2 ne nf nch e n,free p.1 p.2 nch e n,ne,nf,d⟩
theorem Inv.un{t':Nat}(I:Inv X pins σ H s)(u:Un X.fs [] H H' s.heap h')(hok:HOk X.prog X.w H' h'):Inv X pins σ H' { s with heap:=h',toks:=t' }:=by
 obtain⟨m,⟨o,es,ep,ho,r⟩,_⟩:=id I.loc
 obtain⟨sl,hL⟩:=u.any ho I.free (by simp)
 exact I.step (g':=s.gens) (d':=s.drawn) (ch:=[]) (fun _ z=>nomatch z) (fun b o _ hb _ e n=>u.keep b o e n hb (by simp)) (fun b o _ hb _ e n=>u.slot b o e n hb (by simp)) (fun b o _ e n=>u.free b o e n (by simp)) (fun b o _ e=>u.there b o e (by simp)) u.tups u.frzs u.tbls (fun m' hm=>by
  obtain⟨o',es',ep',ho',r'⟩:=hm
  rw[ho]at ho';cases ho'
  exact⟨_,es',ep',hL,r'⟩) hok I.bare
theorem Inv.call{g':Array GenState}{t':Nat}{d':Drawn}{ch:List Addr}(I:Inv X pins σ H s)(u:Un (frs X.stack) ch H H' s.heap h')(hok:HOk X.prog X.w H' h')(hg:AllBare g')
  (hch:∀b∈ch,(b∈X.ex∨X.s₀.heap.objs.size<=b)/\b≠X.env.locals/\(∀x c,X.env.cells.lookup x=some c->c≠b)/\∀p∈X.pn++pins,p.1≠b):
  Inv X pins σ H' { s with heap:=h',gens:=g',drawn:=d',toks:=t' }:=by
 obtain⟨m,⟨o,es,ep,ho,r⟩,_⟩:=id I.loc
 obtain⟨sl,hL⟩:=u.any ho I.free fun z=>(hch _ z).2.1 rfl
 exact I.step (ch:=ch) hch (fun b o hL hb hc e n=>u.keep b o e n (fun z=>(List.mem_cons.mp (I.uO b z)).elim hL hb) hc) (fun b o _ _ hc e n=>u.any e n hc) (fun b o hc e n=>u.free b o e n hc) (fun b o hc e=>u.there b o e hc) u.tups u.frzs u.tbls (fun m' hm=>by
  obtain⟨o',es',ep',ho',r'⟩:=hm
  rw[ho]at ho';cases ho'
  exact⟨_,es',ep',hL,r'⟩) hok hg
theorem Inv.turned{t':Nat}{it:Addr}(I:Inv X pins σ H s)(k:∀b o,b≠it->s.heap.get? b=some o->h'.get? b=some o)(hn:H it=none)(hL:it≠X.env.locals)
  (h1:it∈X.ex∨X.s₀.heap.objs.size<=it) (h2:∀x c,X.env.cells.lookup x=some c->c≠it) (h3:∀p∈X.pn++pins,p.1≠it):Inv X pins σ H { s with heap:=h',toks:=t' }:=by
 have nit:∀b u,H b=some u->b≠it:=fun b u e z=>by rw[z,hn]at e;cases e
 refine I.step (g':=s.gens) (d':=s.drawn) (ch:=[it]) (fun b hb=>?_) (fun b o _ _ hc e _=>k b o (fun z=>hc (by simp[z])) e) (fun b o _ _ hc e _=>⟨o.slots,k b o (fun z=>hc (by simp[z])) e⟩) (fun _ _ _ _ n=>n)
  (fun b o hc e=>⟨o,k b o (fun z=>hc (by simp[z])) e⟩) (fun _ _ e=>e) (fun _ _ _ e=>e) (fun b ps e=>⟨#[],by rw[e];simp⟩) (fun m hm=>?_) (fun b u e=>?_) I.bare
 ·have e:b=it:=by simpa using hb
  subst e
  exact⟨h1,hL,h2,h3⟩
 ·obtain⟨o,es,ep,ho,r⟩:=hm
  exact⟨o,es,ep,k _ o (Ne.symm hL) ho,r⟩
 ·refine(I.hok b u e).stay (fun c v hc q=>k c v ?_ q) (fun _ q=>q) fun _ _ q=>q
  rcases hc with z|z
  ·rw[z];exact nit b u e
  ·exact nit c _ z
theorem Inv.tok(I:Inv X pins σ H s)(t:Nat):Inv X pins σ H { s with toks:=t }:=I.un (h':=s.heap) (t':=t) Un.refl I.hok
theorem Inv.kept{t':Nat}(I:Inv X pins σ H s)(k:∀b u,s.heap.get? b=some u->h'.get? b=some u):Inv X pins σ H { s with heap:=h',toks:=t' }:=I.un (Un.kept k) (I.hok.kept k)
theorem Inv.laid{a:Addr}{o:HO}{t':Nat}(I:Inv X pins σ H s)(k:∀b u,s.heap.get? b=some u->h'.get? b=some u)(hp:s.heap.objs.size<=a)(new:fX X.prog X.w (upd H a o) h' a o):
  Inv X pins σ (upd H a o) { s with heap:=h',toks:=t' }:=I.un (Un.laid k hp (I.hok.fresh hp)) (I.hok.laid k hp new)
theorem Inv.write{x e:Addr}{o:HO}{t':Nat}(I:Inv X pins σ H s)(mu:Mut (H x))(he:e=x∨H e=some (.own x))(k:∀b u,b≠e->s.heap.get? b=some u->h'.get? b=some u)(heo:∃u,h'.get? e=some u)
  (new:fX X.prog X.w (upd H x o) h' x o):Inv X pins σ (upd H x o) { s with heap:=h',toks:=t' }:=I.un (Un.write mu he k heo) (I.hok.write mu he k heo new)
theorem Inv.Ad{pins':List (Addr×Obj)}(I:Inv X pins σ H s)(h:∀p∈pins',s.heap.get? p.1=some p.2/\H p.1=none/\p.1≠X.env.locals/\p.1∉X.fs/\∀v,p.2.data≠ .cell v):Inv X pins' σ H s:=
 ⟨I.ok,I.os,I.bare,I.base,I.loc,I.cell,I.free,I.freeC,fun p hp=>(List.mem_append.mp hp).elim (fun z=>I.pin p (List.mem_append_left _ z)) (h p),I.hok,I.len⟩
theorem qY{N:List Str}(hN:N.Nodup){i j:Nat}{x:Str}(a:N[i]?=some x)(b:N[j]?=some x):i=j:=by
 obtain⟨h1,e1⟩:=List.getElem?_eq_some_iff.mp a
 obtain⟨h2,e2⟩:=List.getElem?_eq_some_iff.mp b
 exact(List.getElem_inj hN).mp (e1.trans e2.symm)
theorem zR{M:Model}{A:Around}{E:Value->Shared->Prop}{i:Nat}{x:Str}{v:V}{u:Value}{Q:Unit->Shared->Prop}(I:Inv X pins σ H s)(hN:X.N.Nodup)(hi:X.N[i]?=some x)(hx:Loc X.env.scope x)(r:RelV v u)
  (h:∀s',Inv X pins (σ.set i (some v)) H s'->(∃a,Heap.SameBut a s.heap s'.heap/\(a=X.env.locals∨X.env.cells.lookup x=some a))->Q () s') (hf:X.fn x=true∨X.env.scope.names.lookup x=some .local:=by first|exact .inl rfl|exact .inr rfl|assumption):wpAny M A (storeName X.env x u) Q E s:=by
 obtain⟨m,hn,hl⟩:=id I.loc
 have hcls:(X.env.scope.kind== .class||(X.env.scope.kind== .module&&X.env.locals != X.env.globals))=false:=by rw[I.ok.kind];rfl
 have hiσ:i < σ.length:=by rw[I.len];exact(List.getElem?_eq_some_iff.mp hi).1
 have cne:=I.cne
 have tracked:∀{a:Addr} {h':Heap},(∃o,s.heap.get? a=some o/\H a=none)->Heap.SameBut a s.heap h'->HOk X.prog X.w H h':=fun {a h'} ha hs b ob e=>by
  obtain⟨_,_,hfree⟩:=ha
  refine(I.hok b ob e).stay (fun c w' hc q=>(hs.2 c ?_).trans q) (fun _ q=>q) fun _ _ q=>q
  rintro rfl
  rcases hc with rfl|hc
  ·rw[hfree]at e;cases e
  ·rw[hfree]at hc;cases hc
 rcases hx with hk|hk
 ·refine wpAny_storeName_local hk hn (fun h' hn' hs=>?_) hcls
  obtain⟨oL,_,_,hoL,_⟩:=id hn
  refine h _ ⟨I.ok,I.os,I.bare,⟨fun b o e n hb hx=>?_,fun b o e n hb hx=>?_,I.base.free,fun b o e hx=>?_,I.base.tups,I.base.frzs,I.base.tbls⟩,⟨_,hn',fun j y v' e1 e2 e3=>?_⟩,fun y c e=>?_,I.free,I.freeC,fun p hp=>?_,tracked ⟨oL,hoL,I.free⟩ hs,by simpa using I.len⟩ ⟨_,hs,.inl rfl⟩
  ·exact(hs.2 b (Nat.ne_of_lt (Nat.lt_of_lt_of_le (Heap.lt_size e) I.ok.above))).trans (I.base.keep b o e n hb hx)
  ·obtain⟨sl,e1⟩:=I.base.slot b o e n hb hx
   exact⟨sl,(hs.2 b (Nat.ne_of_lt (Nat.lt_of_lt_of_le (Heap.lt_size e) I.ok.above))).trans e1⟩
  ·obtain⟨o',e1⟩:=I.base.there b o e hx
   exact⟨o',(hs.2 b (Nat.ne_of_lt (Nat.lt_of_lt_of_le (Heap.lt_size e) I.ok.above))).trans e1⟩
  ·by_cases hj:j=i
   ·subst hj
    rw[hi]at e1;cases e1
    rw[List.getElem?_set_self hiσ]at e2
    cases e2
    exact⟨u,r,.inl ⟨hk,by simp⟩⟩
   ·rw[List.getElem?_set_ne (Ne.symm hj)]at e2
    obtain⟨u',r',q⟩:=hl j y v' e1 e2 e3
    refine⟨u',r',?_⟩
    rcases q with⟨k,e⟩|⟨k,c,e,z⟩
    ·refine .inl ⟨k,?_⟩
     have:y≠x:=fun e=>hj (qY hN e1 (e▸hi))
     simp[this,e]
    ·exact .inr ⟨k,c,e,z.sameBut hs (cne y c e)⟩
  ·obtain⟨w',z⟩:=I.cell y c e
   exact⟨w',z.sameBut hs (cne y c e)⟩
  ·obtain⟨e,n,ne,nf,d⟩:=I.pin p hp
   exact⟨(hs.2 p.1 ne).trans e,n,ne,nf,d⟩
 ·have hfn:X.fn x=true:=by
   rcases hf with z|z
   ·exact z
   ·rw[z]at hk;cases hk
  obtain⟨c,hc⟩:=I.ok.has x (.inl hk)
  obtain⟨w',z⟩:=I.cell x c hc
  refine wpAny_storeName_cell I.ok.kind hk hc z (fun h' hc' hs=>?_)
  obtain⟨oc,hoc,hocd⟩:=id z
  refine h { s with heap:=h' } ⟨I.ok,I.os,I.bare,⟨fun b o e n hb hx=>?_,fun b o e n hb hx=>?_,I.base.free,fun b o e hx=>?_,I.base.tups,I.base.frzs,I.base.tbls⟩,⟨m,hn.sameBut hs (Ne.symm (cne x c hc)),fun j y v' e1 e2 e3=>?_⟩,fun y c' e=>?_,I.free,I.freeC,fun p hp=>?_,tracked ⟨oc,hoc,I.freeC x c hc⟩ hs,by simpa using I.len⟩ ⟨c,hs,.inr hc⟩
  ·exact(hs.2 b (Nat.ne_of_lt (Nat.lt_of_lt_of_le (Heap.lt_size e) (I.ok.cab x c hfn hc)))).trans (I.base.keep b o e n hb hx)
  ·obtain⟨sl,e1⟩:=I.base.slot b o e n hb hx
   exact⟨sl,(hs.2 b (Nat.ne_of_lt (Nat.lt_of_lt_of_le (Heap.lt_size e) (I.ok.cab x c hfn hc)))).trans e1⟩
  ·obtain⟨o',e1⟩:=I.base.there b o e hx
   exact⟨o',(hs.2 b (Nat.ne_of_lt (Nat.lt_of_lt_of_le (Heap.lt_size e) (I.ok.cab x c hfn hc)))).trans e1⟩
  ·by_cases hj:j=i
   ·subst hj
    rw[hi]at e1;cases e1
    rw[List.getElem?_set_self hiσ]at e2
    cases e2
    exact⟨u,r,.inr ⟨.inl hk,c,hc,hc'⟩⟩
   ·rw[List.getElem?_set_ne (Ne.symm hj)]at e2
    obtain⟨u',r',q⟩:=hl j y v' e1 e2 e3
    refine⟨u',r',?_⟩
    rcases q with q|⟨k,c',e,z'⟩
    ·exact .inl q
    ·refine .inr ⟨k,c',e,z'.sameBut hs ?_⟩
     rintro rfl
     exact hj (qY hN e1 (I.ok.inj _ _ _ e hc▸hi))
  ·by_cases hcc:c'=c
   ·subst hcc;exact⟨_,hc'⟩
   ·obtain⟨w2,z2⟩:=I.cell y c' e
    exact⟨w2,z2.sameBut hs hcc⟩
  ·obtain⟨e,n,ne,nf,d⟩:=I.pin p hp
   refine⟨(hs.2 p.1 ?_).trans e,n,ne,nf,d⟩
   intro q
   rw[q,hoc]at e
   have q':oc=p.2:=Option.some.inj e
   exact d w' (by rw[<-q'];exact hocd)
theorem kY{M:Model}{A:Around}{E:Value->Shared->Prop}{i:Nat}{x:Str}{v:V}{u:Value}{Q:Unit->Shared->Prop}(I:Inv X pins σ H s)(hN:X.N.Nodup)(hi:X.N[i]?=some x)(hx:Loc X.env.scope x)(r:RelV v u)
  (h:∀s',Inv X pins (σ.set i (some v)) H s'->Q () s') (hf:X.fn x=true∨X.env.scope.names.lookup x=some .local:=by first|exact .inl rfl|exact .inr rfl|assumption):wpAny M A (storeName X.env x u) Q E s:=
 zR I hN hi hx r (fun s' I' _=>h s' I') hf
theorem Inv.GQ{s':Shared}{ch:List Addr}(I:Inv X pins σ H s)(ho:s'.os=s.os)(u:Un (frs X.stack) ch H H' s.heap s'.heap)(hok:HOk X.prog X.w H' s'.heap)(hg:AllBare s'.gens)
  (hch:∀b∈ch,(b∈X.ex∨X.s₀.heap.objs.size<=b)/\b≠X.env.locals/\(∀x c,X.env.cells.lookup x=some c->c≠b)/\∀p∈X.pn++pins,p.1≠b):Inv X pins σ H' s':=by
 obtain⟨h',g',d',t',o'⟩:=s'
 have e:o'=s.os:=ho
 subst e
 exact I.call (g':=g') (t':=t') (d':=d') u hok hg hch
end
noncomputable abbrev XK:=Value->Option Addr->Hp->Prop
noncomputable abbrev St:=List (Option V)
noncomputable abbrev VK:=V->Hp->Prop
noncomputable abbrev TE:=St->Hp->VK->Prop
noncomputable abbrev TT:=St->Hp->(Bool->Hp->Prop)->Prop
noncomputable abbrev TA:=St->Hp->(List V->Hp->Prop)->Prop
structure Ends where
 nx:St->Hp->Prop
 rt:VK
 bk:St->Hp->Prop:=fun _ _=>False
 ct:St->Hp->Prop:=fun _ _=>False
noncomputable abbrev TS:=Ends->St->Hp->Prop
noncomputable def EP(X:Cx)(pins:List (Addr×Obj))(σ:St)(Q:VK)(u:Value)(s':Shared):Prop:=∃v H',Inv X pins σ H' s'/\RelV v u/\Q v H'
noncomputable def TP(X:Cx)(pins:List (Addr×Obj))(σ:St)(Q:Bool->Hp->Prop)(b:Bool)(s':Shared):Prop:=∃H',Inv X pins σ H' s'/\Q b H'
noncomputable def AP(X:Cx)(pins:List (Addr×Obj))(σ:St)(Q:List V->Hp->Prop)(us:List Value)(s':Shared):Prop:=∃vs H',Inv X pins σ H' s'/\Vals vs us/\Q vs H'
noncomputable def SP(X:Cx)(pins:List (Addr×Obj))(D:Ends)(f:Flow)(s':Shared):Prop:=
 match f with
 |.next=>∃σ' H',Inv X pins σ' H' s'/\D.nx σ' H'
 |.brk=>∃σ' H',Inv X pins σ' H' s'/\D.bk σ' H'
 |.cont=>∃σ' H',Inv X pins σ' H' s'/\D.ct σ' H'
 |.ret u=>∃v σ' H',Inv X pins σ' H' s'/\RelV v u/\D.rt v H'
noncomputable def PE(X:Cx)(e:Expr)(t:TE):Prop:=
 ∀(pins:List (Addr×Obj)) (s:Shared) (σ:St) (H:Hp) (Q:VK),Inv X pins σ H s->t σ H Q->wpAny (model X.prog X.w) X.A (eval e X.env) (EP X pins σ Q) X.xe s
noncomputable def PT(X:Cx)(e:Expr)(t:TT):Prop:=
 ∀(pins:List (Addr×Obj)) (s:Shared) (σ:St) (H:Hp) (Q:Bool->Hp->Prop),Inv X pins σ H s->t σ H Q->wpAny (model X.prog X.w) X.A (isTrue e X.env (eval e X.env)) (TP X pins σ Q) X.xe s
noncomputable def PW(X:Cx)(e:Expr)(t:TT):Prop:=
 ∀(whole:Sem Value) (pins:List (Addr×Obj)) (s:Shared) (σ:St) (H:Hp) (Q:Bool->Hp->Prop),Inv X pins σ H s->t σ H Q->wpAny (model X.prog X.w) X.A (isTrue e X.env whole) (TP X pins σ Q) X.xe s
theorem PW.pt{X:Cx}{e:Expr}{t:TT}(h:PW X e t):PT X e t:=h _
noncomputable def PA(X:Cx)(es:List Expr)(t:TA):Prop:=
 ∀(pos:Pos) (pins:List (Addr×Obj)) (s:Shared) (σ:St) (H:Hp) (Q:List V->Hp->Prop),Inv X pins σ H s->t σ H Q->wpAny (model X.prog X.w) X.A (spliced (backTo pos (starEach es X.env))) (AP X pins σ Q) X.xe s
noncomputable def PS(X:Cx)(st:Stmt)(t:TS):Prop:=
 ∀(pins:List (Addr×Obj)) (s:Shared) (σ:St) (H:Hp) (D:Ends),Inv X pins σ H s->t D σ H->wpAny (model X.prog X.w) X.A (exec st X.env) (SP X pins D) X.xe s
noncomputable def PSs(X:Cx)(st:List Stmt)(t:TS):Prop:=
 ∀(pins:List (Addr×Obj)) (s:Shared) (σ:St) (H:Hp) (D:Ends),Inv X pins σ H s->t D σ H->wpAny (model X.prog X.w) X.A (execs st X.env) (SP X pins D) X.xe s
theorem thn{α:Type}{t:Sem α}{Q Q':α->Shared->Prop}{M:Model}{A:Around}{E:Value->Shared->Prop}{s:Shared}(h:wpAny M A t Q E s)(hQ:∀a s,Q a s->Q' a s):wpAny M A t Q' E s:=wpAny_mono h hQ fun _ _ x=>x
end L2
namespace L2
open PySem PySem.Spec PyProof.Rows
section
variable {X:Cx}
inductive VQ(i:Nat)(σ:St)(H:Hp)(Q:VK):Prop|mk (v:V) (h:σ[i]?=some (some v)) (q:Q v H)
noncomputable def K3(i:Nat):TE:=fun σ H Q=>VQ i σ H Q
noncomputable def tC(v:V):TE:=fun _ H Q=>Q v H
theorem Fx{i:Nat}{x:Str}{pos:Pos}(hN:X.N[i]?=some x)(hv:Vis X.env.scope x)(hd:(x==("__debug__" : Str))=false:=by decide)(hcd:(x==("__classdict__" : Str))=false:=by decide):PE X (.Name x pos) (K3 i):=by
 intro pins s σ H Q I h
 obtain⟨v,e,h⟩:=h
 obtain⟨m,hn,hl⟩:=I.loc
 obtain⟨u,r,l⟩:=hl i x v hN e hv
 have fin:EP X pins σ Q u s:=⟨v,H,I,r,h⟩
 rcases l with⟨hk,hm⟩|⟨hk,c,hc,hcell⟩
 ·exact wpAny_Name (wpAny_loadName_local I.ok.kind hk hn hm fin) hd
 ·rcases hk with hk|hk
  ·exact wpAny_Name (wpAny_loadName_cell I.ok.kind hk hc hcell fin) hd
  ·exact wpAny_Name (wpAny_loadName_free I.ok.kind hk hc hcell fin hcd) hd
theorem aq{i j pos}:PE X (.Constant (.int i) j pos) (tC (.int i)):=fun _ _ _ H _ I h=>wpAny_Constant_int ⟨.int i,H,I.tok _,⟨_,rfl⟩,h⟩
theorem pY{b j pos}:PE X (.Constant (.bool b) j pos) (tC (.bl b)):=fun _ _ _ H _ I h=>Constant_bool ⟨.bl b,H,I,rfl,h⟩
theorem Fd{j pos}:PE X (.Constant .none j pos) (tC .non):=fun _ _ _ H _ I h=>Constant_none ⟨.non,H,I,rfl,h⟩
theorem uK{x j pos}:PE X (.Constant (.str x) j pos) (tC (.str x)):=fun _ _ _ H _ I h=>Calls.Constant_str ⟨.str x,H,I.tok _,⟨_,rfl⟩,h⟩
noncomputable def Gl(X:Cx)(x:Str):Prop:=X.env.kindOf x=some .globalImplicit
theorem nQ{E:Value->Shared->Prop}{pins:List (Addr×Obj)}{s:Shared}{σ:St}{H:Hp}{x:Str}{u:Value}{pos:Pos}{Q:Value->Shared->Prop}(I:Inv X pins σ H s)(hg:Gl X x)(hm:X.mg x=some u)(h:Q u s)
  (hd:(x==("__debug__" : Str))=false:=by decide):wpAny (model X.prog X.w) X.A (eval (.Name x pos) X.env) Q E s:=
 Calls.Name_function_global I.ok.kind hg (Calls.loadGlobal_global (by rw[I.ok.glob];exact I.mod.glob.keeps I.bk) hm h) hd
theorem qK{E:Value->Shared->Prop}{pins:List (Addr×Obj)}{s:Shared}{σ:St}{H:Hp}{x:Str}{u:Value}{pos:Pos}{Q:Value->Shared->Prop}(I:Inv X pins σ H s)(hg:Gl X x)(hm:X.mg x=none)(hv:bootBuiltins x=some u)(h:Q u s)
  (hn:x≠ "__name__" := by decide) (hd:(x==("__debug__" : Str))=false:=by decide):wpAny (model X.prog X.w) X.A (eval (.Name x pos) X.env) Q E s:=by
 obtain⟨mb,h1,h2⟩:=I.mod.blt
 exact Calls.Name_function_global I.ok.kind hg (Calls.loadGlobal_builtin (by rw[I.ok.glob];exact I.mod.glob.keeps I.bk) hm (by rw[I.ok.blt];exact h1.keeps I.bk) ((h2 x hn).trans hv) h) hd
theorem Ck{x:Str}{v:V}{u:Value}{pos:Pos}(hg:Gl X x)(hm:X.mg x=some u)(r:RelV v u)(hd:(x==("__debug__" : Str))=false:=by decide):PE X (.Name x pos) (tC v):=
 fun _ _ _ H _ I h=>nQ I hg hm ⟨v,H,I,r,h⟩ hd
theorem Gp{x:Str}{v:V}{u:Value}{pos:Pos}(hg:Gl X x)(hm:X.mg x=none)(hv:bootBuiltins x=some u)(r:RelV v u)(hn:x≠ "__name__" := by decide)(hd:(x==("__debug__" : Str))=false:=by decide):PE X (.Name x pos) (tC v):=
 fun _ _ _ H _ I h=>qK I hg hm hv ⟨v,H,I,r,h⟩ hn hd
variable {a b:Expr} {ta tb:TE} {pos:Pos}
noncomputable def PC(X:Cx)(op:CmpOp)(a b:Expr)(t:TE):Prop:=
 ∀(pins:List (Addr×Obj)) (s:Shared) (σ:St) (H:Hp) (Q:VK),Inv X pins σ H s->t σ H Q->
  wpAny (model X.prog X.w) X.A (eval a X.env) (fun v s₁=>wpAny (model X.prog X.w) X.A (eval b X.env) (fun u s₂=>wpAny (model X.prog X.w) X.A (compareOp op v u) (EP X pins σ Q) X.xe s₂) X.xe s₁) X.xe s
theorem Eb(b:Expr){op:CmpOp}(h:op≠ .In)(h2:op≠ .NotIn):behindInMarks op b=false:=by
 have e1:(op==CmpOp.In)=false:=by cases op<;>first|rfl|exact absurd rfl h
 have e2:(op==CmpOp.NotIn)=false:=by cases op<;>first|rfl|exact absurd rfl h2
 cases b<;>simp[behindInMarks,e1,e2]
noncomputable def Wg(ta:TE):TE:=fun σ H Q=>ta σ H fun x H1=>Q (.bl (decide (x = .non))) H1
theorem RelV.Dz{x:V}{v:Value}(r:RelV x v):(v==Value.none)=decide (x = .non):=by
 cases x with
 |non=>cases r;rfl
 |bl _=>cases r;rfl
 |int _=>obtain⟨t,rfl⟩:=r;rfl
 |str _=>obtain⟨t,rfl⟩:=r;rfl
 |byt _=>obtain⟨t,rfl⟩:=r;rfl
 |flt _=>obtain⟨t,rfl⟩:=r;rfl
 |ref _=>cases r;rfl
 |ty _=>cases r;rfl
theorem IY{j pos'}(ha:PE X a ta):PC X .Is a (.Constant .none j pos') (Wg ta):=by
 intro pins s σ H Q I h
 refine thn (ha pins s σ H _ I h) fun v s1 ⟨x,H1,I1,r1,q1⟩=>?_
 exact Constant_none (is_none_gen ⟨.bl _,H1,I1,by rw[r1.Dz];rfl,q1⟩)
noncomputable def tB(t:TE):TT:=fun σ H Q=>t σ H fun x H1=>∃c,x = .bl c/\Q c H1
theorem Ir{op:CmpOp}{t:TE}(h:PC X op a b t)(h1:behindInMarks op b=false:=by first|exact Eb _ (by decide) (by decide)|rfl):PT X (.Compare a [op] [b] pos) (tB t):=by
 intro pins s σ H Q I hw
 refine wpAny_isTrue_Compare1 (thn (h pins s σ H _ I hw) fun v s1 h1=>thn h1 fun u s2 h2=>thn h2 fun c s3 ⟨x,H1,I1,r1,q1⟩=>?_) h1
 obtain⟨d,rfl,q⟩:=q1
 cases r1
 exact wpAny_truthy_bool ⟨H1,I1,q⟩
theorem gU{e:Expr}{t:TE}(h:PE X e t)(he:∀whole,isTrue e X.env whole=(do let v<-whole;standAt e.pos;holding [v] (truthy v)):=by intro _;rfl):PT X e (tB t):=by
 intro pins s σ H Q I hw
 refine isTrue_plain (thn (h pins s σ H _ I hw) fun v s1 ⟨x,H1,I1,r1,q1⟩=>?_) (he _)
 obtain⟨d,rfl,q⟩:=q1
 cases r1
 exact wpAny_truthy_bool ⟨H1,I1,q⟩
variable {tA tB':TT} {rest:List Expr}
noncomputable def VN(t u:TT):TT:=fun σ H Q=>t σ H fun c H1=>if c=true then u σ H1 Q else Q false H1
noncomputable def tOr(t u:TT):TT:=fun σ H Q=>t σ H fun c H1=>if c=true then Q true H1 else u σ H1 Q
noncomputable def Ws(t:TT):TT:=fun σ H Q=>t σ H fun c H1=>Q (!c) H1
theorem Cg(ha:PT X a tA):PW X (.BoolOp .And [a] pos) tA:=by
 intro wh pins s σ H Q I h
 refine isTrue_and (thn (ha pins s σ H Q I h) fun c s1 e=>?_)
 cases c with
 |true=>exact isTrue_and_nil e
 |false=>exact e
theorem qO(ha:PT X a tA):PW X (.BoolOp .Or [a] pos) tA:=by
 intro wh pins s σ H Q I h
 refine isTrue_or (thn (ha pins s σ H Q I h) fun c s1 e=>?_)
 cases c with
 |false=>exact isTrue_or_nil e
 |true=>exact e
theorem E6(ha:PT X a tA)(hb:PW X (.BoolOp .And (b::rest) pos) tB'):PW X (.BoolOp .And (a::b::rest) pos) (VN tA tB'):=by
 intro wh pins s σ H Q I h
 refine isTrue_and (thn (ha pins s σ H _ I h) fun c s1 ⟨H1,I1,q1⟩=>?_)
 cases c with
 |true=>exact hb wh pins s1 σ H1 Q I1 q1
 |false=>exact⟨H1,I1,q1⟩
theorem pA(ha:PT X a tA)(hb:PW X (.BoolOp .Or (b::rest) pos) tB'):PW X (.BoolOp .Or (a::b::rest) pos) (tOr tA tB'):=by
 intro wh pins s σ H Q I h
 refine isTrue_or (thn (ha pins s σ H _ I h) fun c s1 ⟨H1,I1,q1⟩=>?_)
 cases c with
 |true=>exact⟨H1,I1,q1⟩
 |false=>exact hb wh pins s1 σ H1 Q I1 q1
theorem ju(ha:PT X a tA):PT X (.UnaryOp .Not a pos) (Ws tA):=by
 intro pins s σ H Q I h
 exact isTrue_not (ha pins s σ H (fun c H1=>Q (!c) H1) I h)
noncomputable def Ri(ta tb:TE):TE:=fun σ H Q=>ta σ H fun x H1=>∃c,x = .bl c/\if c=true then tb σ H1 Q else Q (.bl false) H1
noncomputable def V1(ta tb:TE):TE:=fun σ H Q=>ta σ H fun x H1=>∃c,x = .bl c/\if c=true then Q (.bl true) H1 else tb σ H1 Q
theorem Ax{op}{t:TE}(h:PE X a t):PE X (.BoolOp op [a] pos) t:=fun pins s σ H Q I hw=>BoolOp_one (h pins s σ H Q I hw)
theorem Fv(ha:PE X a ta)(hb:PE X (.BoolOp .And (b::rest) pos) tb):PE X (.BoolOp .And (a::b::rest) pos) (Ri ta tb):=by
 intro pins s σ H Q I h
 refine BoolOp_and (thn (ha pins s σ H _ I h) fun v s1 ⟨x,H1,I1,r1,q1⟩=>?_)
 obtain⟨c,rfl,q1⟩:=q1
 cases r1
 refine wpAny_truthy_bool ?_
 cases c with
 |true=>exact hb pins s1 σ H1 Q I1 q1
 |false=>exact⟨.bl false,H1,I1,rfl,q1⟩
theorem Rh(ha:PE X a ta)(hb:PE X (.BoolOp .Or (b::rest) pos) tb):PE X (.BoolOp .Or (a::b::rest) pos) (V1 ta tb):=by
 intro pins s σ H Q I h
 refine BoolOp_or (thn (ha pins s σ H _ I h) fun v s1 ⟨x,H1,I1,r1,q1⟩=>?_)
 obtain⟨c,rfl,q1⟩:=q1
 cases r1
 refine wpAny_truthy_bool ?_
 cases c with
 |false=>exact hb pins s1 σ H1 Q I1 q1
 |true=>exact⟨.bl true,H1,I1,rfl,q1⟩
noncomputable def tIf(t:TT)(ta tb:TE):TE:=fun σ H Q=>t σ H fun c H1=>if c=true then ta σ H1 Q else tb σ H1 Q
theorem xq{c:Expr}(hc:PT X c tA)(ha:PE X a ta)(hb:PE X b tb):PE X (.IfExp c a b pos) (tIf tA ta tb):=by
 intro pins s σ H Q I h
 refine wpAny_IfExp (thn (hc pins s σ H _ I h) fun d s1 ⟨H1,I1,q1⟩=>?_)
 cases d with
 |true=>exact ha pins s1 σ H1 Q I1 q1
 |false=>exact hb pins s1 σ H1 Q I1 q1
end
end L2
namespace L2
open PySem PySem.Spec PyProof.Rows
noncomputable def SqL(K:PySem.W.Frag)(H:Hp)(a:Addr)(xs:List V):Prop:=
 Rd H a (.lst xs)∨
  ∃(o:Obj) (its:Array Value) (n:Nat),K.lookup a=some o/\o.cls = .type "list" /\ o.dict=none/\o.data = .seq its n/\its.size<=sizeLine/\Vals xs its.toList
noncomputable def SqT(K:PySem.W.Frag)(H:Hp)(a:Addr)(xs:List V):Prop:=
 Rd H a (.tup xs)∨
  ∃(o:Obj) (its:Array Value) (n:Nat),K.lookup a=some o/\o.cls = .type "tuple" /\ o.data = .seq its n/\its.size<=sizeLine/\Vals xs its.toList
noncomputable def Wr:Value->Option V
 |.none=>some .non
 |.bool b=>some (.bl b)
 |.int i _=>some (.int i)
 |.str x _=>some (.str x)
 |.bytes b _=>some (.byt b)
 |.float b _=>some (.flt b)
 |.ref a=>some (.ref a)
 |.type n=>some (.ty n)
 |_=>none
theorem RelV.abs{x:V}{u:Value}(r:RelV x u):Wr u=some x:=by
 cases x with
 |non=>cases r;rfl
 |bl _=>cases r;rfl
 |int _=>obtain⟨t,rfl⟩:=r;rfl
 |str _=>obtain⟨t,rfl⟩:=r;rfl
 |byt _=>obtain⟨t,rfl⟩:=r;rfl
 |flt _=>obtain⟨t,rfl⟩:=r;rfl
 |ref _=>cases r;rfl
 |ty _=>cases r;rfl
theorem RelV.inj{x y:V}{u:Value}(r:RelV x u)(q:RelV y u):x=y:=Option.some.inj (r.abs.symm.trans q.abs)
theorem Vals.inj{xs ys:List V}{us:List Value}(h:Vals xs us)(h':Vals ys us):xs=ys:=by
 induction h generalizing ys with
 |nil=>cases h';rfl
 |cons r t ih=>
  cases h' with
  |cons r' t'=>rw[r.inj r',ih t']
section
variable {X:Cx} {pins:List (Addr×Obj)} {σ:St} {H:Hp} {s:Shared} {a:Addr} {xs ys:List V}
theorem SqL.of{K:PySem.W.Frag}(h:H a=some (.lst xs)):SqL K H a xs:= .inl (.inl h)
theorem SqT.of{K:PySem.W.Frag}(h:H a=some (.tup xs)):SqT K H a xs:= .inl (.inl h)
theorem Inv.list(I:Inv X pins σ H s)(h:SqL X.K H a xs):∃its:List Value,Vals xs its/\PlainL s.heap a its.toArray/\xs.length<=sizeLine:=by
 rcases h with h|⟨o,its,n,hk,hc,hd,hs,hz,r⟩
 ·obtain⟨z,its,n,r,e⟩:=h.ok I.hok
  exact⟨its,r,⟨_,n,e,rfl,rfl,rfl⟩,z⟩
 ·refine⟨its.toList,r,⟨o,n,I.kIn a o hk,hc,hd,by simpa using hs⟩,?_⟩
  have e:=r.length
  simp only[Array.length_toList]at e
  omega
theorem Inv.tuple(I:Inv X pins σ H s)(h:SqT X.K H a xs):∃its:List Value,Vals xs its/\IsTup s.heap a its.toArray/\xs.length<=sizeLine:=by
 rcases h with h|⟨o,its,n,hk,hc,hs,hz,r⟩
 ·obtain⟨z,its,r,p⟩:=h.ok I.hok
  exact⟨its,r,p,z⟩
 ·refine⟨its.toList,r,⟨o,I.kIn a o hk,hc,n,by simpa using hs⟩,?_⟩
  have e:=r.length
  simp only[Array.length_toList]at e
  omega
theorem Inv.D7(I:Inv X pins σ H s)(h:SqL X.K H a xs)(h':SqL X.K H a ys):xs=ys:=by
 obtain⟨its,r,⟨o,n,e,_,_,d⟩,_⟩:=I.list h
 obtain⟨its',r',⟨o',n',e',_,_,d'⟩,_⟩:=I.list h'
 rw[e]at e';cases e'
 rw[d]at d'
 injection d' with d1 _
 have:its=its':=by simpa using congrArg Array.toList d1
 subst this
 exact r.inj r'
theorem Inv.BZ(I:Inv X pins σ H s)(h:SqT X.K H a xs)(h':SqT X.K H a ys):xs=ys:=by
 obtain⟨its,r,⟨o,e,_,n,d⟩,_⟩:=I.tuple h
 obtain⟨its',r',⟨o',e',_,n',d'⟩,_⟩:=I.tuple h'
 rw[e]at e';cases e'
 rw[d]at d'
 injection d' with d1 _
 have:its=its':=by simpa using congrArg Array.toList d1
 subst this
 exact r.inj r'
end
noncomputable abbrev Cx.wish(X:Cx)(E:Value->Shared->Prop):Cx:={ X with xe:=E }
noncomputable abbrev Cx.nox(X:Cx):Cx:=X.wish fun _ _=>False
theorem Cx.Ok.wish{X:Cx}(ok:X.Ok)(E:Value->Shared->Prop):(X.wish E).Ok:=
 ⟨ok.mod,ok.kind,ok.glob,ok.blt,ok.above,ok.inj,ok.has,ok.cab,ok.hd,ok.frames,ok.stk,ok.exf,ok.bs,ok.bsz,ok.noex,ok.exfs,ok.yF,ok.frf⟩
theorem Cx.Ok.lG{X:Cx}{E:Value->Shared->Prop}(ok:(X.wish E).Ok):X.Ok:=
 ⟨ok.mod,ok.kind,ok.glob,ok.blt,ok.above,ok.inj,ok.has,ok.cab,ok.hd,ok.frames,ok.stk,ok.exf,ok.bs,ok.bsz,ok.noex,ok.exfs,ok.yF,ok.frf⟩
section
variable {X:Cx} {pins:List (Addr×Obj)} {σ:St} {H:Hp} {s:Shared} {E:Value->Shared->Prop}
theorem Inv.wish(I:Inv X pins σ H s)(E:Value->Shared->Prop):Inv (X.wish E) pins σ H s:=⟨I.ok.wish E,I.os,I.bare,I.base,I.loc,I.cell,I.free,I.freeC,I.pin,I.hok,I.len⟩
theorem Inv.lG(I:Inv (X.wish E) pins σ H s):Inv X pins σ H s:=⟨I.ok.lG,I.os,I.bare,I.base,I.loc,I.cell,I.free,I.freeC,I.pin,I.hok,I.len⟩
theorem SP.lG{D:Ends}{f:Flow}{s':Shared}(h:SP (X.wish E) pins D f s'):SP X pins D f s':=by
 cases f with
 |next=>obtain⟨σ',H',I,q⟩:=h;exact⟨σ',H',I.lG,q⟩
 |brk=>obtain⟨σ',H',I,q⟩:=h;exact⟨σ',H',I.lG,q⟩
 |cont=>obtain⟨σ',H',I,q⟩:=h;exact⟨σ',H',I.lG,q⟩
 |ret u=>obtain⟨v,σ',H',I,r,q⟩:=h;exact⟨v,σ',H',I.lG,r,q⟩
theorem PSs.nox{st:List Stmt}{t:TS}(h:PSs X.nox st t):PSs X st t:=fun pins s σ H D I hw=>
 wpAny_mono (h pins s σ H D (I.wish _) hw) (fun _ _ q=>q.lG) fun _ _ z=>False.elim z
end
section
variable {X:Cx} {st:Stmt} {rest:List Stmt} {t u:TS} {e:Expr} {te:TE} {pos:Pos}
noncomputable def LK:TS:=fun D σ H=>D.nx σ H
noncomputable def Wd(t u:TS):TS:=fun D σ H=>t { D with nx:=u D } σ H
theorem cC:PSs X [] LK:=fun _ _ σ H _ I h=>wpAny_execs_nil ⟨σ,H,I,h⟩
theorem ao(h1:PS X st t)(h2:PSs X rest u):PSs X (st::rest) (Wd t u):=by
 intro pins s σ H D I h
 refine wpAny_execs_cons (thn (h1 pins s σ H { D with nx:=u D } I h) fun f s1 q=>?_)
 cases f with
 |next=>
  obtain⟨σ',H',I',q⟩:=q
  exact h2 pins s1 σ' H' D I' q
 |ret v=>exact q
 |brk=>exact q
 |cont=>exact q
theorem aJ(h1:PS X st t):PSs X [st] t:=by
 intro pins s σ H D I h
 refine wpAny_execs_cons (thn (h1 pins s σ H D I h) fun f s1 q=>?_)
 cases f with
 |next=>exact wpAny_execs_nil q
 |ret v=>exact q
 |brk=>exact q
 |cont=>exact q
theorem Inv.quiet{pins:List (Addr×Obj)}{σ:St}{H:Hp}{s:Shared}(I:Inv X pins σ H s):interactive X.env=false:=by simp[interactive,I.ok.kind]
noncomputable def Lx(te:TE):TS:=fun D σ H=>te σ H fun _ H1=>D.nx σ H1
theorem uU(he:PE X e te)(hs:swapsWith e none pos.line X.env=pure false:=by rfl):PS X (.Expr e pos) (Lx te):=by
 intro pins s σ H D I h
 exact wpAny_Expr_any (thn (he pins s σ H _ I h) fun v s1 ⟨x,H1,I1,r1,q1⟩=>⟨σ,H1,I1,q1⟩) I.quiet hs
noncomputable def Wm(te:TE):TS:=fun D σ H=>te σ H D.rt
theorem bh(he:PE X e te):PS X (.Return (some e) pos) (Wm te):=by
 intro pins s σ H D I h
 exact wpAny_Return_some (thn (he pins s σ H _ I h) fun v s1 ⟨x,H1,I1,r1,q1⟩=>⟨x,σ,H1,I1,r1,q1⟩)
noncomputable def V3(c:TT)(t u:TS):TS:=fun D σ H=>c σ H fun b H1=>if b=true then t D σ H1 else u D σ H1
theorem fJ{c:Expr}{a b:List Stmt}{tc:TT}(hc:PT X c tc)(ha:PSs X a t)(hb:PSs X b u):PS X (.If c a b pos) (V3 tc t u):=by
 intro pins s σ H D I h
 refine wpAny_If (thn (hc pins s σ H _ I h) fun d s1 ⟨H1,I1,q1⟩=>?_)
 cases d with
 |true=>exact ha pins s1 σ H1 D I1 q1
 |false=>exact hb pins s1 σ H1 D I1 q1
noncomputable def KP:TS:=fun _ _ _=>False
theorem xK:PS X st KP:=fun _ _ _ _ _ _ h=>h.elim
end
noncomputable abbrev TG:=V->St->Hp->(St->Hp->Prop)->Prop
noncomputable abbrev TGs:=List V->St->Hp->(St->Hp->Prop)->Prop
noncomputable def PG(X:Cx)(target:Expr)(t:TG):Prop:=
 ∀(pins:List (Addr×Obj)) (s:Shared) (σ:St) (H:Hp) (v:V) (u:Value) (Q:St->Hp->Prop),Inv X pins σ H s->RelV v u->t v σ H Q->
  wpAny (model X.prog X.w) X.A (assign target X.env u) (fun _ s'=>∃σ' H',Inv X pins σ' H' s'/\Q σ' H') X.xe s
noncomputable def PGs(X:Cx)(ts:List Expr)(t:TGs):Prop:=
 ∀(pins:List (Addr×Obj)) (s:Shared) (σ:St) (H:Hp) (vs:List V) (us:List Value) (Q:St->Hp->Prop),Inv X pins σ H s->Vals vs us->t vs σ H Q->
  wpAny (model X.prog X.w) X.A (assignInOrder ((assignEach ts X.env).map (·.2)) us) (fun _ s'=>∃σ' H',Inv X pins σ' H' s'/\Q σ' H') X.xe s
noncomputable abbrev PN:=V->V->V->Hp->(Hp->Prop)->Prop
noncomputable def U8(X:Cx)(t:PN):Prop:=
 ∀(pins:List (Addr×Obj)) (s:Shared) (σ:St) (H:Hp) (o i v:V) (ov iv u:Value) (Q:Hp->Prop),Inv X pins σ H s->RelV o ov->RelV i iv->RelV v u->t o i v H Q->
  wpAny (model X.prog X.w) X.A (setItem ov iv u) (fun _ s'=>∃H',Inv X pins σ H' s'/\Q H') X.xe s
section
variable {X:Cx} {pos:Pos}
noncomputable def kE(i:Nat):TG:=fun v σ H Q=>Q (σ.set i (some v)) H
theorem bK{i:Nat}{x:Str}(hN:X.N.Nodup)(hi:X.N[i]?=some x)(hx:Loc X.env.scope x)(hf:X.fn x=true∨X.env.scope.names.lookup x=some .local:=by first|exact .inl rfl|exact .inr rfl|assumption):PG X (.Name x pos) (kE i):=by
 intro pins s σ H v u Q I r h
 exact wpAny_assign_Name (kY I hN hi hx r (fun s' I'=>⟨_,H,I',h⟩) hf)
noncomputable def Wx:TGs:=fun vs σ H Q=>vs=[]/\Q σ H
inductive Uc(t:TG)(u:TGs)(vs:List V)(σ:St)(H:Hp)(Q:St->Hp->Prop):Prop|mk (v:V) (r:List V) (h:vs=v::r) (q:t v σ H fun σ' H'=>u r σ' H' Q)
noncomputable def Ny(t:TG)(u:TGs):TGs:=fun vs σ H Q=>Uc t u vs σ H Q
theorem wu:PGs X [] Wx:=by
 intro pins s σ H vs us Q I r h
 obtain⟨e,h⟩:=h
 subst e
 cases r
 exact assignInOrder_nil ⟨σ,H,I,h⟩
theorem gM{e:Expr}{es:List Expr}{t:TG}{u:TGs}(h1:PG X e t)(h2:PGs X es u)
  (hs:(assignEach (e::es) X.env).map (·.2)=assign e X.env::(assignEach es X.env).map (·.2):=by rfl):PGs X (e::es) (Ny t u):=by
 intro pins s σ H vs us Q I r h
 obtain⟨v,vr,e1,h⟩:=h
 subst e1
 cases r with
 |cons r rr=>
  rw[hs]
  refine assignInOrder_cons (thn (h1 pins s σ H _ _ _ I r h) fun _ s1 ⟨σ1,H1,I1,q1⟩=>?_)
  exact h2 pins s1 σ1 H1 _ _ Q I1 rr q1
noncomputable def VB(K:PySem.W.Frag)(n:Nat)(t:TGs):TG:=fun v σ H Q=>∃a xs,v = .ref a/\SqT K H a xs/\xs.length=n/\t xs σ H Q
theorem JT{es:List Expr}{k:Nat}{t:TGs}{n:Nat}(hc:X.calm=true)(h:PGs X es t)
  (hn:(assignEach es X.env).length=n:=by rfl) (hst:(assignEach es X.env).findIdx? (·.1)=none:=by rfl):PG X (.Tuple es k pos) (VB X.K n t):=by
 intro pins s σ H v u Q I r hw
 obtain⟨a,xs,e1,hq,hl,hw⟩:=hw
 subst e1
 cases r
 obtain⟨its,rv,ht,hz⟩:=I.tuple hq
 refine assign_Tuple_tuple (I.ok.hd hc) ht (by simp[hn,<-hl,rv.length]) hst fun h' hx=>?_
 have I1:Inv X pins σ H { s with heap:=h' }:=I.kept (t':=s.toks) fun b o e=>hx b o (Nat.ne_of_lt (Heap.lt_size e)) e
 exact h pins _ σ H xs _ Q I1 (by simpa using rv) hw
noncomputable def VG(to ti:TE)(t:PN):TG:=fun v σ H Q=>to σ H fun o H1=>ti σ H1 fun i H2=>t o i v H2 fun H3=>Q σ H3
theorem nJ{o i:Expr}{to ti:TE}{t:PN}(ho:PE X o to)(hi:PE X i ti)(hs:U8 X t)
  (ha:∀v,assign (.Subscript o i pos) X.env v=(do
   let ov<-holding [v] (eval o X.env)
   let iv<-holding [v,ov] (eval i X.env)
   standAt pos
   holding [v,ov,iv] (setItem ov iv v)
   release [v,ov,iv] []):=by intro _;rfl):PG X (.Subscript o i pos) (VG to ti t):=by
 intro pins s σ H v u Q I r h
 rw[ha]
 refine wpAny_bind (wpAny_holding (thn (ho pins s σ H _ I h) fun ov s1 ⟨x,H1,I1,r1,q1⟩=>?_))
 refine wpAny_bind (wpAny_holding (thn (hi pins s1 σ H1 _ I1 q1) fun iv s2 ⟨y,H2,I2,r2,q2⟩=>?_))
 refine wpAny_bind (wpAny_standAt (wpAny_bind (wpAny_holding (thn (hs pins s2 σ H2 x y v ov iv u _ I2 r1 r2 r q2) fun _ s3 ⟨H3,I3,q3⟩=>?_))))
 exact wpAny_release ⟨σ,H3,I3,q3⟩
noncomputable def TN(te:TE)(g:TG):TS:=fun D σ H=>te σ H fun x H1=>g x σ H1 D.nx
theorem mZ{tg e:Expr}{te:TE}{g:TG}(he:PE X e te)(hg:PG X tg g)(hs:swapsWithSole [tg] e pos.line X.env=pure false:=by rfl)(hw:swappedStores [tg] e X.env=pure none:=by rfl)
  (h1:(assignEach [tg] X.env).map (·.2)=[assign tg X.env]:=by rfl):PS X (.Assign [tg] e pos) (TN te g):=by
 intro pins s σ H D I h
 refine wpAny_Assign_stores (thn (he pins s σ H _ I h) fun v s1 ⟨x,H1,I1,r1,q1⟩=>?_) hs hw
 rw[h1]
 exact thn (hg pins s1 σ H1 x v _ I1 r1 q1) fun _ s2 q=>q
theorem aL{i:Nat}{x:Str}{e:Expr}{te:TE}{pos':Pos}(hN:X.N.Nodup)(hi:X.N[i]?=some x)(hx:Loc X.env.scope x)(he:PE X e te)(hs:swapsWith e (some (.Name x pos')) pos.line X.env=pure false:=by rfl)(hf:X.fn x=true∨X.env.scope.names.lookup x=some .local:=by first|exact .inl rfl|exact .inr rfl|assumption):
  PS X (.Assign [.Name x pos'] e pos) (TN te (kE i)):=by
 intro pins s σ H D I h
 refine wpAny_Assign_Name (thn (he pins s σ H _ I h) fun v s1 ⟨y,H1,I1,r1,q1⟩=>?_) hs
 exact kY I1 hN hi hx r1 (fun s2 I2=>⟨_,H1,I2,q1⟩) hf
end
section
variable {X:Cx} {pos:Pos}
noncomputable def Jt(c:TT)(tb:TS):TS:=fun D σ H=>∃W:Nat->St->Hp->Prop,(∃m,W m σ H)/\∀m σ H,W m σ H->
 c σ H fun b H1=>if b=true then ∃N:St->Hp->Prop,(∀σ' H',N σ' H'->∃m',m'<m/\W m' σ' H')/\tb { D with nx:=N,ct:=N,bk:=D.nx } σ H1 else D.nx σ H1
theorem jd{c:Expr}{body:List Stmt}{tc:TT}{tb:TS}(hp:PassesOwn (model X.prog X.w) X.A X.env X.xe)(hc:PT X c tc)(hb:PSs X body tb):PS X (.While c body [] pos) (Jt tc tb):=by
 intro pins s σ H D I h
 obtain⟨W,⟨m0,w0⟩,turn⟩:=h
 refine wpAny_While (codeAny_whileLoop (fun n s'=>∃σ' H',Inv X pins σ' H' s'/\W n σ' H') ?_ m0 ⟨σ,H,I,w0⟩)
 rintro n s1 ⟨σ1,H1,I1,w1⟩
 refine wpAny_passesOwn hp (thn (hc pins s1 σ1 H1 _ I1 (turn n σ1 H1 w1)) fun b s2 ⟨H2,I2,q2⟩=>?_)
 cases b with
 |true=>
  obtain⟨N,hN,q2⟩:=q2
  rw[if_pos rfl]
  refine wpAny_passesOwn hp (thn (hb pins s2 σ1 H2 _ I2 q2) fun f s3 q3=>?_)
  cases f with
  |next=>
   obtain⟨σ3,H3,I3,n3⟩:=q3
   obtain⟨m',hm,w3⟩:=hN σ3 H3 n3
   exact⟨m',hm,σ3,H3,I3,w3⟩
  |cont=>
   obtain⟨σ3,H3,I3,n3⟩:=q3
   obtain⟨m',hm,w3⟩:=hN σ3 H3 n3
   exact⟨m',hm,σ3,H3,I3,w3⟩
  |brk=>exact q3
  |ret v=>exact q3
 |false=>
  rw[if_neg Bool.false_ne_true]
  exact wpAny_execs_nil ⟨σ1,H2,I2,q2⟩
end
structure It where
 go:Nat->Hp->Prop
 yld:Nat->Hp->V->Hp->Prop
 stop:Nat->Hp->Prop
noncomputable def zu(X:Cx)(pins:List (Addr×Obj))(H:Hp)(b:Addr):Prop:=
 H b=none/\b≠X.env.locals/\b∉X.fs/\(b∈X.ex∨X.s₀.heap.objs.size<=b)/\(∀x c,X.env.cells.lookup x=some c->c≠b)/\∀p∈X.pn++pins,p.1≠b
theorem Inv.Ij{X:Cx}{pins:List (Addr×Obj)}{σ:St}{H H':Hp}{s:Shared}{b:Addr}(I:Inv X pins σ H s)(hb:s.heap.objs.size<=b)(hn:H' b=none):zu X pins H' b:=by
 refine⟨hn,Nat.ne_of_gt (Nat.lt_of_lt_of_le I.lt hb),I.Nm hb,.inr (Nat.le_trans I.sz hb),fun x c e z=>?_,fun p hp z=>?_⟩
 ·obtain⟨v,q⟩:=I.cell x c e
  exact absurd (Nat.lt_of_lt_of_le q.lt (by rw[z];exact hb)) (Nat.lt_irrefl _)
 ·exact absurd (Nat.lt_of_lt_of_le (Heap.lt_size (I.pin p hp).1) (by rw[z];exact hb)) (Nat.lt_irrefl _)
structure Turn(P:Program)(w:World)(K:PySem.W.Frag)(tg:Expr)(J:It)(fp:List Addr)(it:Addr)(tn:Nat->Heap->Prop):Prop where
 mem:it∈fp
 obj:∀i h,tn i h->∀b∈fp,∃o,h.get? b=some o/\∀v,o.data≠ .cell v
 keep:∀i h h',tn i h->(∀b∈fp,∀o,h.get? b=some o->h'.get? b=some o)->tn i h'
 item:∀(X:Cx),X.prog=P->X.w=w->X.K=K->X.calm=true->∀(i:Nat) (pins:List (Addr×Obj)) (s:Shared) (σ:St) (H:Hp) (E:Value->Shared->Prop),Inv X pins σ H s->(∀b∈fp,zu X pins H b)->tn i s.heap->J.go i H->
  wpAny (model P w) X.A (pyNext (.ref it)) (fun r s1=>∃u,r=some u/\
   wpAny (model P w) X.A (letOwnedTupleGo tg (.ref it) u) (fun _ s2=>∃x H',Inv X pins σ H' s2/\RelV x u/\J.yld i H x H'/\tn (i+1) s2.heap/\∀b∈fp,H' b=none) E s1) E s
 done:∀(X:Cx),X.prog=P->X.w=w->X.K=K->X.calm=true->∀(i:Nat) (pins:List (Addr×Obj)) (s:Shared) (σ:St) (H:Hp) (E:Value->Shared->Prop),Inv X pins σ H s->(∀b∈fp,zu X pins H b)->tn i s.heap->J.stop i H->
  wpAny (model P w) X.A (pyNext (.ref it)) (fun r s1=>r=none/\Inv X pins σ H s1) E s
 self:∀(A:Around) (i:Nat) (s:Shared) (Q:Value->Shared->Prop) (E:Value->Shared->Prop),tn i s.heap->Q (.ref it) s->wpAny (model P w) A (pyIter (.ref it)) Q E s
noncomputable abbrev TI:=St->Hp->(It->Hp->Prop)->Prop
noncomputable def PIE(X:Cx)(pins:List (Addr×Obj))(σ:St)(tg:Expr)(R:It->Hp->Prop)(itv:Value)(s2:Shared):Prop:=
 ∃(it:Addr) (fp:List Addr) (tn:Nat->Heap->Prop) (J:It) (H':Hp),itv = .ref it/\Inv X pins σ H' s2/\Turn X.prog X.w X.K tg J fp it tn/\tn 0 s2.heap/\(∀b∈fp,zu X pins H' b)/\R J H'
noncomputable def PI(X:Cx)(tg iter:Expr)(wi:TI):Prop:=
 ∀(pins:List (Addr×Obj)) (s:Shared) (σ:St) (H:Hp) (R:It->Hp->Prop),Inv X pins σ H s->wi σ H R->
  wpAny (model X.prog X.w) X.A (eval iter X.env) (fun v s1=>wpAny (model X.prog X.w) X.A (pyIter v) (PIE X pins σ tg R) X.xe s1) X.xe s
theorem DN{M:Model}{A:Around}{E:Value->Shared->Prop}{s:Shared}{tg:Expr}{it:Addr}{u:Value}{o:Obj}{n:String}{vs:Array Value}{Q:Unit->Shared->Prop}(ho:s.heap.get? it=some o)(hc:o.cls = .type n)(hd:o.data = .fields vs)
  (hn:["enumerate","zip","dict_itemiterator","dict_reverseitemiterator","odict_iterator","itertools.zip_longest","itertools.pairwise"].contains n=false) (hQ:Q () s):wpAny M A (letOwnedTupleGo tg (.ref it) u) Q E s:=by
 unfold letOwnedTupleGo
 cases tg<;>first
  |exact wpAny_pure hQ
  |(cases u<;>first
    |exact wpAny_pure hQ
    |(refine wpAny_bind (wpAny_load ho ?_);rw[hc,hd];show wpAny M A (if(["enumerate","zip","dict_itemiterator","dict_reverseitemiterator","odict_iterator","itertools.zip_longest","itertools.pairwise"].contains n&&vs[0]?==some (rawInt _))=true then _ else _) Q E s;rw[if_neg (by intro h;rw[hn,Bool.false_and]at h;cases h)];exact wpAny_pure hQ))
noncomputable def Itl(K:PySem.W.Frag)(a:Addr):It:=
 ⟨fun i H=>∃xs x,SqL K H a xs/\xs[i]?=some x,fun i H x H'=>H'=H/\∀xs,SqL K H a xs->xs[i]?=some x,fun i H=>∃xs,SqL K H a xs/\xs.length<=i⟩
noncomputable def Itt(K:PySem.W.Frag)(a:Addr):It:=
 ⟨fun i H=>∃xs x,SqT K H a xs/\xs[i]?=some x,fun i H x H'=>H'=H/\∀xs,SqT K H a xs->xs[i]?=some x,fun i H=>∃xs,SqT K H a xs/\xs.length<=i⟩
noncomputable def Itr(lo:Int)(n:Nat):It:=⟨fun i _=>i<n,fun i H x H'=>H'=H/\x = .int (lo+i),fun i _=>n<=i⟩
theorem Cz{P:Program}{w:World}{K:PySem.W.Frag}{tg:Expr}(a it:Addr):Turn P w K tg (Itl K a) [it] it (fun i h=>h.IsListIter it a i) where
 mem:=by simp
 obj:=fun i h st b hb=>by
  have e:b=it:=by simpa using hb
  subst e
  obtain⟨o,e,c,d⟩:=st
  exact⟨o,e,fun v z=>by rw[d]at z;cases z⟩
 keep:=fun i h h' st k=>st.at fun o e=>k it (by simp) o e
 item:=by
  intro X hP hw hK hc i pins s σ H E I hf st hg
  subst hP hw hK
  obtain⟨xs,x,hq,hx⟩:=hg
  obtain⟨its,rv,p,hz⟩:=I.list hq
  obtain⟨u,hu,ru⟩:=rv.get hx
  obtain⟨f0,f1,f2,f3,f4,f5⟩:=hf it (by simp)
  refine wpAny_pyNext_list_item st p.isList (x:=u) (by simpa using hu) fun h' st' sb=>?_
  have I1:Inv X pins σ H { s with heap:=h' }:=I.turned (t':=s.toks) (fun b o hb e=>(sb.2 b hb).trans e) f0 f1 f3 f4 f5
  obtain⟨o,e,c,d⟩:=id st'
  exact⟨u,rfl,DN (s:={ s with heap:=h' }) e c d (by decide) ⟨x,H,I1,ru,⟨rfl,fun ys hy=>by rw[I.D7 hy hq];exact hx⟩,st',fun b hb=>(hf b hb).1⟩⟩
 done:=by
  intro X hP hw hK hc i pins s σ H E I hf st hg
  subst hP hw hK
  obtain⟨xs,hq,hx⟩:=hg
  obtain⟨its,rv,p,hz⟩:=I.list hq
  obtain⟨f0,f1,f2,f3,f4,f5⟩:=hf it (by simp)
  have hl:=rv.length
  exact wpAny_pyNext_list_end (I.ok.hd hc) st p.isList (by simp;omega) fun h' eb=>⟨rfl,I.turned (t':=s.toks) (fun b o hb e=>eb b o hb e) f0 f1 f3 f4 f5⟩
 self:=fun _ _ _ _ _ st h=>wpAny_pyIter_listiter st h
theorem yp{P:Program}{w:World}{K:PySem.W.Frag}{tg:Expr}(a it:Addr):Turn P w K tg (Itt K a) [it] it (fun i h=>h.IsTupleIter it a i) where
 mem:=by simp
 obj:=fun i h st b hb=>by
  have e:b=it:=by simpa using hb
  subst e
  obtain⟨o,e,c,d⟩:=st
  exact⟨o,e,fun v z=>by rw[d]at z;cases z⟩
 keep:=fun i h h' st k=>st.at fun o e=>k it (by simp) o e
 item:=by
  intro X hP hw hK hc i pins s σ H E I hf st hg
  subst hP hw hK
  obtain⟨xs,x,hq,hx⟩:=hg
  obtain⟨its,rv,p,hz⟩:=I.tuple hq
  obtain⟨u,hu,ru⟩:=rv.get hx
  obtain⟨f0,f1,f2,f3,f4,f5⟩:=hf it (by simp)
  refine wpAny_pyNext_tuple_item st (show s.heap.IsTuple a its.toArray from p) (x:=u) (by simpa using hu) fun h' st' sb=>?_
  have I1:Inv X pins σ H { s with heap:=h' }:=I.turned (t':=s.toks) (fun b o hb e=>(sb.2 b hb).trans e) f0 f1 f3 f4 f5
  obtain⟨o,e,c,d⟩:=id st'
  exact⟨u,rfl,DN (s:={ s with heap:=h' }) e c d (by decide) ⟨x,H,I1,ru,⟨rfl,fun ys hy=>by rw[I.BZ hy hq];exact hx⟩,st',fun b hb=>(hf b hb).1⟩⟩
 done:=by
  intro X hP hw hK hc i pins s σ H E I hf st hg
  subst hP hw hK
  obtain⟨xs,hq,hx⟩:=hg
  obtain⟨its,rv,p,hz⟩:=I.tuple hq
  obtain⟨f0,f1,f2,f3,f4,f5⟩:=hf it (by simp)
  have hl:=rv.length
  exact wpAny_pyNext_tuple_end (I.ok.hd hc) st (show s.heap.IsTuple a its.toArray from p) (by simp;omega) fun h' eb=>⟨rfl,I.turned (t':=s.toks) (fun b o hb e=>eb b o hb e) f0 f1 f3 f4 f5⟩
 self:=fun _ _ _ _ _ st h=>wpAny_pyIter_tupleiter st h
theorem yK{P:Program}{w:World}{K:PySem.W.Frag}{tg:Expr}(it:Addr)(lo:Int)(n:Nat):Turn P w K tg (Itr lo n) [it] it (fun i h=>IsRangeIter h it (lo+(i:Nat)*1) ((n:Int)-(i:Nat)) 1) where
 mem:=by simp
 obj:=fun i h st b hb=>by
  have e:b=it:=by simpa using hb
  subst e
  exact⟨_,st,fun v z=>by
   have z':Data.fields _=Data.cell v:=z
   cases z'⟩
 keep:=fun i h h' st k=>k it (by simp) _ st
 item:=by
  intro X hP hw hK hc i pins s σ H E I hf st hg
  subst hP hw hK
  obtain⟨f0,f1,f2,f3,f4,f5⟩:=hf it (by simp)
  have W:=Walks.range (prog:=X.prog) (w:=X.w) (I.ok.hd hc) it lo 1 n
  refine W.item i s _ _ hg st fun v h' tk hv st' kk=>?_
  obtain⟨t,rfl⟩:=hv
  have I1:Inv X pins σ H { s with heap:=h',toks:=tk }:=I.turned (fun b o hb e=>kk b o (by simpa using hb) e) f0 f1 f3 f4 f5
  refine⟨_,rfl,DN (s:={ s with heap:=h',toks:=tk }) (n:= "range_iterator") st' rfl rfl (by decide) ⟨.int (lo+i),H,I1,⟨t,?_⟩,⟨rfl,rfl⟩,st',fun b hb=>(hf b hb).1⟩⟩
  rw[Int.mul_one]
 done:=by
  intro X hP hw hK hc i pins s σ H E I hf st hg
  subst hP hw hK
  obtain⟨f0,f1,f2,f3,f4,f5⟩:=hf it (by simp)
  exact wpAny_pyNext_range_end (I.ok.hd hc) st (by have:n<=i:=hg;omega) fun h' eb=>⟨rfl,I.turned (t':=s.toks) (fun b o hb e=>eb b o hb e) f0 f1 f3 f4 f5⟩
 self:=fun _ _ _ _ _ st h=>wpAny_pyIter_rangeiter st h
end L2
namespace L2
open PySem PySem.Spec PyProof.Rows
section
variable {X:Cx} {tg:Expr}
noncomputable def Qn(K:PySem.W.Frag)(tl:TE):TI:=fun σ H R=>tl σ H fun x H1=>∃a,x = .ref a/\(∃xs,SqL K H1 a xs)/\R (Itl K a) H1
theorem wN{pins:List (Addr×Obj)}{σ:St}{H:Hp}{s:Shared}{R:It->Hp->Prop}{E:Value->Shared->Prop}{lo hi:Int}{t u v:Tok}{tk:Nat}(I:Inv X pins σ H s)(h1:-(2^62)<=lo)(h2:lo<2^62)(h3:-(2^62)<=hi)(h4:hi<2^62)
  (q:R (Itr lo (hi-lo).toNat) H):wpAny (model X.prog X.w) X.A (pyIter (.ref s.heap.objs.size)) (PIE X pins σ tg R) E { s with heap:=s.heap.push { cls:= .type "range",data:= .fields #[.int lo t,.int hi u,.int 1 v] },toks:=tk }:=by
 refine wpAny_pyIter_range (IsRange.new ..) (small_one h1 h2 h3 h4) ?_
 have I1:Inv X pins σ H { s with heap:=s.heap.push { cls:= .type "range",data:= .fields #[.int lo t,.int hi u,.int 1 v] },toks:=tk }:=I.kept fun b o e=>Heap.get?_push_of_some _ e
 refine⟨(s.heap.push { cls:= .type "range",data:= .fields #[.int lo t,.int hi u,.int 1 v] }).objs.size,[(s.heap.push { cls:= .type "range",data:= .fields #[.int lo t,.int hi u,.int 1 v] }).objs.size],_,_,H,rfl,
  I1.kept (t':=tk) fun b o e=>Heap.get?_push_of_some _ e,yK _ lo (hi-lo).toNat,?_,fun b hb=>?_,q⟩
 ·have e1:lo+((0:Nat):Int)*1=lo:=by simp
  have e2:(((hi-lo).toNat:Nat):Int)-((0:Nat):Int)=Builtin.Range.rangeSize lo hi 1:=by rw[rangeSize_one];split<;>omega
  show IsRangeIter _ _ (lo+((0:Nat):Int)*1) ((((hi-lo).toNat:Nat):Int)-((0:Nat):Int)) 1
  rw[e1,e2]
  exact Heap.get?_push_size _ rfl
 ·have e:b=(s.heap.push { cls:= .type "range",data:= .fields #[.int lo t,.int hi u,.int 1 v] }).objs.size:=by simpa using hb
  subst e
  exact I1.Ij (Nat.le_refl _) (I1.hok.fresh (Nat.le_refl _))
inductive MZ(vs:List V)(H:Hp)(R:It->Hp->Prop):Prop|mk (j:Int) (h:vs=[.int j]) (h1:-(2^62)<=j) (h2:j<2^62) (q:R (Itr 0 j.toNat) H)
noncomputable def Td(ta:TA):TI:=fun σ H R=>ta σ H fun vs H1=>MZ vs H1 R
noncomputable def K8(ta:TA):TI:=fun σ H R=>ta σ H fun vs H1=>∃i j:Int,vs=[.int i,.int j]/\(-(2^62)<=i/\i<2^62/\-(2^62)<=j/\j<2^62)/\R (Itr i (j-i).toNat) H1
theorem cH{a:Expr}{ta:TA}{p pos:Pos}(hg:Gl X "range")(hm:X.mg "range" = none)(ha:PA X [a] ta)(hs:starEach [a] X.env=[(false,eval a X.env)]:=by rfl):PI X tg (.Call (.Name "range" p) [a] [] pos) (Td ta):=by
 intro pins s σ H R I h
 refine Call_ (qK I hg hm boot_range (PyProof.Rows.callWith_type1 (thn (ha pos pins s σ H _ I h) fun us s1 ⟨vs,H1,I1,r1,q1⟩=>?_) hs rfl))
 obtain⟨j,e,q1,q2,q⟩:=q1
 subst e
 cases r1 with
 |cons r rr=>
  cases rr
  obtain⟨t,rfl⟩:=r
  exact call_range_1 (wN I1 (by omega) (by omega) q1 q2 (by simpa using q))
theorem nW{a b:Expr}{ta:TA}{p pos:Pos}(hg:Gl X "range")(hm:X.mg "range" = none)(ha:PA X [a,b] ta)(hs:starEach [a,b] X.env=[(false,eval a X.env),(false,eval b X.env)]:=by rfl)(hs2:starEach [b] X.env=[(false,eval b X.env)]:=by rfl):
  PI X tg (.Call (.Name "range" p) [a,b] [] pos) (K8 ta):=by
 intro pins s σ H R I h
 refine Call_ (qK I hg hm boot_range (PyProof.Rows.callWith_type1 (thn (ha pos pins s σ H _ I h) fun us s1 ⟨vs,H1,I1,r1,q1⟩=>?_) (by rw[hs,hs2]) (by rw[hs2];rfl)))
 obtain⟨i,j,e,⟨q1,q2,q3,q4⟩,q⟩:=q1
 subst e
 cases r1 with
 |cons r rr=>
  cases rr with
  |cons r' rr=>
   cases rr
   obtain⟨t,rfl⟩:=r
   obtain⟨t',rfl⟩:=r'
   exact call_range_2 (wN I1 q1 q2 q3 q4 q)
noncomputable def V9(wi:TI)(g:TG)(tb:TS):TS:=fun D σ H=>wi σ H fun J H1=>∃W:Nat->Nat->St->Hp->Prop,(∃m,W 0 m σ H1)/\∀i m σ H,W i m σ H->
 (J.stop i H/\D.nx σ H)∨(J.go i H/\∃N:St->Hp->Prop,(∀σ' H',N σ' H'->∃m',m'<m/\W (i+1) m' σ' H')/\∀x H',J.yld i H x H'->g x σ H' fun σ2 H2=>tb { D with nx:=N,ct:=N,bk:=D.nx } σ2 H2)
noncomputable def qN(fp:List Addr)(h:Heap):List (Addr×Obj):=fp.filterMap fun b=>(h.get? b).map fun o=>(b,o)
theorem eU{fp:List Addr}{h:Heap}{b:Addr}{o:Obj}(hb:b∈fp)(e:h.get? b=some o):(b,o)∈qN fp h:=List.mem_filterMap.mpr ⟨b,hb,by rw[e];rfl⟩
theorem BX{fp:List Addr}{h:Heap}{p:Addr×Obj}(hp:p∈qN fp h):p.1∈fp/\h.get? p.1=some p.2:=by
 obtain⟨b,hb,e⟩:=List.mem_filterMap.mp hp
 cases q:h.get? b with
 |none=>rw[q]at e;cases e
 |some o=>
  rw[q]at e
  have e':(b,o)=p:=Option.some.inj e
  subst e'
  exact⟨hb,q⟩
theorem Inv.pinned{pins:List (Addr×Obj)}{σ:St}{H:Hp}{s:Shared}{fp:List Addr}(I:Inv X pins σ H s)(hf:∀b∈fp,zu X pins H b)(ho:∀b∈fp,∃o,s.heap.get? b=some o/\∀v,o.data≠ .cell v):Inv X (pins++qN fp s.heap) σ H s:=
 I.Ad fun p hp=>(List.mem_append.mp hp).elim (fun z=>I.pin p (List.mem_append_right _ z)) fun z=>by
  obtain⟨hb,e⟩:=BX z
  obtain⟨f0,f1,f2,_⟩:=hf p.1 hb
  obtain⟨o,e',d⟩:=ho p.1 hb
  rw[e]at e';cases e'
  exact⟨e,f0,f1,f2,d⟩
theorem Inv.jM{pins pl:List (Addr×Obj)}{σ:St}{H:Hp}{s:Shared}(I:Inv X (pins++pl) σ H s):Inv X pins σ H s:=I.Ad fun p hp=>I.pin p (List.mem_append_right _ (List.mem_append_left _ hp))
theorem m5{iter:Expr}{body:List Stmt}{wi:TI}{g:TG}{tb:TS}{pos:Pos}(hp:PassesOwn (model X.prog X.w) X.A X.env X.xe)(hc:X.calm=true)(hi:PI X tg iter wi)(hg:PG X tg g)(hb:PSs X body tb)
  (hs:∀x,foldedSetIterable iter X.env x=pure x:=by intro _;rfl):PS X (.For tg iter body [] pos) (V9 wi g tb):=by
 intro pins s σ H D I h
 refine wpAny_For (thn (hi pins s σ H _ I h) fun v s1 h1=>thn h1 fun itv s2 h2=>?_) hs
 obtain⟨it,fp,tn,J,H2,e,I2,T,st2,f2,W,⟨m0,w0⟩,turn⟩:=h2
 subst e
 have stat:∀{H':Hp},(∀b∈fp,H' b=none)->∀b∈fp,zu X pins H' b:=fun hn b hb=>⟨hn b hb,(f2 b hb).2⟩
 refine codeAny_forLoop_any (fun n s'=>∃i σ' H',Inv X pins σ' H' s'/\tn i s'.heap/\(∀b∈fp,H' b=none)/\W i n σ' H') ?_ m0 ⟨0,σ,H2,I2,st2,fun b hb=>(f2 b hb).1,w0⟩
 rintro n s3 ⟨i,σ3,H3,I3,st3,fr3,w3⟩
 rcases turn i n σ3 H3 w3 with⟨stop,qn⟩|⟨go,N,hN,step⟩
 ·refine wpAny_passesOwn hp (thn (T.done X rfl rfl rfl hc i pins s3 σ3 H3 X.xe I3 (stat fr3) st3 stop) fun r s4 ⟨hr,I4⟩=>?_)
  subst hr
  exact wpAny_execs_nil ⟨σ3,H3,I4,qn⟩
 ·refine wpAny_passesOwn hp (thn (T.item X rfl rfl rfl hc i pins s3 σ3 H3 X.xe I3 (stat fr3) st3 go) fun r s4 ⟨u,hr,h4⟩=>?_)
  subst hr
  refine wpAny_passesOwn hp (thn h4 fun _ s5 ⟨x,H5,I5,r5,y5,st5,fr5⟩=>?_)
  have I5':=I5.pinned (stat fr5) (T.obj _ _ st5)
  refine wpAny_passesOwn hp (thn (hg _ s5 σ3 H5 x u _ I5' r5 (step x H5 y5)) fun _ s6 ⟨σ6,H6,I6,q6⟩=>?_)
  refine wpAny_passesOwn hp (thn (hb _ s6 σ6 H6 _ I6 q6) fun f s7 q7=>?_)
  have again:∀{σ7:St} {H7:Hp},Inv X (pins++qN fp s5.heap) σ7 H7 s7->N σ7 H7->∃m,m<n/\∃i σ' H',Inv X pins σ' H' s7/\tn i s7.heap/\(∀b∈fp,H' b=none)/\W i m σ' H':=fun {σ7 H7} I7 n7=>by
   obtain⟨m',hm,w7⟩:=hN σ7 H7 n7
   refine⟨m',hm,i+1,σ7,H7,I7.jM,T.keep _ _ _ st5 fun b hb o e=>(I7.pin (b,o) (List.mem_append_right _ (List.mem_append_right _ (eU hb e)))).1,fun b hb=>?_,w7⟩
   obtain⟨o,e,d⟩:=T.obj _ _ st5 b hb
   exact(I7.pin (b,o) (List.mem_append_right _ (List.mem_append_right _ (eU hb e)))).2.1
  cases f with
  |next=>obtain⟨σ7,H7,I7,n7⟩:=q7;exact again I7 n7
  |cont=>obtain⟨σ7,H7,I7,n7⟩:=q7;exact again I7 n7
  |brk=>obtain⟨σ7,H7,I7,q7⟩:=q7;exact⟨σ7,H7,I7.jM,q7⟩
  |ret v=>obtain⟨x7,σ7,H7,I7,r7,q7⟩:=q7;exact⟨x7,σ7,H7,I7.jM,r7,q7⟩
end
theorem iB{lo:Int}{n:Nat}{g:TG}{tb:TS}{D:Ends}{σ:St}{H:Hp}(Pv:Nat->St->Hp->Prop)(h0:Pv 0 σ H)
  (hs:∀i σ H,i<n->Pv i σ H->g (.int (lo+i)) σ H fun σ2 H2=>tb { D with nx:=Pv (i+1),ct:=Pv (i+1),bk:=D.nx } σ2 H2) (hd:∀σ H,Pv n σ H->D.nx σ H):
  ∃W:Nat->Nat->St->Hp->Prop,(∃m,W 0 m σ H)/\∀i m σ H,W i m σ H->
   ((Itr lo n).stop i H/\D.nx σ H)∨((Itr lo n).go i H/\∃N:St->Hp->Prop,(∀σ' H',N σ' H'->∃m',m'<m/\W (i+1) m' σ' H')/\∀x H',(Itr lo n).yld i H x H'->g x σ H' fun σ2 H2=>tb { D with nx:=N,ct:=N,bk:=D.nx } σ2 H2):=by
 refine⟨fun i m σ H=>m=n-i/\i<=n/\Pv i σ H,⟨n,by simp,Nat.zero_le _,h0⟩,?_⟩
 rintro i m σ H ⟨rfl,hi,p⟩
 by_cases hlt:i<n
 ·refine .inr ⟨hlt,Pv (i+1),fun σ' H' p'=>⟨n-(i+1),by omega,rfl,hlt,p'⟩,fun x H' y=>?_⟩
  obtain⟨e,y⟩:=y
  subst e y
  exact hs i σ _ hlt p
 ·have e:i=n:=by omega
  subst e
  exact .inl ⟨Nat.le_refl _,hd σ H p⟩
end L2
namespace L2
open PySem PySem.Spec PyProof.Rows
noncomputable abbrev R2:=V->V->Hp->VK->Prop
noncomputable def OpR(X:Cx)(f:Value->Value->Sem Value)(r:R2):Prop:=
 ∀(pins:List (Addr×Obj)) (s:Shared) (σ:St) (H:Hp) (x y:V) (v u:Value) (Q:VK),Inv X pins σ H s->RelV x v->RelV y u->r x y H Q->
  wpAny (model X.prog X.w) X.A (f v u) (EP X pins σ Q) X.xe s
noncomputable def UnR(X:Cx)(f:Value->Sem Value)(r:V->Hp->VK->Prop):Prop:=
 ∀(pins:List (Addr×Obj)) (s:Shared) (σ:St) (H:Hp) (x:V) (v:Value) (Q:VK),Inv X pins σ H s->RelV x v->r x H Q->
  wpAny (model X.prog X.w) X.A (f v) (EP X pins σ Q) X.xe s
noncomputable def j5(X:Cx)(f:Value)(r:List V->Hp->VK->Prop):Prop:=
 ∀(pins:List (Addr×Obj)) (s:Shared) (σ:St) (H:Hp) (xs:List V) (us:List Value) (Q:VK),Inv X pins σ H s->Vals xs us->r xs H Q->
  wpAny (model X.prog X.w) X.A (call f us) (EP X pins σ Q) X.xe s
noncomputable def tOp(r:R2)(ta tb:TE):TE:=fun σ H Q=>ta σ H fun x H1=>tb σ H1 fun y H2=>r x y H2 Q
noncomputable def tUn(r:V->Hp->VK->Prop)(ta:TE):TE:=fun σ H Q=>ta σ H fun x H1=>r x H1 Q
inductive SII(C:Int->Int->Prop)(g:Int->Int->V)(x y:V)(H:Hp)(Q:VK):Prop|mk (i j:Int) (hx:x = .int i) (hy:y = .int j) (c:C i j) (q:Q (g i j) H)
noncomputable def rI(C:Int->Int->Prop)(g:Int->Int->V):R2:=fun x y H Q=>SII C g x y H Q
inductive SI0(g:Int->Int->V)(x y:V)(H:Hp)(Q:VK):Prop|mk (i j:Int) (hx:x = .int i) (hy:y = .int j) (q:Q (g i j) H)
noncomputable def rI0(g:Int->Int->V):R2:=fun x y H Q=>SI0 g x y H Q
inductive SU(g:Int->V)(x:V)(H:Hp)(Q:VK):Prop|mk (i:Int) (hx:x = .int i) (q:Q (g i) H)
noncomputable def rU(g:Int->V):V->Hp->VK->Prop:=fun x H Q=>SU g x H Q
section
variable {X:Cx} {a b c:Expr} {ta tb tc:TE} {pos:Pos}
theorem TJ(ha:PE X a ta)(hb:PE X b tb){pins:List (Addr×Obj)}{s:Shared}{σ:St}{H:Hp}{R:V->V->Hp->Prop}(I:Inv X pins σ H s)
  (h:ta σ H fun x H1=>tb σ H1 fun y H2=>R x y H2) {Q:Value->Shared->Prop} {f:Value->Value->Sem Value}
  (hf:∀v u s2 x y H2,Inv X pins σ H2 s2->RelV x v->RelV y u->R x y H2->wpAny (model X.prog X.w) X.A (f v u) Q X.xe s2):
  wpAny (model X.prog X.w) X.A (eval a X.env) (fun v s₁=>wpAny (model X.prog X.w) X.A (eval b X.env) (fun u s₂=>wpAny (model X.prog X.w) X.A (f v u) Q X.xe s₂) X.xe s₁) X.xe s:=by
 refine thn (ha pins s σ H _ I h) fun v s1 ⟨x,H1,I1,r1,q1⟩=>?_
 refine thn (hb pins s1 σ H1 _ I1 q1) fun u s2 ⟨y,H2,I2,r2,q2⟩=>?_
 exact hf v u s2 x y H2 I2 r1 r2 q2
theorem aM{op:Operator}{r:R2}(ho:OpR X (binaryOp op) r)(ha:PE X a ta)(hb:PE X b tb):PE X (.BinOp a op b pos) (tOp r ta tb):=by
 intro pins s σ H Q I h
 exact wpAny_BinOp (TJ ha hb I h fun v u s2 x y H2 I2 rx ry q=>ho pins s2 σ H2 x y v u Q I2 rx ry q)
theorem AK{op:UnaryOp}{r:V->Hp->VK->Prop}(ho:UnR X (unaryOp op) r)(ha:PE X a ta):PE X (.UnaryOp op a pos) (tUn r ta):=by
 intro pins s σ H Q I h
 exact UnaryOp_ (thn (ha pins s σ H _ I h) fun v s1 ⟨x,H1,I1,r1,q1⟩=>ho pins s1 σ H1 x v Q I1 r1 q1)
theorem opI{f:Value->Value->Sem Value}{C:Int->Int->Prop}{g:Int->Int->Int}
  (rule:∀(i j:Int) (t u:Tok) (s:Shared) (Q:Value->Shared->Prop) (E:Value->Shared->Prop),C i j->Q (.int (g i j) s.toks) { s with toks:=s.toks+1 }->wpAny (model X.prog X.w) X.A (f (.int i t) (.int j u)) Q E s):
  OpR X f (rI C fun i j=> .int (g i j)):=by
 intro pins s σ H x y v u Q I rx ry h
 obtain⟨i,j,rfl,rfl,hc,q⟩:=h
 obtain⟨t,rfl⟩:=rx
 obtain⟨t',rfl⟩:=ry
 exact rule i j t t' s _ _ hc ⟨.int (g i j),H,I.tok _,⟨_,rfl⟩,q⟩
theorem Uq{f:Value->Value->Sem Value}{g:Int->Int->Int}
  (rule:∀(i j:Int) (t u:Tok) (s:Shared) (Q:Value->Shared->Prop) (E:Value->Shared->Prop),Q (.int (g i j) s.toks) { s with toks:=s.toks+1 }->wpAny (model X.prog X.w) X.A (f (.int i t) (.int j u)) Q E s):
  OpR X f (rI0 fun i j=> .int (g i j)):=by
 intro pins s σ H x y v u Q I rx ry h
 obtain⟨i,j,rfl,rfl,q⟩:=h
 obtain⟨t,rfl⟩:=rx
 obtain⟨t',rfl⟩:=ry
 exact rule i j t t' s _ _ ⟨.int (g i j),H,I.tok _,⟨_,rfl⟩,q⟩
theorem QD{f:Value->Value->Sem Value}{g:Int->Int->Bool}
  (rule:∀(i j:Int) (t u:Tok) (s:Shared) (Q:Value->Shared->Prop) (E:Value->Shared->Prop),Q (.bool (g i j)) s->wpAny (model X.prog X.w) X.A (f (.int i t) (.int j u)) Q E s):
  OpR X f (rI0 fun i j=> .bl (g i j)):=by
 intro pins s σ H x y v u Q I rx ry h
 obtain⟨i,j,rfl,rfl,q⟩:=h
 obtain⟨t,rfl⟩:=rx
 obtain⟨t',rfl⟩:=ry
 exact rule i j t t' s _ _ ⟨.bl (g i j),H,I,rfl,q⟩
noncomputable def Wl(i j:Int):Prop:=0<j/\j<1073741824
noncomputable def VX(i j:Int):Prop:=0<=j/\j<=1000000/\i.natAbs<2^64
theorem Ko:OpR X (binaryOp .Add) (rI0 fun i j=> .int (i+j)):=Uq fun _ _ _ _ _ _ _ q=>add_int q
theorem cP:OpR X (binaryOp .Sub) (rI0 fun i j=> .int (i-j)):=Uq fun _ _ _ _ _ _ _ q=>sub_int q
theorem zJ:OpR X (binaryOp .FloorDiv) (rI Wl fun i j=> .int (i/j)):=opI fun i j _ _ _ _ _ hc q=>by
 have h1:(0:Int)<j:=hc.1
 have h2:j<1073741824:=hc.2
 exact floordiv_int (by omega) (by rw[Int.fdiv_eq_ediv_of_nonneg i (by omega)];exact q) (.inl (PyProof.noPylong_small (by omega)))
theorem dD:OpR X (binaryOp .Mod) (rI (fun _ j=>0<j) fun i j=> .int (i%j)):=opI fun i j _ _ _ _ _ hc q=>by
 have h1:(0:Int)<j:=hc
 exact mod_int' (by omega) (by rw[Int.fmod_eq_emod_of_nonneg i (by omega)];exact q)
theorem Df:OpR X (binaryOp .Pow) (rI VX fun i j=> .int (i^j.toNat)):=opI fun _ _ _ _ _ _ _ hc q=>pow_int_small hc.1 hc.2.1 hc.2.2 q
theorem unI{f:Value->Sem Value}{g:Int->Int}
  (rule:∀(i:Int) (t:Tok) (s:Shared) (Q:Value->Shared->Prop) (E:Value->Shared->Prop),Q (.int (g i) s.toks) { s with toks:=s.toks+1 }->wpAny (model X.prog X.w) X.A (f (.int i t)) Q E s):
  UnR X f (rU fun i=> .int (g i)):=by
 intro pins s σ H x v Q I rx h
 obtain⟨i,rfl,q⟩:=h
 obtain⟨t,rfl⟩:=rx
 exact rule i t s _ _ ⟨.int (g i),H,I.tok _,⟨_,rfl⟩,q⟩
theorem uo:UnR X (unaryOp .USub) (rU fun i=> .int (-i)):=unI fun _ _ _ _ _ q=>neg_int q
end
noncomputable def LX:V->V->Bool
 |.non,.non=>true | .non,.int _=>true | .int _,.non=>true | .non,.bl _=>true | .bl _,.non=>true | .non,.str _=>true | .str _,.non=>true
 |.int _,.int _=>true | .bl _,.bl _=>true | .str _,.str _=>true | .byt _,.byt _=>true
 |.int _,.str _=>true | .str _,.int _=>true | .bl _,.str _=>true | .str _,.bl _=>true
 |_,_=>false
noncomputable def rEq:R2:=fun x y H Q=>LX x y=true/\Q (.bl (decide (x=y))) H
noncomputable def rNe:R2:=fun x y H Q=>LX x y=true/\Q (.bl (!decide (x=y))) H
theorem zV{i j:Int}:decide (V.int i=V.int j)=(i==j):=by
 rw[Bool.eq_iff_iff]
 simp
theorem Gb{i j:Bool}:decide (V.bl i=V.bl j)=(i==j):=by
 rw[Bool.eq_iff_iff]
 simp
theorem zZ{i j:Str}:decide (V.str i=V.str j)=(i==j):=by
 rw[Bool.eq_iff_iff]
 simp
theorem Bv{i j:Array UInt8}:decide (V.byt i=V.byt j)=(i.toList==j.toList):=by
 rw[Bool.eq_iff_iff]
 cases i
 cases j
 simp
section
variable {X:Cx} {a b c:Expr} {ta tb tc:TE} {pos:Pos}
theorem cL{pins:List (Addr×Obj)}{σ:St}{H:Hp}{s:Shared}{Q:VK}{k k':Bool}(I:Inv X pins σ H s)(q:Q (.bl k) H)(e:k=k'):EP X pins σ Q (.bool k') s:=by
 subst e
 exact⟨.bl k,H,I,rfl,q⟩
theorem Rr:OpR X (compareOp .Eq) rEq:=by
 intro pins s σ H x y v u Q I rx ry h
 obtain⟨hs,q⟩:=h
 cases x with
 |non=>
  cases rx
  cases y with
  |non=>cases ry;exact PySem.EqNone.eq_none_none (cL I q (by simp))
  |bl j=>cases ry;exact PySem.EqNone.eq_none_bool (cL I q (by simp))
  |int j=>obtain⟨t',rfl⟩:=ry;exact PySem.EqNone.eq_none_int (cL I q (by simp))
  |str j=>obtain⟨t',rfl⟩:=ry;exact PySem.EqNone.eq_none_str (cL I q (by simp))
  |_=>exact absurd (show false=true from hs) Bool.false_ne_true
 |bl i=>
  cases rx
  cases y with
  |non=>cases ry;exact PySem.EqNone.eq_bool_none (cL I q (by simp))
  |bl j=>cases ry;exact eq_bool (cL I q Gb)
  |str j=>obtain⟨t',rfl⟩:=ry;exact PySem.EqMixed.eq_bool_str (cL I q (by simp))
  |_=>exact absurd (show false=true from hs) Bool.false_ne_true
 |int i=>
  obtain⟨t,rfl⟩:=rx
  cases y with
  |non=>cases ry;exact PySem.EqNone.eq_int_none (cL I q (by simp))
  |int j=>obtain⟨t',rfl⟩:=ry;exact eq_int (cL I q zV)
  |str j=>obtain⟨t',rfl⟩:=ry;exact PySem.EqMixed.eq_int_str (cL I q (by simp))
  |_=>exact absurd (show false=true from hs) Bool.false_ne_true
 |str i=>
  obtain⟨t,rfl⟩:=rx
  cases y with
  |non=>cases ry;exact PySem.EqNone.eq_str_none (cL I q (by simp))
  |bl j=>cases ry;exact PySem.EqMixed.eq_str_bool (cL I q (by simp))
  |int j=>obtain⟨t',rfl⟩:=ry;exact PySem.EqMixed.eq_str_int (cL I q (by simp))
  |str j=>obtain⟨t',rfl⟩:=ry;exact eq_str (cL I q zZ)
  |_=>exact absurd (show false=true from hs) Bool.false_ne_true
 |byt i=>
  obtain⟨t,rfl⟩:=rx
  cases y with
  |byt j=>obtain⟨t',rfl⟩:=ry;exact PySem.W.eq_bytes (cL I q Bv)
  |_=>exact absurd (show false=true from hs) Bool.false_ne_true
 |_=>cases y<;>exact absurd (show false=true from hs) Bool.false_ne_true
theorem Rp:OpR X (compareOp .NotEq) rNe:=by
 intro pins s σ H x y v u Q I rx ry h
 obtain⟨hs,q⟩:=h
 cases x with
 |non=>
  cases rx
  cases y with
  |non=>cases ry;exact PySem.EqNone.ne_none_none (cL I q (by simp))
  |bl j=>cases ry;exact PySem.EqNone.ne_none_bool (cL I q (by simp))
  |int j=>obtain⟨t',rfl⟩:=ry;exact PySem.EqNone.ne_none_int (cL I q (by simp))
  |str j=>obtain⟨t',rfl⟩:=ry;exact PySem.EqNone.ne_none_str (cL I q (by simp))
  |_=>exact absurd (show false=true from hs) Bool.false_ne_true
 |bl i=>
  cases rx
  cases y with
  |non=>cases ry;exact PySem.EqNone.ne_bool_none (cL I q (by simp))
  |bl j=>cases ry;exact ne_bool (cL I q (congrArg not Gb))
  |str j=>obtain⟨t',rfl⟩:=ry;exact PySem.EqMixed.ne_bool_str (cL I q (by simp))
  |_=>exact absurd (show false=true from hs) Bool.false_ne_true
 |int i=>
  obtain⟨t,rfl⟩:=rx
  cases y with
  |non=>cases ry;exact PySem.EqNone.ne_int_none (cL I q (by simp))
  |int j=>obtain⟨t',rfl⟩:=ry;exact ne_int (cL I q (congrArg not zV))
  |str j=>obtain⟨t',rfl⟩:=ry;exact PySem.EqMixed.ne_int_str (cL I q (by simp))
  |_=>exact absurd (show false=true from hs) Bool.false_ne_true
 |str i=>
  obtain⟨t,rfl⟩:=rx
  cases y with
  |non=>cases ry;exact PySem.EqNone.ne_str_none (cL I q (by simp))
  |bl j=>cases ry;exact PySem.EqMixed.ne_str_bool (cL I q (by simp))
  |int j=>obtain⟨t',rfl⟩:=ry;exact PySem.EqMixed.ne_str_int (cL I q (by simp))
  |str j=>obtain⟨t',rfl⟩:=ry;exact ne_str (cL I q (congrArg not zZ))
  |_=>exact absurd (show false=true from hs) Bool.false_ne_true
 |byt i=>
  obtain⟨t,rfl⟩:=rx
  cases y with
  |byt j=>obtain⟨t',rfl⟩:=ry;exact PySem.W.ne_bytes (cL I q (congrArg not Bv))
  |_=>exact absurd (show false=true from hs) Bool.false_ne_true
 |_=>cases y<;>exact absurd (show false=true from hs) Bool.false_ne_true
theorem yQ:OpR X (compareOp .Lt) (rI0 fun i j=> .bl (decide (i<j))):=QD fun _ _ _ _ _ _ _ q=>lt_int q
theorem Oa:OpR X (compareOp .LtE) (rI0 fun i j=> .bl (decide (i<=j))):=QD fun _ _ _ _ _ _ _ q=>le_int q
theorem rY:OpR X (compareOp .Gt) (rI0 fun i j=> .bl (decide (j<i))):=QD fun _ _ _ _ _ _ _ q=>gt_int q
theorem OpR.or{f:Value->Value->Sem Value}{r r':R2}(h:OpR X f r)(h':OpR X f r'):OpR X f (fun x y H Q=>r x y H Q∨r' x y H Q):=by
 intro pins s σ H x y v u Q I rx ry q
 rcases q with q|q
 ·exact h pins s σ H x y v u Q I rx ry q
 ·exact h' pins s σ H x y v u Q I rx ry q
theorem bQ(b:Expr){op:CmpOp}(h:op≠ .In:=by decide)(h2:op≠ .NotIn:=by decide):behindInMarks op b=false:=by
 have e1:(op==CmpOp.In)=false:=by cases op<;>first|rfl|exact absurd rfl h
 have e2:(op==CmpOp.NotIn)=false:=by cases op<;>first|rfl|exact absurd rfl h2
 cases b<;>simp[behindInMarks,e1,e2]
theorem iQ{op:CmpOp}{r:R2}(ho:OpR X (compareOp op) r)(ha:PE X a ta)(hb:PE X b tb)(hm:behindInMarks op b=false):PE X (.Compare a [op] [b] pos) (tOp r ta tb):=by
 intro pins s σ H Q I h
 exact wpAny_Compare1 (TJ ha hb I h fun v u s2 x y H2 I2 rx ry q=>ho pins s2 σ H2 x y v u Q I2 rx ry q) hm
inductive V2(x:V)(H:Hp)(Q:Bool->Hp->Prop):Prop|mk (k:Bool) (hx:x = .bl k) (q:Q k H)
noncomputable def Mi(t:TE):TT:=fun σ H Q=>t σ H fun x H'=>V2 x H' Q
theorem bI{op:CmpOp}{r:R2}(ho:OpR X (compareOp op) r)(ha:PE X a ta)(hb:PE X b tb)(hm:behindInMarks op b=false):PT X (.Compare a [op] [b] pos) (Mi (tOp r ta tb)):=by
 intro pins s σ H Q I h
 refine wpAny_isTrue_Compare1 (thn (ha pins s σ H _ I h) fun v s1 ⟨x,H1,I1,r1,q1⟩=>thn (hb pins s1 σ H1 _ I1 q1) fun u s2 ⟨y,H2,I2,r2,q2⟩=>
  thn (ho pins s2 σ H2 x y v u _ I2 r1 r2 q2) fun c s3 ⟨z,H3,I3,r3,k,e,q3⟩=>?_) hm
 subst e
 cases r3
 exact wpAny_truthy_bool ⟨H3,I3,q3⟩
theorem Ik{κ:Type}{kvs:List (κ×V)}{vs:List (κ×Value)}(r:KV kvs vs):(!vs.isEmpty)=!kvs.isEmpty:=by
 cases r<;>rfl
theorem Ii{xs:List V}{its:List Value}(r:Vals xs its):(!its.toArray.isEmpty)=!xs.isEmpty:=by
 cases r<;>simp
theorem tX:(sizeLine:Nat)<2^63:=by rw[sizeLine_eq];decide
theorem yJ:OpR X (binaryOp .Add) (fun x y H Q=>∃i j,x = .str i/\y = .str j/\i.length+j.length<=sizeLine/\Q (.str (i++j)) H):=by
 intro pins s σ H x y v u Q I rx ry h
 obtain⟨i,j,rfl,rfl,hz,q⟩:=h
 obtain⟨t,rfl⟩:=rx
 obtain⟨t',rfl⟩:=ry
 exact add_str (fun t' tk=>⟨.str (i++j),H,I.tok _,⟨_,rfl⟩,q⟩) hz
theorem vals1{x:V}{us:List Value}(r:Vals [x] us):∃u,us=[u]/\RelV x u:=by
 cases r with
 |cons r1 r2=>cases r2;exact⟨_,rfl,r1⟩
theorem vals2{x y:V}{us:List Value}(r:Vals [x,y] us):∃u w',us=[u,w']/\RelV x u/\RelV y w':=by
 cases r with
 |cons r1 r2=>
  cases r2 with
  |cons r3 r4=>cases r4;exact⟨_,_,rfl,r1,r3⟩
theorem zK(hc:X.calm=true):j5 X (.builtin "max") (fun xs H Q=>∃i j,xs=[.int i,.int j]/\Q (.int (if j>i then j else i)) H):=by
 intro pins s σ H xs us Q I r h
 obtain⟨i,j,rfl,q⟩:=h
 obtain⟨u,w',rfl,⟨t,rfl⟩,⟨t',rfl⟩⟩:=vals2 r
 refine max_two_ints (I.ok.hd hc) fun h' tk k=>⟨_,H,I.kept k,?_,q⟩
 by_cases hj:j>i
 ·rw[if_pos hj,if_pos hj];exact⟨_,rfl⟩
 ·rw[if_neg hj,if_neg hj];exact⟨_,rfl⟩
theorem tH:j5 X (.type "int") (fun xs H Q=>(∃i,xs=[.int i]/\Q (.int i) H)∨∃k,xs=[.bl k]/\Q (.int (if k then 1 else 0)) H):=by
 intro pins s σ H xs us Q I r h
 rcases h with⟨i,rfl,q⟩|⟨k,rfl,q⟩
 ·obtain⟨u,rfl,t,rfl⟩:=vals1 r
  exact call_int_int ⟨.int i,H,I,⟨_,rfl⟩,q⟩
 ·obtain⟨u,rfl,r1⟩:=vals1 r
  cases r1
  exact call_int_bool ⟨.int (if k then 1 else 0),H,I.tok _,⟨_,rfl⟩,q⟩
noncomputable def Vc(K:PySem.W.Frag)(x:V)(H:Hp)(n:Nat):Prop:=
 match x with
 |.str y=>y.length<=sizeLine/\n=y.length
 |.byt y=>y.size<=sizeLine/\n=y.size
 |.ref p=>(∃xs,SqL K H p xs/\n=xs.length)∨∃xs,SqT K H p xs/\n=xs.length
 |_=>False
theorem DX:j5 X (.builtin "len") (fun xs H Q=>∃x n,xs=[x]/\Vc X.K x H n/\Q (.int n) H):=by
 intro pins s σ H xs us Q I r h
 obtain⟨x,n,rfl,e,q⟩:=h
 obtain⟨u,rfl,rx⟩:=vals1 r
 have hl:=tX
 have hs:sizeLine=16777216:=sizeLine_eq
 cases x with
 |str y=>
  obtain⟨t,rfl⟩:=rx
  obtain⟨hy,e'⟩:y.length<=sizeLine/\n=y.length:=e
  subst e'
  exact len_str (by omega) ⟨.int _,H,I.tok _,⟨_,rfl⟩,q⟩
 |byt y=>
  obtain⟨t,rfl⟩:=rx
  obtain⟨hy,e'⟩:y.size<=sizeLine/\n=y.size:=e
  subst e'
  exact PySem.W.len_bytes (by omega) ⟨.int _,H,I.tok _,⟨_,rfl⟩,q⟩
 |ref p=>
  cases rx
  have e':(∃xs,SqL X.K H p xs/\n=xs.length)∨∃xs,SqT X.K H p xs/\n=xs.length:=e
  rcases e' with⟨xs,hx,e'⟩|⟨xs,hx,e'⟩
  ·subst e'
   obtain⟨its,r',pl,hz⟩:=I.list hx
   have hlen:=r'.length
   exact Calls.call_len_list pl.isList (by simp only[List.size_toArray];omega) ⟨.int xs.length,H,I.tok _,⟨_,by simp only[List.size_toArray];rw[hlen]⟩,q⟩
  ·subst e'
   obtain⟨its,r',pl,hz⟩:=I.tuple hx
   have hlen:=r'.length
   exact len_tuple pl (by simp only[List.size_toArray];omega) ⟨.int xs.length,H,I.tok _,⟨_,by simp only[List.size_toArray];rw[hlen]⟩,q⟩
 |_=>exact(show False from e).elim
end
end L2
namespace L2
open PySem PySem.Spec PyProof.Rows
structure Ou(h:Heap)(x dx C:Addr)(mA:Str->Option Value):Prop where
 obj:h.get? x=some (PySem.W.instObj C dx)
 ns:h.Ns1 dx mA
 ne:dx≠x
theorem CZ{h:Heap}{dx:Addr}{mA:Str->Option Value}(n:h.Ns1 dx mA):∃od,h.get? dx=some od/\∀name,PySem.W.lookIn name od=some (mA name):=by
 obtain⟨o,es,ep,ho,hd,hk,_,hm⟩:=n
 refine⟨o,ho,fun name=>?_⟩
 have e:=hm name
 unfold nsFind findBy at e
 rw[<-Array.find?_toList]at e
 unfold PySem.W.lookIn
 rw[hd]
 dsimp only
 split
 ·rename_i y q
  rw[q]at e
  exact congrArg some e
 ·rename_i q
  rw[q]at e
  have a:es.toList.any (·.refKey)=false:=by
   rw[List.any_eq_false]
   intro y hy
   obtain⟨z,t,hkey⟩:=hk y (Array.mem_toList_iff.mp hy)
   simp[DictEntry.refKey,hkey]
  have a':¬es.toList.any (·.refKey)=true:=by rw[a];exact Bool.false_ne_true
  rw[if_neg a']
  exact congrArg some e
theorem Ou.look{h:Heap}{x dx C:Addr}{mA:Str->Option Value}(I:Ou h x dx C mA):∃od,PySem.W.InstAt h x (PySem.W.instObj C dx) C (some od)/\∀name,PySem.W.lookIn name od=some (mA name):=
 let⟨od,ho,hl⟩:=CZ I.ns
 ⟨od,⟨I.obj,rfl,rfl,ho⟩,hl⟩
section
variable {prog:Program} {w:World} {A:Around} {E:Value->Shared->Prop} {s:Shared} {K:PySem.W.Frag} {x dx C f:Addr} {mA:Str->Option Value} {name:Str} {v:Value}
end
theorem Di.some_of{v:V}{o:Option Value}(r:Di (some v) o):∃u,o=some u/\RelV v u:=by
 cases o with
 |none=>exact(show False from r).elim
 |some u=>exact⟨u,rfl,r⟩
theorem Di.none_of{o:Option Value}(r:Di none o):o=none:=by
 cases o with
 |none=>rfl
 |some u=>exact(show False from r).elim
section
variable {P:Program} {w:World} {H H':Hp} {h h':Heap} {a C dx:Addr} {fs fs':List (Str×V)}
theorem HN(hok:HOk P w H h)(e:H a=some (.ins C dx fs)):∃mA,Ou h a dx C mA/\(∀f,Di (fs.lookup f) (mA f))/\PySem.Within mA (fs.map (·.1))/\fs.length<=1000/\H dx=some (.own a):=by
 obtain⟨d,z,ne,ob,mA,n,r,q⟩:=(show fX P w H h a (.ins C dx fs)from hok a _ e)
 exact⟨mA,⟨ob,n,ne⟩,r,q,z,d⟩
end
structure Cls(K:PySem.W.Frag)(C:Addr):Prop where
 pg:PySem.W.plainGet K C Str.empty=true
 hd:PySem.W.hasDictIn K C=true
 po:PySem.W.plainOver K C=true
 sa:PySem.W.findIn K (.ref C) "__setattr__" = some (some (.builtin "object.__setattr__"))
theorem Cls.get{K:PySem.W.Frag}{C:Addr}(c:Cls K C)(f:Str):PySem.W.plainGet K C f=true:=c.pg
section
variable {X:Cx} {pins:List (Addr×Obj)} {σ:St} {H:Hp} {s:Shared} {a C dx:Addr} {fs:List (Str×V)} {f:Str} {v:V} {A:Around} {E:Value->Shared->Prop}
end
section
variable {X:Cx} {o e value:Expr} {f:Str} {pos pos' tpos:Pos} {ta tv:TE}
end
section
variable {X:Cx} {pins:List (Addr×Obj)} {σ:St} {H:Hp} {s:Shared} {A:Around} {E:Value->Shared->Prop} {Q:Value->Shared->Prop} {c:Value} {b:Bool}
inductive xZ(K:PySem.W.Frag)(H:Hp):V->Value->Prop where
 |non:xZ K H .non (.type "NoneType")
 |bl (x:Bool):xZ K H (.bl x) (.type "bool")
 |int (i:Int):xZ K H (.int i) (.type "int")
 |str (x:Str):xZ K H (.str x) (.type "str")
 |flt (x:UInt64):xZ K H (.flt x) (.type "float")
 |lst {a:Addr} {xs:List V} (e:H a=some (.lst xs)):xZ K H (.ref a) (.type "list")
 |frz {a:Addr} {o:Obj} {xs:List V} (e:H a=some (.frz o (.lst xs))):xZ K H (.ref a) (.type "list")
 |tup {a:Addr} {xs:List V} (e:H a=some (.tup xs)):xZ K H (.ref a) (.type "tuple")
 |dK {a:Addr} {kvs:List (Key×V)} (e:H a=some (.dK kvs)):xZ K H (.ref a) (.type "dict")
 |dT {a:Addr} {kvs:List (List Key×V)} (e:H a=some (.dT kvs)):xZ K H (.ref a) (.type "dict")
 |ins {a C dx:Addr} {fs:List (Str×V)} (e:H a=some (.ins C dx fs)) (cl:Cls K C) (ha:PySem.W.findIn K (.ref C) "__class__" = some (some (.builtin "object.__class__")))
   (hn:PySem.W.specialIn K (.builtin "object.__class__") "__get__" = some (some (.builtin "getset_descriptor.__get__"))) (htk:PySem.W.takesIn K (.builtin "object.__class__")=some true)
   (hm:PySem.W.mroIn K C (.type "object")=some true):xZ K H (.ref a) (.ref C)
theorem B3{x:V}{u t:Value}(I:Inv X pins σ H s)(rx:RelV x u)(ty:xZ X.K H x t)(e:PySem.W.kitOne X.K t c=some b)(h:∀tk,Q (.bool b) { s with toks:=tk }):
  wpAny (model X.prog X.w) A (call (.builtin "isinstance") [u,c]) Q E s:=by
 cases ty with
 |non=>cases (show u=Value.none from rx);exact PySem.W.kia_one PySem.W.kitx_none I.kIn True.intro e (fun z=>nomatch z) h
 |bl y=>cases (show u=Value.bool y from rx);exact PySem.W.kia_one PySem.W.kitx_bool I.kIn True.intro e (fun z=>nomatch z) h
 |int i=>obtain⟨t,q⟩:=(show ∃t,u=Value.int i t from rx);cases q;exact PySem.W.kia_one PySem.W.kitx_int I.kIn True.intro e (fun z=>nomatch z) h
 |str y=>obtain⟨t,q⟩:=(show ∃t,u=Value.str y t from rx);cases q;exact PySem.W.kia_one PySem.W.kitx_str I.kIn True.intro e (fun z=>nomatch z) h
 |flt y=>obtain⟨t,q⟩:=(show ∃t,u=Value.float y t from rx);cases q;exact PySem.W.kia_one PySem.W.kitx_float I.kIn True.intro e (fun z=>nomatch z) h
 |@lst a xs ea=>
  cases (show u=Value.ref a from rx)
  obtain⟨_,_,n,_,h1⟩:=(show fX X.prog X.w H s.heap a (.lst xs)from I.hok a _ ea)
  exact PySem.W.kia_one PySem.W.kitx_list I.kIn ⟨_,h1,rfl⟩ e (fun z=>nomatch z) h
 |@frz a ob xs ea=>
  cases (show u=Value.ref a from rx)
  obtain⟨_,_,_,n,_,h1⟩:=(show fX X.prog X.w H s.heap a (.frz ob (.lst xs))from I.hok a _ ea)
  exact PySem.W.kia_one PySem.W.kitx_list I.kIn ⟨_,h1,rfl⟩ e (fun z=>nomatch z) h
 |@tup a xs ea=>
  cases (show u=Value.ref a from rx)
  obtain⟨_,_,_,p⟩:=(show fX X.prog X.w H s.heap a (.tup xs)from I.hok a _ ea)
  obtain⟨o,h1,h2,_⟩:=p
  exact PySem.W.kia_one PySem.W.kitx_tuple I.kIn ⟨o,h1,h2⟩ e (fun z=>nomatch z) h
 |@dK a kvs ea=>
  cases (show u=Value.ref a from rx)
  obtain⟨_,_,vs,_,p⟩:=(show fX X.prog X.w H s.heap a (.dK kvs)from I.hok a _ ea)
  obtain⟨o,es,ep,h1,h2,_⟩:=p
  exact PySem.W.kia_one PySem.W.kitx_dict I.kIn ⟨o,h1,h2.1⟩ e (fun z=>nomatch z) h
 |@dT a kvs ea=>
  cases (show u=Value.ref a from rx)
  obtain⟨_,_,xs,_,o,es,ep,h1,h2,_⟩:=(show fX X.prog X.w H s.heap a (.dT kvs)from I.hok a _ ea)
  exact PySem.W.kia_one PySem.W.kitx_dict I.kIn ⟨o,h1,h2.1⟩ e (fun z=>nomatch z) h
 |@ins a C dx fs ea cl ha hn htk hm=>
  cases (show u=Value.ref a from rx)
  obtain⟨mA,O,_⟩:=HN I.hok ea
  obtain⟨od,J,_⟩:=O.look
  exact PySem.W.kia_one (PySem.W.kitx_own (cl.get _) cl.hd ha hn htk hm) I.kIn J e (fun z=>nomatch z) h
end
end L2
namespace L2
open PySem PySem.Spec PyProof.Rows
structure iw(k:Nat)(A:Around):Prop where
 hd:A.handled=none
 dp:A.depth+3*k+5<recursionLimit
 un:A.units+16*k+200<cLine
theorem iw.mono{j k:Nat}{A:Around}(r:iw k A)(h:j<=k):iw j A:=⟨r.hd,by have:=r.dp;omega,by have:=r.un;omega⟩
theorem iw.deeper{k:Nat}{A:Around}(r:iw (k+1) A)(env:Env):iw k (A.deeper env):=
 ⟨r.hd,by have:=r.dp;show A.depth+1+3*k+5<_;omega,by have:=r.un;show A.units+3+16*k+200<_;omega⟩
theorem iw.depth{k:Nat}{A:Around}(r:iw k A):A.depth<recursionLimit:=by have:=r.dp;omega
theorem iw.units{k:Nat}{A:Around}(r:iw k A):A.units+64<cLine:=by have:=r.un;omega
theorem iw.FN{k:Nat}{A:Around}(r:iw k A):A.units<cLine:=by have:=r.un;omega
noncomputable def VF:TA:=fun _ H Q=>Q [] H
noncomputable def vN(ta:TE)(tr:TA):TA:=fun σ H Q=>ta σ H fun x H1=>tr σ H1 fun xs H2=>Q (x::xs) H2
section
variable {X:Cx} {e:Expr} {es:List Expr} {te:TE} {t:TA} {pos:Pos}
theorem ak:PA X [] VF:=fun _ _ _ _ H Q I h=>Calls.spliced_nil ⟨[],H,I,.nil,h⟩
theorem aK(ha:PE X e te)(hr:PA X es t)(hs:starEach (e::es) X.env=(false,eval e X.env)::starEach es X.env:=by rfl):PA X (e::es) (vN te t):=by
 intro pos pins s σ H Q I h
 rw[hs]
 show wpAny _ _ (spliced ((false,eval e X.env)::backTo pos (starEach es X.env))) _ _ s
 refine Calls.spliced_cons (thn (ha pins s σ H _ I h) fun u s1 ⟨x,H1,I1,r1,q1⟩=>?_)
 exact thn (hr pos pins s1 σ H1 _ I1 q1) fun us s2 ⟨xs,H2,I2,r2,q2⟩=>⟨x::xs,H2,I2,.cons r1 r2,q2⟩
inductive Vj(xs:List V)(o:HO)(H:Hp)(Q:VK):Prop|mk (hz:xs.length<=sizeLine) (q:∀p,H p=none->Q (.ref p) (upd H p o))
noncomputable def Wv(t:TA):TE:=fun σ H Q=>t σ H fun xs H1=>Vj xs (.tup xs) H1 Q
noncomputable def Wi(t:TA):TE:=fun σ H Q=>t σ H fun xs H1=>Vj xs (.lst xs) H1 Q
theorem jO{x1}(h:PA X es t):PE X (.Tuple es x1 pos) (Wv t):=by
 intro pins s σ H Q I hq
 refine wpAny_Tuple_spliced (thn (h pos pins s σ H _ I hq) fun us s1 ⟨xs,H1,I1,r,z,q⟩=>⟨by rw[<-r.length];exact z,?_⟩)
 have hf:H1 s1.heap.objs.size=none:=I1.hok.fresh (Nat.le_refl _)
 refine⟨.ref s1.heap.objs.size,upd H1 s1.heap.objs.size (.tup xs),I1.laid (t':=s1.toks) (fun b u e=>Heap.get?_push_of_some _ e) (Nat.le_refl _) ?_,rfl,q _ hf⟩
 exact⟨z,us,r,⟨_,Heap.get?_push_size _ rfl,rfl,_,rfl⟩⟩
theorem gQ(h:PA X es t):PE X (.List es pos) (Wi t):=by
 intro pins s σ H Q I hq
 refine wpAny_List_spliced (thn (h pos pins s σ H _ I hq) fun us s1 ⟨xs,H1,I1,r,z,q⟩=>⟨by rw[<-r.length];exact z,?_⟩)
 have hf:H1 s1.heap.objs.size=none:=I1.hok.fresh (Nat.le_refl _)
 refine⟨.ref s1.heap.objs.size,upd H1 s1.heap.objs.size (.lst xs),I1.laid (t':=s1.toks) (fun b u e=>Heap.get?_push_of_some _ e) (Nat.le_refl _) ?_,rfl,q _ hf⟩
 exact⟨z,us,0,r,Heap.get?_push_size _ rfl⟩
end
noncomputable abbrev Sp:=List V->Hp->VK->XK->Prop
noncomputable abbrev CXT:=List Env->Hp->Shared->XK->Value->Shared->Prop
structure Gw(P:Program)(w:World)(K:PySem.W.Frag)(mg:Str->Option Value)(base:Heap)(A:Around)(outer:List Env)(s:Shared)(H:Hp):Prop where
 frames:A.frames=some outer
 mod:Mod K mg base
 bs:∀b o,base.get? b=some o->s.heap.get? b=some o/\H b=none
 bsz:base.objs.size<=s.heap.objs.size
 yF:s.heap.FunFrames base outer
 frf:∀b∈frs outer,H b=none
 hok:HOk P w H s.heap
 bare:AllBare s.gens
noncomputable def CE(outer:List Env)(P:Program)(w:World)(H:Hp)(s:Shared)(Q:VK)(u:Value)(s':Shared):Prop:=
 ∃v H',s'.os=s.os/\AllBare s'.gens/\Un (frs outer) [] H H' s.heap s'.heap/\HOk P w H' s'.heap/\RelV v u/\Q v H'
noncomputable def CR(CX:CXT)(outer:List Env)(P:Program)(w:World)(H:Hp)(s:Shared)(Q:VK)(E:XK)(r:Result)(s':Shared):Prop:=
 match r with
 |.ok (.ret u)=>CE outer P w H s Q u s'
 |.ok _=>False
 |.error e=>CX outer H s E e s'
structure zY(P:Program)(w:World)(K:PySem.W.Frag)(mg:Str->Option Value)(base:Heap)(CX:CXT)(k:Nat)(f:Addr)(fd:FuncData)(ps:List Str)(sp:Sp):Prop where
 len:∀vs H Q E,sp vs H Q E->vs.length=ps.length
 run:∀(A:Around) (outer:List Env) (s:Shared) (H:Hp) (args:Args) (us:List Value) (vs:List V) (Q:VK) (E:XK),iw k A->Gw P w K mg base A outer s H->BindsTo s fd args (ps.zip us)->Vals vs us->sp vs H Q E->
  codeAny (model P w) A (.call (.ref f) args) (CR CX outer P w H s Q E) s
section
variable {X:Cx} {pins:List (Addr×Obj)} {σ:St} {H:Hp} {s s':Shared}
theorem Inv.env0(I:Inv X pins σ H s):Gw X.prog X.w X.K X.mg X.base X.A X.stack s H:=
 ⟨I.ok.frames,I.ok.mod,I.bs,Nat.le_trans I.ok.bsz I.sz,I.stack,I.rm,I.hok,I.bare⟩
theorem Inv.after{Q:VK}{u:Value}(I:Inv X pins σ H s)(h:CE X.stack X.prog X.w H s Q u s'):EP X pins σ Q u s':=by
 obtain⟨v,H',os,bare,un,hok,r,q⟩:=h
 obtain⟨hh,g,d,t,os'⟩:=s'
 obtain rfl:os'=s.os:=os
 exact⟨v,H',I.call (h':=hh) (g':=g) (d':=d) (t':=t) (ch:=[]) un hok bare (fun b z=>absurd z (by simp)),r,q⟩
end
noncomputable def Dp(sp:Sp)(dvs:List V)(E:XK)(t:TA):TE:=fun σ H Q=>t σ H fun vs H1=>sp (vs++dvs) H1 Q E
noncomputable def Binds(K:PySem.W.Frag)(fd:FuncData)(ps:List Str)(ds:List Value):Prop:=
 ∀(s:Shared) (us:List Value),K.In s.heap->(us++ds).length=ps.length->BindsTo s fd ⟨us,[]⟩ (ps.zip (us++ds))
theorem Binds.all{K:PySem.W.Frag}{fd:FuncData}{ps:List Str}(h:∀us:List Value,us.length=ps.length->bindArgs fd ⟨us,[]⟩=pure (ps.zip us)):Binds K fd ps []:=fun s us _ hl=>by
 rw[List.append_nil]at hl⊢
 exact .of_eq (h us hl)
noncomputable def Passes(CX:CXT)(X:Cx)(E:XK):Prop:=∀(pins:List (Addr×Obj)) (σ:St) (H:Hp) (s:Shared) (e:Value) (s':Shared),Inv X pins σ H s->CX X.stack H s E e s'->X.xe e s'
section
variable {X:Cx} {CX:CXT} {k:Nat} {f C:Addr} {fd:FuncData} {ps:List Str} {sp:Sp} {dvs:List V} {ds:List Value} {E:XK} {x m:Str} {p pos apos:Pos} {e o:Expr} {es:List Expr} {ta:TE} {t:TA}
theorem J3{pins:List (Addr×Obj)}{σ:St}{H:Hp}{s:Shared}{Q:VK}{us:List Value}{vs:List V}(F:zY X.prog X.w X.K X.mg X.base CX k f fd ps sp)(hr:iw k X.A)(hb:Binds X.K fd ps ds)(hd:Vals dvs ds)(hx:Passes CX X E)
  (I:Inv X pins σ H s) (r:Vals vs us) (h:sp (vs++dvs) H Q E):wpAny (model X.prog X.w) X.A (call (.ref f) us) (EP X pins σ Q) X.xe s:=by
 have r2:Vals (vs++dvs) (us++ds):=r.append hd
 have hl:(us++ds).length=ps.length:=by rw[<-r2.length];exact F.len _ _ _ _ h
 refine wpAny_call (codeAny_mono (F.run X.A X.stack s H ⟨us,[]⟩ (us++ds) (vs++dvs) Q E hr I.env0 (hb s us I.kIn hl) r2 h) fun r s' hq=>?_)
 cases r with
 |error e=>exact hx pins σ H s e s' I hq
 |ok fl=>
  cases fl with
  |ret u=>exact I.after hq
  |next=>exact False.elim hq
  |brk=>exact False.elim hq
  |cont=>exact False.elim hq
theorem vp(F:zY X.prog X.w X.K X.mg X.base CX k f fd ps sp)(hr:iw k X.A)(hg:Gl X x)(hm:X.mg x=some (.ref f))(hk:PySem.W.keepIn X.K (.ref f)=true)(hb:Binds X.K fd ps ds)(hd:Vals dvs ds)(hx:Passes CX X E)
  (ha:PA X (e::es) t) (hdb:(x==("__debug__" : Str))=false:=by decide) (he:starEach (e::es) X.env=(false,eval e X.env)::starEach es X.env:=by rfl) (hpl:(backTo pos (starEach es X.env)).any (·.1)=false:=by rfl):
  PE X (.Call (.Name x p) (e::es) [] pos) (Dp sp dvs E t):=by
 intro pins s σ H Q I h
 refine wpAny_Call_Name_kw (nQ I hg hm ?_ hdb)
 refine PySem.W.callWith_K (h₀:=X.base) I.ok.mod.kin hk (thn (ha pos pins s σ H _ I h) fun us s1 ⟨vs,H1,I1,r,q⟩=>⟨I1.kIn,?_⟩) he hpl
 exact J3 F hr hb hd hx I1 r q
end
section
variable {X:Cx} {CX:CXT} {k:Nat} {f C:Addr} {fd:FuncData} {ps ks:List Str} {sp:Sp} {E:XK} {x m:Str} {p pos apos kpos:Pos} {e o:Expr} {es:List Expr} {kws:List Keyword} {te ta:TE} {t tk:TA} {nm:Option Str}
variable {g:List Value->List Value->List Value} {gV:List V->List V->List V}
end
structure aZ(N P:List Str)(sc:Scope):Prop where
 kind:sc.kind = .function
 co:sc.isCoroutine=false
 gen:sc.isGenerator=false
 nd:N.Nodup
 pre:N.take P.length=P
 par:∀x∈P,sc.names.lookup x=some .local∨sc.names.lookup x=some .cell
 nofree:∀y∈sc.names,y.2≠ .free
theorem ug{kindOf:Str->Option NameKind}{x:Str}:∀{binds:List (Str×Value)} {m:Str->Option Value},(∀v,(x,v)∉binds)->bindL kindOf binds m x=m x
 |[],_,_=>rfl
 |(n,v)::r,m,h=>by
  unfold bindL
  rw[ug fun w hw=>h w (List.mem_cons_of_mem _ hw)]
  split
  ·have:x≠n:=by rintro rfl;exact h v List.mem_cons_self
   simp[this]
  ·rfl
theorem sX{kindOf:Str->Option NameKind}{x:Str}:∀{binds:List (Str×Value)} {m:Str->Option Value},(∀v,(x,v)∉binds)->bindC kindOf binds m x=m x
 |[],_,_=>rfl
 |(n,v)::r,m,h=>by
  unfold bindC
  rw[sX fun w hw=>h w (List.mem_cons_of_mem _ hw)]
  split
  ·rfl
  ·have:x≠n:=by rintro rfl;exact h v List.mem_cons_self
   simp[this]
theorem tu{kindOf:Str->Option NameKind}{x:Str}{v:Value}:∀{P:List Str} {vs:List Value} {i:Nat} {m:Str->Option Value},P.Nodup->P[i]?=some x->vs[i]?=some v->kindOf x=some .local->
  bindL kindOf (P.zip vs) m x=some v
 |[],_,_,_,_,h,_,_=>by simp at h
 |_::_,[],_,_,_,_,h,_=>by simp at h
 |p::P,w::vs,0,m,nd,h1,h2,hk=>by
  simp at h1 h2;subst h1;subst h2
  show bindL kindOf ((p,w)::P.zip vs) m p=_
  unfold bindL
  rw[ug fun v hv=>(List.nodup_cons.mp nd).1 (List.of_mem_zip hv).1,if_pos hk]
  simp
 |p::P,w::vs,i+1,m,nd,h1,h2,hk=>by
  show bindL kindOf ((p,w)::P.zip vs) m x=_
  unfold bindL
  exact tu (i:=i) (List.nodup_cons.mp nd).2 (by simpa using h1) (by simpa using h2) hk
theorem uh{kindOf:Str->Option NameKind}{x:Str}{v:Value}:∀{P:List Str} {vs:List Value} {i:Nat} {m:Str->Option Value},P.Nodup->P[i]?=some x->vs[i]?=some v->kindOf x≠some .local->
  bindC kindOf (P.zip vs) m x=some v
 |[],_,_,_,_,h,_,_=>by simp at h
 |_::_,[],_,_,_,_,h,_=>by simp at h
 |p::P,w::vs,0,m,nd,h1,h2,hk=>by
  simp at h1 h2;subst h1;subst h2
  show bindC kindOf ((p,w)::P.zip vs) m p=_
  unfold bindC
  rw[sX fun v hv=>(List.nodup_cons.mp nd).1 (List.of_mem_zip hv).1,if_neg hk]
  simp
 |p::P,w::vs,i+1,m,nd,h1,h2,hk=>by
  show bindC kindOf ((p,w)::P.zip vs) m x=_
  unfold bindC
  exact uh (i:=i) (List.nodup_cons.mp nd).2 (by simpa using h1) (by simpa using h2) hk
noncomputable def start(N:List Str)(vs:List V):St:=vs.map some++List.replicate (N.length-vs.length) none
noncomputable def Eu(CX:CXT)(P:Program)(w:World)(K:PySem.W.Frag)(mg:Str->Option Value)(base:Heap)(N:List Str)(qual:Str)(scope:Scope)(f:Addr)(cd:Value)(A:Around)(outer:List Env)(s:Shared)(H:Hp)(E:XK):Cx where
 prog:=P
 w:=w
 K:=K
 mg:=mg
 base:=base
 A:=A.deeper (envOfC qual scope s.heap.objs.size f cd)
 N:=N
 s₀:=s
 H₀:=H
 env:=envOfC qual scope s.heap.objs.size f cd
 outer:=outer
 stack:=envOfC qual scope s.heap.objs.size f cd::outer
 ex:=[]
 calm:=true
 fn:=fun _=>true
 pn:=[]
 xe:=fun e s'=>wpAny (model P w) (A.deeper (envOfC qual scope s.heap.objs.size f cd)) (leaving (envOfC qual scope s.heap.objs.size f cd) e) (fun _ s''=>CX outer H s E e s'') (fun e' s''=>CX outer H s E e' s'') s'
theorem xG{sc:Scope}{n:Nat}{x:Str}(h:sc.names.lookup x=some .cell):∃c,(cellsFrom n sc.names []).lookup x=some c:=by
 have q:=PySem.W.cellsFrom_some sc.names n [] (.inl h)
 exact Option.isSome_iff_exists.mp q
theorem sY{CX:CXT}{P:Program}{w:World}{K:PySem.W.Frag}{mg:Str->Option Value}{base:Heap}{N ps:List Str}{qual:Str}{scope:Scope}{f:Addr}{cd:Value}{A:Around}{outer:List Env}{s s1:Shared}{H:Hp}{E:XK}{us:List Value}{vs:List V}
  (S:aZ N ps scope) (hd:A.handled=none) (e0:Gw P w K mg base A outer s H) (hl:vs.length=ps.length) (r:Vals vs us)
  (x:InCallC s s.heap.objs.size (bindL (envOfC qual scope s.heap.objs.size f cd).kindOf (ps.zip us) fun _=>none) (cellsFrom (s.heap.objs.size+1) scope.names []) (bindC (envOfC qual scope s.heap.objs.size f cd).kindOf (ps.zip us) fun _=>none) s1):
  Inv (Eu CX P w K mg base N qual scope f cd A outer s H E) [] (start N vs) H s1:=by
 have hpl:ps.length<=N.length:=by have:=congrArg List.length S.pre;rw[List.length_take]at this;omega
 obtain⟨h1,tk,rfl,hk⟩:=x.done
 have noA:∀b:Addr,b∉(Eu CX P w K mg base N qual scope f cd A outer s H E).ex:=fun b z=>absurd (show b∈([]:List Addr)from z) (by simp)
 refine⟨⟨e0.mod,S.kind,rfl,rfl,Nat.le_refl _,fun y z c h1 h2=>?_,fun y hy=>?_,fun y c _ h=>?_,fun _=>hd,Around.frames_deeper e0.frames,.inr ⟨rfl,rfl⟩,fun b z=>absurd z (noA b),e0.bs,e0.bsz,fun b _ _=>noA b,fun b z=>absurd z (noA b),e0.yF,e0.frf⟩,
  rfl,e0.bare,Un.kept hk,⟨_,x.toInCall.ns,fun i y v h1 h2 h3=>?_⟩,fun y c h=>⟨_,x.cell y c h⟩,e0.hok.fresh (Nat.le_refl _),fun y c h=>?_,fun p hp=>absurd (show p∈([]:List (Addr×Obj))from hp) (by simp),e0.hok.kept hk,?_⟩
 ·exact name_of_addr x.apart (PySem.mem_of_lookup h1) (PySem.mem_of_lookup h2)
 ·have hy:scope.names.lookup y=some .cell∨scope.names.lookup y=some .free:=hy
  rcases hy with hy|hy
  ·exact xG hy
  ·exact absurd rfl (S.nofree _ (PySem.mem_of_lookup hy))
 ·exact Nat.le_of_lt (x.above y c (PySem.mem_of_lookup h))
 ·have hi:i<vs.length:=by
   unfold start at h2
   by_cases hi:i<vs.length
   ·exact hi
   ·rw[List.getElem?_append_right (by simpa using hi)]at h2
    rw[List.getElem?_replicate]at h2
    split at h2<;>cases h2
  have ha:vs[i]?=some v:=by
   unfold start at h2
   rw[List.getElem?_append_left (by simpa using hi),List.getElem?_map]at h2
   cases e:vs[i]? with
   |none=>rw[e]at h2;cases h2
   |some a=>rw[e]at h2;cases h2;rfl
  obtain⟨u,hu,rv⟩:=r.get ha
  have hp:ps[i]?=some y:=by
   rw[<-S.pre,List.getElem?_take_of_lt (by omega)];exact h1
  have ndP:ps.Nodup:=by rw[<-S.pre];exact S.nd.sublist (List.take_sublist _ _)
  refine⟨u,rv,?_⟩
  rcases S.par y (List.mem_of_getElem? hp)with k|k
  ·exact .inl ⟨k,tu ndP hp hu k⟩
  ·obtain⟨c,e⟩:=xG (n:=s.heap.objs.size+1) k
   refine .inr ⟨.inl k,c,e,?_⟩
   have q:=x.cell y c e
   rw[uh ndP hp hu (by show scope.names.lookup y≠_;rw[k];decide)]at q
   exact q
 ·exact e0.hok.fresh (Nat.le_of_lt (x.above y c (PySem.mem_of_lookup h)))
 ·unfold start
  show _=N.length
  rw[List.length_append,List.length_map,List.length_replicate]
  omega
theorem Kc{CX:CXT}{P:Program}{w:World}{K:PySem.W.Frag}{mg:Str->Option Value}{base:Heap}{k:Nat}{f:Addr}{name qual:Str}{params:Arguments}{body:List Stmt}{scope:Scope}{dV kV doc pm cdv ct oc:Value}{an od:Option Addr}
  {osl:Array (Option Value)} {N ps:List Str} {sp:Sp} (lk:K.lookup f=some ⟨oc,od,.func (PySem.W.fnOf name qual params body scope dV kV doc pm an cdv ct),osl⟩) (hcd:PySem.W.codeIn K cdv qual=true) (S:aZ N ps scope)
  (len:∀vs H Q E,sp vs H Q E->vs.length=ps.length)
  (hbody:∀(A:Around) (outer:List Env) (s:Shared) (H:Hp) (vs:List V) (Q:VK) (E:XK),iw k (A.deeper (envOfC qual scope s.heap.objs.size f cdv))->sp vs H Q E->
   ∃t,PSs (Eu CX P w K mg base N qual scope f cdv A outer s H E) body t/\t { nx:=fun _ H'=>Q .non H',rt:=Q } (start N vs) H):
  zY P w K mg base CX (k+1) f (PySem.W.fnOf name qual params body scope dV kV doc pm an cdv ct) ps sp:=by
 refine⟨len,fun A outer s H args us vs Q E hr e0 hb r hsp=>?_⟩
 have hl:=len _ _ _ _ hsp
 have KX:K.In s.heap:=e0.mod.kin.keeps fun b o e=>(e0.bs b o e).1
 have lim:s.heap.NoLimit:=e0.mod.nolimit.keeps fun b o e=>(e0.bs b o e).1
 have hkind:∀y∈ps.zip us,scope.names.lookup y.1=some .local∨(scope.names.lookup y.1=some .cell/\((cellsFrom (s.heap.objs.size+1) scope.names []).lookup y.1).isSome=true):=fun⟨n,v⟩ hy=>by
  rcases S.par n (List.of_mem_zip hy).1 with q|q
  ·exact .inl q
  ·exact .inr ⟨q,PySem.W.cellsFrom_some _ _ _ (.inl q)⟩
 refine codeAny_call_function hr.depth (KX _ _ lk) rfl S.co S.gen rfl (PySem.W.codeRec_of KX hcd) (hb _ _ _ _ ?_)
 refine wpAny_newFunctionEnv_cells S.kind hkind fun env he s1 x=>?_
 subst he
 refine⟨lim.keeps x.toInCall.keep,codeAny_func ?_⟩
 obtain⟨t,ht,hq⟩:=hbody A outer s H vs Q E (hr.deeper _) hsp
 have I:Inv (Eu CX P w K mg base N qual scope f cdv A outer s H E) [] (start N vs) H s1:=sY S hr.hd e0 hl r x
 refine wpAny_mono (ht [] s1 (start N vs) H _ I hq) (fun fl s' hs=>?_) fun e s' hs=>hs
 have fin:∀{σ':St} {H':Hp} {v:V} {u:Value},Inv (Eu CX P w K mg base N qual scope f cdv A outer s H E) [] σ' H' s'->RelV v u->Q v H'->CE outer P w H s Q u s':=
  fun {σ' H' v u} J rv q=>⟨v,H',J.os,J.bare,J.base,J.hok,rv,q⟩
 cases fl with
 |ret u=>
  obtain⟨v,σ',H',J,rv,q⟩:=hs
  exact fin J rv q
 |next=>
  obtain⟨σ',H',J,q⟩:=hs
  exact fin (v:=V.non) (u:=Value.none) J rfl q
 |brk=>
  obtain⟨_,_,_,q⟩:=hs
  exact False.elim q
 |cont=>
  obtain⟨_,_,_,q⟩:=hs
  exact False.elim q
end L2
namespace L2
open PySem PySem.Spec PyProof.Rows
section
variable {X:Cx} {x:Str} {p pos:Pos} {e:Expr} {es:List Expr} {t:TA} {id T:String} {r:List V->Hp->VK->Prop}
noncomputable def tCB(r:List V->Hp->VK->Prop)(t:TA):TE:=fun σ H Q=>t σ H fun vs H1=>r vs H1 Q
theorem aN(hc:j5 X (.builtin id) r)(hg:Gl X x)(hm:X.mg x=none)(hv:bootBuiltins x=some (.builtin id))(ha:PA X (e::es) t)(hn:x≠ "__name__" := by decide)(hdb:(x==("__debug__" : Str))=false:=by decide)
  (he:starEach (e::es) X.env=(false,eval e X.env)::starEach es X.env:=by rfl) (hpl:(backTo pos (starEach es X.env)).any (·.1)=false:=by rfl):PE X (.Call (.Name x p) (e::es) [] pos) (tCB r t):=by
 intro pins s σ H Q I h
 refine wpAny_Call_Name_kw (qK I hg hm hv ?_ hn hdb)
 exact PyProof.Rows.callWith_builtin1 (thn (ha pos pins s σ H _ I h) fun us s1 ⟨vs,H1,I1,r1,q1⟩=>hc pins s1 σ H1 vs us Q I1 r1 q1) he hpl
theorem bJ(hc:j5 X (.type T) r)(hg:Gl X x)(hm:X.mg x=none)(hv:bootBuiltins x=some (.type T))(ha:PA X (e::es) t)(hn:x≠ "__name__" := by decide)(hdb:(x==("__debug__" : Str))=false:=by decide)
  (he:starEach (e::es) X.env=(false,eval e X.env)::starEach es X.env:=by rfl) (hpl:(backTo pos (starEach es X.env)).any (·.1)=false:=by rfl):PE X (.Call (.Name x p) (e::es) [] pos) (tCB r t):=by
 intro pins s σ H Q I h
 refine wpAny_Call_Name_kw (qK I hg hm hv ?_ hn hdb)
 exact PyProof.Rows.callWith_type1 (thn (ha pos pins s σ H _ I h) fun us s1 ⟨vs,H1,I1,r1,q1⟩=>hc pins s1 σ H1 vs us Q I1 r1 q1) he hpl
end
end L2
namespace HT
open PySem PyProof.Rows
section
open PySem.SeqAt
open PySem.AutoSeq1 (wpAny_loadPart')
open PySem.MeetsSeq PySem.MeetsSeq2 PySem.MeetsSeq3
end
section
variable {prog:Program} {w:World} {A:Around} {E:Value->Shared->Prop} {s:Shared}
theorem Ib{t b:Addr}{vs ws:List Value}{Q:Value->Shared->Prop}(ht:IsTup s.heap t vs.toArray)(hb:IsTup s.heap b ws.toArray)(hv:vs≠[])
  (h1:ws=[]->Q (.ref t) s) (h2:ws≠[]->Q (.ref s.heap.objs.size) { s with heap:=s.heap.push { cls:= .type "tuple",data:= .seq (vs++ws).toArray } })
  (hsz:vs.length+ws.length<=sizeLine):wpAny (model prog w) A (binaryOp .Add (.ref t) (.ref b)) Q E s:=by
 obtain⟨⟨cls,dd,data,sl⟩,ho,hc,n,hd⟩:=id ht
 obtain⟨⟨cls2,dd2,data2,sl2⟩,ho2,hc2,n2,hd2⟩:=id hb
 simp only at hc hd hc2 hd2
 subst hc hd hc2 hd2
 have e:vs.toArray++ws.toArray=(vs++ws).toArray:=by simp
 by_cases hw:ws=[]
 ·exact concat_meets ⟨_,ho,rfl⟩ ⟨_,ho2,rfl⟩ noFill_tuple_add seq_tuple_add PySem.F.slot_tuple_add PySem.F.entry_tuple_add (PySem.F.args_tuple_add_2 _ _)
   (tuple_addW1 t b vs.toArray ws.toArray n n2 dd dd2 sl sl2 (by simpa using hv) (by simp[hw])) ⟨ho,ho2,h1 hw⟩
 ·refine concat_meets ⟨_,ho,rfl⟩ ⟨_,ho2,rfl⟩ noFill_tuple_add seq_tuple_add PySem.F.slot_tuple_add PySem.F.entry_tuple_add (PySem.F.args_tuple_add_2 _ _)
   (tuple_addW2 t b vs.toArray ws.toArray n n2 dd dd2 sl sl2 (by simpa using hv) (by simpa using hw) (by rw[List.size_toArray,List.size_toArray];exact hsz)) ⟨ho,ho2,?_⟩
  rw[e]
  exact h2 hw
noncomputable def sIx(n d:Nat):Option Int->Nat
 |none=>d
 |some v=>if v<0 then(v+(n:Int)).toNat else min v.toNat n
theorem jG(n d:Nat):sIx n d none=d:=rfl
theorem jo(n d k:Nat):sIx n d (some (k:Int))=min k n:=by
 show(if(k:Int)<0 then((k:Int)+(n:Int)).toNat else min (k:Int).toNat n)=min k n
 rw[if_neg (by omega),Int.toNat_natCast]
theorem Ja(n d:Nat)(hd:d<=n)(o:Option Int):sIx n d o<=n:=by
 cases o with
 |none=>exact hd
 |some v=>
  show(if v<0 then(v+(n:Int)).toNat else min v.toNat n)<=n
  by_cases hv:v<0
  ·rw[if_pos hv];omega
  ·rw[if_neg hv];exact Nat.min_le_right _ _
theorem zH(v:Int)(n d:Nat):(if v<0 then max (v+(n:Int)) 0 else min v (n:Int))=((sIx n d (some v):Nat):Int):=by
 show(if v<0 then max (v+(n:Int)) 0 else min v (n:Int))=(((if v<0 then(v+(n:Int)).toNat else min v.toNat n):Nat):Int)
 by_cases hv:v<0
 ·simp only[if_pos hv];omega
 ·simp only[if_neg hv];omega
theorem yj(lo hi:Option Int)(n:Nat):Builtin.Slice.sliceAdjust lo hi 1 (n:Int)=(((sIx n 0 lo:Nat):Int),((sIx n n hi:Nat):Int)):=by
 have h1:¬((1:Int)<0):=by omega
 unfold Builtin.Slice.sliceAdjust
 simp only[h1,if_false]
 refine Prod.ext ?_ ?_
 ·cases lo with
  |none=>rfl
  |some v=>exact zH v n 0
 ·cases hi with
  |none=>rfl
  |some v=>exact zH v n n
theorem yd(i j:Nat):Builtin.Slice.slicePlaces (i:Int) (j:Int) 1=j-i:=by
 unfold Builtin.Slice.slicePlaces
 have h1:(1:Int)>0:=by omega
 simp only[h1,if_true,Int.ediv_one]
 split<;>omega
theorem qz{v:Value}{o:Option Int}{Q:Option Int->Shared->Prop}(p:IsPart v o)(h:Q o s):wpAny (model prog w) A (Builtin.Slice.slicePartIndex v) Q E s:=by
 cases p with
 |none=>exact slicePart_none h
 |int i t=>exact slicePart_int h
theorem ji{sl:Addr}{vl vu:Value}{lo hi:Option Int}{n:Nat}{Q:Int×Int×Nat->Shared->Prop}(hs:s.heap.IsSliceOf sl vl vu .none)(pl:IsPart vl lo)(pu:IsPart vu hi)
  (h:Q (((sIx n 0 lo:Nat):Int),1,sIx n n hi-sIx n 0 lo) s):wpAny (model prog w) A (Builtin.Slice.sliceApplied (.ref sl) (pure (n:Int))) Q E s:=by
 obtain⟨os,hos,hcs,hds⟩:=id hs
 unfold Builtin.Slice.sliceApplied Builtin.Slice.sliceFields
 refine wpAny_bind (wpAny_bind (wpAny_field hos hds (x:=vl) rfl (wpAny_bind (wpAny_field hos hds (x:=vu) rfl (wpAny_bind (wpAny_field hos hds (x:= .none) rfl (wpAny_pure ?_)))))))
 refine wpAny_bind (slicePart_none ?_)
 show wpAny _ _ (if((1:Int)==0)=true then _ else _) _ _ s
 rw[if_neg (by decide)]
 refine wpAny_bind (qz pl (wpAny_bind (qz pu (wpAny_bind (wpAny_pure ?_)))))
 show wpAny _ _ (match Builtin.Slice.sliceAdjust lo hi 1 (n:Int)with|(lo,hi)=>pure (lo,(1:Int),Builtin.Slice.slicePlaces lo hi 1)) _ _ s
 rw[yj lo hi n]
 show wpAny _ _ (pure (((sIx n 0 lo:Nat):Int),(1:Int),Builtin.Slice.slicePlaces ((sIx n 0 lo:Nat):Int) ((sIx n n hi:Nat):Int) 1)) _ _ s
 rw[yd]
 exact wpAny_pure h
theorem DP(xs:Array Value)(i k:Nat):((List.range k).filterMap fun(m:Nat)=>xs[((i:Int)+(m:Int)*1).toNat]?).toArray=((xs.toList.drop i).take k).toArray:=by
 have e:(fun(m:Nat)=>xs[((i:Int)+(m:Int)*1).toNat]?)=fun m=>xs[i+m]?:=by
  funext m
  have:((i:Int)+(m:Int)*1).toNat=i+m:=by omega
  rw[this]
 rw[e]
 have:=pick_run xs i k
 rw[List.filterMap_map]at this
 have e2:((fun x=>xs[x]?)∘fun x=>i+x)=fun m=>xs[i+m]?:=rfl
 rw[e2]at this
 rw[this]
theorem mF{t sl:Addr}{items:Array Value}{vl vu:Value}{lo hi:Option Int}{Q:Value->Shared->Prop}(ht:IsTup s.heap t items)(hs:s.heap.IsSliceOf sl vl vu .none)(pl:IsPart vl lo)(pu:IsPart vu hi)
  (hw:¬(sIx items.size 0 lo=0/\sIx items.size items.size hi=items.size))
  (h:Q (.ref s.heap.objs.size) { s with heap:=s.heap.push { cls:= .type "tuple",data:= .seq ((items.toList.drop (sIx items.size 0 lo)).take (sIx items.size items.size hi-sIx items.size 0 lo)).toArray } })
  (hsz:items.size<=sizeLine):wpAny (model prog w) A (getItem (.ref t) (.ref sl)) Q E s:=by
 have htake:sizeOk (.seq ((items.toList.drop (sIx items.size 0 lo)).take (sIx items.size items.size hi-sIx items.size 0 lo)).toArray):=by
  show((items.toList.drop (sIx items.size 0 lo)).take (sIx items.size items.size hi-sIx items.size 0 lo)).toArray.size<=sizeLine
  rw[List.size_toArray,List.length_take,List.length_drop,Array.length_toList]
  omega
 have hj:sIx items.size items.size hi<=items.size:=Ja _ _ (Nat.le_refl _) hi
 obtain⟨os,hos,hcs,hds⟩:=id hs
 have hTs:s.TypeIs (.ref sl) "slice" := ⟨os,hos,hcs⟩
 unfold getItem
 try with_reducible refine wpAny_holding ?_
 first|refine wpAny_bind (wpAny_pure ?_)|skip
 refine wpAny_bind (wpAny_sequenceKey ht.typeIs (by decide) ?_)
 refine wpAny_bind (wpAny_callSpecial?_slot (name:=Str.ofString "__getitem__") ht.typeIs PyProof.Rows.slot_tuple_getitem
  (wpAny_call_entry PyProof.Rows.slot_tuple_getitem ht.typeIs entry_tuple_getitem ?_ (args_tuple_getitem _ _)))
 show wpAny _ _ (Builtin.Tuple.tupleItemsOf (.ref t)>>=_) _ _ s
 refine wpAny_bind (tupleItemsOf_ ht ?_)
 refine wpAny_bind (wpAny_typeOf hTs ?_)
 rw[if_pos (by decide)]
 refine wpAny_bind (ji hs pl pu ?_)
 have hno:¬((((sIx items.size 0 lo:Nat):Int)==0&&(1:Int)==1&&(sIx items.size items.size hi-sIx items.size 0 lo)==items.size)=true):=by
  intro q
  rw[Bool.and_eq_true,Bool.and_eq_true]at q
  have q1:((sIx items.size 0 lo:Nat):Int)=0:=eq_of_beq q.1.1
  have q2:sIx items.size items.size hi-sIx items.size 0 lo=items.size:=eq_of_beq q.2
  exact hw ⟨by omega,by omega⟩
 show wpAny _ _ (if(((sIx items.size 0 lo:Nat):Int)==0&&(1:Int)==1&&(sIx items.size items.size hi-sIx items.size 0 lo)==items.size)=true then _ else _) _ _ s
 rw[if_neg hno,DP]
 first
  |exact wpAny_bind (m:=Builtin.Tuple.tupleExact _) (wpAny_newObj_type (wpAny_pure ⟨_,rfl,wpAny_pure h⟩) htake)
  |exact wpAny_bind (m:=Builtin.Tuple.tupleExact _) (wpAny_newObj_type (wpAny_bind (wpAny_pure (wpAny_pure ⟨_,rfl,wpAny_pure h⟩))) htake)
  |exact wpAny_bind (wpAny_bind (m:=Builtin.Tuple.tupleExact _) (wpAny_newObj_type (wpAny_pure (wpAny_pure ⟨_,rfl,wpAny_pure h⟩)) htake))
  |exact wpAny_bind (wpAny_bind (m:=Builtin.Tuple.tupleExact _) (wpAny_newObj_type (wpAny_pure ⟨_,rfl,wpAny_pure h⟩) htake))
end
end HT
namespace L2
open PySem PySem.Spec PyProof.Rows
noncomputable abbrev TO:=St->Hp->(Option Int->Hp->Prop)->Prop
noncomputable def PO(X:Cx)(e:Option Expr)(t:TO):Prop:=
 ∀(pins:List (Addr×Obj)) (s:Shared) (σ:St) (H:Hp) (Q:Option Int->Hp->Prop),Inv X pins σ H s->t σ H Q->
  wpAny (model X.prog X.w) X.A (evalPart e X.env) (fun u s'=>∃o H',Inv X pins σ H' s'/\IsPart u o/\Q o H') X.xe s
noncomputable def Gq:TO:=fun _ H Q=>Q none H
inductive MS(x:V)(H:Hp)(Q:Option Int->Hp->Prop):Prop|mk (i:Int) (hx:x = .int i) (q:Q (some i) H)
noncomputable def TX(t:TE):TO:=fun σ H Q=>t σ H fun x H1=>MS x H1 Q
theorem intsAre_of{ns:List Int}:∀{us:List Value},Vals (ns.map V.int) us->IntsAre us ns:=by
 induction ns with
 |nil=>intro us r;rw[List.map_nil]at r;cases r;exact .nil
 |cons n ns ih=>
  intro us r
  rw[List.map_cons]at r
  cases r with
  |cons r1 r2=>
   obtain⟨t,e⟩:=r1
   subst e
   exact .cons n t (ih r2)
section
variable {X:Cx} {e:Expr} {te:TE} {lo hi:Option Expr} {tl th:TO} {pos p2:Pos}
theorem pG:PO X none Gq:=by
 intro pins s σ H Q I h
 rw[evalPart_none]
 exact wpAny_pure ⟨none,H,I,.none,h⟩
theorem jR(h:PE X e te):PO X (some e) (TX te):=by
 intro pins s σ H Q I hw
 rw[evalPart_some]
 refine thn (h pins s σ H _ I hw) fun u s1 ⟨x,H1,I1,r1,q1⟩=>?_
 obtain⟨i,rfl,q⟩:=q1
 obtain⟨t,rfl⟩:=r1
 exact⟨some i,H1,I1,.int i t,q⟩
noncomputable def SlR(X:Cx)(r:V->Option Int->Option Int->Hp->VK->Prop):Prop:=
 ∀(pins:List (Addr×Obj)) (s:Shared) (σ:St) (H:Hp) (x:V) (v vl vu:Value) (lo hi:Option Int) (sl:Addr) (Q:VK),Inv X pins σ H s->RelV x v->s.heap.IsSliceOf sl vl vu .none->IsPart vl lo->IsPart vu hi->r x lo hi H Q->
  ∃T id,typeLookup (.type T) "__getitem__" = pure (some (.builtin id))/\s.TypeIs v T/\wpAny (model X.prog X.w) X.A (getItem v (.ref sl)) (EP X pins σ Q) X.xe s
theorem SlR.or{r r':V->Option Int->Option Int->Hp->VK->Prop}(h:SlR X r)(h':SlR X r'):SlR X (fun x lo hi H Q=>r x lo hi H Q∨r' x lo hi H Q):=by
 intro pins s σ H x v vl vu lo hi sl Q I rx hs pl pu q
 rcases q with q|q
 ·exact h pins s σ H x v vl vu lo hi sl Q I rx hs pl pu q
 ·exact h' pins s σ H x v vl vu lo hi sl Q I rx hs pl pu q
noncomputable def tSl(r:V->Option Int->Option Int->Hp->VK->Prop)(te:TE)(tl th:TO):TE:=fun σ H Q=>te σ H fun x H1=>tl σ H1 fun l H2=>th σ H2 fun u H3=>r x l u H3 Q
theorem jH{r:V->Option Int->Option Int->Hp->VK->Prop}(hr:SlR X r)(he:PE X e te)(hl:PO X lo tl)(hu:PO X hi th):PE X (.Subscript e (.Slice lo hi none p2) pos) (tSl r te tl th):=by
 intro pins s σ H Q I h
 refine Subscript_ (thn (he pins s σ H _ I h) fun v s1 ⟨x,H1,I1,r1,q1⟩=>?_)
 refine wpAny_Slice (thn (hl pins s1 σ H1 _ I1 q1) fun vl s2 ⟨l,H2,I2,pl,q2⟩=>thn (hu pins s2 σ H2 _ I2 q2) fun vu s3 ⟨u,H3,I3,pu,q3⟩=>?_)
 rw[evalPart_none]
 refine wpAny_pure ?_
 have I4:Inv X pins σ H3 { s3 with heap:=s3.heap.push { cls:= .type "slice",data:= .fields #[vl,vu,.none] } }:=I3.kept (t':=s3.toks) fun b ob q=>Heap.get?_push_of_some _ q
 obtain⟨T,id,hT,ht,hg⟩:=hr pins { s3 with heap:=s3.heap.push { cls:= .type "slice",data:= .fields #[vl,vu,.none] } } σ H3 x v vl vu l u s3.heap.objs.size Q I4 r1 (Heap.IsSliceOf.new ..) pl pu q3
 show wpAny (model X.prog X.w) X.A (subscriptTail e (.Slice lo hi none p2) v (.ref s3.heap.objs.size)) (EP X pins σ Q) X.xe { s3 with heap:=s3.heap.push { cls:= .type "slice",data:= .fields #[vl,vu,.none] } }
 exact tail_any (ops:=[.ref s3.heap.objs.size,v]) ht hT hg (by with_unfolding_all rfl)
noncomputable def uQ(xs:List V)(lo hi:Option Int):List V:=(xs.drop (HT.sIx xs.length 0 lo)).take (HT.sIx xs.length xs.length hi-HT.sIx xs.length 0 lo)
theorem n6(xs:List V)(lo hi:Option Int):(uQ xs lo hi).length<=xs.length:=by
 unfold uQ
 rw[List.length_take,List.length_drop]
 omega
noncomputable def V6(K:PySem.W.Frag):V->Option Int->Option Int->Hp->VK->Prop:=fun x lo hi H Q=>∃a xs,x = .ref a/\SqT K H a xs/\
 ¬(HT.sIx xs.length 0 lo=0/\HT.sIx xs.length xs.length hi=xs.length)/\∀p,H p=none->Q (.ref p) (upd H p (.tup (uQ xs lo hi)))
theorem JY:SlR X (V6 X.K):=by
 intro pins s σ H x v vl vu lo hi sl Q I rx hs pl pu h
 obtain⟨a,xs,rfl,hx,hw,q⟩:=h
 cases rx
 obtain⟨its,r,ht,hz⟩:=I.tuple hx
 have hlen:its.toArray.size=xs.length:=by rw[List.size_toArray];exact r.length.symm
 refine⟨"tuple",_,PyProof.Rows.slot_tuple_getitem.lookup,ht.typeIs,?_⟩
 refine HT.mF ht hs pl pu (by rw[hlen];exact hw) ?_ (by rw[hlen];exact hz)
 rw[hlen]
 refine⟨.ref s.heap.objs.size,_,I.laid (t':=s.toks) (o:= .tup (uQ xs lo hi)) (fun b ob q=>Heap.get?_push_of_some _ q) (Nat.le_refl _) ?_,rfl,q _ (I.hok.fresh (Nat.le_refl _))⟩
 exact⟨Nat.le_trans (n6 xs lo hi) hz,_,(r.drop (HT.sIx xs.length 0 lo)).take (HT.sIx xs.length xs.length hi-HT.sIx xs.length 0 lo),IsTup.new _ _⟩
noncomputable def RD(K:PySem.W.Frag):R2:=fun x y H Q=>∃a b xs ys,x = .ref a/\y = .ref b/\SqT K H a xs/\SqT K H b ys/\xs≠[]/\xs.length+ys.length<=sizeLine/\
 (ys=[]->Q (.ref a) H)/\(ys≠[]->∀p,H p=none->Q (.ref p) (upd H p (.tup (xs++ys))))
theorem Vals.sW{xs:List V}{us:List Value}(r:Vals xs us):us=[]↔xs=[]:=by
 cases r with
 |nil=>simp
 |cons _ _=>simp
theorem HS:OpR X (binaryOp .Add) (RD X.K):=by
 intro pins s σ H x y v u Q I rx ry h
 obtain⟨a,b,xs,ys,rfl,rfl,ha,hb,hx,hz,q1,q2⟩:=h
 cases rx
 cases ry
 obtain⟨its,r1,p1,_⟩:=I.tuple ha
 obtain⟨its2,r2,p2,_⟩:=I.tuple hb
 refine HT.Ib p1 p2 (fun z=>hx (r1.sW.mp z)) (fun z=>⟨.ref a,H,I,rfl,q1 (r2.sW.mp z)⟩) (fun z=>?_) (by rw[<-r1.length,<-r2.length];exact hz)
 refine⟨.ref s.heap.objs.size,_,I.laid (t':=s.toks) (o:= .tup (xs++ys)) (fun b ob q=>Heap.get?_push_of_some _ q) (Nat.le_refl _) ?_,rfl,q2 (fun w=>z (r2.sW.mpr w)) _ (I.hok.fresh (Nat.le_refl _))⟩
 exact⟨by rw[List.length_append];exact hz,_,r1.append r2,IsTup.new _ _⟩
end
end L2
namespace L2
open PySem PySem.Spec PyProof.Rows
noncomputable def ixN(n:Nat)(i:Int):Option Nat:=if 0<=i then(if i<n then some i.toNat else none)else if -(n:Int)<=i then some (i+n).toNat else none
noncomputable def atI{α:Type}(xs:List α)(i:Int):Option α:=(ixN xs.length i).bind fun j=>xs[j]?
theorem AJ{n:Nat}{i:Int}{j:Nat}(h:ixN n i=some j):seqIndex? i n=some j/\j<n/\-(n:Int)<=i/\i<n:=by
 unfold ixN at h
 by_cases h0:0<=i
 ·rw[if_pos h0]at h
  by_cases h1:i<n
  ·rw[if_pos h1]at h
   have e:i.toNat=j:=Option.some.inj h
   exact⟨by rw[seqIndex_of h0 h1,e],by omega,by omega,h1⟩
  ·rw[if_neg h1]at h;cases h
 ·rw[if_neg h0]at h
  by_cases h1:-(n:Int)<=i
  ·rw[if_pos h1]at h
   have e:(i+n).toNat=j:=Option.some.inj h
   exact⟨by rw[seqIndex_neg (by omega) h1,e],by omega,h1,by omega⟩
  ·rw[if_neg h1]at h;cases h
theorem vM{α:Type}{xs:List α}{i:Int}{v:α}(h:atI xs i=some v):∃j,seqIndex? i xs.length=some j/\xs[j]?=some v/\j<xs.length/\-(xs.length:Int)<=i/\i<xs.length:=by
 unfold atI at h
 cases e:ixN xs.length i with
 |none=>rw[e]at h;cases h
 |some j=>
  rw[e]at h
  obtain⟨h1,h2,h3,h4⟩:=AJ e
  exact⟨j,h1,h,h2,h3,h4⟩
theorem Dd{α:Type}{xs:List α}{j:Nat}{v:α}(h:xs[j]?=some v):atI xs (j:Int)=some v:=by
 have hj:j<xs.length:=(List.getElem?_eq_some_iff.mp h).1
 have e:ixN xs.length (j:Int)=some j:=by
  unfold ixN
  rw[if_pos (by omega),if_pos (by omega)];simp
 unfold atI;rw[e];exact h
noncomputable def Gf(b:Expr):Prop:=∀o i,subscripted b false o i=operate [o,i] (getItem o i)
noncomputable def IxR(X:Cx)(r:R2):Prop:=
 ∀(value slice:Expr) (pins:List (Addr×Obj)) (s:Shared) (σ:St) (H:Hp) (x y:V) (v u:Value) (Q:VK),Inv X pins σ H s->RelV x v->RelV y u->r x y H Q->
  subscripted slice false v u=operate [v,u] (getItem v u)->wpAny (model X.prog X.w) X.A (subscriptTail value slice v u) (EP X pins σ Q) X.xe s
noncomputable def MtR(X:Cx)(id:String)(r:V->List V->Hp->VK->Prop):Prop:=
 ∀(pins:List (Addr×Obj)) (s:Shared) (σ:St) (H:Hp) (x:V) (xs:List V) (v:Value) (us:List Value) (Q:VK),Inv X pins σ H s->RelV x v->Vals xs us->r x xs H Q->
  wpAny (model X.prog X.w) X.A (call (.builtin id) (v::us)) (EP X pins σ Q) X.xe s
section
variable {X:Cx} {a b:Expr} {ta tb:TE} {pos:Pos}
theorem IxR.or{r r':R2}(h:IxR X r)(h':IxR X r'):IxR X (fun x y H Q=>r x y H Q∨r' x y H Q):=by
 intro value slice pins s σ H x y v u Q I rx ry q hs
 rcases q with q|q
 ·exact h value slice pins s σ H x y v u Q I rx ry q hs
 ·exact h' value slice pins s σ H x y v u Q I rx ry q hs
theorem bG{r:R2}(hr:IxR X r)(ha:PE X a ta)(hb:PE X b tb)(hs:Gf b):PE X (.Subscript a b pos) (tOp r ta tb):=by
 intro pins s σ H Q I h
 exact Subscript_ (TJ ha hb I h fun v u s2 x y H2 I2 rx ry q=>hr a b pins s2 σ H2 x y v u Q I2 rx ry q (hs _ _))
noncomputable def Vy(K:PySem.W.Frag):R2:=fun x y H Q=>∃p xs i v,x = .ref p/\y = .int i/\SqL K H p xs/\atI xs i=some v/\Q v H
noncomputable def Ve(K:PySem.W.Frag):R2:=fun x y H Q=>∃p xs i v,x = .ref p/\y = .int i/\SqT K H p xs/\atI xs i=some v/\Q v H
noncomputable def Ui:R2:=fun x y H Q=>∃z i c,x = .str z/\y = .int i/\z.length<=sizeLine/\atI z.cps.toList i=some c/\Q (.str ⟨#[c]⟩) H
theorem Hs:IxR X (Vy X.K):=by
 intro value slice pins s σ H x y v u Q I rx ry h hs
 obtain⟨p,xs,i,z,rfl,rfl,hq,he,q⟩:=h
 cases rx
 obtain⟨t,rfl⟩:=ry
 obtain⟨its,r,pl,hz⟩:=I.list hq
 obtain⟨j,h1,h2,h3,h4,h5⟩:=vM he
 obtain⟨w,ew,rw'⟩:=r.get h2
 have hl:=r.length
 have hn:=tX
 have fin:EP X pins σ Q w s:=⟨z,H,I,rw',q⟩
 by_cases h0:0<=i
 ·have hj:i.toNat=j:=by
   rw[seqIndex_of h0 h5]at h1
   exact Option.some.inj h1
  exact item_listR pl.isList h0 (by omega) (by rw[hj];simpa using ew) fin hs
 ·have hj:(i+(its.toArray.size:Int)).toNat=j:=by
   rw[seqIndex_neg (by omega) h4]at h1
   rw[List.size_toArray,<-hl]
   exact Option.some.inj h1
  exact subscriptTail_builtinR (x:=w) pl.isList.typeIs slot_list_getitem.lookup
   (wpAny_getItem_list_neg (Q:=fun r s'=>r=w/\EP X pins σ Q r s') pl.isList (by omega) (by rw[List.size_toArray]<;>omega) (by omega) (by rw[hj];simpa using ew) ⟨rfl,fin⟩) hs
theorem J9:IxR X (Ve X.K):=by
 intro value slice pins s σ H x y v u Q I rx ry h hs
 obtain⟨p,xs,i,z,rfl,rfl,hq,he,q⟩:=h
 cases rx
 obtain⟨t,rfl⟩:=ry
 obtain⟨its,r,pl,hz⟩:=I.tuple hq
 obtain⟨j,h1,h2,h3,h4,h5⟩:=vM he
 obtain⟨w,ew,rw'⟩:=r.get h2
 have hl:=r.length
 have hn:=tX
 have fin:EP X pins σ Q w s:=⟨z,H,I,rw',q⟩
 exact subscriptTail_builtinR (x:=w) pl.typeIs slot_tuple_getitem.lookup
  (getItem_tuple (j:=j) (Q:=fun r s'=>r=w/\EP X pins σ Q r s') pl (by omega) (by omega) (by rw[List.size_toArray,<-hl];exact h1) (by simpa using ew) ⟨rfl,fin⟩) hs
theorem JM:IxR X Ui:=by
 intro value slice pins s σ H x y v u Q I rx ry h hs
 obtain⟨z,i,c,rfl,rfl,hz,he,q⟩:=h
 obtain⟨t,rfl⟩:=rx
 obtain⟨t',rfl⟩:=ry
 obtain⟨j,h1,h2,h3,h4,h5⟩:=vM he
 have hl:z.cps.toList.length=z.length:=by simp[Str.length]
 rw[hl]at h1 h4 h5
 have hn:=tX
 exact tail_any (typeIs_str s z t) slot_str_getitem.lookup (getItem_str (c:=c) (by
  have e1:decide (i < -(2^63:Int))=false:=decide_eq_false (by omega)
  have e2:decide (i≥2^63)=false:=decide_eq_false (by omega)
  rw[e1,e2,Bool.or_false]) (by rw[h1];simpa using h2) ⟨.str ⟨#[c]⟩,H,I.tok _,⟨_,rfl⟩,q⟩) hs
noncomputable def rIx(K:PySem.W.Frag):R2:=fun x y H Q=>Vy K x y H Q∨Ve K x y H Q∨Ui x y H Q
theorem J1:IxR X (rIx X.K):=Hs.or (J9.or JM)
theorem za(its:List Value)(n j:Nat)(u:Value):Obj.mapSeq (·.setIfInBounds j u) { cls:= .type "list",data:= .seq its.toArray n }={ cls:= .type "list",data:= .seq (its.set j u).toArray n }:=by
 simp[Obj.mapSeq]
theorem Inv.lst{pins:List (Addr×Obj)}{σ:St}{H:Hp}{s:Shared}{p:Addr}{xs:List V}(I:Inv X pins σ H s)(h:H p=some (.lst xs)):
  ∃(its:List Value) (n:Nat),Vals xs its/\s.heap.get? p=some { cls:= .type "list",data:= .seq its.toArray n }/\xs.length<=sizeLine:=by
 obtain⟨z,its,n,r,e⟩:=I.hok p _ h
 exact⟨its,n,r,e,z⟩
theorem Inv.Jk{pins:List (Addr×Obj)}{σ:St}{H:Hp}{s:Shared}{p:Addr}{xs ys:List V}{its its':List Value}{n n':Nat}{f:Obj->Obj}(I:Inv X pins σ H s)(h:H p=some (.lst xs))
  (ho:s.heap.get? p=some { cls:= .type "list",data:= .seq its.toArray n }) (hf:f { cls:= .type "list",data:= .seq its.toArray n }={ cls:= .type "list",data:= .seq its'.toArray n' }) (r:Vals ys its') (hz:ys.length<=sizeLine) (t:Nat):
  Inv X pins σ (upd H p (.lst ys)) { s with heap:=s.heap.update p f,toks:=t }:=by
 have e:(s.heap.update p f).get? p=some { cls:= .type "list",data:= .seq its'.toArray n' }:=by
  rw[Heap.get?_update_self f ho (by rw[hf]<;>rfl),hf]
 refine I.write (x:=p) (e:=p) (by rw[h];trivial) (.inl rfl) (fun b u hb q=>(Heap.get?_update_other _ _ (Ne.symm hb)).trans q) ⟨_,e⟩ ?_
 exact⟨hz,its',n',r,e⟩
inductive SSet(o i v:V)(H:Hp)(Q:Hp->Prop):Prop|mk (p:Addr) (xs:List V) (k:Int) (j:Nat) (ho:o = .ref p) (hi:i = .int k) (hp:H p=some (.lst xs)) (hj:ixN xs.length k=some j) (q:Q (upd H p (.lst (xs.set j v))))
noncomputable def Pn:V->V->V->Hp->(Hp->Prop)->Prop:=fun o i v H Q=>SSet o i v H Q
theorem set_list:U8 X Pn:=by
 intro pins s σ H o i v ov iv u Q I ro ri rv h
 obtain⟨p,xs,k,j,rfl,rfl,hp,hj,q⟩:=h
 cases ro
 obtain⟨t,rfl⟩:=ri
 obtain⟨its,n,r,ho,hz⟩:=I.lst hp
 obtain⟨h1,h2,h3,h4⟩:=AJ hj
 have hl:=r.length
 have hn:=tX
 have I':Inv X pins σ (upd H p (.lst (xs.set j v))) { s with heap:=s.heap.update p (Obj.mapSeq (·.setIfInBounds j u)) }:=
  I.Jk hp ho (za its n j u) (r.set rv j) (by rw[List.length_set];exact hz) s.toks
 by_cases h0:0<=k
 ·have hk:k.toNat=j:=by
   rw[seqIndex_of h0 h4]at h1
   exact Option.some.inj h1
  exact PySem.W.ki_setAt ho h0 (by omega) (by rw[List.size_toArray,<-hl];exact h4) (by rw[hk];exact⟨_,I',q⟩)
 ·have hk:(k+(its.toArray.size:Int)).toNat=j:=by
   rw[seqIndex_neg (by omega) h3]at h1
   rw[List.size_toArray,<-hl]
   exact Option.some.inj h1
  exact PySem.W.ki_setBack ho (by omega) (by rw[List.size_toArray,<-hl];exact h3) (by omega) (by rw[hk];exact⟨_,I',q⟩)
theorem uI(lo hi:Option Int)(n:Nat):(sliceBounds lo hi none n).1=((HT.sIx n 0 lo:Nat):Int)/\(sliceBounds lo hi none n).2.1=((HT.sIx n n hi:Nat):Int)/\(sliceBounds lo hi none n).2.2=1:=by
 refine⟨?_,?_,rfl⟩
 ·cases lo with
  |none=>simp[sliceBounds,HT.sIx]
  |some i=>
   simp only[sliceBounds,HT.sIx,Option.getD_none,show(1:Int)>0 by decide,if_true]
   by_cases h:i<0
   ·simp only[h,if_true]<;>omega
   ·simp only[h,if_false]<;>omega
 ·cases hi with
  |none=>simp[sliceBounds,HT.sIx]
  |some i=>
   simp only[sliceBounds,HT.sIx,Option.getD_none,show(1:Int)>0 by decide,if_true]
   by_cases h:i<0
   ·simp only[h,if_true]<;>omega
   ·simp only[h,if_false]<;>omega
theorem sU(its:List Value)(lo hi:Option Int):slicePick its.toArray lo hi none=((its.drop (HT.sIx its.length 0 lo)).take (HT.sIx its.length its.length hi-HT.sIx its.length 0 lo)).toArray:=by
 obtain⟨h1,h2,h3⟩:=uI lo hi its.toArray.size
 unfold slicePick
 rw[h1,h2,h3]
 simp only[sliceRange_one,pick_run,List.size_toArray]<;>rfl
noncomputable def Wj(K:PySem.W.Frag):V->Option Int->Option Int->Hp->VK->Prop:=fun x lo hi H Q=>∃a xs,x = .ref a/\SqL K H a xs/\∀p,H p=none->Q (.ref p) (upd H p (.lst (uQ xs lo hi)))
theorem Gi:SlR X (Wj X.K):=by
 intro pins s σ H x v vl vu lo hi sl Q I rx hs pl pu h
 obtain⟨a,xs,rfl,hx,q⟩:=h
 cases rx
 obtain⟨its,r,ht,hz⟩:=I.list hx
 have hlen:=r.length
 refine⟨"list",_,slot_list_getitem.lookup,ht.isList.typeIs,?_⟩
 refine wpAny_getItem_list_slice ht.isList hs pl pu .none (by simp) ?_ (by rw[List.size_toArray]<;>omega)
 rw[sU,<-hlen]
 refine⟨.ref s.heap.objs.size,_,I.laid (t':=s.toks) (o:= .lst (uQ xs lo hi)) (fun b ob q=>Heap.get?_push_of_some _ q) (Nat.le_refl _) ?_,rfl,q _ (I.hok.fresh (Nat.le_refl _))⟩
 exact⟨Nat.le_trans (n6 xs lo hi) hz,_,0,(r.drop (HT.sIx xs.length 0 lo)).take (HT.sIx xs.length xs.length hi-HT.sIx xs.length 0 lo),Heap.get?_push_size _ rfl⟩
noncomputable def pF:V->Bool
 |.non=>true
 |.bl _=>true
 |.int _=>true
 |.str _=>true
 |_=>false
noncomputable def eqV:V->V->Bool
 |.non,.non=>true
 |.bl a,.bl b=>a==b
 |.bl a,.int b=>(if a then 1 else 0)==b
 |.int a,.bl b=>a==(if b then 1 else 0)
 |.int a,.int b=>a==b
 |.str a,.str b=>a==b
 |_,_=>false
theorem KH{A:Around}{s:Shared}{y x:V}{u v:Value}(ry:RelV y u)(rx:RelV x v)(fy:pF y=true)(fx:pF x=true):SeqAt.EqAt A s u v (eqV y x):=by
 cases y with
 |non=>
  cases ry
  cases x with
  |non=>cases rx;exact SeqAt.EqAt.same _
  |bl b=>cases rx;exact SeqAt.EqAt.none_bool b
  |int b=>obtain⟨t,rfl⟩:=rx;exact SeqAt.EqAt.none_int b t
  |str b=>obtain⟨t,rfl⟩:=rx;exact SeqAt.EqAt.none_str b t
  |_=>exact absurd (show false=true from fx) Bool.false_ne_true
 |bl a=>
  cases ry
  cases x with
  |non=>cases rx;exact SeqAt.EqAt.bool_none a
  |bl b=>cases rx;exact SeqAt.EqAt.bool_bool a b
  |int b=>obtain⟨t,rfl⟩:=rx;exact SeqAt.EqAt.bool_int a b t
  |str b=>obtain⟨t,rfl⟩:=rx;exact SeqAt.EqAt.bool_str a b t
  |_=>exact absurd (show false=true from fx) Bool.false_ne_true
 |int a=>
  obtain⟨t',rfl⟩:=ry
  cases x with
  |non=>cases rx;exact SeqAt.EqAt.int_none a t'
  |bl b=>cases rx;exact SeqAt.EqAt.int_bool a t' b
  |int b=>obtain⟨t,rfl⟩:=rx;exact SeqAt.EqAt.int_int a t' b t
  |str b=>obtain⟨t,rfl⟩:=rx;exact SeqAt.EqAt.int_str a t' b t
  |_=>exact absurd (show false=true from fx) Bool.false_ne_true
 |str a=>
  obtain⟨t',rfl⟩:=ry
  cases x with
  |non=>cases rx;exact SeqAt.EqAt.str_none a t'
  |bl b=>cases rx;exact SeqAt.EqAt.str_bool a t' b
  |int b=>obtain⟨t,rfl⟩:=rx;exact SeqAt.EqAt.str_int a t' b t
  |str b=>obtain⟨t,rfl⟩:=rx;exact SeqAt.EqAt.str_str a t' b t
  |_=>exact absurd (show false=true from fx) Bool.false_ne_true
 |_=>exact absurd (show false=true from fy) Bool.false_ne_true
theorem tK:j5 X (.type "list") (fun xs H Q=>∃p ys,xs=[.ref p]/\(SqL X.K H p ys∨SqT X.K H p ys)/\∀l,H l=none->Q (.ref l) (upd H l (.lst ys))):=by
 intro pins s σ H xs us Q I r h
 obtain⟨p,ys,rfl,hq,q⟩:=h
 obtain⟨u,rfl,rx⟩:=vals1 r
 cases rx
 have fin:∀(its:List Value),Vals ys its->ys.length<=sizeLine->∀(h':Heap) (c':Nat),(∀b o',s.heap.get? b=some o'->h'.get? b=some o')->
   h'.get? s.heap.objs.size=some { cls:= .type "list",dict:=none,data:= .seq its.toArray c',slots:=#[] }->EP X pins σ Q (.ref s.heap.objs.size) { s with heap:=h' }:=fun its r' hz h' c' kp e=>
  ⟨.ref s.heap.objs.size,_,I.laid (t':=s.toks) kp (Nat.le_refl _) (show fX X.prog X.w _ h' _ (.lst ys)from⟨hz,its,c',r',e⟩),rfl,q _ (I.hok.fresh (Nat.le_refl _))⟩
 rcases hq with hq|hq
 ·obtain⟨its,r',pl,hz⟩:=I.list hq
  have hlen:=r'.length
  obtain⟨o,ho,hc,n,hd⟩:=pl.isList
  exact call_list_seq p (.inl rfl) ho hc hd (fun h' c' kp e=>fin its r' hz h' c' kp e) (by simp only[List.size_toArray]<;>omega)
 ·obtain⟨its,r',pl,hz⟩:=I.tuple hq
  have hlen:=r'.length
  obtain⟨o,ho,hc,n,hd⟩:=pl
  exact call_list_seq p (.inr rfl) ho hc hd (fun h' c' kp e=>fin its r' hz h' c' kp e) (by simp only[List.size_toArray]<;>omega)
theorem rB:j5 X (.type "tuple") (fun xs H Q=>∃p ys,xs=[.ref p]/\((SqL X.K H p ys/\∀l,H l=none->Q (.ref l) (upd H l (.tup ys)))∨(SqT X.K H p ys/\Q (.ref p) H))):=by
 intro pins s σ H xs us Q I r h
 obtain⟨p,ys,rfl,h⟩:=h
 obtain⟨u,rfl,rx⟩:=vals1 r
 cases rx
 rcases h with⟨hq,q⟩|⟨hq,q⟩
 ·obtain⟨its,r',pl,hz⟩:=I.list hq
  have hlen:=r'.length
  refine call_tuple_list pl.isList (fun h' kp=>?_) (by simp only[List.size_toArray]<;>omega)
  have I1:Inv X pins σ H { s with heap:=h' }:=I.kept (t':=s.toks) kp
  have I2:Inv X pins σ (upd H h'.objs.size (.tup ys)) { s with heap:=h'.push { cls:= .type "tuple",data:= .seq its.toArray } }:=
   I1.laid (t':=s.toks) (fun b o e=>Heap.get?_push_of_some _ e) (Nat.le_refl _) (show fX X.prog X.w _ _ _ (.tup ys)from⟨hz,its,r',IsTup.new _ _⟩)
  exact⟨.ref h'.objs.size,_,I2,rfl,q _ (I1.hok.fresh (Nat.le_refl _))⟩
 ·obtain⟨its,r',pl,hz⟩:=I.tuple hq
  exact call_tuple_same pl ⟨.ref p,H,I,rfl,q⟩
noncomputable def tyV(K:PySem.W.Frag)(T:String)(x:V)(H:Hp):Prop:=match x with
 |.str _=>T = "str"
 |.int _=>T = "int"
 |.ref p=>(T = "list" /\ ∃xs,SqL K H p xs)∨(T = "tuple" /\ ∃o,K.lookup p=some o/\o.cls = .type "tuple" /\ o.dict=none)∨
   (T = "dict" /\ ((∃kvs,H p=some (.dK kvs))∨∃kvs,H p=some (.dT kvs)))∨(T = "set" /\ ∃S n,H p=some (.set S n))
 |_=>False
theorem Js{pins:List (Addr×Obj)}{σ:St}{H:Hp}{s:Shared}{T:String}{x:V}{v:Value}(I:Inv X pins σ H s)(r:RelV x v)(ty:tyV X.K T x H):
  s.TypeIs v T/\∀a,v = .ref a->∃ob,s.heap.get? a=some ob/\ob.dict=none:=by
 cases x with
 |str z=>
  obtain⟨t,rfl⟩:=r
  cases (show T = "str" from ty)
  exact⟨typeIs_str s z t,fun _ e=>nomatch e⟩
 |int i=>
  obtain⟨t,rfl⟩:=r
  cases (show T = "int" from ty)
  exact⟨typeIs_int s i t,fun _ e=>nomatch e⟩
 |ref p=>
  cases r
  rcases ty with⟨rfl,xs,hq⟩|⟨rfl,o,hk,hc,hd⟩|⟨rfl,hk⟩|⟨rfl,S,n,hk⟩
  ·obtain⟨its,_,pl,_⟩:=I.list hq
   refine⟨pl.isList.typeIs,fun a e=>?_⟩
   cases e
   obtain⟨o,n,e,c,hd,_⟩:=pl
   exact⟨o,e,hd⟩
  ·refine⟨⟨o,I.kIn p o hk,hc⟩,fun a e=>?_⟩
   cases e
   exact⟨o,I.kIn _ o hk,hd⟩
  ·have z:∃o,s.heap.get? p=some o/\o.ExactDict:=by
    rcases hk with⟨kvs,hk⟩|⟨kvs,hk⟩
    ·obtain⟨_,_,_,_,o,_,_,e,ex,_⟩:=I.hok p _ hk
     exact⟨o,e,ex⟩
    ·obtain⟨_,_,_,_,o,_,_,e,ex,_⟩:=I.hok p _ hk
     exact⟨o,e,ex⟩
   obtain⟨o,e,ex⟩:=z
   refine⟨⟨o,e,ex.1⟩,fun a e2=>?_⟩
   cases e2
   exact⟨o,e,ex.2.1⟩
  ·obtain⟨o,_,_,_,e,ex,_⟩:=I.hok p _ hk
   refine⟨⟨o,e,ex.1⟩,fun a e2=>?_⟩
   cases e2
   exact⟨o,e,ex.2.1⟩
 |_=>exact False.elim ty
noncomputable def tBM(K:PySem.W.Frag)(T:String)(r:V->List V->Hp->VK->Prop)(to:TE)(t:TA):TE:=fun σ H Q=>to σ H fun x H1=>tyV K T x H1/\t σ H1 fun xs H2=>r x xs H2 Q
variable {o e:Expr} {es:List Expr} {to:TE} {t:TA} {name:Str} {apos cpos:Pos} {T id:String} {r:V->List V->Hp->VK->Prop}
theorem R8(pa:PlainAttrs T)(slot:Slot T name id)(hty:typeOf (.builtin id)=pure (.type "method_descriptor"))(hm:MtR X id r)(ho:PE X o to)(ha:PA X (e::es) t)
  (hbase:attributeBase o name X.env (eval o X.env)=eval o X.env:=by rfl)
  (hfew:((backTo cpos (starEach (e::es) X.env)).all (fun x=>!x.1)&&(backToKw cpos (keywordEach [] X.env)).all (fun x=>x.1.isSome)
   && decide ((e::es).length+([]:List Keyword).length+(if([]:List Keyword).isEmpty then 0 else 1)<30))=true:=by rfl)
  (hline:(apos.endLine==cpos.line)=true:=by rfl) (hs:starEach (e::es) X.env=(false,eval e X.env)::starEach es X.env:=by rfl) (hplain:(backTo cpos (starEach es X.env)).any (·.1)=false:=by rfl):
  PE X (.Call (.Attribute o name apos) (e::es) [] cpos) (tBM X.K T r to t):=by
 intro pins s σ H Q I h
 refine wpAny_Call_method_late hbase hfew hline rfl (thn (ho pins s σ H _ I h) fun v s1 ⟨x,H1,I1,r1,ty,q1⟩=>?_)
 obtain⟨h1,h2⟩:=Js I1 r1 ty
 refine⟨T,id,pa,slot,hty,h1,h2,?_⟩
 have hA:=ha cpos pins s1 σ H1 _ I1 q1
 rw[hs]at hA⊢
 refine Calls.callWith_builtin (by show(false||(backTo cpos (starEach es X.env)).any (·.1))=false;rw[hplain]<;>rfl) (Calls.evalArgs_plain ?_)
 exact thn hA fun us s2 ⟨vs,H2,I2,r2,q2⟩=>hm pins s2 σ H2 x vs v us Q I2 r1 r2 q2
end
end L2
namespace L2
open PySem PySem.Spec PyProof.Rows
noncomputable def MtM(X:Cx)(id:String)(r:V->List V->Hp->VK->Prop):Prop:=
 ∀(pins:List (Addr×Obj)) (s:Shared) (σ:St) (H:Hp) (x:V) (xs:List V) (v:Value) (us:List Value) (Q:VK),Inv X pins σ H s->RelV x v->Vals xs us->r x xs H Q->
  wpAny (model X.prog X.w) X.A (call (.builtin id) (v::us)) (EP X pins σ Q) X.xe s
theorem Vals.one{x:V}{us:List Value}(h:Vals [x] us):∃u,us=[u]/\RelV x u:=by
 cases h with
 |cons r h=>cases h;exact⟨_,rfl,r⟩
theorem Vals.two{x y:V}{us:List Value}(h:Vals [x,y] us):∃u v,us=[u,v]/\RelV x u/\RelV y v:=by
 cases h with
 |cons r h=>
  obtain⟨v,rfl,q⟩:=Vals.one h
  exact⟨_,_,rfl,r,q⟩
theorem Vals.rep{xs:List V}{us:List Value}(h:Vals xs us):∀k:Nat,Vals (List.replicate k xs).flatten (List.replicate k us).flatten
 |0=> .nil
 |k+1=>by
  rw[List.replicate_succ,List.replicate_succ,List.flatten_cons,List.flatten_cons]
  exact Vals.append h (Vals.rep h k)
theorem foldl_rep(its:List Value):∀(k:Nat) (acc:List Value),
  List.foldl (fun x1 x2=>x1++x2) acc.toArray (List.replicate k its.toArray)=(acc++(List.replicate k its).flatten).toArray
 |0,acc=>by simp
 |k+1,acc=>by
  have e:acc.toArray++its.toArray=(acc++its).toArray:=by simp
  have e2:(acc++its)++(List.replicate k its).flatten=acc++(List.replicate (k+1) its).flatten:=by
   rw[List.replicate_succ,List.flatten_cons,List.append_assoc]
  rw[<-e2,<-foldl_rep its k (acc++its),<-e,List.replicate_succ,List.foldl_cons]
section
variable {X:Cx} {pins:List (Addr×Obj)} {σ:St} {H:Hp} {s:Shared} {l b:Addr} {xs ys zs:List V}
theorem Inv.Wk{its its':List Value}{n:Nat}{f:Array Value->Array Value}{t':Nat}(I:Inv X pins σ H s)(hH:H l=some (.lst xs))
  (e:s.heap.get? l=some { cls:= .type "list",data:= .seq its.toArray n }) (hf:f its.toArray=its'.toArray) (hv:Vals ys its') (hz:ys.length<=sizeLine):
  Inv X pins σ (upd H l (.lst ys)) { s with heap:=s.heap.update l (Obj.mapSeq f),toks:=t' }:=by
 have q:=PySem.IsL.update e f
 rw[hf]at q
 refine I.write (x:=l) (e:=l) (by rw[hH];exact trivial) (.inl rfl) (fun b' u hb hu=>(Heap.get?_update_other s.heap (Obj.mapSeq f) (Ne.symm hb)).trans hu) ⟨_,q⟩ ?_
 exact⟨hz,its',_,hv,q⟩
theorem Inv.K6{its:List Value}{t':Nat}(I:Inv X pins σ H s)(hv:Vals ys its)(hz:ys.length<=sizeLine):
  Inv X pins σ (upd H s.heap.objs.size (.lst ys)) { s with heap:=s.heap.push { cls:= .type "list",data:= .seq its.toArray },toks:=t' }:=
 I.laid (fun _ _ q=>Heap.get?_push_of_some _ q) (Nat.le_refl _) ⟨hz,its,0,hv,Heap.get?_push_size _ rfl⟩
theorem Inv.fresh(I:Inv X pins σ H s):H s.heap.objs.size=none:=I.hok.fresh (Nat.le_refl _)
theorem Inv.K1(I:Inv X pins σ H s)(hH:H l=some (.lst xs)):xs.length<=sizeLine/\∃(its:List Value) (n:Nat),Vals xs its/\xs.length=its.length/\s.heap.get? l=some { cls:= .type "list",data:= .seq its.toArray n }:=by
 obtain⟨z,its,n,r,e⟩:=I.hok l _ hH
 exact⟨z,its,n,r,r.length,e⟩
theorem Ej{n:Nat}(h:n<=sizeLine):Builtin.List.listTooLong n=false:=by
 unfold Builtin.List.listTooLong
 exact decide_eq_false (by omega)
end
section
variable {X:Cx}
inductive Wu(x:V)(vs:List V)(H:Hp)(Q:VK):Prop|mk (l:Addr) (xs:List V) (y:V) (hx:x = .ref l) (hv:vs=[y]) (hl:H l=some (.lst xs)) (hz:xs.length<sizeLine) (q:Q .non (upd H l (.lst (xs++[y]))))
noncomputable def zL:V->List V->Hp->VK->Prop:=fun x vs H Q=>Wu x vs H Q
theorem pB:MtM X "list.append" zL:=by
 intro pins s σ H x vs v us Q I rx rv h
 obtain⟨l,xs,y,rfl,rfl,hH,hz,q⟩:=h
 cases rx
 obtain⟨u,rfl,ru⟩:=rv.one
 obtain⟨z,its,n,r,hl,e⟩:=I.K1 hH
 refine call_meets F.slot_list_append ⟨_,e,rfl⟩ F.entry_list_append (F.args_list_append_2 _ _) (PySem.list_append l its.toArray n u (by rw[List.size_toArray];omega)) ⟨e,?_⟩
 refine⟨.non,_,I.Wk (its':=its++[u]) hH e (by simp) (r.append (.cons ru .nil)) ?_,rfl,q⟩
 rw[List.length_append,List.length_singleton]
 omega
noncomputable def Wb:R2:=fun x y H Q=>∃l b xs zs,x = .ref l/\y = .ref b/\H l=some (.lst xs)/\H b=some (.lst zs)/\xs.length+zs.length<=sizeLine/\∀p,H p=none->Q (.ref p) (upd H p (.lst (xs++zs)))
theorem KW:OpR X (binaryOp .Add) Wb:=by
 intro pins s σ H x y v u Q I rx ry h
 obtain⟨l,b,xs,zs,rfl,rfl,hH,hB,hz,q⟩:=h
 cases rx
 cases ry
 obtain⟨z,its,n,r,hl,e⟩:=I.K1 hH
 obtain⟨z2,its2,n2,r2,hl2,e2⟩:=I.K1 hB
 refine PySem.P.add_list e e2 ?_ (by rw[List.size_toArray,List.size_toArray];omega)
 have ea:its.toArray++its2.toArray=(its++its2).toArray:=by simp
 rw[ea]
 exact⟨.ref _,_,I.K6 (t':=s.toks) (r.append r2) (by rw[List.length_append];omega),rfl,q _ I.fresh⟩
noncomputable def VZ:R2:=fun x y H Q=>∃l k xs,x = .ref l/\y = .int k/\H l=some (.lst xs)/\-(2^63)<=k/\k<2^63/\xs.length*k.toNat<=sizeLine/\
 ∀p,H p=none->Q (.ref p) (upd H p (.lst (List.replicate k.toNat xs).flatten))
theorem len_rep{α:Type}(xs:List α)(k:Nat):(List.replicate k xs).flatten.length=k*xs.length:=by
 induction k with
 |zero=>simp
 |succ k ih=>rw[List.replicate_succ,List.flatten_cons,List.length_append,ih,Nat.succ_mul,Nat.add_comm]
theorem Kl:OpR X (binaryOp .Mult) VZ:=by
 intro pins s σ H x y v u Q I rx ry h
 obtain⟨l,k,xs,rfl,rfl,hH,h1,h2,hz,q⟩:=h
 cases rx
 obtain⟨t,rfl⟩:=ry
 obtain⟨z,its,n,r,hl,e⟩:=I.K1 hH
 have hlen:its.toArray.size*k.toNat<=sizeLine:=by rw[List.size_toArray,<-hl];exact hz
 have hcap:¬its.toArray.size*k.toNat>(2^63-1)/8:=by
  have:(sizeLine:Nat)<=(2^63-1)/8:=by decide
  omega
 have hfit:¬(!Builtin.List.listFitsIndex k)=true:=by
  rw[fitsIndex_both h1 h2]
  exact Bool.false_ne_true
 have hlong:¬Builtin.List.listTooLong (its.toArray.size*k.toNat)=true:=by
  rw[Ej hlen]
  exact Bool.false_ne_true
 have hnew:List.foldl (fun x1 x2=>x1++x2) #[] (List.replicate (if its.toArray.isEmpty=true then 0 else k.toNat) its.toArray)=(List.replicate k.toNat its).flatten.toArray:=by
  have f0:∀m:Nat,List.foldl (fun x1 x2=>x1++x2) #[] (List.replicate m its.toArray)=(List.replicate m its).flatten.toArray:=fun m=>by
   have:=foldl_rep its m []
   rw[List.nil_append]at this
   exact this
  rw[f0]
  cases its with
  |nil=>simp
  |cons a r'=>rw[if_neg (by simp)]
 refine wpAny_binaryOp_repeat_ref (T:= "list") (U:= "int") (by decide) ⟨_,e,rfl⟩ (fun s'=>typeIs_int s' k t) noFill_list_mul F.fills_int_mul F.slot_int_rmul repeat_list F.slot_int_index.lookup
  (call_meets F.slot_int_rmul (typeIs_int s k t) F.entry_int_rmul (F.args_int_rmul_2 _ _) (int___rmul___int_list k t l its.toArray n)
   ⟨e,rfl,⟨_,e,rfl⟩,call_meets F.slot_list_mul ⟨_,e,rfl⟩ F.entry_list_mul (F.args_list_mul_2 _ _) (AutoListH.list___mul___list_int_3 l its.toArray n k t hfit hcap hlong) ⟨e,?_⟩⟩)
 rw[hnew]
 exact⟨.ref _,_,I.K6 (t':=s.toks) (r.rep k.toNat) (by rw[len_rep,Nat.mul_comm];exact hz),rfl,q _ I.fresh⟩
end
section
variable {prog:Program} {w:World} {A:Around} {E:Value->Shared->Prop} {s:Shared}
end
section
variable {X:Cx}
end
end L2
namespace L2
open PySem PySem.Spec PyProof.Rows
section
variable {κ:Type} [DecidableEq κ]
noncomputable def Dk(kvs:List (κ×V))(k:κ):Option V:=(kvs.find? fun kv=>decide (kv.1=k)).map (·.2)
theorem EA{p:κ×V}{r:List (κ×V)}{k:κ}(e:p.1=k):Dk (p::r) k=some p.2:=by simp[Dk,List.find?_cons,e]
theorem EV{p:κ×V}{r:List (κ×V)}{k:κ}(e:¬p.1=k):Dk (p::r) k=Dk r k:=by simp[Dk,List.find?_cons,e]
theorem KV.val{kvs:List (κ×V)}{vs:List (κ×Value)}(r:KV kvs vs)(k:κ):Di (Dk kvs k) (valueAt vs k):=by
 unfold KV at r
 induction r with
 |nil=>exact True.intro
 |@cons p q ps qs h t ih=>
  obtain⟨h1,h2⟩:=h
  by_cases e:p.1=k
  ·have e':q.1=k:=h1.symm.trans e
   have b:valueAt (q::qs) k=some q.2:=by simp[valueAt,List.find?_cons,e']
   rw[EA e,b];exact h2
  ·have e':¬q.1=k:=fun z=>e (h1.trans z)
   have b:valueAt (q::qs) k=valueAt qs k:=by simp[valueAt,List.find?_cons,e']
   rw[EV e,b];exact ih
end
section
variable {P:Program} {w:World} {H:Hp} {h:Heap} {a:Addr}
end
section
variable {X:Cx} {pins:List (Addr×Obj)} {σ:St} {H:Hp} {s:Shared} {a:Addr} {y v:V} {u r:Value} {o:Option V} {A:Around} {E:Value->Shared->Prop}
end
section
variable {X:Cx} {pins:List (Addr×Obj)} {σ:St} {H:Hp} {s:Shared} {a:Addr} {kvs:List (Key×V)} {k:Key} {u:Value} {A:Around} {E:Value->Shared->Prop}
end
section
variable {X:Cx} {o i e value:Expr} {pos pos' tpos:Pos} {td ty tv:TE}
end
section
variable {X:Cx} {pos:Pos}
end
section
variable {X:Cx} {pins:List (Addr×Obj)} {σ:St} {H:Hp} {s:Shared} {a:Addr} {y d:V} {u r:Value} {o:Option V} {A:Around} {E:Value->Shared->Prop}
end
section
variable {X:Cx} {o e f:Expr} {apos cpos:Pos} {td ty tx:TE}
end
section
variable {X:Cx} {pins:List (Addr×Obj)} {σ:St} {H:Hp} {s:Shared} {a:Addr} {kvs:List (Key×V)} {A:Around} {E:Value->Shared->Prop}
end
section
variable {X:Cx} {pins:List (Addr×Obj)} {σ:St} {H:Hp} {s:Shared} {a:Addr} {y:V} {u:Value} {A:Around} {E:Value->Shared->Prop}
end
end L2
namespace Att
open PySem PySem.W PySem.Calls PyProof.Rows
theorem pK{P:Params}{h:Heap}:∀(ns:List Int) (vs:List Value),WellAll P h vs (ns.map WData.int)->IntsAre vs ns:=by
 intro ns
 induction ns with
 |nil=>
  intro vs w
  rw[List.map_nil]at w
  cases w
  exact .nil
 |cons n ns ih=>
  intro vs w
  rw[List.map_cons]at w
  cases w with
  |cons a b=>
   cases a
   exact .cons _ _ (ih _ b)
theorem Ba{l:OpenLaw}{n:Nat}(hn:l.most=some n){P:Params}{h:Heap}{args:List WData}{vals:List Value}
  (hpre:l.row.toRowW.claim.pre args=true) (hwl:WellAll P h vals args):
  ∃a vs ns,vals=[Value.ref a]/\args=[WData.list (ns.map WData.int)]/\h.get? a=some { cls:= .type "list",data:= .seq vs.toArray }/\IntsAre vs ns/\ns.length<=n:=by
 have hsh:WShape.hasAll [] args [.list .int]=true:=(pre_splitW hpre).1
 have hc:l.pre.holds [] { args:=args }=true:=(pre_splitW hpre).2
 obtain⟨d,r,rfl,h1,h2⟩:=hasAllW_cons hsh
 obtain rfl:=hasAllW_nil h2
 obtain⟨xs,rfl,h3⟩:=hasW_list h1
 obtain⟨ns,rfl⟩:=items_int h3
 have hlen:ns.length<=n:=by
  unfold OpenLaw.pre at hc
  have h4:(WTm.not (.lt (.lit (.int (n:Int))) (.len (.arg 0)))).holds [] { args:=[.list (ns.map .int)] }=true:=by
   have h4:=(holds_andW hc).1
   rw[hn]at h4
   exact h4
  have h5:=condW_of h4 (w_not (w_lt w_lit (w_len_list (w_arg rfl))))
  rw[List.length_map]at h5
  refine Nat.le_of_not_lt fun q=>?_
  have q':(n:Int)<((ns.length:Nat):Int):=by omega
  first
   |(rw[decide_eq_true q']at h5;exact absurd h5 (by decide))
   |(simp at h5;omega)
 cases hwl with
 |cons w1 w2=>
  cases w2
  cases w1 with
  |list ho hall=>exact⟨_,_,ns,rfl,rfl,ho,pK ns _ hall,hlen⟩
theorem Cq(l:OpenLaw)(args:List WData):l.row.toRowW.claim.post args (.bool true) args=true:=
 postW_of (r:=l.row.toRowW) (X:=(true==true))
  (show WShape.has [] (.bool true) .bool=true by first|rfl|decide|simp[WShape.has,WShape.arms,WShape.armsAll])
  (show(WTm.eq .res (.lit (.bool true))).value [] { args:=args,res:=some (.bool true),after:=args }=some (.bool (true==true))from w_eq_bool (w_res rfl) w_lit) rfl
section
variable {prog:Program} {w:World} {A:Around} {E:Value->Shared->Prop} {s:Shared} {K:Frag}
end
end Att
namespace L2
open PySem PySem.Spec PyProof.Rows
theorem C0{vs:List Value}{ns:List Int}(h:IntsAre vs ns):Vals (ns.map V.int) vs:=by
 induction h with
 |nil=>exact .nil
 |cons n t h ih=>exact .cons ⟨t,rfl⟩ ih
end L2
namespace L2
open PySem PySem.Spec PyProof.Rows
end L2
namespace L2
open PySem PySem.Spec PyProof.Rows
noncomputable def aH(s:Stmt):Arguments:=match s with
 |.FunctionDef _ a _ _ _ _ _ _ _ _=>a
 |_=>{ posonlyargs:=[],args:=[],vararg:=none,kwonlyargs:=[],kw_defaults:=[],kwarg:=none,defaults:=[] }
noncomputable def aF(s:Stmt):List Stmt:=match s with
 |.FunctionDef _ _ b _ _ _ _ _ _ _=>b
 |_=>[]
noncomputable def aj(s:Stmt):Scope:=match s with
 |.FunctionDef _ _ _ _ _ _ sc _ _ _=>sc
 |_=>{ kind:= .function,names:=[],isGenerator:=false,isCoroutine:=false }
noncomputable abbrev E0:XK:=fun _ _ _=>False
structure Fun(K:PySem.W.Frag)(x qual:Str)(st:Stmt)(f:Addr)(fd:FuncData):Prop where
 ex:∃(oc:Value) (od:Option Addr) (kV doc pm:Value) (an:Option Addr) (cdv ct:Value) (osl:Array (Option Value)),
  fd=PySem.W.fnOf x qual (aH st) (aF st) (aj st) .none kV doc pm an cdv ct/\K.lookup f=some ⟨oc,od,.func fd,osl⟩/\PySem.W.codeIn K cdv qual=true
 kp:PySem.W.keepIn K (.ref f)=true
section
variable {P:Program} {w:World} {K:PySem.W.Frag} {mg:Str->Option Value} {base:Heap}
theorem Fun.binds{x qual:Str}{st:Stmt}{f:Addr}{fd:FuncData}{ps:List Str}(F:Fun K x qual st f fd)
  (h:∀(kV doc pm:Value) (an:Option Addr) (cdv ct:Value) (us:List Value),us.length=ps.length->bindArgs (PySem.W.fnOf x qual (aH st) (aF st) (aj st) .none kV doc pm an cdv ct) ⟨us,[]⟩=pure (ps.zip us)):Binds K fd ps []:=by
 obtain⟨oc,od,kV,doc,pm,an,cdv,ct,osl,rfl,lk,hcd⟩:=F.ex
 exact .all (h kV doc pm an cdv ct)
theorem Fg{x qual:Str}{st:Stmt}{f:Addr}{oc:Value}{od an:Option Addr}{osl:Array (Option Value)}{kV doc pm cdv ct:Value}(l:K.lookup f=some ⟨oc,od,.func (PySem.W.fnOf x qual (aH st) (aF st) (aj st) .none kV doc pm an cdv ct),osl⟩)
  (c:PySem.W.codeIn K cdv qual=true) (k:PySem.W.keepIn K (.ref f)=true):Fun K x qual st f (PySem.W.fnOf x qual (aH st) (aF st) (aj st) .none kV doc pm an cdv ct):=⟨⟨oc,od,kV,doc,pm,an,cdv,ct,osl,rfl,l,c⟩,k⟩
end
theorem bW{n:Nat}(h:n<=1000):n<sizeLine:=Nat.lt_of_le_of_lt h (by decide)
section
variable {X:Cx}
theorem pv(i:Nat){x:Str}{pos:Pos}(hN:X.N[i]?=some x:=by rfl)(hv:Vis X.env.scope x:=by first|exact Or.inl rfl|exact Or.inr (Or.inl rfl)|exact Or.inr (Or.inr rfl))(hd:(x==("__debug__" : Str))=false:=by decide)
  (hcd:(x==("__classdict__" : Str))=false:=by decide):PE X (.Name x pos) (K3 i):=Fx hN hv hd hcd
end
theorem qe{A B:Prop}(h:B):if false=true then A else B:=by
 rw[if_neg Bool.false_ne_true]
 exact h
theorem K7{A B:Prop}(h:A):if true=true then A else B:=by
 rw[if_pos rfl]
 exact h
theorem j6{c A B:Prop}[Decidable c](h1:c->A)(h2:¬c->B):if c then A else B:=by
 by_cases h:c
 ·rw[if_pos h]
  exact h1 h
 ·rw[if_neg h]
  exact h2 h
theorem LC{c A B:Prop}[Decidable c](hc:c)(h:B):if(!decide c)=true then A else B:=by
 rw[decide_eq_true hc]
 exact qe h
noncomputable def Same(H H':Hp):Prop:=∀b o,H b=some o->H' b=some o
theorem Same.refl(H:Hp):Same H H:=fun _ _ h=>h
theorem Same.trans{H H1 H2:Hp}(a:Same H H1)(b:Same H1 H2):Same H H2:=fun c o h=>b c o (a c o h)
theorem Same.free{H H':Hp}(e:Same H H'){l:Addr}(h:H' l=Option.none):H l=Option.none:=by
 cases q:H l with
 |none=>rfl
 |some o=>
  rw[e l o q]at h
  cases h
theorem Same.seq{K:PySem.W.Frag}{H H':Hp}{a:Addr}{xs:List V}(e:Same H H')(h:SqL K H a xs):SqL K H' a xs:=by
 rcases h with(h|⟨o,h⟩)|h
 ·exact .inl (.inl (e _ _ h))
 ·exact .inl (.inr ⟨o,e _ _ h⟩)
 ·exact .inr h
section
variable {κ:Type} [DecidableEq κ]
end
end L2
namespace L2
open PySem PySem.Spec PyProof.Rows
theorem us0{us:List Value}(h:us.length=0):us=[]:=List.eq_nil_of_length_eq_zero h
theorem usS{us:List Value}{n:Nat}(h:us.length=n+1):∃a r,us=a::r/\r.length=n:=by
 cases us with
 |nil=>cases h
 |cons a r=>exact⟨a,r,rfl,Nat.succ.inj h⟩
theorem us1{us:List Value}(h:us.length=1):∃a,us=[a]:=by
 obtain⟨a,r,rfl,k⟩:=usS h
 obtain rfl:=us0 k
 exact⟨a,rfl⟩
theorem us2{us:List Value}(h:us.length=2):∃a b,us=[a,b]:=by
 obtain⟨a,r,rfl,k⟩:=usS h
 obtain⟨b,rfl⟩:=us1 k
 exact⟨a,b,rfl⟩
theorem us3{us:List Value}(h:us.length=3):∃a b c,us=[a,b,c]:=by
 obtain⟨a,r,rfl,k⟩:=usS h
 obtain⟨b,c,rfl⟩:=us2 k
 exact⟨a,b,c,rfl⟩
theorem us4{us:List Value}(h:us.length=4):∃a b c d,us=[a,b,c,d]:=by
 obtain⟨a,r,rfl,k⟩:=usS h
 obtain⟨b,c,d,rfl⟩:=us3 k
 exact⟨a,b,c,d,rfl⟩
structure jf(P:Program)(w:World)(outer:List Env)(H:Hp)(s:Shared)(E:XK)(e:Value)(s':Shared):Prop where
 ex:∃(ea C:Addr) (a0:Value) (B:Heap) (H':Hp),e = .ref ea/\s'.os=s.os/\AllBare s'.gens/\Heap.FlyingW B outer ea (.ref C) a0 s'.heap/\HOk P w H' B/\Un (frs outer) [] H H' s.heap s'.heap/\
  (∀b o,s.heap.get? b=some o->b∈frs outer∨∃o',B.get? b=some o')/\E (.ref C) none H'
theorem mK{P:Program}{w:World}{outer:List Env}{H:Hp}{s s':Shared}{e:Value}(h:jf P w outer H s E0 e s'):False:=by
 obtain⟨_,_,_,_,_,_,_,_,_,_,_,_,q⟩:=h.ex
 exact q
theorem JC{X:Cx}:Passes (jf X.prog X.w) X E0:=fun _ _ _ _ _ _ _ h=>(mK h).elim
section
variable {X:Cx} {pins:List (Addr×Obj)} {σ:St} {H:Hp} {s:Shared}
theorem Inv.xW(I:Inv X pins σ H s){b:Addr}{o:Obj}(e:X.s₀.heap.get? b=some o)(hb:b∉X.fs):b∉frs X.stack:=fun z=>by
 rcases List.mem_cons.mp (I.uO b z)with q|q
 ·exact absurd (Nat.lt_of_lt_of_le (Heap.lt_size e) I.ok.above) (by rw[<-q];exact Nat.lt_irrefl _)
 ·exact hb q
theorem qR(I:Inv X pins σ H s){b:Addr}{o:Obj}(e:s.heap.get? b=some o)(hb:b∉frs X.stack):(PySem.W.hideAll s.heap (frs X.stack)).get? b=some o:=PySem.W.hideAll_get _ e hb
theorem Inv.KY(I:Inv X pins σ H s):HOk X.prog X.w H (PySem.W.hideAll s.heap (frs X.stack)):=fun b o e=>
 (I.hok b o e).stay (fun c u hc q=>qR I q fun z=>by
  have n:=I.rm c z
  rcases hc with rfl|hc
  ·rw[n]at e;cases e
  ·rw[n]at hc;cases hc) (fun _ q=>q) fun _ _ q=>q
theorem Inv.Tv(I:Inv X pins σ H s)(hex:X.ex=[]){H':Hp}{h':Heap}(keep:∀b o,s.heap.get? b=some o->H b=none->b∉frs X.stack->h'.get? b=some o)
  (slot:∀b o,s.heap.get? b=some o->H b=none->b∈X.fs->∃sl,h'.get? b=some { o with slots:=sl }) (free:∀b o,s.heap.get? b=some o->H b=none->H' b=none) (there:∀b o,s.heap.get? b=some o->∃o',h'.get? b=some o')
  (tups:∀b xs,H b=some (.tup xs)->H' b=some (.tup xs)) (frzs:∀b o u,H b=some (.frz o u)->H' b=some (.frz o u)) (tbls:∀b ps,H b=some (.tbl ps)->∃more,H' b=some (.tbl (ps++more))):
  Un (frs X.outer) [] X.H₀ H' X.s₀.heap h':=by
 have nx:∀b:Addr,b∉X.ex:=fun b=>by rw[hex];simp
 refine⟨fun b o e n hb _=>?_,fun b o e n hb _=>?_,fun b o e n _=>?_,fun b o e _=>?_,fun b xs e=>tups b xs (I.base.tups b xs e),fun b o u e=>frzs b o u (I.base.frzs b o u e),fun b ps e=>?_⟩
 ·exact keep b o (I.base.keep b o e n hb (nx b)) (I.base.free b o e n (nx b)) (I.xW e hb)
 ·obtain⟨sl,e1⟩:=I.base.slot b o e n hb (nx b)
  obtain⟨sl',e2⟩:=slot b _ e1 (I.base.free b o e n (nx b)) hb
  exact⟨sl',e2⟩
 ·obtain⟨o',e1⟩:=I.base.there b o e (nx b)
  exact free b o' e1 (I.base.free b o e n (nx b))
 ·obtain⟨o',e1⟩:=I.base.there b o e (nx b)
  exact there b o' e1
 ·obtain⟨m1,e1⟩:=I.base.tbls b ps e
  obtain⟨m2,e2⟩:=tbls b _ e1
  exact⟨m1++m2,by rw[e2,Array.append_assoc]⟩
end
noncomputable abbrev cxF(P:Program)(w:World)(K:PySem.W.Frag)(mg:Str->Option Value)(base:Heap)(N:List Str)(qual:Str)(scope:Scope)(f:Addr)(cdv:Value)(A:Around)(outer:List Env)(s:Shared)(H:Hp)(E:XK):Cx:=
 Eu (jf P w) P w K mg base N qual scope f cdv A outer s H E
section
variable {P:Program} {w:World} {K:PySem.W.Frag} {mg:Str->Option Value} {base:Heap} {N:List Str} {qual:Str} {scope:Scope} {f:Addr} {cdv:Value} {A:Around} {outer:List Env} {s₀:Shared} {H₀:Hp} {E:XK}
theorem vA{pins:List (Addr×Obj)}{σ:St}{H:Hp}{s:Shared}{h1:Heap}{e C:Addr}{vs:List Value}(I:Inv (cxF P w K mg base N qual scope f cdv A outer s₀ H₀ E) pins σ H s)(hx:Heap.MadeExcOf s.heap h1 e (.ref C) vs)(q:E (.ref C) none H):
  (cxF P w K mg base N qual scope f cdv A outer s₀ H₀ E).xe (.ref e) { s with heap:=h1 }:=by
 have hin:∀env∈envOfC qual scope s₀.heap.objs.size f cdv::outer,∀a,env.frame=some a->a∈frs (envOfC qual scope s₀.heap.objs.size f cdv::outer):=fun env he a ha=>List.mem_filterMap.mpr ⟨env,he,ha⟩
 refine wpAny_leaves_madeW (base:=PySem.W.hideAll s.heap (frs (envOfC qual scope s₀.heap.objs.size f cdv::outer))) (h:=s.heap) (L:=s₀.heap.objs.size) I.ok.frames rfl (fun b o q=>PySem.W.of_hideAll _ q) (PySem.W.funFrames_hide I.stack hin) hx fun h' t x1 x2 x3 x4=>?_
 have up:∀b o,s.heap.get? b=some o->b∈frs (envOfC qual scope s₀.heap.objs.size f cdv::outer)->∃sl,h'.get? b=some { o with slots:=sl }:=fun b o e hb=>by
  obtain⟨_,o',ho',hd⟩:=I.stack.mem hb
  rw[e]at ho';cases ho'
  exact x4 b o (hx.keeps b o e) hd
 refine⟨e,C,.ref t,_,H,rfl,I.os,I.bare,x1,I.KY,I.Tv rfl (fun b o e _ hb=>x1.1 b o (qR I e hb)) (fun b o e _ hb=>up b o e (List.mem_cons_of_mem _ hb)) (fun _ _ _ n=>n) (fun b o e=>?_) (fun _ _ z=>z) (fun _ _ _ z=>z) (fun b ps z=>⟨#[],by rw[z];simp⟩),fun b o e=>?_,q⟩
 ·by_cases hb:b∈frs (envOfC qual scope s₀.heap.objs.size f cdv::outer)
  ·obtain⟨sl,z⟩:=up b o e hb
   exact⟨_,z⟩
  ·exact⟨o,x1.1 b o (qR I e hb)⟩
 ·by_cases hb:b∈frs outer
  ·exact .inl hb
  ·obtain⟨o',e1⟩:=I.base.there b o e (by intro z;cases z)
   exact .inr ⟨o',qR I e1 (I.xW e hb)⟩
theorem GP:Passes (jf P w) (cxF P w K mg base N qual scope f cdv A outer s₀ H₀ E) E:=by
 intro pins σ H s e s' I h
 obtain⟨ea,C,a0,B,H',rfl,os,bare,fl,hok,un,old,q⟩:=h.ex
 refine wpAny_leaves_onW (L:=s₀.heap.objs.size) I.ok.frames rfl fl fun h' x1 x2=>?_
 have inB:∀b o,s.heap.get? b=some o->b∉frs (envOfC qual scope s₀.heap.objs.size f cdv::outer)->∃o',B.get? b=some o'/\s'.heap.get? b=some o':=fun b o e hb=>by
  rcases old b o e with z|⟨o',z⟩
  ·exact absurd z hb
  ·exact⟨o',z,fl.1 b o' z⟩
 have up:∀b o,s'.heap.get? b=some o->b∈frs (envOfC qual scope s₀.heap.objs.size f cdv::outer)->∃sl,h'.get? b=some { o with slots:=sl }:=fun b o e hb=>by
  obtain⟨_,o',ho',hd⟩:=fl.2.2.1.mem hb
  rw[e]at ho';cases ho'
  exact x2 b o e hd
 refine⟨ea,C,a0,B,H',rfl,os.trans I.os,bare,x1,hok,I.Tv rfl (fun b o e n hb=>?_) (fun b o e n hb=>?_) (fun b o e n=>un.free b o e n (by simp)) (fun b o e=>?_) un.tups un.frzs un.tbls,fun b o e=>?_,q⟩
 ·obtain⟨o',e1,e2⟩:=inB b o e hb
  have e3:=un.keep b o e n hb (by simp)
  rw[e2]at e3;cases e3
  exact x1.1 b _ e1
 ·obtain⟨sl,e1⟩:=un.slot b o e n (List.mem_cons_of_mem _ hb) (by simp)
  obtain⟨sl',e2⟩:=up b _ e1 (List.mem_cons_of_mem _ hb)
  exact⟨sl',e2⟩
 ·by_cases hb:b∈frs (envOfC qual scope s₀.heap.objs.size f cdv::outer)
  ·obtain⟨o',e1⟩:=un.there b o e (by simp)
   obtain⟨sl,e2⟩:=up b o' e1 hb
   exact⟨_,e2⟩
  ·obtain⟨o',e1,_⟩:=inB b o e hb
   exact⟨o',x1.1 b o' e1⟩
 ·by_cases hb:b∈frs outer
  ·exact .inl hb
  ·obtain⟨o',e1⟩:=I.base.there b o e (by intro z;cases z)
   obtain⟨o2,e2,_⟩:=inB b o' e1 (I.xW e hb)
   exact .inr ⟨o2,e2⟩
end
noncomputable def J5(C:Addr)(E:XK)(t:TA):TS:=fun _ σ H=>t σ H fun vs H1=>vs.length<=sizeLine/\E (.ref C) none H1
structure ExC(mg:Str->Option Value)(base:Heap)(x:Str)(C:Addr):Prop where
 ex:∃bm newId,OwnCls x C bm newId mg base/\∃(Bn inN:String) (bmN:List Value) (B nid initId:String),ExcBaseFacts Bn newId inN bmN/\bm.contains (.type Bn)=true/\ExcBaseFacts B nid initId bm
theorem ED{P:Program}{w:World}{K:PySem.W.Frag}{mg:Str->Option Value}{base:Heap}{N:List Str}{qual:Str}{scope:Scope}{f:Addr}{cdv:Value}{A:Around}{outer:List Env}{s₀:Shared}{H₀:Hp}{E:XK}
  {x:Str} {C:Addr} {np cpos pos:Pos} {e:Expr} {es:List Expr} {t:TA} (O:ExC mg base x C) (hg:Gl (cxF P w K mg base N qual scope f cdv A outer s₀ H₀ E) x) (ha:PA (cxF P w K mg base N qual scope f cdv A outer s₀ H₀ E) (e::es) t)
  (hdb:(x==("__debug__" : Str))=false:=by decide)
  (he:starEach (e::es) (cxF P w K mg base N qual scope f cdv A outer s₀ H₀ E).env=(false,eval e (cxF P w K mg base N qual scope f cdv A outer s₀ H₀ E).env)::starEach es (cxF P w K mg base N qual scope f cdv A outer s₀ H₀ E).env:=by rfl)
  (hpl:(backTo cpos (starEach es (cxF P w K mg base N qual scope f cdv A outer s₀ H₀ E).env)).any (·.1)=false:=by rfl):
  PS (cxF P w K mg base N qual scope f cdv A outer s₀ H₀ E) (.Raise (some (.Call (.Name x np) (e::es) [] cpos)) none pos) (J5 C E t):=by
 intro pins s σ H D I h
 obtain⟨bm,newId,O,Bn,inN,bmN,B,nid,initId,Fn,hBn,FB⟩:=O.ex
 obtain⟨tl,Nn,nm,q,bs,hdct,sn,sub,ab,col,dd,k0,k1,k2,k3,k5,mN,hC,hN,hni,T⟩:=O.obj
 refine wpAny_Raise_call_subU (C:=C) (nm:=nm) (q:=q) (N:=Nn) (bs:=bs) (bm:=tl) (hdct:=hdct) (sn:=sn) (sub:=sub) (ab:=ab) (col:=col) (dd:=dd) (k0:=k0) (k1:=k1) (k2:=k2) (k3:=k3) (k5:=k5)
  Fn hBn FB (mN:=mN) (T.hasType FB.hasBase) (I.ok.hd rfl) (by rw[he];show(false||(backTo cpos (starEach es (cxF P w K mg base N qual scope f cdv A outer s₀ H₀ E).env)).any (·.1))=false;rw[hpl];rfl) hni (nQ I hg O.bound ⟨rfl,?_⟩ hdb)
 have h2:=ha cpos pins s σ H _ I h
 rw[he]at h2⊢
 refine Calls.evalArgs_plain (wpAny_mono h2 (fun us s2 ⟨vs,H2,I2,r,z,q⟩=>⟨rfl,by rw[<-r.length];exact z,I2.bk _ _ hC,hN.keeps I2.bk,T.keeps I2.bk,fun h' e hm=>vA I2 hm q⟩) fun _ _ y=>y)
theorem Fun.okF{P:Program}{w:World}{K:PySem.W.Frag}{mg:Str->Option Value}{base:Heap}{x qual:Str}{st:Stmt}{f:Addr}{fd:FuncData}{N ps:List Str}{k:Nat}{sp:Sp}(F:Fun K x qual st f fd)(S:aZ N ps (aj st))(len:∀vs H Q E,sp vs H Q E->vs.length=ps.length)
  (hbody:∀(cdv:Value) (A:Around) (outer:List Env) (s:Shared) (H:Hp) (vs:List V) (Q:VK) (E:XK),iw k (A.deeper (envOfC qual (aj st) s.heap.objs.size f cdv))->sp vs H Q E->
   ∃t,PSs (cxF P w K mg base N qual (aj st) f cdv A outer s H E) (aF st) t/\t { nx:=fun _ H'=>Q .non H',rt:=Q } (start N vs) H):zY P w K mg base (jf P w) (k+1) f fd ps sp:=by
 obtain⟨oc,od,kV,doc,pm,an,cdv,ct,osl,rfl,lk,hcd⟩:=F.ex
 exact Kc lk hcd S len fun A outer s H vs Q E hr hsp=>hbody cdv A outer s H vs Q E hr hsp
theorem Fun.okN{P:Program}{w:World}{K:PySem.W.Frag}{mg:Str->Option Value}{base:Heap}{x qual:Str}{st:Stmt}{f:Addr}{fd:FuncData}{N ps:List Str}{k:Nat}{sp:Sp}(F:Fun K x qual st f fd)(S:aZ N ps (aj st))(len:∀vs H Q E,sp vs H Q E->vs.length=ps.length)
  (hbody:∀(cdv:Value) (A:Around) (outer:List Env) (s:Shared) (H:Hp) (vs:List V) (Q:VK) (E:XK),iw k (A.deeper (envOfC qual (aj st) s.heap.objs.size f cdv))->sp vs H Q E->
   ∃t,PSs (cxF P w K mg base N qual (aj st) f cdv A outer s H E).nox (aF st) t/\t { nx:=fun _ H'=>Q .non H',rt:=Q } (start N vs) H):zY P w K mg base (jf P w) (k+1) f fd ps sp:=
 F.okF S len fun cdv A outer s H vs Q E hr h=>let⟨t,a,b⟩:=hbody cdv A outer s H vs Q E hr h;⟨t,a.nox,b⟩
end L2
namespace L2
open PySem PySem.Spec PyProof.Rows
section
variable {X:Cx}
theorem OpR.imp{f:Value->Value->Sem Value}{r r':R2}(h:OpR X f r)(i:∀x y H Q,r' x y H Q->r x y H Q):OpR X f r':=fun pins s σ H x y v u Q I rx ry q=>h pins s σ H x y v u Q I rx ry (i _ _ _ _ q)
theorem IxR.imp{r r':R2}(h:IxR X r)(i:∀x y H Q,r' x y H Q->r x y H Q):IxR X r':=fun value slice pins s σ H x y v u Q I rx ry q hs=>h value slice pins s σ H x y v u Q I rx ry (i _ _ _ _ q) hs
theorem xP{x:Str}{i:Int}{pos:Pos}(hg:Gl X x)(hm:∃t,X.mg x=some (.int i t))(hd:(x==("__debug__" : Str))=false:=by decide):PE X (.Name x pos) (tC (.int i)):=by
 obtain⟨t,e⟩:=hm
 exact Ck hg e ⟨t,rfl⟩ hd
theorem m6{x:Str}{n:String}{pos:Pos}(hg:Gl X x)(hm:X.mg x=none)(hv:bootBuiltins x=some (.type n))(hn:x≠ "__name__" := by decide)(hd:(x==("__debug__" : Str))=false:=by decide):PE X (.Name x pos) (tC (.ty n)):=
 Gp hg hm hv (v:= .ty n) rfl hn hd
structure Cal(P:Program)(w:World)(K:PySem.W.Frag)(mg:Str->Option Value)(base:Heap)(x:Str)(k:Nat)(ps:List Str)(sp:Sp):Prop where
 ex:∃(g:Addr) (gd:FuncData),mg x=some (.ref g)/\PySem.W.keepIn K (.ref g)=true/\Binds K gd ps []/\zY P w K mg base (jf P w) k g gd ps sp
theorem aB{x:Str}{k k':Nat}{ps:List Str}{sp:Sp}{p pos:Pos}{e:Expr}{es:List Expr}{t:TA}(C:Cal X.prog X.w X.K X.mg X.base x k ps sp)(hr:iw k' X.A)(hg:Gl X x)(ha:PA X (e::es) t)
  (hk:k<=k':=by decide) (hd:(x==("__debug__" : Str))=false:=by decide)
  (he:starEach (e::es) X.env=(false,eval e X.env)::starEach es X.env:=by rfl) (hpl:(backTo pos (starEach es X.env)).any (·.1)=false:=by rfl):PE X (.Call (.Name x p) (e::es) [] pos) (Dp sp [] E0 t):=by
 obtain⟨g,gd,hm,hkp,hb,F⟩:=C.ex
 exact vp F (hr.mono hk) hg hm hkp hb .nil JC ha hd he hpl
theorem zU{P:Program}{w:World}{K:PySem.W.Frag}{mg:Str->Option Value}{base:Heap}{N:List Str}{qual:Str}{scope:Scope}{f:Addr}{cdv:Value}{A:Around}{outer:List Env}{s₀:Shared}{H₀:Hp}{E:XK}
  {x:Str} {k k':Nat} {ps:List Str} {sp:Sp} {p pos:Pos} {e:Expr} {es:List Expr} {t:TA} (C:Cal P w K mg base x k ps sp) (hr:iw k' (cxF P w K mg base N qual scope f cdv A outer s₀ H₀ E).A) (hg:Gl (cxF P w K mg base N qual scope f cdv A outer s₀ H₀ E) x)
  (ha:PA (cxF P w K mg base N qual scope f cdv A outer s₀ H₀ E) (e::es) t) (hk:k<=k':=by decide) (hd:(x==("__debug__" : Str))=false:=by decide)
  (he:starEach (e::es) (cxF P w K mg base N qual scope f cdv A outer s₀ H₀ E).env=(false,eval e (cxF P w K mg base N qual scope f cdv A outer s₀ H₀ E).env)::starEach es (cxF P w K mg base N qual scope f cdv A outer s₀ H₀ E).env:=by rfl)
  (hpl:(backTo pos (starEach es (cxF P w K mg base N qual scope f cdv A outer s₀ H₀ E).env)).any (·.1)=false:=by rfl):
  PE (cxF P w K mg base N qual scope f cdv A outer s₀ H₀ E) (.Call (.Name x p) (e::es) [] pos) (Dp sp [] E t):=by
 obtain⟨g,gd,hm,hkp,hb,F⟩:=C.ex
 exact vp (X:=cxF P w K mg base N qual scope f cdv A outer s₀ H₀ E) F (hr.mono hk) hg hm hkp hb .nil GP ha hd he hpl
theorem EJ{prog:Program}{w:World}{A:Around}{E:Value->Shared->Prop}{s:Shared}{t b:Addr}{vs ws:List Value}{Q:Value->Shared->Prop}(ht:IsTup s.heap t vs.toArray)(hb:IsTup s.heap b ws.toArray)(hv:vs=[])
  (h1:Q (.ref b) s):wpAny (model prog w) A (binaryOp .Add (.ref t) (.ref b)) Q E s:=by
 obtain⟨⟨cls,dd,data,sl⟩,ho,hc,n,hd⟩:=id ht
 obtain⟨⟨cls2,dd2,data2,sl2⟩,ho2,hc2,n2,hd2⟩:=id hb
 simp only at hc hd hc2 hd2
 subst hc hd hc2 hd2
 exact concat_meets ⟨_,ho,rfl⟩ ⟨_,ho2,rfl⟩ noFill_tuple_add seq_tuple_add PySem.F.slot_tuple_add PySem.F.entry_tuple_add (PySem.F.args_tuple_add_2 _ _)
   (tuple_addW0 t b vs.toArray ws.toArray n n2 dd dd2 sl sl2 (by simp[hv])) ⟨ho,ho2,h1⟩
noncomputable def Oe(K:PySem.W.Frag):R2:=fun x y H Q=>∃a b ys,x = .ref a/\y = .ref b/\SqT K H a []/\SqT K H b ys/\Q (.ref b) H
theorem Gh:OpR X (binaryOp .Add) (Oe X.K):=by
 intro pins s σ H x y v u Q I rx ry h
 obtain⟨a,b,ys,rfl,rfl,ha,hb,q⟩:=h
 cases rx
 cases ry
 obtain⟨its,r1,p1,_⟩:=I.tuple ha
 obtain⟨its2,r2,p2,_⟩:=I.tuple hb
 exact EJ p1 p2 (r1.sW.mpr rfl) ⟨.ref b,H,I,rfl,q⟩
noncomputable def Gm(K:PySem.W.Frag):R2:=fun x y H Q=>match x,y with
 |.int i,.int j=>Q (.int (i+j)) H
 |.str i,.str j=>i.length+j.length<=sizeLine/\Q (.str (i++j)) H
 |.ref a,.ref b=>(∃xs ys,H a=some (.lst xs)/\H b=some (.lst ys)/\xs.length+ys.length<=sizeLine/\∀p,H p=none->Q (.ref p) (upd H p (.lst (xs++ys))))∨
   (∃xs ys,SqT K H a xs/\SqT K H b ys/\xs.length+ys.length<=sizeLine/\(xs=[]->Q (.ref b) H)/\(xs≠[]->ys=[]->Q (.ref a) H)/\(xs≠[]->ys≠[]->∀p,H p=none->Q (.ref p) (upd H p (.tup (xs++ys)))))
 |_,_=>False
theorem v_add:OpR X (binaryOp .Add) (Gm X.K):=by
 refine((Ko.or yJ).or (KW.or (HS.or Gh))).imp fun x y H Q h=>?_
 unfold Gm at h
 split at h
 ·exact .inl (.inl ⟨_,_,rfl,rfl,h⟩)
 ·exact .inl (.inr ⟨_,_,rfl,rfl,h⟩)
 ·rcases h with⟨xs,ys,h1,h2,h3,h4⟩|⟨xs,ys,h1,h2,h3,h4,h5,h6⟩
  ·exact .inr (.inl ⟨_,_,xs,ys,rfl,rfl,h1,h2,h3,h4⟩)
  ·by_cases hx:xs=[]
   ·subst hx
    exact .inr (.inr (.inr ⟨_,_,ys,rfl,rfl,h1,h2,h4 rfl⟩))
   ·exact .inr (.inr (.inl ⟨_,_,xs,ys,rfl,rfl,h1,h2,hx,h3,h5 hx,h6 hx⟩))
 ·exact h.elim
noncomputable def Kw:R2:=fun x y H Q=>match x,y with
 |.int i,.int j=>IntMulOk i j/\Q (.int (i*j)) H
 |.ref l,.int k=>∃xs,H l=some (.lst xs)/\-(2^63)<=k/\k<2^63/\xs.length*k.toNat<=sizeLine/\∀p,H p=none->Q (.ref p) (upd H p (.lst (List.replicate k.toNat xs).flatten))
 |_,_=>False
theorem HM:OpR X (binaryOp .Mult) (rI IntMulOk fun i j=> .int (i*j)):=opI fun _ _ _ _ _ _ _ hc q=>mul_int q hc
theorem v_mul:OpR X (binaryOp .Mult) Kw:=by
 refine(HM.or Kl).imp fun x y H Q h=>?_
 unfold Kw at h
 split at h
 ·exact .inl ⟨_,_,rfl,rfl,h.1,h.2⟩
 ·obtain⟨xs,h1,h2,h3,h4,h5⟩:=h
  exact .inr ⟨_,_,xs,rfl,rfl,h1,h2,h3,h4,h5⟩
 ·exact h.elim
inductive SIx(K:PySem.W.Frag)(p:Addr)(i:Int)(H:Hp)(Q:VK):Prop|mk (xs:List V) (v:V) (hs:SqL K H p xs∨SqT K H p xs) (ha:atI xs i=some v) (q:Q v H)
noncomputable def K5(K:PySem.W.Frag):R2:=fun x y H Q=>match x,y with
 |.ref p,.int i=>SIx K p i H Q
 |.str z,.int i=>∃c,z.length<=sizeLine/\atI z.cps.toList i=some c/\Q (.str ⟨#[c]⟩) H
 |_,_=>False
theorem Wo:IxR X (K5 X.K):=by
 refine J1.imp fun x y H Q h=>?_
 unfold K5 at h
 split at h
 ·obtain⟨xs,v,h1|h1,h2,h3⟩:=h
  ·exact .inl ⟨_,xs,_,v,rfl,rfl,h1,h2,h3⟩
  ·exact .inr (.inl ⟨_,xs,_,v,rfl,rfl,h1,h2,h3⟩)
 ·obtain⟨c,h1,h2,h3⟩:=h
  exact .inr (.inr ⟨_,_,c,rfl,rfl,h1,h2,h3⟩)
 ·exact h.elim
noncomputable def DK(H:Hp):V->Option String
 |.non=>some "NoneType"
 |.bl _=>some "bool"
 |.int _=>some "int"
 |.str _=>some "str"
 |.ref a=>match H a with
  |some (.lst _)=>some "list"
  |some (.frz _ (.lst _))=>some "list"
  |some (.tup _)=>some "tuple"
  |some (.dK _)=>some "dict"
  |_=>none
 |_=>none
noncomputable def subB(t c:String):Bool:=t==c||(t== "bool" && c== "int")
theorem Lh{K:PySem.W.Frag}{t c:String}(ht:t∈["NoneType","bool","int","str","list","tuple","dict"])(hc:c∈["int","bool","tuple","list","str","dict"]):PySem.W.kitOne K (.type t) (.type c)=some (subB t c):=by
 simp only[List.mem_cons,List.not_mem_nil,or_false]at ht hc
 rcases ht with rfl|rfl|rfl|rfl|rfl|rfl|rfl<;>rcases hc with rfl|rfl|rfl|rfl|rfl|rfl<;>kernel_rfl
theorem Gn{K:PySem.W.Frag}{H:Hp}{x:V}{t:String}(h:DK H x=some t):xZ K H x (.type t)/\t∈["NoneType","bool","int","str","list","tuple","dict"]:=by
 unfold DK at h
 split at h
 ·cases h;exact⟨.non,by simp⟩
 ·cases h;exact⟨.bl _,by simp⟩
 ·cases h;exact⟨.int _,by simp⟩
 ·cases h;exact⟨.str _,by simp⟩
 ·split at h
  ·rename_i e;cases h;exact⟨.lst e,by simp⟩
  ·rename_i e;cases h;exact⟨.frz e,by simp⟩
  ·rename_i e;cases h;exact⟨.tup e,by simp⟩
  ·rename_i e;cases h;exact⟨.dK e,by simp⟩
  ·cases h
 ·cases h
theorem dj:j5 X (.builtin "isinstance") (fun xs H Q=>∃x c t,xs=[x,.ty c]/\DK H x=some t/\c∈["int","bool","tuple","list","str","dict"]/\Q (.bl (subB t c)) H):=by
 intro pins s σ H xs us Q I r h
 obtain⟨x,c,t,rfl,ht,hc,q⟩:=h
 obtain⟨u,v,rfl,ru,rv⟩:=r.two
 cases rv
 obtain⟨ty,hm⟩:=Gn (K:=X.K) ht
 exact B3 I ru ty (Lh hm hc) fun tk=>⟨.bl _,H,I.tok tk,rfl,q⟩
theorem v_sum(hc:X.calm=true):j5 X (.builtin "sum") (fun xs H Q=>∃(l:Addr) (ns:List Int),xs=[.ref l]/\SqL X.K H l (ns.map V.int)/\Q (.int ns.sum) H):=by
 intro pins s σ H xs us Q I r h
 obtain⟨l,ns,rfl,hl,q⟩:=h
 obtain⟨u,rfl,ru⟩:=r.one
 cases ru
 obtain⟨its,rv,pl,hz⟩:=I.list hl
 have hi:=intsAre_of rv
 obtain⟨xs,hx⟩:=hi.allInts.items
 have hl':s.heap.IsList l (intItems xs):=hx▸pl.isList
 refine sum_intListG (I.ok.hd hc) hl' fun h' tk t' hk=>?_
 have e1:ns=xs.toList.map (·.1):=by
  rw[<-nums_intItems,<-hx]
  exact(show numsOf its.toArray.toList=ns from hi.numsOf).symm
 have e2:preSum (numAt xs) xs.size=ns.sum:=by
  rw[preSum_eq,List.take_of_length_le (by simp),e1]
 rw[e2]
 exact⟨.int _,H,I.kept hk,⟨_,rfl⟩,q⟩
noncomputable def U0(K:PySem.W.Frag)(tl:TE):TI:=fun σ H R=>tl σ H fun x H1=>∃a,x = .ref a/\(((∃xs,SqL K H1 a xs)/\R (Itl K a) H1)∨((∃xs,SqT K H1 a xs)/\R (Itt K a) H1))
theorem Jh{tg l:Expr}{tl:TE}(hl:PE X l tl):PI X tg l (U0 X.K tl):=by
 intro pins s σ H R I h
 refine thn (hl pins s σ H _ I h) fun v s1 ⟨x,H1,I1,r1,a,e,q⟩=>?_
 subst e
 cases r1
 rcases q with⟨⟨xs,hq⟩,q⟩|⟨⟨xs,hq⟩,q⟩
 ·have hh:PI X tg l (Qn X.K fun σ' H' Q=>Q (.ref a) H')->True:=fun _=>trivial
  obtain⟨its,rv,p,hz⟩:=I1.list hq
  refine wpAny_pyIter_list p.isList ?_
  refine⟨s1.heap.objs.size,[s1.heap.objs.size],_,_,H1,rfl,I1.kept (t':=s1.toks) fun b o e=>Heap.get?_push_of_some _ e,Cz a _,⟨_,Heap.get?_push_size _ rfl,rfl,rfl⟩,fun b hb=>?_,q⟩
  have e:b=s1.heap.objs.size:=by simpa using hb
  subst e
  exact I1.Ij (Nat.le_refl _) (I1.hok.fresh (Nat.le_refl _))
 ·obtain⟨its,rv,p,hz⟩:=I1.tuple hq
  refine wpAny_pyIter_tuple (show s1.heap.IsTuple a its.toArray from p) ?_
  refine⟨s1.heap.objs.size,[s1.heap.objs.size],_,_,H1,rfl,I1.kept (t':=s1.toks) fun b o e=>Heap.get?_push_of_some _ e,yp a _,⟨_,Heap.get?_push_size _ rfl,rfl,rfl⟩,fun b hb=>?_,q⟩
  have e:b=s1.heap.objs.size:=by simpa using hb
  subst e
  exact I1.Ij (Nat.le_refl _) (I1.hok.fresh (Nat.le_refl _))
end
end L2
namespace L2
open PySem PySem.Spec PyProof.Rows
theorem mJ{env:Env}:∀(names:List (Str×NameKind)) (acc:List (Str×Addr)),(∀y∈names,y.2 = .free->∃c,env.cells.lookup y.1=some c)->(∀p∈acc,env.cells.lookup p.1=some p.2)->
 ∃cl,(forIn names acc fun(y:Str×NameKind) (cs:List (Str×Addr))=>match y with|(name,kind)=>if(kind== .free)=true then do let a<-cellOf env name;pure (ForInStep.yield ((name,a)::cs))else pure (ForInStep.yield cs))=(pure cl:Sem _)/\(∀p∈cl,env.cells.lookup p.1=some p.2)/\(∀p∈acc,p∈cl)/\∀y∈names,y.2 = .free->∃c,(y.1,c)∈cl
 |[],acc,_,ha=>⟨acc,rfl,ha,fun _ h=>h,fun _ h=>nomatch h⟩
 |(n,k)::r,acc,hf,ha=>by
  have hr:∀y∈r,y.2 = .free->∃c,env.cells.lookup y.1=some c:=fun y hy=>hf y (List.mem_cons_of_mem _ hy)
  by_cases hk:k = .free
  ·subst hk
   obtain⟨c,hc⟩:=hf (n,.free) List.mem_cons_self rfl
   obtain⟨cl,e,h1,h2,h3⟩:=mJ r ((n,c)::acc) hr (fun p hp=>by
    rcases List.mem_cons.mp hp with rfl|hp
    ·exact hc
    ·exact ha p hp)
   refine⟨cl,?_,h1,fun p hp=>h2 p (List.mem_cons_of_mem _ hp),fun y hy hyf=>?_⟩
   ·rw[List.forIn_cons]
    simp only[beq_self_eq_true,if_true,cellOf,hc,pure_bind]
    exact e
   ·rcases List.mem_cons.mp hy with rfl|hy
    ·exact⟨c,h2 _ List.mem_cons_self⟩
    ·exact h3 y hy hyf
  ·have hb:(k==NameKind.free)=false:=by simpa using hk
   obtain⟨cl,e,h1,h2,h3⟩:=mJ r acc hr ha
   refine⟨cl,?_,h1,h2,fun y hy hyf=>?_⟩
   ·rw[List.forIn_cons]
    simp only[hb,Bool.false_eq_true,if_false,pure_bind]
    exact e
   ·rcases List.mem_cons.mp hy with rfl|hy
    ·exact absurd hyf hk
    ·exact h3 y hy hyf
theorem lZ{env:Env}{scope:Scope}(hf:∀y∈scope.names,y.2 = .free->∃c,env.cells.lookup y.1=some c):
  ∃cl,closureFor scope env=pure cl/\(∀x c,cl.lookup x=some c->env.cells.lookup x=some c)/\∀y∈scope.names,y.2 = .free->∃c,cl.lookup y.1=some c:=by
 obtain⟨cl,e,h1,_,h3⟩:=mJ (env:=env) scope.names [] hf (fun _ h=>nomatch h)
 refine⟨cl,?_,fun x c h=>h1 (x,c) (PySem.mem_of_lookup h),fun y hy hyf=>?_⟩
 ·unfold closureFor
  simp only[bind_pure_comp]at e⊢
  rw[e]
  rfl
 ·obtain⟨c,hc⟩:=h3 y hy hyf
  cases q:cl.lookup y.1 with
  |some d=>exact⟨d,rfl⟩
  |none=>
   have z:=List.lookup_eq_none_iff.mp q (y.1,c) hc
   simp at z
noncomputable def Jo(sc:Scope)(cl:List (Str×Addr))(C:Addr)(env:Env):Env:=
 { scope:=sc,locals:=C,globals:=env.globals,cells:=cl,qual:=env.qual,func:=none,code:=env.code,frame:=env.frame,builtins:=env.builtins }
noncomputable def cCx(X:Cx)(sc:Scope)(N:List Str)(cl:List (Str×Addr))(C:Addr)(s₀:Shared)(H₀:Hp)(ex:List Addr):Cx:=
 { X with env:=Jo sc cl C X.env,N:=N,s₀:=s₀,H₀:=H₀,outer:=X.stack,ex:=ex,fn:=fun _=>false,pn:=[],xe:=fun _ _=>False }
noncomputable def cst(ix:List (Option Nat))(σ:St):St:=ix.map fun o=>match o with
 |none=>none
 |some i=>match σ[i]? with
  |some v=>v
  |none=>none
noncomputable def PIf(X:Cx)(ifs:List Expr)(t:TT):Prop:=
 ∀(pins:List (Addr×Obj)) (s:Shared) (σ:St) (H:Hp) (Q:Bool->Hp->Prop),Inv X pins σ H s->t σ H Q->
  wpAny (model X.prog X.w) X.A (forIn ifs true fun c r=>if r=true then do let ok<-isTrue c X.env (eval c X.env);pure (ForInStep.yield ok)else pure (ForInStep.yield r)) (TP X pins σ Q) X.xe s
noncomputable def Dh:TT:=fun _ H Q=>Q true H
theorem dg{X:Cx}:PIf X [] Dh:=fun _ _ _ H _ I h=>wpAny_tests_nil ⟨H,I,h⟩
theorem HX{X:Cx}{c:Expr}{t:TT}(h:PT X c t):PIf X [c] t:=fun pins s σ H Q I q=>wpAny_tests_one (h pins s σ H Q I q)
theorem fV{prog:Program}{w:World}{A:Around}{R:Result->Shared->Prop}{s:Shared}{elt target iter:Expr}{ifs:List Expr}{scope:Scope}{pos:Pos}{it acc:Value}{env:Env}(I:Nat->Shared->Prop)
  (turn:∀n s,I n s->wpAny (model prog w) A (pyNext it) (fun r s₁=>match r with
   |none=>R (.ok .next) s₁
   |some v=>wpAny (model prog w) A (letOwnedTupleGo target it v) (fun _ s₀=>wpAny (model prog w) A (assign target env v) (fun _ s₂=>
     wpAny (model prog w) A (forIn ifs true fun c r=>if r=true then do let ok<-isTrue c env (eval c env);pure (ForInStep.yield ok)else pure (ForInStep.yield r)) (fun ok s₃=>
      if ok=true then wpAny (model prog w) A (eval elt env) (fun x s₄=>
       wpAny (model prog w) A (call (.builtin "list.append") [acc,x]) (fun _ s₅=>∃m,m<n/\I m s₅) (fun _ _=>False) s₄) (fun _ _=>False) s₃
      else ∃m,m<n/\I m s₃) (fun _ _=>False) s₂) (fun _ _=>False) s₀) (fun _ _=>False) s₁) (fun _ _=>False) s)
  (n:Nat) (h:I n s):
  codeAny (model prog w) A (.compLoop (.ListComp elt [⟨target,iter,ifs,0⟩] scope pos) 0 it acc env) R s:=by
 refine codeAny_loop rfl I (fun n s hI=>?_) n h
 show wpAny _ A ((compTurn (.ListComp elt [⟨target,iter,ifs,0⟩] scope pos) 0 it acc env).onRaise (fun x=>do noteFrame x env;theTreesLotGoes x)) _ _ s
 refine wpAny_noted ?_
 rw[compTurn_list]
 refine wpAny_bind (wpAny_standAt (wpAny_bind (wpAny_mono (turn n s hI) (fun r s₁ h₁=>?_) fun _ _ h'=>h'.elim)))
 cases r with
 |none=>exact wpAny_pure h₁
 |some v=>
  refine wpAny_bind (wpAny_mono h₁ (fun _ s₀ h₀=>?_) fun _ _ h'=>h'.elim)
  refine wpAny_bind (wpAny_mono h₀ (fun _ s₂ h₂=>wpAny_bind (wpAny_mono h₂ (fun ok s₃ h₃=>?_) fun _ _ h'=>h'.elim)) fun _ _ h'=>h'.elim)
  cases ok with
  |false=>exact wpAny_pure ⟨rfl,h₃⟩
  |true=>
   exact wpAny_bind (wpAny_bind (wpAny_mono h₃ (fun x s₄ h₄=>wpAny_bind (wpAny_mono h₄ (fun _ s₅ h₅=>wpAny_pure (wpAny_pure ⟨rfl,h₅⟩)) fun _ _ h'=>h'.elim)) fun _ _ h'=>h'.elim))
structure m9(ix:List (Option Nat))(g:TG)(tc:TT)(te:TE)(σ:St)(Q:VK)(J:It)(H1:Hp):Prop where
 go:∀D,H1 D=none->∃W:Nat->Nat->St->Hp->Prop,(∃m,W 0 m (cst ix σ) (upd H1 D (.lst [])))/\
  ∀i m σ' H',W i m σ' H'->(J.stop i H'/\Q (.ref D) H')∨(J.go i H'/\∀x H2,J.yld i H' x H2->g x σ' H2 fun σ3 H3=>tc σ3 H3 fun b H4=>
   if b=true then te σ3 H4 fun y H5=>∃ys,H5 D=some (.lst ys)/\ys.length<sizeLine/\∃m',m'<m/\W (i+1) m' σ3 (upd H5 D (.lst (ys++[y])))
   else ∃m',m'<m/\W (i+1) m' σ3 H4)
noncomputable def Ag(ix:List (Option Nat))(wi:TI)(g:TG)(tc:TT)(te:TE):TE:=fun σ H Q=>wi σ H fun J H1=>m9 ix g tc te σ Q J H1
structure wG(X:Cx)(scope sc:Scope)(N:List Str)(ix:List (Option Nat)):Prop where
 rel:relabel scope X.env=sc
 kind:scope.kind = .function
 cell:∀y∈scope.names,y.2≠ .cell
 names:∀x∈scope.names,x.2 = .local->scope.names.lookup x.1=some .local
 free:∀y∈scope.names,y.2 = .free->X.env.kindOf y.1=some .cell∨X.env.kindOf y.1=some .free
 len:N.length=ix.length
 ix:∀(j:Nat) (x:Str) (i:Nat),N[j]?=some x->ix[j]?=some (some i)->X.N[i]?=some x/\(x,NameKind.free)∈scope.names/\(sc.names.lookup x=some .cell∨sc.names.lookup x=some .free)
 has:∀x,(sc.names.lookup x=some .cell∨sc.names.lookup x=some .free)->(x,NameKind.free)∈scope.names
theorem tO{X:Cx}{tg iter elt:Expr}{ifs:List Expr}{scope sc:Scope}{pos ip:Pos}{wi:TI}{g:TG}{tc:TT}{te:TE}{N:List Str}{ix:List (Option Nat)}(O:wG X scope sc N ix)(hc:X.calm=true)(hi:PI X tg iter wi)
  (hb:∀cl C s₀ H₀ ex,PG (cCx X sc N cl C s₀ H₀ ex) tg g/\PIf (cCx X sc N cl C s₀ H₀ ex) ifs tc/\PE (cCx X sc N cl C s₀ H₀ ex) elt te) (hs:∀x,foldedSetIterable iter X.env x=pure x)
  {use:Option (Value->Sem Unit)} {QQ:Value->Shared->Prop} {pins:List (Addr×Obj)} {s:Shared} {σ:St} {H:Hp} {Q:VK} (I:Inv X pins σ H s) (h:Ag ix wi g tc te σ H Q)
  (fin:∀(D C:Addr) (s6:Shared) (H5:Hp) (m:Str->Option Value),Inv X pins σ H5 s6->s6.heap.Ns C m->zu X pins H5 C->Q (.ref D) H5->compPost (model X.prog X.w) X.A X.xe use QQ (.ref D) C (.ok .next) s6):
  wpAny (model X.prog X.w) X.A (comprehension (.ListComp elt [⟨tg,iter,ifs,0⟩] scope pos) scope X.env ip (newList []) false (eval iter X.env) use) QQ X.xe s:=by
 have hcl:∃cl,closureFor scope X.env=pure cl/\(∀x c,cl.lookup x=some c->X.env.cells.lookup x=some c)/\∀y∈scope.names,y.2 = .free->∃c,cl.lookup y.1=some c:=
  lZ fun y hy hf=>I.ok.has y.1 (O.free y hy hf)
 obtain⟨cl,ecl,hcl1,hcl2⟩:=hcl
 refine wpAny_comprehension_free (use:=use) rfl hs ecl O.kind O.names (thn (hi pins s σ H _ I h) fun v s1 h1=>thn h1 fun itv s2 h2=>?_)
 obtain⟨it,fp,tn,J,H2,e,I2,T,st2,f2,q2⟩:=h2
 subst e
 obtain⟨W,⟨m0,w0⟩,turn⟩:=q2.go s2.heap.objs.size I2.fresh
 refine wpAny_newObj_type ?_
 have I3:=I2.K6 (its:=[]) (t':=s2.toks) (ys:=[]) .nil (Nat.zero_le _)
 generalize eH3:upd H2 s2.heap.objs.size (.lst [])=H3 at I3 w0
 have eD:H3 s2.heap.objs.size=some (.lst []):=by rw[<-eH3];exact aA
 have hfp2:∀b∈fp,b≠s2.heap.objs.size:=fun b hb z=>by
  obtain⟨o,ho,_⟩:=T.obj _ _ st2 b hb
  exact absurd (Heap.lt_size ho) (by rw[z];exact Nat.lt_irrefl _)
 have st3:tn 0 (s2.heap.push { cls:= .type "list",dict:=none,data:= .seq ([]:List Value).toArray }):=T.keep _ _ _ st2 fun b _ o e=>Heap.get?_push_of_some _ e
 have f3:∀b∈fp,zu X pins H3 b:=fun b hb=>⟨by rw[<-eH3,bU (hfp2 b hb)];exact(f2 b hb).1,(f2 b hb).2⟩
 generalize es3:({ s2 with heap:=s2.heap.push { cls:= .type "list",dict:=none,data:= .seq ([]:List Value).toArray },toks:=s2.toks }:Shared)=s3 at I3
 have st3':tn 0 s3.heap:=by rw[<-es3];exact st3
 refine wpAny_newFunctionEnv O.cell (fun y hy=>nomatch hy) (fun h4 hns4 hsb4=>?_) O.kind
 have keep4:∀b o,s3.heap.get? b=some o->h4.get? b=some o:=fun b o e=>(hsb4.2 b (Nat.ne_of_lt (Heap.lt_size e))).trans (Heap.get?_push_of_some _ e)
 have I4:Inv X pins σ H3 { s3 with heap:=h4,toks:=s3.toks+([]:List (Str×Value)).length }:=I3.kept keep4
 have eenv:({ newEnv scope s3.heap.objs.size X.env.globals cl X.env.qual none .none (some X.env) builtinsNs with scope:=relabel scope X.env }:Env)=Jo sc cl s3.heap.objs.size X.env:=by rw[O.rel];rfl
 rw[eenv]
 show codeAny _ _ _ (compPost (model X.prog X.w) X.A X.xe use QQ (.ref s2.heap.objs.size) s3.heap.objs.size) _
 generalize eC:s3.heap.objs.size=C
 generalize es4:({ s3 with heap:=h4,toks:=s3.toks+([]:List (Str×Value)).length }:Shared)=s4 at I4
 have h4s:s4.heap=h4:=by rw[<-es4]
 have o4s:s4.os=s3.os:=by rw[<-es4]
 have fC:∀b∈fp,b≠C:=fun b hb z=>by
  obtain⟨o,ho,_⟩:=T.obj _ _ st3' b hb
  exact absurd (Heap.lt_size ho) (by rw[z,eC];exact Nat.lt_irrefl _)
 have okC:(cCx X sc N cl C s3 H3 fp).Ok:=by
  refine⟨I3.ok.mod,?_,I3.ok.glob,I3.ok.blt,Nat.le_of_eq eC,fun x y c h1 h2=>I3.ok.inj x y c (hcl1 x c h1) (hcl1 y c h2),fun x hx=>?_,fun x c z _=>(nomatch z),I3.ok.hd,I3.ok.frames,.inl rfl,fun b hb=>⟨fC b hb,fun x c e=>(f3 b hb).2.2.2.2.1 x c (hcl1 x c e)⟩,
   I3.bs,Nat.le_trans I3.ok.bsz I3.sz,fun b o e hb=>?_,fun b hb z=>?_,I3.stack,I3.rm⟩
  ·show sc.kind = .function
   rw[<-O.rel];exact O.kind
  ·exact hcl2 (x,.free) (O.has x hx) rfl
  ·rcases(f3 b hb).2.2.2.1 with z|z
   ·exact I3.ok.noex b o e z
   ·exact absurd (Nat.lt_of_lt_of_le (Heap.lt_size e) (Nat.le_trans I3.ok.bsz z)) (Nat.lt_irrefl _)
  ·rcases List.mem_cons.mp (I3.uO b z)with z|z
   ·exact(f3 b hb).2.1 z
   ·exact(f3 b hb).2.2.1 z
 have IC:Inv (cCx X sc N cl C s3 H3 fp) [] (cst ix σ) H3 s4:=by
  refine⟨okC,o4s,I4.bare,?_,?_,fun x c e=>I4.cell x c (hcl1 x c e),?_,fun x c e=>I4.freeC x c (hcl1 x c e),fun p hp=>(nomatch hp),I4.hok,?_⟩
  ·rw[h4s]
   exact Un.kept keep4
  ·refine⟨_,by rw[h4s,<-eC];exact hns4,fun j x v e1 e2 e3=>?_⟩
   have e2':(cst ix σ)[j]?=some (some v):=e2
   unfold cst at e2'
   rw[List.getElem?_map]at e2'
   cases q:ix[j]? with
   |none=>rw[q]at e2';cases e2'
   |some o=>
    rw[q]at e2'
    cases o with
    |none=>cases e2'
    |some i=>
     obtain⟨hx,hm,hsc⟩:=O.ix j x i e1 q
     cases q2:σ[i]? with
     |none=>simp[q2]at e2'
     |some w'=>
      simp[q2]at e2'
      subst e2'
      obtain⟨m,hn,hl⟩:=I4.loc
      have kf:=O.free (x,.free) hm rfl
      have vis:Vis X.env.scope x:=by
       rcases kf with k|k
       ·exact .inr (.inl k)
       ·exact .inr (.inr k)
      obtain⟨u,r,l⟩:=hl i x v hx q2 vis
      refine⟨u,r,?_⟩
      rcases l with⟨k,_⟩|⟨_,c,e,z⟩
      ·rcases kf with k'|k'
       ·rw[k]at k';cases k'
       ·rw[k]at k';cases k'
      ·obtain⟨c',e'⟩:=hcl2 (x,.free) hm rfl
       have:=hcl1 x c' e'
       rw[e]at this;cases this
       exact .inr ⟨hsc,c,e',z⟩
  ·rw[<-eC]
   exact I3.fresh
  ·show(cst ix σ).length=N.length
   rw[O.len];simp[cst]
 have st4:tn 0 s4.heap:=T.keep _ _ _ st3' fun b _ o e=>by rw[h4s];exact keep4 b o e
 have stat:∀{H':Hp},(∀b∈fp,H' b=none)->∀b∈fp,zu (cCx X sc N cl C s3 H3 fp) [] H' b:=fun hn b hb=>
  ⟨hn b hb,fC b hb,okC.exfs b hb,.inl hb,fun x c e=>(f3 b hb).2.2.2.2.1 x c (hcl1 x c e),fun p hp=>(nomatch hp)⟩
 obtain⟨hg,ht,he⟩:=hb cl C s3 H3 fp
 have loop:codeAny (model X.prog X.w) X.A (.compLoop (.ListComp elt [⟨tg,iter,ifs,0⟩] scope pos) 0 (.ref it) (.ref s2.heap.objs.size) (Jo sc cl C X.env))
   (compPost (model X.prog X.w) X.A X.xe use QQ (.ref s2.heap.objs.size) C) s4:=by
  refine fV (fun n s'=>∃i σ' H',Inv (cCx X sc N cl C s3 H3 fp) [] σ' H' s'/\tn i s'.heap/\(∀b∈fp,H' b=none)/\W i n σ' H') ?_ m0 ⟨0,cst ix σ,H3,IC,st4,fun b hb=>(f3 b hb).1,w0⟩
  rintro n s5 ⟨i,σ5,H5,I5,st5,fr5,w5⟩
  rcases turn i n σ5 H5 w5 with⟨stop,qn⟩|⟨go,step⟩
  ·refine thn (T.done (cCx X sc N cl C s3 H3 fp) rfl rfl rfl hc i [] s5 σ5 H5 (fun _ _=>False) I5 (stat fr5) st5 stop) fun r s6 ⟨hr,I6⟩=>?_
   subst hr
   obtain⟨m,hn,_⟩:=id I6.loc
   have I7:Inv X pins σ H5 s6:=I3.GQ (ch:=fp) I6.os I6.base I6.hok I6.bare fun b hb=>⟨(f3 b hb).2.2.2.1,(f3 b hb).2.1,(f3 b hb).2.2.2.2.1,(f3 b hb).2.2.2.2.2⟩
   exact fin _ C s6 H5 m I7 hn (I3.Ij (Nat.le_of_eq eC) I6.free) qn
  ·refine thn (T.item (cCx X sc N cl C s3 H3 fp) rfl rfl rfl hc i [] s5 σ5 H5 (fun _ _=>False) I5 (stat fr5) st5 go) fun r s6 ⟨u,hr,h6⟩=>?_
   subst hr
   refine thn h6 fun _ s7 ⟨x,H7,I7,r7,y7,st7,fr7⟩=>?_
   have I7':=I7.pinned (stat fr7) (T.obj _ _ st7)
   have again:∀{σ9:St} {H9:Hp} {s9:Shared} {m':Nat},Inv (cCx X sc N cl C s3 H3 fp) ([]++qN fp s7.heap) σ9 H9 s9->m'<n->W (i+1) m' σ9 H9->
     ∃m,m<n/\∃i σ' H',Inv (cCx X sc N cl C s3 H3 fp) [] σ' H' s9/\tn i s9.heap/\(∀b∈fp,H' b=none)/\W i m σ' H':=fun {σ9 H9 s9 m'} I9 hm w9=>by
    refine⟨m',hm,i+1,σ9,H9,I9.jM,T.keep _ _ _ st7 fun b hb o e=>(I9.pin (b,o) (List.mem_append_right _ (List.mem_append_right _ (eU hb e)))).1,fun b hb=>?_,w9⟩
    obtain⟨o,e,d⟩:=T.obj _ _ st7 b hb
    exact(I9.pin (b,o) (List.mem_append_right _ (List.mem_append_right _ (eU hb e)))).2.1
   refine thn (hg _ s7 σ5 H7 x u _ I7' r7 (step x H7 y7)) fun _ s8 ⟨σ8,H8,I8,q8⟩=>?_
   refine thn (ht _ s8 σ8 H8 _ I8 q8) fun b s9 ⟨H9,I9,q9⟩=>?_
   cases b with
   |false=>
    rw[if_neg Bool.false_ne_true]at q9
    obtain⟨m',hm,w9⟩:=q9
    rw[if_neg Bool.false_ne_true]
    exact again I9 hm w9
   |true=>
    rw[if_pos rfl]at q9
    rw[if_pos rfl]
    refine thn (he _ s9 σ8 H9 _ I9 q9) fun y s10 ⟨yv,H10,I10,r10,ys,e10,z10,m',hm,w10⟩=>?_
    refine thn (pB _ s10 σ8 H10 (.ref s2.heap.objs.size) [yv] (.ref s2.heap.objs.size) [y] (fun _ H'=>W (i+1) m' σ8 H') I10 rfl (.cons r10 .nil) ⟨_,ys,yv,rfl,rfl,e10,z10,w10⟩) fun _ s11 ⟨_,H11,I11,_,w11⟩=>?_
    exact again I11 hm w11
 exact codeAny_compStart_list loop (T.self _ _ _ _ _ st4 loop)
theorem dY{X:Cx}{tg iter elt:Expr}{ifs:List Expr}{scope sc:Scope}{pos:Pos}{wi:TI}{g:TG}{tc:TT}{te:TE}{N:List Str}{ix:List (Option Nat)}(O:wG X scope sc N ix)(hc:X.calm=true)(hi:PI X tg iter wi)
  (hb:∀cl C s₀ H₀ ex,PG (cCx X sc N cl C s₀ H₀ ex) tg g/\PIf (cCx X sc N cl C s₀ H₀ ex) ifs tc/\PE (cCx X sc N cl C s₀ H₀ ex) elt te)
  (hs:∀x,foldedSetIterable iter X.env x=pure x:=by intro _;rfl):PE X (.ListComp elt [⟨tg,iter,ifs,0⟩] scope pos) (Ag ix wi g tc te):=by
 intro pins s σ H Q I h
 rw[eval_ListComp]
 exact tO (use:=none) (QQ:=EP X pins σ Q) O hc hi hb hs I h fun D C s6 H5 m I7 hn f q=>⟨m,hn,fun h' hs'=>⟨.ref D,H5,I7.turned (it:=C) (t':=s6.toks) (fun b o hb e=>(hs'.2 b hb).trans e) f.1 f.2.1 f.2.2.2.1 f.2.2.2.2.1 f.2.2.2.2.2,rfl,q⟩⟩
theorem rN{X:Cx}{i:Nat}{y:Str}{py spos:Pos}{tg iter elt:Expr}{ifs:List Expr}{scope sc:Scope}{pos:Pos}{wi:TI}{g:TG}{tc:TT}{te:TE}{N:List Str}{ix:List (Option Nat)}(hN:X.N.Nodup)(hi':X.N[i]?=some y)(hx:Loc X.env.scope y)
  (O:wG X scope sc N ix) (hc:X.calm=true) (hi:PI X tg iter wi)
  (hb:∀cl C s₀ H₀ ex,PG (cCx X sc N cl C s₀ H₀ ex) tg g/\PIf (cCx X sc N cl C s₀ H₀ ex) ifs tc/\PE (cCx X sc N cl C s₀ H₀ ex) elt te)
  (hs:∀x,foldedSetIterable iter X.env x=pure x:=by intro _;rfl) (hsw:swapsWith (.ListComp elt [⟨tg,iter,ifs,0⟩] scope pos) (some (.Name y py)) spos.line X.env=pure true:=by rfl)
  (hf:X.fn y=true∨X.env.scope.names.lookup y=some .local:=by first|exact .inl rfl|exact .inr rfl|assumption):
  PS X (.Assign [.Name y py] (.ListComp elt [⟨tg,iter,ifs,0⟩] scope pos) spos) (TN (Ag ix wi g tc te) (kE i)):=by
 intro pins s σ H D I h
 rw[exec_Assign_Name_used _ _ _ _ hsw]
 refine wpAny_bind (wpAny_standAt (wpAny_bind ?_))
 show wpAny _ X.A (do let _<-comprehension (.ListComp elt [⟨tg,iter,ifs,0⟩] scope pos) scope X.env _ (newList []) false (eval iter X.env) (some (assign (.Name y py) X.env))) _ _ s
 refine wpAny_bind (wpAny_mono (tO (use:=some (assign (.Name y py) X.env)) (QQ:=fun _ s'=>∃σ' H',Inv X pins σ' H' s'/\D.nx σ' H') O hc hi hb hs I h fun D1 C s6 H5 m I7 hn f q=>?_) (fun _ s' ⟨σ',H',I',q'⟩=>wpAny_pure (wpAny_pure ⟨σ',H',I',q'⟩)) fun _ _ e=>e)
 obtain⟨o,es,ep,ho,hc1,hc2⟩:=id hn
 have I8:=I7.pinned (fp:=[C]) (fun b hb=>by
  have e:b=C:=by simpa using hb
  subst e;exact f) (fun b hb=>by
  have e:b=C:=by simpa using hb
  subst e;exact⟨o,ho,fun v z=>by first|(rw[hc1.2]at z;cases z)|(rw[hc2.1]at z;cases z)|(rw[hc1]at z;cases z)|(simp_all)⟩)
 show wpAny _ X.A (assign (.Name y py) X.env (.ref D1)) _ _ _
 refine wpAny_assign_Name (kY I8 hN hi' hx (v:= .ref D1) rfl (fun s7 I9=>?_) hf)
 have hC:=(I9.pin (C,o) (List.mem_append_right _ (List.mem_append_right _ (eU (by simp) ho)))).1
 refine⟨m,⟨o,es,ep,hC,hc1,hc2⟩,fun h' hs'=>⟨_,H5,I9.jM.turned (it:=C) (t':=s7.toks) (fun b o hb e=>(hs'.2 b hb).trans e) f.1 f.2.1 f.2.2.2.1 f.2.2.2.2.1 f.2.2.2.2.2,q⟩⟩
end L2
namespace L2
open PySem PySem.Spec PyProof.Rows
mutual
inductive RdD(K:PySem.W.Frag)(H:Hp):V->PyData->Prop
 |non:RdD K H .non .none
 |bl (b:Bool):RdD K H (.bl b) (.bool b)
 |int (i:Int):RdD K H (.int i) (.int i)
 |str (x:Str):RdD K H (.str x) (.str x)
 |lst {a:Addr} {xs:List V} {ds:List PyData}:SqL K H a xs->yI K H xs ds->RdD K H (.ref a) (.list ds)
 |tup {a:Addr} {xs:List V} {ds:List PyData}:SqT K H a xs->yI K H xs ds->RdD K H (.ref a) (.tuple ds)
inductive yI(K:PySem.W.Frag)(H:Hp):List V->List PyData->Prop
 |nil:yI K H [] []
 |cons {x:V} {d:PyData} {xs:List V} {ds:List PyData}:RdD K H x d->yI K H xs ds->yI K H (x::xs) (d::ds)
end
section
variable {X:Cx} {pins:List (Addr×Obj)} {σ:St} {H:Hp} {s:Shared}
mutual
theorem Inv.reads(I:Inv X pins σ H s):∀{x:V} {d:PyData} {u:Value},RdD X.K H x d->RelV x u->∃as,Reads s.heap u d as
 |_,_,_,.non,r=>by cases r;exact⟨_,.none⟩
 |_,_,_,.bl b,r=>by cases r;exact⟨_,.bool b⟩
 |_,_,_,.int i,r=>by obtain⟨t,rfl⟩:=r;exact⟨_,.int i t⟩
 |_,_,_,.str x,r=>by obtain⟨t,rfl⟩:=r;exact⟨_,.str x t⟩
 |_,_,_,.lst hq hs,r=>by
  cases r
  obtain⟨its,rv,pl,_⟩:=I.list hq
  obtain⟨as,ra⟩:=Inv.readsAll I hs rv
  obtain⟨o,ho,hc,n,hd⟩:=pl.isList
  exact⟨_,.list ho hc hd (by simpa using ra)⟩
 |_,_,_,.tup hq hs,r=>by
  cases r
  obtain⟨its,rv,pl,_⟩:=I.tuple hq
  obtain⟨as,ra⟩:=Inv.readsAll I hs rv
  obtain⟨o,ho,hc,n,hd⟩:=pl
  exact⟨_,.tuple ho hc hd (by simpa using ra)⟩
theorem Inv.readsAll(I:Inv X pins σ H s):∀{xs:List V} {ds:List PyData} {us:List Value},yI X.K H xs ds->Vals xs us->∃as,ReadsAll s.heap us ds as
 |_,_,_,.nil,.nil=>⟨_,.nil⟩
 |_,_,_,.cons h1 h2,.cons r1 r2=>by
  obtain⟨as,a⟩:=Inv.reads I h1 r1
  obtain⟨bs,b⟩:=Inv.readsAll I h2 r2
  exact⟨_,.cons a b⟩
end
theorem yI.ints{K:PySem.W.Frag}{H:Hp}:∀ns:List Int,yI K H (ns.map V.int) (ns.map PyData.int)
 |[]=> .nil
 |n::r=> .cons (.int n) (yI.ints r)
noncomputable def fu(kb:List (Key×V)):List (Key×V)->Bool
 |[]=>true
 |(k,v)::r=>match Dk kb k with
  |none=>false
  |some y=>eqV v y&&fu kb r
theorem vd{A:Around}{kb:List (Key×V)}{vb:List (Key×Value)}(hb:KV kb vb)(fb:kb.all (fun p=>pF p.2)=true):∀{ka:List (Key×V)} {va:List (Key×Value)},KV ka va->ka.all (fun p=>pF p.2)=true->
  PySem.W.KeqHits A s vb va (fu kb ka)
 |[],_,.nil,_=> .nil
 |(k,v)::r,(k',v')::r',.cons ⟨e,rv⟩ t,f=>by
  cases (show k=k' from e)
  rw[List.all_cons,Bool.and_eq_true]at f
  have hv:=KV.val hb k
  cases q:Dk kb k with
  |none=>
   have hn:valueAt vb k=none:=Di.none_of (by rw[q]at hv;exact hv)
   have e2:fu kb ((k,v)::r)=false:=by simp[fu,q]
   rw[e2]
   exact .miss hn
  |some y=>
   rw[q]at hv
   obtain⟨u,hu,ru⟩:=Di.some_of hv
   have fy:pF y=true:=by
    unfold Dk at q
    cases q2:kb.find? (fun kv=>decide (kv.1=k))with
    |none=>rw[q2]at q;cases q
    |some p=>
     rw[q2]at q;cases q
     exact List.all_eq_true.mp fb p (List.mem_of_find?_eq_some q2)
   have e2:fu kb ((k,v)::r)=(eqV v y&&fu kb r):=by simp[fu,q]
   rw[e2]
   exact .hit hu (KH rv ru f.1 fy) (vd hb fb t f.2)
end
section
variable {X:Cx}
noncomputable def zx(K:PySem.W.Frag)(g:Bool->Bool):R2:=fun x y H Q=>match x,y with
 |.int i,.int j=>Q (.bl (g (decide (i=j)))) H
 |.bl i,.bl j=>Q (.bl (g (decide (i=j)))) H
 |.str i,.str j=>Q (.bl (g (decide (i=j)))) H
 |.non,.non=>Q (.bl (g true)) H
 |.ref a,.ref b=>(∃d e,RdD K H (.ref a) d/\RdD K H (.ref b) e/\SeqAt.shaped d=true/\SeqAt.shaped e=true/\Q (.bl (g (PyData.eqv d e))) H)∨
   (∃ka kb,H a=some (.dK ka)/\H b=some (.dK kb)/\ka.all (fun p=>pF p.2)=true/\kb.all (fun p=>pF p.2)=true/\Q (.bl (g (ka.length==kb.length&&fu kb ka))) H)
 |.non,.ref _=>False
 |.ref _,.non=>False
 |x,y=>LX x y=true/\Q (.bl (g (decide (x=y)))) H
theorem Kg{k:Nat}(hr:iw k X.A):OpR X (compareOp .Eq) (fun x y H Q=>∃d e,RdD X.K H x d/\RdD X.K H y e/\SeqAt.shaped d=true/\SeqAt.shaped e=true/\Q (.bl (PyData.eqv d e)) H):=by
 intro pins s σ H x y v u Q I rx ry h
 obtain⟨d,e,h1,h2,h3,h4,q⟩:=h
 obtain⟨as,ra⟩:=I.reads h1 rx
 obtain⟨bs,rb⟩:=I.reads h2 ry
 exact eq_dataH ra rb h3 h4 hr.units ⟨.bl _,H,I,rfl,q⟩
theorem Ku{k:Nat}(hr:iw k X.A):OpR X (compareOp .NotEq) (fun x y H Q=>∃d e,RdD X.K H x d/\RdD X.K H y e/\SeqAt.shaped d=true/\SeqAt.shaped e=true/\Q (.bl (!PyData.eqv d e)) H):=by
 intro pins s σ H x y v u Q I rx ry h
 obtain⟨d,e,h1,h2,h3,h4,q⟩:=h
 obtain⟨as,ra⟩:=I.reads h1 rx
 obtain⟨bs,rb⟩:=I.reads h2 ry
 exact ne_dataH ra rb h3 h4 hr.units ⟨.bl _,H,I,rfl,q⟩
theorem Jz{k:Nat}(hr:iw k X.A):OpR X (compareOp .Eq) (fun x y H Q=>∃a b ka kb,x = .ref a/\y = .ref b/\H a=some (.dK ka)/\H b=some (.dK kb)/\ka.all (fun p=>pF p.2)=true/\kb.all (fun p=>pF p.2)=true/\Q (.bl (ka.length==kb.length&&fu kb ka)) H):=by
 intro pins s σ H x y v u Q I rx ry h
 obtain⟨a,b,ka,kb,rfl,rfl,h1,h2,h3,h4,q⟩:=h
 cases rx;cases ry
 obtain⟨_,ea,va,ra,da⟩:ka.length<=sizeLine/\(a==sysModules)=false/\∃vs,KV ka vs/\s.heap.DictOf (mR X.prog X.w) a vs:=I.hok a _ h1
 obtain⟨_,eb,vb,rb,db⟩:kb.length<=sizeLine/\(b==sysModules)=false/\∃vs,KV kb vs/\s.heap.DictOf (mR X.prog X.w) b vs:=I.hok b _ h2
 refine PySem.W.keq_eq ea eb da db hr.FN (fun _=>vd rb h4 ra h3) ⟨.bl _,H,I,?_,q⟩
 show _=Value.bool _
 rw[Paired.length ra,Paired.length rb]
theorem Jf{k:Nat}(hr:iw k X.A):OpR X (compareOp .NotEq) (fun x y H Q=>∃a b ka kb,x = .ref a/\y = .ref b/\H a=some (.dK ka)/\H b=some (.dK kb)/\ka.all (fun p=>pF p.2)=true/\kb.all (fun p=>pF p.2)=true/\Q (.bl (!(ka.length==kb.length&&fu kb ka))) H):=by
 intro pins s σ H x y v u Q I rx ry h
 obtain⟨a,b,ka,kb,rfl,rfl,h1,h2,h3,h4,q⟩:=h
 cases rx;cases ry
 obtain⟨_,ea,va,ra,da⟩:ka.length<=sizeLine/\(a==sysModules)=false/\∃vs,KV ka vs/\s.heap.DictOf (mR X.prog X.w) a vs:=I.hok a _ h1
 obtain⟨_,eb,vb,rb,db⟩:kb.length<=sizeLine/\(b==sysModules)=false/\∃vs,KV kb vs/\s.heap.DictOf (mR X.prog X.w) b vs:=I.hok b _ h2
 refine PySem.W.keq_ne ea eb da db hr.FN (fun _=>vd rb h4 ra h3) ⟨.bl _,H,I,?_,q⟩
 show _=Value.bool _
 rw[Paired.length ra,Paired.length rb]
theorem Kv{i j:Int}:decide (V.int i=V.int j)=decide (i=j):=by simp
theorem IW{i j:Bool}:decide (V.bl i=V.bl j)=decide (i=j):=by simp
theorem Iu{i j:Str}:decide (V.str i=V.str j)=decide (i=j):=by simp
theorem v_eq{k:Nat}(hr:iw k X.A):OpR X (compareOp .Eq) (zx X.K id):=by
 refine(Rr.or ((Kg hr).or (Jz hr))).imp fun x y H Q h=>?_
 unfold zx at h
 split at h
 ·exact .inl ⟨rfl,by rw[Kv];exact h⟩
 ·exact .inl ⟨rfl,by rw[IW];exact h⟩
 ·exact .inl ⟨rfl,by rw[Iu];exact h⟩
 ·exact .inl ⟨rfl,by rw[decide_eq_true rfl];exact h⟩
 ·rcases h with⟨d,e,h⟩|⟨ka,kb,h⟩
  ·exact .inr (.inl ⟨d,e,h⟩)
  ·exact .inr (.inr ⟨_,_,ka,kb,rfl,rfl,h⟩)
 ·exact h.elim
 ·exact h.elim
 ·exact .inl h
theorem Wt{k:Nat}(hr:iw k X.A):OpR X (compareOp .NotEq) (zx X.K not):=by
 refine(Rp.or ((Ku hr).or (Jf hr))).imp fun x y H Q h=>?_
 unfold zx at h
 split at h
 ·exact .inl ⟨rfl,by rw[Kv];exact h⟩
 ·exact .inl ⟨rfl,by rw[IW];exact h⟩
 ·exact .inl ⟨rfl,by rw[Iu];exact h⟩
 ·exact .inl ⟨rfl,by rw[decide_eq_true rfl];exact h⟩
 ·rcases h with⟨d,e,h⟩|⟨ka,kb,h⟩
  ·exact .inr (.inl ⟨d,e,h⟩)
  ·exact .inr (.inr ⟨_,_,ka,kb,rfl,rfl,h⟩)
 ·exact h.elim
 ·exact h.elim
 ·exact .inl h
end
end L2
namespace PySem.SeqAt
open AutoSeq1 (wpAny_loadPart')
open MeetsSeq MeetsSeq2 MeetsSeq3 SeqRoads2
section
variable {A:Around} {s:Shared}
end
end PySem.SeqAt
namespace L2
open PySem PySem.Spec PyProof.Rows
section
variable {X:Cx}
end
theorem boot_isinstance:bootBuiltins "isinstance" = some (.builtin "isinstance"):=by decide +kernel
theorem boot_sum:bootBuiltins "sum" = some (.builtin "sum"):=by decide +kernel
theorem boot_max:bootBuiltins "max" = some (.builtin "max"):=by decide +kernel
theorem boot_int:bootBuiltins "int" = some (.type "int"):=by decide +kernel
theorem boot_bool:bootBuiltins "bool" = some (.type "bool"):=by decide +kernel
theorem boot_tuple:bootBuiltins "tuple" = some (.type "tuple"):=by decide +kernel
theorem boot_list:bootBuiltins "list" = some (.type "list"):=by decide +kernel
structure Fn(K:PySem.W.Frag)(mg:Str->Option Value)(x:Str)(st:Stmt)(ps:List Str):Prop where
 ex:∃(f:Addr) (fd:FuncData),Fun K x x st f fd/\mg x=some (.ref f)/\Binds K fd ps []
theorem Fn.cal{P:Program}{w:World}{K:PySem.W.Frag}{mg:Str->Option Value}{base:Heap}{x:Str}{st:Stmt}{N ps:List Str}{k:Nat}{sp:Sp}(F:Fn K mg x st ps)(S:aZ N ps (aj st))(len:∀vs H Q E,sp vs H Q E->vs.length=ps.length)
  (hbody:∀(f:Addr) (cdv:Value) (A:Around) (outer:List Env) (s:Shared) (H:Hp) (vs:List V) (Q:VK) (E:XK),iw k (A.deeper (envOfC x (aj st) s.heap.objs.size f cdv))->sp vs H Q E->
   ∃t,PSs (cxF P w K mg base N x (aj st) f cdv A outer s H E).nox (aF st) t/\t { nx:=fun _ H'=>Q .non H',rt:=Q } (start N vs) H):Cal P w K mg base x (k+1) ps sp:=by
 obtain⟨f,fd,F,m,b⟩:=F.ex
 exact⟨f,fd,m,F.kp,b,F.okN S len fun cdv A outer s H vs Q E hr h=>hbody f cdv A outer s H vs Q E hr h⟩
theorem Fn.Vg{P:Program}{w:World}{K:PySem.W.Frag}{mg:Str->Option Value}{base:Heap}{x:Str}{st:Stmt}{N ps:List Str}{k:Nat}{sp:Sp}(F:Fn K mg x st ps)(S:aZ N ps (aj st))(len:∀vs H Q E,sp vs H Q E->vs.length=ps.length)
  (hbody:∀(f:Addr) (cdv:Value) (A:Around) (outer:List Env) (s:Shared) (H:Hp) (vs:List V) (Q:VK) (E:XK),iw k (A.deeper (envOfC x (aj st) s.heap.objs.size f cdv))->sp vs H Q E->
   ∃t,PSs (cxF P w K mg base N x (aj st) f cdv A outer s H E) (aF st) t/\t { nx:=fun _ H'=>Q .non H',rt:=Q } (start N vs) H):Cal P w K mg base x (k+1) ps sp:=by
 obtain⟨f,fd,F,m,b⟩:=F.ex
 exact⟨f,fd,m,F.kp,b,F.okF S len fun cdv A outer s H vs Q E hr h=>hbody f cdv A outer s H vs Q E hr h⟩
theorem Same.new{H:Hp}{p:Addr}(h:H p=none)(o:HO):Same H (upd H p o):=fun b u q=>by rw[bU (dB q h)];exact q
theorem Same.upd{H H':Hp}{p:Addr}(g:Same H H')(h:H p=none)(o:HO):Same H (L2.upd H' p o):=fun b u q=>by rw[bU (dB q h)];exact g b u q
theorem Same.Qe{K:PySem.W.Frag}{H H':Hp}{a:Addr}{xs:List V}(e:Same H H')(h:SqT K H a xs):SqT K H' a xs:=by
 rcases h with(h|⟨o,h⟩)|h
 ·exact .inl (.inl (e _ _ h))
 ·exact .inl (.inr ⟨o,e _ _ h⟩)
 ·exact .inr h
theorem mulL{i j:Int}(h1:-(2^64)<i)(h2:i<2^64):IntMulOk i j:= .of_left (intBits_le_64 h1 h2)
theorem mulR{i j:Int}(h1:-(2^64)<j)(h2:j<2^64):IntMulOk i j:= .of_right (intBits_le_64 h1 h2)
theorem cY{X:Cx}{scope sc:Scope}{N:List Str}{ix:List (Option Nat)}(sc':relabel scope X.env=sc)(kind:scope.kind = .function)(cell:scope.names.all (fun y=>y.2 != .cell)=true)
  (names:scope.names.all (fun x=>x.2 != .local||scope.names.lookup x.1==some .local)=true)
  (free:scope.names.all (fun y=>y.2 != .free||(X.env.scope.names.lookup y.1==some .cell||X.env.scope.names.lookup y.1==some .free))=true)
  (len:N.length=ix.length)
  (hix:(N.zip ix).all (fun p=>match p.2 with
   |none=>true
   |some i=>X.N[i]?==some p.1&&scope.names.any (fun y=>y.1==p.1&&y.2== .free)&&(sc.names.lookup p.1==some .cell||sc.names.lookup p.1==some .free))=true)
  (has:sc.names.all (fun y=>(y.2 != .cell&&y.2 != .free)||scope.names.any (fun z=>z.1==y.1&&z.2== .free))=true):wG X scope sc N ix:=by
 have mem:∀x:Str,scope.names.any (fun y=>y.1==x&&y.2== .free)=true->(x,NameKind.free)∈scope.names:=fun x h=>by
  obtain⟨y,hy,e⟩:=List.any_eq_true.mp h
  rw[Bool.and_eq_true]at e
  obtain⟨a,b⟩:=y
  have e1:a=x:=eq_of_beq e.1
  have e2:b = .free:=eq_of_beq e.2
  subst e1;subst e2
  exact hy
 refine⟨sc',kind,fun y hy e=>?_,fun x hx e=>?_,fun y hy e=>?_,len,fun j x i h1 h2=>?_,fun x hx=>?_⟩
 ·have:=List.all_eq_true.mp cell y hy
  rw[e]at this;cases this
 ·have:=List.all_eq_true.mp names x hx
  rw[e]at this
  simpa using this
 ·have:=List.all_eq_true.mp free y hy
  rw[e]at this
  simpa[Env.kindOf]using this
 ·have hm:(x,some i)∈N.zip ix:=by
   have:(N.zip ix)[j]?=some (x,some i):=by
    rw[List.getElem?_zip_eq_some]
    exact⟨h1,h2⟩
   exact List.mem_of_getElem? this
  have:=List.all_eq_true.mp hix _ hm
  simp only[Bool.and_eq_true]at this
  obtain⟨⟨a1,a2⟩,a3⟩:=this
  refine⟨eq_of_beq a1,mem x a2,?_⟩
  rw[Bool.or_eq_true]at a3
  rcases a3 with z|z
  ·exact .inl (eq_of_beq z)
  ·exact .inr (eq_of_beq z)
 ·have hm:∃k,(x,k)∈sc.names/\(k = .cell∨k = .free):=by
   rcases hx with z|z
   ·exact⟨_,PySem.mem_of_lookup z,.inl rfl⟩
   ·exact⟨_,PySem.mem_of_lookup z,.inr rfl⟩
  obtain⟨k,hk,e⟩:=hm
  have:=List.all_eq_true.mp has _ hk
  rw[Bool.or_eq_true]at this
  rcases this with z|z
  ·rcases e with e|e<;>(subst e;simp at z)
  ·exact mem x z
end L2
namespace L2
open PySem PySem.Spec PyProof.Rows
structure iG(K:PySem.W.Frag)(x:Str)(st:Stmt):Prop where
 ex:∃(f:Addr) (oc:Value) (od:Option Addr) (kV doc pm:Value) (an:Option Addr) (cdv ct:Value) (sl:Array (Option Value)),PySem.W.nsIn K mainGlobals x=some (some (.ref f))/\
  K.lookup f=some ⟨oc,od,.func (PySem.W.fnOf x x (aH st) (aF st) (aj st) .none kV doc pm an cdv ct),sl⟩/\PySem.W.codeIn K cdv x=true/\PySem.W.keepIn K (.ref f)=true
theorem bw{K:PySem.W.Frag}{x:Str}{st:Stmt}{f:Addr}{oc:Value}{od:Option Addr}{kV doc pm:Value}{an:Option Addr}{cdv ct:Value}{sl:Array (Option Value)}(a:PySem.W.nsIn K mainGlobals x=some (some (.ref f)))
  (l:K.lookup f=some ⟨oc,od,.func (PySem.W.fnOf x x (aH st) (aF st) (aj st) .none kV doc pm an cdv ct),sl⟩) (c:PySem.W.codeIn K cdv x=true) (k:PySem.W.keepIn K (.ref f)=true):iG K x st:=
 ⟨f,oc,od,kV,doc,pm,an,cdv,ct,sl,a,l,c,k⟩
theorem iG.fn{K:PySem.W.Frag}{h:Heap}{mg:Str->Option Value}{x:Str}{st:Stmt}{ps:List Str}(F:iG K x st)(X:K.In h)(G:h.Ns mainGlobals mg)
  (hb:∀(kV doc pm:Value) (an:Option Addr) (cdv ct:Value) (us:List Value),us.length=ps.length->bindArgs (PySem.W.fnOf x x (aH st) (aF st) (aj st) .none kV doc pm an cdv ct) ⟨us,[]⟩=pure (ps.zip us)):Fn K mg x st ps:=by
 obtain⟨f,oc,od,kV,doc,pm,an,cdv,ct,sl,a,l,c,k⟩:=F.ex
 have FF:=Fg (st:=st) l c k
 exact⟨f,_,FF,PySem.W.mg_of X G a,FF.binds hb⟩
end L2
namespace L2
open PySem PySem.Spec PyProof.Rows
structure ItS(J:It)(xs:List V)(H1:Hp):Prop where
 go:∀i H',Same H1 H'->i<xs.length->J.go i H'
 yld:∀i H' x H2,Same H1 H'->J.yld i H' x H2->H2=H'/\(i<xs.length->xs[i]?=some x)
 stop:∀i H',Same H1 H'->xs.length<=i->J.stop i H'
theorem xJ{K:PySem.W.Frag}{a:Addr}{xs:List V}{H1:Hp}(hq:SqL K H1 a xs):ItS (Itl K a) xs H1:=
 ⟨fun i H' g h=>⟨xs,xs[i],g.seq hq,by simp[h]⟩,fun i H' x H2 g y=>⟨y.1,fun _=>y.2 xs (g.seq hq)⟩,fun i H' g h=>⟨xs,g.seq hq,h⟩⟩
theorem sV{K:PySem.W.Frag}{a:Addr}{xs:List V}{H1:Hp}(hq:SqT K H1 a xs):ItS (Itt K a) xs H1:=
 ⟨fun i H' g h=>⟨xs,xs[i],g.Qe hq,by simp[h]⟩,fun i H' x H2 g y=>⟨y.1,fun _=>y.2 xs (g.Qe hq)⟩,fun i H' g h=>⟨xs,g.Qe hq,h⟩⟩
theorem jm{lo:Int}{n:Nat}{H1:Hp}:ItS (Itr lo n) ((List.range n).map fun i=>V.int (lo+(i:Nat))) H1:=
 ⟨fun i H' g h=>show i<n by simpa using h,fun i H' x H2 g y=>⟨y.1,fun h=>by
  have h':i<n:=by simpa using h
  rw[List.getElem?_map,List.getElem?_range h',y.2];rfl⟩,fun i H' g h=>show n<=i by simpa using h⟩
theorem iD{J:It}{xs:List V}{ix:List (Option Nat)}{tc:TT}{te:TE}{σ:St}{H1:Hp}{Q:VK}(I:ItS J xs H1)(hz:xs.length<=sizeLine){rest:St}(hst:cst ix σ=none::rest)(p:V->Bool)(F:V->V)
  (ht:∀H' x,Same H1 H'->x∈xs->∀k:Bool->Hp->Prop,k (p x) H'->tc (some x::rest) H' k)
  (he:∀H' x,Same H1 H'->x∈xs->p x=true->∀k:VK,k (F x) H'->te (some x::rest) H' k)
  (hQ:∀D,H1 D=none->Q (.ref D) (upd H1 D (.lst ((xs.filter p).map F)))):
  m9 ix (kE 0) tc te σ Q J H1:=by
 constructor
 intro D hD
 refine⟨fun i m σ' H'=>m=xs.length-i/\i<=xs.length/\(∃o,σ'=o::rest)/\H'=upd H1 D (.lst (((xs.take i).filter p).map F)),⟨xs.length,by simp,Nat.zero_le _,⟨none,hst⟩,by simp⟩,?_⟩
 rintro i m σ' H' ⟨rfl,hi,⟨o,rfl⟩,rfl⟩
 have g:Same H1 (upd H1 D (.lst (((xs.take i).filter p).map F))):=Same.new hD _
 by_cases hlt:i<xs.length
 ·refine .inr ⟨I.go i _ g hlt,fun x H2 y=>?_⟩
  obtain⟨rfl,hx⟩:=I.yld i _ x H2 g y
  have hx:=hx hlt
  have hm:x∈xs:=List.mem_of_getElem? hx
  have et:xs.take (i+1)=xs.take i++[x]:=by
   rw[List.take_add_one,hx];rfl
  show tc (some x::rest) _ _
  refine ht _ x g hm _ ?_
  cases hp:p x with
  |true=>
   rw[if_pos rfl]
   refine he _ x g hm hp _ ⟨_,aA,?_,xs.length-(i+1),by omega,rfl,hlt,⟨_,rfl⟩,?_⟩
   ·have h1:(((xs.take i).filter p).map F).length<=i:=by
     rw[List.length_map]
     exact Nat.le_trans (List.length_filter_le _ _) (by rw[List.length_take];omega)
    omega
   ·rw[Ie,et,List.filter_append,List.map_append]
    simp[hp]
  |false=>
   rw[if_neg Bool.false_ne_true]
   refine⟨xs.length-(i+1),by omega,rfl,hlt,⟨_,rfl⟩,?_⟩
   rw[et,List.filter_append]
   simp[hp]
 ·have e:i=xs.length:=by omega
  subst e
  refine .inl ⟨I.stop _ _ g (Nat.le_refl _),?_⟩
  rw[List.take_length]
  exact hQ D hD
theorem Bj{J:It}{xs:List V}{g:TG}{tb:TS}{D:Ends}{σ:St}{H:Hp}(I:ItS J xs H)(Pv:Nat->St->Hp->Prop)(h0:Pv 0 σ H)(hsame:∀i σ' H',Pv i σ' H'->Same H H')
  (hs:∀i x σ' H',xs[i]?=some x->Pv i σ' H'->g x σ' H' fun σ2 H2=>tb { D with nx:=Pv (i+1),ct:=Pv (i+1),bk:=D.nx } σ2 H2) (hd:∀σ' H',Pv xs.length σ' H'->D.nx σ' H'):
  ∃W:Nat->Nat->St->Hp->Prop,(∃m,W 0 m σ H)/\∀i m σ H,W i m σ H->
   (J.stop i H/\D.nx σ H)∨(J.go i H/\∃N:St->Hp->Prop,(∀σ' H',N σ' H'->∃m',m'<m/\W (i+1) m' σ' H')/\∀x H',J.yld i H x H'->g x σ H' fun σ2 H2=>tb { D with nx:=N,ct:=N,bk:=D.nx } σ2 H2):=by
 refine⟨fun i m σ' H'=>m=xs.length-i/\i<=xs.length/\Pv i σ' H',⟨xs.length,by simp,Nat.zero_le _,h0⟩,?_⟩
 rintro i m σ' H' ⟨rfl,hi,p⟩
 have gs:=hsame i σ' H' p
 by_cases hlt:i<xs.length
 ·refine .inr ⟨I.go i _ gs hlt,Pv (i+1),fun σ2 H2 p'=>⟨xs.length-(i+1),by omega,rfl,hlt,p'⟩,fun x H2 y=>?_⟩
  obtain⟨rfl,hx⟩:=I.yld i _ x H2 gs y
  exact hs i x σ' _ (hx hlt) p
 ·have e:i=xs.length:=by omega
  subst e
  exact .inl ⟨I.stop _ _ gs (Nat.le_refl _),hd σ' H' p⟩
end L2
namespace L2
open PySem PySem.Spec PyProof.Rows
structure Bar(t:TE)(σ:St)(H:Hp)(Q:VK):Prop where
 go:t σ H Q
noncomputable def VP(t:TE):TE:=fun σ H Q=>Bar t σ H Q
theorem Bar.by{t:TE}{σ:St}{H:Hp}{Q:VK}(R:V->Hp->Prop)(h:∀k:VK,(∀v H1,R v H1->k v H1)->t σ H k)(q:∀v H1,R v H1->Q v H1):Bar t σ H Q:=⟨h Q q⟩
theorem Jm{X:Cx}{e:Expr}{t:TE}(h:PE X e t):PE X e (VP t):=fun pins s σ H Q I q=>h pins s σ H Q I q.go
structure EW(t:TS)(D:Ends)(σ:St)(H:Hp):Prop where
 go:t D σ H
noncomputable def M5(t:TS):TS:=fun D σ H=>EW t D σ H
theorem qP{X:Cx}{st:Stmt}{t:TS}(h:PS X st t):PS X st (M5 t):=fun pins s σ H D I q=>h pins s σ H D I q.go
theorem EW.by{t:TS}{D:Ends}{σ:St}{H:Hp}(R:St->Hp->Prop)(h:∀N:St->Hp->Prop,(∀σ' H',R σ' H'->N σ' H')->t { D with nx:=N } σ H)(q:∀σ' H',R σ' H'->D.nx σ' H'):EW t D σ H:=by
 constructor
 exact h D.nx q
end L2
namespace HT
open PySem PyProof.Rows
section
variable {prog:Program} {w:World} {A:Around} {E:Value->Shared->Prop} {s:Shared}
theorem lV{t sl:Addr}{items:Array Value}{vl vu:Value}{lo hi:Option Int}{Q:Value->Shared->Prop}(ht:IsTup s.heap t items)(hs:s.heap.IsSliceOf sl vl vu .none)(pl:IsPart vl lo)(pu:IsPart vu hi)
  (hw:sIx items.size 0 lo=0/\sIx items.size items.size hi=items.size) (h:Q (.ref t) s):wpAny (model prog w) A (getItem (.ref t) (.ref sl)) Q E s:=by
 obtain⟨os,hos,hcs,hds⟩:=id hs
 have hTs:s.TypeIs (.ref sl) "slice" := ⟨os,hos,hcs⟩
 unfold getItem
 try with_reducible refine wpAny_holding ?_
 first|refine wpAny_bind (wpAny_pure ?_)|skip
 refine wpAny_bind (wpAny_sequenceKey ht.typeIs (by decide) ?_)
 refine wpAny_bind (wpAny_callSpecial?_slot (name:=Str.ofString "__getitem__") ht.typeIs PyProof.Rows.slot_tuple_getitem
  (wpAny_call_entry PyProof.Rows.slot_tuple_getitem ht.typeIs entry_tuple_getitem ?_ (args_tuple_getitem _ _)))
 show wpAny _ _ (Builtin.Tuple.tupleItemsOf (.ref t)>>=_) _ _ s
 refine wpAny_bind (tupleItemsOf_ ht ?_)
 refine wpAny_bind (wpAny_typeOf hTs ?_)
 rw[if_pos (by decide)]
 refine wpAny_bind (ji hs pl pu ?_)
 have hyes:(((sIx items.size 0 lo:Nat):Int)==0&&(1:Int)==1&&(sIx items.size items.size hi-sIx items.size 0 lo)==items.size)=true:=by
  rw[hw.1,hw.2];simp
 show wpAny _ _ (if(((sIx items.size 0 lo:Nat):Int)==0&&(1:Int)==1&&(sIx items.size items.size hi-sIx items.size 0 lo)==items.size)=true then _ else _) _ _ s
 rw[if_pos hyes]
 unfold Builtin.Tuple.tupleIsExact
 refine wpAny_bind (wpAny_bind (wpAny_typeOf ht.typeIs (wpAny_pure ?_)))
 rw[if_pos (by decide)]
 exact wpAny_bind (wpAny_rule (wpAny_pure ⟨_,rfl,wpAny_pure h⟩))
end
end HT
namespace L2
open PySem PySem.Spec PyProof.Rows
section
variable {X:Cx}
theorem Am:SlR X (fun x lo hi H Q=>∃a xs,x = .ref a/\SqT X.K H a xs/\(HT.sIx xs.length 0 lo=0/\HT.sIx xs.length xs.length hi=xs.length)/\Q (.ref a) H):=by
 intro pins s σ H x v vl vu lo hi sl Q I rx hs pl pu h
 obtain⟨a,xs,rfl,hx,hw,q⟩:=h
 cases rx
 obtain⟨its,r,ht,hz⟩:=I.tuple hx
 have hlen:its.toArray.size=xs.length:=by rw[List.size_toArray];exact r.length.symm
 refine⟨"tuple",_,PyProof.Rows.slot_tuple_getitem.lookup,ht.typeIs,?_⟩
 exact HT.lV ht hs pl pu (by rw[hlen];exact hw) ⟨.ref a,H,I,rfl,q⟩
end
end L2
namespace L2
open PySem PySem.Spec PyProof.Rows
section
variable {X:Cx} (K:PySem.W.Frag)
theorem SlR.imp{r r':V->Option Int->Option Int->Hp->VK->Prop}(h:SlR X r)(i:∀x lo hi H Q,r' x lo hi H Q->r x lo hi H Q):SlR X r':=fun pins s σ H x v vl vu lo hi sl Q I rx hs pl pu q=>h pins s σ H x v vl vu lo hi sl Q I rx hs pl pu (i _ _ _ _ _ q)
theorem gO(hK:X.K=K:=by rfl):OpR X (binaryOp .Add) (Gm K):=by subst hK;exact v_add
theorem xix(hK:X.K=K:=by rfl):IxR X (K5 K):=by subst hK;exact Wo
theorem xeq{k:Nat}(hr:iw k X.A)(hK:X.K=K:=by rfl):OpR X (compareOp .Eq) (zx K id):=by subst hK;exact v_eq hr
theorem xne{k:Nat}(hr:iw k X.A)(hK:X.K=K:=by rfl):OpR X (compareOp .NotEq) (zx K not):=by subst hK;exact Wt hr
theorem jj(hK:X.K=K:=by rfl):j5 X (.builtin "len") (fun xs H Q=>∃x n,xs=[x]/\Vc K x H n/\Q (.int n) H):=by subst hK;exact DX
theorem Vv(hc:X.calm=true)(hK:X.K=K:=by rfl):j5 X (.builtin "sum") (fun xs H Q=>∃(l:Addr) (ns:List Int),xs=[.ref l]/\SqL K H l (ns.map V.int)/\Q (.int ns.sum) H):=by subst hK;exact v_sum hc
theorem xlist(hK:X.K=K:=by rfl):j5 X (.type "list") (fun xs H Q=>∃p ys,xs=[.ref p]/\(SqL K H p ys∨SqT K H p ys)/\∀l,H l=none->Q (.ref l) (upd H l (.lst ys))):=by subst hK;exact tK
theorem gK(hK:X.K=K:=by rfl):j5 X (.type "tuple") (fun xs H Q=>∃p ys,xs=[.ref p]/\((SqL K H p ys/\∀l,H l=none->Q (.ref l) (upd H l (.tup ys)))∨(SqT K H p ys/\Q (.ref p) H))):=by subst hK;exact rB
noncomputable def Vx(K:PySem.W.Frag):V->Option Int->Option Int->Hp->VK->Prop:=fun x lo hi H Q=>match x with
 |.ref a=>(∃xs,SqL K H a xs/\∀p,H p=none->Q (.ref p) (upd H p (.lst (uQ xs lo hi))))∨
   (∃xs,SqT K H a xs/\¬(HT.sIx xs.length 0 lo=0/\HT.sIx xs.length xs.length hi=xs.length)/\∀p,H p=none->Q (.ref p) (upd H p (.tup (uQ xs lo hi))))∨
   (∃xs,SqT K H a xs/\(HT.sIx xs.length 0 lo=0/\HT.sIx xs.length xs.length hi=xs.length)/\Q (.ref a) H)
 |_=>False
theorem xsl(hK:X.K=K:=by rfl):SlR X (Vx K):=by
 subst hK
 refine(Gi.or (JY.or Am)).imp fun x lo hi H Q h=>?_
 unfold Vx at h
 split at h
 ·rcases h with⟨xs,h⟩|⟨xs,h⟩|⟨xs,h⟩
  ·exact .inl ⟨_,xs,rfl,h⟩
  ·exact .inr (.inl ⟨_,xs,rfl,h⟩)
  ·exact .inr (.inr ⟨_,xs,rfl,h⟩)
 ·exact h.elim
theorem Fw{tg l:Expr}{tl:TE}(hl:PE X l tl)(hK:X.K=K:=by rfl):PI X tg l (U0 K tl):=by subst hK;exact Jh hl
theorem Hi{es:List Expr}{k:Nat}{t:TGs}{n:Nat}{pos:Pos}(hc:X.calm=true)(h:PGs X es t)(hK:X.K=K:=by rfl)
  (hn:(assignEach es X.env).length=n:=by rfl) (hst:(assignEach es X.env).findIdx? (·.1)=none:=by rfl):PG X (.Tuple es k pos) (VB K n t):=by subst hK;exact JT hc h hn hst
theorem C6{o e:Expr}{to:TE}{te:TE}{apos cpos:Pos}(ho:PE X o to)(he:PE X e te)(hK:X.K=K:=by rfl)
  (hbase:attributeBase o "append" X.env (eval o X.env)=eval o X.env:=by rfl)
  (hfew:((backTo cpos (starEach [e] X.env)).all (fun x=>!x.1)&&(backToKw cpos (keywordEach [] X.env)).all (fun x=>x.1.isSome)
   && decide ([e].length+([]:List Keyword).length+(if([]:List Keyword).isEmpty then 0 else 1)<30))=true:=by rfl)
  (hline:(apos.endLine==cpos.line)=true:=by rfl) (hs:starEach [e] X.env=(false,eval e X.env)::starEach [] X.env:=by rfl):
  PE X (.Call (.Attribute o "append" apos) [e] [] cpos) (tBM K "list" zL to (vN te VF)):=by
 subst hK
 exact R8 PySem.F.plainAttrs_list PySem.F.slot_list_append PySem.F.type_list_append pB ho (aK he ak hs) hbase hfew hline hs rfl
end
section
variable {X:Cx} {es:List Expr} {te:TE} {t:TA}
theorem fB{c:Const}{j}{p:Pos}(h:PE X (.Constant c j p) te)(hr:PA X es t):PA X ((.Constant c j p)::es) (vN te t):=aK h hr rfl
theorem aX{x:Str}{p:Pos}(h:PE X (.Name x p) te)(hr:PA X es t):PA X ((.Name x p)::es) (vN te t):=aK h hr rfl
theorem Uj{as:List Expr}{j}{p:Pos}(h:PE X (.Tuple as j p) te)(hr:PA X es t):PA X ((.Tuple as j p)::es) (vN te t):=aK h hr rfl
theorem kI{a:Expr}{o:Operator}{b:Expr}{p:Pos}(h:PE X (.BinOp a o b p) te)(hr:PA X es t):PA X ((.BinOp a o b p)::es) (vN te t):=aK h hr rfl
theorem K2{o:UnaryOp}{a:Expr}{p:Pos}(h:PE X (.UnaryOp o a p) te)(hr:PA X es t):PA X ((.UnaryOp o a p)::es) (vN te t):=aK h hr rfl
end
end L2
namespace L2
open PySem PySem.Spec PyProof.Rows
noncomputable def FT(a C:Addr):HO:= .ext fun h=>∃o vs,h.get? a=some o/\o.cls = .ref C/\o.data = .fields vs
theorem GY{P:Program}{w:World}{H:Hp}{h:Heap}{a C:Addr}{o:Obj}{vs:Array Value}(e:h.get? a=some o)(hc:o.cls = .ref C)(hd:o.data = .fields vs):fX P w H h a (FT a C):=
 ⟨⟨o,vs,e,hc,hd⟩,⟨o,e⟩,fun _ _ ⟨o,vs,e,r⟩ k=>⟨o,vs,k o e,r⟩⟩
theorem fX.there{P:Program}{w:World}{H:Hp}{h:Heap}{a:Addr}{o:HO}(x:fX P w H h a o):∃u,h.get? a=some u:=by
 cases o with
 |lst xs=>obtain⟨_,_,_,_,e⟩:=x;exact⟨_,e⟩
 |tup xs=>obtain⟨_,_,_,o,e,_⟩:=x;exact⟨_,e⟩
 |dK kvs=>obtain⟨_,_,_,_,o,_,_,e,_⟩:=x;exact⟨_,e⟩
 |dT kvs=>obtain⟨_,_,_,_,o,_,_,e,_⟩:=x;exact⟨_,e⟩
 |set S n=>obtain⟨o,_,_,_,e,_⟩:=x;exact⟨_,e⟩
 |ins C dx fs=>obtain⟨_,_,_,e,_⟩:=x;exact⟨_,e⟩
 |own y=>exact x
 |xd fs=>obtain⟨_,⟨_,_,_,e,_⟩,_⟩:=x;exact⟨_,e⟩
 |rng lo hi=>obtain⟨_,_,_,e⟩:=x;exact⟨_,e⟩
 |frz ob u=>obtain⟨e,_⟩:=x;exact⟨_,e⟩
 |tbl ps=>exact⟨_,(show h.get? a=some _ from x)⟩
 |met f y=>exact⟨_,(show h.get? a=some _ from x)⟩
 |ext φ=>exact x.2.1
structure ExS(base:Heap)(C R:Addr):Prop where
 cls:∃nm q N bs bm hdct sn sub ab col dd k0 k1 k2 k3 k5 newId,base.get? C=some (excClassObj nm q C N bs bm hdct sn sub ab col dd k0 k1 k2 k3 k5 newId)/\(Value.ref C::bm).contains (.ref R)=true
 top:∃nm q N bs bm hdct sn sub ab col dd k0 k1 k2 k3 k5 newId,base.get? R=some (excClassObj nm q R N bs bm hdct sn sub ab col dd k0 k1 k2 k3 k5 newId)/\bm.contains (.type "BaseException")=true
theorem pU{M:Model}{A:Around}{E:Value->Shared->Prop}{h:Heap}{g:Array GenState}{d:Drawn}{t:Nat}{os:OsState}{e C R:Addr}{oe:Obj}{Q:Bool->Shared->Prop}{base:Heap}(S:ExS base C R)(kb:∀b o,base.get? b=some o->h.get? b=some o)
  (he:h.get? e=some oe) (hcls:oe.cls = .ref C) (hq:Q true ⟨h,g,d,t,os⟩):wpAny M A (excMatches (.ref e) (.ref R)) Q E ⟨h,g,d,t,os⟩:=by
 obtain⟨nm,q,N,bs,bm,hdct,sn,sub,ab,col,dd,k0,k1,k2,k3,k5,newId,hC,hs⟩:=S.cls
 obtain⟨nm',q',N',bs',bm',hdct',sn',sub',ab',col',dd',k0',k1',k2',k3',k5',newId',hR,hB⟩:=S.top
 have hC:=kb _ _ hC
 have hR:=kb _ _ hR
 have hcB:(Value.ref R::bm').contains (.type "BaseException")=true:=by rw[List.contains_cons,hB,Bool.or_true]
 have f:=tc_notTuple
 unfold excMatches
 repeat (first|(with_reducible refine wpAny_loadPart_at he ?_;rw[hcls])|with_reducible refine wpAny_loadPart_at hR ?_|(with_reducible refine wpAny_isSubtype_exc hR ?_;rw[hcB])|(with_reducible refine wpAny_isSubtype_exc hC ?_;rw[hs])|wp_step)
 exact hq
section
variable {X:Cx} {pins:List (Addr×Obj)} {σ:St} {H:Hp} {s:Shared}
theorem Inv.track{a:Addr}{o:HO}(I:Inv X pins σ H s)(hn:H a=none)(h0:∀u,X.s₀.heap.get? a≠some u)(hL:a≠X.env.locals)(hc:∀x c,X.env.cells.lookup x=some c->c≠a)(hp:∀p∈X.pn++pins,p.1≠a)
  (new:fX X.prog X.w (upd H a o) s.heap a o):Inv X pins σ (upd H a o) s:=by
 have ne:∀b u,H b=some u->b≠a:=fun b u e=>dB e hn
 refine⟨I.ok,I.os,I.bare,⟨I.base.keep,I.base.slot,fun b u e n hx=>?_,I.base.there,fun b xs e=>?_,fun b u xs e=>?_,fun b ps e=>?_⟩,I.loc,I.cell,?_,fun x c e=>?_,fun p q=>?_,fun b u e=>?_,I.len⟩
 ·rw[bU (fun z=>h0 u (by rw[<-z];exact e))];exact I.base.free b u e n hx
 ·have:=I.base.tups b xs e
  rw[bU (ne b _ this)];exact this
 ·have:=I.base.frzs b u xs e
  rw[bU (ne b _ this)];exact this
 ·obtain⟨m,this⟩:=I.base.tbls b ps e
  exact⟨m,by rw[bU (ne b _ this)];exact this⟩
 ·rw[bU (Ne.symm hL)];exact I.free
 ·rw[bU (hc x c e)];exact I.freeC x c e
 ·obtain⟨e1,e2,e3⟩:=I.pin p q
  exact⟨e1,by rw[bU (hp p q)];exact e2,e3⟩
 ·by_cases hb:b=a
  ·subst hb
   rw[aA]at e;cases e
   exact new
  ·rw[bU hb]at e
   exact(I.hok b u e).stay (fun _ _ _ q=>q) (fun c q=>by rw[bU (ne c _ q)];exact q) fun c xs q=>by rw[bU (ne c _ q)];exact q
theorem Inv.unset{h':Heap}{t':Nat}{j:Nat}{n:Str}{v:Option Value}{m:Str->Option Value}(I:Inv X pins σ H s)(hN:X.N.Nodup)(hj:X.N[j]?=some n)(hm:s.heap.Ns X.env.locals m)
  (hn:h'.Ns X.env.locals fun y=>if y=n then v else m y) (hs:Heap.SameBut X.env.locals s.heap h'):Inv X pins (σ.set j none) H { s with heap:=h',toks:=t' }:=by
 obtain⟨m2,hn2,hl⟩:=id I.loc
 obtain⟨oL,_,_,hoL,_⟩:=id hm
 have em:m2=m:=by
  obtain⟨o1,es1,ep1,ho1,hd1,hk1,hf1⟩:=hn2
  obtain⟨o2,es2,ep2,ho2,hd2,hk2,hf2⟩:=hm
  rw[ho1]at ho2;cases ho2
  rw[hd1]at hd2;cases hd2
  funext y;rw[<-hf1 y,<-hf2 y]
 subst em
 refine⟨I.ok,I.os,I.bare,⟨fun b o e nn hb hx=>?_,fun b o e nn hb hx=>?_,I.base.free,fun b o e hx=>?_,I.base.tups,I.base.frzs,I.base.tbls⟩,⟨_,hn,fun i y u e1 e2 e3=>?_⟩,fun y c e=>?_,I.free,I.freeC,fun p hp=>?_,fun b u e=>?_,by simpa using I.len⟩
 ·exact(hs.2 b (Nat.ne_of_lt (Nat.lt_of_lt_of_le (Heap.lt_size e) I.ok.above))).trans (I.base.keep b o e nn hb hx)
 ·obtain⟨sl,e1⟩:=I.base.slot b o e nn hb hx
  exact⟨sl,(hs.2 b (Nat.ne_of_lt (Nat.lt_of_lt_of_le (Heap.lt_size e) I.ok.above))).trans e1⟩
 ·obtain⟨o',e1⟩:=I.base.there b o e hx
  exact⟨o',(hs.2 b (Nat.ne_of_lt (Nat.lt_of_lt_of_le (Heap.lt_size e) I.ok.above))).trans e1⟩
 ·by_cases hji:i=j
  ·subst hji
   by_cases hlt:i < σ.length
   ·rw[List.getElem?_set_self hlt]at e2;cases e2
   ·rw[List.getElem?_eq_none (by simp;omega)]at e2;cases e2
  ·rw[List.getElem?_set_ne (Ne.symm hji)]at e2
   obtain⟨u',r',q⟩:=hl i y u e1 e2 e3
   refine⟨u',r',?_⟩
   rcases q with⟨k,e⟩|⟨k,c,e,z⟩
   ·refine .inl ⟨k,?_⟩
    have:y≠n:=fun z=>hji (qY hN e1 (z▸hj))
    simp[this,e]
   ·exact .inr ⟨k,c,e,z.sameBut hs (I.cne y c e)⟩
 ·obtain⟨w',z⟩:=I.cell y c e
  exact⟨w',z.sameBut hs (I.cne y c e)⟩
 ·obtain⟨e,nn,ne,nf,d⟩:=I.pin p hp
  exact⟨(hs.2 p.1 ne).trans e,nn,ne,nf,d⟩
 ·refine(I.hok b u e).stay (fun c w' hc q=>(hs.2 c ?_).trans q) (fun _ q=>q) fun _ _ q=>q
  rintro rfl
  rcases hc with z|hc
  ·rw[<-z,I.free]at e;cases e
  ·rw[I.free]at hc;cases hc
end
noncomputable def cxS(X:Cx)(a:Addr):Cx:={ X with A:=X.A.mark (some (.ref a)),calm:=false,xe:=fun _ _=>False }
theorem Inv.suite{X:Cx}{pins:List (Addr×Obj)}{σ:St}{H:Hp}{s:Shared}(I:Inv X pins σ H s)(a:Addr):Inv (cxS X a) pins σ H s:=
 ⟨⟨I.ok.mod,I.ok.kind,I.ok.glob,I.ok.blt,I.ok.above,I.ok.inj,I.ok.has,I.ok.cab,(fun z=>by cases z),I.ok.frames,I.ok.stk,I.ok.exf,I.ok.bs,I.ok.bsz,I.ok.noex,I.ok.exfs,I.ok.yF,I.ok.frf⟩,
  I.os,I.bare,I.base,I.loc,I.cell,I.free,I.freeC,I.pin,I.hok,I.len⟩
theorem Inv.Ih{X:Cx}{pins:List (Addr×Obj)}{σ:St}{H:Hp}{s:Shared}{a:Addr}(ok:X.Ok)(I:Inv (cxS X a) pins σ H s):Inv X pins σ H s:=
 ⟨ok,I.os,I.bare,I.base,I.loc,I.cell,I.free,I.freeC,I.pin,I.hok,I.len⟩
end L2
namespace L2
open PySem PySem.Spec PyProof.Rows
structure ExI(K:PySem.W.Frag)(C:Addr):Prop where
 ga:PySem.W.findIn K (.ref C) "__getattribute__" = some (some (.builtin "BaseException.__getattribute__"))
 gt:PySem.W.findIn K (.ref C) "__getattr__" = some none
 cl:PySem.W.findIn K (.ref C) "__class__" = some (some (.builtin "object.__class__"))
 mb:PySem.W.mroIn K C (.type "BaseException")=some true
 mo:PySem.W.mroIn K C (.type "object")=some true
 is:(PySem.W.clsIn K C).isSome=true
section
variable {prog:Program} {w:World} {A:Around} {E:Value->Shared->Prop} {h:Heap} {g:Array GenState} {d:Drawn} {t:Nat} {os:OsState} {a C:Addr} {o:Obj} {K:PySem.W.Frag}
theorem IZ{R:Result->Shared->Prop}(S:ExI K C)(X:K.In h)(hx:h.get? a=some o)(hc:o.cls = .ref C)(hq:R (.ok (.ret (.ref C))) ⟨h,g,d,t,os⟩):
  codeAny (model prog w) A (.call (.builtin "getset_descriptor.__get__") ⟨[.builtin "object.__class__",.ref a,.ref C],[]⟩) R ⟨h,g,d,t,os⟩:=by
 have hT5:(⟨h,g,d,t,os⟩:Shared).TypeIs (.builtin "object.__class__") "getset_descriptor" := F.typeOf_object_class
 have L1:=PySem.W.looks_mroIn (M:=model prog w) X S.mo
 rw[<-F.owner_object_class]at L1
 refine codeAny_call_builtin F.slot_gs_get.plain F.entry_gs_get (F.slot_gs_get.check _ _ _ _ _ _ _ _ hT5 (F.args_gs_get _ _ _) ?_)
 repeat (any_goals (first|assumption|(with_reducible refine wpAny_loadPart_at hx ?_;rw[hc])|with_reducible refine L1.at ?_|wp_step))
 refine⟨Code.quiet_builtin _ (by decide +kernel),codeAny_builtin F.entry_object_class ?_⟩
 repeat (any_goals (first|assumption|(with_reducible refine wpAny_loadPart_at hx ?_;rw[hc])|wp_step))
theorem Ec{tk:Tok}{Q:Fin->Shared->Prop}(S:ExI K C)(X:K.In h)(hx:h.get? a=some o)(hc:o.cls = .ref C)(hq:Q (.done (.ret (.ref C))) ⟨h,g,d,t,os⟩):
  wpAny (model prog w) A (Builtin.«object.__getattribute__» ⟨[.ref a,.str "__class__" tk],[]⟩) Q E ⟨h,g,d,t,os⟩:=by
 have hT5:(⟨h,g,d,t,os⟩:Shared).TypeIs (.builtin "object.__class__") "getset_descriptor" := F.typeOf_object_class
 have L1:=PySem.W.looks_findIn (M:=model prog w) X S.cl
 have f5:=F.typeOf_object_class
 have f6:=F.slot_gs_get.lookup
 have f7:=F.slot_gs_set.lookup
 repeat (any_goals (first|assumption|(with_reducible refine wpAny_loadPart_at hx ?_;rw[hc])|with_reducible refine L1.at ?_|wp_step))
 refine IZ S X hx hc ?_
 repeat (any_goals (first|assumption|wp_step))
theorem Ek{nameV:Value}{Q:Unit->Shared->Prop}(S:ExI K C)(X:K.In h)(hx:h.get? a=some o)(hc:o.cls = .ref C)(hq:Q () ⟨h,g,d,t,os⟩):
  wpAny (model prog w) A (checkBuiltinCall "BaseException.__getattribute__" ⟨[.ref a,nameV],[]⟩) Q E ⟨h,g,d,t,os⟩:=by
 have hk:builtinKind "BaseException.__getattribute__" = some .slot:=by decide +kernel
 have hs:splitId "BaseException.__getattribute__" = some ("BaseException","__getattribute__"):=by decide +kernel
 have L1:=PySem.W.looks_mroIn (M:=model prog w) X S.mb
 have ha:=F.args_bexc_ga (.ref a) nameV
 simp only[checkBuiltinCall,hk,hs]
 refine wpAny_bind ?_
 unfold isInstance
 repeat (first|(with_reducible refine wpAny_loadPart_at hx ?_;rw[hc])|with_reducible refine L1.at ?_|wp_step)
 exact hq
theorem Pa{tk:Tok}{Q:Value->Shared->Prop}(S:ExI K C)(X:K.In h)(hx:h.get? a=some o)(hc:o.cls = .ref C)(hq:Q (.ref C) ⟨h,g,d,t,os⟩):
  wpAny (model prog w) A (getAttrBy (.ref a) (.str "__class__" tk) false) Q E ⟨h,g,d,t,os⟩:=by
 have f3:=F.excAttr_ValueError.ga.bind (.ref a)
 have L1:=PySem.W.looks_findIn (M:=model prog w) X S.ga
 have L2:=PySem.W.looks_findIn (M:=model prog w) X S.gt
 have hx2:(Value.builtin "BaseException.__getattribute__" == Value.builtin "object.__getattribute__")=false:=by decide +kernel
 have hx1:(onTheHeap (Value.ref C)&&Value.builtin "BaseException.__getattribute__" == Value.builtin "object.__getattribute__")=false:=by rw[hx2];rfl
 repeat (any_goals (first|assumption|(with_reducible refine wpAny_loadPart_at hx ?_;rw[hc])|with_reducible refine L1.at ?_|with_reducible refine L2.at ?_|wp_step))
 refine codeAny_call_builtin F.excAttr_ValueError.ga.plain F.entry_bexc_ga (Ek S X hx hc (Ec S X hx hc ?_))
 repeat (any_goals (first|assumption|wp_step))
theorem Gr{Q:Option Value->Shared->Prop}(S:ExI K C)(X:K.In h)(hx:h.get? a=some o)(hc:o.cls = .ref C)(hq:Q (some (.ref C)) ⟨h,g,d,t+1,os⟩):
  wpAny (model prog w) A (getAttr? (.ref a) "__class__") Q E ⟨h,g,d,t,os⟩:=by
 unfold getAttr? getAttrBy?
 repeat (any_goals (first|assumption|with_reducible apply Pa S X hx hc|wp_step))
end
end L2
namespace L2
open PySem PySem.Spec PyProof.Rows
theorem rM{K:PySem.W.Frag}{a C:Addr}(S:ExI K C):PySem.W.KitX K (.ref a) (.ref C) (fun h=>∃o vs,h.get? a=some o/\o.cls = .ref C/\o.data = .fields vs) where
 ty:=fun M h _ p=>by
  obtain⟨o,_,h1,h2,_⟩:=p
  exact h2▸(PySem.W.Looks.ld h1).andThen .now
 it:=fun _ _ X _=>by
  have hi:=S.is
  unfold PySem.W.clsIn at hi
  split at hi
  ·rename_i c' d' cd' sl' ho
   intro A' Q' E' s' k q
   unfold isType loadHead
   exact wpAny_bind (wpAny_loadPart (k _ _ (X _ _ ho)) (wpAny_pure q))
  ·cases hi
 ne:=fun h tp dd its n sl X htp=>by
  have hi:=S.is
  refine Bool.eq_false_iff.mpr fun q=>?_
  have e:C=tp:=Value.ref.inj (beq_iff_eq.mp q)
  subst e
  unfold PySem.W.clsIn at hi
  split at hi
  ·rename_i c' d' cd' sl' ho
   have z:=(X _ _ ho).symm.trans htp
   cases z
  ·cases hi
 ca:=fun {prog w A E Q s} X p k=>by
  obtain⟨o,vs,h1,h2,_⟩:=p
  obtain⟨h0,g,d,t,os⟩:=s
  exact Gr S X h1 h2 k
theorem Ay:∀{Ds:List Addr} {us:List Value},Vals (Ds.map V.ref) us->us=Ds.map Value.ref
 |[],_,.nil=>rfl
 |D::Ds,_,.cons r t=>by
  have e:=Ay (Ds:=Ds) t
  cases (show _=Value.ref D from r)
  rw[e];rfl
noncomputable def Il(K:PySem.W.Frag):List V->Hp->VK->Prop:=fun xs H Q=>∃a C y b,xs=[.ref a,y]/\H a=some (FT a C)/\ExI K C/\
 ((∃D,y = .ref D/\PySem.W.kitOne K (.ref C) (.ref D)=some b)∨(∃T,y = .ty T/\PySem.W.kitOne K (.ref C) (.type T)=some b)∨(∃(p:Addr) (Ds:List Addr),y = .ref p/\H p=some (.tup (Ds.map V.ref))/\PySem.W.kitAny K (.ref C) (Ds.map Value.ref)=some b))/\Q (.bl b) H
theorem KR{X:Cx}:j5 X (.builtin "isinstance") (Il X.K):=by
 intro pins s σ H xs us Q I r h
 obtain⟨a,C,y,b,rfl,ha,S,h1,q⟩:=h
 obtain⟨u,v,rfl,ru,rv⟩:=r.two
 cases ru
 have p:∃o vs,s.heap.get? a=some o/\o.cls = .ref C/\o.data = .fields vs:=(I.hok a _ ha).1
 have fin:∀tk,EP X pins σ Q (.bool b) { s with toks:=tk }:=fun tk=>⟨.bl b,H,I.tok tk,rfl,q⟩
 rcases h1 with⟨D,rfl,e⟩|⟨T,rfl,e⟩|⟨tp,Ds,rfl,ht,e⟩
 ·cases rv
  exact PySem.W.kia_one (rM S) I.kIn p e (fun z=>nomatch z) fin
 ·cases rv
  exact PySem.W.kia_one (rM S) I.kIn p e (fun z=>nomatch z) fin
 ·cases rv
  obtain⟨its,r2,p2,_⟩:=I.tuple (SqT.of ht)
  have ei:=Ay r2
  subst ei
  obtain⟨⟨cls,dd,data,sl⟩,ho,hc,n,hd⟩:=id p2
  simp only at hc hd
  subst hc hd
  exact PySem.W.kia_tup (rM S) I.kIn p ho e (fun z=>nomatch z) fin
theorem HW{X:Cx}(K:PySem.W.Frag)(hK:X.K=K:=by rfl):j5 X (.builtin "isinstance") (Il K):=by subst hK;exact KR
theorem m7{X:Cx}{x:Str}{C:Addr}{pos:Pos}(hg:Gl X x)(hm:X.mg x=some (.ref C))(hd:(x==("__debug__" : Str))=false:=by decide):PE X (.Name x pos) (tC (.ref C)):=Ck hg hm rfl hd
theorem Kq{K:PySem.W.Frag}{h:Heap}{mg:Str->Option Value}{x:Str}{C:Addr}{newId inN Bn:String}{bmN:List Value}(X:K.In h)(G:h.Ns mainGlobals mg)(e:PySem.W.nsIn K mainGlobals x=some (some (.ref C)))
  (q:PySem.W.excIn K C [.type "ValueError",.type "Exception",.type "BaseException",.type "object"] newId=true) (Fn:ExcBaseFacts Bn newId inN bmN)
  (hBn:[Value.type "ValueError",.type "Exception",.type "BaseException",.type "object"].contains (.type Bn)=true):ExC mg h x C:=by
 refine⟨_,newId,⟨PySem.W.mg_of X G e,?_⟩,Bn,inN,bmN,_,_,_,Fn,hBn,F.excBase_ValueError⟩
 unfold PySem.W.excIn at q
 split at q
 ·rename_i dd cd sl ho
  split at q
  ·rename_i C' bm k0 k1 k2 k3 n k5 hm hs
   simp only[Bool.and_eq_true,beq_iff_eq,Bool.not_eq_true']at q
   obtain⟨⟨⟨⟨⟨rfl,rfl⟩,hdel⟩,ht⟩,hok⟩,hni⟩:=q
   obtain⟨nm,bs,mro,ns,qn,hdc,sn,sub,ab,col,del⟩:=cd
   dsimp only at hm hdel hok hni
   subst hm;subst hdel
   have hsl:sl=#[k0,k1,k2,k3,some (.builtin n),k5]:=by
    obtain⟨l⟩:=sl
    simp only at hs
    rw[hs]
   subst hsl
   exact⟨bm,ns,nm,qn,bs,hdc,sn,sub,ab,col,dd,k0,k1,k2,k3,k5,_,X _ _ ho,.of_isNs (PySem.W.isNs_of_in X hok),PySem.W.nsMap_none_of_in X hok hni,PySem.W.tail_of_in X ht⟩
  ·cases q
 ·cases q
noncomputable def Ab(K:PySem.W.Frag)(C R:Addr):Bool:=match K.lookup C with
 |some ⟨.type "type",_,.cls cd,sl⟩=>(match cd.mro,sl.toList with
  |.ref C'::bm,[_,_,_,_,some (.builtin _),_]=>C'==C&&!cd.hasDel&&(Value.ref C'::bm).contains (.ref R)
  |_,_=>false)
 |_=>false
theorem Ky{K:PySem.W.Frag}{h:Heap}{C R:Addr}(X:K.In h)(q:Ab K C R=true)(qr:PySem.W.ktsIn K R "BaseException" = true):ExS h C R:=by
 refine⟨?_,?_⟩
 ·unfold Ab at q
  split at q
  ·rename_i dd cd sl ho
   split at q
   ·rename_i C' bm k0 k1 k2 k3 n k5 hm hs
    simp only[Bool.and_eq_true,beq_iff_eq,Bool.not_eq_true']at q
    obtain⟨⟨rfl,hdel⟩,ht⟩:=q
    obtain⟨nm,bs,mro,ns,qn,hdc,sn,sub,ab,col,del⟩:=cd
    dsimp only at hm hdel
    subst hm;subst hdel
    have hsl:sl=#[k0,k1,k2,k3,some (.builtin n),k5]:=by
     obtain⟨l⟩:=sl
     simp only at hs
     rw[hs]
    subst hsl
    exact⟨nm,qn,ns,bs,bm,hdc,sn,sub,ab,col,dd,k0,k1,k2,k3,k5,n,X _ _ ho,ht⟩
   ·cases q
  ·cases q
 ·obtain⟨nm,qn,N,bs,bm,hdct,sn,sub,ab,col,dd,k0,k1,k2,k3,k5,newId,hR,hb,_⟩:=PySem.W.kts_cls X qr
  exact⟨nm,qn,N,bs,bm,hdct,sn,sub,ab,col,dd,k0,k1,k2,k3,k5,newId,hR,hb⟩
end L2
namespace L2
open PySem PySem.Spec PyProof.Rows
theorem nR:bootBuiltins "ValueError" = some (.type "ValueError"):=by decide +kernel
section
variable {X:Cx} {a:Expr} {ta:TE}
end
end L2
namespace L2
open PySem
theorem jW:∀ns:List Int,PyData.canLayAll0 (ns.map PyData.int)=true
 |[]=>rfl
 |n::r=>by
  have:=jW r
  simp[PyData.canLayAll0,PyData.canLay0,this]
theorem lY:∀ns:List Int,PyData.depthAll (ns.map PyData.int)<=1
 |[]=>by simp[PyData.depthAll]
 |n::r=>by
  have:=lY r
  simp[PyData.depthAll,PyData.depth]
  omega
theorem oG(ns:List Int):SeqAt.shaped (.list (ns.map .int))=true:=by
 have h1:=jW ns
 have h2:=lY ns
 simp only[SeqAt.shaped,PyData.canLay0,PyData.depth,h1,Bool.true_and]
 exact decide_eq_true (by omega)
theorem qx(ns:List Int):SeqAt.shaped (.tuple (ns.map .int))=true:=by
 have h1:=jW ns
 have h2:=lY ns
 simp only[SeqAt.shaped,PyData.canLay0,PyData.depth,h1,Bool.true_and]
 exact decide_eq_true (by omega)
theorem Dy(ns ms:List Int):PyData.eqv (.list (ns.map .int)) (.list (ms.map .int))=decide (ns=ms):=by
 rw[PyData.eqv];exact PySem.W.ked_eqvAll ns ms
theorem HY(ns ms:List Int):PyData.eqv (.tuple (ns.map .int)) (.tuple (ms.map .int))=decide (ns=ms):=by
 rw[PyData.eqv];exact PySem.W.ked_eqvAll ns ms
theorem JQ{K:PySem.W.Frag}{g:Bool->Bool}{H:Hp}{a b:Addr}{ns ms:List Int}{Q:VK}(ha:SqL K H a (ns.map V.int))(hb:SqL K H b (ms.map V.int))(q:Q (.bl (g (decide (ns=ms)))) H):zx K g (.ref a) (.ref b) H Q:=
 .inl ⟨_,_,.lst ha (yI.ints ns),.lst hb (yI.ints ms),oG ns,oG ms,by rw[Dy];exact q⟩
theorem UJ{K:PySem.W.Frag}{g:Bool->Bool}{H:Hp}{a b:Addr}{ns ms:List Int}{Q:VK}(ha:SqT K H a (ns.map V.int))(hb:SqT K H b (ms.map V.int))(q:Q (.bl (g (decide (ns=ms)))) H):zx K g (.ref a) (.ref b) H Q:=
 .inl ⟨_,_,.tup ha (yI.ints ns),.tup hb (yI.ints ms),qx ns,qx ms,by rw[HY];exact q⟩
end L2
set_option maxHeartbeats 4000000
namespace L2
open PySem PySem.Spec PyProof.Rows
section
variable {prog:Program} {w:World} {A:Around} {E:Value->Shared->Prop} {s:Shared}
end
section
variable {X:Cx} {pins:List (Addr×Obj)} {σ:St} {H:Hp} {s:Shared} {h':Heap}
end
end L2
namespace L2
open PySem PySem.Spec PyProof.Rows
section
variable {prog:Program} {w:World} {A:Around} {E:Value->Shared->Prop} {s:Shared}
end
section
variable {X:Cx} {pins:List (Addr×Obj)} {σ:St} {H:Hp} {s:Shared} {h':Heap}
end
end L2
namespace L2
open PySem PySem.Spec PyProof.Rows
noncomputable def Itd(lo:Int)(n:Nat):It:=⟨fun i _=>i<n,fun i H x H'=>H'=H/\x = .int (lo-i),fun i _=>n<=i⟩
theorem iK{P:Program}{w:World}{K:PySem.W.Frag}{tg:Expr}(it:Addr)(lo:Int)(n:Nat):Turn P w K tg (Itd lo n) [it] it (fun i h=>IsRangeIter h it (lo+(i:Nat)*(-1)) ((n:Int)-(i:Nat)) (-1)) where
 mem:=by simp
 obj:=fun i h st b hb=>by
  have e:b=it:=by simpa using hb
  subst e
  exact⟨_,st,fun v z=>by
   have z':Data.fields _=Data.cell v:=z
   cases z'⟩
 keep:=fun i h h' st k=>k it (by simp) _ st
 item:=by
  intro X hP hw hK hc i pins s σ H E I hf st hg
  subst hP hw hK
  obtain⟨f0,f1,f2,f3,f4,f5⟩:=hf it (by simp)
  have W:=Walks.range (prog:=X.prog) (w:=X.w) (I.ok.hd hc) it lo (-1) n
  refine W.item i s _ _ hg st fun v h' tk hv st' kk=>?_
  obtain⟨t,rfl⟩:=hv
  have I1:Inv X pins σ H { s with heap:=h',toks:=tk }:=I.turned (fun b o hb e=>kk b o (by simpa using hb) e) f0 f1 f3 f4 f5
  refine⟨_,rfl,DN (s:={ s with heap:=h',toks:=tk }) (n:= "range_iterator") st' rfl rfl (by decide) ⟨.int (lo-i),H,I1,⟨t,?_⟩,⟨rfl,rfl⟩,st',fun b hb=>(hf b hb).1⟩⟩
  rw[Int.mul_neg_one];rfl
 done:=by
  intro X hP hw hK hc i pins s σ H E I hf st hg
  subst hP hw hK
  obtain⟨f0,f1,f2,f3,f4,f5⟩:=hf it (by simp)
  exact wpAny_pyNext_range_end (I.ok.hd hc) st (by have:n<=i:=hg;omega) fun h' eb=>⟨rfl,I.turned (t':=s.toks) (fun b o hb e=>eb b o hb e) f0 f1 f3 f4 f5⟩
 self:=fun _ _ _ _ _ st h=>wpAny_pyIter_rangeiter st h
theorem rangeSize_down(a b:Int):Builtin.Range.rangeSize a b (-1)=if b<a then a-b else 0:=by
 unfold Builtin.Range.rangeSize
 simp only[show ¬(-1:Int)>0 by decide,if_false,Int.neg_neg,Int.ediv_one]
 split<;>omega
theorem small_down{a b:Int}(ha:-(2^62)<=a)(ha':a<2^62)(hb:-(2^62)<=b)(hb':b<2^62):Builtin.Range.small a b (-1)=true:=by
 unfold Builtin.Range.small
 rw[rangeSize_down]
 simp only[Builtin.Range.rangeFitsLong,Bool.and_eq_true,Bool.or_eq_true,decide_eq_true_eq,beq_iff_eq,show ¬(-1:Int)>0 by decide,if_false]
 split<;>omega
section
variable {X:Cx} {tg:Expr}
theorem HC{pins:List (Addr×Obj)}{σ:St}{H:Hp}{s:Shared}{R:It->Hp->Prop}{E:Value->Shared->Prop}{lo hi:Int}{t u v:Tok}{tk:Nat}(I:Inv X pins σ H s)(h1:-(2^62)<=lo)(h2:lo<2^62)(h3:-(2^62)<=hi)(h4:hi<2^62)
  (q:R (Itd lo (lo-hi).toNat) H):wpAny (model X.prog X.w) X.A (pyIter (.ref s.heap.objs.size)) (PIE X pins σ tg R) E { s with heap:=s.heap.push { cls:= .type "range",data:= .fields #[.int lo t,.int hi u,.int (-1) v] },toks:=tk }:=by
 refine wpAny_pyIter_range (IsRange.new ..) (small_down h1 h2 h3 h4) ?_
 have I1:Inv X pins σ H { s with heap:=s.heap.push { cls:= .type "range",data:= .fields #[.int lo t,.int hi u,.int (-1) v] },toks:=tk }:=I.kept fun b o e=>Heap.get?_push_of_some _ e
 refine⟨(s.heap.push { cls:= .type "range",data:= .fields #[.int lo t,.int hi u,.int (-1) v] }).objs.size,[(s.heap.push { cls:= .type "range",data:= .fields #[.int lo t,.int hi u,.int (-1) v] }).objs.size],_,_,H,rfl,
  I1.kept (t':=tk) fun b o e=>Heap.get?_push_of_some _ e,iK _ lo (lo-hi).toNat,?_,fun b hb=>?_,q⟩
 ·have e1:lo+((0:Nat):Int)*(-1)=lo:=by simp
  have e2:(((lo-hi).toNat:Nat):Int)-((0:Nat):Int)=Builtin.Range.rangeSize lo hi (-1):=by rw[rangeSize_down];split<;>omega
  show IsRangeIter _ _ (lo+((0:Nat):Int)*(-1)) ((((lo-hi).toNat:Nat):Int)-((0:Nat):Int)) (-1)
  rw[e1,e2]
  exact Heap.get?_push_size _ rfl
 ·have e:b=(s.heap.push { cls:= .type "range",data:= .fields #[.int lo t,.int hi u,.int (-1) v] }).objs.size:=by simpa using hb
  subst e
  exact I1.Ij (Nat.le_refl _) (I1.hok.fresh (Nat.le_refl _))
noncomputable def RN(ta:TA):TI:=fun σ H R=>ta σ H fun vs H1=>∃i j:Int,vs=[.int i,.int j,.int (-1)]/\(-(2^62)<=i/\i<2^62/\-(2^62)<=j/\j<2^62)/\R (Itd i (i-j).toNat) H1
theorem zO{a b c:Expr}{ta:TA}{p pos:Pos}(hg:Gl X "range")(hm:X.mg "range" = none)(ha:PA X [a,b,c] ta)(hs:starEach [a,b,c] X.env=(false,eval a X.env)::starEach [b,c] X.env:=by rfl)(hs2:(backTo pos (starEach [b,c] X.env)).any (·.1)=false:=by rfl):
  PI X tg (.Call (.Name "range" p) [a,b,c] [] pos) (RN ta):=by
 intro pins s σ H R I h
 refine Call_ (qK I hg hm boot_range (PyProof.Rows.callWith_type1 (thn (ha pos pins s σ H _ I h) fun us s1 ⟨vs,H1,I1,r1,q1⟩=>?_) hs hs2))
 obtain⟨i,j,e,⟨q1,q2,q3,q4⟩,q⟩:=q1
 subst e
 cases r1 with
 |cons r rr=>
  cases rr with
  |cons r' rr=>
   cases rr with
   |cons r'' rr=>
    cases rr
    obtain⟨t,rfl⟩:=r
    obtain⟨t',rfl⟩:=r'
    obtain⟨t'',rfl⟩:=r''
    exact call_range_3 (by decide) (HC (tk:=s1.toks) I1 q1 q2 q3 q4 q) (.inl (PyProof.noPylong_small (by omega)))
end
theorem DC{lo:Int}{n:Nat}{g:TG}{tb:TS}{D:Ends}{σ:St}{H:Hp}(Pv:Nat->St->Hp->Prop)(h0:Pv 0 σ H)
  (hs:∀i σ H,i<n->Pv i σ H->g (.int (lo-i)) σ H fun σ2 H2=>tb { D with nx:=Pv (i+1),ct:=Pv (i+1),bk:=D.nx } σ2 H2) (hd:∀σ H,Pv n σ H->D.nx σ H):
  ∃W:Nat->Nat->St->Hp->Prop,(∃m,W 0 m σ H)/\∀i m σ H,W i m σ H->
   ((Itd lo n).stop i H/\D.nx σ H)∨((Itd lo n).go i H/\∃N:St->Hp->Prop,(∀σ' H',N σ' H'->∃m',m'<m/\W (i+1) m' σ' H')/\∀x H',(Itd lo n).yld i H x H'->g x σ H' fun σ2 H2=>tb { D with nx:=N,ct:=N,bk:=D.nx } σ2 H2):=by
 refine⟨fun i m σ H=>m=n-i/\i<=n/\Pv i σ H,⟨n,by simp,Nat.zero_le _,h0⟩,?_⟩
 rintro i m σ H ⟨rfl,hi,p⟩
 by_cases hlt:i<n
 ·refine .inr ⟨hlt,Pv (i+1),fun σ' H' p'=>⟨n-(i+1),by omega,rfl,hlt,p'⟩,fun x H' y=>?_⟩
  obtain⟨e,y⟩:=y
  subst e y
  exact hs i σ _ hlt p
 ·have e:i=n:=by omega
  subst e
  exact .inl ⟨Nat.le_refl _,hd σ H p⟩
end L2
namespace L2
open PySem PySem.Spec PyProof.Rows
section
variable {X:Cx}
end
end L2
namespace L2
open PySem PySem.Spec PyProof.Rows
theorem Dq{X:Cx}:OpR X (binaryOp .FloorDiv) (rI (fun _ j=>j≠0/\j.natAbs.log2<9000) fun i j=> .int (i.fdiv j)):=opI fun _ _ _ _ _ _ _ hc q=>floordiv_int hc.1 q (.inl (PyProof.noPylong_of_log2 hc.2))
section
variable {X:Cx}
end
end L2
namespace L2
open PySem PySem.Spec PyProof.Rows
theorem cU:∀(names:List (Str×NameKind)) (n:Nat) (acc:List (Str×Addr)),cellsFrom n names acc=cellsFrom n names []++acc
 |[],_,_=>rfl
 |(x,k)::r,n,acc=>by
  unfold cellsFrom
  split
  ·rw[cU r (n+1) ((x,n)::acc),cU r (n+1) [(x,n)],List.append_assoc];rfl
  ·exact cU r n acc
theorem cellsFrom_names:∀(names:List (Str×NameKind)) (n:Nat) {x:Str} {c:Addr},(x,c)∈cellsFrom n names []->(x,NameKind.cell)∈names
 |[],_,_,_,h=>by cases h
 |(y,k)::r,n,x,c,h=>by
  unfold cellsFrom at h
  split at h
  ·rename_i hk
   rw[cU]at h
   rcases List.mem_append.mp h with h|h
   ·exact List.mem_cons_of_mem _ (cellsFrom_names r (n+1) h)
   ·have e:=List.mem_singleton.mp h
    cases e
    have:k = .cell:=eq_of_beq hk
    rw[this];exact List.mem_cons_self
  ·exact List.mem_cons_of_mem _ (cellsFrom_names r n h)
theorem gP{x:Str}{c:Addr}:∀{l:List (Str×Addr)},(x,c)∈l->∃d,l.lookup x=some d
 |(y,d)::l,h=>by
  by_cases e:x=y
  ·subst e;exact⟨d,by simp[List.lookup]⟩
  ·rcases List.mem_cons.mp h with h|h
   ·cases h;exact absurd rfl e
   ·obtain⟨d',hd⟩:=gP h
    exact⟨d',by rw[List.lookup_cons,show(x==y)=false by simpa using e];exact hd⟩
theorem iU:∀(names:List (Str×NameKind)) (n:Nat) {x:Str},(x,NameKind.cell)∈names->∃c,(x,c)∈cellsFrom n names []
 |(y,k)::r,n,x,h=>by
  unfold cellsFrom
  rcases List.mem_cons.mp h with h|h
  ·cases h
   rw[if_pos (by decide),cU]
   exact⟨n,List.mem_append_right _ (List.mem_singleton.mpr rfl)⟩
  ·split
   ·obtain⟨c,hc⟩:=iU r (n+1) h
    rw[cU]
    exact⟨c,List.mem_append_left _ hc⟩
   ·exact iU r n h
theorem sG(names:List (Str×NameKind))(n:Nat){x:Str}(h:(x,NameKind.cell)∈names):∃c,(cellsFrom n names []).lookup x=some c:=by
 obtain⟨c,hc⟩:=iU names n h
 exact gP hc
theorem Gd{l:List (Str×Addr)}(h:l.Pairwise fun x y=>x.2≠y.2){a b:Str×Addr}(ha:a∈l)(hb:b∈l)(hab:a≠b):a.2≠b.2:=by
 induction h with
 |nil=>cases ha
 |cons h1 _ ih=>
  rcases List.mem_cons.mp ha with e1|e1<;>rcases List.mem_cons.mp hb with e2|e2
  ·exact absurd (e1.trans e2.symm) hab
  ·rw[e1];exact h1 b e2
  ·rw[e2];exact fun z=>h1 a e1 z.symm
  ·exact ih e1 e2
theorem Gg{M:Model}{A:Around}{E:Value->Shared->Prop}{s:Shared}{scope:Scope}{globals:Addr}{cl:List (Str×Addr)}{qual:Str}{env:Env}{Q:Env->Shared->Prop}
  (h:Q (newEnv scope s.heap.objs.size globals (cellsFrom (s.heap.objs.size+1) scope.names []++cl) qual none .none (some env) builtinsNs) { s with heap:=pushCells (s.heap.push { cls:= .type "dict",data:= .dict #[] }) scope.names }):
  wpAny M A (newFunctionEnv scope globals cl [] qual none .none (some env)) Q E s:=by
 simp only[newFunctionEnv,Option.isSome_some,if_true]
 refine wpAny_bind (wpAny_alloc ?_)
 refine wpAny_bind (wpAny_layCells _ (fun name kind cells=>by cases hkc:kind==NameKind.cell<;>simp[hkc]) _ _ _ _ ?_)
 rw[show({ s with heap:=s.heap.push { cls:= .type "dict",data:= .dict #[] } }:Shared).heap.objs.size=s.heap.objs.size+1 from Heap.size_push ..,cU]
 refine wpAny_bind ?_
 rw[List.forIn_nil]
 exact wpAny_pure (wpAny_pure h)
noncomputable def xT(X:Cx)(sc:Scope)(N:List Str)(ow:List Str)(cl:List (Str×Addr))(C:Addr)(s₀:Shared)(H₀:Hp)(ex:List Addr):Cx:={ cCx X sc N cl C s₀ H₀ ex with fn:=fun x=>ow.contains x }
structure wg(X:Cx)(scope sc:Scope)(N:List Str)(ix:List (Option Nat))(ow:List Str):Prop where
 rel:relabel scope X.env=sc
 kind:scope.kind = .function
 own:∀x,(x,NameKind.cell)∈scope.names↔ow.contains x=true
 apart:∀x,(x,NameKind.free)∈scope.names->ow.contains x=false
 names:∀x∈scope.names,x.2 = .local->scope.names.lookup x.1=some .local
 free:∀y∈scope.names,y.2 = .free->X.env.kindOf y.1=some .cell∨X.env.kindOf y.1=some .free
 len:N.length=ix.length
 ix:∀(j:Nat) (x:Str) (i:Nat),N[j]?=some x->ix[j]?=some (some i)->X.N[i]?=some x/\(x,NameKind.free)∈scope.names/\(sc.names.lookup x=some .cell∨sc.names.lookup x=some .free)
 has:∀x,(sc.names.lookup x=some .cell∨sc.names.lookup x=some .free)->(x,NameKind.free)∈scope.names∨ow.contains x=true
theorem yS{X:Cx}{tg iter elt:Expr}{ifs:List Expr}{scope sc:Scope}{pos ip:Pos}{wi:TI}{g:TG}{tc:TT}{te:TE}{N:List Str}{ix:List (Option Nat)}{ow:List Str}(O:wg X scope sc N ix ow)(hc:X.calm=true)(hi:PI X tg iter wi)
  (hb:∀cl C s₀ H₀ ex,PG (xT X sc N ow cl C s₀ H₀ ex) tg g/\PIf (xT X sc N ow cl C s₀ H₀ ex) ifs tc/\PE (xT X sc N ow cl C s₀ H₀ ex) elt te) (hs:∀x,foldedSetIterable iter X.env x=pure x)
  {use:Option (Value->Sem Unit)} {QQ:Value->Shared->Prop} {pins:List (Addr×Obj)} {s:Shared} {σ:St} {H:Hp} {Q:VK} (I:Inv X pins σ H s) (h:Ag ix wi g tc te σ H Q)
  (fin:∀(D C:Addr) (s6:Shared) (H5:Hp) (m:Str->Option Value),Inv X pins σ H5 s6->s6.heap.Ns C m->zu X pins H5 C->Q (.ref D) H5->compPost (model X.prog X.w) X.A X.xe use QQ (.ref D) C (.ok .next) s6):
  wpAny (model X.prog X.w) X.A (comprehension (.ListComp elt [⟨tg,iter,ifs,0⟩] scope pos) scope X.env ip (newList []) false (eval iter X.env) use) QQ X.xe s:=by
 have hcl:∃cl,closureFor scope X.env=pure cl/\(∀x c,cl.lookup x=some c->X.env.cells.lookup x=some c)/\∀y∈scope.names,y.2 = .free->∃c,cl.lookup y.1=some c:=
  lZ fun y hy hf=>I.ok.has y.1 (O.free y hy hf)
 obtain⟨cl,ecl,hcl1,hcl2⟩:=hcl
 refine wpAny_comprehension_free (use:=use) rfl hs ecl O.kind O.names (thn (hi pins s σ H _ I h) fun v s1 h1=>thn h1 fun itv s2 h2=>?_)
 obtain⟨it,fp,tn,J,H2,e,I2,T,st2,f2,q2⟩:=h2
 subst e
 obtain⟨W,⟨m0,w0⟩,turn⟩:=q2.go s2.heap.objs.size I2.fresh
 refine wpAny_newObj_type ?_
 have I3:=I2.K6 (its:=[]) (t':=s2.toks) (ys:=[]) .nil (Nat.zero_le _)
 generalize eH3:upd H2 s2.heap.objs.size (.lst [])=H3 at I3 w0
 have eD:H3 s2.heap.objs.size=some (.lst []):=by rw[<-eH3];exact aA
 have hfp2:∀b∈fp,b≠s2.heap.objs.size:=fun b hb z=>by
  obtain⟨o,ho,_⟩:=T.obj _ _ st2 b hb
  exact absurd (Heap.lt_size ho) (by rw[z];exact Nat.lt_irrefl _)
 have st3:tn 0 (s2.heap.push { cls:= .type "list",dict:=none,data:= .seq ([]:List Value).toArray }):=T.keep _ _ _ st2 fun b _ o e=>Heap.get?_push_of_some _ e
 have f3:∀b∈fp,zu X pins H3 b:=fun b hb=>⟨by rw[<-eH3,bU (hfp2 b hb)];exact(f2 b hb).1,(f2 b hb).2⟩
 generalize es3:({ s2 with heap:=s2.heap.push { cls:= .type "list",dict:=none,data:= .seq ([]:List Value).toArray },toks:=s2.toks }:Shared)=s3 at I3
 have st3':tn 0 s3.heap:=by rw[<-es3];exact st3
 have hlt3:∀x c,cl.lookup x=some c->c<s3.heap.objs.size:=fun x c e=>by
  obtain⟨v,hv⟩:=I3.cell x c (hcl1 x c e)
  exact hv.lt
 refine Gg ?_
 generalize eO:cellsFrom (s3.heap.objs.size+1) scope.names []=own
 have okO:=cellsFrom_ok scope.names (s3.heap.push { cls:= .type "dict",data:= .dict #[] }) (s3.heap.objs.size+1) [] ⟨fun _ _ hm=>(nomatch hm),List.Pairwise.nil⟩ (by rw[Heap.size_push];exact Nat.le_refl _)
 rw[Heap.size_push,eO]at okO
 have ownN:∀x c,own.lookup x=some c->(x,NameKind.cell)∈scope.names:=fun x c e=>by
  have:=PySem.mem_of_lookup e
  rw[<-eO]at this
  exact cellsFrom_names _ _ this
 have ownH:∀x,(x,NameKind.cell)∈scope.names->∃c,own.lookup x=some c:=fun x hx=>by
  rw[<-eO];exact sG _ _ hx
 have keep4:∀b o,s3.heap.get? b=some o->(pushCells (s3.heap.push { cls:= .type "dict",data:= .dict #[] }) scope.names).get? b=some o:=fun b o e=>pushCells_keeps _ _ b o (Heap.get?_push_of_some _ e)
 have hns4:(pushCells (s3.heap.push { cls:= .type "dict",data:= .dict #[] }) scope.names).Ns s3.heap.objs.size fun _=>none:=(Heap.Ns.new s3.heap (.type "dict")).keeps fun b o e=>pushCells_keeps _ _ b o e
 generalize pushCells (s3.heap.push { cls:= .type "dict",data:= .dict #[] }) scope.names=h4 at okO keep4 hns4
 have I4:Inv X pins σ H3 { s3 with heap:=h4 }:=I3.kept (t':=s3.toks) keep4
 have eenv:({ newEnv scope s3.heap.objs.size X.env.globals (own++cl) X.env.qual none .none (some X.env) builtinsNs with scope:=relabel scope X.env }:Env)=Jo sc (own++cl) s3.heap.objs.size X.env:=by rw[O.rel];rfl
 rw[eenv]
 show codeAny _ _ _ (compPost (model X.prog X.w) X.A X.xe use QQ (.ref s2.heap.objs.size) s3.heap.objs.size) _
 have look2:∀x c,(own++cl).lookup x=some c->own.lookup x=some c∨(own.lookup x=none/\cl.lookup x=some c):=fun x c e=>by
  rw[List.lookup_append]at e
  cases q:own.lookup x with
  |some d=>rw[q]at e;exact .inl e
  |none=>rw[q]at e;exact .inr ⟨rfl,e⟩
 have ownC:∀x c,own.lookup x=some c->h4.IsCell c none/\s3.heap.objs.size+1<=c:=fun x c e=>okO.empty x c (PySem.mem_of_lookup e)
 have freeL:∀x c,(x,NameKind.free)∈scope.names->cl.lookup x=some c->(own++cl).lookup x=some c:=fun x c hf e=>by
  rw[List.lookup_append]
  cases q:own.lookup x with
  |some d=>
   have:=(O.own x).mp (ownN x d q)
   rw[O.apart x hf]at this;cases this
  |none=>exact e
 generalize eC:s3.heap.objs.size=C at hns4 ownC
 generalize es4:({ s3 with heap:=h4 }:Shared)=s4 at I4
 have h4s:s4.heap=h4:=by rw[<-es4]
 have o4s:s4.os=s3.os:=by rw[<-es4]
 have fC:∀b∈fp,b≠C:=fun b hb z=>by
  obtain⟨o,ho,_⟩:=T.obj _ _ st3' b hb
  exact absurd (Heap.lt_size ho) (by rw[z,eC];exact Nat.lt_irrefl _)
 have fO:∀b∈fp,∀x c,own.lookup x=some c->c≠b:=fun b hb x c e z=>by
  obtain⟨o,ho,_⟩:=T.obj _ _ st3' b hb
  have h1:b<C:=by rw[<-eC];exact Heap.lt_size ho
  have h2:=(ownC x c e).2
  rw[z]at h2
  exact Nat.lt_irrefl _ (Nat.lt_trans h1 h2)
 have fA:∀b∈fp,∀x c,(own++cl).lookup x=some c->c≠b:=fun b hb x c e=>by
  rcases look2 x c e with q|⟨_,q⟩
  ·exact fO b hb x c q
  ·exact(f3 b hb).2.2.2.2.1 x c (hcl1 x c q)
 have okC:(xT X sc N ow (own++cl) C s3 H3 fp).Ok:=by
  refine⟨I3.ok.mod,?_,I3.ok.glob,I3.ok.blt,Nat.le_of_eq eC,fun x y c h1 h2=>?_,fun x hx=>?_,fun x c z e=>?_,I3.ok.hd,I3.ok.frames,.inl rfl,fun b hb=>⟨fC b hb,fA b hb⟩,
   I3.bs,Nat.le_trans I3.ok.bsz I3.sz,fun b o e hb=>?_,fun b hb z=>?_,I3.stack,I3.rm⟩
  ·show sc.kind = .function
   rw[<-O.rel];exact O.kind
  ·-- no two names with one cell
   rcases look2 x c h1 with q1|⟨_,q1⟩<;>rcases look2 y c h2 with q2|⟨_,q2⟩
   ·have m1:=PySem.mem_of_lookup q1
    have m2:=PySem.mem_of_lookup q2
    by_cases e:x=y
    ·exact e
    ·have q:=Gd okO.apart m1 m2 (fun z=>e (congrArg Prod.fst z))
     exact absurd rfl q
   ·have a1:=(ownC x c q1).2
    have a2:=hlt3 y c q2
    rw[eC]at a2
    exact absurd (Nat.lt_trans a2 a1) (Nat.lt_irrefl _)
   ·have a1:=(ownC y c q2).2
    have a2:=hlt3 x c q1
    rw[eC]at a2
    exact absurd (Nat.lt_trans a2 a1) (Nat.lt_irrefl _)
   ·exact I3.ok.inj x y c (hcl1 x c q1) (hcl1 y c q2)
  ·rcases O.has x hx with z|z
   ·obtain⟨c,hc'⟩:=hcl2 (x,.free) z rfl
    exact⟨c,freeL x c z hc'⟩
   ·obtain⟨c,hc'⟩:=ownH x ((O.own x).mpr z)
    exact⟨c,by show(own++cl).lookup x=some c;rw[List.lookup_append,hc'];rfl⟩
  ·have z':ow.contains x=true:=z
   obtain⟨d,hd⟩:=ownH x ((O.own x).mpr z')
   have e':(own++cl).lookup x=some c:=e
   rw[List.lookup_append,hd]at e'
   cases e'
   have:=(ownC x c hd).2
   show s3.heap.objs.size<=c
   omega
  ·rcases(f3 b hb).2.2.2.1 with z|z
   ·exact I3.ok.noex b o e z
   ·exact absurd (Nat.lt_of_lt_of_le (Heap.lt_size e) (Nat.le_trans I3.ok.bsz z)) (Nat.lt_irrefl _)
  ·rcases List.mem_cons.mp (I3.uO b z)with z|z
   ·exact(f3 b hb).2.1 z
   ·exact(f3 b hb).2.2.1 z
 have IC:Inv (xT X sc N ow (own++cl) C s3 H3 fp) [] (cst ix σ) H3 s4:=by
  refine⟨okC,o4s,I4.bare,?_,?_,fun x c e=>?_,?_,fun x c e=>?_,fun p hp=>(nomatch hp),I4.hok,?_⟩
  ·rw[h4s]
   exact Un.kept keep4
  ·refine⟨_,by rw[h4s];exact hns4,fun j x v e1 e2 e3=>?_⟩
   have e2':(cst ix σ)[j]?=some (some v):=e2
   unfold cst at e2'
   rw[List.getElem?_map]at e2'
   cases q:ix[j]? with
   |none=>rw[q]at e2';cases e2'
   |some o=>
    rw[q]at e2'
    cases o with
    |none=>cases e2'
    |some i=>
     obtain⟨hx,hm,hsc⟩:=O.ix j x i e1 q
     cases q2:σ[i]? with
     |none=>simp[q2]at e2'
     |some w'=>
      simp[q2]at e2'
      subst e2'
      obtain⟨m,hn,hl⟩:=I4.loc
      have kf:=O.free (x,.free) hm rfl
      have vis:Vis X.env.scope x:=by
       rcases kf with k|k
       ·exact .inr (.inl k)
       ·exact .inr (.inr k)
      obtain⟨u,r,l⟩:=hl i x v hx q2 vis
      refine⟨u,r,?_⟩
      rcases l with⟨k,_⟩|⟨_,c,e,z⟩
      ·rcases kf with k'|k'
       ·rw[k]at k';cases k'
       ·rw[k]at k';cases k'
      ·obtain⟨c',e'⟩:=hcl2 (x,.free) hm rfl
       have:=hcl1 x c' e'
       rw[e]at this;cases this
       exact .inr ⟨hsc,c,freeL x c hm e',z⟩
  ·rcases look2 x c e with q|⟨_,q⟩
   ·exact⟨none,by rw[h4s];exact(ownC x c q).1⟩
   ·exact I4.cell x c (hcl1 x c q)
  ·rw[<-eC]
   exact I3.fresh
  ·rcases look2 x c e with q|⟨_,q⟩
   ·have:=(ownC x c q).2
    exact I3.hok.fresh (by omega)
   ·exact I4.freeC x c (hcl1 x c q)
  ·show(cst ix σ).length=N.length
   rw[O.len];simp[cst]
 have st4:tn 0 s4.heap:=T.keep _ _ _ st3' fun b _ o e=>by rw[h4s];exact keep4 b o e
 have stat:∀{H':Hp},(∀b∈fp,H' b=none)->∀b∈fp,zu (xT X sc N ow (own++cl) C s3 H3 fp) [] H' b:=fun hn b hb=>
  ⟨hn b hb,fC b hb,okC.exfs b hb,.inl hb,fA b hb,fun p hp=>(nomatch hp)⟩
 obtain⟨hg,ht,he⟩:=hb (own++cl) C s3 H3 fp
 have loop:codeAny (model X.prog X.w) X.A (.compLoop (.ListComp elt [⟨tg,iter,ifs,0⟩] scope pos) 0 (.ref it) (.ref s2.heap.objs.size) (Jo sc (own++cl) C X.env))
   (compPost (model X.prog X.w) X.A X.xe use QQ (.ref s2.heap.objs.size) C) s4:=by
  refine fV (fun n s'=>∃i σ' H',Inv (xT X sc N ow (own++cl) C s3 H3 fp) [] σ' H' s'/\tn i s'.heap/\(∀b∈fp,H' b=none)/\W i n σ' H') ?_ m0 ⟨0,cst ix σ,H3,IC,st4,fun b hb=>(f3 b hb).1,w0⟩
  rintro n s5 ⟨i,σ5,H5,I5,st5,fr5,w5⟩
  rcases turn i n σ5 H5 w5 with⟨stop,qn⟩|⟨go,step⟩
  ·refine thn (T.done (xT X sc N ow (own++cl) C s3 H3 fp) rfl rfl rfl hc i [] s5 σ5 H5 (fun _ _=>False) I5 (stat fr5) st5 stop) fun r s6 ⟨hr,I6⟩=>?_
   subst hr
   obtain⟨m,hn,_⟩:=id I6.loc
   have I7:Inv X pins σ H5 s6:=I3.GQ (ch:=fp) I6.os I6.base I6.hok I6.bare fun b hb=>⟨(f3 b hb).2.2.2.1,(f3 b hb).2.1,(f3 b hb).2.2.2.2.1,(f3 b hb).2.2.2.2.2⟩
   exact fin _ C s6 H5 m I7 hn (I3.Ij (Nat.le_of_eq eC) I6.free) qn
  ·refine thn (T.item (xT X sc N ow (own++cl) C s3 H3 fp) rfl rfl rfl hc i [] s5 σ5 H5 (fun _ _=>False) I5 (stat fr5) st5 go) fun r s6 ⟨u,hr,h6⟩=>?_
   subst hr
   refine thn h6 fun _ s7 ⟨x,H7,I7,r7,y7,st7,fr7⟩=>?_
   have I7':=I7.pinned (stat fr7) (T.obj _ _ st7)
   have again:∀{σ9:St} {H9:Hp} {s9:Shared} {m':Nat},Inv (xT X sc N ow (own++cl) C s3 H3 fp) ([]++qN fp s7.heap) σ9 H9 s9->m'<n->W (i+1) m' σ9 H9->
     ∃m,m<n/\∃i σ' H',Inv (xT X sc N ow (own++cl) C s3 H3 fp) [] σ' H' s9/\tn i s9.heap/\(∀b∈fp,H' b=none)/\W i m σ' H':=fun {σ9 H9 s9 m'} I9 hm w9=>by
    refine⟨m',hm,i+1,σ9,H9,I9.jM,T.keep _ _ _ st7 fun b hb o e=>(I9.pin (b,o) (List.mem_append_right _ (List.mem_append_right _ (eU hb e)))).1,fun b hb=>?_,w9⟩
    obtain⟨o,e,d⟩:=T.obj _ _ st7 b hb
    exact(I9.pin (b,o) (List.mem_append_right _ (List.mem_append_right _ (eU hb e)))).2.1
   refine thn (hg _ s7 σ5 H7 x u _ I7' r7 (step x H7 y7)) fun _ s8 ⟨σ8,H8,I8,q8⟩=>?_
   refine thn (ht _ s8 σ8 H8 _ I8 q8) fun b s9 ⟨H9,I9,q9⟩=>?_
   cases b with
   |false=>
    rw[if_neg Bool.false_ne_true]at q9
    obtain⟨m',hm,w9⟩:=q9
    rw[if_neg Bool.false_ne_true]
    exact again I9 hm w9
   |true=>
    rw[if_pos rfl]at q9
    rw[if_pos rfl]
    refine thn (he _ s9 σ8 H9 _ I9 q9) fun y s10 ⟨yv,H10,I10,r10,ys,e10,z10,m',hm,w10⟩=>?_
    refine thn (pB _ s10 σ8 H10 (.ref s2.heap.objs.size) [yv] (.ref s2.heap.objs.size) [y] (fun _ H'=>W (i+1) m' σ8 H') I10 rfl (.cons r10 .nil) ⟨_,ys,yv,rfl,rfl,e10,z10,w10⟩) fun _ s11 ⟨_,H11,I11,_,w11⟩=>?_
    exact again I11 hm w11
 exact codeAny_compStart_list loop (T.self _ _ _ _ _ st4 loop)
theorem Ey{X:Cx}{tg iter elt:Expr}{ifs:List Expr}{scope sc:Scope}{pos:Pos}{wi:TI}{g:TG}{tc:TT}{te:TE}{N:List Str}{ix:List (Option Nat)}{ow:List Str}(O:wg X scope sc N ix ow)(hc:X.calm=true)(hi:PI X tg iter wi)
  (hb:∀cl C s₀ H₀ ex,PG (xT X sc N ow cl C s₀ H₀ ex) tg g/\PIf (xT X sc N ow cl C s₀ H₀ ex) ifs tc/\PE (xT X sc N ow cl C s₀ H₀ ex) elt te)
  (hs:∀x,foldedSetIterable iter X.env x=pure x:=by intro _;rfl):PE X (.ListComp elt [⟨tg,iter,ifs,0⟩] scope pos) (Ag ix wi g tc te):=by
 intro pins s σ H Q I h
 rw[eval_ListComp]
 exact yS (use:=none) (QQ:=EP X pins σ Q) O hc hi hb hs I h fun D C s6 H5 m I7 hn f q=>⟨m,hn,fun h' hs'=>⟨.ref D,H5,I7.turned (it:=C) (t':=s6.toks) (fun b o hb e=>(hs'.2 b hb).trans e) f.1 f.2.1 f.2.2.2.1 f.2.2.2.2.1 f.2.2.2.2.2,rfl,q⟩⟩
theorem DL{X:Cx}{scope sc:Scope}{N:List Str}{ix:List (Option Nat)}{ow:List Str}(sc':relabel scope X.env=sc)(kind:scope.kind = .function)
  (own1:scope.names.all (fun y=>y.2 != .cell||ow.contains y.1)=true) (own2:ow.all (fun x=>scope.names.any (fun y=>y.1==x&&y.2== .cell))=true) (apart:scope.names.all (fun y=>y.2 != .free || !ow.contains y.1)=true)
  (names:scope.names.all (fun x=>x.2 != .local||scope.names.lookup x.1==some .local)=true)
  (free:scope.names.all (fun y=>y.2 != .free||(X.env.scope.names.lookup y.1==some .cell||X.env.scope.names.lookup y.1==some .free))=true)
  (len:N.length=ix.length)
  (hix:(N.zip ix).all (fun p=>match p.2 with
   |none=>true
   |some i=>X.N[i]?==some p.1&&scope.names.any (fun y=>y.1==p.1&&y.2== .free)&&(sc.names.lookup p.1==some .cell||sc.names.lookup p.1==some .free))=true)
  (has:sc.names.all (fun y=>(y.2 != .cell&&y.2 != .free)||(scope.names.any (fun z=>z.1==y.1&&z.2== .free)||ow.contains y.1))=true):wg X scope sc N ix ow:=by
 have mem:∀(k:NameKind) (x:Str),scope.names.any (fun y=>y.1==x&&y.2==k)=true->(x,k)∈scope.names:=fun k x h=>by
  obtain⟨y,hy,e⟩:=List.any_eq_true.mp h
  rw[Bool.and_eq_true]at e
  obtain⟨a,b⟩:=y
  have e1:a=x:=eq_of_beq e.1
  have e2:b=k:=eq_of_beq e.2
  subst e1;subst e2
  exact hy
 refine⟨sc',kind,fun x=>⟨fun hx=>?_,fun hx=>?_⟩,fun x hx=>?_,fun x hx e=>?_,fun y hy e=>?_,len,fun j x i h1 h2=>?_,fun x hx=>?_⟩
 ·have:=List.all_eq_true.mp own1 _ hx
  simpa using this
 ·have hm:x∈ow:=by simpa using hx
  exact mem .cell x (List.all_eq_true.mp own2 x hm)
 ·have:=List.all_eq_true.mp apart _ hx
  simpa using this
 ·have:=List.all_eq_true.mp names x hx
  rw[e]at this
  simpa using this
 ·have:=List.all_eq_true.mp free y hy
  rw[e]at this
  simpa[Env.kindOf]using this
 ·have hm:(x,some i)∈N.zip ix:=by
   have:(N.zip ix)[j]?=some (x,some i):=by
    rw[List.getElem?_zip_eq_some]
    exact⟨h1,h2⟩
   exact List.mem_of_getElem? this
  have:=List.all_eq_true.mp hix _ hm
  simp only[Bool.and_eq_true]at this
  obtain⟨⟨a1,a2⟩,a3⟩:=this
  refine⟨eq_of_beq a1,mem .free x a2,?_⟩
  rw[Bool.or_eq_true]at a3
  rcases a3 with z|z
  ·exact .inl (eq_of_beq z)
  ·exact .inr (eq_of_beq z)
 ·have hm:∃k,(x,k)∈sc.names/\(k = .cell∨k = .free):=by
   rcases hx with z|z
   ·exact⟨_,PySem.mem_of_lookup z,.inl rfl⟩
   ·exact⟨_,PySem.mem_of_lookup z,.inr rfl⟩
  obtain⟨k,hk,e⟩:=hm
  have:=List.all_eq_true.mp has _ hk
  rw[Bool.or_eq_true]at this
  rcases this with z|z
  ·rcases e with e|e<;>(subst e;simp at z)
  ·rw[Bool.or_eq_true]at z
   rcases z with z|z
   ·exact .inl (mem .free x z)
   ·exact .inr z
end L2
namespace Att
open PySem PySem.W PySem.Calls PyProof.Rows
theorem u5{ns:List Int}(h:WData.layableAll [WData.list (ns.map WData.int)]=true):∀x∈ns,Builtin.Int.intBits x<=1048576:=by
 intro x hx
 obtain⟨h1,_,h3⟩:=layableW_iff.mp (layW_cons h).1
 simp only[WData.canLay]at h1
 simp only[WData.weight]at h3
 have hm:WData.int x∈ns.map WData.int:=List.mem_map.mpr ⟨x,hx,rfl⟩
 have hc:WData.canLayAll (ns.map WData.int)=true:=by simpa using h1
 obtain⟨_,_,c⟩:=items_part hm hc
 have e:WData.weight (.int x)=Builtin.Int.intBits x:=rfl
 rw[e]at c
 have:(2:Nat)^20=1048576:=by decide
 omega
theorem ur{l:OpenLaw}{n:Nat}{q:Program}{loose:List Str}{XP:(Str->Option Value)->Heap->Prop}{YP:World->Heap->Prop}{d:DefRec}
  (hn:l.most=some n) (hdf:d.params.defaults=[])
  (call:∀(w:World) (s₀ s₁:Shared) (mg mb:Str->Option Value) (fa:Addr) (o:Obj) (pm cd doc:Value) (a:Addr) (vs:List Value) (ns:List Int),
   Ground q loose [] XP w s₀ mg mb s₁.heap->YP w s₁.heap->
   s₁.heap.get? fa=some o->o.data = .func (docDef d.name d.params d.body d.scope pm cd doc)->s₁.heap.CodeRec cd d.name->mg d.name=some (.ref fa)->
   s₁.heap.get? a=some { cls:= .type "list",data:= .seq vs.toArray }->IntsAre vs ns->ns.length<=n->(∀x∈ns,Builtin.Int.intBits x<=1048576)->s₁.gens=#[]->
   codeAny (model l.prog w) callerA (.call (.ref fa) ⟨[.ref a],[]⟩) (fun r s'=>r = .ok (.ret (.bool true))/\OldK s₁.heap s'.heap/\s'.os=s₁.os/\AllBare s'.gens) s₁):
  WalkO q loose XP YP l.row.toRowW d [] (fun f vs=>PySem.call f vs):=by
 intro w s₀ s₁ mg mb G Y fa o pm cd doc dV kV ho hd hcd hD hmg hg args vals as hpre hlay hrd hwl hlo
 obtain rfl:dV = .none:=Dflts.none hD hdf
 obtain rfl:kV = .none:=Dflts.noKw hD
 obtain⟨a,vs,ns,rfl,rfl,hobj,hints,hlen⟩:=Ba hn hpre hwl
 refine enter_call (codeAny_mono (call w s₀ s₁ mg mb fa o pm cd doc a vs ns G Y ho (fd_plain hd) hcd hmg hobj hints hlen (u5 hlay) hg) fun r s' hq=>?_)
 obtain⟨rfl,h2,h3,h4⟩:=hq
 exact⟨.inl ⟨.bool true,.bool true,[],rfl,fun _=>rfl,.bool true,Cq l _,fun _=>⟨List.Pairwise.nil,fun _ hm=>(nomatch hm)⟩⟩,h2,h3,h4⟩
end Att
namespace L2
open PySem PySem.Spec PyProof.Rows
section
variable {X:Cx}
end
end L2
namespace L2
open PySem PySem.Spec PyProof.Rows
noncomputable def FW(base:Heap)(R:Addr)(j:Nat)(ts:Addr->TS)(D:Ends)(σ:St):XK:=fun cls _ H2=>∃C,cls = .ref C/\ExS base C R/\∀a,H2 a=none->
  ts a { nx:=fun σ' H'=>D.nx (σ'.set j none) H',rt:=D.rt,bk:=fun σ' H'=>D.bk (σ'.set j none) H',ct:=fun σ' H'=>D.ct (σ'.set j none) H' } (σ.set j (some (.ref a))) (upd H2 a (FT a C))
theorem zN{X:Cx}{n x:Str}{j:Nat}{R:Addr}{xp hpos:Pos}{b₀:Stmt}{suite:List Stmt}{ts:Addr->TS}{pins:List (Addr×Obj)}{σ:St}{H H1:Hp}{s s1 s2:Shared}{D:Ends}{ev:Value}
  (hstk:X.stack=X.env::X.outer) (hfr:X.env.frame=some X.env.locals) (hex:X.ex=[]) (hN:X.N.Nodup)
  (hj:X.N[j]?=some n) (hn:X.env.scope.names.lookup n=some .local) (hx:Gl X x) (hR:X.mg x=some (.ref R)) (hs:∀a,PSs (cxS X a) (b₀::suite) (ts a))
  (hdx:(x==("__debug__" : Str))=false) (I:Inv X pins σ H s) (I1:Inv X pins σ H1 s1) (hq:jf X.prog X.w X.stack H1 s1 (FW X.base R j ts D σ) ev s2):
  wpAny (model X.prog X.w) X.A (noteFrame ev X.env) (fun _ s₂=>wpAny (model X.prog X.w) X.A (setFlight ev none) (fun _ s₃=>wpAny (model X.prog X.w) X.A (handleBy ev X.env [.ExceptHandler (some (.Name x xp)) (some n) (b₀::suite) hpos]) (SP X pins D) X.xe s₃) X.xe s₂) X.xe s2:=by
 have nx:∀b:Addr,b∉X.ex:=fun b=>by rw[hex];simp
 obtain⟨ea,Cc,a0,B,H2,rfl,os,bare,fl,hok,un,old,C',eC,S,q2⟩:=jf.ex hq
 cases eC
 rw[hstk]at fl
 have frs_eq:frs X.stack=(X.env::X.outer).filterMap (·.frame):=by rw[hstk];rfl
 have oe:=fl.first
 have newE:∀u,s1.heap.get? ea≠some u:=fun u z=>by
  rcases old ea u z with hb|⟨o',hb⟩
  ·rw[frs_eq]at hb
   obtain⟨_,o,ho,hd⟩:=fl.2.2.1.mem hb
   obtain⟨o2,vs2,e1,_,e2,_⟩:=oe
   rw[e1]at ho;cases ho
   exact hd _ e2
  ·rw[fl.2.1]at hb;cases hb
 have to:∀h6,Heap.FlyingW B (X.env::X.outer) ea (.ref Cc) a0 h6->s2.heap.UpToSlots h6->Inv X pins σ H2 { s2 with heap:=h6 }:=fun h6 fl6 up=>by
  refine I1.GQ (ch:=[]) os ⟨fun b o e1 n1 hb _=>?_,fun b o e1 n1 hb _=>?_,fun b o e1 n1 _=>un.free b o e1 n1 (by simp),fun b o e1 _=>?_,un.tups,un.frzs,un.tbls⟩ (hok.kept fl6.1) bare (fun _ z=>nomatch z)
  ·rcases old b o e1 with z|⟨o',z⟩
   ·exact absurd z hb
   ·have e2:=un.keep b o e1 n1 hb (by simp)
    have e3:=fl.1 b o' z
    rw[e2]at e3;cases e3
    exact fl6.1 b _ z
  ·obtain⟨sl,e2⟩:=un.slot b o e1 n1 hb (by simp)
   rw[frs_eq]at hb
   obtain⟨_,o2,ho,hd⟩:=fl.2.2.1.mem hb
   rw[e2]at ho;cases ho
   obtain⟨sl',e3⟩:=up b _ e2 hd
   exact⟨sl',e3⟩
  ·rcases old b o e1 with z|⟨o',z⟩
   ·rw[frs_eq]at z
    obtain⟨_,o2,ho,hd⟩:=fl.2.2.1.mem z
    obtain⟨sl',e3⟩:=up b _ ho hd
    exact⟨_,e3⟩
   ·exact⟨o',fl6.1 b o' z⟩
 have hfrm:X.A.frames=some (X.env::X.outer):=by rw[I.ok.frames,hstk]
 refine wpAny_looks_onW hfrm hfr fl fun h4 held4 up4=>?_
 refine wpAny_landsW held4 fun h5 fl5 up5=>?_
 have I5:=to h5 fl5 (up4.trans up5)
 obtain⟨ob,hob,hobc⟩:=fl5.there
 refine wpAny_handleBy_cons (codeAny_handlers_test (nQ (X:=cxS X ea) (I5.suite ea) hx hR ?_ hdx)) (by intro z;cases z)
 refine pU S I5.bk hob hobc (codeAny_handlers_suite_as ?_)
 refine lands_againW fl5 fun h6 fl6 up6=>?_
 have I6:=to h6 fl6 ((up4.trans up5).trans up6)
 obtain⟨oe6,vs6,e6,c6,d6,_⟩:=fl6.first
 have hn2:H2 ea=none:=by
  cases z:H2 ea with
  |none=>rfl
  |some u=>
   exfalso
   obtain⟨o',z'⟩:=(hok ea u z).there
   rw[fl.2.1]at z';cases z'
 have I7:Inv X pins σ (upd H2 ea (FT ea Cc)) { s2 with heap:=h6 }:=by
  refine I6.track hn2 (fun u z=>?_) (fun z=>?_) (fun y c e z=>?_) (fun p hp z=>?_) (GY e6 c6 d6)
  ·obtain⟨o',e1⟩:=I1.base.there ea u z (nx ea)
   exact newE o' e1
  ·obtain⟨m,⟨o,_,_,ho,_⟩,_⟩:=I1.loc
   exact newE o (by rw[z];exact ho)
  ·obtain⟨v',o,ho,_⟩:=I1.cell y c e
   exact newE o (by rw[<-z];exact ho)
  ·exact newE p.2 (by rw[<-z];exact(I1.pin p hp).1)
 refine kY (X:=cxS X ea) (I7.suite ea) hN hj (.inl hn) (show RelV (.ref ea) (Value.ref ea)from rfl) (fun s8 I8=>?_) (.inr hn)
 have q3:=q2 ea hn2
 have gone:∀{σ9:St} {H9:Hp} {s9:Shared} {Q':Unit->Shared->Prop},Inv (cxS X ea) pins σ9 H9 s9->(∀s10,Inv X pins (σ9.set j none) H9 s10->Q' () s10)->wpAny (model X.prog X.w) X.A (do bindName X.env n .none;unbindBehindTheSuite X.env n hpos) Q' X.xe s9:=
  fun {σ9 H9 s9 Q'} I9 k=>by
   have I9':Inv X pins σ9 H9 s9:=I9.Ih I.ok
   obtain⟨m,hm9,_⟩:=id I9'.loc
   exact wpAny_nameGoes_keeps hn hm9 (by rw[I.ok.kind];rfl) fun h' v' n' sb=>k _ (I9'.unset hN hj hm9 n' sb)
 refine wpAny_mono (hs ea pins s8 _ _ _ I8 q3) (fun fl9 s9 q9=>?_) fun _ _ z=>z.elim
 cases fl9 with
 |next=>
  obtain⟨σ9,H9,I9,q9⟩:=q9
  exact gone I9 fun s10 I10=>⟨_,H9,I10,q9⟩
 |brk=>
  obtain⟨σ9,H9,I9,q9⟩:=q9
  exact gone I9 fun s10 I10=>⟨_,H9,I10,q9⟩
 |cont=>
  obtain⟨σ9,H9,I9,q9⟩:=q9
  exact gone I9 fun s10 I10=>⟨_,H9,I10,q9⟩
 |ret u=>
  obtain⟨y,σ9,H9,I9,r9,q9⟩:=q9
  exact gone I9 fun s10 I10=>⟨y,_,H9,I10,r9,q9⟩
end L2
namespace L2
open PySem PySem.Spec PyProof.Rows
noncomputable abbrev SpS:=Shared->Sp
structure Jj(P:Program)(w:World)(K:PySem.W.Frag)(mg:Str->Option Value)(base:Heap)(CX:CXT)(k:Nat)(f:Addr)(fd:FuncData)(ps:List Str)(sp:SpS):Prop where
 len:∀s vs H Q E,sp s vs H Q E->vs.length=ps.length
 run:∀(A:Around) (outer:List Env) (s:Shared) (H:Hp) (args:Args) (us:List Value) (vs:List V) (Q:VK) (E:XK),iw k A->Gw P w K mg base A outer s H->BindsTo s fd args (ps.zip us)->Vals vs us->sp s vs H Q E->
  codeAny (model P w) A (.call (.ref f) args) (CR CX outer P w H s Q E) s
structure KZ(P:Program)(w:World)(K:PySem.W.Frag)(mg:Str->Option Value)(base:Heap)(x:Str)(k:Nat)(ps:List Str)(sp:SpS):Prop where
 ex:∃(g:Addr) (gd:FuncData),mg x=some (.ref g)/\PySem.W.keepIn K (.ref g)=true/\Binds K gd ps []/\Jj P w K mg base (jf P w) k g gd ps sp
structure MkC(mg:Str->Option Value)(base:Heap)(cdv:Value)(T:Addr):Prop where
 ex:∃c,cdv = .ref c/\PySem.W.CodeHd base c T
 bm:∃bm ob,mg "__builtins__" = some (.ref bm)/\bm≠builtinsNs/\base.get? bm=some ob/\ob.cls = .type "module" /\ ob.dict=some builtinsNs/\ob.data = .plain
structure MkD(mg:Str->Option Value)(base:Heap)(x:Str)(T:Addr):Prop where
 ex:∃a o fd,mg x=some (.ref a)/\base.get? a=some o/\o.data = .func fd/\MkC mg base fd.code T
section
variable {P:Program} {w:World} {K:PySem.W.Frag} {mg:Str->Option Value} {base:Heap}
theorem Ke{CX:CXT}{k:Nat}{f:Addr}{name qual:Str}{params:Arguments}{body:List Stmt}{scope:Scope}{dV kV doc pm cdv ct oc:Value}{an od:Option Addr}
  {osl:Array (Option Value)} {N ps:List Str} {sp:SpS} (lk:K.lookup f=some ⟨oc,od,.func (PySem.W.fnOf name qual params body scope dV kV doc pm an cdv ct),osl⟩) (hcd:PySem.W.codeIn K cdv qual=true) (S:aZ N ps scope)
  (len:∀s vs H Q E,sp s vs H Q E->vs.length=ps.length)
  (hbody:∀(A:Around) (outer:List Env) (s:Shared) (H:Hp) (vs:List V) (Q:VK) (E:XK),K.In base->iw k (A.deeper (envOfC qual scope s.heap.objs.size f cdv))->sp s vs H Q E->
   ∃t,PSs (Eu CX P w K mg base N qual scope f cdv A outer s H E) body t/\t { nx:=fun _ H'=>Q .non H',rt:=Q } (start N vs) H):
  Jj P w K mg base CX (k+1) f (PySem.W.fnOf name qual params body scope dV kV doc pm an cdv ct) ps sp:=by
 refine⟨len,fun A outer s H args us vs Q E hr e0 hb r hsp=>?_⟩
 have hl:=len _ _ _ _ _ hsp
 have KX:K.In s.heap:=e0.mod.kin.keeps fun b o e=>(e0.bs b o e).1
 have lim:s.heap.NoLimit:=e0.mod.nolimit.keeps fun b o e=>(e0.bs b o e).1
 have hkind:∀y∈ps.zip us,scope.names.lookup y.1=some .local∨(scope.names.lookup y.1=some .cell/\((cellsFrom (s.heap.objs.size+1) scope.names []).lookup y.1).isSome=true):=fun⟨n,v⟩ hy=>by
  rcases S.par n (List.of_mem_zip hy).1 with q|q
  ·exact .inl q
  ·exact .inr ⟨q,PySem.W.cellsFrom_some _ _ _ (.inl q)⟩
 refine codeAny_call_function hr.depth (KX _ _ lk) rfl S.co S.gen rfl (PySem.W.codeRec_of KX hcd) (hb _ _ _ _ ?_)
 refine wpAny_newFunctionEnv_cells S.kind hkind fun env he s1 x=>?_
 subst he
 refine⟨lim.keeps x.toInCall.keep,codeAny_func ?_⟩
 obtain⟨t,ht,hq⟩:=hbody A outer s H vs Q E e0.mod.kin (hr.deeper _) hsp
 have I:Inv (Eu CX P w K mg base N qual scope f cdv A outer s H E) [] (start N vs) H s1:=sY S hr.hd e0 hl r x
 refine wpAny_mono (ht [] s1 (start N vs) H _ I hq) (fun fl s' hs=>?_) fun e s' hs=>hs
 have fin:∀{σ':St} {H':Hp} {v:V} {u:Value},Inv (Eu CX P w K mg base N qual scope f cdv A outer s H E) [] σ' H' s'->RelV v u->Q v H'->CE outer P w H s Q u s':=
  fun {σ' H' v u} J rv q=>⟨v,H',J.os,J.bare,J.base,J.hok,rv,q⟩
 cases fl with
 |ret u=>
  obtain⟨v,σ',H',J,rv,q⟩:=hs
  exact fin J rv q
 |next=>
  obtain⟨σ',H',J,q⟩:=hs
  exact fin (v:=V.non) (u:=Value.none) J rfl q
 |brk=>
  obtain⟨_,_,_,q⟩:=hs
  exact False.elim q
 |cont=>
  obtain⟨_,_,_,q⟩:=hs
  exact False.elim q
theorem Fn.VR{x:Str}{st:Stmt}{N ps:List Str}{k:Nat}{sp:SpS}(F:Fn K mg x st ps)(S:aZ N ps (aj st))(len:∀s vs H Q E,sp s vs H Q E->vs.length=ps.length)
  (hbody:∀(f:Addr) (cdv:Value) (A:Around) (outer:List Env) (s:Shared) (H:Hp) (vs:List V) (Q:VK) (E:XK),iw k (A.deeper (envOfC x (aj st) s.heap.objs.size f cdv))->sp s vs H Q E->
   ∃t,PSs (cxF P w K mg base N x (aj st) f cdv A outer s H E).nox (aF st) t/\t { nx:=fun _ H'=>Q .non H',rt:=Q } (start N vs) H):KZ P w K mg base x (k+1) ps sp:=by
 obtain⟨f,fd,F,m,b⟩:=F.ex
 have kp:=F.kp
 obtain⟨oc,od,kV,doc,pm,an,cdv,ct,osl,rfl,lk,hcd⟩:=F.ex
 refine⟨f,_,m,kp,b,Ke lk hcd S len fun A outer s H vs Q E _ hr h=>?_⟩
 obtain⟨t,a,b⟩:=hbody f cdv A outer s H vs Q E hr h
 exact⟨t,a.nox,b⟩
theorem Fun.okM{x qual:Str}{st:Stmt}{f:Addr}{fd:FuncData}{N ps:List Str}{k:Nat}{sp:Sp}{T:Addr}(F:Fun K x qual st f fd)(m:mg x=some (.ref f))(M:MkD mg base x T)(KB:K.In base)(S:aZ N ps (aj st))(len:∀vs H Q E,sp vs H Q E->vs.length=ps.length)
  (hbody:∀(cdv:Value) (A:Around) (outer:List Env) (s:Shared) (H:Hp) (vs:List V) (Q:VK) (E:XK),MkC mg base cdv T->iw k (A.deeper (envOfC qual (aj st) s.heap.objs.size f cdv))->sp vs H Q E->
   ∃t,PSs (cxF P w K mg base N qual (aj st) f cdv A outer s H E).nox (aF st) t/\t { nx:=fun _ H'=>Q .non H',rt:=Q } (start N vs) H):zY P w K mg base (jf P w) (k+1) f fd ps sp:=by
 obtain⟨oc,od,kV,doc,pm,an,cdv,ct,osl,rfl,lk,hcd⟩:=F.ex
 have hM:MkC mg base cdv T:=by
  obtain⟨a,o,fd,e1,e2,e3,C⟩:=M.ex
  rw[m]at e1;cases e1
  rw[KB _ _ lk]at e2;cases e2
  cases e3
  exact C
 refine Kc lk hcd S len fun A outer s H vs Q E hr h=>?_
 obtain⟨t,a,b⟩:=hbody cdv A outer s H vs Q E hM hr h
 exact⟨t,a.nox,b⟩
end
noncomputable def cxE(P:Program)(w:World)(K:PySem.W.Frag)(mg:Str->Option Value)(base:Heap)(N:List Str)(env:Env)(A:Around)(outer:List Env)(s:Shared)(H:Hp)(E:XK):Cx where
 prog:=P
 w:=w
 K:=K
 mg:=mg
 base:=base
 A:=A.deeper env
 N:=N
 s₀:=s
 H₀:=H
 env:=env
 outer:=outer
 stack:=env::outer
 ex:=[]
 calm:=true
 fn:=fun _=>false
 pn:=[]
 xe:=fun e s'=>wpAny (model P w) (A.deeper env) (leaving env e) (fun _ s''=>jf P w outer H s E e s'') (fun e' s''=>jf P w outer H s E e' s'') s'
noncomputable abbrev cxL(P:Program)(w:World)(K:PySem.W.Frag)(mg:Str->Option Value)(base:Heap)(N:List Str)(qual:Str)(scope:Scope)(f:Addr)(cd:Value)(cl:List (Str×Addr))(A:Around)(outer:List Env)(s:Shared)(H:Hp)(E:XK):Cx:=
 cxE P w K mg base N (PySem.W.envX qual scope s.heap.objs.size f cd cl) A outer s H E
section
variable {P:Program} {w:World} {K:PySem.W.Frag} {mg:Str->Option Value} {base:Heap} {N:List Str} {qual:Str} {scope:Scope} {f:Addr} {cd:Value} {cl:List (Str×Addr)} {A:Around} {outer:List Env} {s₀:Shared} {H₀:Hp} {E:XK}
theorem Ew:Passes (jf P w) (cxL P w K mg base N qual scope f cd cl A outer s₀ H₀ E) E:=by
 intro pins σ H s e s' I h
 obtain⟨ea,C,a0,B,H',rfl,os,bare,fl,hok,un,old,q⟩:=h.ex
 refine wpAny_leaves_onW (L:=s₀.heap.objs.size) I.ok.frames rfl fl fun h' x1 x2=>?_
 have inB:∀b o,s.heap.get? b=some o->b∉frs (PySem.W.envX qual scope s₀.heap.objs.size f cd cl::outer)->∃o',B.get? b=some o'/\s'.heap.get? b=some o':=fun b o e hb=>by
  rcases old b o e with z|⟨o',z⟩
  ·exact absurd z hb
  ·exact⟨o',z,fl.1 b o' z⟩
 have up:∀b o,s'.heap.get? b=some o->b∈frs (PySem.W.envX qual scope s₀.heap.objs.size f cd cl::outer)->∃sl,h'.get? b=some { o with slots:=sl }:=fun b o e hb=>by
  obtain⟨_,o',ho',hd⟩:=fl.2.2.1.mem hb
  rw[e]at ho';cases ho'
  exact x2 b o e hd
 refine⟨ea,C,a0,B,H',rfl,os.trans I.os,bare,x1,hok,I.Tv rfl (fun b o e n hb=>?_) (fun b o e n hb=>?_) (fun b o e n=>un.free b o e n (by simp)) (fun b o e=>?_) un.tups un.frzs un.tbls,fun b o e=>?_,q⟩
 ·obtain⟨o',e1,e2⟩:=inB b o e hb
  have e3:=un.keep b o e n hb (by simp)
  rw[e2]at e3;cases e3
  exact x1.1 b _ e1
 ·obtain⟨sl,e1⟩:=un.slot b o e n (List.mem_cons_of_mem _ hb) (by simp)
  obtain⟨sl',e2⟩:=up b _ e1 (List.mem_cons_of_mem _ hb)
  exact⟨sl',e2⟩
 ·by_cases hb:b∈frs (PySem.W.envX qual scope s₀.heap.objs.size f cd cl::outer)
  ·obtain⟨o',e1⟩:=un.there b o e (by simp)
   obtain⟨sl,e2⟩:=up b o' e1 hb
   exact⟨_,e2⟩
  ·obtain⟨o',e1,_⟩:=inB b o e hb
   exact⟨o',x1.1 b o' e1⟩
 ·by_cases hb:b∈frs outer
  ·exact .inl hb
  ·obtain⟨o',e1⟩:=I.base.there b o e (by intro z;cases z)
   obtain⟨o2,e2,_⟩:=inB b o' e1 (I.xW e hb)
   exact .inr ⟨o2,e2⟩
theorem Bu{x:Str}{k k':Nat}{ps:List Str}{sp:Sp}{p pos:Pos}{e:Expr}{es:List Expr}{t:TA}(C:Cal P w K mg base x k ps sp)(hr:iw k' (cxL P w K mg base N qual scope f cd cl A outer s₀ H₀ E).A)(hg:Gl (cxL P w K mg base N qual scope f cd cl A outer s₀ H₀ E) x)
  (ha:PA (cxL P w K mg base N qual scope f cd cl A outer s₀ H₀ E) (e::es) t) (hk:k<=k':=by decide) (hd:(x==("__debug__" : Str))=false:=by decide)
  (he:starEach (e::es) (cxL P w K mg base N qual scope f cd cl A outer s₀ H₀ E).env=(false,eval e (cxL P w K mg base N qual scope f cd cl A outer s₀ H₀ E).env)::starEach es (cxL P w K mg base N qual scope f cd cl A outer s₀ H₀ E).env:=by rfl)
  (hpl:(backTo pos (starEach es (cxL P w K mg base N qual scope f cd cl A outer s₀ H₀ E).env)).any (·.1)=false:=by rfl):
  PE (cxL P w K mg base N qual scope f cd cl A outer s₀ H₀ E) (.Call (.Name x p) (e::es) [] pos) (Dp sp [] E t):=by
 obtain⟨g,gd,hm,hkp,hb,F⟩:=C.ex
 exact vp F (hr.mono hk) hg hm hkp hb .nil Ew ha hd he hpl
end
structure Lam(P:Program)(w:World)(K:PySem.W.Frag)(mg:Str->Option Value)(base:Heap)(k:Nat)(s:Shared)(H:Hp)(f:Addr)(sp0:Hp->VK->XK->Prop):Prop where
 fn:∃o fd,s.heap.get? f=some o/\o.data = .func fd
 un:H f=none
 run:∀(A:Around) (outer:List Env) (s':Shared) (H':Hp) (fs:List Addr) (Q:VK) (E:XK),iw k A->Gw P w K mg base A outer s' H'->Un fs [] H H' s.heap s'.heap->sp0 H' Q E->
  codeAny (model P w) A (.call (.ref f) ⟨[],[]⟩) (CR (jf P w) outer P w H' s' Q E) s'
noncomputable def xQ(P:Program)(w:World)(K:PySem.W.Frag)(mg:Str->Option Value)(base:Heap)(k:Nat)(spG:(Hp->VK->XK->Prop)->Hp->VK->XK->Prop):SpS:=
 fun s vs H Q E=>∃f sp0,vs=[.ref f]/\Lam P w K mg base k s H f sp0/\spG sp0 H Q E
noncomputable def pO(H:Hp)(T:Addr)(qual:Str):Prop:=∃ps,H T=some (.tbl ps)/\TriplesOk ps.toList/\
 ∀pos cv,codeAmong pos ps.toList=some cv->∃c' oc vs t,cv = .ref c'/\H c'=some (.frz oc (.own 0))/\oc.data = .fields vs/\vs[1]?=some (.str qual t)
noncomputable def qg(H H':Hp):Prop:=∀b o,(∀ps,o≠ .tbl ps)->H b=some o->H' b=some o
theorem qg.refl(H:Hp):qg H H:=fun _ _ _ h=>h
theorem qg.lst{H H':Hp}(g:qg H H'){a:Addr}{xs:List V}(h:H a=some (.lst xs)):H' a=some (.lst xs):=g a _ (fun _ z=>nomatch z) h
theorem qg.tup{H H':Hp}(g:qg H H'){a:Addr}{xs:List V}(h:H a=some (.tup xs)):H' a=some (.tup xs):=g a _ (fun _ z=>nomatch z) h
theorem pO.same{H H':Hp}{T:Addr}{q:Str}(h:pO H T q)(g:Same H H'):pO H' T q:=by
 obtain⟨ps,e,t,k⟩:=h
 refine⟨ps,g _ _ e,t,fun pos cv z=>?_⟩
 obtain⟨c',oc,vs,t',a,b,r⟩:=k pos cv z
 exact⟨c',oc,vs,t',a,g _ _ b,r⟩
theorem yW{a b:Int}{c cv:Value}{pos:Pos}{l:List Value}(h:TriplesOk l)(z:codeAmong pos (l++[rawInt a,rawInt b,c])=some cv):codeAmong pos l=some cv∨cv=c:=by
 revert z
 fun_induction TriplesOk l with
 |case1=>
  intro z
  simp only[List.nil_append,codeAmong,rawInt]at z
  split at z
  ·exact .inr (Option.some.inj z).symm
  ·cases z
 |case2 a' t b' u x rest ih=>
  intro z
  simp only[List.cons_append,codeAmong]at z⊢
  split at z
  ·rename_i hc;rw[if_pos hc];exact .inl z
  ·rename_i hc;rw[if_neg hc];exact ih h z
 |case3 l h1 h2=>exact h.elim
structure Iv(X:Cx)(scope:Scope)(N:List Str)(ix:List (Option Nat)):Prop where
 kind:scope.kind = .function
 co:scope.isCoroutine=false
 gen:scope.isGenerator=false
 cell:∀y∈scope.names,y.2≠ .cell
 free:∀y∈scope.names,y.2 = .free->X.env.kindOf y.1=some .cell∨X.env.kindOf y.1=some .free
 len:N.length=ix.length
 ix:∀(j:Nat) (x:Str) (i:Nat),N[j]?=some x->ix[j]?=some (some i)->X.N[i]?=some x/\(x,NameKind.free)∈scope.names/\scope.names.lookup x=some .free
 has:∀x,(scope.names.lookup x=some .cell∨scope.names.lookup x=some .free)->(x,NameKind.free)∈scope.names
theorem J6{X:Cx}{scope:Scope}{N:List Str}{ix:List (Option Nat)}(kind:scope.kind = .function)(co:scope.isCoroutine=false)(gen:scope.isGenerator=false)(cell:scope.names.all (fun y=>y.2 != .cell)=true)
  (free:scope.names.all (fun y=>y.2 != .free||(X.env.scope.names.lookup y.1==some .cell||X.env.scope.names.lookup y.1==some .free))=true)
  (len:N.length=ix.length)
  (hix:(N.zip ix).all (fun p=>match p.2 with
   |none=>true
   |some i=>X.N[i]?==some p.1&&scope.names.any (fun y=>y.1==p.1&&y.2== .free)&&scope.names.lookup p.1==some .free)=true)
  (has:scope.names.all (fun y=>(y.2 != .cell&&y.2 != .free)||scope.names.any (fun z=>z.1==y.1&&z.2== .free))=true):Iv X scope N ix:=by
 have mem:∀x:Str,scope.names.any (fun y=>y.1==x&&y.2== .free)=true->(x,NameKind.free)∈scope.names:=fun x h=>by
  obtain⟨y,hy,e⟩:=List.any_eq_true.mp h
  rw[Bool.and_eq_true]at e
  obtain⟨a,b⟩:=y
  have e1:a=x:=eq_of_beq e.1
  have e2:b = .free:=eq_of_beq e.2
  subst e1;subst e2
  exact hy
 refine⟨kind,co,gen,fun y hy e=>?_,fun y hy e=>?_,len,fun j x i h1 h2=>?_,fun x hx=>?_⟩
 ·have:=List.all_eq_true.mp cell y hy
  rw[e]at this;cases this
 ·have:=List.all_eq_true.mp free y hy
  rw[e]at this
  simpa[Env.kindOf]using this
 ·have hm:(x,some i)∈N.zip ix:=by
   have:(N.zip ix)[j]?=some (x,some i):=by
    rw[List.getElem?_zip_eq_some]
    exact⟨h1,h2⟩
   exact List.mem_of_getElem? this
  have:=List.all_eq_true.mp hix _ hm
  simp only[Bool.and_eq_true]at this
  obtain⟨⟨a1,a2⟩,a3⟩:=this
  exact⟨eq_of_beq a1,mem x a2,eq_of_beq a3⟩
 ·have hm:∃k,(x,k)∈scope.names/\(k = .cell∨k = .free):=by
   rcases hx with z|z
   ·exact⟨_,PySem.mem_of_lookup z,.inl rfl⟩
   ·exact⟨_,PySem.mem_of_lookup z,.inr rfl⟩
  obtain⟨k,hk,e⟩:=hm
  have:=List.all_eq_true.mp has _ hk
  rw[Bool.or_eq_true]at this
  rcases this with z|z
  ·rcases e with e|e<;>(subst e;simp at z)
  ·exact mem x z
section
variable {X:Cx} {pins:List (Addr×Obj)} {σ:St} {H:Hp} {s:Shared}
theorem Inv.grown{T c':Addr}{ps more:Array Value}{oc:Obj}{h':Heap}{t':Nat}(I:Inv X pins σ H s)(hT:H T=some (.tbl ps))(hx:Heap.ExtBut T s.heap h')(hge:s.heap.objs.size<=c')(hoc:h'.get? c'=some oc)(htb:h'.get? T=some (PySem.W.tabObj (ps++more))):
  Inv X pins σ (upd (upd H T (.tbl (ps++more))) c' (.frz oc (.own 0))) { s with heap:=h',toks:=t' }:=by
 have hTc:T≠c':=Nat.ne_of_lt (Nat.lt_of_lt_of_le (I.hok.lt hT) hge)
 have nT:∀b,H b=none->b≠T:=fun b n z=>by rw[z,hT]at n;cases n
 have nT':∀b u,H b=some u->(∀q,u≠ .tbl q)->b≠T:=fun b u e n z=>by rw[z,hT]at e;cases e;exact n _ rfl
 have nc:∀b u,H b=some u->b≠c':=fun b u e=>Nat.ne_of_lt (Nat.lt_of_lt_of_le (I.hok.lt e) hge)
 have at_:∀b u,H b=some u->(∀q,u≠ .tbl q)->upd (upd H T (.tbl (ps++more))) c' (.frz oc (.own 0)) b=some u:=fun b u e n=>by
  rw[bU (nc b u e),bU (nT' b u e n)];exact e
 refine I.step (g':=s.gens) (d':=s.drawn) (ch:=[]) (fun _ z=>nomatch z) (fun b o _ _ _ e n=>hx b o (nT b n) e) (fun b o _ _ _ e n=>⟨o.slots,hx b o (nT b n) e⟩)
  (fun b o _ e n=>?_) (fun b o _ e=>?_) (fun b xs e=>at_ b _ e fun _ z=>nomatch z) (fun b o u e=>at_ b _ e fun _ z=>nomatch z) (fun b q e=>?_) (fun m hm=>hm.extBut hx (nT _ I.free)) (fun b u e=>?_) I.bare
 ·rw[bU (Nat.ne_of_lt (Nat.lt_of_lt_of_le (Heap.lt_size e) hge)),bU (nT b n)];exact n
 ·by_cases hb:b=T
  ·exact⟨_,hb▸htb⟩
  ·exact⟨o,hx b o hb e⟩
 ·by_cases hb:b=T
  ·subst hb
   rw[hT]at e;cases e
   exact⟨more,by rw[bU hTc,aA]⟩
  ·exact⟨#[],by rw[bU (nc b _ e),bU hb,e];simp⟩
 ·by_cases hc:b=c'
  ·subst hc
   rw[aA]at e;cases e
   exact⟨hoc,_,hoc⟩
  ·rw[bU hc]at e
   by_cases hb:b=T
   ·subst hb
    rw[aA]at e;cases e
    exact htb
   ·rw[bU hb]at e
    refine(I.hok b u e).stay (fun d v hd q=>hx d v ?_ q) (fun d q=>at_ d _ q fun _ z=>nomatch z) fun d xs q=>at_ d _ q fun _ z=>nomatch z
    rcases hd with rfl|hd
    ·exact hb
    ·exact nT' d _ hd fun _ z=>nomatch z
theorem Io{params:Arguments}{body:Expr}{scope:Scope}{lpos:Pos}{T:Addr}{qual:Str}{cl:List (Str×Addr)}(I:Inv X pins σ H s)(M:MkC X.mg X.base X.env.code T)(hT:pO H T qual)(hq:X.env.qual++ "<lambda>" = qual)
  (hcl:closureFor scope X.env=pure cl) (hdef:defaultsOf params X.env=([],[]))
  {Q:Value->Shared->Prop} (h:∀(f c':Addr) (ctv:Value) (s1:Shared) (H1:Hp),Inv X pins σ H1 s1->qg H H1->pO H1 T qual->H1 f=none->
   s1.heap.get? f=some (PySem.W.kla_obj "<lambda>" qual params body scope cl ((X.mg "__name__").getD .none) c' ctv)->(∃oc vs t,H1 c'=some (.frz oc (.own 0))/\oc.data = .fields vs/\vs[1]?=some (.str qual t))->Q (.ref f) s1):
  wpAny (model X.prog X.w) X.A (eval (.Lambda params body scope lpos) X.env) Q X.xe s:=by
 subst hq
 obtain⟨ps,eT,ht,hk⟩:=hT
 obtain⟨c,hcode,C⟩:=M.ex
 obtain⟨bm,ob,b1,b2,b3,b4,b5,b6⟩:=M.bm
 have hP:s.heap.get? T=some (PySem.W.tabObj ps):=I.hok T _ eT
 have hgs:s.heap.Ns mainGlobals X.mg:=I.ok.mod.glob.keeps I.bk
 have nT:∀b o,X.base.get? b=some o->b≠T:=fun b o e z=>by
  have:=(I.bs b o e).2
  rw[z,eT]at this;cases this
 have hgP:mainGlobals≠T:=by
  obtain⟨o,es,ep,e,_⟩:=I.ok.mod.glob
  exact nT _ _ e
 have hbG:bm≠mainGlobals:=fun q=>by
  obtain⟨o,es,ep,e,hd,_⟩:=I.ok.mod.glob
  rw[q,e]at b3;cases b3;rw[hd]at b6;cases b6
 have hb:s.heap.BuiltinsAt X.mg T:=⟨bm,ob,b1,b2,hbG,nT _ _ b3,I.bk _ _ b3,b4,b5,b6⟩
 refine PySem.W.kla_eval hdef ?_
 cases hf:codeAmong lpos ps.toList with
 |none=>
  refine PySem.W.kla_makeFunction (mg:=X.mg) hcl I.ok.glob hgs hcode (C.keeps I.bk) hP ht hf hgP hb fun c' ctv h' tk hx hge hlt hrec htb=>?_
  obtain⟨c₂,oc,vs,t,e2,hoc,hd,hv⟩:=hrec
  cases e2
  have I1:=I.grown (t':=tk) eT hx hge hoc htb
  have I2:=I1.kept (h':=h'.push (PySem.W.kla_obj "<lambda>" (X.env.qual++ "<lambda>") params body scope cl ((X.mg "__name__").getD .none) c' ctv)) (t':=tk) (fun b u e=>Heap.get?_push_of_some _ e)
  have hTc:T≠c':=Nat.ne_of_lt (Nat.lt_of_lt_of_le (I.hok.lt eT) hge)
  have at_:∀b u,(∀q,u≠ .tbl q)->H b=some u->upd (upd H T (.tbl (ps++#[rawInt lpos.line,rawInt lpos.col,.ref c']))) c' (.frz oc (.own 0)) b=some u:=fun b u n e=>by
   rw[bU (Nat.ne_of_lt (Nat.lt_of_lt_of_le (I.hok.lt e) hge)),bU (fun z=>by rw[z,eT]at e;cases e;exact n _ rfl)];exact e
  refine h _ c' ctv _ _ I2 at_ ⟨ps++#[rawInt lpos.line,rawInt lpos.col,.ref c'],by rw[bU hTc,aA],?_,fun pos cv z=>?_⟩ (I1.hok.fresh (Nat.le_refl _)) (Heap.get?_push_size _ rfl) ⟨oc,vs,t,aA,hd,hv⟩
  ·rw[Array.toList_append];exact TriplesOk_snoc _ _ _ _ ht
  ·rw[Array.toList_append]at z
   rcases yW ht z with z|z
   ·obtain⟨c3,oc3,vs3,t3,e3,f3,r3⟩:=hk pos cv z
    exact⟨c3,oc3,vs3,t3,e3,at_ _ _ (fun _ z=>nomatch z) f3,r3⟩
   ·exact⟨c',oc,vs,t,z,aA,hd,hv⟩
 |some cv=>
  obtain⟨c',oc,vs,t,rfl,fc,hd,hv⟩:=hk lpos cv hf
  refine PySem.W.kla_makeFunctionHit (mg:=X.mg) hcl I.ok.glob hgs hcode (C.keeps I.bk) hP ht hf hb fun ctv h' tk hk' hsz=>?_
  have I1:=I.kept (h':=h') (t':=tk) hk'
  have I2:=I1.kept (h':=h'.push (PySem.W.kla_obj "<lambda>" (X.env.qual++ "<lambda>") params body scope cl ((X.mg "__name__").getD .none) c' ctv)) (t':=tk) (fun b u e=>Heap.get?_push_of_some _ e)
  exact h _ c' ctv _ _ I2 (qg.refl _) ⟨ps,eT,ht,hk⟩ (I1.hok.fresh (Nat.le_refl _)) (Heap.get?_push_size _ rfl) ⟨oc,vs,t,fc,hd,hv⟩
theorem GV{P:Program}{w:World}{K:PySem.W.Frag}{mg:Str->Option Value}{base:Heap}{N:List Str}{qual:Str}{scope:Scope}{f:Addr}{cd:Value}{cl:List (Str×Addr)}{A:Around}{outer:List Env}{s:Shared}{H:Hp}{E:XK}{σ:St}{h₁:Heap}{tk:Nat}
  (hk:scope.kind = .function) (hd:A.handled=none) (e0:Gw P w K mg base A outer s H)
  (cells:∀x c,cl.lookup x=some c->∃v,s.heap.IsCell c v/\H c=none) (inj:∀x y c,cl.lookup x=some c->cl.lookup y=some c->x=y)
  (has:∀x,(scope.names.lookup x=some .cell∨scope.names.lookup x=some .free)->∃c,cl.lookup x=some c)
  (vals:∀(i:Nat) (x:Str) (v:V),N[i]?=some x->σ[i]?=some (some v)->∃u,RelV v u/\scope.names.lookup x=some .free/\∃c,cl.lookup x=some c/\s.heap.IsCell c (some u)) (len:σ.length=N.length)
  (hns:h₁.Ns s.heap.objs.size fun _=>none) (keep:∀b o,s.heap.get? b=some o->h₁.get? b=some o):
  Inv (cxL P w K mg base N qual scope f cd cl A outer s H E) [] σ H { s with heap:=h₁,toks:=tk }:=by
 have noA:∀b:Addr,b∉(cxL P w K mg base N qual scope f cd cl A outer s H E).ex:=fun b z=>absurd (show b∈([]:List Addr)from z) (by simp)
 have ck:∀c v,s.heap.IsCell c v->h₁.IsCell c v:=fun c v ⟨o,a,b⟩=>⟨o,keep _ _ a,b⟩
 refine⟨⟨e0.mod,hk,rfl,rfl,Nat.le_refl _,inj,has,(fun y c h=>nomatch h),fun _=>hd,Around.frames_deeper e0.frames,.inr ⟨rfl,rfl⟩,fun b z=>absurd z (noA b),e0.bs,e0.bsz,fun b _ _=>noA b,fun b z=>absurd z (noA b),e0.yF,e0.frf⟩,
  rfl,e0.bare,Un.kept keep,⟨_,hns,fun i y v h1 h2 h3=>?_⟩,fun y c h=>?_,e0.hok.fresh (Nat.le_refl _),fun y c h=>?_,fun p hp=>absurd (show p∈([]:List (Addr×Obj))from hp) (by simp),e0.hok.kept keep,len⟩
 ·obtain⟨u,r,k,c,e,z⟩:=vals i y v h1 h2
  exact⟨u,r,.inr ⟨.inr k,c,e,ck _ _ z⟩⟩
 ·obtain⟨v,z,_⟩:=cells y c h
  exact⟨v,ck _ _ z⟩
 ·obtain⟨_,_,n⟩:=cells y c h
  exact n
noncomputable def Sq(T:Addr)(qual:Str)(ix:List (Option Nat))(spG:(Hp->VK->XK->Prop)->Hp->VK->XK->Prop)(tb:XK->TE):TE:=
 fun σ H Q=>pO H T qual/\∀H1,qg H H1->pO H1 T qual->spG (fun H' Q' E'=>tb E' (cst ix σ) H' Q') H1 Q E0
theorem Gk{g:Str}{k k' kl:Nat}{spG:(Hp->VK->XK->Prop)->Hp->VK->XK->Prop}{par:Str}{T:Addr}{qual:Str}{params:Arguments}{body:Expr}{scope:Scope}{lpos p pos:Pos}{N:List Str}{ix:List (Option Nat)}{tb:XK->TE}
  (C:KZ X.prog X.w X.K X.mg X.base g k [par] (xQ X.prog X.w X.K X.mg X.base (kl+1) spG)) (hr:iw k' X.A) (hg:Gl X g) (M:MkC X.mg X.base X.env.code T) (O:Iv X scope N ix)
  (hb:∀(f:Addr) (cd:Value) (cl:List (Str×Addr)) (A:Around) (outer:List Env) (s:Shared) (H:Hp) (E:XK),iw kl (A.deeper (PySem.W.envX qual scope s.heap.objs.size f cd cl))->PE (cxL X.prog X.w X.K X.mg X.base N qual scope f cd cl A outer s H E) body (tb E))
  (hq:X.env.qual++ "<lambda>" = qual) (hp:params={ posonlyargs:=[],args:=[],vararg:=none,kwonlyargs:=[],kw_defaults:=[],kwarg:=none,defaults:=[] }:=by rfl)
  (hk:k<=k':=by decide) (hd:(g==("__debug__" : Str))=false:=by decide):
  PE X (.Call (.Name g p) [.Lambda params body scope lpos] [] pos) (Sq T qual ix spG tb):=by
 intro pins s σ H Q I ⟨hT,h⟩
 subst hp
 obtain⟨gf,gd,hm,hkp,hbd,F⟩:=C.ex
 obtain⟨cl,ecl,hcl1,hcl2⟩:=lZ (env:=X.env) (scope:=scope) fun y hy hf=>I.ok.has y.1 (O.free y hy hf)
 refine wpAny_Call_Name_kw (nQ I hg hm ?_ hd)
 refine PySem.W.callWith_K (h₀:=X.base) I.ok.mod.kin hkp (Calls.spliced_cons ?_) rfl rfl
 refine Io (params:={ posonlyargs:=[],args:=[],vararg:=none,kwonlyargs:=[],kw_defaults:=[],kwarg:=none,defaults:=[] }) (body:=body) (lpos:=lpos) I M hT hq ecl rfl fun f c' ctv s1 H1 I1 g1 hT1 hf1 ho hc'=>?_
 refine Calls.spliced_nil ⟨I1.kIn,?_⟩
 have L:Lam X.prog X.w X.K X.mg X.base (kl+1) s1 H1 f (fun H' Q' E'=>tb E' (cst ix σ) H' Q'):=by
  refine⟨⟨_,_,ho,rfl⟩,hf1,fun A outer s' H' fs Q' E' hr' e0 un hsp=>?_⟩
  obtain⟨sl,ho'⟩:=un.any ho hf1 (by simp)
  obtain⟨oc,vs,t,fc,hdc,hv⟩:=hc'
  have fc':=un.frzs _ _ _ fc
  have hoc:=(e0.hok _ _ fc').1
  have lim:s'.heap.NoLimit:=e0.mod.nolimit.keeps fun b o e=>(e0.bs b o e).1
  refine PySem.W.kla_callFunE hr'.depth ho' rfl O.co O.gen rfl ⟨c',oc,vs,t,rfl,hoc,hdc,hv⟩ ?_
  refine wpAny_pure (wpAny_newFunctionEnv (binds:=[]) O.cell (fun _ z=>nomatch z) (fun h₁ hns hsb=>?_) O.kind)
  have keep:∀b o,s'.heap.get? b=some o->h₁.get? b=some o:=fun b o e=>hsb.extBut b o (Nat.ne_of_lt (Heap.lt_size e)) (Heap.get?_push_of_some _ e)
  refine⟨lim.keeps keep,?_⟩
  have cellAt:∀x c,X.env.cells.lookup x=some c->∀v,s1.heap.IsCell c v->s'.heap.IsCell c v:=fun x c e v ⟨o,a,b⟩=>by
   obtain⟨sl,a'⟩:=un.any a (I1.freeC x c e) (by simp)
   exact⟨_,a',b⟩
  have hI:Inv (cxL X.prog X.w X.K X.mg X.base N qual scope f (.ref c') cl A outer s' H' E') [] (cst ix σ) H' { s' with heap:=h₁,toks:=s'.toks+0 }:=by
   refine GV O.kind hr'.hd e0 (fun x c e=>?_) (fun x y c e1 e2=>I.ok.inj x y c (hcl1 _ _ e1) (hcl1 _ _ e2)) (fun x hx=>hcl2 (x,.free) (O.has x hx) rfl) (fun i x v h1 h2=>?_) ?_ hns keep
   ·obtain⟨v,o,a,b⟩:=I1.cell x c (hcl1 _ _ e)
    exact⟨v,cellAt x c (hcl1 _ _ e) v ⟨o,a,b⟩,un.free c o a (I1.freeC x c (hcl1 _ _ e)) (by simp)⟩
   ·have h2':∃i',ix[i]?=some (some i')/\σ[i']?=some (some v):=by
     unfold cst at h2
     rw[List.getElem?_map]at h2
     cases e:ix[i]? with
     |none=>rw[e]at h2;cases h2
     |some oi=>
      rw[e]at h2
      cases oi with
      |none=>cases h2
      |some i'=>
       refine⟨i',rfl,?_⟩
       have h3:(match σ[i']? with|some v=>v|none=>none)=some v:=Option.some.inj h2
       cases e2:σ[i']? with
       |none=>rw[e2]at h3;cases h3
       |some z=>rw[e2]at h3;rw[<-h3]
    obtain⟨i',e1,e2⟩:=h2'
    obtain⟨hX,hmem,hfree⟩:=O.ix i x i' h1 e1
    have hkind:=O.free _ hmem rfl
    have hvis:Vis X.env.scope x:=by
     rcases hkind with z|z
     ·exact .inr (.inl z)
     ·exact .inr (.inr z)
    obtain⟨m,hn,hl⟩:=I1.loc
    obtain⟨u,r,l⟩:=hl i' x v hX e2 hvis
    rcases l with⟨z,_⟩|⟨_,c,ec,hcell⟩
    ·rcases hkind with y|y<;>(rw[y]at z;cases z)
    ·obtain⟨c2,hc2⟩:=hcl2 (x,.free) hmem rfl
     have:=hcl1 _ _ hc2
     rw[ec]at this;cases this
     exact⟨u,r,hfree,c,hc2,cellAt x c ec _ hcell⟩
   ·unfold cst
    rw[List.length_map,O.len]
  refine PySem.W.kla_codeExpr (env:=PySem.W.envX qual scope s'.heap.objs.size f (.ref c') cl) ?_
  refine wpAny_mono (hb f (.ref c') cl A outer s' H' E' (hr'.deeper _) [] _ _ _ _ hI hsp) (fun u s'' ⟨v,H'',J,rv,q⟩=>?_) fun e s'' z=>z
  exact⟨v,H'',J.os,J.bare,J.base,J.hok,rv,q⟩
 have hsp:xQ X.prog X.w X.K X.mg X.base (kl+1) spG s1 [.ref f] H1 Q E0:=⟨f,_,rfl,L,h H1 g1 hT1⟩
 refine wpAny_call (codeAny_mono (F.run X.A X.stack s1 H1 ⟨[.ref f],[]⟩ [.ref f] [.ref f] Q E0 (hr.mono hk) I1.env0 (hbd s1 [.ref f] I1.kIn rfl) (.cons rfl .nil) hsp) fun r s' hq=>?_)
 cases r with
 |error e=>exact(mK hq).elim
 |ok fl=>
  cases fl with
  |ret u=>exact I1.after hq
  |next=>exact False.elim hq
  |brk=>exact False.elim hq
  |cont=>exact False.elim hq
theorem GF{told:Str}{i k k':Nat}{tp cpos:Pos}{f:Addr}{sp0:Hp->VK->XK->Prop}{Q:VK}{E:XK}{R:Value->Shared->Prop}{EE:Value->Shared->Prop}(L:Lam X.prog X.w X.K X.mg X.base k X.s₀ X.H₀ f sp0)(hr:iw k' X.A)(hex:X.ex=[])(hN:X.N[i]?=some told)(hv:Vis X.env.scope told)(hk:k<=k')
  (hd:(told==("__debug__" : Str))=false) (hcd:(told==("__classdict__" : Str))=false) (I:Inv X pins σ H s) (hσ:σ[i]?=some (some (.ref f))) (h:sp0 H Q E)
  (ok:∀u s',EP X pins σ Q u s'->R u s') (er:∀s1 e s',Inv X pins σ H s1->jf X.prog X.w X.stack H s1 E e s'->EE e s'):
  wpAny (model X.prog X.w) X.A (eval (.Call (.Name told tp) [] [] cpos) X.env) R EE s:=by
 refine wpAny_Call_Name_kw ?_
 refine thn (Fx (X:=X.wish EE) hN hv hd hcd pins s σ H (fun v H'=>v = .ref f/\H'=H) (I.wish EE) ⟨.ref f,hσ,rfl,rfl⟩) fun u s1 ⟨v,H1,I1',r,e1,e2⟩=>?_
 subst e1;subst e2
 obtain rfl:u=Value.ref f:=r
 have I1:Inv X pins σ H1 s1:=I1'.lG
 have un:Un X.fs [] X.H₀ H1 X.s₀.heap s1.heap:=by have:=I1.base;rw[hex]at this;exact this
 obtain⟨⟨oc,od,odt,osl⟩,fd,ho,hdf⟩:=L.fn
 obtain rfl:odt = .func fd:=hdf
 obtain⟨sl,ho'⟩:=un.any ho L.un (by simp)
 refine PySem.W.callWith_of (P:=fun h=>h.get? f=some ⟨oc,od,.func fd,sl⟩) rfl (fun h e=>⟨.frame,.inl rfl,(PySem.W.Looks.ld (part:=none) e).andThen .now⟩) (PyProof.Rows.evalArgs_nil3 ⟨ho',?_⟩)
 refine wpAny_call (codeAny_mono (L.run X.A X.stack s1 H1 X.fs Q E (hr.mono hk) I1.env0 un h) fun rs s2 hq=>?_)
 cases rs with
 |ok fl=>
  cases fl with
  |ret u=>exact ok u s2 (I1.after hq)
  |next=>exact False.elim hq
  |brk=>exact False.elim hq
  |cont=>exact False.elim hq
 |error ev=>exact er s1 ev s2 I1 hq
noncomputable def C4(base:Heap)(R:Addr)(f:Addr)(sp0:Hp->VK->XK->Prop)(i v j:Nat)(ts:Addr->TS):TS:=fun D σ H=>σ[i]?=some (some (.ref f))/\sp0 H (fun y H2=>D.nx (σ.set v (some y)) H2) (FW base R j ts D σ)
theorem vI{n x told y:Str}{i v j k k':Nat}{f:Addr}{sp0:Hp->VK->XK->Prop}{R:Addr}{tp cpos vpos apos xp hpos pos:Pos}{b₀:Stmt}{suite:List Stmt}{ts:Addr->TS}
  (L:Lam X.prog X.w X.K X.mg X.base k X.s₀ X.H₀ f sp0) (hr:iw k' X.A) (hstk:X.stack=X.env::X.outer) (hfr:X.env.frame=some X.env.locals) (hex:X.ex=[]) (hi:X.N[i]?=some told) (hv:Vis X.env.scope told) (hN:X.N.Nodup)
  (hy:X.N[v]?=some y) (hl:Loc X.env.scope y)
  (hj:X.N[j]?=some n) (hn:X.env.scope.names.lookup n=some .local) (hx:Gl X x) (hR:X.mg x=some (.ref R)) (hs:∀a,PSs (cxS X a) (b₀::suite) (ts a)) (hk:k<=k':=by decide)
  (hdf:(told==("__debug__" : Str))=false:=by decide) (hcd:(told==("__classdict__" : Str))=false:=by decide) (hdx:(x==("__debug__" : Str))=false:=by decide)
  (hsw:swapsWith (.Call (.Name told tp) [] [] cpos) (some (.Name y vpos)) apos.line X.env=pure false:=by rfl) (hfv:X.fn y=true∨X.env.scope.names.lookup y=some .local:=by first|exact .inl rfl|exact .inr rfl|assumption):
  PS X (.Try [.Assign [.Name y vpos] (.Call (.Name told tp) [] [] cpos) apos] [.ExceptHandler (some (.Name x xp)) (some n) (b₀::suite) hpos] [] [] pos) (C4 X.base R f sp0 i v j ts):=by
 intro pins s σ H D I ⟨hσ,h⟩
 refine wpAny_Try_except (wpAny_execs_cons (wpAny_Assign_Name (GF L hr hex hi hv hk hdf hcd I hσ h (fun u s' ⟨z,H2,I2,ry,q2⟩=>?_) fun s1 e s' I1 hq=>?_) hsw))
 ·exact kY I2 hN hy hl ry (fun s3 I3=>wpAny_execs_nil (wpAny_execs_nil ⟨_,H2,I3,q2⟩)) hfv
 ·exact zN hstk hfr hex hN hj hn hx hR hs hdx I I1 hq
end
noncomputable def JW(o:Obj):Bool:=match o.cls,o.data with
 |.none,.fields vs=>vs.isEmpty
 |_,_=>false
theorem zQ{P:Program}{w:World}{K:PySem.W.Frag}{mg mb:Str->Option Value}{CX:CXT}{k:Nat}{fa a T:Addr}{fd:FuncData}{x x₀:Str}{sp:Sp}{s₁:Shared}{vs:List Value}{ns:List Int}
  (KX:K.In s₁.heap) (hns:s₁.heap.Ns mainGlobals mg) (hb:s₁.heap.Ns builtinsNs mb) (hbb:∀x:Str,x≠ "__name__" -> mb x=bootBuiltins x) (hlim:s₁.heap.NoLimit) (hdig:s₁.heap.NoDigits) (hg:s₁.gens=#[])
  (hT:s₁.heap.get? T=some (PySem.W.tabObj #[])) (hKT:K.lookup T=none) (M:MkD mg s₁.heap x₀ T) (hcT:isCodeTable s₁.heap T)
  (ha:s₁.heap.get? a=some { cls:= .type "list",data:= .seq vs.toArray }) (hi:IntsAre vs ns) (hl:ns.length<=sizeLine) (hr:iw k callerA)
  (F:∀base:Heap,K.In base->base.Ns mainGlobals mg->MkD mg base x₀ T->zY P w K mg base CX k fa fd [x] sp) (hbind:∀(s:Shared) (u:Value),BindsTo s fd ⟨[u],[]⟩ [(x,u)])
  (hsp:∀H:Hp,SqL K H a (ns.map V.int)->(∀q,pO H T q)->sp [.ref a] H (fun v _=>v = .bl true) fun _ _ _=>False)
  (hCX:∀H e s',CX [] H s₁ (fun _ _ _=>False) e s'->False):
  codeAny (model P w) callerA (.call (.ref fa) ⟨[.ref a],[]⟩) (fun r s'=>r = .ok (.ret (.bool true))/\OldK s₁.heap s'.heap/\s'.os=s₁.os/\AllBare s'.gens) s₁:=by
 have rv:=C0 hi
 have lenV:=hi.length
 have core:∀H:Hp,H T=some (.tbl #[])->(∀b,b≠T->H b=none∨∃o xs,H b=some (.frz o (.lst xs)))->SqL K H a (ns.map V.int)->HOk P w H s₁.heap->(∀b,H b≠none->b=a∨b=T)->(H a≠none->K.lookup a=none)->
   codeAny (model P w) callerA (.call (.ref fa) ⟨[.ref a],[]⟩) (fun r s'=>r = .ok (.ret (.bool true))/\OldK s₁.heap s'.heap/\s'.os=s₁.os/\AllBare s'.gens) s₁:=by
  intro H eT hO hS hok hA hK
  have base_of:∀{b:Addr} {o:Obj},s₁.heap.get? b=some o->H b=none->(Dj s₁.heap H).get? b=some o:=fun e n=>Ed e n
  have no2:∀{b:Addr} {o:Obj},s₁.heap.get? b=some o->(∀xs n,o.data≠ .seq xs n)->o.cls≠ .none->H b=none:=fun {b o} e d c=>by
   cases q:H b with
   |none=>rfl
   |some u=>
    rcases hA b (by rw[q];simp)with e'|e'
    ·subst e'
     rw[ha]at e;cases e
     exact absurd rfl (d _ _)
    ·subst e'
     rw[hT]at e;cases e
     exact absurd rfl c
  have noA:∀{b:Addr} {o:Obj} {es:Array DictEntry} {ep:Nat},s₁.heap.get? b=some o->o.data = .dict es ep->H b=none:=fun {b o es ep} e d=>by
   cases q:H b with
   |none=>rfl
   |some u=>
    rcases hA b (by rw[q];simp)with e'|e'
    ·subst e'
     rw[ha]at e;cases e
     have d':Data.seq vs.toArray _=Data.dict es ep:=d
     cases d'
    ·subst e'
     rw[hT]at e;cases e
     have d':Data.fields _=Data.dict es ep:=d
     cases d'
  have nsK:∀{b:Addr} {m:Str->Option Value},s₁.heap.Ns b m->(Dj s₁.heap H).Ns b m:=fun {b m} ⟨o,es,ep,e,d,r⟩=>⟨o,es,ep,base_of e (noA e d),d,r⟩
  have hKb:K.In (Dj s₁.heap H):=fun b o e=>base_of (KX b o e) (by
   cases q:H b with
   |none=>rfl
   |some u=>
    rcases hA b (by rw[q];simp)with e'|e'
    ·subst e'
     rw[hK (by rw[q];simp)]at e;cases e
    ·subst e'
     rw[hKT]at e;cases e)
  have hM:Mod K mg (Dj s₁.heap H):=⟨hKb,nsK hns,⟨mb,nsK hb,hbb⟩,let⟨mc,h1,h2⟩:=hlim;⟨mc,nsK h1,h2⟩,let⟨mc,h1,h2⟩:=hdig;⟨mc,nsK h1,h2⟩⟩
  have e0:Gw P w K mg (Dj s₁.heap H) callerA [] s₁ H:=⟨rfl,hM,fun b o e=>Ig e,Nat.le_of_eq (Cv _ _),trivial,fun b hb=>absurd (show b∈([]:List Addr)from hb) (by simp),hok,.of_eq hg⟩
  have mk:MkD mg (Dj s₁.heap H) x₀ T:=by
   obtain⟨a0,o,fd0,m1,m2,m3,⟨c,c1,oc,ws,file,tf,flags,tg,inF,text,tt,g1,g2,g3,g4,g5,g6,g7,g8,g9,g10⟩,⟨bm,ob,b1,b2,b3,b4,b5,b6⟩⟩:=M.ex
   have n1:H a0=none:=by
    cases q:H a0 with
    |none=>rfl
    |some u=>
     rcases hA a0 (by rw[q];simp)with e'|e'
     ·subst e';rw[ha]at m2;cases m2;cases m3
     ·subst e';rw[hT]at m2;cases m2;cases m3
   have n2:H c=none:=no2 g1 (fun xs n z=>by rw[g3]at z;cases z) (fun z=>by rw[g2]at z;cases z)
   have n3:H bm=none:=no2 b3 (fun xs n z=>by rw[b6]at z;cases z) (fun z=>by rw[b4]at z;cases z)
   exact⟨a0,o,fd0,m1,base_of m2 n1,m3,⟨c,c1,oc,ws,file,tf,flags,tg,inF,text,tt,base_of g1 n2,g2,g3,g4,g5,g6,g7,g8,g9,g10⟩,⟨bm,ob,b1,b2,base_of b3 n3,b4,b5,b6⟩⟩
  refine codeAny_mono ((F _ hKb (nsK hns) mk).run callerA [] s₁ H ⟨[.ref a],[]⟩ [.ref a] [.ref a] _ _ hr e0 (hbind s₁ (.ref a)) (.cons rfl .nil) (hsp H hS fun q=>⟨#[],eT,trivial,fun pos cv z=>by cases z⟩)) fun r s' h=>?_
  cases r with
  |error e=>exact(hCX H e s' h).elim
  |ok fl=>
   cases fl with
   |next=>exact False.elim h
   |brk=>exact False.elim h
   |cont=>exact False.elim h
   |ret u=>
    obtain⟨v,H',os,bare,un,hok',r',q⟩:=h
    have q':v = .bl true:=q
    subst q'
    obtain rfl:u=Value.bool true:=r'
    have Nm:∀b:Addr,b∉frs []:=fun b z=>absurd (show b∈([]:List Addr)from z) (by simp)
    refine⟨rfl,⟨fun b o e=>?_,fun b o e=>un.there b o e (by simp)⟩,os,bare⟩
    by_cases hbT:b=T
    ·subst hbT
     rw[hT]at e;cases e
     obtain⟨more,z⟩:=un.tbls b _ eT
     exact .inr (.inl ⟨hcT,rfl,#[],more,rfl,hok' b _ z⟩)
    ·refine .inl ?_
     cases q:H b with
     |none=>exact un.keep b o e q (Nm b) (by simp)
     |some u=>
      rcases hO b hbT with z|⟨ob,xs,z⟩
      ·rw[q]at z;cases z
      ·have z2:=un.frzs b ob _ z
       obtain⟨e1,_⟩:=hok b _ z
       obtain⟨e2,_⟩:=hok' b _ z2
       rw[e]at e1;cases e1
       exact e2
 have haT:a≠T:=fun z=>by rw[z,hT]at ha;cases ha
 cases hk:K.lookup a with
 |some o=>
  have e:=KX a o hk
  rw[ha]at e
  cases e
  refine core (fun b=>if b=T then some (.tbl #[])else none) (if_pos rfl) (fun b hb=> .inl (if_neg hb)) (.inr ⟨_,vs.toArray,_,hk,rfl,rfl,rfl,by rw[List.size_toArray,lenV];exact hl,by simpa using rv⟩) (fun b u z=>?_) (fun b z=>?_) fun z=>absurd (if_neg haT) z
  ·by_cases hb:b=T
   ·have z':=(if_pos hb).symm.trans z
    cases z'
    subst hb
    exact hT
   ·have z':=(if_neg hb).symm.trans z
    cases z'
  ·by_cases hb:b=T
   ·exact .inr hb
   ·exact absurd (if_neg hb) z
 |none=>
  have at_:∀b:Addr,b≠T->(if b=T then some (HO.tbl #[])else if b=a then some (HO.frz { cls:= .type "list",data:= .seq vs.toArray } (.lst (ns.map V.int)))else none)=if b=a then some (HO.frz { cls:= .type "list",data:= .seq vs.toArray } (.lst (ns.map V.int)))else none:=fun b hb=>if_neg hb
  refine core (fun b=>if b=T then some (.tbl #[])else if b=a then some (.frz { cls:= .type "list",data:= .seq vs.toArray } (.lst (ns.map V.int)))else none) (if_pos rfl) (fun b hbT=>?_)
   (.inl (.inr ⟨{ cls:= .type "list",data:= .seq vs.toArray },(at_ a haT).trans (if_pos rfl)⟩)) (fun b u z=>?_) (fun b z=>?_) fun _=>hk
  ·by_cases hb:b=a
   ·exact .inr ⟨_,_,(at_ b hbT).trans (if_pos hb)⟩
   ·exact .inl ((at_ b hbT).trans (if_neg hb))
  ·by_cases hbT:b=T
   ·have z':=(if_pos hbT).symm.trans z
    cases z'
    subst hbT
    exact hT
   ·have z:=(at_ b hbT).symm.trans z
    by_cases hb:b=a
    ·have z':=(if_pos hb).symm.trans z
     cases z'
     subst hb
     exact⟨ha,by rw[List.length_map];exact hl,vs,_,rv,ha⟩
    ·have z':=(if_neg hb).symm.trans z
     cases z'
  ·by_cases hbT:b=T
   ·exact .inr hbT
   ·by_cases hb:b=a
    ·exact .inl hb
    ·exact absurd ((at_ b hbT).trans (if_neg hb)) z
theorem Dn{l:PySem.W.OpenLaw}{n k:Nat}{q:Program}{loose:List Str}{XP:(Str->Option Value)->Heap->Prop}{YP:World->Heap->Prop}{d:DefRec}{K:Params->PySem.W.Frag}{CX:World->CXT}{sp:World->Addr->Sp}{x:Str}(x₀:Str)
  (hn:l.most=some n) (hn2:n<=sizeLine) (hdf:d.params.defaults=[]) (hr:iw k callerA)
  (hY:∀(w:World) (h:Heap),YP w h->(K w.params).In h)
  (hx:(recsOf q).any (fun d=>d.name==x₀)=true) (hno:∀P:Params,(K P).all (fun p=>!JW p.2)=true)
  (F:∀(w:World) (mg:Str->Option Value) (fa:Addr) (h:Heap),(K w.params).In h->h.Ns mainGlobals mg->mg d.name=some (.ref fa)->
   ∃fd:FuncData,(∀(s:Shared) (u:Value),BindsTo s fd ⟨[u],[]⟩ [(x,u)])/\
    ∀(T:Addr) (base:Heap),(K w.params).In base->base.Ns mainGlobals mg->MkD mg base x₀ T->zY l.prog w (K w.params) mg base (CX w) k fa fd [x] (sp w T))
  (hsp:∀(w:World) (T:Addr) (H:Hp) (a:Addr) (ns:List Int),ns.length<=n->(∀x∈ns,Builtin.Int.intBits x<=1048576)->(∀q,pO H T q)->SqL (K w.params) H a (ns.map V.int)->sp w T [.ref a] H (fun v _=>v = .bl true) fun _ _ _=>False)
  (hCX:∀(w:World) (H:Hp) (s:Shared) (e:Value) (s':Shared),CX w [] H s (fun _ _ _=>False) e s'->False):
  PySem.W.WalkO q loose XP YP l.row.toRowW d [] (fun f vs=>PySem.call f vs):=by
 refine Att.ur hn hdf fun w s₀ s₁ mg mb fa o pm cd doc a vs ns G Y ho hd hcd hmg hobj hints hlen hbits hg=>?_
 have KX:=hY w _ Y
 obtain⟨fd,hb,hF⟩:=F w mg fa _ KX G.T.g hmg
 obtain⟨d0,hd0,en⟩:=List.any_eq_true.mp hx
 obtain⟨a0,o0,fd0,c,T,t1,t2,t3,t4,t5,t6⟩:=G.T.tab d0 hd0
 rw[eq_of_beq en]at t1
 have hKT:(K w.params).lookup T=none:=by
  cases q:(K w.params).lookup T with
  |none=>rfl
  |some u=>
   exfalso
   have e:=KX T u q
   rw[t6.2]at e;cases e
   have:=List.all_eq_true.mp (hno w.params) _ (PySem.W.mem_of_lookupK q)
   cases this
 exact zQ (x₀:=x₀) KX G.T.g G.T.b G.T.builtins G.T.nolimit G.T.nodigits hg t6.2 hKT ⟨a0,o0,fd0,t1,t2,t3,⟨c,t4,PySem.W.CodeHd.of t5 t6⟩,G.T.bmain⟩ t6.isCodeTable hobj hints (Nat.le_trans hlen hn2) hr (hF T) hb
  (fun H hS hT=>hsp w T H a ns hlen hbits hT hS) fun H e s'=>hCX w H s₁ e s'
end L2
namespace Rm
noncomputable def tk(b n:Int):Int:=if b=0 then n else n%b
theorem bD(n:Int):tk 0 n=n:=if_pos rfl
theorem dU{b:Int}(h:b≠0)(n:Int):tk b n=n%b:=if_neg h
theorem iY(b n:Int):tk b (tk b n)=tk b n:=by
 unfold tk;split
 ·rfl
 ·exact Int.emod_emod_of_dvd _ (Int.dvd_refl b)
theorem cJ(b x y:Int):tk b (tk b x+y)=tk b (x+y):=by
 unfold tk;split
 ·rfl
 ·exact Int.emod_add_emod ..
theorem fZ(b x y:Int):tk b (x+tk b y)=tk b (x+y):=by
 rw[Int.add_comm,cJ,Int.add_comm]
theorem bN(b x y:Int):tk b (x*tk b y)=tk b (x*y):=by
 unfold tk;split
 ·rfl
 ·rw[Int.mul_emod,Int.emod_emod_of_dvd _ (Int.dvd_refl b),<-Int.mul_emod]
theorem cT(b x y:Int):tk b (tk b x*y)=tk b (x*y):=by
 rw[Int.mul_comm,bN,Int.mul_comm]
theorem bf{b x x' y y':Int}(h:tk b x=tk b x')(h':tk b y=tk b y'):tk b (x+y)=tk b (x'+y'):=by
 rw[<-cJ,<-fZ,h,h',fZ,cJ]
noncomputable def S(rule:List Int)(f:Nat->Int)(n:Nat):Nat->Int
 |0=>0
 |m+1=>S rule f n m+rule.getD m 0*f (n-1-m)
theorem u9{rule:List Int}{f g:Nat->Int}{n:Nat}:∀{m:Nat},(∀k,k<m->f (n-1-k)=g (n-1-k))->S rule f n m=S rule g n m
 |0,_=>rfl
 |m+1,h=>by
  unfold S
  rw[u9 fun k hk=>h k (by omega),h m (by omega)]
theorem Aq{rule:List Int}{f:Nat->Int}{n d:Nat}:∀{m:Nat},m<=n->S rule (fun i=>f (d+i)) n m=S rule f (d+n) m
 |0,_=>rfl
 |m+1,h=>by
  unfold S
  rw[Aq (by omega),show d+n-1-m=d+(n-1-m)by omega]
theorem getD_map{f:Int->Int}(h0:f 0=0):∀(l:List Int) (k:Nat),(l.map f).getD k 0=f (l.getD k 0)
 |[],k=>by simp[h0]
 |x::r,0=>by simp
 |x::r,k+1=>by
  have:=getD_map h0 r k
  simpa using this
noncomputable def row(b:Int)(rule starts:List Int):Nat->List Int
 |0=>[]
 |n+1=>row b rule starts n++[if n<starts.length then starts.getD n 0 else tk b (S rule (fun i=>(row b rule starts n).getD i 0) n rule.length)]
theorem eZ(b:Int)(rule starts:List Int):∀n,(row b rule starts n).length=n
 |0=>rfl
 |n+1=>by simp[row,eZ b rule starts n]
noncomputable def at_(b:Int)(rule starts:List Int)(n:Nat):Int:=(row b rule starts (n+1)).getD n 0
theorem rH(b:Int)(rule starts:List Int):∀{n i:Nat},i<n->(row b rule starts n).getD i 0=at_ b rule starts i
 |n+1,i,h=>by
  by_cases e:i=n
  ·subst e;rfl
  ·have hi:i<n:=by omega
   have hl:=eZ b rule starts n
   have:=rH b rule starts (n:=n) (i:=i) hi
   rw[<-this]
   show(row b rule starts n++_).getD i 0=_
   rw[List.getD_eq_getElem?_getD,List.getElem?_append_left (by omega),<-List.getD_eq_getElem?_getD]
theorem wB(b:Int)(rule starts:List Int)(n:Nat):at_ b rule starts n=if n<starts.length then starts.getD n 0 else tk b (S rule (fun i=>(row b rule starts n).getD i 0) n rule.length):=by
 unfold at_
 have hl:=eZ b rule starts n
 show(row b rule starts n++_).getD n 0=_
 rw[List.getD_eq_getElem?_getD,List.getElem?_append_right (by omega),hl]
 simp
theorem ql{b:Int}{rule starts:List Int}{n:Nat}(h:n<starts.length):at_ b rule starts n=starts.getD n 0:=by
 rw[wB,if_pos h]
theorem su{b:Int}{rule starts:List Int}{n:Nat}(hl:rule.length=starts.length)(h:starts.length<=n):at_ b rule starts n=tk b (S rule (at_ b rule starts) n rule.length):=by
 rw[wB,if_neg (by omega)]
 congr 1
 refine u9 fun k hk=>rH b rule starts (by omega)
theorem BK(b:Int)(rule starts:List Int):∀n,row b rule starts n=(List.range n).map (at_ b rule starts)
 |0=>rfl
 |n+1=>by
  rw[List.range_succ,List.map_append,<-BK b rule starts n]
  show _++[_]=_++[at_ b rule starts n]
  rw[wB]
theorem EB(b:Int)(rule starts:List Int)(n:Nat):row b rule starts (n+1)=row b rule starts n++[at_ b rule starts n]:=by
 rw[wB];rfl
theorem rD{b:Int}{rule starts:List Int}(hl:rule.length=starts.length){g:Nat->Int}(h1:∀i,i<starts.length->g i=starts.getD i 0)
  (h2:∀i,starts.length<=i->g i=tk b (S rule g i rule.length)):∀n,at_ b rule starts n=g n:=by
 intro n
 induction n using Nat.strongRecOn with
 |ind n ih=>
  by_cases h:n<starts.length
  ·rw[ql h,h1 n h]
  ·rw[su hl (by omega),h2 n (by omega)]
   congr 1
   exact u9 fun k hk=>ih _ (by omega)
theorem mW{b:Int}{rule starts:List Int}:∀{n:Nat},n<=starts.length->row b rule starts n=starts.take n
 |0,_=>by simp[row]
 |n+1,h=>by
  rw[EB,mW (by omega),ql (by omega),List.take_add_one,List.getD_eq_getElem?_getD,List.getElem?_eq_getElem (by omega)]
  rfl
theorem CM{b:Int}{rule starts w:List Int}{d:Nat}(hl:rule.length=starts.length)(hw:w.length=starts.length)(h:∀i,i<w.length->w.getD i 0=at_ b rule starts (d+i))(n:Nat):
  at_ b rule w n=at_ b rule starts (d+n):=by
 refine rD (by omega) (g:=fun i=>at_ b rule starts (d+i)) (fun i hi=>(h i hi).symm) (fun i hi=>?_) n
 rw[Aq (by omega),su hl (by omega)]
noncomputable def Bd(n:Nat)(x:Int):Prop:=x.natAbs<2^n
theorem Bd.mono{m n:Nat}{x:Int}(h:Bd m x)(hmn:m<=n):Bd n x:=Nat.lt_of_lt_of_le h (Nat.pow_le_pow_right (by decide) hmn)
theorem Bd.mul{m n:Nat}{x y:Int}(h:Bd m x)(h':Bd n y):Bd (m+n) (x*y):=by
 unfold Bd at *
 rw[Int.natAbs_mul,Nat.pow_add]
 exact Nat.mul_lt_mul'' h h'
theorem Bd.add{n:Nat}{x y:Int}(h:Bd n x)(h':Bd n y):Bd (n+1) (x+y):=by
 unfold Bd at *
 have:=Int.natAbs_add_le x y
 rw[Nat.pow_succ]
 omega
theorem Bd.zero(n:Nat):Bd n 0:=Nat.pow_pos (by decide)
theorem Bd.of{n:Nat}{x:Int}(h1:-(2^n)<x)(h2:x<2^n):Bd n x:=by
 unfold Bd
 have e:((2^n:Nat):Int)=(2:Int)^n:=by simp
 omega
theorem Bd.emod{n:Nat}{x b:Int}(hb:0<b)(h:Bd n b):Bd n (x%b):=by
 unfold Bd at *
 have:=Int.emod_nonneg x (show b≠0 by omega)
 have:=Int.emod_lt_of_pos x hb
 omega
theorem Bd.S{rule:List Int}{f:Nat->Int}{n a c:Nat}(hr:∀k,Bd a (rule.getD k 0)):∀m:Nat,(∀k,k<m->Bd c (f (n-1-k)))->Bd (a+c+m) (Rm.S rule f n m)
 |0,_=>Bd.zero _
 |m+1,h=>by
  unfold Rm.S
  refine Bd.add (n:=a+c+m) (Bd.S hr m fun k hk=>h k (by omega)) (((hr m).mul (h m (by omega))).mono (by omega))
theorem uR(l:List Int)(k:Nat):l.getD k 0=0∨l.getD k 0∈l:=by
 by_cases h:k<l.length
 ·right
  rw[List.getD_eq_getElem?_getD,List.getElem?_eq_getElem h]
  exact List.getElem_mem h
 ·left
  rw[List.getD_eq_getElem?_getD,List.getElem?_eq_none (by omega)]
  rfl
theorem Bd.getD{l:List Int}{n:Nat}(h:∀x∈l,Bd n x)(k:Nat):Bd n (l.getD k 0):=by
 rcases uR l k with e|e
 ·rw[e];exact .zero n
 ·exact h _ e
theorem uc{b x:Int}{n:Nat}(hb:0<=b)(hb':Bd n b)(h:Bd n x):Bd n (tk b x):=by
 unfold tk
 split
 ·exact h
 ·exact Bd.emod (by omega) hb'
theorem Bh{b:Int}{rule starts:List Int}{a c:Nat}(hl:rule.length=starts.length)(hb:0<=b)(hb':Bd c b)(hr:∀x∈rule,Bd a x)(hs:∀x∈starts,Bd c x):
  ∀n,Bd (c+n*(a+rule.length)) (at_ b rule starts n):=by
 intro n
 induction n using Nat.strongRecOn with
 |ind n ih=>
  by_cases h:n<starts.length
  ·rw[ql h]
   exact(Bd.getD hs n).mono (by omega)
  ·rw[su hl (by omega)]
   by_cases h0:rule.length=0
   ·rw[h0]
    exact uc hb (hb'.mono (by omega)) (.zero _)
   ·have hn:0<n:=by omega
    have q:=Bd.S (rule:=rule) (f:=at_ b rule starts) (n:=n) (a:=a) (c:=c+(n-1)*(a+rule.length)) (fun k=>Bd.getD hr k) rule.length fun k hk=>by
     refine(ih (n-1-k) (by omega)).mono ?_
     have:(n-1-k)*(a+rule.length)<=(n-1)*(a+rule.length):=Nat.mul_le_mul_right _ (by omega)
     omega
    have e:n*(a+rule.length)=(n-1)*(a+rule.length)+(a+rule.length):=by
     obtain⟨m,rfl⟩:∃m,n=m+1:=⟨n-1,by omega⟩
     rw[Nat.add_sub_cancel,Nat.succ_mul]
    exact uc hb (hb'.mono (by omega)) (q.mono (by omega))
theorem xX{b:Int}{rule starts:List Int}(hl:rule.length=starts.length)(hb:0<b)(hs:∀x∈starts,0<=x/\x<b)(n:Nat):0<=at_ b rule starts n/\at_ b rule starts n<b:=by
 by_cases h:n<starts.length
 ·rw[ql h,List.getD_eq_getElem?_getD,List.getElem?_eq_getElem h]
  exact hs _ (List.getElem_mem h)
 ·rw[su hl (by omega),dU (by omega)]
  exact⟨Int.emod_nonneg _ (by omega),Int.emod_lt_of_pos _ hb⟩
end Rm
namespace Om
noncomputable def gF:List Nat:=[2,3,5,7,11,13,17,19,23,29,31,37,41,43,47,53,59,61,67,71,73,79,83,89,97,101,103,107,109,113,127,131,137,139,149,151,157,163,167,173,179,181,191,193,197,199,211,223,227,229,233,239,241,251,257,263,269,271,277,281,283,293,307,311,313,317,331,337,347,349,353,359,367,373,379,383,389,397,401,409,419,421,431,433,439,443,449,457,461,463,467,479,487,491,499,503,509,521,523,541,547,557,563,569,571,577,587,593,599,601,607,613,617,619,631,641,643,647,653,659,661,673,677,683,691,701,709,719,727,733,739,743,751,757,761,769,773,787,797,809,811,821,823,827,829,839,853,857,859,863,877,881,883,887,907,911,919,929,937,941,947,953,967,971,977,983,991,997]
noncomputable def chk(p:Nat):Nat->Bool
 |0=>true
 |a+1=>(Nat.beq a 0||Nat.beq ((Nat.pow a (p-1))%p) 1)&&chk p a
set_option maxRecDepth 100000 in
theorem yw:(gF.all fun p=>chk p p)=true:=by decide +kernel
theorem FY{p:Nat}:∀{n:Nat},chk p n=true->∀a,a<n->a≠0->a^(p-1)%p=1
 |n+1,h,a,ha,h0=>by
  unfold chk at h
  rw[Bool.and_eq_true]at h
  by_cases e:a=n
  ·subst e
   have h1:=h.1
   rw[Bool.or_eq_true]at h1
   rcases h1 with h1|h1
   ·exact absurd (Nat.eq_of_beq_eq_true h1) h0
   ·exact Nat.eq_of_beq_eq_true h1
  ·exact FY h.2 a (by omega) h0
theorem Gu{p a:Nat}(hp:p∈gF)(h0:a≠0)(h:a<p):a^(p-1)%p=1:=
 FY (List.all_eq_true.mp yw p hp) a h h0
theorem oO{p a:Int}{P:Nat}(hP:p=(P:Int))(hp:P∈gF)(h0:0<a)(h:a<p):a^(P-1)%p=1:=by
 obtain⟨n,rfl⟩:∃n:Nat,a=(n:Int):=⟨a.toNat,by omega⟩
 subst hP
 have:=Gu hp (a:=n) (by omega) (by omega)
 have e:((n:Int)^(P-1))=((n^(P-1):Nat):Int):=by simp
 rw[e,<-Int.natCast_emod,this];rfl
theorem mod_mul{x y x' y' p:Int}(h:x%p=x'%p)(h':y%p=y'%p):(x*y)%p=(x'*y')%p:=by
 rw[Int.mul_emod,h,h',<-Int.mul_emod]
theorem vm{x x' p:Int}(h:x%p=x'%p):∀n:Nat,(x^n)%p=(x'^n)%p
 |0=>by simp
 |n+1=>by rw[Int.pow_succ,Int.pow_succ];exact mod_mul (vm h n) h
noncomputable def Keeps(p a:Int)(e:Nat)(power square:Int)(left:Nat):Prop:=(power*square^left)%p=(a^e)%p
theorem vf(p a:Int)(e:Nat):Keeps p a e 1 a e:=by unfold Keeps;rw[Int.one_mul]
theorem jY(x:Int):∀n:Nat,(x*x)^n=x^(2*n)
 |0=>by simp
 |n+1=>by
  rw[Int.pow_succ,jY x n,show 2*(n+1)=2*n+1+1 by omega,Int.pow_succ,Int.pow_succ,Int.mul_assoc]
theorem C2{p a:Int}{e:Nat}{power square:Int}{left:Nat}(h:Keeps p a e power square left)(ho:left%2=1):Keeps p a e (power*square%p) (square*square%p) (left/2):=by
 unfold Keeps at *
 have h1:(power*square%p)%p=(power*square)%p:=Int.emod_emod_of_dvd _ (Int.dvd_refl p)
 have h2:=vm (p:=p) (x:=square*square%p) (x':=square*square) (Int.emod_emod_of_dvd _ (Int.dvd_refl p)) (left/2)
 rw[mod_mul h1 h2,<-h,jY,Int.mul_assoc]
 have e2:left=2*(left/2)+1:=by omega
 conv=>rhs;rw[e2,Int.pow_succ]
 rw[Int.mul_comm square]
theorem yC{p a:Int}{e:Nat}{power square:Int}{left:Nat}(h:Keeps p a e power square left)(ho:¬left%2=1):Keeps p a e power (square*square%p) (left/2):=by
 unfold Keeps at *
 have h2:=vm (p:=p) (x:=square*square%p) (x':=square*square) (Int.emod_emod_of_dvd _ (Int.dvd_refl p)) (left/2)
 rw[mod_mul rfl h2,<-h,jY]
 have e2:left=2*(left/2):=by omega
 conv=>rhs;rw[e2]
theorem Ai{p a:Int}{e:Nat}{power square:Int}(h:Keeps p a e power square 0):power%p=a^e%p:=by
 unfold Keeps at h
 rwa [Int.pow_zero,Int.mul_one]at h
end Om
namespace Pm
open Rm
noncomputable def sm:Nat->(Nat->Int)->Int
 |0,_=>0
 |n+1,f=>sm n f+f n
theorem aC{f g:Nat->Int}:∀{n:Nat},(∀k,k<n->f k=g k)->sm n f=sm n g
 |0,_=>rfl
 |n+1,h=>by rw[sm,sm,aC fun k hk=>h k (by omega),h n (by omega)]
theorem jx:∀n:Nat,sm n (fun _=>0)=0
 |0=>rfl
 |n+1=>by rw[sm,jx n];rfl
theorem gq{f:Nat->Int}{n:Nat}(h:∀k,k<n->f k=0):sm n f=0:=by rw[aC h,jx]
theorem gC(f:Nat->Int):∀n:Nat,sm (n+1) f=f 0+sm n (fun i=>f (i+1))
 |0=>by simp[sm]
 |n+1=>by
  rw[sm,gC f n,sm,Int.add_assoc]
theorem d8(f g:Nat->Int):∀n:Nat,sm n (fun k=>f k+g k)=sm n f+sm n g
 |0=>rfl
 |n+1=>by rw[sm,sm,sm,d8 f g n];omega
theorem cB(c:Int)(f:Nat->Int):∀n:Nat,sm n (fun k=>c*f k)=c*sm n f
 |0=>by simp[sm]
 |n+1=>by rw[sm,sm,cB c f n,Int.mul_add]
theorem fj{f:Nat->Int}{m:Nat}:∀{n:Nat},m<=n->(∀k,m<=k->k<n->f k=0)->sm n f=sm m f
 |0,h,_=>by rw[show m=0 by omega]
 |n+1,h,h0=>by
  by_cases e:m=n+1
  ·rw[e]
  ·rw[sm,fj (n:=n) (by omega) (fun k h1 h2=>h0 k h1 (by omega)),h0 n (by omega) (by omega),Int.add_zero]
theorem tk0(b:Int):tk b 0=0:=by unfold tk;split<;>simp
theorem iz{b:Int}{f g:Nat->Int}:∀{n:Nat},(∀k,k<n->tk b (f k)=tk b (g k))->tk b (sm n f)=tk b (sm n g)
 |0,_=>rfl
 |n+1,h=>by
  rw[sm,sm]
  exact bf (iz fun k hk=>h k (by omega)) (h n (by omega))
theorem wZ(f:Nat->Int):∀n:Nat,((List.range n).map f).sum=sm n f
 |0=>rfl
 |n+1=>by rw[List.range_succ,List.map_append,List.sum_append,wZ f n];simp[sm]
noncomputable def cv:(Nat->Int)->(Nat->Int)->Nat->Int
 |f,g,0=>f 0*g 0
 |f,g,k+1=>f 0*g (k+1)+cv (fun i=>f (i+1)) g k
theorem fK:∀(f g:Nat->Int) (k:Nat),cv f g k=sm (k+1) (fun j=>f j*g (k-j))
 |f,g,0=>by simp[cv,sm]
 |f,g,k+1=>by
  rw[cv,fK _ g k,gC (fun j=>f j*g (k+1-j))]
  refine congrArg (_ + ·) (aC fun j hj=>?_)
  rw[show k+1-(j+1)=k-j by omega]
theorem vK:∀(f g:Nat->Int) (k:Nat),cv f g (k+1)=cv f (fun i=>g (i+1)) k+f (k+1)*g 0
 |f,g,0=>rfl
 |f,g,k+1=>by
  rw[cv,vK (fun i=>f (i+1)) g k,cv,Int.add_assoc]
theorem dR:∀(f g:Nat->Int) (k:Nat),cv f g k=cv g f k
 |f,g,0=>Int.mul_comm _ _
 |f,g,k+1=>by
  rw[cv,vK,dR (fun i=>f (i+1)) g k,Int.add_comm,Int.mul_comm]
theorem d7{f f' g g':Nat->Int}{k:Nat}(h:∀i,i<=k->f i=f' i)(h':∀i,i<=k->g i=g' i):cv f g k=cv f' g' k:=by
 rw[fK,fK]
 exact aC fun j hj=>by rw[h j (by omega),h' _ (by omega)]
theorem gH{b:Int}{f f' g g':Nat->Int}{k:Nat}(h:∀i,i<=k->tk b (f i)=tk b (f' i))(h':∀i,i<=k->tk b (g i)=tk b (g' i)):tk b (cv f g k)=tk b (cv f' g' k):=by
 rw[fK,fK]
 exact iz fun j hj=>by rw[<-cT,<-bN,h j (by omega),h' _ (by omega),bN,cT]
theorem eG(f f' g:Nat->Int)(k:Nat):cv (fun i=>f i+f' i) g k=cv f g k+cv f' g k:=by
 rw[fK,fK,fK,<-d8]
 exact aC fun j _=>Int.add_mul ..
theorem vJ(f g g':Nat->Int)(k:Nat):cv f (fun i=>g i+g' i) k=cv f g k+cv f g' k:=by
 rw[dR,eG,dR,dR g']
theorem eY(c:Int)(f g:Nat->Int)(k:Nat):cv (fun i=>c*f i) g k=c*cv f g k:=by
 rw[fK,fK,<-cB]
 exact aC fun j _=>Int.mul_assoc ..
theorem bY:∀(f g h:Nat->Int) (k:Nat),cv (cv f g) h k=cv f (cv g h) k
 |f,g,h,0=>by simp[cv,Int.mul_assoc]
 |f,g,h,k+1=>by
  have e:(fun i=>cv f g (i+1))=fun i=>f 0*(fun i=>g (i+1)) i+cv (fun i=>f (i+1)) g i:=rfl
  rw[cv,e,eG (fun i=>f 0*(fun i=>g (i+1)) i),eY,bY (fun i=>f (i+1)) g h k,cv,cv,cv]
  rw[Int.mul_add,Int.mul_assoc]
  omega
theorem eE{f g:Nat->Int}{k:Nat}(h:∀i,i<=k->f i=0∨g (k-i)=0):cv f g k=0:=by
 rw[fK]
 exact gq fun j hj=>by rcases h j (by omega)with e|e<;>rw[e]<;>simp
noncomputable def co(p:List Int)(k:Nat):Int:=p.getD k 0
theorem dF(k:Nat):co [] k=0:=by simp[co]
theorem cV(x:Int)(r:List Int):co (x::r) 0=x:=by simp[co]
theorem gY(x:Int)(r:List Int)(k:Nat):co (x::r) (k+1)=co r k:=by simp[co]
theorem bZ{p:List Int}{k:Nat}(h:p.length<=k):co p k=0:=by
 rw[co,List.getD_eq_getElem?_getD,List.getElem?_eq_none h];rfl
theorem uP{p:List Int}{k:Nat}(h:k<p.length):co p k=p[k]:=by
 rw[co,List.getD_eq_getElem?_getD,List.getElem?_eq_getElem h];rfl
theorem B7{p:List Int}{k:Nat}(h:k<p.length):co p k∈p:=by rw[uP h];exact List.getElem_mem h
noncomputable def ofF(n:Nat)(f:Nat->Int):List Int:=(List.range n).map f
theorem aU(n:Nat)(f:Nat->Int):(ofF n f).length=n:=by simp[ofF]
theorem cF(n:Nat)(f:Nat->Int)(k:Nat):co (ofF n f) k=if k<n then f k else 0:=by
 by_cases h:k<n
 ·rw[if_pos h,co,ofF,List.getD_eq_getElem?_getD,List.getElem?_map,List.getElem?_range h];rfl
 ·rw[if_neg h,bZ (by rw[aU];omega)]
theorem wW(n:Nat)(f:Nat->Int):ofF (n+1) f=ofF n f++[f n]:=by
 rw[ofF,List.range_succ,List.map_append];rfl
theorem Ga(p:List Int):ofF p.length (co p)=p:=by
 apply List.ext_getElem (by rw[aU])
 intro i h1 h2
 simp only[ofF,List.getElem_map,List.getElem_range]
 exact uP h2
theorem jN{p q:List Int}(hl:p.length=q.length)(h:∀k,co p k=co q k):p=q:=by
 rw[<-Ga p,<-Ga q,hl]
 exact List.map_congr_left fun k _=>h k
theorem nH(p:List Int)(i:Nat)(x:Int)(k:Nat)(hi:i<p.length):co (p.set i x) k=if k=i then x else co p k:=by
 unfold co
 rw[List.getD_eq_getElem?_getD,List.getElem?_set,List.getD_eq_getElem?_getD]
 by_cases e:i=k
 ·subst e;simp[hi]
 ·rw[if_neg e,if_neg (fun z=>e z.symm)]
theorem oW{f:Int->Int}(h:f 0=0)(p:List Int)(k:Nat):co (p.map f) k=f (co p k):=getD_map h p k
theorem cQ(p q:List Int)(k:Nat):co (p++q) k=if k<p.length then co p k else co q (k-p.length):=by
 unfold co
 by_cases h:k<p.length
 ·rw[if_pos h,List.getD_eq_getElem?_getD,List.getElem?_append_left h,<-List.getD_eq_getElem?_getD]
 ·rw[if_neg h,List.getD_eq_getElem?_getD,List.getElem?_append_right (by omega),<-List.getD_eq_getElem?_getD]
noncomputable def trim:List Int->List Int
 |[]=>[]
 |x::r=>if x=0/\trim r=[]then[]else x::trim r
theorem ig:∀(p:List Int) (k:Nat),co (trim p) k=co p k
 |[],k=>rfl
 |x::r,k=>by
  rw[trim]
  have ih:=ig r
  by_cases h:x=0/\trim r=[]
  ·rw[if_pos h]
   rw[h.2]at ih
   cases k with
   |zero=>rw[dF,cV,h.1]
   |succ k=>rw[gY,<-ih k,dF,dF]
  ·rw[if_neg h]
   cases k with
   |zero=>rw[cV,cV]
   |succ k=>rw[gY,gY,ih k]
theorem nA{p:List Int}:trim p=[]↔∀k,co p k=0:=by
 constructor
 ·intro h k;rw[<-ig,h,dF]
 ·intro h
  induction p with
  |nil=>rfl
  |cons x r ih=>
   rw[trim,if_pos ⟨by have:=h 0;rwa [cV]at this,ih fun k=>by have:=h (k+1);rwa [gY]at this⟩]
theorem nq:∀{p q:List Int},(∀k,co p k=co q k)->trim p=trim q
 |[],q,h=>by rw[show trim q=[]from nA.mpr fun k=>by rw[<-h k,dF]];rfl
 |x::r,[],h=>by rw[show trim (x::r)=[]from nA.mpr fun k=>by rw[h k,dF]];rfl
 |x::r,y::s,h=>by
  have e1:=h 0
  rw[cV,cV]at e1
  have e2:trim r=trim s:=nq fun k=>by have:=h (k+1);rwa [gY,gY]at this
  rw[trim,trim,e1,e2]
theorem zW(p:List Int):trim (trim p)=trim p:=nq (ig p)
theorem dJ:∀p:List Int,(trim p).length<=p.length
 |[]=>Nat.le_refl _
 |x::r=>by
  have:=dJ r
  rw[trim];split
  ·simp
  ·simp;omega
theorem oB:∀{p:List Int} {n:Nat},(∀k,n<=k->co p k=0)->(trim p).length<=n
 |[],n,_=>Nat.zero_le _
 |x::r,0,h=>by rw[nA.mpr fun k=>h k (Nat.zero_le _)];exact Nat.le_refl 0
 |x::r,n+1,h=>by
  have:=oB (p:=r) (n:=n) fun k hk=>by have:=h (k+1) (by omega);rwa [gY]at this
  rw[trim];split
  ·simp
  ·simp;omega
theorem uG(p:List Int):trim (p++[0])=trim p:=nq fun k=>by
 rw[cQ]
 by_cases h:k<p.length
 ·rw[if_pos h]
 ·rw[if_neg h,bZ (p:=p) (by omega)]
  cases k-p.length with
  |zero=>rfl
  |succ j=>rw[gY,dF]
theorem oY:∀(p:List Int) {x:Int},x≠0->trim (p++[x])=p++[x]
 |[],x,h=>by simp[trim,h]
 |y::r,x,h=>by
  show trim (y::(r++[x]))=_
  rw[trim,oY r h,if_neg (by simp)];rfl
theorem wU{p:List Int}{x:Int}(h:x∈trim p):x∈p:=by
 induction p with
 |nil=>exact h
 |cons y r ih=>
  rw[trim]at h
  split at h
  ·cases h
  ·rcases List.mem_cons.mp h with rfl|h
   ·exact List.mem_cons_self
   ·exact List.mem_cons_of_mem _ (ih h)
structure Py(b:Int)(p:List Int):Prop where
 tr:trim p=p
 nu:∀x∈p,tk b x=x
theorem Py.co{b:Int}{p:List Int}(h:Py b p)(k:Nat):tk b (co p k)=co p k:=by
 by_cases hk:k<p.length
 ·exact h.nu _ (B7 hk)
 ·rw[bZ (by omega),tk0]
theorem Py.ext{b:Int}{p q:List Int}(h:Py b p)(h':Py b q)(e:∀k,tk b (Pm.co p k)=tk b (Pm.co q k)):p=q:=by
 rw[<-h.tr,<-h'.tr]
 exact nq fun k=>by rw[<-h.co k,<-h'.co k];exact e k
theorem Py.of{b:Int}{p:List Int}(h:∀x∈p,tk b x=x):Py b (trim p):=⟨zW p,fun x hx=>h x (wU hx)⟩
theorem Py.nil(b:Int):Py b []:=⟨rfl,fun _ h=>nomatch h⟩
theorem fR{n:Nat}{f:Nat->Int}{x:Int}(h:x∈ofF n f):∃k,k<n/\x=f k:=by
 obtain⟨k,hk,e⟩:=List.mem_map.mp h
 exact⟨k,List.mem_range.mp hk,e.symm⟩
theorem Py.ofF(b:Int)(n:Nat)(f:Nat->Int):Py b (trim (Pm.ofF n fun k=>tk b (f k))):=Py.of fun x hx=>by
 obtain⟨k,_,rfl⟩:=fR hx
 exact iY ..
noncomputable def add(b:Int)(p q:List Int):List Int:=trim (ofF (max p.length q.length) fun k=>tk b (co p k+co q k))
noncomputable def mul(b:Int)(p q:List Int):List Int:=trim (ofF (p.length+q.length) fun k=>tk b (cv (co p) (co q) k))
theorem wC(b:Int)(p q:List Int)(k:Nat):co (add b p q) k=tk b (co p k+co q k):=by
 rw[add,ig,cF]
 split
 ·rfl
 ·rw[bZ (p:=p) (by omega),bZ (p:=q) (by omega),Int.add_zero,tk0]
theorem uN(b:Int)(p q:List Int)(k:Nat):co (mul b p q) k=tk b (cv (co p) (co q) k):=by
 rw[mul,ig,cF]
 split
 ·rfl
 ·rw[eE,tk0]
  intro i hi
  by_cases h:i<p.length
  ·exact .inr (bZ (by omega))
  ·exact .inl (bZ (by omega))
noncomputable def W(f g:Nat->Int)(i k c:Nat):Int:=sm i (fun j=>if j<=c then f j*g (c-j)else 0)+(if i<=c/\c-i<k then f i*g (c-i)else 0)
theorem Ma{f g:Nat->Int}{m c:Nat}(hf:∀k,m<=k->f k=0):W f g m 0 c=cv f g c:=by
 unfold W
 rw[if_neg (by omega),Int.add_zero,fK]
 by_cases h:m<=c+1
 ·rw[fj (n:=c+1) h fun k h1 _=>by rw[hf k h1,Int.zero_mul]]
  exact aC fun j hj=>if_pos (by omega)
 ·rw[fj (m:=c+1) (n:=m) (by omega) fun k h1 _=>if_neg (by omega)]
  exact aC fun j hj=>if_pos (by omega)
end Pm
namespace Pm
open Rm
theorem pN(F:Nat->Nat->Int)(m:Nat):∀n:Nat,sm m (fun k=>sm n (fun j=>F k j))=sm n (fun j=>sm m (fun k=>F k j))
 |0=>by simp only[sm];exact jx m
 |n+1=>by
  simp only[sm]
  rw[d8,pN F m n]
theorem Cw(rule:List Int)(f:Nat->Int)(n:Nat):∀m:Nat,S rule f n m=sm m (fun k=>co rule k*f (n-1-k))
 |0=>rfl
 |m+1=>by rw[S,sm,Cw rule f n m];rfl
noncomputable def ks(p:List Int)(a:Nat->Int)(n:Nat):Int:=sm p.length (fun k=>co p k*a (n+k))
theorem IL{b:Int}{rule p:List Int}{a:Nat->Int}(ha:∀n,rule.length<=n->tk b (a n)=tk b (S rule a n rule.length)){n:Nat}(hn:rule.length<=n):
  tk b (ks p a n)=tk b (S rule (ks p a) n rule.length):=by
 have e1:tk b (ks p a n)=tk b (sm p.length (fun k=>co p k*sm rule.length (fun j=>co rule j*a (n+k-1-j)))):=by
  refine iz fun k _=>?_
  rw[<-bN,ha (n+k) (by omega),bN,Cw]
 rw[e1,Cw]
 congr 1
 have e2:(fun k=>co p k*sm rule.length (fun j=>co rule j*a (n+k-1-j)))=fun k=>sm rule.length (fun j=>co rule j*(co p k*a (n+k-1-j))):=by
  funext k
  rw[<-cB]
  exact aC fun j _=>Int.mul_left_comm ..
 rw[e2,pN]
 refine aC fun j hj=>?_
 rw[cB]
 congr 1
 refine aC fun k _=>?_
 rw[show n-1-j+k=n+k-1-j by omega]
theorem zE{b:Int}{rule p:List Int}{a:Nat->Int}(ha:∀n,rule.length<=n->tk b (a n)=tk b (S rule a n rule.length))(h0:∀n,n<rule.length->tk b (ks p a n)=0):
  ∀n,tk b (ks p a n)=0:=by
 intro n
 induction n using Nat.strongRecOn with
 |ind n ih=>
  by_cases h:n<rule.length
  ·exact h0 n h
  ·rw[IL ha (by omega),Cw]
   have:tk b (sm rule.length fun k=>co rule k*ks p a (n-1-k))=tk b (sm rule.length fun _=>0):=iz fun k hk=>by
    rw[<-bN,ih (n-1-k) (by omega),Int.mul_zero]
   rw[this,jx,tk0]
noncomputable def aV(b:Int)(c:List Int):List Int:=ofF c.length (fun k=>tk b (0-co c (c.length-1-k)))++[1]
noncomputable def fW(b:Int)(p:List Int):List Int:=ofF (p.length-1) (fun k=>tk b (0-co p (p.length-1-1-k)))
theorem cj(b:Int)(c:List Int):(aV b c).length=c.length+1:=by simp[aV,aU]
theorem qD(b x:Int):tk b (0-tk b (0-x))=tk b x:=by
 have h:tk b (tk b (0-x)+(0-tk b (0-x)))=tk b ((0-x)+(0-tk b (0-x))):=cJ ..
 have e1:tk b (0-x)+(0-tk b (0-x))=0:=by omega
 rw[e1]at h
 have h2:tk b (tk b (0-tk b (0-x))+(0-x))=tk b 0:=by rw[cJ,Int.add_comm];exact h.symm
 have h3:tk b (tk b (0-tk b (0-x)))=tk b x:=by
  have:=bf h2 (rfl:tk b x=tk b x)
  rw[show tk b (0-tk b (0-x))+(0-x)+x=tk b (0-tk b (0-x))by omega,Int.zero_add]at this
  exact this
 rwa [iY]at h3
theorem Fb{b:Int}{rule starts:List Int}(hl:rule.length=starts.length):∀n,rule.length<=n->tk b (at_ b rule starts n)=tk b (S rule (at_ b rule starts) n rule.length):=fun n hn=>by
 rw[su hl (by omega),iY]
theorem Ef{f:Nat->Int}{c:Nat}:∀n:Nat,(∀k,k<n->Bd c (f k))->Bd (c+n) (sm n f)
 |0,_=>Bd.zero _
 |n+1,h=>by
  rw[sm]
  exact Bd.add (n:=c+n) (Ef n fun k hk=>h k (by omega)) ((h n (by omega)).mono (by omega))
theorem rA{p:List Int}{u:Nat}(h:∀x∈p,Bd u x)(k:Nat):Bd u (co p k):=Bd.getD h k
theorem tQ{b:Int}{c:List Int}{u:Nat}(hb:0<=b)(hb1:b<1000)(hu:10<=u)(h:∀x∈c,Bd u x):∀x∈aV b c,Bd u x:=by
 intro x hx
 rcases List.mem_append.mp hx with hx|hx
 ·obtain⟨k,_,rfl⟩:=fR hx
  refine uc hb ((Bd.of (n:=10) (by omega) (by omega)).mono (by omega)) ?_
  have:=rA h (c.length-1-k)
  unfold Bd at this⊢
  rw[Int.zero_sub,Int.natAbs_neg];exact this
 ·rw[List.mem_singleton.mp hx]
  exact(Bd.of (n:=10) (by decide) (by decide)).mono hu
end Pm
namespace Pm
open Rm
theorem cN(x:Int)(j:Nat):∀n:Nat,sm n (fun i=>if i=j then x else 0)=if j<n then x else 0
 |0=>by simp[sm]
 |n+1=>by
  rw[sm,cN x j n]
  by_cases h:n=j
  ·rw[if_pos h,if_neg (by omega),if_pos (by omega)];omega
  ·rw[if_neg h]
   by_cases h2:j<n
   ·rw[if_pos h2,if_pos (by omega)];omega
   ·rw[if_neg h2,if_neg (by omega)];omega
theorem dw{b x y:Int}:tk b (x-y)=0↔tk b x=tk b y:=by
 constructor
 ·intro h
  have:=bf (b:=b) (x:=x-y) (x':=0) (y:=y) (y':=y) (by rw[h,tk0]) rfl
  rwa [show x-y+y=x by omega,Int.zero_add]at this
 ·intro h
  have:=bf (b:=b) (x:=x) (x':=y) (y:=-y) (y':=-y) h rfl
  rw[show x + -y=x-y by omega,show y + -y=0 by omega,tk0]at this
  exact this
theorem lu(f:Int)(s:Nat)(g:Nat->Int)(k:Nat):cv (fun i=>if i=s then f else 0) g k=if s<=k then f*g (k-s)else 0:=by
 rw[fK]
 have e:sm (k+1) (fun j=>(if j=s then f else 0)*g (k-j))=sm (k+1) (fun j=>if j=s then f*g (k-s)else 0):=aC fun j _=>by
  by_cases h:j=s
  ·rw[if_pos h,if_pos h,h]
  ·rw[if_neg h,if_neg h,Int.zero_mul]
 rw[e,cN]
 by_cases h:s<=k
 ·rw[if_pos h,if_pos (by omega)]
 ·rw[if_neg h,if_neg (by omega)]
structure Mon(m:List Int):Prop where
 pos:0<m.length
 one:co m (m.length-1)=1
structure Div(b:Int)(p m q r:List Int):Prop where
 qy:Py b q
 ry:Py b r
 short:r.length<m.length
 eq:∀k,tk b (cv (co q) (co m) k+co r k)=tk b (co p k)
theorem Div.uniq{b:Int}{p m q r q' r':List Int}(hm:Mon m)(h:Div b p m q r)(h':Div b p m q' r'):q=q'/\r=r':=by
 have hp:=hm.pos
 have e1:∀k,tk b (cv (fun i=>co q i-co q' i) (co m) k+(co r k-co r' k))=0:=by
  intro k
  have e2:cv (fun i=>co q i-co q' i) (co m) k=cv (co q) (co m) k-cv (co q') (co m) k:=by
   have:=eG (co q) (fun i=>-1*co q' i) (co m) k
   rw[eY]at this
   have e3:(fun i=>co q i + -1*co q' i)=fun i=>co q i-co q' i:=by funext i;omega
   rw[e3]at this
   omega
  rw[e2,show cv (co q) (co m) k-cv (co q') (co m) k+(co r k-co r' k)=(cv (co q) (co m) k+co r k)-(cv (co q') (co m) k+co r' k)by omega,dw,h.eq,h'.eq]
 have e4:∀d j,q.length+q'.length<=j+d->tk b (co q j-co q' j)=0:=by
  intro d
  induction d with
  |zero=>intro j hj;rw[bZ (by omega),bZ (by omega)];exact tk0 b
  |succ d ih=>
   intro j hj
   have e5:=e1 (j+(m.length-1))
   have hs:=h.short
   have hs':=h'.short
   rw[bZ (p:=r) (by omega),bZ (p:=r') (by omega),Int.sub_zero,Int.add_zero,fK]at e5
   rw[<-e5]
   have e6:tk b (sm (j+(m.length-1)+1) fun i=>(co q i-co q' i)*co m (j+(m.length-1)-i))=tk b (sm (j+(m.length-1)+1) fun i=>if i=j then co q j-co q' j else 0):=iz fun i hi=>by
    by_cases c:i=j
    ·rw[if_pos c,c,show j+(m.length-1)-j=m.length-1 by omega,hm.one,Int.mul_one]
    ·rw[if_neg c]
     by_cases c2:i<j
     ·rw[bZ (p:=m) (by omega),Int.mul_zero]
     ·rw[<-cT,ih i (by omega),Int.zero_mul]
   rw[e6,cN,if_pos (by omega)]
 have eq:q=q':=h.qy.ext h'.qy fun k=>dw.mp (e4 (q.length+q'.length) k (by omega))
 refine⟨eq,h.ry.ext h'.ry fun k=>?_⟩
 have e7:=e1 k
 rw[eq]at e7
 have e8:(fun i=>co q' i-co q' i)=fun _=>0:=by funext i;omega
 rw[e8,eE (fun _ _=> .inl rfl),Int.zero_add]at e7
 exact dw.mp e7
structure BQ(b:Int)(p m:List Int)(s:Nat)(o l:List Int):Prop where
 eq:∀k,tk b (cv (co o) (co m) k+co l k)=tk b (co p k)
 zero:∀k,s+(m.length-1)<=k->co l k=0
 low:∀k,k<s->co o k=0
 ol:o.length=p.length-(m.length-1)
 ll:l.length=p.length
 on:∀k,tk b (co o k)=co o k
 ln:∀k,tk b (co l k)=co l k
theorem BQ.start{b:Int}{p m:List Int}(hp:∀k,tk b (co p k)=co p k):BQ b p m (p.length-(m.length-1)) (ofF (p.length-(m.length-1)) fun _=>0) p:=by
 have z:∀k,co (ofF (p.length-(m.length-1)) fun _=>0) k=0:=fun k=>by rw[cF];split<;>rfl
 exact⟨fun k=>by rw[eE fun i _=> .inl (z i),Int.zero_add],fun k hk=>bZ (by omega),fun k _=>z k,aU _ _,rfl,fun k=>by rw[z,tk0],hp⟩
noncomputable def lf(b f:Int)(s t:Nat)(l m:List Int)(k:Nat):Int:=if s<=k/\k<s+t then tk b (co l k-f*co m (k-s))else co l k
theorem GZ(b f:Int)(s:Nat)(l m:List Int)(k:Nat):lf b f s 0 l m k=co l k:=if_neg (by omega)
theorem Hl(b f:Int)(s t:Nat)(l m:List Int)(k:Nat):lf b f s (t+1) l m k=if k=s+t then tk b (lf b f s t l m k-f*co m t)else lf b f s t l m k:=by
 unfold lf
 by_cases h:k=s+t
 ·rw[if_pos h,if_pos (by omega),if_neg (by omega),show k-s=t by omega]
 ·rw[if_neg h]
  by_cases h2:s<=k/\k<s+t
  ·rw[if_pos h2,if_pos (by omega)]
  ·rw[if_neg h2,if_neg (by omega)]
theorem JB{b f:Int}{s:Nat}{l m:List Int}(hl:∀k,tk b (co l k)=co l k)(k:Nat):lf b f s m.length l m k=tk b (co l k-(if s<=k then f*co m (k-s)else 0)):=by
 unfold lf
 by_cases h:s<=k
 ·rw[if_pos h]
  by_cases h2:k<s+m.length
  ·rw[if_pos ⟨h,h2⟩]
  ·rw[if_neg (by omega),bZ (p:=m) (by omega),Int.mul_zero,Int.sub_zero,hl]
 ·rw[if_neg (by omega),if_neg h,Int.sub_zero,hl]
theorem BQ.step{b:Int}{p m o l l':List Int}{s:Nat}(hm:Mon m)(h:BQ b p m (s+1) o l)(hs:s<p.length-(m.length-1))(hl:l'.length=l.length)(e:∀k,co l' k=lf b (co l (s+(m.length-1))) s m.length l m k):
  BQ b p m s (o.set s (co l (s+(m.length-1)))) l':=by
 have hp:=hm.pos
 have ho:=h.ol
 have eo:co (o.set s (co l (s+(m.length-1))))=fun k=>co o k+(if k=s then co l (s+(m.length-1))else 0):=by
  funext k
  rw[nH _ _ _ _ (by omega)]
  by_cases c:k=s
  ·rw[if_pos c,if_pos c,c,h.low s (by omega),Int.zero_add]
  ·rw[if_neg c,if_neg c,Int.add_zero]
 have el:∀k,co l' k=tk b (co l k-(if s<=k then co l (s+(m.length-1))*co m (k-s)else 0)):=fun k=>by rw[e,JB h.ln]
 refine⟨fun k=>?_,fun k hk=>?_,fun k hk=>?_,by rw[List.length_set,ho],by rw[hl,h.ll],fun k=>?_,fun k=>by rw[el,iY]⟩
 ·rw[eo,eG (co o),lu,el,fZ,<-h.eq k]
  congr 1;omega
 ·rw[el,if_pos (by omega)]
  by_cases c:k=s+(m.length-1)
  ·rw[c,show s+(m.length-1)-s=m.length-1 by omega,hm.one,Int.mul_one,Int.sub_self,tk0]
  ·rw[h.zero k (by omega),bZ (p:=m) (by omega),Int.mul_zero,Int.sub_zero,tk0]
 ·rw[eo];simp only;rw[h.low k (by omega),if_neg (by omega),Int.add_zero]
 ·rw[nH _ _ _ _ (by omega)]
  split
  ·exact h.ln _
  ·exact h.on _
theorem BQ.stop{b:Int}{p m o l:List Int}(hm:Mon m)(h:BQ b p m 0 o l):Div b p m (trim o) (trim l):=by
 have hp:=hm.pos
 have y:∀{x:List Int},(∀k,tk b (co x k)=co x k)->Py b (trim x):=fun hx=>Py.of fun z hz=>by
  obtain⟨k,hk,e⟩:=List.mem_iff_getElem.mp hz
  rw[<-e,<-uP hk];exact hx k
 refine⟨y h.on,y h.ln,?_,fun k=>?_⟩
 ·have:=oB (p:=l) (n:=m.length-1) fun k hk=>h.zero k (by omega)
  omega
 ·rw[ig,<-h.eq k]
  congr 2
  exact d7 (fun i _=>ig _ _) (fun _ _=>rfl)
end Pm
namespace Pm
open Rm
theorem qT(g:Nat->Int)(j:Nat):∀m:Nat,sm (j+m) (fun k=>if j<=k then g (k-j)else 0)=sm m g
 |0=>by
  rw[Nat.add_zero]
  exact gq fun k hk=>if_neg (by omega)
 |m+1=>by
  rw[<-Nat.add_assoc,sm,sm,qT g j m,if_pos (by omega),Nat.add_sub_cancel_left]
theorem jz(p:List Int)(a:Nat->Int)(n:Nat){N:Nat}(h:p.length<=N):sm N (fun k=>co p k*a (n+k))=ks p a n:=
 fj h fun k h1 _=>by rw[bZ h1,Int.zero_mul]
theorem Iw{b:Int}{p q:List Int}{a:Nat->Int}(h:∀k,tk b (co p k)=tk b (co q k))(n:Nat):tk b (ks p a n)=tk b (ks q a n):=by
 rw[<-jz p a n (Nat.le_max_left p.length q.length),<-jz q a n (Nat.le_max_right p.length q.length)]
 exact iz fun k _=>by rw[<-cT,h k,cT]
theorem Fe{b:Int}(p q:List Int)(a:Nat->Int)(n:Nat):tk b (ks (add b p q) a n)=tk b (ks p a n+ks q a n):=by
 have hl:(add b p q).length<=max p.length q.length:=by
  have:=dJ (ofF (max p.length q.length) fun k=>tk b (co p k+co q k))
  rwa [aU]at this
 rw[<-jz _ a n hl,<-jz p a n (Nat.le_max_left p.length q.length),<-jz q a n (Nat.le_max_right p.length q.length),<-d8]
 exact iz fun k _=>by rw[wC,cT,Int.add_mul]
theorem Jq{b:Int}(p q:List Int)(a:Nat->Int)(n:Nat):tk b (ks (mul b p q) a n)=tk b (ks p (ks q a) n):=by
 have hl:(mul b p q).length<=p.length+q.length:=by
  have:=dJ (ofF (p.length+q.length) fun k=>tk b (cv (co p) (co q) k))
  rwa [aU]at this
 rw[<-jz _ a n hl]
 have e1:tk b (sm (p.length+q.length) fun k=>co (mul b p q) k*a (n+k))=tk b (sm (p.length+q.length) fun k=>sm p.length fun j=>co p j*(if j<=k then co q (k-j)*a (n+k)else 0)):=iz fun k _=>by
  rw[uN,cT,<-Ma (m:=p.length) fun j hj=>bZ hj,W,if_neg (by omega),Int.add_zero,Int.mul_comm,<-cB]
  congr 1
  refine aC fun j _=>?_
  by_cases h:j<=k
  ·rw[if_pos h,if_pos h,Int.mul_comm,Int.mul_assoc]
  ·rw[if_neg h,if_neg h,Int.mul_zero,Int.mul_zero]
 rw[e1,pN]
 congr 1
 refine aC fun j hj=>?_
 rw[cB]
 congr 1
 have e2:(fun k=>if j<=k then co q (k-j)*a (n+k)else 0)=fun k=>if j<=k then(fun i=>co q i*a (n+j+i)) (k-j)else 0:=by
  funext k
  by_cases h:j<=k
  ·rw[if_pos h,if_pos h]
   show _=co q (k-j)*a (n+j+(k-j))
   rw[show n+j+(k-j)=n+k by omega]
  ·rw[if_neg h,if_neg h]
 rw[e2,show p.length+q.length=j+(p.length-j+q.length)by omega]
 refine(qT (fun i=>co q i*a (n+j+i)) j _).trans ?_
 exact jz q a (n+j) (by omega)
theorem Gy{b:Int}{p:List Int}{a:Nat->Int}(h:∀n,tk b (a n)=0)(n:Nat):tk b (ks p a n)=0:=by
 have:tk b (ks p a n)=tk b (sm p.length fun _=>0):=iz fun k _=>by rw[<-bN,h,Int.mul_zero]
 rw[this,jx,tk0]
noncomputable def Kp(b:Int)(p:List Int)(a:Nat->Int):Prop:=∀n,tk b (ks p a n)=0
theorem Kp.PL{b:Int}{q:List Int}{a:Nat->Int}(h:Kp b q a)(p:List Int):Kp b (mul b p q) a:=fun n=>by rw[Jq];exact Gy h n
theorem Kp.add{b:Int}{p q:List Int}{a:Nat->Int}(h:Kp b p a)(h':Kp b q a):Kp b (add b p q) a:=fun n=>by
 rw[Fe,<-cJ,h n,<-fZ,h' n];exact tk0 b
theorem Kp.congr{b:Int}{p q:List Int}{a:Nat->Int}(e:∀k,tk b (co p k)=tk b (co q k))(h:Kp b p a):Kp b q a:=fun n=>by rw[<-Iw e];exact h n
theorem Kp.aV{b:Int}{rule:List Int}{a:Nat->Int}(ha:∀n,rule.length<=n->tk b (a n)=tk b (S rule a n rule.length)):Kp b (aV b rule) a:=fun n=>by
 unfold ks
 rw[cj,sm]
 have e1:co (Pm.aV b rule) rule.length=1:=by
  rw[Pm.aV,cQ,aU,if_neg (by omega),Nat.sub_self];rfl
 have e2:tk b (sm rule.length fun k=>co (Pm.aV b rule) k*a (n+k))=tk b (sm rule.length fun k=>-1*(co rule (rule.length-1-k)*a (n+k))):=iz fun k hk=>by
  rw[Pm.aV,cQ,aU,if_pos hk,cF,if_pos hk,cT,Int.zero_sub,Int.neg_mul,Int.neg_one_mul]
 have e3:S rule a (n+rule.length) rule.length=sm rule.length fun k=>co rule (rule.length-1-k)*a (n+k):=by
  rw[Cw]
  have rev:∀(m:Nat) (f:Nat->Int),sm m f=sm m fun k=>f (m-1-k):=by
   intro m
   induction m with
   |zero=>intro f;rfl
   |succ m ih=>
    intro f
    rw[gC,sm,ih fun i=>f (i+1),Int.add_comm]
    have:m+1-1-m=0:=by omega
    rw[this]
    congr 1
    exact aC fun k hk=>by rw[show m-1-k+1=m+1-1-k by omega]
  rw[rev]
  exact aC fun k hk=>by rw[show n+rule.length-1-(rule.length-1-k)=n+k by omega]
 rw[e1,Int.one_mul,<-cJ,e2,cJ,cB,<-e3,<-fZ,ha (n+rule.length) (by omega),fZ,Int.neg_one_mul,Int.add_left_neg,tk0]
theorem Div.kp{b:Int}{p m q r:List Int}{a:Nat->Int}(h:Div b p m q r)(hm:Kp b m a):Kp b p a↔Kp b r a:=by
 have e:∀n,tk b (ks p a n)=tk b (ks r a n):=fun n=>by
  have e1:∀k,tk b (co (Pm.add b (mul b q m) r) k)=tk b (co p k):=fun k=>by rw[wC,uN,iY,cJ];exact h.eq k
  rw[<-Iw e1,Fe,<-cJ,hm.PL q n,Int.zero_add]
 exact⟨fun z n=>by rw[<-e];exact z n,fun z n=>by rw[e];exact z n⟩
noncomputable def In2(b:Int)(p q x:List Int):Prop:=∃u v,∀k,tk b (co x k)=tk b (cv (co u) (co p) k+cv (co v) (co q) k)
theorem Hj(p q:List Int)(k:Nat):co (add 0 p q) k=co p k+co q k:=by rw[wC,bD]
theorem BR(p q:List Int)(k:Nat):co (mul 0 p q) k=cv (co p) (co q) k:=by rw[uN,bD]
theorem In2.left(b:Int)(p q:List Int):In2 b p q p:=⟨[1],[],fun k=>by
 rw[eE (f:=co []) fun i _=> .inl (dF _),Int.add_zero,fK,fj (m:=1) (by omega) fun j h1 _=>by rw[show co [1] j=0 from bZ (by simpa using h1),Int.zero_mul]]
 simp[sm,cV]⟩
theorem In2.swap{b:Int}{p q x:List Int}(h:In2 b p q x):In2 b q p x:=by
 obtain⟨u,v,e⟩:=h
 exact⟨v,u,fun k=>by rw[e,Int.add_comm]⟩
theorem In2.trans{b:Int}{p q g s x:List Int}(hg:In2 b p q g)(hs:In2 b p q s)(h:In2 b g s x):In2 b p q x:=by
 obtain⟨a,c,eg⟩:=hg
 obtain⟨a',c',es⟩:=hs
 obtain⟨u,v,e⟩:=h
 refine⟨add 0 (mul 0 u a) (mul 0 v a'),add 0 (mul 0 u c) (mul 0 v c'),fun k=>?_⟩
 have e1:tk b (cv (co u) (co g) k)=tk b (cv (co u) (fun i=>cv (co a) (co p) i+cv (co c) (co q) i) k):=gH (fun _ _=>rfl) fun i _=>eg i
 have e2:tk b (cv (co v) (co s) k)=tk b (cv (co v) (fun i=>cv (co a') (co p) i+cv (co c') (co q) i) k):=gH (fun _ _=>rfl) fun i _=>es i
 rw[e,bf e1 e2]
 congr 1
 have f1:∀y z:List Int,co (add 0 (mul 0 u y) (mul 0 v z))=fun i=>cv (co u) (co y) i+cv (co v) (co z) i:=fun y z=>by
  funext i;rw[Hj,BR,BR]
 rw[f1,f1,eG (cv (co u) (co a)),eG (cv (co u) (co c)),vJ,vJ,bY,bY,bY,bY]
 omega
theorem In2.kp{b:Int}{p q x:List Int}{a:Nat->Int}(h:In2 b p q x)(hp:Kp b p a)(hq:Kp b q a):Kp b x a:=by
 obtain⟨u,v,e⟩:=h
 refine((hp.PL u).add (hq.PL v)).congr fun k=>?_
 rw[wC,uN,uN,iY,cJ,fZ,e]
theorem Div.in1{b:Int}{p m q r:List Int}(h:Div b p m q r):In2 b m r p:=by
 refine⟨q,[1],fun k=>?_⟩
 obtain⟨u,v,e⟩:=In2.left b r []
 rw[<-h.eq k]
 have:cv (co [1]) (co r) k=co r k:=by
  rw[fK,fj (m:=1) (by omega) fun j h1 _=>by rw[show co [1] j=0 from bZ (by simpa using h1),Int.zero_mul]]
  simp[sm,cV]
 rw[this]
theorem Div.in2{b:Int}{p m q r:List Int}(h:Div b p m q r):In2 b p m r:=by
 refine⟨[1],q.map (-1 * ·),fun k=>?_⟩
 have e1:cv (co [1]) (co p) k=co p k:=by
  rw[fK,fj (m:=1) (by omega) fun j h1 _=>by rw[show co [1] j=0 from bZ (by simpa using h1),Int.zero_mul]]
  simp[sm,cV]
 have e2:co (q.map (-1 * ·))=fun i=>-1*co q i:=by funext i;rw[oW (by simp)]
 rw[e1,e2,eY]
 have:=bf (h.eq k) (rfl:tk b (-1*cv (co q) (co m) k)=tk b (-1*cv (co q) (co m) k))
 rw[<-this]
 congr 1;omega
structure Gcd(b:Int)(p q g:List Int):Prop where
 py:Py b g
 mon:Mon g
 sum:In2 b p q g
 one:In2 b g [] p
 two:In2 b g [] q
theorem In2.dv{b:Int}{g p:List Int}(h:In2 b g [] p):∃u,∀k,tk b (co p k)=tk b (cv (co u) (co g) k):=by
 obtain⟨u,v,e⟩:=h
 exact⟨u,fun k=>by rw[e,eE (g:=co []) fun i _=> .inr (dF _),Int.add_zero]⟩
end Pm
namespace Pm
open Rm
theorem qC{p:List Int}(h:p≠[]):p=p.dropLast++[co p (p.length-1)]:=by
 have hp:0<p.length:=List.length_pos_iff.mpr h
 conv=>lhs;rw[<-List.dropLast_concat_getLast h]
 congr 2
 rw[uP (by omega),List.getLast_eq_getElem]
theorem fG{p:List Int}(h:p≠[])(h0:co p (p.length-1)≠0):trim p=p:=by
 have e:=qC h
 rw[e,oY _ h0]
theorem oK{p:List Int}(h:p≠[])(ht:trim p=p):co p (p.length-1)≠0:=by
 intro z
 have e:=qC h
 rw[z]at e
 have e2:trim p=trim p.dropLast:=by
  conv=>lhs;rw[e]
  exact uG _
 have:=dJ p.dropLast
 rw[<-e2,ht,List.length_dropLast]at this
 have hp:0<p.length:=List.length_pos_iff.mpr h
 omega
structure rK(b:Int)(p m:List Int):Prop where
 py:Py b m
 len:m.length=p.length
 mon:p≠[]->Mon m
 to:∃c,∀k,tk b (co m k)=tk b (c*co p k)
 of:∃c,∀k,tk b (co p k)=tk b (c*co m k)
theorem In2.scale{b:Int}{p m:List Int}(h:∃c,∀k,tk b (co m k)=tk b (c*co p k))(q:List Int):In2 b p q m:=by
 obtain⟨c,e⟩:=h
 refine⟨[c],[],fun k=>?_⟩
 rw[eE (f:=co []) fun i _=> .inl (dF _),Int.add_zero,e,fK,fj (m:=1) (by omega) fun j h1 _=>by rw[show co [c] j=0 from bZ (by simpa using h1),Int.zero_mul]]
 simp[sm,cV]
theorem rK.nil(b:Int):rK b [] []:=⟨Py.nil b,rfl,fun h=>absurd rfl h,⟨0,fun k=>by rw[dF,Int.zero_mul]⟩,⟨0,fun k=>by rw[dF,Int.zero_mul]⟩⟩
noncomputable def fH(P:Nat)(p:List Int):List Int:=p.map fun x=>x*(co p (p.length-1))^(P-2)%(P:Int)
theorem B5{P:Nat}(hP:P∈Om.gF)(h2:2<=P){p:List Int}(hp:Py P p)(hn:p≠[]):rK P p (fH P p):=by
 have hpos:0<p.length:=List.length_pos_iff.mpr hn
 have hP0:(P:Int)≠0:=by omega
 have tkP:∀n,tk (P:Int) n=n%(P:Int):=fun n=>dU hP0 n
 have l0:=oK hn hp.tr
 have l1:=hp.co (p.length-1)
 rw[tkP]at l1
 have r0:0<=co p (p.length-1):=by rw[<-l1];exact Int.emod_nonneg _ hP0
 have r1:co p (p.length-1)<(P:Int):=by rw[<-l1];exact Int.emod_lt_of_pos _ (by omega)
 generalize hl:co p (p.length-1)=a at l0 r0 r1
 have hinv:(a^(P-2)*a)%(P:Int)=1:=by
  rw[<-Int.pow_succ,show(P-2).succ=P-1 by omega]
  exact Om.oO rfl hP (by omega) r1
 have e:∀k,co (fH P p) k=co p k*a^(P-2)%(P:Int):=fun k=>by
  rw[fH,oW (by simp),hl]
 have len:(fH P p).length=p.length:=by rw[fH,List.length_map]
 have top:co (fH P p) ((fH P p).length-1)=1:=by
  rw[len,e,hl,Int.mul_comm];exact hinv
 have hm:fH P p≠[]:=fun z=>by rw[z]at len;simp at len;omega
 refine⟨⟨fG hm (by rw[top];decide),fun x hx=>?_⟩,len,fun _=>⟨by omega,top⟩,⟨a^(P-2),fun k=>?_⟩,⟨a,fun k=>?_⟩⟩
 ·obtain⟨y,_,rfl⟩:=List.mem_map.mp hx
  rw[tkP];exact Int.emod_emod_of_dvd _ (Int.dvd_refl _)
 ·rw[e,tkP,tkP,Int.emod_emod_of_dvd _ (Int.dvd_refl _),Int.mul_comm]
 ·rw[e,tkP,tkP,Int.mul_emod a,Int.emod_emod_of_dvd _ (Int.dvd_refl _),<-Int.mul_emod,Int.mul_left_comm a,Int.mul_comm a,Int.mul_emod,hinv]
  rw[Int.mul_one,Int.emod_emod_of_dvd _ (Int.dvd_refl _)]
structure Eh(b:Int)(p q g s:List Int):Prop where
 gy:Py b g
 sy:Py b s
 gm:g≠[]->Mon g
 sm_:s≠[]->Mon s
 some:s=[]->g≠[]
 gi:In2 b p q g
 si:In2 b p q s
 pi:In2 b g s p
 qi:In2 b g s q
theorem Eh.start{b:Int}{p q g s:List Int}(hg:rK b p g)(hs:rK b q s)(h:q=[]->p≠[]):Eh b p q g s:=by
 have lg:=hg.len
 have ls:=hs.len
 have pn:g≠[]->p≠[]:=fun z e=>z (List.eq_nil_of_length_eq_zero (by rw[lg,e];rfl))
 have qn:s≠[]->q≠[]:=fun z e=>z (List.eq_nil_of_length_eq_zero (by rw[ls,e];rfl))
 refine⟨hg.py,hs.py,fun z=>hg.mon (pn z),fun z=>hs.mon (qn z),fun z e=>?_,In2.scale hg.to q,(In2.scale hs.to p).swap,In2.scale hg.of s,(In2.scale hs.of g).swap⟩
 have q0:q=[]:=List.eq_nil_of_length_eq_zero (by rw[<-ls,z];rfl)
 exact h q0 (List.eq_nil_of_length_eq_zero (by rw[<-lg,e];rfl))
theorem Eh.step{b:Int}{p q g s o l m:List Int}(h:Eh b p q g s)(hs:s≠[])(d:Div b g s o l)(hm:rK b l m):Eh b p q s m:=by
 have lm:=hm.len
 have ln:m≠[]->l≠[]:=fun z e=>z (List.eq_nil_of_length_eq_zero (by rw[lm,e];rfl))
 have li:In2 b p q l:=h.gi.trans h.si d.in2
 have gs:In2 b s m g:=(In2.left b s m).trans (In2.scale hm.of s).swap d.in1
 refine⟨h.sy,hm.py,h.sm_,fun z=>hm.mon (ln z),fun _=>hs,h.si,li.trans li (In2.scale hm.to l),?_,?_⟩
 ·exact gs.trans (In2.left b s m) h.pi
 ·exact gs.trans (In2.left b s m) h.qi
theorem Eh.stop{b:Int}{p q g s:List Int}(h:Eh b p q g s)(hs:s=[]):Gcd b p q g:=by
 subst hs
 exact⟨h.gy,h.gm (h.some rfl),h.gi,h.pi,h.qi⟩
end Pm
namespace Pm
open Rm
theorem tZ{p:List Int}{k:Nat}(h:co p k≠0):k<p.length:=by
 by_cases c:k<p.length
 ·exact c
 ·exact absurd (bZ (by omega)) h
theorem iy(b:Int)(c:List Int):Mon (aV b c):=⟨by rw[cj];omega,by
 rw[cj,aV,cQ,aU,if_neg (by omega),show c.length+1-1-c.length=0 by omega];rfl⟩
theorem dX(b:Int)(p:List Int):(fW b p).length=p.length-1:=by rw[fW,aU]
theorem lF{b:Int}{w:List Int}(hw:∀k,tk b (co w k)=co w k)(hm:Mon w):aV b (fW b w)=w:=by
 have hp:=hm.pos
 refine jN (by rw[cj,dX];omega) fun k=>?_
 rw[aV,cQ,aU,dX]
 by_cases h:k<w.length-1
 ·rw[if_pos h,cF,if_pos h,fW,cF,if_pos (by omega),qD,show w.length-1-1-(w.length-1-1-k)=k by omega,hw]
 ·rw[if_neg h]
  by_cases c:k=w.length-1
  ·rw[c,Nat.sub_self,hm.one];rfl
  ·rw[bZ (p:=w) (by omega),bZ]
   simp;omega
theorem Bb{b:Int}{rule:List Int}{a:Nat->Int}(n:Nat):tk b (ks (aV b rule) a n)=tk b (a (n+rule.length)-S rule a (n+rule.length) rule.length):=by
 unfold ks
 rw[cj,sm]
 have e1:co (aV b rule) rule.length=1:=by
  rw[aV,cQ,aU,if_neg (by omega),Nat.sub_self];rfl
 have e2:tk b (sm rule.length fun k=>co (aV b rule) k*a (n+k))=tk b (sm rule.length fun k=>-1*(co rule (rule.length-1-k)*a (n+k))):=iz fun k hk=>by
  rw[aV,cQ,aU,if_pos hk,cF,if_pos hk,cT,Int.zero_sub,Int.neg_mul,Int.neg_one_mul]
 have e3:S rule a (n+rule.length) rule.length=sm rule.length fun k=>co rule (rule.length-1-k)*a (n+k):=by
  rw[Cw]
  have rev:∀(m:Nat) (f:Nat->Int),sm m f=sm m fun k=>f (m-1-k):=by
   intro m
   induction m with
   |zero=>intro f;rfl
   |succ m ih=>
    intro f
    rw[gC,sm,ih fun i=>f (i+1),Int.add_comm]
    have:m+1-1-m=0:=by omega
    rw[this]
    congr 1
    exact aC fun k hk=>by rw[show m-1-k+1=m+1-1-k by omega]
  rw[rev]
  exact aC fun k hk=>by rw[show n+rule.length-1-(rule.length-1-k)=n+k by omega]
 rw[e1,Int.one_mul,<-cJ,e2,cJ,cB,<-e3]
 congr 1;omega
theorem Kp.rec{b:Int}{rule:List Int}{a:Nat->Int}(h:Kp b (Pm.aV b rule) a):∀n,rule.length<=n->tk b (a n)=tk b (S rule a n rule.length):=fun n hn=>by
 have:=h (n-rule.length)
 rw[Bb,show n-rule.length+rule.length=n by omega]at this
 exact dw.mp this
theorem CV{b:Int}{w:List Int}{a:Nat->Int}(hw:∀k,tk b (co w k)=co w k)(hm:Mon w)(hk:Kp b w a)(ha:∀n,tk b (a n)=a n){starts:List Int}(hl:starts.length=w.length-1)(hs:∀i,i<starts.length->starts.getD i 0=a i)(n:Nat):
  at_ b (fW b w) starts n=a n:=by
 have lr:=dX b w
 rw[<-lF hw hm]at hk
 refine rD (by omega) (g:=a) (fun i hi=>(hs i hi).symm) (fun i hi=>?_) n
 rw[<-ha i]
 exact hk.rec i (by omega)
end Pm
namespace Dm
open Pm
noncomputable def sg(m:Nat):Int:=if m%2=0 then 1 else -1
theorem mq(m:Nat):sg (m+1)=-sg m:=by
 unfold sg
 by_cases h:m%2=0
 ·rw[if_pos h,if_neg (by omega)]
 ·rw[if_neg h,if_pos (by omega)];rfl
theorem Bw(m n:Nat):sg (m+n)=sg m*sg n:=by
 induction n with
 |zero=>simp[sg]
 |succ n ih=>rw[<-Nat.add_assoc,mq,mq,ih,Int.mul_neg]
theorem JD(m:Nat):sg m*sg m=1:=by
 unfold sg;split<;>rfl
noncomputable def sk(c k:Nat):Nat:=if k<c then k else k+1
theorem Qk(c k:Nat):sk c k≠c:=by unfold sk;split<;>omega
noncomputable def det:Nat->(Nat->Nat->Int)->Int
 |0,_=>1
 |n+1,f=>sm (n+1) fun c=>sg (n+c)*f n c*det n fun i k=>f i (sk c k)
theorem cg:∀{n:Nat} {f g:Nat->Nat->Int},(∀i k,i<n->k<n->f i k=g i k)->det n f=det n g
 |0,_,_,_=>rfl
 |n+1,f,g,h=>by
  unfold det
  refine aC fun c hc=>?_
  rw[h n c (by omega) hc,cg fun i k hi hk=>h i (sk c k) (by omega) (by unfold sk;split<;>omega)]
noncomputable def gG(f:Nat->Nat->Int)(j:Nat)(u:Nat->Int):Nat->Nat->Int:=fun i k=>if k=j then u i else f i k
noncomputable def jU(f:Nat->Nat->Int)(j:Nat)(u:Nat->Int):Nat->Nat->Int:=fun i k=>if i=j then u k else f i k
theorem dh(f:Nat->Nat->Int)(j:Nat)(u:Nat->Int)(i:Nat):gG f j u i j=u i:=if_pos rfl
theorem gw{f:Nat->Nat->Int}{j k:Nat}{u:Nat->Int}{i:Nat}(h:k≠j):gG f j u i k=f i k:=if_neg h
theorem Hq{c j:Nat}(h:c≠j):∃j',sk c j'=j/\(∀k,sk c k=j->k=j'):=by
 refine⟨if j<c then j else j-1,?_,fun k hk=>?_⟩
 ·unfold sk;split<;>(try split)<;>omega
 ·unfold sk at hk;split at hk<;>split<;>omega
theorem pZ{n c j:Nat}(f:Nat->Nat->Int)(u:Nat->Int)(h:c≠j)(hc:c<n+1)(hj:j<n+1):∃j',j'<n/\∀u,(fun i k=>gG f j u i (sk c k))=gG (fun i k=>f i (sk c k)) j' u:=by
 obtain⟨j',e1,e2⟩:=Hq h
 refine⟨j',?_,fun u=>?_⟩
 ·unfold sk at e1;split at e1<;>omega
 ·funext i k
  unfold gG
  by_cases z:k=j'
  ·rw[if_pos z,if_pos (by rw[z,e1])]
  ·rw[if_neg z,if_neg fun w=>z (e2 k w)]
theorem gj:∀{n:Nat} (f:Nat->Nat->Int) {j:Nat} (_:j<n) (a:Int) (u v:Nat->Int),det n (gG f j fun i=>a*u i+v i)=a*det n (gG f j u)+det n (gG f j v)
 |0,_,_,h,_,_,_=>absurd h (Nat.not_lt_zero _)
 |n+1,f,j,hj,a,u,v=>by
  unfold det
  rw[<-cB,<-d8]
  refine aC fun c hc=>?_
  by_cases e:c=j
  ·subst e
   have m:∀w,(fun i k=>gG f c w i (sk c k))=fun i k=>f i (sk c k):=fun w=>by funext i k;exact gw (Qk c k)
   rw[m,m,m,dh,dh,dh]
   rw[Int.mul_add,Int.add_mul]
   congr 1
   rw[show sg (n+c)*(a*u n)=a*(sg (n+c)*u n)from Int.mul_left_comm ..,Int.mul_assoc a]
  ·obtain⟨j',hj',m⟩:=pZ f u e hc hj
   rw[m,m,m,gj _ hj',gw e,gw e,gw e,Int.mul_add]
   congr 1
   exact Int.mul_left_comm ..
theorem jL:∀{n:Nat} {f:Nat->Nat->Int} {j:Nat},j+1<n->(∀i,i<n->f i j=f i (j+1))->det n f=0
 |0,_,_,h,_=>absurd h (Nat.not_lt_zero _)
 |n+1,f,j,hj,h=>by
  unfold det
  have e:sm (n+1) (fun c=>sg (n+c)*f n c*det n fun i k=>f i (sk c k))=sm (n+1) (fun c=>(if c=j then sg (n+j)*f n j*det n (fun i k=>f i (sk j k))else 0)+(if c=j+1 then -(sg (n+j)*f n j*det n (fun i k=>f i (sk j k)))else 0)):=aC fun c hc=>by
   by_cases e1:c=j
   ·rw[if_pos e1,if_neg (by omega),e1,Int.add_zero]
   ·by_cases e2:c=j+1
    ·rw[if_neg e1,if_pos e2,e2,Int.zero_add,<-h n (by omega),show n+(j+1)=n+j+1 by omega,mq]
     have:det n (fun i k=>f i (sk (j+1) k))=det n (fun i k=>f i (sk j k)):=cg fun i k hi hk=>by
      by_cases z:k=j
      ·subst z
       rw[show sk (k+1) k=k by unfold sk;rw[if_pos (by omega)],show sk k k=k+1 by unfold sk;rw[if_neg (by omega)],h i (by omega)]
      ·rw[show sk (j+1) k=sk j k by unfold sk;split<;>split<;>omega]
     rw[this,Int.neg_mul,Int.neg_mul]
    ·rw[if_neg e1,if_neg e2,Int.add_zero]
     have:det n (fun i k=>f i (sk c k))=0:=by
      by_cases z:j+1<c
      ·exact jL (j:=j) (by omega) fun i hi=>by rw[show sk c j=j by unfold sk;rw[if_pos (by omega)],show sk c (j+1)=j+1 by unfold sk;rw[if_pos (by omega)]];exact h i (by omega)
      ·exact jL (j:=j-1) (by omega) fun i hi=>by rw[show sk c (j-1)=j by unfold sk;rw[if_neg (by omega)];omega,show sk c (j-1+1)=j+1 by unfold sk;rw[if_neg (by omega)];omega];exact h i (by omega)
     rw[this,Int.mul_zero]
  rw[e,d8]
  have s1:∀(x:Int) (t N:Nat),t<N->sm N (fun c=>if c=t then x else 0)=x:=fun x t N ht=>by rw[cN,if_pos ht]
  rw[s1 _ _ _ (by omega),s1 _ _ _ hj];omega
noncomputable def sw(j i:Nat):Nat:=if i=j then j+1 else if i=j+1 then j else i
theorem jB(f:Nat->Nat->Int)(j:Nat):gG f j (fun i=>f i j)=f:=by
 funext i k;unfold gG;split
 ·rename_i h;rw[h]
 ·rfl
theorem uZ{n:Nat}(f:Nat->Nat->Int){j:Nat}(hj:j+1<n):det n (fun i k=>f i (sw j k))=-det n f:=by
 let D:=fun(x y:Nat->Int)=>det n (gG (gG f j x) (j+1) y)
 have z:∀x,D x x=0:=fun x=>jL hj fun i _=>by
  rw[gw (by omega),dh,dh]
 have l2:∀x y y',D x (fun i=>1*y i+y' i)=1*D x y+D x y':=fun x y y'=>gj _ hj 1 y y'
 have cm:∀x y,gG (gG f j x) (j+1) y=gG (gG f (j+1) y) j x:=fun x y=>by
  funext i k;unfold gG;split<;>(try split)<;>first|rfl|omega
 have l1:∀x x' y,D (fun i=>1*x i+x' i) y=1*D x y+D x' y:=fun x x' y=>by
  show det n _=1*det n _+det n _
  rw[cm,cm,cm];exact gj _ (by omega) 1 x x'
 have a:=z fun i=>1*f i j+f i (j+1)
 rw[l1,l2,l2,z,z]at a
 have e1:D (fun i=>f i j) (fun i=>f i (j+1))=det n f:=by
  show det n _=_
  rw[jB f j,jB]
 have e2:D (fun i=>f i (j+1)) (fun i=>f i j)=det n (fun i k=>f i (sw j k)):=cg fun i k _ _=>by
  unfold gG sw
  by_cases c1:k=j+1
  ·rw[if_pos c1,if_neg (by omega),if_pos c1]
  ·rw[if_neg c1]
   by_cases c2:k=j
   ·rw[if_pos c2,if_pos c2]
   ·rw[if_neg c2,if_neg c2,if_neg c1]
 rw[e1,e2]at a
 omega
noncomputable def mv(h m k:Nat):Nat:=if k<h then k else if k<m then k+1 else if k=m then h else k
theorem zy{h m:Nat}(hm:h<m)(k:Nat):mv h m k=sw h (mv (h+1) m k):=by
 unfold mv sw
 repeat' split
 all_goals omega
theorem jQ{n:Nat}:∀(d:Nat) (f:Nat->Nat->Int) {h m:Nat},m=h+d->m<n->det n (fun i k=>f i (mv h m k))=sg d*det n f
 |0,f,h,m,e,hm=>by
  have:det n (fun i k=>f i (mv h m k))=det n f:=cg fun i k _ _=>by
   rw[show mv h m k=k by unfold mv;split<;>(try split)<;>(try split)<;>omega]
  rw[this];simp[sg]
 |d+1,f,h,m,e,hm=>by
  have e1:(fun i k=>f i (mv h m k))=fun i k=>(fun i k=>f i (sw h k)) i (mv (h+1) m k):=by
   funext i k;rw[zy (by omega)]
  rw[e1,jQ d (fun i k=>f i (sw h k)) (by omega) hm,uZ f (by omega),mq,Int.mul_neg,Int.neg_mul]
theorem gk{n:Nat}{f:Nat->Nat->Int}{a b:Nat}(hab:a<b)(hb:b<n)(h:∀i,i<n->f i a=f i b):det n f=0:=by
 have e:=jQ (n:=n) (b-1-a) f (h:=a) (m:=b-1) (by omega) (by omega)
 have z:det n (fun i k=>f i (mv a (b-1) k))=0:=jL (j:=b-1) (by omega) fun i hi=>by
  rw[show mv a (b-1) (b-1)=a by unfold mv;rw[if_neg (by omega),if_neg (by omega),if_pos rfl],show mv a (b-1) (b-1+1)=b by unfold mv;rw[if_neg (by omega),if_neg (by omega),if_neg (by omega)];omega]
  exact h i hi
 rw[z]at e
 have s:=JD (b-1-a)
 have:sg (b-1-a)*(sg (b-1-a)*det n f)=det n f:=by rw[<-Int.mul_assoc,s,Int.one_mul]
 rw[<-e,Int.mul_zero]at this
 exact this.symm
theorem iJ:∀{n:Nat} (f:Nat->Nat->Int) {j:Nat} (_:j<n) (a:Int) (u v:Nat->Int),det n (jU f j fun i=>a*u i+v i)=a*det n (jU f j u)+det n (jU f j v)
 |0,_,_,h,_,_,_=>absurd h (Nat.not_lt_zero _)
 |n+1,f,j,hj,a,u,v=>by
  unfold det
  rw[<-cB,<-d8]
  refine aC fun c hc=>?_
  by_cases e:j=n
  ·subst e
   have m:∀w,det j (fun i k=>jU f j w i (sk c k))=det j (fun i k=>f i (sk c k)):=fun w=>cg fun i k hi _=>if_neg (by omega)
   rw[m,m,m]
   show sg (j+c)*(if j=j then _ else _)*_=a*(sg (j+c)*(if j=j then _ else _)*_)+sg (j+c)*(if j=j then _ else _)*_
   rw[if_pos rfl,if_pos rfl,if_pos rfl,Int.mul_add,Int.add_mul]
   congr 1
   rw[show sg (j+c)*(a*u c)=a*(sg (j+c)*u c)from Int.mul_left_comm ..,Int.mul_assoc a]
  ·have m:∀w:Nat->Int,(fun i k=>jU f j w i (sk c k))=jU (fun i k=>f i (sk c k)) j fun k=>w (sk c k):=fun w=>by funext i k;rfl
   have r:∀w:Nat->Int,jU f j w n c=f n c:=fun w=>if_neg (fun z=>e z.symm)
   rw[m,m,m,r,r,r,iJ (fun i k=>f i (sk c k)) (by omega) a (fun k=>u (sk c k)) (fun k=>v (sk c k)),Int.mul_add]
   congr 1
   exact Int.mul_left_comm ..
theorem tri(T:Nat->Nat->Int):∀N:Nat,sm (N+1) (fun c=>sm N (fun c'=>T c c'))=sm (N+1) (fun b=>sm b (fun a=>T b a+T a (b-1)))
 |0=>by simp[sm]
 |N+1=>by
  have ih:=tri T N
  rw[sm,show(fun c=>sm (N+1) fun c'=>T c c')=fun c=>sm N (fun c'=>T c c')+T c N from rfl,d8,ih]
  conv=>rhs;rw[sm]
  rw[d8,Nat.add_sub_cancel]
  have e:(fun c'=>T (N+1) c')=T (N+1):=rfl
  rw[e]
  omega
theorem Qx{a b:Nat}(h:a<b)(k:Nat):sk b (sk a k)=sk a (sk (b-1) k):=by
 unfold sk
 repeat' split
 all_goals omega
theorem mH:∀{n:Nat} {f:Nat->Nat->Int} {j:Nat},j+1<n->(∀k,k<n->f j k=f (j+1) k)->det n f=0
 |0,_,_,h,_=>absurd h (Nat.not_lt_zero _)
 |1,_,_,h,_=>absurd h (by omega)
 |n+2,f,j,hj,h=>by
  by_cases e:j=n
  ·subst e
   have e1:det (j+2) f=sm (j+1+1) fun c=>sm (j+1) fun c'=>sg (j+1+c)*f (j+1) c*(sg (j+c')*f j (sk c c')*det j fun i k=>f i (sk c (sk c' k))):=by
    show sm (j+1+1) _=_
    refine aC fun c _=>?_
    rw[show det (j+1) (fun i k=>f i (sk c k))=sm (j+1) fun c'=>sg (j+c')*f j (sk c c')*det j fun i k=>f i (sk c (sk c' k))from rfl,<-cB]
   rw[e1,tri]
   refine gq fun b hb=>gq fun a ha=>?_
   have f1:sk b a=a:=by unfold sk;rw[if_pos ha]
   have f2:sk a (b-1)=b:=by unfold sk;rw[if_neg (by omega)];omega
   have f3:(fun i k=>f i (sk b (sk a k)))=fun i k=>f i (sk a (sk (b-1) k)):=by funext i k;rw[Qx ha]
   rw[f1,f2,f3,<-h b (by omega),<-h a (by omega)]
   have s1:sg (j+1+b)*sg (j+a)=-(sg (j+1+a)*sg (j+(b-1))):=by
    rw[<-Bw,<-Bw,<-mq]
    unfold sg
    rw[show(j+1+b+(j+a))%2=(j+1+a+(j+(b-1))+1)%2 by omega]
   generalize det j (fun i k=>f i (sk a (sk (b-1) k)))=M
   have t1:sg (j+1+b)*f j b*(sg (j+a)*f j a*M)=(sg (j+1+b)*sg (j+a))*(f j b*f j a*M):=by
    simp only[Int.mul_assoc,Int.mul_left_comm]
   have t2:sg (j+1+a)*f j a*(sg (j+(b-1))*f j b*M)=(sg (j+1+a)*sg (j+(b-1)))*(f j b*f j a*M):=by
    simp only[Int.mul_assoc,Int.mul_left_comm]
   rw[t1,t2,s1,Int.neg_mul];omega
  ·unfold det
   refine gq fun c hc=>?_
   rw[mH (n:=n+1) (j:=j) (by omega) fun k hk=>h (sk c k) (by unfold sk;split<;>omega),Int.mul_zero]
theorem kZ(f:Nat->Nat->Int)(j:Nat):jU f j (f j)=f:=by
 funext i k;unfold jU;split
 ·rename_i h;rw[h]
 ·rfl
theorem u6{n:Nat}(f:Nat->Nat->Int){j:Nat}(hj:j+1<n):det n (fun i k=>f (sw j i) k)=-det n f:=by
 let D:=fun(x y:Nat->Int)=>det n (jU (jU f j x) (j+1) y)
 have z:∀x,D x x=0:=fun x=>mH hj fun k _=>by
  show(if j=j+1 then x k else if j=j then x k else f j k)=(if j+1=j+1 then x k else _)
  rw[if_neg (by omega),if_pos rfl,if_pos rfl]
 have l2:∀x y y',D x (fun i=>1*y i+y' i)=1*D x y+D x y':=fun x y y'=>iJ _ hj 1 y y'
 have cm:∀x y,jU (jU f j x) (j+1) y=jU (jU f (j+1) y) j x:=fun x y=>by
  funext i k;unfold jU;split<;>(try split)<;>first|rfl|omega
 have l1:∀x x' y,D (fun i=>1*x i+x' i) y=1*D x y+D x' y:=fun x x' y=>by
  show det n _=1*det n _+det n _
  rw[cm,cm,cm];exact iJ _ (by omega) 1 x x'
 have a:=z fun i=>1*f j i+f (j+1) i
 rw[l1,l2,l2,z,z]at a
 have e1:D (fun i=>f j i) (fun i=>f (j+1) i)=det n f:=by
  show det n _=_
  rw[kZ f j,kZ]
 have e2:D (fun i=>f (j+1) i) (fun i=>f j i)=det n (fun i k=>f (sw j i) k):=cg fun i k _ _=>by
  unfold jU sw
  by_cases c1:i=j+1
  ·rw[if_pos c1,if_neg (by omega),if_pos c1]
  ·rw[if_neg c1]
   by_cases c2:i=j
   ·rw[if_pos c2,if_pos c2]
   ·rw[if_neg c2,if_neg c2,if_neg c1]
 rw[e1,e2]at a
 omega
theorem pq{n:Nat}:∀(d:Nat) (f:Nat->Nat->Int) {h m:Nat},m=h+d->m<n->det n (fun i k=>f (mv h m i) k)=sg d*det n f
 |0,f,h,m,e,hm=>by
  have:det n (fun i k=>f (mv h m i) k)=det n f:=cg fun i k _ _=>by
   rw[show mv h m i=i by unfold mv;split<;>(try split)<;>(try split)<;>omega]
  rw[this];simp[sg]
 |d+1,f,h,m,e,hm=>by
  have e1:(fun i k=>f (mv h m i) k)=fun i k=>(fun i k=>f (sw h i) k) (mv (h+1) m i) k:=by
   funext i k;rw[zy (by omega)]
  rw[e1,pq d (fun i k=>f (sw h i) k) (by omega) hm,u6 f (by omega),mq,Int.mul_neg,Int.neg_mul]
theorem uD{n:Nat}{f:Nat->Nat->Int}{a b:Nat}(hab:a<b)(hb:b<n)(h:∀k,k<n->f a k=f b k):det n f=0:=by
 have e:=pq (n:=n) (b-1-a) f (h:=a) (m:=b-1) (by omega) (by omega)
 have z:det n (fun i k=>f (mv a (b-1) i) k)=0:=mH (j:=b-1) (by omega) fun k hk=>by
  rw[show mv a (b-1) (b-1)=a by unfold mv;rw[if_neg (by omega),if_neg (by omega),if_pos rfl],show mv a (b-1) (b-1+1)=b by unfold mv;rw[if_neg (by omega),if_neg (by omega),if_neg (by omega)];omega]
  exact h k hk
 rw[z]at e
 have s:=JD (b-1-a)
 have:sg (b-1-a)*(sg (b-1-a)*det n f)=det n f:=by rw[<-Int.mul_assoc,s,Int.one_mul]
 rw[<-e,Int.mul_zero]at this
 exact this.symm
theorem vR{n:Nat}(f:Nat->Nat->Int){a b:Nat}(hab:a<b)(hb:b<n):det n (jU (jU f a (f b)) b fun k=>-1*f a k+0)=det n f:=by
 let D:=fun(x y:Nat->Int)=>det n (jU (jU f a x) b y)
 have z:∀x,D x x=0:=fun x=>uD hab hb fun k _=>by
  show(if a=b then x k else if a=a then x k else f a k)=(if b=b then x k else _)
  rw[if_neg (by omega),if_pos rfl,if_pos rfl]
 have l2:∀(c:Int) x y y',D x (fun i=>c*y i+y' i)=c*D x y+D x y':=fun c x y y'=>iJ _ hb c y y'
 have cm:∀x y,jU (jU f a x) b y=jU (jU f b y) a x:=fun x y=>by
  funext i k;unfold jU;split<;>(try split)<;>first|rfl|omega
 have l1:∀x x' y,D (fun i=>1*x i+x' i) y=1*D x y+D x' y:=fun x x' y=>by
  show det n _=1*det n _+det n _
  rw[cm,cm,cm];exact iJ _ (by omega) 1 x x'
 have q:=z fun i=>1*f a i+f b i
 rw[l1,l2,l2,z,z]at q
 have e1:D (f a) (f b)=det n f:=by
  show det n _=_
  rw[kZ f a,kZ]
 have e3:D (f b) (fun k=>-1*f a k+0)=-1*D (f b) (f a)+D (f b) (fun _=>0):=l2 (-1) (f b) (f a) (fun _=>0)
 have e4:D (f b) (fun _=>0)=0:=by
  have:=l2 0 (f b) (fun _=>0) (fun _=>0)
  have e5:=l2 (-1) (f b) (fun _=>0) (fun _=>0)
  simp only[Int.mul_zero,Int.add_zero]at e5
  omega
 show D (f b) (fun k=>-1*f a k+0)=_
 rw[e3,e4]
 have e6:D (fun i=>f a i) (fun i=>f b i)=det n f:=e1
 have e7:D (fun i=>f b i) (fun i=>f a i)=D (f b) (f a):=rfl
 rw[e6,e7]at q
 omega
end Dm
namespace Dm
open Pm
theorem iV{n:Nat}(f:Nat->Nat->Int){j:Nat}(hj:j<n):det n (gG f j fun _=>0)=0:=by
 have e:=gj f hj (-1) (fun _=>0) (fun _=>0)
 simp only[Int.mul_zero,Int.add_zero]at e
 omega
theorem jD{n:Nat}(f:Nat->Nat->Int){j:Nat}(hj:j<n)(x:Nat->Int)(u:Nat->Nat->Int):∀m:Nat,det n (gG f j fun i=>sm m fun h=>x h*u h i)=sm m fun h=>x h*det n (gG f j (u h))
 |0=>iV f hj
 |m+1=>by
  rw[sm,<-jD f hj x u m]
  have e:=gj f hj (x m) (u m) (fun i=>sm m fun h=>x h*u h i)
  rw[Int.add_comm,<-e]
  congr 2
  funext i
  rw[sm,Int.add_comm]
theorem Hu{n:Nat}{f:Nat->Nat->Int}{x:Nat->Int}(h:∀i,i<n->sm n (fun k=>f i k*x k)=0){j:Nat}(hj:j<n):x j*det n f=0:=by
 have e1:det n (gG f j fun i=>sm n fun k=>x k*f i k)=0:=by
  rw[<-iV f hj]
  refine cg fun i k hi _=>?_
  unfold gG
  split
  ·rw[<-h i hi]
   exact aC fun k _=>Int.mul_comm ..
  ·rfl
 rw[jD f hj x (fun k i=>f i k)]at e1
 have e2:sm n (fun k=>x k*det n (gG f j fun i=>f i k))=sm n (fun k=>if k=j then x j*det n f else 0):=aC fun k hk=>by
  by_cases c:k=j
  ·rw[if_pos c,c,jB]
  ·rw[if_neg c]
   have z:det n (gG f j fun i=>f i k)=0:=by
    rcases Nat.lt_or_gt_of_ne c with l|l
    ·exact gk l hj fun i _=>by rw[dh,gw (by omega)]
    ·exact gk l hk fun i _=>by rw[dh,gw (by omega)]
   rw[z,Int.mul_zero]
 rw[e2,cN,if_pos hj]at e1
 exact e1
noncomputable def Bk(A:Nat->Nat->Int)(hd:Nat->Nat):Nat->Nat->Int:=fun i h=>A i (hd h)
noncomputable def dt(A:Nat->Nat->Int)(hd:Nat->Nat)(r:Nat):Int:=det r (Bk A hd)
noncomputable def cr(A:Nat->Nat->Int)(hd:Nat->Nat)(r h k:Nat):Int:=det r (gG (Bk A hd) h fun i=>A i k)
noncomputable def bd(A:Nat->Nat->Int)(hd:Nat->Nat)(r i k:Nat):Int:=det (r+1) fun i' k'=>A (if i'=r then i else i') (if k'=r then k else hd k')
theorem kO(A:Nat->Nat->Int)(hd:Nat->Nat)(r i k:Nat):bd A hd r i k=A i k*dt A hd r-sm r fun h=>A i (hd h)*cr A hd r h k:=by
 unfold bd
 rw[det,sm]
 have e1:sg (r+r)*A (if r=r then i else r) (if r=r then k else hd r)*det r (fun i' k'=>A (if i'=r then i else i') (if sk r k'=r then k else hd (sk r k')))=A i k*dt A hd r:=by
  rw[if_pos rfl,if_pos rfl,show sg (r+r)=1 by unfold sg;rw[if_pos (by omega)],Int.one_mul]
  congr 1
  exact cg fun i' k' hi hk=>by
   rw[if_neg (by omega),show sk r k'=k' by unfold sk;rw[if_pos hk],if_neg (by omega)];rfl
 rw[e1]
 have e2:sm r (fun c=>sg (r+c)*A (if r=r then i else r) (if c=r then k else hd c)*det r (fun i' k'=>A (if i'=r then i else i') (if sk c k'=r then k else hd (sk c k'))))=sm r fun h=>-1*(A i (hd h)*cr A hd r h k):=aC fun c hc=>by
  rw[if_pos rfl,if_neg (by omega)]
  have m:det r (fun i' k'=>A (if i'=r then i else i') (if sk c k'=r then k else hd (sk c k')))=sg (r-1-c)*cr A hd r c k:=by
   rw[cr,<-jQ (n:=r) (r-1-c) (gG (Bk A hd) c fun i=>A i k) (h:=c) (m:=r-1) (by omega) (by omega)]
   refine cg fun i' k' hi hk=>?_
   rw[if_neg (by omega)]
   unfold sk mv gG Bk
   by_cases c1:k'<c
   ·rw[if_pos c1,if_pos c1,if_neg (by omega),if_neg (by omega)]
   ·rw[if_neg c1,if_neg c1]
    by_cases c2:k'<r-1
    ·rw[if_pos c2,if_neg (by omega),if_neg (by omega)]
    ·rw[if_neg c2,if_pos (show k'+1=r by omega),if_pos (show k'=r-1 by omega),if_pos rfl]
  rw[m]
  have s:sg (r+c)*sg (r-1-c)=-1:=by
   rw[<-Bw];unfold sg;rw[if_neg (by omega)]
  have t:sg (r+c)*A i (hd c)*(sg (r-1-c)*cr A hd r c k)=(sg (r+c)*sg (r-1-c))*(A i (hd c)*cr A hd r c k):=by simp only[Int.mul_assoc,Int.mul_left_comm]
  rw[t,s]
 rw[e2,cB]
 omega
theorem B6{A:Nat->Nat->Int}{hd:Nat->Nat}{r i:Nat}(k:Nat)(h:i<r):bd A hd r i k=0:=uD h (Nat.lt_succ_self r) fun k' _=>by
 rw[if_neg (by omega),if_pos rfl]
theorem E7{A:Nat->Nat->Int}{hd:Nat->Nat}{r i:Nat}(k:Nat)(h:i<r):sm r (fun h=>A i (hd h)*cr A hd r h k)=A i k*dt A hd r:=by
 have:=kO A hd r i k
 rw[B6 k h]at this
 omega
theorem BP(A:Nat->Nat->Int)(hd:Nat->Nat)(r i k:Nat):sm r (fun h=>A i (hd h)*cr A hd r h k)=A i k*dt A hd r-bd A hd r i k:=by
 have:=kO A hd r i k
 omega
noncomputable def more(hd:Nat->Nat)(r c:Nat):Nat->Nat:=fun h=>if h=r then c else hd h
theorem rZ(A:Nat->Nat->Int)(hd:Nat->Nat)(r c:Nat):dt A (more hd r c) (r+1)=bd A hd r r c:=cg fun i k _ _=>by
 unfold Bk more
 by_cases h:i=r
 ·rw[if_pos h,h]
 ·rw[if_neg h]
theorem HB(A:Nat->Nat->Int)(hd:Nat->Nat)(r c k:Nat):cr A (more hd r c) (r+1) r k=bd A hd r r k:=cg fun i k' _ _=>by
 unfold gG Bk more
 by_cases h:i=r
 ·rw[if_pos h,h]
  by_cases h2:k'=r
  ·rw[if_pos h2,if_pos h2]
  ·rw[if_neg h2,if_neg h2,if_neg h2]
 ·rw[if_neg h]
  by_cases h2:k'=r
  ·rw[if_pos h2,if_pos h2]
  ·rw[if_neg h2,if_neg h2,if_neg h2]
theorem wQ(A:Nat->Nat->Int)(hd:Nat->Nat)(r c i k:Nat):
  sm r (fun h=>A i (hd h)*(bd A hd r r c*cr A hd r h k-cr A hd r h c*bd A hd r r k))+A i c*(dt A hd r*bd A hd r r k)=bd A hd r r c*(A i k*dt A hd r-bd A hd r i k)+bd A hd r r k*bd A hd r i c:=by
 have e1:sm r (fun h=>A i (hd h)*(bd A hd r r c*cr A hd r h k-cr A hd r h c*bd A hd r r k))=bd A hd r r c*sm r (fun h=>A i (hd h)*cr A hd r h k) + -(bd A hd r r k)*sm r (fun h=>A i (hd h)*cr A hd r h c):=by
  rw[<-cB,<-cB,<-d8]
  refine aC fun h _=>?_
  rw[Int.mul_sub,Int.neg_mul,Int.mul_left_comm,<-Int.mul_assoc (A i (hd h)),Int.mul_comm (A i (hd h)*cr A hd r h c)]
  omega
 rw[e1,BP,BP,Int.mul_sub (-bd A hd r r k),Int.neg_mul,Int.neg_mul]
 have e2:A i c*(dt A hd r*bd A hd r r k)=bd A hd r r k*(A i c*dt A hd r):=by simp only[Int.mul_assoc,Int.mul_left_comm,Int.mul_comm]
 rw[e2];omega
theorem A8{A:Nat->Nat->Int}{hd:Nat->Nat}{r c:Nat}(hp:bd A hd r r c≠0){h:Nat}(hh:h<r)(k:Nat):dt A hd r*cr A (more hd r c) (r+1) h k=bd A hd r r c*cr A hd r h k-cr A hd r h c*bd A hd r r k:=by
 let x:=fun h=>dt A hd r*cr A (more hd r c) (r+1) h k-(if h=r then dt A hd r*bd A hd r r k else bd A hd r r c*cr A hd r h k-cr A hd r h c*bd A hd r r k)
 have key:=Hu (n:=r+1) (f:=Bk A (more hd r c)) (x:=x) (fun i hi=>?_) (j:=h) (by omega)
 ·have e:det (r+1) (Bk A (more hd r c))=bd A hd r r c:=rZ A hd r c
  rw[e]at key
  rcases Int.mul_eq_zero.mp key with z|z
  ·have z':dt A hd r*cr A (more hd r c) (r+1) h k-(if h=r then dt A hd r*bd A hd r r k else bd A hd r r c*cr A hd r h k-cr A hd r h c*bd A hd r r k)=0:=z
   rw[if_neg (by omega)]at z'
   omega
  ·exact absurd z hp
 ·have e1:sm (r+1) (fun h=>Bk A (more hd r c) i h*x h)=dt A hd r*sm (r+1) (fun h=>A i (more hd r c h)*cr A (more hd r c) (r+1) h k) + -1*sm (r+1) (fun h=>A i (more hd r c h)*(if h=r then dt A hd r*bd A hd r r k else bd A hd r r c*cr A hd r h k-cr A hd r h c*bd A hd r r k)):=by
   rw[<-cB,<-cB,<-d8]
   refine aC fun h _=>?_
   show A i (more hd r c h)*(dt A hd r*cr A (more hd r c) (r+1) h k-_)=_
   rw[Int.mul_sub,Int.mul_left_comm]
   omega
  rw[e1,E7 k hi,rZ,sm,if_pos rfl,show more hd r c r=c from if_pos rfl]
  have e2:sm r (fun h=>A i (more hd r c h)*(if h=r then dt A hd r*bd A hd r r k else bd A hd r r c*cr A hd r h k-cr A hd r h c*bd A hd r r k))=sm r (fun h=>A i (hd h)*(bd A hd r r c*cr A hd r h k-cr A hd r h c*bd A hd r r k)):=aC fun h hh=>by
   rw[if_neg (by omega),show more hd r c h=hd h from if_neg (by omega)]
  rw[e2,wQ]
  have e3:dt A hd r*(A i k*bd A hd r r c)=bd A hd r r c*(A i k*dt A hd r):=by simp only[Int.mul_assoc,Int.mul_left_comm,Int.mul_comm]
  rw[e3,Int.mul_sub]
  have e4:bd A hd r r c*bd A hd r i k=bd A hd r r k*bd A hd r i c:=by
   by_cases z:i<r
   ·rw[B6 k z,B6 c z,Int.mul_zero,Int.mul_zero]
   ·rw[show i=r by omega,Int.mul_comm]
  rw[e4];omega
theorem HL{A:Nat->Nat->Int}{hd:Nat->Nat}{r c:Nat}(hp:bd A hd r r c≠0)(i k:Nat):dt A hd r*bd A (more hd r c) (r+1) i k=bd A hd r r c*bd A hd r i k-bd A hd r i c*bd A hd r r k:=by
 rw[kO A (more hd r c) (r+1),rZ,Int.mul_sub,<-cB,sm,HB,show more hd r c r=c from if_pos rfl]
 have e2:sm r (fun h=>dt A hd r*(A i (more hd r c h)*cr A (more hd r c) (r+1) h k))=sm r (fun h=>A i (hd h)*(bd A hd r r c*cr A hd r h k-cr A hd r h c*bd A hd r r k)):=aC fun h hh=>by
  rw[Int.mul_left_comm,A8 hp hh,show more hd r c h=hd h from if_neg (by omega)]
 have e5:=wQ A hd r c i k
 rw[e2,show dt A hd r*(A i c*bd A hd r r k)=A i c*(dt A hd r*bd A hd r r k)from Int.mul_left_comm ..,e5,Int.mul_sub]
 have e3:dt A hd r*(A i k*bd A hd r r c)=bd A hd r r c*(A i k*dt A hd r):=by simp only[Int.mul_assoc,Int.mul_left_comm,Int.mul_comm]
 rw[e3,Int.mul_comm (bd A hd r i c)];omega
noncomputable def En(A:Nat->Nat->Int)(hd:Nat->Nat)(r i k:Nat):Int:=if i<r then cr A hd r i k else bd A hd r i k
theorem Hr(A:Nat->Nat->Int)(hd:Nat->Nat)(i k:Nat):En A hd 0 i k=A i k:=by
 unfold En
 rw[if_neg (by omega),kO]
 simp[sm,dt,det]
theorem BL{A:Nat->Nat->Int}{hd:Nat->Nat}{r c:Nat}(hp:En A hd r r c≠0){i:Nat}(hi:i≠r)(k:Nat):dt A hd r*En A (more hd r c) (r+1) i k=En A hd r r c*En A hd r i k-En A hd r i c*En A hd r r k:=by
 have er:∀k,En A hd r r k=bd A hd r r k:=fun k=>if_neg (by omega)
 rw[er]at hp⊢
 rw[er]
 unfold En
 by_cases h:i<r
 ·rw[if_pos (by omega),if_pos h,if_pos h];exact A8 hp h k
 ·rw[if_neg (by omega),if_neg h,if_neg h];exact HL hp i k
theorem AX(A:Nat->Nat->Int)(hd:Nat->Nat)(r c:Nat):dt A (more hd r c) (r+1)=En A hd r r c:=by
 rw[rZ];exact(if_neg (by omega)).symm
theorem Bp(A:Nat->Nat->Int)(hd:Nat->Nat):dt A hd 0=1:=rfl
theorem Hy{A:Nat->Nat->Int}{hd:Nat->Nat}{r i h:Nat}(hh:h<r):En A hd r i (hd h)=if i=h then dt A hd r else 0:=by
 unfold En
 by_cases c:i<r
 ·rw[if_pos c]
  by_cases e:i=h
  ·rw[if_pos e,e]
   show det r (gG (Bk A hd) h fun i=>Bk A hd i h)=_
   rw[jB];rfl
  ·rw[if_neg e]
   show det r (gG (Bk A hd) i fun i'=>A i' (hd h))=0
   rcases Nat.lt_or_gt_of_ne e with l|l
   ·exact gk l hh fun i' _=>by rw[dh,gw (by omega)];rfl
   ·exact gk l c fun i' _=>by rw[dh,gw (by omega)];rfl
 ·rw[if_neg c,if_neg (by omega)]
  exact gk (a:=h) (b:=r) hh (Nat.lt_succ_self r) fun i' _=>by rw[if_neg (show ¬h=r by omega),if_pos (show r=r from rfl)]
theorem Jy(A:Nat->Nat->Int)(hd:Nat->Nat)(r i k:Nat):A i k*dt A hd r=sm r (fun h=>A i (hd h)*En A hd r h k)+(if i<r then 0 else En A hd r i k):=by
 have e:sm r (fun h=>A i (hd h)*En A hd r h k)=sm r (fun h=>A i (hd h)*cr A hd r h k):=aC fun h hh=>by
  unfold En;rw[if_pos hh]
 rw[e]
 by_cases c:i<r
 ·rw[if_pos c,E7 k c,Int.add_zero]
 ·rw[if_neg c,BP];unfold En;rw[if_neg c];omega
end Dm
namespace Dm
open Pm Rm
noncomputable def Dom(b:Int):Prop:=∀x y,tk b x≠0->tk b (x*y)=0->tk b y=0
theorem Dom.zero:Dom 0:=fun x y hx h=>by
 rw[bD]at *
 rcases Int.mul_eq_zero.mp h with z|z
 ·exact absurd z hx
 ·exact z
theorem Dom.prime{P:Nat}(hP:P∈Om.gF)(h2:2<=P):Dom (P:Int):=fun x y hx h=>by
 have hP0:(P:Int)≠0:=by omega
 have tkP:∀n,tk (P:Int) n=n%(P:Int):=fun n=>dU hP0 n
 rw[tkP]at *
 have r0:=Int.emod_nonneg x hP0
 have r1:=Int.emod_lt_of_pos x (show(0:Int)<P by omega)
 have hinv:((x%P)^(P-2)*(x%P))%(P:Int)=1:=by
  rw[<-Int.pow_succ,show(P-2).succ=P-1 by omega]
  exact Om.oO rfl hP (by omega) r1
 have e1:((x%P)^(P-2)*(x*y))%(P:Int)=0:=by rw[Int.mul_emod,h,Int.mul_zero];exact Int.zero_emod _
 have e2:((x%P)^(P-2)*(x*y))%(P:Int)=y%(P:Int):=by
  have e3:((x%P)^(P-2)*x)%(P:Int)=1:=by rw[Int.mul_emod,<-hinv,Int.mul_emod ((x%P)^(P-2)) (x%P),Int.emod_emod_of_dvd _ (Int.dvd_refl _)]
  rw[<-Int.mul_assoc,Int.mul_emod,e3,Int.one_mul,Int.emod_emod_of_dvd _ (Int.dvd_refl _)]
 rw[<-e2,e1]
theorem dM{b x:Int}:tk b x=0↔∃e,x=b*e:=by
 unfold tk
 split
 ·rename_i h
  constructor
  ·intro z;exact⟨0,by rw[z,Int.mul_zero]⟩
  ·rintro⟨e,he⟩;rw[he,h,Int.zero_mul]
 ·constructor
  ·intro z;exact⟨x/b,(Int.mul_ediv_cancel' (Int.dvd_of_emod_eq_zero z)).symm⟩
  ·rintro⟨e,he⟩;rw[he];exact Int.mul_emod_right b e
noncomputable def turn(A:Nat->Nat->Int)(a c:Nat):Nat->Nat->Int:=jU (jU A a (A c)) c fun k=>-1*A a k+0
inductive Swp(n:Nat)(A0:Nat->Nat->Int):(Nat->Nat->Int)->Prop
 |refl:Swp n A0 A0
 |step {A:Nat->Nat->Int} {a c:Nat}:Swp n A0 A->a<c->c<n->Swp n A0 (turn A a c)
theorem Swp.det{n:Nat}{A0 A:Nat->Nat->Int}(h:Swp n A0 A):Dm.det n A=Dm.det n A0:=by
 induction h with
 |refl=>rfl
 |step _ h1 h2 ih=>rw[<-ih];exact vR _ h1 h2
theorem iZ{A:Nat->Nat->Int}{a c i:Nat}(h1:i≠a)(h2:i≠c)(k:Nat):turn A a c i k=A i k:=by
 unfold turn jU;rw[if_neg h2,if_neg h1]
theorem sO{A:Nat->Nat->Int}{a c:Nat}(h:a≠c)(k:Nat):turn A a c a k=A c k:=by
 unfold turn jU;rw[if_neg h,if_pos rfl]
theorem iK(A:Nat->Nat->Int)(a c k:Nat):turn A a c c k=-A a k:=by
 unfold turn jU;rw[if_pos rfl]
 show -1*A a k+0=-A a k
 omega
theorem CN{A:Nat->Nat->Int}{hd:Nat->Nat}{r a c:Nat}(ha:r<=a)(hc:r<=c):dt (turn A a c) hd r=dt A hd r:=cg fun i k hi _=>iZ (by omega) (by omega) _
theorem CB{A:Nat->Nat->Int}{hd:Nat->Nat}{r a c:Nat}(ha:r<=a)(hc:r<=c)(h k:Nat):cr (turn A a c) hd r h k=cr A hd r h k:=cg fun i k' hi _=>by
 show(if k'=h then turn A a c i k else turn A a c i (hd k'))=if k'=h then A i k else A i (hd k')
 rw[iZ (by omega) (by omega),iZ (by omega) (by omega)]
theorem Ac{A:Nat->Nat->Int}{hd:Nat->Nat}{r a c:Nat}(ha:r<=a)(hac:a<c)(i k:Nat):En (turn A a c) hd r i k=if i=a then En A hd r c k else if i=c then -En A hd r a k else En A hd r i k:=by
 have hc:r<=c:=by omega
 unfold En
 by_cases h:i<r
 ·rw[if_pos h,if_neg (by omega),if_neg (by omega),if_pos h];exact CB ha hc i k
 ·rw[if_neg h,kO,CN ha hc]
  have e:∀j,sm r (fun h=>turn A a c j (hd h)*cr (turn A a c) hd r h k)=sm r (fun h=>turn A a c j (hd h)*cr A hd r h k):=fun j=>aC fun h _=>by rw[CB ha hc]
  rw[e]
  by_cases h1:i=a
  ·rw[if_pos h1,if_neg (by omega),kO,h1,sO (by omega)]
   congr 1
   exact aC fun h _=>by rw[sO (by omega)]
  ·rw[if_neg h1]
   by_cases h2:i=c
   ·rw[if_pos h2,if_neg (by omega),kO,h2,iK]
    have:sm r (fun h=>turn A a c c (hd h)*cr A hd r h k)=-1*sm r (fun h=>A a (hd h)*cr A hd r h k):=by
     rw[<-cB]
     exact aC fun h _=>by rw[iK,Int.neg_mul];omega
    rw[this,Int.neg_mul];omega
   ·rw[if_neg h2,if_neg h,kO,iZ h1 h2]
    congr 1
    exact aC fun h _=>by rw[iZ h1 h2]
noncomputable def ln(L:List (List Int))(i:Nat):List Int:=L.getD i []
structure ClI(b:Int)(n W u:Nat)(A0:Nat->Nat->Int)(c:Nat)(A:Nat->Nat->Int)(hd:Nat->Nat)(r:Nat)(L:List (List Int))(last:Int):Prop where
 sw:Swp n A0 A
 len:L.length=n
 wd:∀i,i<n->(ln L i).length=W
 en:∀i k,i<n->k<W->co (ln L i) k=tk b (En A hd r i k)
 la:last=tk b (dt A hd r)
 nz:tk b (dt A hd r)≠0
 rn:r<=n
 hc:∀h,h<r->hd h<c
 up:∀h h',h<h'->h'<r->hd h<hd h'
 zero:∀k,k<c->(∀h,h<r->hd h≠k)->∀i,r<=i->i<n->tk b (En A hd r i k)=0
 full:c<=n->(r=c/\∀h,h<r->hd h=h)∨tk b (det n A)=0
 bdd:∀i k,Bd u (A i k)
 ge:∀h,h<r->∀k,k<hd h->(∀h',h'<r->hd h'≠k)->tk b (En A hd r h k)=0
theorem uz{u:Nat}:∀{n:Nat} {f:Nat->Nat->Int},(∀i k,i<n->k<n->Bd u (f i k))->Bd (n*(u+n)+1) (det n f)
 |0,_,_=>by
  show Bd (0*(u+0)+1) 1
  rw[Nat.zero_mul];exact Bd.of (by decide) (by decide)
 |n+1,f,h=>by
  unfold det
  have e:Bd (u+(n*(u+n)+1)+(n+1)) (sm (n+1) fun c=>sg (n+c)*f n c*det n fun i k=>f i (sk c k)):=Ef _ fun c hc=>by
   have b1:=h n c (by omega) hc
   have b2:=uz (u:=u) (n:=n) (f:=fun i k=>f i (sk c k)) fun i k hi hk=>h i (sk c k) (by omega) (by unfold sk;split<;>omega)
   have b3:=b1.mul b2
   unfold Bd at b3⊢
   rw[Int.mul_assoc,Int.natAbs_mul]
   have:(sg (n+c)).natAbs=1:=by unfold sg;split<;>rfl
   rw[this,Nat.one_mul];exact b3
  refine e.mono ?_
  have:(n+1)*(u+(n+1))=n*(u+n)+n+u+(n+1):=by
   rw[Nat.succ_mul,show u+(n+1)=u+n+1 by omega,Nat.mul_add n (u+n) 1];omega
  omega
end Dm
namespace Dm
open Rm Pm
theorem jX{b x:Int}(h:tk b x=0):tk b (-x)=0:=by
 have:=bN b (-1) x
 rw[h,Int.mul_zero,tk0]at this
 rw[show -x=-1*x by omega,<-this]
theorem rW{b x:Int}(y:Int)(h:tk b x=0):tk b (y*x)=0:=by rw[<-bN,h,Int.mul_zero,tk0]
theorem Ho{b x y:Int}(h:tk b x=0)(h':tk b y=0):tk b (x+y)=0:=by rw[<-cJ,h,Int.zero_add,h']
theorem C9{b x y:Int}(h:tk b x=0)(h':tk b y=0):tk b (x-y)=0:=by rw[Int.sub_eq_add_neg];exact Ho h (jX h')
theorem E5(f:Nat->Int)(n:Nat):sm n (fun k=>-f k)=-sm n f:=by
 have e:(fun k=>-f k)=fun k=>-1*f k:=funext fun k=>by omega
 rw[e,cB];omega
theorem FZ(f g:Nat->Int)(n:Nat):sm n (fun k=>f k-g k)=sm n f-sm n g:=by
 have e:(fun k=>f k-g k)=fun k=>f k + -g k:=funext fun k=>by omega
 rw[e,d8,E5];omega
theorem IX{b:Int}{f:Nat->Int}{n:Nat}(h:∀k,k<n->tk b (f k)=0):tk b (sm n f)=0:=by
 have:=iz (b:=b) (f:=f) (g:=fun _=>0) (n:=n) fun k hk=>by rw[h k hk,tk0]
 rw[this,jx,tk0]
noncomputable def Rel(b:Int)(n m:Nat)(A:Nat->Nat->Int)(x:Nat->Int):Prop:=∀i,i<n->tk b (sm m fun k=>A i k*x k)=0
theorem Ar(A:Nat->Nat->Int)(x:Nat->Int)(i m:Nat):sm m (fun k=>-A i k*x k)=-sm m fun k=>A i k*x k:=by
 rw[<-E5]
 exact aC fun k _=>Int.neg_mul ..
theorem Rel.turn{b:Int}{n m:Nat}{A:Nat->Nat->Int}{x:Nat->Int}{a c:Nat}(hac:a<c)(hc:c<n):Rel b n m A x↔Rel b n m (turn A a c) x:=by
 have ha:a<n:=by omega
 constructor
 ·intro h i hi
  by_cases c1:i=c
  ·rw[c1,aC (g:=fun k=>-A a k*x k) fun k _=>by rw[iK],Ar]
   exact jX (h a ha)
  ·by_cases c2:i=a
   ·rw[c2,aC (g:=fun k=>A c k*x k) fun k _=>by rw[sO (by omega)]]
    exact h c hc
   ·rw[aC (g:=fun k=>A i k*x k) fun k _=>by rw[iZ c2 c1]]
    exact h i hi
 ·intro h i hi
  by_cases c1:i=c
  ·have:=h a ha
   rw[aC (g:=fun k=>A c k*x k) fun k _=>by rw[sO (by omega)]]at this
   rw[c1];exact this
  ·by_cases c2:i=a
   ·have:=h c hc
    rw[aC (g:=fun k=>-A a k*x k) fun k _=>by rw[iK],Ar]at this
    rw[c2]
    have:=jX this
    rwa [Int.neg_neg]at this
   ·have:=h i hi
    rw[aC (g:=fun k=>A i k*x k) fun k _=>by rw[iZ c2 c1]]at this
    exact this
theorem Swp.rel{b:Int}{n m:Nat}{A0 A:Nat->Nat->Int}{x:Nat->Int}(h:Swp n A0 A):Rel b n m A0 x↔Rel b n m A x:=by
 induction h with
 |refl=>exact Iff.rfl
 |step _ h1 h2 ih=>exact ih.trans (Rel.turn h1 h2)
theorem zG{b:Int}:∀{n:Nat} {f g:Nat->Nat->Int},(∀i k,i<n->k<n->tk b (f i k)=tk b (g i k))->tk b (det n f)=tk b (det n g)
 |0,_,_,_=>rfl
 |n+1,f,g,h=>by
  unfold det
  refine iz fun c hc=>?_
  have e1:tk b (det n fun i k=>f i (sk c k))=tk b (det n fun i k=>g i (sk c k)):=zG fun i k hi hk=>h i _ (by omega) (by unfold sk;split<;>omega)
  rw[<-bN,e1,bN,Int.mul_assoc,<-bN,<-cT b (f n c),h n c (by omega) hc,cT,bN,Int.mul_assoc]
theorem Rel.en{b:Int}{n m:Nat}{A:Nat->Nat->Int}{x:Nat->Int}(hx:Rel b n m A x)(hd:Nat->Nat){r:Nat}(hr:r<=n):Rel b n m (En A hd r) x:=by
 have low:∀i,i<r->tk b (sm m fun k=>cr A hd r i k*x k)=0:=fun i hi=>by
  have e:=jD (n:=r) (Bk A hd) hi x (fun k i'=>A i' k) m
  have e2:sm m (fun k=>cr A hd r i k*x k)=sm m fun k=>x k*det r (gG (Bk A hd) i fun i'=>A i' k):=aC fun k _=>Int.mul_comm ..
  rw[e2,<-e,zG (g:=gG (Bk A hd) i fun _=>0) (fun i' k' hi' _=>?_),iV _ hi,tk0]
  unfold gG
  split
  ·have:=hx i' (by omega)
   rw[tk0,<-this]
   exact congrArg (tk b) (aC fun k _=>Int.mul_comm ..)
  ·rfl
 intro i hi
 by_cases c:i<r
 ·rw[aC (g:=fun k=>cr A hd r i k*x k) fun k _=>by unfold En;rw[if_pos c]]
  exact low i c
 ·have e:sm m (fun k=>En A hd r i k*x k)=dt A hd r*sm m (fun k=>A i k*x k)-sm r fun h=>A i (hd h)*sm m fun k=>cr A hd r h k*x k:=by
   rw[<-cB]
   have e2:sm r (fun h=>A i (hd h)*sm m fun k=>cr A hd r h k*x k)=sm m fun k=>sm r fun h=>A i (hd h)*(cr A hd r h k*x k):=by
    rw[pN]
    exact aC fun h _=>(cB ..).symm
   rw[e2,<-FZ]
   refine aC fun k _=>?_
   unfold En
   rw[if_neg c,kO,Int.sub_mul]
   congr 1
   ·rw[Int.mul_comm (A i k),Int.mul_assoc]
   ·rw[Int.mul_comm,<-cB]
    exact aC fun h _=>by rw[Int.mul_comm,Int.mul_assoc]
  rw[e]
  exact C9 (rW _ (hx i hi)) (IX fun h hh=>rW _ (low h hh))
noncomputable def Ind(b:Int)(n m:Nat)(A:Nat->Nat->Int):Prop:=∀x,Rel b n m A x->∀k,k<m->tk b (x k)=0
theorem wD{A:Nat->Nat->Int}{hd:Nat->Nat}{r m k:Nat}{b:Int}{n:Nat}(hm:∀h,h<r->hd h<m)(hk:k<m)(hz:∀i,r<=i->i<n->tk b (En A hd r i k)=0):
  Rel b n m A fun j=>sm r (fun h=>if j=hd h then En A hd r h k else 0)-if j=k then dt A hd r else 0:=fun i hi=>by
 have e:sm m (fun j=>A i j*(sm r (fun h=>if j=hd h then En A hd r h k else 0)-if j=k then dt A hd r else 0))=sm r (fun h=>A i (hd h)*En A hd r h k)-A i k*dt A hd r:=by
  rw[aC (g:=fun j=>sm r (fun h=>if j=hd h then A i (hd h)*En A hd r h k else 0)-if j=k then A i k*dt A hd r else 0) fun j _=>?_,FZ,cN,if_pos hk,pN]
  ·congr 1
   exact aC fun h hh=>by rw[cN,if_pos (hm h hh)]
  ·rw[Int.mul_sub,<-cB]
   congr 1
   ·refine aC fun h _=>?_
    by_cases c:j=hd h
    ·rw[if_pos c,if_pos c,c]
    ·rw[if_neg c,if_neg c,Int.mul_zero]
   ·by_cases c:j=k
    ·rw[if_pos c,if_pos c,c]
    ·rw[if_neg c,if_neg c,Int.mul_zero]
 rw[e]
 have q:=Jy A hd r i k
 by_cases c:i<r
 ·rw[if_pos c,Int.add_zero]at q
  rw[q,Int.sub_self,tk0]
 ·rw[if_neg c]at q
  rw[q,show sm r (fun h=>A i (hd h)*En A hd r h k)-(sm r (fun h=>A i (hd h)*En A hd r h k)+En A hd r i k)=-En A hd r i k by omega]
  exact jX (hz i (by omega) hi)
theorem E4{b:Int}{n n' m:Nat}{A:Nat->Nat->Int}(hn:n<=n')(h:Ind b n m A):Ind b n' m A:=fun x hx=>h x fun i hi=>hx i (by omega)
end Dm
namespace Pm
open Rm
noncomputable def Fs(f:Nat->Int)(n:Nat):Prop:=∀k,n<=k->f k=0
theorem Fs.co(p:List Int):Fs (co p) p.length:=fun _ h=>bZ h
theorem Fs.mono{f:Nat->Int}{m n:Nat}(h:Fs f m)(hmn:m<=n):Fs f n:=fun k hk=>h k (by omega)
theorem Fs.add{f g:Nat->Int}{n:Nat}(h:Fs f n)(h':Fs g n):Fs (fun k=>f k+g k) n:=fun k hk=>by show f k+g k=0;rw[h k hk,h' k hk];rfl
theorem Fs.mul{f:Nat->Int}{n:Nat}(c:Int)(h:Fs f n):Fs (fun k=>c*f k) n:=fun k hk=>by show c*f k=0;rw[h k hk,Int.mul_zero]
theorem Fs.cv{f g:Nat->Int}{m n:Nat}(h:Fs f m)(h':Fs g n):Fs (Pm.cv f g) (m+n):=fun k hk=>eE fun i _=>by
 by_cases c:m<=i
 ·exact .inl (h i c)
 ·exact .inr (h' _ (by omega))
theorem qU{b x:Int}(y:Int)(h:tk b x=0):tk b (y*x)=0:=by rw[<-bN,h,Int.mul_zero,tk0]
theorem jE{b:Int}{m:List Int}(hm:Mon m){f:Nat->Int}{n:Nat}(hf:Fs f n)(h:∀k,m.length-1<=k->tk b (cv f (co m) k)=0):∀k,tk b (f k)=0:=by
 have q:∀d j,n<=j+d->tk b (f j)=0:=fun d=>by
  induction d with
  |zero=>intro j hj;rw[hf j hj,tk0]
  |succ d ih=>
   intro j hj
   have e:=h (j+(m.length-1)) (by omega)
   rw[fK]at e
   have e2:tk b (sm (j+(m.length-1)+1) fun i=>f i*co m (j+(m.length-1)-i))=tk b (sm (j+(m.length-1)+1) fun i=>if i=j then f j else 0):=iz fun i hi=>by
    by_cases c:i=j
    ·rw[if_pos c,c,Nat.add_sub_cancel_left,hm.one,Int.mul_one]
    ·rw[if_neg c,tk0]
     by_cases d2:i<j
     ·rw[bZ (by have:=hm.pos;omega),Int.mul_zero,tk0]
     ·rw[Int.mul_comm];exact qU _ (ih i (by omega))
   rw[e2,cN,if_pos (by omega)]at e
   exact e
 exact fun k=>q n k (by omega)
noncomputable def Dv(b:Int)(m:List Int)(f:Nat->Int):Prop:=∃s n,Fs s n/\∀k,tk b (f k)=tk b (cv s (co m) k)
theorem Dv.congr{b:Int}{m:List Int}{f g:Nat->Int}(e:∀k,tk b (f k)=tk b (g k))(h:Dv b m f):Dv b m g:=by
 obtain⟨s,n,hs,h⟩:=h
 exact⟨s,n,hs,fun k=>by rw[<-e,h]⟩
theorem Dv.zero(b:Int)(m:List Int):Dv b m fun _=>0:=⟨fun _=>0,0,fun _ _=>rfl,fun k=>by rw[eE fun i _=> .inl rfl]⟩
theorem Dv.add{b:Int}{m:List Int}{f g:Nat->Int}(h:Dv b m f)(h':Dv b m g):Dv b m fun k=>f k+g k:=by
 obtain⟨s,n,hs,h⟩:=h
 obtain⟨s',n',hs',h'⟩:=h'
 exact⟨fun k=>s k+s' k,n+n',(hs.mono (by omega)).add (hs'.mono (by omega)),fun k=>by rw[eG];exact bf (h k) (h' k)⟩
theorem Dv.smul{b:Int}{m:List Int}{f:Nat->Int}(c:Int)(h:Dv b m f):Dv b m fun k=>c*f k:=by
 obtain⟨s,n,hs,h⟩:=h
 exact⟨fun k=>c*s k,n,hs.mul c,fun k=>by rw[eY,<-bN,h,bN]⟩
theorem Dv.sub{b:Int}{m:List Int}{f g:Nat->Int}(h:Dv b m f)(h':Dv b m g):Dv b m fun k=>f k-g k:=
 (h.add (h'.smul (-1))).congr fun k=>by rw[show f k + -1*g k=f k-g k by omega]
theorem Dv.mul{b:Int}{m:List Int}{f g:Nat->Int}{n:Nat}(hg:Fs g n)(h:Dv b m f):Dv b m (cv g f):=by
 obtain⟨s,n',hs,h⟩:=h
 exact⟨cv g s,n+n',hg.cv hs,fun k=>by rw[bY];exact gH (fun i _=>rfl) fun i _=>h i⟩
theorem Dv.self{b:Int}{m:List Int}{g:Nat->Int}{n:Nat}(hg:Fs g n):Dv b m (cv g (co m)):=⟨g,n,hg,fun _=>rfl⟩
theorem Dv.short{b:Int}{m:List Int}(hm:Mon m){f:Nat->Int}(hf:Fs f (m.length-1))(h:Dv b m f):∀k,tk b (f k)=0:=by
 obtain⟨s,n,hs,h⟩:=h
 have z:=jE (b:=b) hm hs fun k hk=>by rw[<-h,hf k hk,tk0]
 intro k
 rw[h,<-tk0 b,<-eE (f:=fun _=>(0:Int)) (g:=co m) (k:=k) fun i _=> .inl rfl]
 exact gH (fun i _=>by rw[z,tk0]) fun i _=>rfl
noncomputable def tp(P:List Int)(a:Nat->Int)(k:Nat):Int:=sm (P.length-1-k) fun i=>co P (k+1+i)*a i
theorem yZ(P:List Int)(a:Nat->Int):Fs (tp P a) (P.length-1):=fun k hk=>by unfold tp;rw[show P.length-1-k=0 by omega];rfl
theorem Jg{b:Int}{P:List Int}{a a':Nat->Int}(h:∀n,tk b (a n)=tk b (a' n))(k:Nat):tk b (tp P a k)=tk b (tp P a' k):=iz fun i _=>by rw[<-bN,h,bN]
theorem IG(P:List Int)(c:Int)(a a':Nat->Int)(k:Nat):tp P (fun n=>c*a n+a' n) k=c*tp P a k+tp P a' k:=by
 unfold tp
 rw[<-cB,<-d8]
 refine aC fun i _=>?_
 rw[Int.mul_add,Int.mul_left_comm]
theorem DY{b:Int}{P:List Int}(hP:0<P.length){a:Nat->Int}(h0:tk b (ks P a 0)=0)(k:Nat):tk b (if k=0 then 0 else tp P a (k-1))=tk b (tp P (fun n=>a (n+1)) k+a 0*co P k):=by
 by_cases c:k=0
 ·rw[if_pos c,c,tk0,<-h0]
  refine congrArg (tk b) ?_
  unfold ks tp
  obtain⟨N,hN⟩:∃N,P.length=N+1:=⟨P.length-1,by omega⟩
  rw[hN,gC,Nat.add_sub_cancel,Nat.sub_zero,Int.add_comm,Int.mul_comm (co P 0)]
  congr 1
  exact aC fun i _=>by rw[Nat.zero_add,Nat.zero_add,Nat.add_comm 1 i]
 ·rw[if_neg c]
  by_cases d:k<P.length
  ·refine congrArg (tk b) ?_
   unfold tp
   rw[show P.length-1-(k-1)=(P.length-1-k)+1 by omega,gC,Int.add_comm]
   congr 1
   ·exact aC fun i _=>by rw[show k-1+1+(i+1)=k+1+i by omega]
   ·rw[show k-1+1+0=k by omega,Int.mul_comm]
  ·rw[yZ P a (k-1) (by omega),yZ P _ k (by omega),bZ (by omega),Int.mul_zero];rfl
theorem Ak(x:Int)(q:List Int)(f:Nat->Int)(k:Nat):cv (co (x::q)) f k=x*f k+(if k=0 then 0 else cv (co q) f (k-1)):=by
 cases k with
 |zero=>rw[cv,cV,if_pos rfl,Int.add_zero]
 |succ k=>
  rw[cv,cV,if_neg (by omega),Nat.add_sub_cancel]
  congr 1
theorem VW(q f:Nat->Int)(k:Nat):(if k=0 then 0 else cv q f (k-1))=cv q (fun i=>if i=0 then 0 else f (i-1)) k:=by
 cases k with
 |zero=>rw[if_pos rfl,cv,if_pos rfl,Int.mul_zero]
 |succ k=>rw[if_neg (by omega),Nat.add_sub_cancel,vK,if_pos rfl,Int.mul_zero,Int.add_zero];rfl
theorem HD(x:Int)(q:List Int)(a:Nat->Int)(n:Nat):ks (x::q) a n=x*a n+ks q (fun n=>a (n+1)) n:=by
 unfold ks
 rw[List.length_cons,gC,cV,Nat.add_zero]
 congr 1
theorem rC{b:Int}{P:List Int}(hP:0<P.length):∀(q:List Int) {a:Nat->Int},Kp b P a->Dv b P fun k=>cv (co q) (tp P a) k-tp P (ks q a) k
 |[],a,_=>(Dv.zero b P).congr fun k=>by
  rw[eE fun i _=> .inl (dF i)]
  have:tp P (ks [] a) k=0:=gq fun i _=>by show co P (k+1+i)*0=0;exact Int.mul_zero _
  rw[this];rfl
 |x::q,a,h=>by
  have h1:Kp b P fun n=>a (n+1):=fun n=>by
   have e:ks P (fun n=>a (n+1)) n=ks P a (n+1):=aC fun k _=>by show _*a (n+k+1)=_*a (n+1+k);rw[show n+k+1=n+1+k by omega]
   rw[e];exact h (n+1)
  have ih:=rC hP q h1
  have d:=Dv.self (b:=b) (m:=P) ((Fs.co q).mul (a 0))
  refine(ih.add d).congr fun k=>?_
  have e1:tk b (if k=0 then 0 else cv (co q) (tp P a) (k-1))=tk b (cv (co q) (tp P fun n=>a (n+1)) k+a 0*cv (co q) (co P) k):=by
   rw[VW,<-eY,gH (fun i _=>rfl) fun i _=>DY hP (h 0) i,vJ]
   congr 2
   rw[dR,eY,eY,dR]
  have e2:tp P (ks (x::q) a) k=x*tp P a k+tp P (ks q fun n=>a (n+1)) k:=by
   rw[<-IG]
   unfold tp
   exact aC fun i _=>by rw[HD]
  rw[Ak,e2,eY]
  have e3:=bf e1 (rfl:tk b (-(tp P (ks q fun n=>a (n+1)) k))=_)
  rw[show x*tp P a k+(if k=0 then 0 else cv (co q) (tp P a) (k-1))-(x*tp P a k+tp P (ks q fun n=>a (n+1)) k)=(if k=0 then 0 else cv (co q) (tp P a) (k-1)) + -(tp P (ks q fun n=>a (n+1)) k)by omega,e3]
  refine congrArg (tk b) ?_
  omega
theorem wR{b:Int}{P:List Int}(hm:Mon P){e:Nat->Int}(h:∀k,tk b (tp P e k)=0):∀n,n<P.length-1->tk b (e n)=0:=fun n=>by
 induction n using Nat.strongRecOn with
 |ind n ih=>
  intro hn
  have q:=h (P.length-1-1-n)
  unfold tp at q
  rw[show P.length-1-(P.length-1-1-n)=n+1 by omega,sm]at q
  have z:tk b (sm n fun i=>co P (P.length-1-1-n+1+i)*e i)=0:=by
   have:=iz (b:=b) (n:=n) (f:=fun i=>co P (P.length-1-1-n+1+i)*e i) (g:=fun _=>0) fun i hi=>by rw[tk0];exact qU _ (ih i hi (by omega))
   rw[this,jx,tk0]
  rw[<-cJ,z,Int.zero_add,show P.length-1-1-n+1+n=P.length-1 by omega,hm.one,Int.one_mul]at q
  exact q
theorem Ca{b:Int}{rule:List Int}{a:Nat->Int}(ha:∀n,rule.length<=n->tk b (a n)=tk b (S rule a n rule.length))(q:List Int):
  Kp b q a↔Dv b (aV b rule) (cv (co q) (tp (aV b rule) a)):=by
 have hm:=iy b rule
 have hK:Kp b (aV b rule) a:=Kp.aV ha
 have A:=rC hm.pos q hK
 constructor
 ·intro h
  have z:Dv b (aV b rule) (tp (aV b rule) (ks q a)):=(Dv.zero b _).congr fun k=>by
   have:=Jg (b:=b) (P:=aV b rule) (a:=ks q a) (a':=fun _=>0) (fun n=>by rw[h n,tk0]) k
   rw[this]
   exact(congrArg (tk b) (show tp (aV b rule) (fun _=>0) k=0 from gq fun i _=>Int.mul_zero _)).symm
  exact(A.add z).congr fun k=>by rw[Int.sub_add_cancel]
 ·intro h
  have z:Dv b (aV b rule) (tp (aV b rule) (ks q a)):=(h.sub A).congr fun k=>by
   rw[show cv (co q) (tp (aV b rule) a) k-(cv (co q) (tp (aV b rule) a) k-tp (aV b rule) (ks q a) k)=tp (aV b rule) (ks q a) k by omega]
  have n0:=wR hm (z.short hm (yZ _ _))
  rw[cj,Nat.add_sub_cancel]at n0
  exact zE ha n0
structure NV(b:Int)(p:List Int)(t:Nat->Int)(g:List Int):Prop where
 mon:Mon g
 one:Dv b g (co p)
 two:Dv b g t
 sum:∃(N:Int) (u v:Nat->Int) (n:Nat),tk b N≠0/\Fs u n/\Fs v n/\∀k,tk b (N*co g k)=tk b (cv u (co p) k+cv v t k)
theorem wF{b:Int}{m:List Int}(hm:Mon m){p:List Int}(hp:∀k,tk b (co p k)=co p k):∃q r,Div b p m q r:=by
 have go:∀d,d<=p.length-(m.length-1)->∃o l,BQ b p m (p.length-(m.length-1)-d) o l:=fun d=>by
  induction d with
  |zero=>intro _;exact⟨_,_,BQ.start hp⟩
  |succ d ih=>
   intro hd
   obtain⟨o,l,I⟩:=ih (by omega)
   obtain⟨s,hs⟩:∃s,p.length-(m.length-1)-d=s+1:=⟨p.length-(m.length-1)-d-1,by omega⟩
   rw[hs]at I
   refine⟨o.set s (co l (s+(m.length-1))),ofF l.length fun k=>lf b (co l (s+(m.length-1))) s m.length l m k,?_⟩
   rw[show p.length-(m.length-1)-(d+1)=s by omega]
   refine I.step hm (by omega) (aU ..) fun k=>?_
   rw[cF]
   by_cases c:k<l.length
   ·rw[if_pos c]
   ·rw[if_neg c]
    have hl:=I.ll
    have hmp:=hm.pos
    unfold lf
    rw[if_neg (by omega),bZ (by omega)]
 obtain⟨o,l,I⟩:=go _ (Nat.le_refl _)
 rw[Nat.sub_self]at I
 exact⟨_,_,I.stop hm⟩
theorem vC{b:Int}(hD:∀x y,tk b x≠0->tk b (x*y)=0->tk b y=0){L:List Int}(hL:Mon L){N:Int}(hN:tk b N≠0){f:Nat->Int}{n:Nat}(hf:Fs f n)(h:Dv b L fun k=>N*f k):Dv b L f:=by
 obtain⟨o,r,D⟩:=wF (b:=b) hL (p:=ofF n fun k=>tk b (f k)) fun k=>by
  rw[cF];split
  ·exact iY ..
  ·exact tk0 b
 have ef:∀k,tk b (co (ofF n fun k=>tk b (f k)) k)=tk b (f k):=fun k=>by
  rw[cF]
  by_cases c:k<n
  ·rw[if_pos c,iY]
  ·rw[if_neg c,hf k (by omega)]
 have e:∀k,tk b (f k)=tk b (cv (co o) (co L) k+co r k):=fun k=>by rw[D.eq,ef]
 have z:Dv b L fun k=>N*co r k:=(h.sub ((Dv.self (b:=b) (m:=L) (Fs.co o)).smul N)).congr fun k=>by
  rw[show N*f k-N*cv (co o) (co L) k=N*(f k-cv (co o) (co L) k)by rw[Int.mul_sub],<-bN,<-bN b N (co r k)]
  congr 2
  have:=e k
  have q:=bf this (rfl:tk b (-cv (co o) (co L) k)=_)
  rw[show f k-cv (co o) (co L) k=f k + -cv (co o) (co L) k by omega,q]
  exact congrArg (tk b) (by omega)
 have hr:Fs (fun k=>N*co r k) (L.length-1):=((Fs.co r).mono (by have:=D.short;omega)).mul N
 have z0:=z.short hL hr
 refine⟨co o,o.length,Fs.co o,fun k=>?_⟩
 rw[e,<-fZ,hD N _ hN (z0 k),Int.add_zero]
theorem NV.keeps{b:Int}(hD:∀x y,tk b x≠0->tk b (x*y)=0->tk b y=0){rule:List Int}{a:Nat->Int}(ha:∀n,rule.length<=n->tk b (a n)=tk b (S rule a n rule.length)){g L:List Int}(h:NV b (aV b rule) (tp (aV b rule) a) g)(hL:Mon L)
  (hP:∀k,tk b (co (aV b rule) k)=tk b (cv (co L) (co g) k)) (q:List Int):Kp b q a↔Dv b L (co q):=by
 rw[Ca ha q]
 generalize aV b rule=P at h hP
 obtain⟨t,nt,ht,hT⟩:=h.two
 obtain⟨N,u,v,n,hN,hu,hv,hs⟩:=h.sum
 generalize tp P a=T at h hT hs
 have bez:∀k,tk b ((if k=0 then N else 0)-(cv u (co L) k+cv v t k))=0:=by
  refine jE (b:=b) h.mon (n:=1+(n+L.length)+(n+nt)) (fun k hk=>?_) fun k _=>?_
  ·show(if k=0 then N else 0)-(cv u (co L) k+cv v t k)=0
   rw[if_neg (by omega),hu.cv (Fs.co L) k (by omega),hv.cv ht k (by omega)];rfl
  ·have e:cv (fun k=>(if k=0 then N else 0)-(cv u (co L) k+cv v t k)) (co g) k=N*co g k + -1*(cv u (cv (co L) (co g)) k+cv v (cv t (co g)) k):=by
    rw[<-bY,<-bY,<-eG,<-eY]
    have e2:N*co g k=cv (fun k=>if k=0 then N else 0) (co g) k:=by rw[lu,if_pos (Nat.zero_le _),Nat.sub_zero]
    rw[e2,<-eG]
    refine d7 (fun i _=>?_) fun i _=>rfl
    omega
   rw[e,<-cJ,hs,cJ]
   have e3:tk b (cv u (co P) k+cv v T k)=tk b (cv u (cv (co L) (co g)) k+cv v (cv t (co g)) k):=bf (gH (fun i _=>rfl) fun i _=>hP i) (gH (fun i _=>rfl) fun i _=>hT i)
   have e4:=bf e3 (rfl:tk b (-1*(cv u (cv (co L) (co g)) k+cv v (cv t (co g)) k))=_)
   rw[e4,show ∀x:Int,x + -1*x=0 from fun x=>by omega,tk0]
 constructor
 ·rintro⟨s,ns,hs',e⟩
  have qt:∀k,tk b (cv (co q) t k-cv s (co L) k)=0:=by
   refine jE (b:=b) h.mon (n:=(q.length+nt)+(ns+L.length)) (fun k hk=>?_) fun k _=>?_
   ·show cv (co q) t k-cv s (co L) k=0
    rw[(Fs.co q).cv ht k (by omega),hs'.cv (Fs.co L) k (by omega)];rfl
   ·have e1:cv (fun k=>cv (co q) t k-cv s (co L) k) (co g) k=cv (co q) (cv t (co g)) k + -1*cv s (cv (co L) (co g)) k:=by
     rw[<-bY,<-bY,<-eY,<-eG]
     exact d7 (fun i _=>by omega) fun i _=>rfl
    have e2:tk b (cv (co q) (cv t (co g)) k)=tk b (cv s (cv (co L) (co g)) k):=by
     rw[<-gH (fun i _=>rfl) (fun i _=>hT i),e,gH (fun i _=>rfl) fun i _=>hP i]
    have e3:=bf e2 (rfl:tk b (-1*cv s (cv (co L) (co g)) k)=_)
    rw[e1,e3,show ∀x:Int,x + -1*x=0 from fun x=>by omega,tk0]
  refine vC hD hL hN (Fs.co q) ?_
  refine⟨fun k=>cv (co q) u k+cv v s k,(q.length+n)+(n+ns),((((Fs.co q).cv hu)).mono (by omega)).add ((hv.cv hs').mono (by omega)),fun k=>?_⟩
  have e1:tk b (N*co q k)=tk b (cv (fun k=>cv u (co L) k+cv v t k) (co q) k):=by
   have e2:N*co q k=cv (fun k=>if k=0 then N else 0) (co q) k:=by rw[lu,if_pos (Nat.zero_le _),Nat.sub_zero]
   rw[e2]
   exact gH (fun i _=>dw.mp (bez i)) fun i _=>rfl
  rw[e1,eG,eG]
  refine bf ?_ ?_
  ·exact congrArg (tk b) ((dR ..).trans (bY ..).symm)
  ·rw[bY,bY]
   refine gH (fun i _=>rfl) fun i _=>?_
   rw[dR]
   exact dw.mp (qt i)
 ·rintro⟨s,ns,hs',e⟩
  refine⟨cv s t,ns+nt,hs'.cv ht,fun k=>?_⟩
  rw[gH (fun i _=>e i) (fun i _=>hT i),gH (f:=cv s t) (fun i _=>rfl) (fun i _=>hP i)]
  refine congrArg (tk b) ?_
  rw[bY,bY]
  refine d7 (fun i _=>rfl) fun i _=>?_
  rw[<-bY,<-bY]
  exact d7 (fun j _=>dR ..) fun j _=>rfl
end Pm
namespace Om
noncomputable def cA(p:Nat):Prop:=2<=p/\∀d,d∣p->d=1∨d=p
theorem cA.cop{p x:Nat}(h:cA p)(hx:¬p∣x):Nat.Coprime p x:=by
 rcases h.2 _ (Nat.gcd_dvd_left p x)with e|e
 ·exact e
 ·exact absurd (e▸Nat.gcd_dvd_right p x) hx
theorem cA.dvd{p x y:Nat}(h:cA p)(hd:p∣x*y):p∣x∨p∣y:=by
 by_cases c:p∣x
 ·exact .inl c
 ·exact .inr ((h.cop c).dvd_of_dvd_mul_left hd)
noncomputable def ch:Nat->Nat->Nat
 |_,0=>1
 |0,_+1=>0
 |n+1,k+1=>ch n k+ch n (k+1)
theorem nD(n:Nat):ch n 0=1:=by cases n<;>rfl
theorem qJ:∀(n k:Nat),n<k->ch n k=0
 |0,k+1,_=>rfl
 |n+1,k+1,h=>by rw[ch,qJ n k (by omega),qJ n (k+1) (by omega)]
theorem Aa:∀n,ch n n=1
 |0=>rfl
 |n+1=>by rw[ch,Aa n,qJ n (n+1) (by omega)]
theorem kJ:∀n k:Nat,(k+1)*ch (n+1) (k+1)=(n+1)*ch n k
 |0,0=>rfl
 |0,k+1=>by
  have e:ch (0+1) (k+1+1)=ch 0 (k+1)+ch 0 (k+1+1):=rfl
  rw[e,qJ 0 (k+1) (by omega),qJ 0 (k+1+1) (by omega)];simp
 |n+1,0=>by
  have:=kJ n 0
  have e:ch (n+1+1) (0+1)=ch (n+1) 0+ch (n+1) (0+1):=rfl
  simp only[nD]at e⊢
  rw[e]
  rw[nD]at this
  omega
 |n+1,k+1=>by
  have h1:=kJ n k
  have h2:=kJ n (k+1)
  rw[ch,Nat.mul_add]
  have e1:(k+1+1)*ch (n+1) (k+1)=(n+1)*ch n k+ch (n+1) (k+1):=by rw[Nat.succ_mul,h1]
  rw[e1,h2]
  have e2:ch (n+1) (k+1)=ch n k+ch n (k+1):=rfl
  rw[e2,Nat.succ_mul (n+1),Nat.mul_add]
  omega
theorem cA.dch{p k:Nat}(h:cA p)(h0:0<k)(hk:k<p):p∣ch p k:=by
 obtain⟨n,rfl⟩:∃n,p=n+1:=⟨p-1,by have:=h.1;omega⟩
 obtain⟨j,rfl⟩:∃j,k=j+1:=⟨k-1,by omega⟩
 have e:=kJ n j
 rcases h.dvd (x:=j+1) (y:=Om.ch (n+1) (j+1)) (by rw[e];exact Nat.dvd_mul_right ..)with d|d
 ·exact absurd (Nat.le_of_dvd (by omega) d) (by omega)
 ·exact d
noncomputable def sN(f:Nat->Nat):Nat->Nat
 |0=>0
 |n+1=>sN f n+f n
theorem xg{f g:Nat->Nat}:∀{n:Nat},(∀k,k<n->f k=g k)->sN f n=sN g n
 |0,_=>rfl
 |n+1,h=>by rw[sN,sN,xg fun k hk=>h k (by omega),h n (by omega)]
theorem Fp(f g:Nat->Nat):∀n,sN (fun k=>f k+g k) n=sN f n+sN g n
 |0=>rfl
 |n+1=>by rw[sN,sN,sN,Fp f g n];omega
theorem E9(c:Nat)(f:Nat->Nat):∀n,sN (fun k=>c*f k) n=c*sN f n
 |0=>rfl
 |n+1=>by rw[sN,sN,E9 c f n,Nat.mul_add]
theorem rQ(f:Nat->Nat):∀n,sN f (n+1)=f 0+sN (fun k=>f (k+1)) n
 |0=>by rw[sN,sN,sN];omega
 |n+1=>by rw[sN,rQ f n,sN];omega
theorem E8{p:Nat}{f:Nat->Nat}:∀{n:Nat},(∀k,k<n->p∣f k)->p∣sN f n
 |0,_=>Nat.dvd_zero _
 |n+1,h=>Nat.dvd_add (E8 fun k hk=>h k (by omega)) (h n (by omega))
theorem Im(a:Nat):∀n,(a+1)^n=sN (fun k=>ch n k*a^k) (n+1)
 |0=>by simp[sN,ch]
 |n+1=>by
  rw[Nat.pow_succ,Im a n,rQ (fun k=>ch (n+1) k*a^k) (n+1)]
  have e1:sN (fun k=>ch (n+1) (k+1)*a^(k+1)) (n+1)=sN (fun k=>a*(ch n k*a^k)) (n+1)+sN (fun k=>ch n (k+1)*a^(k+1)) (n+1):=by
   rw[<-Fp]
   refine xg fun k _=>?_
   rw[ch,Nat.add_mul,Nat.pow_succ]
   congr 1
   rw[Nat.mul_comm a,Nat.mul_assoc]
  have e2:sN (fun k=>ch n k*a^k) (n+1)=1+sN (fun k=>ch n (k+1)*a^(k+1)) (n+1):=by
   have e3:sN (fun k=>ch n k*a^k) (n+1+1)=sN (fun k=>ch n k*a^k) (n+1):=by rw[sN,qJ n (n+1) (by omega),Nat.zero_mul,Nat.add_zero]
   rw[<-e3,rQ]
   rw[nD,Nat.pow_zero]
  rw[e1,E9,nD,Nat.pow_zero,Nat.mul_add,Nat.mul_one,Nat.mul_comm]
  omega
theorem cA.pow{p:Nat}(h:cA p):∀a:Nat,a^p%p=a%p
 |0=>by rw[Nat.zero_pow (by have:=h.1;omega)]
 |a+1=>by
  obtain⟨n,rfl⟩:∃n,p=n+1:=⟨p-1,by have:=h.1;omega⟩
  have e:(a+1)^(n+1)=1+sN (fun k=>ch (n+1) (k+1)*a^(k+1)) n+a^(n+1):=by
   rw[Im,sN,rQ,nD,Nat.pow_zero,Aa,Nat.one_mul,Nat.one_mul]
  obtain⟨c,hc⟩:(n+1)∣sN (fun k=>ch (n+1) (k+1)*a^(k+1)) n:=E8 fun k hk=>Nat.dvd_trans (h.dch (by omega) (by omega)) (Nat.dvd_mul_right ..)
  rw[e,hc,show 1+(n+1)*c+a^(n+1)=(a^(n+1)+1)+(n+1)*c by omega,Nat.add_mul_mod_self_left,Nat.add_mod,cA.pow h a,<-Nat.add_mod]
theorem cA.Jd{p a:Nat}(h:cA p)(h0:a≠0)(ha:a<p):a^(p-1)%p=1:=by
 have hp:=h.1
 have e:=h.pow a
 obtain⟨n,rfl⟩:∃n,p=n+1:=⟨p-1,by omega⟩
 rw[Nat.add_sub_cancel]
 have one:1<=a^n:=Nat.pow_pos (by omega)
 have d:(n+1)∣a*(a^n-1):=by
  have e2:a*(a^n-1)=a^(n+1)-a:=by rw[Nat.mul_sub,Nat.mul_one,Nat.pow_succ,Nat.mul_comm]
  rw[e2]
  exact Nat.dvd_of_mod_eq_zero (Nat.sub_mod_eq_zero_of_mod_eq e)
 rcases h.dvd d with d|⟨c,hc⟩
 ·exact absurd (Nat.le_of_dvd (by omega) d) (by omega)
 ·rw[show a^n=1+(n+1)*c by omega,Nat.add_mul_mod_self_left]
  exact Nat.mod_eq_of_lt (by omega)
end Om
namespace Pm
open Rm
noncomputable def Kf(f:Nat->Int)(n:Nat)(a:Nat->Int):Prop:=∀m,sm n (fun k=>f k*a (m+k))=0
theorem Kf.less{f:Nat->Int}{n m:Nat}{a:Nat->Int}(h:Kf f m a)(hf:Fs f n)(hm:n<=m):Kf f n a:=fun i=>by
 rw[<-fj (n:=m) hm fun k h1 _=>by rw[hf k h1,Int.zero_mul]];exact h i
theorem Kf.lin{f g:Nat->Int}{n:Nat}{a:Nat->Int}(c d:Int)(h:Kf f n a)(h':Kf g n a):Kf (fun k=>c*f k+d*g k) n a:=fun i=>by
 have e:sm n (fun k=>(c*f k+d*g k)*a (i+k))=c*sm n (fun k=>f k*a (i+k))+d*sm n (fun k=>g k*a (i+k)):=by
  rw[<-cB,<-cB,<-d8]
  exact aC fun k _=>by rw[Int.add_mul,Int.mul_assoc,Int.mul_assoc]
 rw[e,h i,h' i];simp
theorem Kf.shift{f:Nat->Int}{n:Nat}{a:Nat->Int}(s:Nat)(h:Kf f n a):Kf (fun k=>if s<=k then f (k-s)else 0) (s+n) a:=fun i=>by
 have e:∀s,sm (s+n) (fun k=>(if s<=k then f (k-s)else 0)*a (i+k))=sm n (fun k=>f k*a (i+s+k)):=fun s=>by
  induction s generalizing i with
  |zero=>rw[Nat.zero_add];exact aC fun k _=>by rw[if_pos (Nat.zero_le _)];rfl
  |succ s ih=>
   rw[show s+1+n=(s+n)+1 by omega,gC,if_neg (by omega),Int.zero_mul,Int.zero_add]
   rw[show i+(s+1)=(i+1)+s by omega,<-ih (i+1)]
   refine aC fun k _=>?_
   rw[show i+(k+1)=i+1+k by omega]
   by_cases c:s<=k
   ·rw[if_pos c,if_pos (by omega),show k+1-(s+1)=k-s by omega]
   ·rw[if_neg c,if_neg (by omega)]
 rw[e];exact h _
theorem Kf.div{f:Nat->Int}{n:Nat}{a:Nat->Int}{c:Int}(hc:c≠0)(h:Kf (fun k=>c*f k) n a):Kf f n a:=fun i=>by
 have e:=h i
 rw[show(fun k=>c*f k*a (i+k))=fun k=>c*(f k*a (i+k))from funext fun k=>Int.mul_assoc ..,cB]at e
 exact(Int.mul_eq_zero.mp e).resolve_left hc
theorem Kf.of{p:List Int}{a:Nat->Int}(h:Kp 0 p a):Kf (co p) p.length a:=fun i=>by
 have:=h i;rw[bD]at this;exact this
theorem Dl:∀n:Nat,2<=n->∃p,Om.cA p/\p∣n:=fun n=>by
 induction n using Nat.strongRecOn with
 |ind n ih=>
  intro hn
  by_cases h:∀d,d∣n->d=1∨d=n
  ·exact⟨n,⟨hn,h⟩,Nat.dvd_refl n⟩
  ·obtain⟨d,hd⟩:=Classical.not_forall.mp h
   obtain⟨hd,hn1⟩:=Classical.not_imp.mp hd
   have h0:d≠0:=fun e=>by rw[e]at hd;have:=Nat.eq_zero_of_zero_dvd hd;omega
   have hl:=Nat.le_of_dvd (by omega) hd
   have h1:d≠1:=fun e=>hn1 (.inl e)
   have h2:d≠n:=fun e=>hn1 (.inr e)
   obtain⟨p,hp,hq⟩:=ih d (by omega) (by omega)
   exact⟨p,hp,Nat.dvd_trans hq hd⟩
theorem least_of{Q:Nat->Prop}(h:∃n,Q n):∃n,Q n/\∀m,Q m->n<=m:=by
 obtain⟨n,hn⟩:=h
 induction n using Nat.strongRecOn with
 |ind n ih=>
  by_cases c:∃m,m<n/\Q m
  ·obtain⟨m,h1,h2⟩:=c;exact ih m h1 h2
  ·exact⟨n,hn,fun m hm=>by
    by_cases d:m<n
    ·exact absurd ⟨m,d,hm⟩ c
    ·omega⟩
theorem oh{p:Nat}{x:Int}:(p:Int)∣x↔p∣x.natAbs:=Int.ofNat_dvd_left
theorem lE{p:Nat}(hp:Om.cA p){x y:Int}(h:(p:Int)∣x*y):(p:Int)∣x∨(p:Int)∣y:=by
 rw[oh,Int.natAbs_mul]at h
 rcases hp.dvd h with h|h
 ·exact .inl (oh.mpr h)
 ·exact .inr (oh.mpr h)
theorem Fy{d:Int}{f:Nat->Int}:∀{n:Nat},(∀k,k<n->d∣f k)->d∣sm n f
 |0,_=>⟨0,by rw[Int.mul_zero];rfl⟩
 |n+1,h=>Int.dvd_add (Fy fun k hk=>h k (by omega)) (h n (by omega))
theorem Es{d:Int}{f:Nat->Int}{n j:Nat}(hj:j<n)(h:d∣sm n f)(ho:∀k,k<n->k≠j->d∣f k):d∣f j:=by
 have e:sm n f=sm n (fun k=>if k=j then f j else 0)+sm n (fun k=>if k=j then 0 else f k):=by
  rw[<-d8]
  refine aC fun k _=>?_
  by_cases c:k=j
  ·rw[if_pos c,if_pos c,c,Int.add_zero]
  ·rw[if_neg c,if_neg c,Int.zero_add]
 rw[cN,if_pos hj]at e
 have h2:d∣sm n (fun k=>if k=j then 0 else f k):=Fy fun k hk=>by
  by_cases c:k=j
  ·rw[if_pos c];exact⟨0,by rw[Int.mul_zero]⟩
  ·rw[if_neg c];exact ho k hk c
 have:f j=sm n f-sm n (fun k=>if k=j then 0 else f k):=by omega
 rw[this];exact Int.dvd_sub h h2
theorem N6{p:Nat}(hp:Om.cA p){f g:Nat->Int}(h:∀k,(p:Int)∣cv f g k):(∀k,(p:Int)∣f k)∨∀k,(p:Int)∣g k:=by
 by_cases hf:∀k,(p:Int)∣f k
 ·exact .inl hf
 by_cases hg:∀k,(p:Int)∣g k
 ·exact .inr hg
 obtain⟨i,hi,hi'⟩:=least_of (Classical.not_forall.mp hf)
 obtain⟨j,hj,hj'⟩:=least_of (Classical.not_forall.mp hg)
 have e:=h (i+j)
 rw[fK]at e
 have t:=Es (j:=i) (by omega) e fun k hk hne=>by
  by_cases c:k<i
  ·have:(p:Int)∣f k:=Classical.byContradiction fun z=>by have:=hi' k z;omega
   exact Int.dvd_trans this (Int.dvd_mul_right ..)
  ·have:(p:Int)∣g (i+j-k):=Classical.byContradiction fun z=>by have:=hj' _ z;omega
   exact Int.dvd_trans this (Int.dvd_mul_left ..)
 rw[Nat.add_sub_cancel_left]at t
 rcases lE hp t with t|t
 ·exact absurd t hi
 ·exact absurd t hj
theorem Fs.top{f:Nat->Int}:∀{n:Nat},Fs f n->(∀k,f k=0)∨∃d,d<n/\f d≠0/\Fs f (d+1)
 |0,h=> .inl fun k=>h k (Nat.zero_le _)
 |n+1,h=>by
  by_cases c:f n=0
  ·have h':Fs f n:=fun k hk=>by
    by_cases e:k=n
    ·rw[e];exact c
    ·exact h k (by omega)
   rcases Fs.top h' with z|⟨d,h1,h2,h3⟩
   ·exact .inl z
   ·exact .inr ⟨d,by omega,h2,h3⟩
  ·exact .inr ⟨n,by omega,c,h⟩
structure Lk(a:Nat->Int)(d:Nat)(f:Nat->Int):Prop where
 fs:Fs f (d+1)
 ne:f d≠0
 kf:Kf f (d+1) a
theorem uY{a f:Nat->Int}{d:Nat}(hf:Lk a d f)(hd:∀e g,Lk a e g->d<=e):∀(n:Nat) (q:Nat->Int),Fs q n->Kf q n a->∃(m:Int) (G:Nat->Int) (N:Nat),m≠0/\Fs G N/\∀k,m*q k=cv G f k:=fun n=>by
 induction n using Nat.strongRecOn with
 |ind n ih=>
  intro q hq hk
  rcases hq.top with z|⟨e,hen,hne,hfe⟩
  ·exact⟨1,fun _=>0,0,by decide,fun _ _=>rfl,fun k=>by rw[z k,eE fun i _=> .inl rfl];rfl⟩
  ·have hke:Kf q (e+1) a:=hk.less hfe (by omega)
   have hde:=hd e q ⟨hfe,hne,hke⟩
   have ks:=hf.kf.shift (e-d)
   rw[show e-d+(d+1)=e+1 by omega]at ks
   have kl:=hke.lin (f d) (-(q e)) ks
   have fl:Fs (fun k=>f d*q k + -(q e)*(if e-d<=k then f (k-(e-d))else 0)) e:=fun k hk=>by
    show f d*q k + -(q e)*(if e-d<=k then f (k-(e-d))else 0)=0
    rw[if_pos (by omega)]
    by_cases c:k=e
    ·rw[c,show e-(e-d)=d by omega,Int.neg_mul,Int.mul_comm (q e),Int.add_right_neg]
    ·rw[hfe k (by omega),hf.fs (k-(e-d)) (by omega),Int.mul_zero,Int.mul_zero];rfl
   obtain⟨m,G,N,hm,hG,hE⟩:=ih e hen _ fl (kl.less fl (by omega))
   refine⟨m*f d,fun k=>G k+m*q e*(if k=e-d then 1 else 0),N+(e-d+1),Int.mul_ne_zero hm hf.ne,fun k hk=>?_,fun k=>?_⟩
   ·show G k+m*q e*(if k=e-d then 1 else 0)=0
    rw[hG k (by omega),if_neg (by omega),Int.mul_zero];rfl
   ·rw[eG,eY,lu,<-hE k]
    by_cases c:e-d<=k
    ·rw[if_pos c,if_pos c,Int.mul_add,Int.one_mul,Int.neg_mul,Int.mul_neg,Int.mul_assoc,Int.mul_assoc,Int.neg_add_cancel_right]
    ·rw[if_neg c,if_neg c,Int.mul_add];simp[Int.mul_assoc]
theorem Nk{a:Nat->Int}{P:List Int}(hP:Mon P)(hk:Kp 0 P a):∃L,Mon L/\Py 0 L/\Kp 0 L a/\L.length<=P.length/\(∀q,Kp 0 q a->Dv 0 L (co q))/\∀e g,Lk a e g->L.length-1<=e:=by
 have hp:=hP.pos
 have p0:Lk a (P.length-1) (co P):=⟨by rw[show P.length-1+1=P.length by omega];exact Fs.co P,by rw[hP.one];decide,by rw[show P.length-1+1=P.length by omega];exact Kf.of hk⟩
 obtain⟨d,⟨f0,hf0⟩,hd⟩:=least_of (Q:=fun d=>∃f,Lk a d f) ⟨_,_,p0⟩
 have hd':∀e g,Lk a e g->d<=e:=fun e g h=>hd e ⟨g,h⟩
 obtain⟨c,⟨f,hf,hc⟩,hc'⟩:=least_of (Q:=fun c=>∃f,Lk a d f/\(f d).natAbs=c) ⟨_,f0,hf0,rfl⟩
 obtain⟨m0,G0,N0,hm0,hG0,hE0⟩:=uY hf hd' P.length (co P) (Fs.co P) (Kf.of hk)
 obtain⟨n,⟨m,G,N,hm,hG,hE,hn⟩,hn'⟩:=least_of (Q:=fun n=>∃(m:Int) (G:Nat->Int) (N:Nat),m≠0/\Fs G N/\(∀k,m*co P k=cv G f k)/\m.natAbs=n) ⟨_,m0,G0,N0,hm0,hG0,hE0,rfl⟩
 have h1:m.natAbs=1:=by
  by_cases c2:m.natAbs=1
  ·exact c2
  ·have h0:m.natAbs≠0:=by omega
   obtain⟨p,hp,hd⟩:=Dl m.natAbs (by omega)
   have hpp:=hp.1
   have hp0:(p:Int)≠0:=by omega
   obtain⟨m',em⟩:=oh.mpr hd
   have hm':m'≠0:=fun z=>hm (by rw[em,z,Int.mul_zero])
   rcases N6 hp (f:=G) (g:=f) fun k=>by rw[<-hE k,em,Int.mul_assoc];exact Int.dvd_mul_right .. with z|z
   ·exfalso
    obtain⟨G',hg⟩:=Classical.skolem.mp z
    refine absurd (hn' m'.natAbs ⟨m',G',N,hm',fun k hk=>?_,fun k=>?_,rfl⟩) ?_
    ·have:=hg k
     rw[hG k hk]at this
     exact(Int.mul_eq_zero.mp this.symm).resolve_left hp0
    ·refine Int.eq_of_mul_eq_mul_left hp0 ?_
     rw[<-eY,<-Int.mul_assoc,<-em,hE k]
     exact d7 (fun i _=>hg i) fun _ _=>rfl
    ·rw[<-hn,em,Int.natAbs_mul,Int.natAbs_natCast]
     have:0<m'.natAbs:=by omega
     have:2*m'.natAbs<=p*m'.natAbs:=Nat.mul_le_mul_right _ hpp
     omega
   ·exfalso
    obtain⟨f',hg⟩:=Classical.skolem.mp z
    have e:f=fun k=>p*f' k:=funext fun k=>hg k
    have q:Lk a d f':=⟨fun k hk=>by
     have:=hg k
     rw[hf.fs k hk]at this
     exact(Int.mul_eq_zero.mp this.symm).resolve_left hp0,fun z=>hf.ne (by rw[hg d,z,Int.mul_zero]),by
     have:=hf.kf
     rw[e]at this
     exact this.div hp0⟩
    refine absurd (hc' _ ⟨_,q,rfl⟩) ?_
    have e2:=congrArg Int.natAbs (hg d)
    rw[Int.natAbs_mul,Int.natAbs_natCast,hc]at e2
    have hne:=q.ne
    have:0<(f' d).natAbs:=by omega
    have:2*(f' d).natAbs<=p*(f' d).natAbs:=Nat.mul_le_mul_right _ hpp
    rw[e2]
    show ¬p*(f' d).natAbs<=(f' d).natAbs
    omega
 have hu:(f d).natAbs=1:=by
  rcases hG.top with z|⟨e,_,hne,hfe⟩
  ·exfalso
   have:=hE (P.length-1)
   rw[hP.one,Int.mul_one,eE fun i _=> .inl (z i)]at this
   exact hm this
  ·have t:cv G f (e+d)=G e*f d:=by
    rw[fK,aC (g:=fun i=>if i=e then G e*f d else 0) fun i _=>by
     by_cases c3:i=e
     ·rw[if_pos c3,c3,Nat.add_sub_cancel_left]
     ·rw[if_neg c3]
      by_cases c4:i<e
      ·rw[hf.fs _ (by omega),Int.mul_zero]
      ·rw[hfe i (by omega),Int.zero_mul],cN,if_pos (by omega)]
   have hx:G e*f d≠0:=Int.mul_ne_zero hne hf.ne
   have e1:=hE (e+d)
   rw[t]at e1
   have hl:e+d=P.length-1:=by
    by_cases c3:P.length<=e+d
    ·rw[bZ c3,Int.mul_zero]at e1;exact absurd e1.symm hx
    ·by_cases c4:e+d=P.length-1
     ·exact c4
     ·exfalso
      have e2:=hE (P.length-1)
      rw[hP.one,Int.mul_one,eE fun i hi=>by
       by_cases c5:e+1<=i
       ·exact .inl (hfe i c5)
       ·exact .inr (hf.fs _ (by omega))]at e2
      exact hm e2
   rw[hl,hP.one,Int.mul_one]at e1
   have e3:=congrArg Int.natAbs e1
   rw[Int.natAbs_mul,h1]at e3
   exact Nat.eq_one_of_mul_eq_one_left e3.symm
 have hs:f d*f d=1:=by
  rcases Int.natAbs_eq (f d)with h|h<;>rw[h,hu]<;>rfl
 have hLc:∀k,co (ofF (d+1) fun k=>f d*f k) k=f d*f k:=fun k=>by
  rw[cF]
  by_cases c3:k<d+1
  ·rw[if_pos c3]
  ·rw[if_neg c3,hf.fs k (by omega),Int.mul_zero]
 have hM:Mon (ofF (d+1) fun k=>f d*f k):=⟨by rw[aU];omega,by rw[aU,Nat.add_sub_cancel,hLc,hs]⟩
 have hK:Kp 0 (ofF (d+1) fun k=>f d*f k) a:=fun i=>by
  rw[bD]
  unfold ks
  rw[aU,aC (g:=fun k=>f d*(f k*a (i+k))) fun k _=>by rw[hLc,Int.mul_assoc],cB,hf.kf i,Int.mul_zero]
 refine⟨ofF (d+1) fun k=>f d*f k,hM,⟨?_,fun x _=>bD x⟩,hK,?_,fun q hq=>?_,fun e g h=>by rw[aU];exact hd' e g h⟩
 ·refine fG (fun z=>?_) (by rw[hM.one];decide)
  have:=hM.pos;rw[z]at this;exact absurd this (by decide)
 ·rw[aU];have:=hd' _ _ p0;omega
 ·obtain⟨o,r,D⟩:=wF (b:=0) hM (p:=q) fun k=>bD _
  have kr:=(D.kp hK).mp hq
  have rn:r=[]:=by
   by_cases c3:r=[]
   ·exact c3
   ·exfalso
    have hl:0<r.length:=List.length_pos_iff.mpr c3
    have hne:=oK c3 D.ry.tr
    have:=hd' (r.length-1) (co r) ⟨by rw[show r.length-1+1=r.length by omega];exact Fs.co r,hne,by rw[show r.length-1+1=r.length by omega];exact Kf.of kr⟩
    have hsh:=D.short
    rw[aU]at hsh
    omega
  refine⟨co o,o.length,Fs.co o,fun k=>?_⟩
  rw[<-D.eq k,rn,dF,Int.add_zero]
end Pm
namespace Dm
open Pm Rm
theorem qH{n:Nat}(f:Nat->Nat->Int)(x:Nat->Int){j:Nat}(hj:j<n):det n (gG f j fun i=>sm n fun k=>f i k*x k)=x j*det n f:=by
 have e0:(fun i=>sm n fun k=>f i k*x k)=fun i=>sm n fun k=>x k*f i k:=funext fun i=>aC fun k _=>Int.mul_comm ..
 rw[e0,jD f hj x (fun k i=>f i k)]
 have e2:sm n (fun k=>x k*det n (gG f j fun i=>f i k))=sm n (fun k=>if k=j then x j*det n f else 0):=aC fun k hk=>by
  by_cases c:k=j
  ·rw[if_pos c,c,jB]
  ·rw[if_neg c]
   have z:det n (gG f j fun i=>f i k)=0:=by
    rcases Nat.lt_or_gt_of_ne c with l|l
    ·exact gk l hj fun i _=>by rw[dh,gw (by omega)]
    ·exact gk l hk fun i _=>by rw[dh,gw (by omega)]
   rw[z,Int.mul_zero]
 rw[e2,cN,if_pos hj]
theorem JF{b:Int}{n:Nat}{f:Nat->Nat->Int}{x:Nat->Int}(h:Rel b n n f x){j:Nat}(hj:j<n):tk b (x j*det n f)=0:=by
 have hx:∀i,∃e,i<n->(sm n fun k=>f i k*x k)=b*e:=fun i=>by
  by_cases c:i<n
  ·obtain⟨e,he⟩:=dM.mp (h i c);exact⟨e,fun _=>he⟩
  ·exact⟨0,fun z=>absurd z c⟩
 obtain⟨e,he⟩:=Classical.skolem.mp hx
 rw[<-qH f x hj]
 have e1:det n (gG f j fun i=>sm n fun k=>f i k*x k)=det n (gG f j fun i=>b*e i+0):=cg fun i k hi _=>by
  unfold gG;split
  ·show(sm n fun k=>f i k*x k)=b*e i+0
   rw[he i hi,Int.add_zero]
  ·rfl
 rw[e1,gj f hj b e (fun _=>0),iV f hj,Int.add_zero]
 exact dM.mpr ⟨_,rfl⟩
theorem qu{b:Int}{n:Nat}{f:Nat->Nat->Int}(hD:Dom b)(h:tk b (det n f)≠0):Ind b n n f:=fun x hx k hk=>
 hD (det n f) (x k) h (by rw[Int.mul_comm];exact JF hx hk)
structure Cp(b:Int)(n:Nat)(A0:Nat->Nat->Int)(c:Nat)(A:Nat->Nat->Int)(hd:Nat->Nat)(r:Nat):Prop where
 sw:Swp n A0 A
 nz:tk b (dt A hd r)≠0
 rn:r<=n
 hc:∀h,h<r->hd h<c
 up:∀h h',h<h'->h'<r->hd h<hd h'
 zero:∀k,k<c->(∀h,h<r->hd h≠k)->∀i,r<=i->i<n->tk b (En A hd r i k)=0
theorem Cp.bring{b:Int}{n:Nat}{A0:Nat->Nat->Int}{c:Nat}{A:Nat->Nat->Int}{hd:Nat->Nat}{r:Nat}(h:Cp b n A0 c A hd r){a:Nat}(hra:r<a)(han:a<n):Cp b n A0 c (turn A r a) hd r:=
 ⟨.step h.sw hra han,by rw[CN (Nat.le_refl _) (by omega)];exact h.nz,h.rn,h.hc,h.up,fun k hk hn i h1 h2=>by
  rw[Ac (Nat.le_refl _) hra]
  split
  ·exact h.zero k hk hn a (by omega) han
  ·split
   ·exact jX (h.zero k hk hn r (Nat.le_refl _) (by omega))
   ·exact h.zero k hk hn i h1 h2⟩
theorem Cp.free{b:Int}{n:Nat}{A0:Nat->Nat->Int}{c:Nat}{A:Nat->Nat->Int}{hd:Nat->Nat}{r:Nat}(h:Cp b n A0 c A hd r)(hD:Dom b)(hrn:r<n)(hp:tk b (En A hd r r c)≠0):Cp b n A0 (c+1) A (more hd r c) (r+1):=by
 have hpi:En A hd r r c≠0:=fun z=>hp (by rw[z];exact tk0 b)
 have ml:∀j,j<r->more hd r c j=hd j:=fun j hj=>if_neg (by omega)
 have me:more hd r c r=c:=if_pos rfl
 refine⟨h.sw,by rw[AX];exact hp,by omega,fun j hj=>?_,fun j j' h1 h2=>?_,fun k hk hn i h1 h2=>?_⟩
 ·by_cases e:j=r
  ·rw[e,me];omega
  ·rw[ml j (by omega)];have:=h.hc j (by omega);omega
 ·by_cases e:j'=r
  ·rw[e,me,ml j (by omega)];exact h.hc j (by omega)
  ·rw[ml j' (by omega),ml j (by omega)];exact h.up j j' h1 (by omega)
 ·have hkc:k≠c:=fun e=>hn r (by omega) (by rw[me,e])
  have hn':∀j,j<r->hd j≠k:=fun j hj=>by rw[<-ml j hj];exact hn j (by omega)
  refine hD _ _ h.nz ?_
  rw[BL hpi (by omega)]
  exact C9 (rW _ (h.zero k (by omega) hn' i (by omega) h2)) (rW _ (h.zero k (by omega) hn' r (Nat.le_refl _) hrn))
theorem Cp.step{b:Int}{n:Nat}{A0:Nat->Nat->Int}{c:Nat}{A:Nat->Nat->Int}{hd:Nat->Nat}{r:Nat}(h:Cp b n A0 c A hd r)(hD:Dom b):∃A hd r,Cp b n A0 (c+1) A hd r:=by
 by_cases z:∀i,r<=i->i<n->tk b (En A hd r i c)=0
 ·refine⟨A,hd,r,h.sw,h.nz,h.rn,fun j hj=>by have:=h.hc j hj;omega,h.up,fun k hk hn i h1 h2=>?_⟩
  by_cases e:k=c
  ·rw[e];exact z i h1 h2
  ·exact h.zero k (by omega) hn i h1 h2
 ·obtain⟨i,hi⟩:=Classical.not_forall.mp z
  obtain⟨h1,hi⟩:=Classical.not_imp.mp hi
  obtain⟨h2,hi⟩:=Classical.not_imp.mp hi
  by_cases e:i=r
  ·rw[e]at hi;exact⟨_,_,_,h.free hD (by omega) hi⟩
  ·refine⟨_,_,_,(h.bring (a:=i) (by omega) h2).free hD (by omega) ?_⟩
   rw[Ac (Nat.le_refl _) (by omega),if_pos rfl];exact hi
theorem Cp.ex{b:Int}(hD:Dom b)(h1:tk b 1≠0)(n:Nat)(A0:Nat->Nat->Int):∀c,∃A hd r,Cp b n A0 c A hd r
 |0=>⟨A0,fun _=>0,0,.refl,by rw[Bp];exact h1,Nat.zero_le _,fun h hh=>absurd hh (Nat.not_lt_zero _),fun _ _ _ h=>absurd h (Nat.not_lt_zero _),fun k hk=>absurd hk (Nat.not_lt_zero _)⟩
 |c+1=>by
  obtain⟨A,hd,r,h⟩:=Cp.ex hD h1 n A0 c
  exact h.step hD
theorem Aj{hd:Nat->Nat}{r m:Nat}(hc:∀h,h<r->hd h<m)(up:∀h h',h<h'->h'<r->hd h<hd h')(sur:∀k,k<m->∃j,j<r/\hd j=k):r=m/\∀k,k<m->hd k=k:=by
 have ge:∀j,j<r->j<=hd j:=fun j=>by
  induction j with
  |zero=>intro _;exact Nat.zero_le _
  |succ j ih=>
   intro hj
   have:=ih (by omega)
   have:=up j (j+1) (by omega) hj
   omega
 have all:∀k,k<m->k<r/\hd k=k:=fun k=>by
  induction k using Nat.strongRecOn with
  |ind k ih=>
   intro hk
   obtain⟨j,hj,e⟩:=sur k hk
   have g:=ge j hj
   by_cases c:j=k
   ·rw[<-c];exact⟨hj,by rw[e,c]⟩
   ·have:=(ih j (by omega) (by omega)).2
    omega
 refine⟨?_,fun k hk=>(all k hk).2⟩
 by_cases c:r<=m
 ·by_cases c2:r=m
  ·exact c2
  ·have:=(all r (by omega)).1;omega
 ·have:=hc m (by omega)
  have:=ge m (by omega)
  omega
theorem yG{b:Int}{n:Nat}{A0:Nat->Nat->Int}(hD:Dom b)(h1:tk b 1≠0)(hI:Ind b n n A0):tk b (det n A0)≠0:=by
 obtain⟨A,hd,r,h⟩:=Cp.ex hD h1 n A0 n
 have H:=Aj h.hc h.up fun k hk=>by
  by_cases c:∃j,j<r/\hd j=k
  ·exact c
  ·exfalso
   have hn:∀j,j<r->hd j≠k:=fun j hj e=>c ⟨j,hj,e⟩
   have R:=wD (A:=A) (hd:=hd) (r:=r) (m:=n) (k:=k) (b:=b) (n:=n) h.hc hk (h.zero k hk hn)
   have z:=hI _ (h.sw.rel.mpr R) k hk
   rw[if_pos rfl,gq (fun j hj=>by rw[if_neg (fun e=>hn j hj e.symm)]),Int.zero_sub]at z
   have:=jX z
   rw[Int.neg_neg]at this
   exact h.nz this
 obtain⟨e,H⟩:=H
 subst e
 rw[<-h.sw.det]
 have:=h.nz
 have q:dt A hd r=det r A:=cg fun i k _ hk=>by unfold Bk;rw[H k hk]
 rwa [q]at this
end Dm
namespace Dm
open Pm Rm
noncomputable def hk(a:Nat->Int):Nat->Nat->Int:=fun i j=>a (i+j)
theorem JZ(x a:Nat->Int)(l i:Nat):sm l (fun k=>hk a i k*x k)=ks (ofF l x) a i:=by
 unfold ks
 rw[aU]
 refine aC fun k hk'=>?_
 rw[cF,if_pos hk',Int.mul_comm];rfl
theorem vZ{b:Int}(hD:Dom b)(h1:tk b 1≠0){L:List Int}{a:Nat->Int}(hL:Mon L)(hw:∀k,tk b (co L k)=co L k)(hK:Kp b L a)(hm:∀q,Kp b q a->Dv b L (co q)):tk b (det (L.length-1) (hk a))≠0:=by
 refine yG hD h1 fun x hx k hk'=>?_
 have e:=lF hw hL
 have ha:∀n,(fW b L).length<=n->tk b (a n)=tk b (S (fW b L) a n (fW b L).length):=Kp.rec (by rw[e];exact hK)
 have hq:Kp b (ofF (L.length-1) x) a:=zE ha fun n hn=>by
  rw[dX]at hn
  rw[<-JZ];exact hx n hn
 have z:=(hm _ hq).short hL (by have:=Fs.co (ofF (L.length-1) x);rwa [aU]at this) k
 rwa [cF,if_pos hk']at z
theorem yE{b:Int}(hD:Dom b){l:Nat}{a:Nat->Int}(h:tk b (det l (hk a))≠0){q:List Int}(hq:q.length<=l)(hK:Kp b q a):∀k,tk b (co q k)=0:=fun k=>by
 have hI:=qu hD h (co q) fun i hi=>by
  rw[JZ]
  have e:ks (ofF l (co q)) a i=ks q a i:=by
   rw[<-jz q a i hq]
   unfold ks
   rw[aU]
   exact aC fun k hk'=>by rw[cF,if_pos hk']
  rw[e];exact hK i
 by_cases c:k<l
 ·exact hI k c
 ·rw[bZ (by omega),tk0]
theorem Dom.pr{p:Nat}(hp:Om.cA p):Dom (p:Int):=fun x y hx h=>by
 have h2:=hp.1
 obtain⟨e,he⟩:=dM.mp h
 rcases lE hp (x:=x) (y:=y) ⟨e,he⟩with⟨z,hz⟩|⟨z,hz⟩
 ·exact absurd (dM.mpr ⟨z,hz⟩) hx
 ·exact dM.mpr ⟨z,hz⟩
end Dm
namespace Pm
open Rm Dm
structure GcZ(P:List Int)(T:Nat->Int)(g:List Int)(N:Int):Prop where
 mon:Mon g
 py:Py 0 g
 ne:N≠0
 one:Dv 0 g (co P)
 two:Dv 0 g T
 all:∀h:List Int,Mon h->Dv 0 h (co P)->Dv 0 h T->Dv 0 h (co g)
 good:∀(p:Nat) (s:List Int),Om.cA p->¬(p:Int)∣N->Mon s->Dv p s (co P)->Dv p s T->s.length<=g.length
theorem Dv.by{b:Int}{m:List Int}{f:Nat->Int}(h:Dv 0 m f):Dv b m f:=by
 obtain⟨s,n,hs,h⟩:=h
 exact⟨s,n,hs,fun k=>by have:=h k;rw[bD,bD]at this;rw[this]⟩
theorem Dv.len{b:Int}(h1:tk b 1=1){m p:List Int}(hm:Mon m)(hp:Mon p)(h:Dv b m (co p)):m.length<=p.length:=by
 by_cases c:m.length<=p.length
 ·exact c
 ·exfalso
  have:=h.short hm ((Fs.co p).mono (by omega)) (p.length-1)
  rw[hp.one,h1]at this
  exact absurd this (by decide)
theorem lB{b:Int}(h1:tk b 1=1){P g:List Int}(hP:Mon P)(hg:Mon g)(h:Dv b g (co P)):∃L:List Int,Mon L/\(∀k,tk b (co L k)=co L k)/\L.length+g.length=P.length+1/\∀k,tk b (co P k)=tk b (cv (co L) (co g) k):=by
 have hl:=h.len h1 hg hP
 have hp:=hP.pos
 have hgp:=hg.pos
 obtain⟨s,n,hs,h⟩:=h
 have key:∀d j,n<=j+d->P.length-g.length<j->tk b (s j)=0:=fun d=>by
  induction d with
  |zero=>intro j hj _;rw[hs j hj,tk0]
  |succ d ih=>
   intro j hj hj2
   have e:=h (j+(g.length-1))
   rw[bZ (by omega),tk0,fK]at e
   have e2:tk b (sm (j+(g.length-1)+1) fun i=>s i*co g (j+(g.length-1)-i))=tk b (sm (j+(g.length-1)+1) fun i=>if i=j then s j else 0):=iz fun i hi=>by
    by_cases c:i=j
    ·rw[if_pos c,c,Nat.add_sub_cancel_left,hg.one,Int.mul_one]
    ·rw[if_neg c,tk0]
     by_cases d2:i<j
     ·rw[bZ (by omega),Int.mul_zero,tk0]
     ·rw[Int.mul_comm];exact qU _ (ih i (by omega) (by omega))
   rw[e2,cN,if_pos (by omega)]at e
   exact e.symm
 have z:∀k,P.length-g.length<k->tk b (s k)=0:=fun k hk=>key n k (by omega) hk
 have t1:tk b (s (P.length-g.length))=1:=by
  have e:=h (P.length-1)
  rw[hP.one,h1,fK]at e
  have e2:tk b (sm (P.length-1+1) fun i=>s i*co g (P.length-1-i))=tk b (sm (P.length-1+1) fun i=>if i=P.length-g.length then s (P.length-g.length)else 0):=iz fun i hi=>by
   by_cases c:i=P.length-g.length
   ·rw[if_pos c,c,show P.length-1-(P.length-g.length)=g.length-1 by omega,hg.one,Int.mul_one]
   ·rw[if_neg c,tk0]
    by_cases d2:i<P.length-g.length
    ·rw[bZ (by omega),Int.mul_zero,tk0]
    ·rw[Int.mul_comm];exact qU _ (z i (by omega))
  rw[e2,cN,if_pos (by omega)]at e
  exact e.symm
 have hc:∀k,co (ofF (P.length-g.length+1) fun k=>tk b (s k)) k=tk b (s k):=fun k=>by
  rw[cF]
  by_cases c:k<P.length-g.length+1
  ·rw[if_pos c]
  ·rw[if_neg c,z k (by omega)]
 refine⟨ofF (P.length-g.length+1) fun k=>tk b (s k),⟨by rw[aU];omega,?_⟩,fun k=>?_,by rw[aU];omega,fun k=>?_⟩
 ·rw[aU,Nat.add_sub_cancel,hc,t1]
 ·rw[hc,iY]
 ·rw[h k]
  exact gH (fun i _=>by rw[hc,iY]) fun i _=>rfl
theorem nj{b:Int}{P:List Int}(hP:Mon P)(k:Nat):tk b (co P k)=tk b (co (aV b (fW b P)) k):=by
 have hp:=hP.pos
 rw[aV,cQ,aU,dX]
 by_cases c:k<P.length-1
 ·rw[if_pos c,cF,if_pos c,fW,cF,if_pos (by omega),qD,iY]
  rw[show P.length-1-1-(P.length-1-1-k)=k by omega]
 ·rw[if_neg c]
  by_cases d:k=P.length-1
  ·rw[d,hP.one,Nat.sub_self];rfl
  ·rw[bZ (by omega),bZ (by simp;omega)]
theorem keepsP{b:Int}{P:List Int}{a:Nat->Int}(hm:Mon P)(hK:Kp b P a)(q:List Int):Kp b q a↔Dv b P (cv (co q) (tp P a)):=by
 have A:=rC hm.pos q hK
 constructor
 ·intro h
  have z:Dv b P (tp P (ks q a)):=(Dv.zero b _).congr fun k=>by
   have:=Jg (b:=b) (P:=P) (a:=ks q a) (a':=fun _=>0) (fun n=>by rw[h n,tk0]) k
   rw[this]
   exact(congrArg (tk b) (show tp P (fun _=>0) k=0 from gq fun i _=>Int.mul_zero _)).symm
  exact(A.add z).congr fun k=>by rw[Int.sub_add_cancel]
 ·intro h
  have z:Dv b P (tp P (ks q a)):=(h.sub A).congr fun k=>by
   rw[show cv (co q) (tp P a) k-(cv (co q) (tp P a) k-tp P (ks q a) k)=tp P (ks q a) k by omega]
  have n0:=wR hm (z.short hm (yZ _ _))
  have ha:∀n,(fW b P).length<=n->tk b (a n)=tk b (S (fW b P) a n (fW b P).length):=Kp.rec (hK.congr (nj hm))
  exact zE ha fun n hn=>n0 n (by rw[dX]at hn;exact hn)
theorem xu{b:Int}{m:List Int}(hm:Mon m){f g:Nat->Int}{n n':Nat}(hf:Fs f n)(hg:Fs g n')(h:∀k,tk b (cv f (co m) k)=tk b (cv g (co m) k)):∀k,tk b (f k)=tk b (g k):=fun k=>by
 refine dw.mp (jE (b:=b) hm (f:=fun k=>f k-g k) (n:=n+n') (fun k hk=>?_) (fun k _=>?_) k)
 ·show f k-g k=0
  rw[hf k (by omega),hg k (by omega)];rfl
 ·have e:cv (fun k=>f k-g k) (co m) k=cv f (co m) k + -1*cv g (co m) k:=by
   rw[<-eY,<-eG]
   exact d7 (fun i _=>by omega) fun i _=>rfl
  rw[e,bf (h k) rfl,show ∀x:Int,x + -1*x=0 from fun x=>by omega,tk0]
theorem FJ{P:List Int}{a:Nat->Int}(hP:Mon P)(hK:Kp 0 P a):∃g L,Mon L/\Py 0 L/\Kp 0 L a/\(∀q,Kp 0 q a->Dv 0 L (co q))/\L.length+g.length=P.length+1/\(∀k,co P k=cv (co L) (co g) k)/\GcZ P (tp P a) g (det (L.length-1) (hk a)):=by
 obtain⟨L,hL,hLy,hKL,hLP,hall,_⟩:=Nk hP hK
 obtain⟨g,hg,hgy,hlen,hE⟩:=lB (b:=0) rfl hP hL (hall P hK)
 have hE':∀k,co P k=cv (co g) (co L) k:=fun k=>by have:=hE k;rwa [bD,bD]at this
 have hgP:Py 0 g:=⟨fG (fun z=>by have:=hg.pos;rw[z]at this;exact absurd this (by decide)) (by rw[hg.one];decide),fun x _=>bD x⟩
 have hLp:=hL.pos
 have hgp:=hg.pos
 refine⟨g,L,hL,hLy,hKL,hall,by omega,fun k=>by rw[hE',dR],hg,hgP,?_,⟨co L,L.length,Fs.co L,fun k=>by rw[hE',dR]⟩,?_,fun h hh h1 h2=>?_,fun p s hp hN hs h1 h2=>?_⟩
 ·have:=vZ Dom.zero (by decide) hL (fun k=>bD _) hKL hall
  rwa [bD]at this
 ·obtain⟨s,n,hs,e⟩:=(keepsP hP hK L).mp hKL
  refine⟨s,n,hs,xu hL (yZ P a) (hs.cv (Fs.co g)) fun k=>?_⟩
  rw[dR,e k,bY]
  exact congrArg (tk 0) (d7 (fun _ _=>rfl) fun i _=>hE' i)
 ·obtain⟨A,hA,hAy,hAl,hAe⟩:=lB (b:=0) rfl hP hh h1
  obtain⟨B,nB,hB,hBe⟩:=h2
  have hKA:Kp 0 A a:=(keepsP hP hK A).mpr ⟨B,nB,hB,fun k=>by
   have e1:tk 0 (cv (co A) (tp P a) k)=tk 0 (cv (co A) (cv B (co h)) k):=gH (fun _ _=>rfl) fun i _=>hBe i
   have e2:tk 0 (cv B (co P) k)=tk 0 (cv B (cv (co A) (co h)) k):=gH (fun _ _=>rfl) fun i _=>hAe i
   rw[e1,e2,<-bY,<-bY]
   exact congrArg (tk 0) (d7 (fun i _=>dR ..) fun _ _=>rfl)⟩
  obtain⟨C,nC,hC,hCe⟩:=hall A hKA
  refine⟨C,nC,hC,xu hL (Fs.co g) (hC.cv (Fs.co h)) fun k=>?_⟩
  rw[<-hE',hAe k,gH (fun i _=>hCe i) fun _ _=>rfl,bY,bY]
  exact congrArg (tk 0) (d7 (fun _ _=>rfl) fun i _=>dR ..)
 ·have hp2:=hp.1
  have hp1:tk (p:Int) 1=1:=by rw[dU (by omega)];exact Int.emod_eq_of_lt (by decide) (by omega)
  obtain⟨A,hA,hAy,hAl,hAe⟩:=lB (b:=p) hp1 hP hs h1
  obtain⟨B,nB,hB,hBe⟩:=h2
  have hKp:Kp p P a:=fun n=>by have:=hK n;rw[bD]at this;rw[this,tk0]
  have hKA:Kp p A a:=(keepsP hP hKp A).mpr ⟨B,nB,hB,fun k=>by
   have e1:tk p (cv (co A) (tp P a) k)=tk p (cv (co A) (cv B (co s)) k):=gH (fun _ _=>rfl) fun i _=>hBe i
   have e2:tk p (cv B (co P) k)=tk p (cv B (cv (co A) (co s)) k):=gH (fun _ _=>rfl) fun i _=>hAe i
   rw[e1,e2,<-bY,<-bY]
   exact congrArg (tk p) (d7 (fun i _=>dR ..) fun _ _=>rfl)⟩
  by_cases c:A.length<=L.length-1
  ·exfalso
   have z:=yE (Dom.pr hp) (fun z=>hN (dM.mp z)) c hKA (A.length-1)
   rw[hA.one,hp1]at z
   exact absurd z (by decide)
  ·omega
end Pm
namespace Dm
open Rm Pm
end Dm
namespace Dm
open Rm Pm
noncomputable def xch(A:Nat->Nat->Int)(a c:Nat):Nat->Nat->Int:=fun i k=>A (if i=a then c else if i=c then a else i) k
theorem Rel.xch{b:Int}{n m:Nat}{A:Nat->Nat->Int}{x:Nat->Int}{a c:Nat}(ha:a<n)(hc:c<n):Rel b n m A x↔Rel b n m (Dm.xch A a c) x:=by
 constructor
 ·intro h i hi
  refine h (if i=a then c else if i=c then a else i) ?_
  split
  ·exact hc
  ·split
   ·exact ha
   ·exact hi
 ·intro h i hi
  have q:=h (if i=a then c else if i=c then a else i) (by
   split
   ·exact hc
   ·split
    ·exact ha
    ·exact hi)
  have e:∀k,Dm.xch A a c (if i=a then c else if i=c then a else i) k=A i k:=fun k=>by
   unfold Dm.xch
   by_cases h1:i=a
   ·subst h1
    rw[if_pos rfl]
    by_cases h2:c=i
    ·rw[if_pos h2,h2]
    ·rw[if_neg h2,if_pos rfl]
   ·rw[if_neg h1]
    by_cases h2:i=c
    ·rw[if_pos h2,if_pos rfl,h2]
    ·rw[if_neg h2,if_neg h1,if_neg h2]
  rw[aC fun k _=>by rw[e k]]at q
  exact q
theorem Jl{A:Nat->Nat->Int}{hd:Nat->Nat}{r a c:Nat}(ha:r<=a)(hc:r<=c):dt (xch A a c) hd r=dt A hd r:=cg fun i k hi _=>by
 show A (if i=a then c else if i=c then a else i) _=_
 rw[if_neg (by omega),if_neg (by omega)];rfl
theorem Fi{A:Nat->Nat->Int}{hd:Nat->Nat}{r a c i:Nat}(ha:r<=a)(hc:r<=c)(hi:r<=i)(k:Nat):En (xch A a c) hd r i k=En A hd r (if i=a then c else if i=c then a else i) k:=by
 have hs:r<=if i=a then c else if i=c then a else i:=by
  split
  ·exact hc
  ·split<;>assumption
 unfold En
 rw[if_neg (by omega),if_neg (by omega)]
 refine cg fun i' k' h1 h2=>?_
 show A (if(if i'=r then i else i')=a then c else if(if i'=r then i else i')=c then a else(if i'=r then i else i')) _=A (if i'=r then _ else i') _
 by_cases e:i'=r
 ·rw[if_pos e,if_pos e]
 ·rw[if_neg e,if_neg e,if_neg (by omega),if_neg (by omega)]
theorem zF(c:Nat):more id c c=id:=funext fun h=>by
 unfold more
 by_cases e:h=c
 ·rw[if_pos e,e];rfl
 ·rw[if_neg e]
theorem Lr{A:Nat->Nat->Int}{hd:Nat->Nat}{r i k u:Nat}(hi:r<=i)(h:∀i k,Bd u (A i k)):Bd ((r+1)*(u+(r+1))+1) (En A hd r i k):=by
 unfold En
 rw[if_neg (by omega)]
 exact uz fun _ _ _ _=>h _ _
noncomputable def sh(b x last:Int):Int:=if b=0 then x.fdiv last else x%b
structure RkI(b:Int)(n c:Nat)(A0 A:Nat->Nat->Int)(t:List (List Int))(last:Int)(ua:Nat):Prop where
 rel:∀m x,Rel b n m A0 x↔Rel b n m A x
 len:t.length=n
 wd:∀i,i<n->(ln t i).length=n
 en:∃u,tk b u≠0/\(b=0->u=1)/\∀i k,c<=i->i<n->k<n->co (ln t i) k=tk b (u*En A id c i k)
 la:b=0->last=dt A id c
 nz:tk b (dt A id c)≠0
 bdd:∀i k,Bd ua (A i k)
theorem RkI.start{b:Int}{n ua:Nat}{A0:Nat->Nat->Int}{t:List (List Int)}(h1:tk b 1=1)(hl:t.length=n)(hw:∀i,i<n->(ln t i).length=n)(he:∀i k,i<n->k<n->co (ln t i) k=tk b (A0 i k))(hb:∀i k,Bd ua (A0 i k)):RkI b n 0 A0 A0 t 1 ua:=
 ⟨fun _ _=>Iff.rfl,hl,hw,⟨1,by rw[h1];decide,fun _=>rfl,fun i k _ hi hk=>by rw[Hr,Int.one_mul];exact he i k hi hk⟩,fun _=>rfl,by rw[Bp,h1];decide,hb⟩
theorem RkI.zero{b:Int}{n c:Nat}{A0 A:Nat->Nat->Int}{t:List (List Int)}{last:Int}{ua:Nat}(h:RkI b n c A0 A t last ua)(hD:Dom b){i k:Nat}(hc:c<=i)(hi:i<n)(hk:k<n):co (ln t i) k=0↔tk b (En A id c i k)=0:=by
 obtain⟨u,hu,_,e⟩:=h.en
 rw[e i k hc hi hk]
 exact⟨fun z=>hD _ _ hu z,fun z=>by rw[<-bN,z,Int.mul_zero,tk0]⟩
theorem RkI.some{b:Int}{n c l:Nat}{A0 A:Nat->Nat->Int}{t:List (List Int)}{last:Int}{ua:Nat}(h:RkI b n c A0 A t last ua)(hD:Dom b)(hI:Ind b n l A0)(hc:c<l)(hl:l<=n):∃i,c<=i/\i<n/\co (ln t i) c≠0:=by
 refine Classical.byContradiction fun z=>?_
 have hz:∀i,c<=i->i<n->tk b (En A id c i c)=0:=fun i h1 h2=>(h.zero hD h1 h2 (by omega)).mp (Classical.byContradiction fun y=>z ⟨i,h1,h2,y⟩)
 have q:=wD (hd:=id) (m:=l) (fun j hj=>by show j<l;omega) hc hz
 have q2:=hI _ ((h.rel l _).mpr q) c hc
 have e:sm c (fun j=>if c=id j then En A id c j c else 0)=0:=by
  refine(aC (g:=fun _=>0) fun j hj=>if_neg (by show ¬c=j;omega)).trans ?_
  exact jx c
 rw[e,if_pos rfl,Int.zero_sub]at q2
 have:=jX q2
 rw[Int.neg_neg]at this
 exact h.nz this
theorem RkI.none{b:Int}{n l:Nat}{A0 A:Nat->Nat->Int}{t:List (List Int)}{last:Int}{ua:Nat}(h:RkI b n l A0 A t last ua)(hD:Dom b)(hl:l<=n)
  (hL:∀j,l<=j->j<n->∃x,Rel b n n A0 x/\tk b (x j)≠0/\∀k,j<k->x k=0):∀k,k<n->∀i,l<=i->i<n->co (ln t i) k=0:=fun k=>by
 induction k using Nat.strongRecOn with
 |ind k ih=>
  intro hk i h1 h2
  refine(h.zero hD h1 h2 hk).mpr ?_
  by_cases c:k<l
  ·have:=Hy (A:=A) (hd:=id) (r:=l) (i:=i) (h:=k) c
   rw[if_neg (by omega)]at this
   show tk b (En A id l i (id k))=0
   rw[this,tk0]
  ·obtain⟨x,hx,hxk,hx0⟩:=hL k (by omega) hk
   have q:=(((h.rel n x).mp hx).en id hl) i h2
   have e:tk b (sm n fun j=>En A id l i j*x j)=tk b (sm n fun j=>if j=k then En A id l i k*x k else 0):=iz fun j hj=>by
    by_cases g:j=k
    ·rw[if_pos g,g]
    ·rw[if_neg g]
     by_cases g2:k<j
     ·rw[hx0 j g2,Int.mul_zero]
     ·have:=(h.zero hD h1 h2 hj).mp (ih j (by omega) hj i h1 h2)
      rw[<-cT,this,Int.zero_mul]
   rw[e,cN,if_pos hk]at q
   exact hD _ _ hxk (by rw[Int.mul_comm];exact q)
theorem RkI.bd{b:Int}{n c:Nat}{A0 A:Nat->Nat->Int}{t:List (List Int)}{last:Int}{ua:Nat}(h:RkI b n c A0 A t last ua)(hb0:0<=b)(hb1:b<1000){i k:Nat}(hc:c<=i)(hi:i<n)(hn:n<=12)(hk:k<n):Bd (14*(ua+14)+11) (co (ln t i) k):=by
 obtain⟨u,hu,hu1,e⟩:=h.en
 rw[e i k hc hi hk]
 by_cases z:b=0
 ·rw[z,bD,hu1 z,Int.one_mul]
  refine(Lr hc h.bdd).mono ?_
  have:(c+1)*(ua+(c+1))<=14*(ua+14):=Nat.mul_le_mul (by omega) (by omega)
  omega
 ·rw[dU z]
  exact(Bd.emod (n:=10) (by omega) (Bd.of (by omega) (by omega))).mono (by omega)
theorem RkI.step{b:Int}{n c a:Nat}{A0 A:Nat->Nat->Int}{t t':List (List Int)}{last:Int}{ua:Nat}(h:RkI b n c A0 A t last ua)(hD:Dom b)(ha:c<=a)(han:a<n)(hne:co (ln t a) c≠0)(hl:t'.length=n)(hw:∀i,i<n->(ln t' i).length=n)
  (he:∀k,c<k->k<n->∀j,j<n->co (ln t' k) j=sh b (co (ln t a) c*co (ln t (if k=a then c else k)) j-co (ln t (if k=a then c else k)) c*co (ln t a) j) last):RkI b n (c+1) A0 (xch A c a) t' (co (ln t a) c) ua:=by
 have hcn:c<n:=by omega
 obtain⟨u,hu,hu1,e⟩:=h.en
 have hp0:tk b (En A id c a c)≠0:=fun z=>hne ((h.zero hD ha han hcn).mpr z)
 have eC:∀k,En (xch A c a) id c c k=En A id c a k:=fun k=>by rw[Fi (Nat.le_refl _) ha (Nat.le_refl _),if_pos rfl]
 have hp:En (xch A c a) id c c c≠0:=fun z=>hp0 (by rw[<-eC c,z,tk0])
 have edt:dt (xch A c a) id (c+1)=En A id c a c:=by
  have:=AX (xch A c a) id c c
  rw[zF,eC]at this
  exact this
 refine⟨fun m x=>(h.rel m x).trans (Rel.xch hcn han),hl,hw,⟨if b=0 then 1 else u*u*dt A id c,?_,fun z=>if_pos z,fun k j hk hkn hj=>?_⟩,fun z=>?_,by rw[edt];exact hp0,fun i k=>h.bdd _ _⟩
 ·by_cases z:b=0
  ·rw[if_pos z,z,bD];decide
  ·rw[if_neg z]
   intro y
   exact h.nz (hD _ _ hu (hD _ _ hu (by rw[<-Int.mul_assoc];exact y)))
 ·have hs:c<=if k=a then c else k:=by split<;>omega
  have hsn:(if k=a then c else k)<n:=by split<;>omega
  have eK:∀j,En (xch A c a) id c k j=En A id c (if k=a then c else k) j:=fun j=>by
   rw[Fi (Nat.le_refl _) ha (by omega),if_neg (by omega)]
  have q:=BL (A:=xch A c a) (hd:=id) (r:=c) (c:=c) hp (i:=k) (by omega) j
  rw[zF,Jl (Nat.le_refl _) ha,eC,eC,eK,eK]at q
  rw[he k (by omega) hkn j hj,e a c ha han hcn,e a j ha han hj,e _ j hs hsn hj,e _ c hs hsn hcn]
  unfold sh
  by_cases z:b=0
  ·rw[if_pos z,if_pos z,hu1 z,z]
   simp only[bD,Int.one_mul]
   rw[<-q,h.la z]
   have hd0:dt A id c≠0:=fun y=>h.nz (by rw[y,tk0])
   rw[Int.mul_comm,Int.mul_fdiv_cancel _ hd0]
  ·rw[if_neg z,if_neg z,<-dU z]
   have e1:tk b (tk b (u*En A id c a c)*tk b (u*En A id c (if k=a then c else k) j)-tk b (u*En A id c (if k=a then c else k) c)*tk b (u*En A id c a j))=tk b (u*En A id c a c*(u*En A id c (if k=a then c else k) j)-u*En A id c (if k=a then c else k) c*(u*En A id c a j)):=by
    rw[Int.sub_eq_add_neg,Int.sub_eq_add_neg]
    refine bf ?_ ?_
    ·rw[cT,bN]
    ·have neg:∀x y:Int,tk b x=tk b y->tk b (-x)=tk b (-y):=fun x y h=>by rw[show -x=-1*x by omega,show -y=-1*y by omega,<-bN,h,bN]
     refine neg _ _ ?_
     rw[cT,bN]
   rw[e1]
   congr 1
   have e2:u*u*dt A id c*En (xch A c a) id (c+1) k j=u*u*(dt A id c*En (xch A c a) id (c+1) k j):=by rw[Int.mul_assoc]
   rw[e2,q,Int.mul_sub]
   congr 1
   ·simp only[Int.mul_assoc,Int.mul_comm,Int.mul_left_comm]
   ·simp only[Int.mul_assoc,Int.mul_comm,Int.mul_left_comm]
 ·rw[edt,e a c ha han hcn,z,bD,hu1 z,Int.one_mul]
theorem DR{b:Int}(h1:tk b 1≠0){a:Nat->Int}{M:List Int}(hM:Mon M)(hK:Kp b M a){n j:Nat}(hj:M.length-1<=j)(hjn:j<n):∃x,Rel b n n (hk a) x/\tk b (x j)≠0/\∀k,j<k->x k=0:=by
 have hp:=hM.pos
 refine⟨fun k=>if j-(M.length-1)<=k then co M (k-(j-(M.length-1)))else 0,fun i hi=>?_,?_,fun k hk=>?_⟩
 ·have q:=hK (i+(j-(M.length-1)))
  rw[ks]at q
  refine Eq.trans ?_ q
  obtain⟨s,hs⟩:∃s,j-(M.length-1)=s:=⟨_,rfl⟩
  dsimp only
  rw[hs]
  have e1:(sm n fun j=>hk a i j*(if s<=j then co M (j-s)else 0))=(sm n fun j=>if s<=j then(fun k=>co M k*a (i+s+k)) (j-s)else 0):=aC fun j hj=>by
   by_cases c:s<=j
   ·rw[if_pos c,if_pos c,Int.mul_comm]
    show _=co M (j-s)*a (i+s+(j-s))
    rw[show i+s+(j-s)=i+j by omega];rfl
   ·rw[if_neg c,if_neg c,Int.mul_zero]
  have e2:(sm n fun j=>if s<=j then(fun k=>co M k*a (i+s+k)) (j-s)else 0)=sm (n-s) fun k=>co M k*a (i+s+k):=by
   have:=qT (fun k=>co M k*a (i+s+k)) s (n-s)
   rw[show s+(n-s)=n by omega]at this
   exact this
  rw[e1,e2,fj (m:=M.length) (by omega) fun k h2 _=>by rw[bZ h2,Int.zero_mul]]
 ·dsimp only
  rw[if_pos (by omega),show j-(j-(M.length-1))=M.length-1 by omega,hM.one]
  exact h1
 ·dsimp only
  rw[if_pos (by omega),bZ (by omega)]
end Dm
namespace Pm
open Rm Dm
theorem IK{p:Int}(hp:p≠0){x y:Int}:tk p x=tk p y↔p∣x-y:=by
 rw[<-dw,dM]
 exact⟨fun⟨e,h⟩=>⟨e,h⟩,fun⟨e,h⟩=>⟨e,h⟩⟩
theorem zB{p:Nat}(hp:Om.cA p):tk (p:Int) 1=1:=by
 have:=hp.1
 rw[dU (by omega)];exact Int.emod_eq_of_lt (by decide) (by omega)
theorem Dv.same{b:Int}(h1:tk b 1=1){m p:List Int}(hm:Mon m)(hp:Mon p)(h:Dv b m (co p))(hl:m.length=p.length)(k:Nat):tk b (co p k)=tk b (co m k):=by
 obtain⟨L,hL,_,hlen,e⟩:=lB h1 hp hm h
 have hm0:=hm.pos
 have h2:L.length=1:=by omega
 have e0:co L 0=1:=by have:=hL.one;rwa [h2]at this
 rw[e k]
 refine congrArg (tk b) ?_
 rw[fK,fj (m:=1) (by omega) fun j h3 _=>by rw[bZ (p:=L) (by omega),Int.zero_mul]]
 simp[sm,e0]
structure Seen(g:List Int)(N:Int)(p:Nat)(s:List Int):Prop where
 mon:Mon s
 nu:∀k,tk (p:Int) (co s k)=co s k
 ge:g.length<=s.length
 eq:s.length=g.length->∀k,(p:Int)∣co s k-co g k
 good:¬(p:Int)∣N->s.length=g.length
theorem In2.to{b:Int}{g p q:List Int}(h:In2 b g [] p)(e:∀k,tk b (co p k)=tk b (co q k)):Dv b g (co q):=by
 obtain⟨u,h⟩:=h.dv
 exact⟨co u,u.length,Fs.co u,fun k=>by rw[<-e,h]⟩
theorem GcZ.seen{P t g:List Int}{N:Int}(h:GcZ P (co t) g N){p:Nat}(hp:Om.cA p){P' t' s:List Int}(eP:∀k,tk (p:Int) (co P' k)=tk p (co P k))(et:∀k,tk (p:Int) (co t' k)=tk p (co t k))(hs:Gcd p P' t' s):Seen g N p s:=by
 have h2:=hp.1
 have h1:=zB hp
 have d1:Dv p s (co P):=hs.one.to eP
 have d2:Dv p s (co t):=hs.two.to et
 have d3:Dv p g (co s):=by
  obtain⟨u,v,e⟩:=hs.sum
  refine((((h.one.by (b:=p))).mul (Fs.co u)).add ((h.two.by (b:=p)).mul (Fs.co v))).congr fun k=>?_
  rw[e]
  exact bf (gH (fun _ _=>rfl) fun i _=>(eP i).symm) (gH (fun _ _=>rfl) fun i _=>(et i).symm)
 have hge:=d3.len h1 h.mon hs.mon
 exact⟨hs.mon,hs.py.co,hge,fun e k=>(IK (by omega)).mp (d3.same h1 h.mon hs.mon e.symm k),fun z=>by
  have:=h.good p s hp z hs.mon d1 d2
  omega⟩
theorem GcZ.told{P t g h:List Int}{N:Int}(H:GcZ P (co t) g N)(hh:Mon h)(h1:Dv 0 h (co P))(h2:Dv 0 h (co t))(hl:g.length<=h.length):h=g:=by
 have d:=H.all h hh h1 h2
 have:=d.len rfl hh H.mon
 exact jN (by omega) fun k=>by have:=d.same rfl hh H.mon (by omega) k;rw[bD,bD]at this;exact this.symm
noncomputable def nr(M x:Int):Int:=if 2*(x%M)>M then x%M-M else x%M
noncomputable def Nr(M x:Int):Prop:=-M<2*x/\2*x<=M
theorem wA(M x:Int):M∣nr M x-x:=by
 have e:=Int.emod_add_mul_ediv x M
 unfold nr
 split
 ·exact⟨-(x/M)-1,by rw[Int.mul_sub,Int.mul_neg];omega⟩
 ·exact⟨-(x/M),by rw[Int.mul_neg];omega⟩
theorem u0{M:Int}(hM:0<M)(x:Int):Nr M (nr M x):=by
 have h0:=Int.emod_nonneg x (show M≠0 by omega)
 have h1:=Int.emod_lt_of_pos x hM
 unfold nr Nr
 split<;>omega
theorem Nr.eq{M x y:Int}(hM:0<M)(hx:Nr M x)(hy:Nr M y)(h:M∣x-y):x=y:=by
 obtain⟨c,hc⟩:=h
 unfold Nr at hx hy
 by_cases c0:c=0
 ·rw[c0,Int.mul_zero]at hc;omega
 ·exfalso
  rcases Int.lt_or_gt_of_ne c0 with l|l
  ·have:M*c<=M*(-1):=Int.mul_le_mul_of_nonneg_left (by omega) (by omega)
   omega
  ·have:M*1<=M*c:=Int.mul_le_mul_of_nonneg_left (by omega) (by omega)
   omega
theorem J4{M:Int}(hM:2<=M){x:Int}(h:M∣x-1):nr M x=1:=Nr.eq (M:=M) (by omega) (u0 (by omega) x) (by unfold Nr;omega) (by
 have:=Int.dvd_add (wA M x) h
 rwa [show nr M x-x+(x-1)=nr M x-1 by omega]at this)
theorem sS{M:Int}{p:Nat}(hp:Om.cA p)(hM:¬(p:Int)∣M){x:Int}(h1:M∣x)(h2:(p:Int)∣x):M*p∣x:=by
 obtain⟨y,rfl⟩:=h1
 rcases lE hp h2 with z|⟨e,he⟩
 ·exact absurd z hM
 ·exact⟨e,by rw[he,Int.mul_assoc]⟩
structure WgI(P g:List Int)(N:Int)(told:List Int)(M:Int)(prime:Nat)(ripe:Bool)(bad good:Nat):Prop where
 mon:Mon told
 ge:g.length<=told.length
 le:told.length<=P.length
 pos:0<M
 div:∀q:Nat,Om.cA q->(q:Int)∣M->q<=prime
 cong:told.length=g.length->∀k,M∣co told k-co g k
 near:M≠1->∀k,Nr M (co told k)
 bads:∃X:Nat,(X:Int)∣N/\2^(19*bad)<=X/\∀q:Nat,Om.cA q->q∣X->q<=prime
 goods:0<good->told.length=g.length/\2^(19*good)<=M
 ripes:2<=good->(∀k,2*(co g k).natAbs<2^(19*(good-1)))->ripe=true/\told=g
 hi:M<=2^(21*(bad+good))
 first:M=1->told=P
theorem WgI.start{P g:List Int}{N:Int}(hP:Mon P)(hl:g.length<=P.length)(prime:Nat):WgI P g N P 1 prime true 0 0:=
 ⟨hP,hl,Nat.le_refl _,by decide,fun q hq h=>by
  have:=hq.1
  have h3:=Int.le_of_dvd (by decide) h
  omega,fun _ k=>⟨_,(Int.one_mul _).symm⟩,fun h=>absurd rfl h,⟨1,⟨N,(Int.one_mul N).symm⟩,by decide,fun q hq h=>by
  have:=hq.1
  have h3:=Nat.le_of_dvd (by decide) h
  omega⟩,fun h=>absurd h (by decide),fun h=>absurd h (by decide),by decide,fun _=>rfl⟩
theorem nM{N:Int}{prime p bad:Nat}(hp:Om.cA p)(hlt:prime<p)(hbig:2^19<=p)(hN:(p:Int)∣N)(h:∃X:Nat,(X:Int)∣N/\2^(19*bad)<=X/\∀q:Nat,Om.cA q->q∣X->q<=prime):
  ∃X:Nat,(X:Int)∣N/\2^(19*(bad+1))<=X/\∀q:Nat,Om.cA q->q∣X->q<=p:=by
 obtain⟨X,h1,h2,h3⟩:=h
 refine⟨X*p,?_,?_,fun q hq hd=>?_⟩
 ·have:=sS (M:=(X:Int)) hp (fun z=>by have:=h3 p hp (Int.ofNat_dvd.mp z);omega) h1 hN
  rwa [Int.natCast_mul]
 ·rw[Nat.mul_add,Nat.pow_add]
  exact Nat.mul_le_mul h2 hbig
 ·rcases hq.dvd hd with z|z
  ·have:=h3 q hq z;omega
  ·exact Nat.le_of_dvd (by omega) z
theorem WgI.stay{P g told s:List Int}{N M:Int}{prime p bad good:Nat}{ripe:Bool}(h:WgI P g N told M prime ripe bad good)(hp:Om.cA p)(hlt:prime<p)(hbig:2^19<=p)(hs:Seen g N p s)(hl:told.length<s.length):WgI P g N told M p ripe (bad+1) good:=by
 have hN:(p:Int)∣N:=Classical.byContradiction fun z=>by have:=hs.good z;have:=h.ge;omega
 exact⟨h.mon,h.ge,h.le,h.pos,fun q hq hd=>by have:=h.div q hq hd;omega,h.cong,h.near,nM hp hlt hbig hN h.bads,h.goods,h.ripes,Int.le_trans h.hi (by
  have:(2:Nat)^(21*(bad+good))<=2^(21*(bad+1+good)):=Nat.pow_le_pow_right (by decide) (by omega)
  exact_mod_cast this),h.first⟩
theorem WgI.anew{P g told s:List Int}{N M:Int}{prime p bad good:Nat}{ripe:Bool}(h:WgI P g N told M prime ripe bad good)(hp:Om.cA p)(hlt:prime<p)(hbig:2^19<=p)(hhi:p<=2^21)(hs:Seen g N p s)(hl:s.length<told.length):
  ∃bad' good',bad'+good'=bad+good+1/\WgI P g N (s.map (nr p)) p p true bad' good':=by
 have hp2:=hp.1
 have hg0:good=0:=by
  by_cases c:good=0
  ·exact c
  ·have:=(h.goods (by omega)).1
   have:=hs.ge
   omega
 have hle:=h.le
 have hsp:=hs.mon.pos
 have hpp:(2:Int)<=p:=by omega
 have hc:∀k,co (s.map (nr p)) k=nr p (co s k):=fun k=>oW (by unfold nr;rw[Int.zero_emod];split<;>omega) s k
 have hm:Mon (s.map (nr p)):=⟨by rw[List.length_map];exact hsp,by rw[List.length_map,hc,hs.mon.one];exact J4 hpp ⟨0,by rw[Int.mul_zero];rfl⟩⟩
 have hcong:(s.map (nr p)).length=g.length->∀k,(p:Int)∣co (s.map (nr p)) k-co g k:=fun e k=>by
  rw[hc]
  have:=Int.dvd_add (wA p (co s k)) (hs.eq (by rwa [List.length_map]at e) k)
  rwa [show nr p (co s k)-co s k+(co s k-co g k)=nr p (co s k)-co g k by omega]at this
 have hnear:(p:Int)≠1->∀k,Nr p (co (s.map (nr p)) k):=fun _ k=>by rw[hc];exact u0 (by omega) _
 have hdiv:∀q:Nat,Om.cA q->(q:Int)∣p->q<=p:=fun q _ hd=>Nat.le_of_dvd (by omega) (Int.ofNat_dvd.mp hd)
 by_cases c:s.length=g.length
 ·refine⟨bad,1,by omega,hm,by rw[List.length_map];exact hs.ge,by rw[List.length_map];omega,by omega,hdiv,hcong,hnear,?_,fun _=>⟨by rw[List.length_map];exact c,by exact_mod_cast hbig⟩,fun z=>absurd z (by decide),?_,fun z=>by omega⟩
  ·obtain⟨X,h1,h2,h3⟩:=h.bads
   exact⟨X,h1,h2,fun q hq hd=>by have:=h3 q hq hd;omega⟩
  ·have:(2:Nat)^21<=2^(21*(bad+1)):=Nat.pow_le_pow_right (by decide) (by omega)
   exact_mod_cast Nat.le_trans hhi this
 ·have hN:(p:Int)∣N:=Classical.byContradiction fun z=>c (hs.good z)
  refine⟨bad+1,0,by omega,hm,by rw[List.length_map];exact hs.ge,by rw[List.length_map];omega,by omega,hdiv,hcong,hnear,nM hp hlt hbig hN h.bads,fun z=>absurd z (by decide),fun z=>absurd z (by decide),?_,fun z=>by omega⟩
  have:(2:Nat)^21<=2^(21*(bad+1+0)):=Nat.pow_le_pow_right (by decide) (by omega)
  exact_mod_cast Nat.le_trans hhi this
theorem WgI.join{P g told s told':List Int}{N M:Int}{prime p bad good:Nat}{ripe ripe':Bool}(h:WgI P g N told M prime ripe bad good)(hp:Om.cA p)(hlt:prime<p)(hbig:2^19<=p)(hhi:p<=2^21)(hs:Seen g N p s)(hl:s.length=told.length)
  (hl':told'.length=told.length) (ht:∀k,k<told.length->∃w:Int,(p:Int)∣M*w-(co s k-co told k)/\co told' k=nr (M*p) (co told k+M*w)) (hr:ripe'=true↔told'=told):
  ∃bad' good',bad'+good'=bad+good+1/\WgI P g N told' (M*p) p ripe' bad' good':=by
 have hp2:=hp.1
 have hM:=h.pos
 have hpM:¬(p:Int)∣M:=fun z=>by have:=h.div p hp z;omega
 have hpp:(2:Int)<=p:=by omega
 have hMp:(2:Int)<=M*p:=by
  have:1*(2:Int)<=M*p:=Int.mul_le_mul (by omega) hpp (by decide) (by omega)
  omega
 have hle:=h.le
 have hge:=h.ge
 have htp:=h.mon.pos
 have a1:∀k,M∣co told' k-co told k:=fun k=>by
  by_cases c:k<told.length
  ·obtain⟨w,_,e⟩:=ht k c
   rw[e]
   have e1:M∣nr (M*p) (co told k+M*w)-(co told k+M*w):=Int.dvd_trans (Int.dvd_mul_right M p) (wA _ _)
   have e2:M∣M*w:=Int.dvd_mul_right ..
   have:=Int.dvd_add e1 e2
   rwa [show nr (M * ↑p) (co told k+M*w)-(co told k+M*w)+M*w=nr (M * ↑p) (co told k+M*w)-co told k by omega]at this
  ·rw[bZ (by omega),bZ (by omega)];exact⟨0,by rw[Int.mul_zero];rfl⟩
 have a2:∀k,(p:Int)∣co told' k-co s k:=fun k=>by
  by_cases c:k<told.length
  ·obtain⟨w,h1,e⟩:=ht k c
   rw[e]
   have e1:(p:Int)∣nr (M*p) (co told k+M*w)-(co told k+M*w):=Int.dvd_trans (Int.dvd_mul_left M p) (wA _ _)
   have:=Int.dvd_add e1 h1
   rwa [show nr (M * ↑p) (co told k+M*w)-(co told k+M*w)+(M*w-(co s k-co told k))=nr (M * ↑p) (co told k+M*w)-co s k by omega]at this
  ·rw[bZ (by omega),bZ (by omega)];exact⟨0,by rw[Int.mul_zero];rfl⟩
 have hnear:M*p≠1->∀k,Nr (M*p) (co told' k):=fun _ k=>by
  by_cases c:k<told.length
  ·obtain⟨w,_,e⟩:=ht k c
   rw[e];exact u0 (by omega) _
  ·rw[bZ (by omega)];unfold Nr;omega
 have hlast:co told' (told'.length-1)=1:=by
  rw[hl']
  refine Nr.eq (M:=M*p) (by omega) (hnear (by omega) _) (by unfold Nr;omega) (sS hp hpM ?_ ?_)
  ·have:=a1 (told.length-1)
   rwa [h.mon.one]at this
  ·have:=a2 (told.length-1)
   have e:=hs.mon.one
   rw[hl]at e
   rwa [e]at this
 have hm:Mon told':=⟨by omega,hlast⟩
 have hdiv:∀q:Nat,Om.cA q->(q:Int)∣M*p->q<=p:=fun q hq hd=>by
  rcases lE hq hd with z|z
  ·have:=h.div q hq z;omega
  ·exact Nat.le_of_dvd (by omega) (Int.ofNat_dvd.mp z)
 have hcong:told'.length=g.length->∀k,M*p∣co told' k-co g k:=fun e k=>by
  refine sS hp hpM ?_ ?_
  ·have:=Int.dvd_add (a1 k) (h.cong (by omega) k)
   rwa [show co told' k-co told k+(co told k-co g k)=co told' k-co g k by omega]at this
  ·have:=Int.dvd_add (a2 k) (hs.eq (by omega) k)
   rwa [show co told' k-co s k+(co s k-co g k)=co told' k-co g k by omega]at this
 have hhi':∀x,x=bad+good+1->M*p<=2^(21*x):=fun x hx=>by
  rw[hx,show 21*(bad+good+1)=21*(bad+good)+21 by omega,Int.pow_add]
  exact Int.mul_le_mul h.hi (by exact_mod_cast hhi) (by omega) (Int.le_of_lt (Int.pow_pos (by decide)))
 by_cases c:s.length=g.length
 ·refine⟨bad,good+1,by omega,hm,by omega,by omega,by omega,hdiv,hcong,hnear,?_,fun _=>⟨by omega,?_⟩,fun h2 hb=>?_,hhi' _ (by omega),fun z=>by omega⟩
  ·obtain⟨X,h1,h2,h3⟩:=h.bads
   exact⟨X,h1,h2,fun q hq hd=>by have:=h3 q hq hd;omega⟩
  ·rw[show 19*(good+1)=19*good+19 by omega,Int.pow_add]
   refine Int.mul_le_mul ?_ (by exact_mod_cast hbig) (by decide) (by omega)
   by_cases c0:good=0
   ·rw[c0];show(1:Int)<=M;omega
   ·exact(h.goods (by omega)).2
  ·rw[Nat.add_sub_cancel]at hb
   have hgo:=h.goods (by omega)
   have hM1:M≠1:=fun z=>by
    rw[z]at hgo
    have h3:=hgo.2
    have:(2:Int)^(19*1)<=2^(19*good):=by exact_mod_cast Nat.pow_le_pow_right (n:=2) (by decide) (show 19*1<=19*good by omega)
    have:(2:Int)^(19*1)=524288:=by decide
    omega
   have gn:∀k,Nr M (co g k):=fun k=>by
    have h3:=hb k
    have h4:=hgo.2
    have h5:((2*(co g k).natAbs:Nat):Int)<M:=Int.lt_of_lt_of_le (by exact_mod_cast h3) h4
    unfold Nr;omega
   have et:told=g:=jN hgo.1 fun k=>(h.near hM1 k).eq hM (gn k) (h.cong hgo.1 k)
   have gn':∀k,Nr (M*p) (co g k):=fun k=>by
    have h3:=gn k
    unfold Nr at h3⊢
    have:M*1<=M*p:=Int.mul_le_mul_of_nonneg_left (by omega) (by omega)
    omega
   have et':told'=g:=jN (by omega) fun k=>(hnear (by omega) k).eq (by omega) (gn' k) (hcong (by omega) k)
   exact⟨hr.mpr (by rw[et',et]),et'⟩
 ·have hN:(p:Int)∣N:=Classical.byContradiction fun z=>c (hs.good z)
  have hg0:good=0:=by
   by_cases c0:good=0
   ·exact c0
   ·have:=(h.goods (by omega)).1;omega
  subst hg0
  exact⟨bad+1,0,by omega,hm,by omega,by omega,by omega,hdiv,hcong,hnear,nM hp hlt hbig hN h.bads,fun z=>absurd z (by decide),fun z=>absurd z (by decide),hhi' _ (by omega),fun z=>by omega⟩
theorem WgI.few{P g told:List Int}{N M:Int}{prime bad good U V:Nat}{ripe:Bool}(h:WgI P g N told M prime ripe bad good)(hN:N≠0)(hV:Bd V N)(hU:∀k,Bd U (co g k))(hne:¬(ripe=true/\told=g)):19*(bad+good)<=V+U+38:=by
 obtain⟨X,h1,h2,_⟩:=h.bads
 have b1:19*bad<=V:=by
  have h3:=Nat.le_of_dvd (by omega) (oh.mp h1)
  have h4:2^(19*bad)<2^V:=Nat.lt_of_le_of_lt (Nat.le_trans h2 h3) hV
  have:=(Nat.pow_lt_pow_iff_right (by decide:1<2)).mp h4
  omega
 have b2:19*good<=U+38:=by
  by_cases c:2<=good
  ·by_cases d:∀k,2*(co g k).natAbs<2^(19*(good-1))
   ·exact absurd (h.ripes c d) hne
   ·obtain⟨k,hk⟩:=Classical.not_forall.mp d
    have h3:(co g k).natAbs<2^U:=hU k
    have h4:2^(19*(good-1))<2^(U+1):=by rw[Nat.pow_succ];omega
    have:=(Nat.pow_lt_pow_iff_right (by decide:1<2)).mp h4
    omega
  ·omega
 omega
end Pm
namespace Om
theorem pC{n:Nat}(h2:2<=n)(h:∀d,2<=d->d*d<=n->¬d∣n):cA n:=⟨h2,fun d hd=>by
 by_cases c1:d=1
 ·exact .inl c1
 by_cases c2:d=n
 ·exact .inr c2
 exfalso
 obtain⟨e,he⟩:=hd
 have d0:d≠0:=fun z=>by rw[z,Nat.zero_mul]at he;omega
 have e0:e≠0:=fun z=>by rw[z,Nat.mul_zero]at he;omega
 have e1:e≠1:=fun z=>by rw[z,Nat.mul_one]at he;omega
 by_cases c:d<=e
 ·exact h d (by omega) (by rw[he];exact Nat.mul_le_mul_left d c) ⟨e,he⟩
 ·exact h e (by omega) (by rw[he];exact Nat.mul_le_mul_right e (by omega)) ⟨d,by rw[he,Nat.mul_comm]⟩⟩
theorem Bq{n d:Nat}(h2:2<=d)(h:d*d<=n)(hd:d∣n):¬cA n:=fun hp=>by
 have:d*2<=d*d:=Nat.mul_le_mul_left d h2
 rcases hp.2 d hd with e|e<;>omega
noncomputable def PR:Nat:=43571519119201362812999826845982751305620981793717429470673603275936152927709399635933610669671466973821241878720715105717436485894379942430461626673440299163796924436746229228614460476842261843714753967609841797025310982960825865753598345091694825344721438391478216968398650913464229700972723456395252658036295111351718208197542229884535562911430701228833268752819967566938433518416018400115565501955319083147587583881953995536441781216694995306260888155507575210
theorem Jx:∀d,d<1100->2<=d->Nat.gcd d PR≠1:=by decide +kernel
theorem BH{n:Nat}(h2:2<=n)(hn:n<1210000)(h:Nat.gcd n PR=1):cA n:=pC h2 fun d hd hdd hdv=>by
 by_cases c:d<1100
 ·refine Jx d c hd ?_
  have:Nat.gcd d PR∣Nat.gcd n PR:=Nat.dvd_gcd (Nat.dvd_trans (Nat.gcd_dvd_left ..) hdv) (Nat.gcd_dvd_right ..)
  rw[h]at this
  exact Nat.dvd_one.mp this
 ·have:1100*1100<=d*d:=Nat.mul_le_mul (by omega) (by omega)
  omega
noncomputable def steps:List Nat:=[3,30,4,2,42,18,18,4,12,18,8,12,12,4,6,6,12,2,18,18,4,20,16,2,12,10,20,24,10,14,12,4,6,6,14,4,2,24,4,50,30,4,6,30,2,10,20,10,2,18,12,16,2,10,12,6,24,2,40,14,16,36,18,2,10,2,28,18,12,2,10,38,4,8,18,4,14,6,4,14,28,12,6,2,4,14,16,30,6,14,4,14,6,22,18,30,12,12,12,8,10,2,4,20,6,16,12,6,2,12,10,20,16,12,8,24,10,26,4,18,2,12,6,18,6,28,8,10,20,10,14,4,26,10,20,40,14,4,6,2,12,10,8,72,22,8,6,6,24,4,2,6,28,32,12,12,4,6,8,10,8,12,22,6,2,22,18,36,14,6,10,2,4,26,10,42,2,4,2,10,2,16,26,24,6,18,6,10,14,6,6,10,8,6,6,4,26,16,8,6,36,4,24,6,26,30,4,6,2,18,12,16,2,4,14,10,12,8,4,30,2,4,6,8,16,6,6,14,4,12,2,42,6,22,2,16,20,10,38,4,6,6,6,2,22,8,52,6,2,40,18,14,6,12,16,30,12,2,10,2,4,2,12,16,14,6,16,30,6,38,10,26,6,40,12,8,10,2,6,4,48,14,18,18,4,8,6,6,4,6,8,16,30,2,22,38,10,8,10,2,4,18,12,14,6,64,6,20,4,6,14,12,28,2,18,4,20,6,42,12,12,40,6,8,6,10,14,6,40,8,30,28,12,8,4,8,16,6,18,26,10,14,10,6,32,52,6,2,10,2,6,10,36,14,6,4,2,12,18,18,76,30,8,6,46,14,4,6,20,6,6,10,12,8,22,2,6,22,6,24,2,10,18,26,16,6,8,6,6,10,2,28,18,6,20,4,14,18,10,12,2,18,18,4,14,10,2,18,10,14,12,10,24,14,10,2,28,12,24,2,18,6,4,14,16,2,22,8,42,10,60,6,6,50,28,2,18,6,22,12,18,14,4,14,16,26,24,4,32,10,14,4,2,10,6,2,6,12,4,24,2,12,6,4,8,4,14,12,22,2,4,2,22,2,4,2,12,10,6,24,2,40,8,22,6,2,22,14,6,18,12,4,12,24,6,20,4,20,4,14,60,10,18,12,18,12,2,16,48,6,8,16,2,4,8,6,36,4,12,20,10,8,4,30,2,24,12,22,8,10,18,2,10,8,24,12,6,24,28,12,6,48,2,10,8,22,14,6,22,6,14,16,12,12,18,8,16,14,22,8,22,8,40,2,10,38,4,30,2,10,8,10,8,4,6,2,18,4,6,8,4,18,12,6,6,6,8,30,4,12,14,4,30,12,6,18,2,12,6,24,12,4,14,6,4,2,58,30,26,24,6,6,6,10,14,6,4,6,8,10,6,54,6,8,16,6,20,6,22,6,2,10,2,12,4,14,16,26,6,4,14,24,6,16,8,16,2,18,4,2,4,42,42,18,24,30,6,2,12,16,8,12,22,2,4,2,4,8,30,10,2,10,14,10,32,4,6,2,16,30,12,12,36,24,18,14,4,2,4,26,4,6,2,6,30,6,4,12,30,2,10,2,16,2,22,14,4,8,4,14,12,18,16,6,18,26,4,12,2,6,24,6,22,14,28,8,12,6,10,6,6,2,18,58,14,6,34,6,20,12,18,6,16,14,28,8,18,10,14,12,28,2,4,6,30,36,12,2,46,2,12,24,12,22,2,34,26,28,6,32,24,4,24,26,4,8,4,8,30,6,6,18,10,8,10,30,18,12,38,6,4,44,12,4,30,2,28,2,4,6,8,4,12,8,6,12,24,10,18,20,16,2,4,14,12,28,24,2,10,8,12,16,8,30,4,6,2,12,16,30,2,24,4,24,26,4,8,4,6,32,6,4,8,42,12,6,10,12,6,14,6,10,24,12,66,30,14,6,24,4,2,10,2,30,10,8,18,4,6,20,22,14,4,12,14,16,18,2,18,10,62,4,24,20,6,4,14,12,6,28,2,22,12,6,30,8,6,4,6,30,14,12,12,12,6,12,12,4,12,12,18,2,6,12,10,18,14,48,4,6,18,2,12,10,2,10,6,8,10,6,18,8,18,6,6,4,24,2,10,14,18,6,4,18,12,2,4,20,6,16,12,8,4,14,4,12,18,12,6,2,18,22,18,2,30,42,16,12,36,14,12,4,6,6,20,12,12,10,80,10,44,6,24,10,2,10,14,4,12,12,30,8,48,22,2,28,2,40,6,24,2,24,4,2,30,6,12,22,6,18,2,12,30,10,6,12,12,2,4,12,12,26,6,18,22,6,8,6,6,4,8,28,12,2,6,22,2,10,60,14,22,8,24,28,24,8,6,4,6,12,8,4,12,20,4,2,30,28,2,4,24,14,16,2,12,6,4,18,2,10,18,8,54,6,12,18,6,28,18,8,10,14,22,24,14,10,8,28,20,22,2,10,12,6,14,16,8,30,4,12,30,6,8,10,2,18,34,12,20,16,20,30,4,8,6,4,6,6,8,12,4,26,4,12,20,4,8,28,8,70,32,40,12,2,4,2,34,6,14,10,18,2,6,4,8,10,18,2,6,10,6,18,8,10,2,10,30,2,24,34,30,6,12,14,4,12,8,6,16,44,10,6,14,10,18,6,14,6,10,6,6,48,14,10,18,2,12,4,6,18,2,16,14,6,22,12,14,6,10,6,14,28,2,18,6,4,6,26,40,36,2,16,2,12,28,2,18,4,18,12,36,8,30,40,2,4,8,16,2,12,10,20,22,18,8,42,6,12,24,4,6,6,50,4,6,30,2,10,18,12,6,2,12,6,12,12,36,4,20,10,2,18,16,20,22,12,8,18,16,6,14,6,10,18,50,16,6,2,6,4,8,4,6,18,6,8,10,6,6,8,46,2,10,24,6,2,58,12,2,6,48,6,4,6,24,2,24,10,20,10,6,2,28,32,6,12,18,10,20,4,6,2,22,8,34,30,6,38,10,12,2,36,34,6,12,14,54,24,6,10,6,24,6,18,20,10,8,4,24,20,54,10,8,10,8,24,6,12,24,30,16,24,30,8,22,6,2,18,4,6,18,12,2,18,4,30,6,8,12,18,4,2,4,42,14,6,10,14,4,24,6,12,8,10,14,6,6,6,24,10,26,10,2,6,16,26,10,44,4,20,12,28,14,6,4,6,6,8,16,32,10,12,2,4,20,22,12,2,10,20,6,4,14,4,8,24,6,22,2,4,12,14,54,22,8,10,6,24,6,6,2,12,4,6,6,2,10,6,24,12,18,18,8,12,10,8,4,12,26,4,24,44,30,6,4,2,10,14,6,6,10,18,2,22,8,4,24,6,14,6,60,10,14,12,10,24,8,28,8,16,8,18,10,12,6,6,6,12,20,6,34,26,12,12,16,26,6,10,20,12,36,16,6,18,2,34,8,6,22,18,24,2,4,12,2,6,6,28,12,14,6,18,28,2,6,6,4,2,10,2,6,4,18,24,24,6,8,6,4,2,30,4,2,28,2,24,16,18,26,10,6,2,10,12,6,2,6,4,2,24,4,2,34,2,4,8,6,16,14,12,12,16,6,20,4,54,20,10,6,44,6,24,10,2,10,24,14,36,6,6,18,16,6,8,24,6,12,12,18,18,10,12,42,2,10,38,6,16,20,6,12,12,30,10,6,8,4,26,12,4,8,10,8,28,6,6,2,40,12,38,36,4,2,4,2,40,14,6,18,24,10,2,4,2,4,6,12,42,18,20,18,4,6,14,24,6,6,12,18,10,32,12,24,24,16,6,6,20,12,10,8,12,18,4,30,14,4,38,18,4,6,20,12,4,18,6,26,30,4,6,26,4,18,6,2,28,2,4,14,12,10,2,10,2,4,12,24,8,6,22,2,18,4,6,42,6,20,12,22,20,10,6,14,6,24,42,10,44,22,2,10,2,18,18,52,12,6,12,6,14,70,2,4,2,24,4,14,30,10,30,12,14,4,8,4,48,8,12,12,6,18,42,28,30,6,6,2,6,10,2,18,22,12,8,12,10,6,6,44,4,30,12,24,12,18,2,10,2,18,24,30,6,24,4,6,8,10,8,28,26,16,24,20,10,18,12,18,8,12,10,8,4,8,6,6,24,10,12,12,8,10,8,34,12,6,12,2,6,18,10,2,4,8,36,6,6,22,8,18,4,6,6,6,2,22,24,6,14,4,32,10,14,6,4,2,24,16,18,6,20,6,4,24,6,8,10,18,32,10,2,18,12,6,10,24,14,34,6,2,18,22,14,4,12,20,34,14,4,6,12,2,6,12,10,18,72,2,6,4,2,18,12,28,18,8,12,4,24,30,2,18,10,2,22,2,4,36,6,14,18,28,12,12,8,10,6,6,14,12,10,8,22,2,40,26,16,14,4,2,4,6,68,6,6,4,2,30,24,24,4,30,8,12,18,4,14,6,6,28,12,12,2,4,24,2,4,32,10,12,2,24,4,20,16,30,30,2,10,14,10,18,8,10,8,4,12,18,20,16,12,30,2,10,26,34,18,8,4,6,32,12,12,4,2,4,26,28,2,18,24,6,16,30,36,8,6,10,14,10,12,12,2,4,2,18,6,4,12,42,12,30,8,40,38,18,16,8,6,6,6,18,4,12,18,8,10,2,6,6,4,12,12,8,40,2,10,6,6,8,10,12,20,10,30,6,8,10,2,4,56,4,18,26,34,2,6,30,48,4,8,10,2,16,20,30,16,6,12,2,54,10,2,12,12,4,26,6,28,6,30,20,10,36,2,12,4,12,12,18,2,12,10,14,66,6,4,26,12,6,10,12,12,8,10,38,4,12,14,12,18,16,8,6,4,8,10,2,22,20,4,2,24,34,6,8,6,12,18,4,6,6,14,16,6,8,6,10,8,16,26,4,6,36,8,34,20,6,10,36,20,4,12,2,18,22,2,24,22,8,6,10,14,16,6,30,2,6,4,2,6,10,12,6,2,22,20,10,32,4,24,20,12,6,22,6,44,6,10,42,8,4,8,42,6,12,10,2,10,42,18,18,8,6,28,12,36,18,2,4,38,22,20,16,2,10,8,4,24,6,8,10,6,6,8,16,20,6,16,30,14,16,2,6,30,6,10,44,6,4,24,36,2,18,4,20,28,42,36,12,2,10,8,10,14,24,10,42,12,2,10,8,16,14,16,2,4,6,18,14,10,2,16,12,32,16,14,6,4,36,8,30,10,12,2,10,12,6,2,48,4,18,6,32,42,12,58,18,8,40,2,18,4,36,24,20,40,2,18,10,12,26,28,12,8,12,10,12,6,2,24,4,14,6,10,12,14,24,6,4,24,6,12,2,16,14,30,12,18,6,6,4,26,6,30,4,14,4,8,12,6,12,12,12,30,6,4,30,6,2,6,4,2,28,6,14,42,6,10,2,40,6,20,6,4,20,4,2,6,10,20,28,12,32,10,8,34,48,2,16,8,6,6,4,24,2,4,6,14,6,12,6,6,28,2,4,14,10,6,6,6,20,4,6,8,10,20,4,18,8,34,2,28,30,2,4,12,8,6,48,10,8,18,6,6,4,8,6,22,12,2,24,60,24,36,16,6,18,2,40,2,30,18,4,24,20,4,6,6,14,10,12,2,12,4,2,10,2,30,28,8,6,16,14,4,2,22,6,32,24,18,16,2,10,2,12,10,36,18,14,10,6,2,18,22,12,2,6,48,22,2,36,4,12,8,18,18,6,4,12,8,4,2,4,12,24,38,10,2,6,24,6,4,14,12,24,18,16,30,24,32,24,4,6,14,30,6,10,6,14,24,12,10,18,2,18,18,4,20,6,4,14,22,2,16,2,4,6,20,28,6,14,16,8,10,18,8,6,18,6,4,8,10,48,26,10,18,2,18,10,38,40,24,24,32,4,6,14,4,24,2,24,12,28,2,4,20,16,8,4,8,24,10,20,30,10,6,18,2,4,8,6,4,20,6,10,12,8,4,8,10,2,12,4,2,22,20,48,12,22,6,14,18,6,24,18,34,6,12,18,12,6,2,12,48,18,4,6,2,10,18,6,6,30,2,22,20,4,6,30,8,22,8,6,22,12,2,48,12,6,22,6,2,34,6,8,6,70,20,16,12,12,20,4,6,14,10,2,10,8,54,10,26,4,6,24,8,10,8,6,34,20,6,4,26,18,16,26,4,20,4,2,58,6,6,6,8,24,10,18,12,26,16,6,14,10,14,12,12,16,6,20,18,16,2,10,12,2,4,26,4,42,8,16,14,30,12,4,6,2,16,24,2,6,4,6,38,4,8,10,8,46,8,18,12,28,14,24,10,6,20,6,10,24,26,10,2,16,2,4,6,8,6,28,18,2,16,14,6,4,26,40,6,8,12,4,6,48,32,24,4,12,48,6,14,12,4,2,4,24,2,12,28,2,16,12,14,16,18,42,20,30,10,18,14,6,16,6,2,36,34,6,2,34,6,8,4,32,4,20,6,10,50,4,24,20,6,10,14,52,30,6,20,10,18,6,14,54,6,4,20,10,12,6,30,20,22,8,22,6,2,10,2,18,4,8,12,6,22,12,6,2,6,16,6,2,12,16,8,84,16,12,14,18,10,6,20,4,8,28,2,34,6,14,18,10,32,16,2,16,32,22,6,2,12,46,14,16,2,22,6,2,4,14,6,4,6,8,6,6,24,4,12,8,10,8,30,10,8,4,8,22,8,52,36,6,8,18,10,2,6,10,12,2,12,4,2,34,18,2,16,2,12,16,12,2,6,18,4,6,12,14,6,24,48,6,22,2,10,36,14,6,12,24,6,4,8,6,6,34,2,24,10,18,2,28,30,6,20,22,8,6,30,6,12,12,4,6,6,20,4,14,12,30,12,22,8,10,20,18,4,38,6,4,8,4,6,12,2,10,8,42,4,6,18,30,2,16,8,4,2,36,22,2,24,12,4,8,18,28,12,12,18,18,32,4,6,42,6,6,14,10,2,10,12,2,48,6,6,10,6,24,26,22,18,20,10,8,12,12,36,4,2,28,18,12,36,14,12,24,36,6,22,2,4,14,36,6,4,6,8,10,8,4,8,58,12,2,6,12,12,28,18,8,24,52,14,12,10,12,12,8,10,12,14,30,4,2,4,2,18,22,18,6,20,18,22,20,4,6,6,2,6,6,58,6,2,4,6,8,12,4,24,2,22,2,6,22,18,12,38,4,18,12,26,12,6,36,6,10,12,6,12,2,6,6,16,8,10,20,10,14,12,4,2,10,44,4,6,14,4,12,8,6,12,28,6,8,6,22,30,8,12,30,10,14,4,26,6,10,24,36,8,30,6,4,2,10,2,10,6,12,2,28,2,22,6,8,4,8,18,12,4,38,10,30,26,6,10,8,6,16,18,2,18,30,6,6,6,22,2,4,26,10,6,24,6,8,4,32,4,30,2,12,28,18,24,2,4,12,2,12,4,42,18,6,14,16,6,14,4,2,10,12,2,34,14,12,10,8,12,16,12,36,2,10,24,36,2,18,10,12,18,44,4,56,18,6,10,32,18,4,2,16,8,4,32,6,60,4,6,2,12,4,30,2,18,6,66,18,4,18,2,18,4,6,14,34,2,10,38,22,8,30,22,8,10,2,28,14,16,2,18,4,6,14,10,68,12,6,10,20,6,16,14,4,30,20,16,18,8,18,16,6,32,10,2,18,16,12,8,10,12,8,4,2,6,18,16,24,2,30,10,8,24,10,2,6,18,4,2,4,6,18,26,6,6,12,28,48,2,10,12,8,12,22,6,12,8,28,2,58,2,4,14,4,18,2,10,2,10,8,16,14,12,10,6,42,12,8,18,22,2,4,36,6,12,20,10,8,10,8,10,2,4,14,16,6,2,12,60,4,2,10,50,4,20,4,2,42,12,18,18,34,14,4,6,20,4,32,10,14,60,10,32,10,12,2,10,6,12,8,4,14,6,28,20,22,6,8,4,38,24,10,6,8,22,8,10,20,10,12,2,6,12,10,44,28,20,12,16,12,6,6,14,12,4,8,16,12,2,6,4,2,28,2,4,6,18,18,8,12,24,18,16,36,6,48,26,16,8,22,12,2,6,4,14,12,10,8,6,4,12,20,30,4,8,12,16,24,14,4,2,4,20,10,30,26,18,18,12,6,6,4,6,6,8,4,2,28,6,2,42,12,10,14,22,12,2,18,10,12,26,4,56,12,16,2,22,6,32,4,6,2,12,28,26,10,6,8,6,12,18,24,30,10,6,12,2,6,16,30,6,14,40,30,18,20,82,14,6,4,2,4,26,4,8,30,6,34,2,34,12,2,12,36,12,16,20,6,4,2,10,8,24,18,10,2,58,8,4,2,4,20,4,66,30,6,8,10,12,6,14,40,24,12,8,6,36,10,2,10,18,8,36,6,4,6,12,20,10,6,12,2,18,4,6,14,34,12,8,30,12,4,18,8,22,8,10,18,2,30,10,14,10,14,22,8,4,18,8,4,36,12,2,22,20,16,12,8,18,4,38,18,6,18,10,6,32,10,2,6,12,10,12,6,2,4,80,4,14,6,22,14,6,10,42,2,4,14,10,2,4,6,36,20,34,30,14,12,12,12,4,20,30,4,2,10,6,32,22,8,12,4,2,40,32,10,12,14,22,32,6,4,8,4,6,8,6,76,2,10,6,36,24,2,4,8,22,8,18,28,14,22,18,6,14,28,12,6,20,4,6,12,2,18,10,12,6,14,10,2,6,4,24,74,6,10,6,14,10,2,10,8,12,40,8,4,6,36,90,6,8,4,18,2,12,4,6,20,10,6,12,12,18,42,36,2,10,8,10,2,12,6,24,4,12,8,34,2,6,12,6,4,6,26,6,4,8,12,30,6,10,2,16,20,6,34,6,8,18,28,6,14,10,2,12,18,10,18,6,6,38,4,2,10,36,44,6,12,12,10,50,6,18,4,20,6,36,24,22,18,6,14,6,30,24,4,2,24,22,2,40,2,18,10,6,2,34,18,26,12,4,8,16,12,8,6,10,6,8,34,18,12,2,28,12,24,24,6,6,6,2,60,18,24,18,6,4,30,12,18,8,18,12,12,12,4,14,12,4,14,6,16,6,8,12,10,12,26,12,28,2,4,8,10,2,16,20,4,36,12,8,4,6,24,14,24,6,22,2,10,6,24,6,6,24,6,8,10,2,6,22,42,20,6,10,2,12,16,12,20,22,6,8,12,10,14,4,6,18,18,8,40,12,2,18,34,6,14,30,6,4,30,8,22,18,6,12,20,10,12,32,10,6,14,4,14,36,6,24,12,28,6,18,2,36,4,14,12,22,8,12,16,54,6,20,4,2,18,10,56,10,2,4,38,10,20,16,2,24,4,6,18,2,10,14,6,18,18,4,36,2,12,28,26,24,22,26,4,14,10,12,32,6,6,18,12,16,2,10,6,14,18,18,16,14,10,26,4,2,4,18,8,24,18,6,22,8,6,24,16,26,10,2,12,24,4,2,6,30,4,20,18,18,10,14,4,36,6,18,24,2,4,30,12,14,4,6,8,6,6,10,18,12,8,16,2,4,14,6,6,12,12,4,2,12,18,22,30,30,30,32,16,2,6,10,12,30,2,6,6,4,26,16,12,6,24,8,12,16,12,8,4,30,6,2,4,8,22,6,14,10,20,6,64,6,14,4,2,28,12,24,8,6,30,10,14,28,14,24,10,24,12,14,4,2,10,20,10,6,8,12,18,36,10,14,10,14,18,4,30,8,6,4,68,10,2,18,4,8,10,30,6,26,10,18,26,10,14,6,16,6,8,12,4,18,32,10,8,22,6,2,6,4,12,6,12,2,10,18,6,14,12,10,6,12,6,26,6,10,38,4,2,16,8,24,52,14,34,2,16,8,22,8,4,80,6,16,54,12,14,18,10,2,40,24,12,18,14,6,10,12,12,2,6,22,18,38,24,10,12,6,8,10,14,6,6,30,10,14,16,14,6,28,12,30,26,4,14,34,8,4,18,6,12,8,6,6,18,4,26,12,10,8,10,12,8,22,12,2,6,4,24,24,18,18,2,12,16,6,6,2,6,42,10,24,8,12,18,42,34,14,48,28,6,48,2,10,30,18,32,6,12,6,12,28,2,18,16,26,28,14,10,26,10,6,36,2,42,28,2,10,14,4,6,24,48,2,12,4,30,20,22,2,6,4,26,4,2,18,16,2,28,2,10,12,8,10,14,6,4,24,12,8,22,14,28,6,2,18,12,4,8,12,6,22,2,30,30,16,32,28,18,2,10,18,14,12,4,6,8,6,6,18,22,6,12,6,6,8,36,12,4,6,8,10,12,12,32,16,12,8,10,8,10,14,10,32,10,8,6,10,2,22,2,18,6,6,10,6,2,6,34,2,4,2,4,14,12,18,12,30,10,18,30,14,22,6,18,2,12,6,4,42,14,6,6,12,30,6,4,12,6,2,18,18,6,24,4,20,36,4,2,4,30,12,2,12,16,38,6,36,24,16,2,10,8,10,32,6,6,10,18,12,18,12,54,6,38,16,6,6,2,10,2,4,20,12,22,2,4,2,18,4,6,12,14,16,2,18,22,2,4,36,36,8,46,6,8,6,24,6,6,12,12,4,44,18,24,36,10,24,8,12,4,2,28,12,24,8,28,14,24,10,6,6,8,12,24,30,10,14,4,18,8,4,8,10,8,4,36,6,6,2,36,4,8,24,6,22,30,18,14,4,44,22,6,2,16,2,58,14,6,16,14,12,4,14,16,6,8,6,6,4,24,12,20,10,2,12,10,14,64,6,6,8,22,8,6,10,42,2,22,8,18,18,6,28,8,24,4,20,12,22,6,30,12,8,16,6,20,4,18,42,6,2,6,12,10,14,6,18,10,6,6,14,54,10,12,8,12,24,4,14,18,24,30,34,2,18,4,8,12,12,4,24,30,18,8,4,18,2,6,12,28,14,6,10,2,24,4,14,10,18,14,16,18,14,6,4,30,6,2,12,6,10,12,8,34,6,12,2,28,14,10,6,12,18,12,36,12,20,18,24,22,18,2,4,6,18,18,42,12,14,16,8,6,4,2,4,2,12,36,4,12,6,14,24,4,6,6,24,2,28,2,22,8,12,10,6,2,18,42,18,12,22,8,10,2,46,24,2,4,2,4,6,2,30,6,4,18,24,8,6,40,14,6,10,2,12,12,4,24,48,12,6,24,8,4,8,36,12,28,2,12,30,12,10,6,8,10,2,4,44,6,18,12,4,42,14,16,42,6,2,12,10,8,4,36,2,6,10,26,4,6,8,10,2,4,6,8,6,6,6,22,8,28,20,6,4,30,14,10,26,30,4,8,4,30,14,52,2,6,4,2,16,2,22,6,8,22,2,10,12,6,24,18,6,6,38,18,22,18,8,6,4,14,10,2,10,6,8,30,4,18,8,6,16,2,6,10,12,20,22,6,6,6,2,22,18,20,6,4,12,14,6,10,14,4,6,2,10,42,38,22,2,6,64,8,16,12,14,24,16,8,18,4,26,22,12,6,8,34,6,36,24,6,8,6,54,10,8,10,2,6,24,12,4,26,4,2,4,8,12,16,14,28,2,24,4,8,10,14,4,2,22,6,12,20,4,8,6,22,8,42,4,8,22,6,2,18,12,40,2,16,2,10,12,20,36,4,18,12,14,16,14,4,20,16,14,28,8,4,8,18,6,34,2,12,18,30,64,26,4,14,10,6,24,12,14,6,10,2,70,26,12,24,4,6,8,6,10,32,4,6,8,10,2,12,46,20,6,70,14,6,4,20,54,22,30,30,8,10,12,6,2,6,6,6,10,8,34,18,12,2,4,6,14,4,8,22,6,2,54,16,8,12,10,14,4,14,10,2,4,6,30,18,8,4,8,18,4,20,16,18,14,10,30,2,28,2,10,6,12,30,6,14,30,16,2,12,16,26,10,14,6,6,4,24,20,4,36,24,2,4,12,44,16,2,12,16,18,20,12,10,2,28,2,10,30,2,30,18,22,18,20,6,4,8,4,24,2,4,8,12,34,56,28,2,6,18,10,2,10,30,14,18,10,6,2,10,38,6,28,12,8,28,2,12,10,26,22,26,10,24,2,6,24,10,8,10,6,2,4,6,32,10,2,70,6,8,4,26,6,6,12,6,10,2,4,6,20,22,2,4,12,2,16,6,8,6,42,4,6,12,2,10,30,8,6,12,4,6,2,6,10,14,30,6,4,18,20,10,14,34,2,12,6,34,6,12,20,4,8,12,10,6,20,4,6,8,12,12,6,24,16,24,18,2,22,6,2,12,4,6,8,10,2,6,4,24,2,28,2,10,2,16,20,36,10,6,38,12,48,16,30,8,6,12,10,12,6,6,6,8,30,4,2,10,6,8,6,24,4,20,12,10,24,26,16,2,22,20,6,24,6,22,18,2,16,12,14,4,14,12,4,24,2,4,6,6,38,6,24,24,6,22,12,6,14,36,10,14,22,14,4,2,40,8,6,16,18,8,10,14,10,14,4,32,28,36,6,24,12,20,22,26,16,18,18,12,12,18,6,6,56,10,2,10,26,10,6,18,26,16,8,28,8,12,30,34,6,2,22,36,8,34,32,4,14,6,10,12,2,12,10,8,10,2,30,6,22,2,4,14,18,4,30,18,2,4,26,28,6,20,4,8,10,8,4,12,38,28,2,16,24,2,6,4,6,14,16,20,22,6,84,2,34,2,4,14,6,10,6,2,6,54,18,18,30,22,30,54,14,16,8,10,8,12,6,16,6,18,30,2,18,6,4,24,8,4,20,6,40,8,10,6,8,16,14,12,16,2,10,12,20,6,10,8,4,6,6,8,6,16,24,6,20,16,24,14,6,18,18,22,6,14,6,12,10,18,2,10,14,16,18,14,22,8,10,2,30,6,18,4,8,30,24,16,12,8,4,14,4,18,2,10,30,6,36,24,2,4,14,12,12,10,18,12,6,12,8,30,10,2,4,24,6,14,6,4,12,8,22,14,6,10,14,4,6,6,2,6,22,18,6,30,26,18,6,6,22,8,4,6,2,10,20,6,4,18,12,6,6,30,30,6,14,6,10,2,12,16,2,10,32,16,14,4,2,30,24,34,2,12,18,4,30,36,8,6,4,6,14,4,6,6,8,6,6,18,6,4,6,42,2,6,6,10,18,2,28,2,10,44,10,14,10,18,18,2,22,2,4,6,6,14,10,56,10,2,6,6,4,30,2,12,12,4,24,6,14,10,8,34,14,12,12,36,24,12,28,42,48,6,20,22,2,6,12,10,2,10,2,10,8,16,6,8,6,4,8,4,20,10,30,6,32,10,6,12,18,2,40,2,36,6,4,20,36,6,4,6,30,12,2,6,4,8,10,6,12,8,12,22,2,10,30,44,4,30,18,8,4,2,4,12,30,14,4,20,24,36,4,2,40,6,2,12,4,6,18,8,18,12,22,18,8,10,6,6,14,18,16,24,80,10,20,58,2,18,4,6,8,24,6,22,14,4,2]
noncomputable def Du:Nat->List Nat->Bool
 |_,[]=>true
 |c,d::r=>match decide (0<d)&&(decide (c+d<1210000)&&Nat.beq (Nat.gcd (c+d) PR) 1)with
  |true=>Du (c+d) r
  |false=>false
theorem Hh:Du 1000000 steps=true:=by decide +kernel
theorem CJ:steps.length=6000:=by decide +kernel
inductive Many:Nat->Nat->Prop
 |none (c:Nat):Many 0 c
 |more {k c q:Nat}:cA q->c<q->q<1210000->Many k q->Many (k+1) c
theorem Cy:∀(l:List Nat) (c:Nat),2<=c->Du c l=true->Many l.length c
 |[],c,_,_=> .none c
 |d::r,c,h2,h=>by
  rw[Du]at h
  split at h
  ·rename_i e
   obtain⟨e1,e2⟩:=Bool.and_eq_true_iff.mp e
   obtain⟨e2,e3⟩:=Bool.and_eq_true_iff.mp e2
   have h1:=of_decide_eq_true e1
   have h3:=of_decide_eq_true e2
   exact .more (BH (by omega) h3 (Nat.eq_of_beq_eq_true e3)) (by omega) h3 (Cy r (c+d) (by omega) h)
  ·exact absurd h (by decide)
theorem many:Many 6000 1000000:=by
 have:=Cy steps 1000000 (by decide) Hh
 rwa [CJ]at this
theorem Many.down{k c c':Nat}(h:Many k c)(hc:c'<=c):Many k c':=by
 cases h with
 |none=>exact .none _
 |more h1 h2 h3 h4=>exact .more h1 (by omega) h3 h4
theorem Many.next{k c:Nat}(h:Many (k+1) c):∃q,cA q/\c<q/\q<1210000/\∀p,p<=q->Many k p:=by
 cases h with
 |more h1 h2 h3 h4=>exact⟨_,h1,h2,h3,fun p hp=>h4.down hp⟩
theorem cA.oO{p:Nat}{a:Int}(h:cA p)(h0:0<a)(ha:a<(p:Int)):a^(p-1)%(p:Int)=1:=by
 obtain⟨n,rfl⟩:∃n:Nat,a=(n:Int):=⟨a.toNat,by omega⟩
 have:=h.Jd (a:=n) (by omega) (by omega)
 have e:((n^(p-1)%p:Nat):Int)=((1:Nat):Int):=by rw[this]
 rw[Int.natCast_emod,Int.natCast_pow]at e
 exact e
end Om
namespace Pm
open Rm
theorem Cr{P:Nat}(hP:Om.cA P){p:List Int}(hp:Py P p)(hn:p≠[]):rK P p (fH P p):=by
 have h2:=hP.1
 have hpos:0<p.length:=List.length_pos_iff.mpr hn
 have hP0:(P:Int)≠0:=by omega
 have tkP:∀n,tk (P:Int) n=n%(P:Int):=fun n=>dU hP0 n
 have l0:=oK hn hp.tr
 have l1:=hp.co (p.length-1)
 rw[tkP]at l1
 have r0:0<=co p (p.length-1):=by rw[<-l1];exact Int.emod_nonneg _ hP0
 have r1:co p (p.length-1)<(P:Int):=by rw[<-l1];exact Int.emod_lt_of_pos _ (by omega)
 generalize hl:co p (p.length-1)=a at l0 r0 r1
 have hinv:(a^(P-2)*a)%(P:Int)=1:=by
  rw[<-Int.pow_succ,show(P-2).succ=P-1 by omega]
  exact hP.oO (by omega) r1
 have e:∀k,co (fH P p) k=co p k*a^(P-2)%(P:Int):=fun k=>by
  rw[fH,oW (by simp),hl]
 have len:(fH P p).length=p.length:=by rw[fH,List.length_map]
 have top:co (fH P p) ((fH P p).length-1)=1:=by
  rw[len,e,hl,Int.mul_comm];exact hinv
 have hm:fH P p≠[]:=fun z=>by rw[z]at len;simp at len;omega
 refine⟨⟨fG hm (by rw[top];decide),fun x hx=>?_⟩,len,fun _=>⟨by omega,top⟩,⟨a^(P-2),fun k=>?_⟩,⟨a,fun k=>?_⟩⟩
 ·obtain⟨y,_,rfl⟩:=List.mem_map.mp hx
  rw[tkP];exact Int.emod_emod_of_dvd _ (Int.dvd_refl _)
 ·rw[e,tkP,tkP,Int.emod_emod_of_dvd _ (Int.dvd_refl _),Int.mul_comm]
 ·rw[e,tkP,tkP,Int.mul_emod a,Int.emod_emod_of_dvd _ (Int.dvd_refl _),<-Int.mul_emod,Int.mul_left_comm a,Int.mul_comm a,Int.mul_emod,hinv]
  rw[Int.mul_one,Int.emod_emod_of_dvd _ (Int.dvd_refl _)]
theorem GN{P:Nat}(hP:Om.cA P){one other:Int}(h0:0<other)(h:other<(P:Int)):(P:Int)∣other*(one*other^(P-2)%(P:Int))-one:=by
 have h2:=hP.1
 have hinv:(other^(P-2)*other)%(P:Int)=1:=by
  rw[<-Int.pow_succ,show(P-2).succ=P-1 by omega]
  exact hP.oO h0 h
 have h1:(1:Int)%(P:Int)=1:=Int.emod_eq_of_lt (by decide) (by omega)
 refine Int.dvd_of_emod_eq_zero (Int.emod_eq_emod_iff_emod_sub_eq_zero.mp ?_)
 rw[Int.mul_emod,Int.emod_emod_of_dvd _ (Int.dvd_refl _),<-Int.mul_emod,Int.mul_left_comm,Int.mul_comm other,Int.mul_emod,hinv,Int.mul_one,Int.emod_emod_of_dvd _ (Int.dvd_refl _)]
theorem IB{b f:Int}{s t:Nat}{l m:List Int}{u v:Nat}(hb:0<=b)(hb1:b<2097152)(hu:21<=u)(hf:Bd u f)(hl:∀k,Bd u (co l k))(hm:∀x∈m,Bd v x)(k:Nat):Bd (u+v+1) (lf b f s t l m k):=by
 unfold lf
 split
 ·refine uc hb ((Bd.of (n:=21) (by omega) (by omega)).mono (by omega)) ?_
  rw[Int.sub_eq_add_neg]
  refine Bd.add ((hl k).mono (by omega)) ?_
  have:=hf.mul (rA hm (k-s))
  unfold Bd at this⊢
  rw[Int.natAbs_neg];exact this
 ·exact(hl k).mono (by omega)
noncomputable def jw(M t:Int)(p:Nat)(s:Int):Int:=(tk p (s-t))*(tk p M)^(p-2)%(p:Int)
noncomputable def jn(M t:Int)(p:Nat)(s:Int):Int:=nr (M*p) (t+M*jw M t p s)
theorem Ow{M t s:Int}{p:Nat}(hp:Om.cA p)(hM:¬(p:Int)∣M):(p:Int)∣M*jw M t p s-(s-t):=by
 have h2:=hp.1
 have hp0:(p:Int)≠0:=by omega
 have r0:=Int.emod_nonneg M hp0
 have r1:=Int.emod_lt_of_pos M (show(0:Int)<p by omega)
 have rn:M%(p:Int)≠0:=fun z=>hM (Int.dvd_of_emod_eq_zero z)
 have h:=GN hp (one:=tk p (s-t)) (other:=M%(p:Int)) (by omega) r1
 unfold jw
 rw[dU hp0 M]
 generalize tk (p:Int) (s-t)*(M%(p:Int))^(p-2)%(p:Int)=w at h
 rw[dU hp0]at h
 have e1:(p:Int)∣M*w-M%(p:Int)*w:=by
  rw[<-Int.sub_mul]
  exact Int.dvd_trans (Int.dvd_self_sub_emod) (Int.dvd_mul_right ..)
 have e2:(p:Int)∣(s-t)%(p:Int)-(s-t):=by
  have:(p:Int)∣(s-t)-(s-t)%(p:Int):=Int.dvd_self_sub_emod
  have:=Int.dvd_neg.mpr this
  rwa [Int.neg_sub]at this
 have:=Int.dvd_add (Int.dvd_add e1 h) e2
 rwa [show M*w-M%(p:Int)*w+(M%(p:Int)*w-(s-t)%(p:Int))+((s-t)%(p:Int)-(s-t))=M*w-(s-t)by omega]at this
theorem D3{M t s:Int}{p:Nat}(hp:Om.cA p):0<=jw M t p s/\jw M t p s<p:=by
 have h2:=hp.1
 exact⟨Int.emod_nonneg _ (by omega),Int.emod_lt_of_pos _ (by omega)⟩
theorem Div.dv{b:Int}{P M q r:List Int}(h:Div b P M q r)(hM:Mon M):r=[]↔Dv b M (co P):=by
 constructor
 ·rintro rfl
  exact⟨co q,q.length,Fs.co q,fun k=>by rw[<-h.eq k,dF,Int.add_zero]⟩
 ·intro d
  have e:Dv b M (co r):=(d.sub (Dv.self (b:=b) (m:=M) (Fs.co q))).congr fun k=>by
   have e1:tk b (co P k + -cv (co q) (co M) k)=tk b ((cv (co q) (co M) k+co r k) + -cv (co q) (co M) k):=bf (h.eq k).symm rfl
   rw[show co P k-cv (co q) (co M) k=co P k + -cv (co q) (co M) k by omega,e1]
   exact congrArg (tk b) (by omega)
  have z:=e.short hM ((Fs.co r).mono (by have:=h.short;omega))
  rw[<-h.ry.tr]
  exact nA.mpr fun k=>by rw[<-h.ry.co k];exact z k
end Pm
namespace Pm
open Rm Dm
theorem xO{n:Nat}{x:Int}(h:Bd n x):Bd n (-x):=by unfold Bd at h ⊢;rw[Int.natAbs_neg];exact h
theorem sH{L:List Int}{a:Nat->Int}(hL:Mon L)(hK:Kp 0 L a)(hN:det (L.length-1) (hk a)≠0){u:Nat}(hu:∀n,n<=2*(L.length-1)->Bd u (a n))(k:Nat):Bd ((L.length-1)*(u+(L.length-1))+1) (co L k):=by
 have hp:=hL.pos
 by_cases c:k<L.length-1
 ·have e:=qH (n:=L.length-1) (hk a) (co L) c
  have e2:det (L.length-1) (gG (hk a) k fun i=>sm (L.length-1) fun j=>hk a i j*co L j)=det (L.length-1) (gG (hk a) k fun i=>-a (i+(L.length-1))):=cg fun i j _ _=>by
   unfold gG
   split
   ·have h:=hK i
    rw[bD]at h
    unfold ks at h
    obtain⟨l,hl⟩:∃l,L.length=l+1:=⟨L.length-1,by omega⟩
    have h1:=hL.one
    rw[hl,Nat.add_sub_cancel]at h1
    rw[hl,sm,h1,Int.one_mul]at h
    show sm (L.length-1) (fun j=>hk a i j*co L j)=-a (i+(L.length-1))
    rw[hl,Nat.add_sub_cancel,aC (g:=fun k=>co L k*a (i+k)) fun j _=>by rw[Int.mul_comm];rfl]
    omega
   ·rfl
  have b:Bd ((L.length-1)*(u+(L.length-1))+1) (co L k*det (L.length-1) (hk a)):=by
   rw[<-e,e2]
   refine uz fun i j hi hj=>?_
   unfold gG
   split
   ·exact xO (hu _ (by omega))
   ·exact hu _ (by omega)
  unfold Bd at b⊢
  rw[Int.natAbs_mul]at b
  refine Nat.lt_of_le_of_lt ?_ b
  have:1<=(det (L.length-1) (hk a)).natAbs:=by omega
  have:=Nat.mul_le_mul_left (co L k).natAbs this
  omega
 ·by_cases d:k=L.length-1
  ·rw[d,hL.one]
   exact(Bd.of (n:=1) (by decide) (by decide)).mono (by omega)
  ·rw[bZ (by omega)];exact Bd.zero _
end Pm
namespace Pm
open Rm Dm
theorem GK{f:Nat->Int}{n:Nat}(h:Fs f n):∃S:List Int,∀k,co S k=f k:=⟨ofF n f,fun k=>by
 rw[cF]
 by_cases c:k<n
 ·rw[if_pos c]
 ·rw[if_neg c,h k (by omega)]⟩
end Pm
namespace Pm
open Rm
noncomputable def ev(p:List Int)(x:Int):Int:=sm p.length fun k=>co p k*x^k
theorem jt{p:List Int}{n:Nat}(h:p.length<=n)(x:Int):sm n (fun k=>co p k*x^k)=ev p x:=
 fj h fun k h1 _=>by rw[bZ h1,Int.zero_mul]
theorem wY(x:Int):ev [] x=0:=rfl
theorem AW(c x:Int):ev [c] x=c:=by
 show 0+co [c] 0*x^0=c
 rw[cV,Int.pow_zero,Int.mul_one,Int.zero_add]
noncomputable abbrev lin(r:Int):List Int:=[0-r,1]
theorem Hz(r:Int):Mon (lin r):=⟨by show 0<2;decide,rfl⟩
theorem FP(f:Nat->Int)(r:Int):∀k,cv f (co (lin r)) k=(if k=0 then 0 else f (k-1))-r*f k:=fun k=>by
 rw[fK]
 cases k with
 |zero=>
  show 0+f 0*co (lin r) 0=_
  rw[if_pos rfl,cV,Int.zero_add,Int.mul_sub,Int.mul_zero,Int.mul_comm]
 |succ k=>
  rw[if_neg (Nat.succ_ne_zero _),Nat.add_sub_cancel]
  rw[sm,Nat.sub_self,sm,show k+1-k=1 by omega]
  rw[gq fun j hj=>by rw[bZ (p:=lin r) (show 2<=k+1-j by omega),Int.mul_zero]]
  rw[cV,gY,cV,Int.mul_one,Int.zero_add,Int.mul_sub,Int.mul_zero,Int.zero_sub,Int.mul_comm (f (k+1))]
  rfl
theorem wK(f:Nat->Int)(x:Int):∀n,sm (n+1) (fun k=>(if k=0 then 0 else f (k-1))*x^k)=x*sm n fun k=>f k*x^k:=fun n=>by
 rw[gC,if_pos rfl,Int.zero_mul,Int.zero_add,<-cB]
 refine aC fun k _=>?_
 rw[if_neg (Nat.succ_ne_zero _),Nat.add_sub_cancel,Int.pow_succ,Int.mul_comm (x^k) x,<-Int.mul_assoc,<-Int.mul_assoc,Int.mul_comm (f k) x]
theorem Div.ev{p q l:List Int}{r:Int}(h:Div 0 p (lin r) q l)(x:Int):Pm.ev p x=(x-r)*Pm.ev q x+Pm.ev l x:=by
 obtain⟨n,h1,h2,h3⟩:∃n,p.length<=n+1/\q.length<=n/\l.length<=n+1:=⟨p.length+q.length+l.length,by omega,by omega,by omega⟩
 rw[<-jt h1 x,<-jt h2 x,<-jt h3 x]
 have e:∀k,co p k=(if k=0 then 0 else co q (k-1))-r*co q k+co l k:=fun k=>by
  have:=h.eq k
  rw[bD,bD,FP]at this
  exact this.symm
 rw[aC (g:=fun k=>(if k=0 then 0 else co q (k-1))*x^k+(-r*(co q k*x^k)+co l k*x^k)) fun k _=>?_,d8,d8,wK,cB]
 ·have e2:sm (n+1) (fun k=>co q k*x^k)=sm n fun k=>co q k*x^k:=by
   rw[sm,bZ h2,Int.zero_mul,Int.add_zero]
  rw[e2,Int.sub_mul,Int.neg_mul]
  omega
 ·rw[e k,Int.add_mul,Int.sub_mul,Int.neg_mul,Int.mul_assoc]
  omega
theorem Div.root{p q l:List Int}{r:Int}(h:Div 0 p (lin r) q l):l=[]↔Pm.ev p r=0:=by
 have e:=h.ev r
 rw[Int.sub_self,Int.zero_mul,Int.zero_add]at e
 have hs:l.length<2:=h.short
 match l,hs,h.ry with
 |[],_,_=>exact⟨fun _=>by rw[e,wY],fun _=>rfl⟩
 |[c],_,hr=>
  rw[AW]at e
  constructor
  ·intro z;cases z
  ·intro z
   rw[e]at z
   exfalso
   have:=hr.tr
   rw[z]at this
   simp[trim]at this
end Pm
namespace Pm
open Rm
theorem Gv(a:Int)(p:List Int)(x:Int):ev (a::p) x=a+x*ev p x:=by
 rw[<-jt (p:=a::p) (n:=p.length+1) (Nat.le_refl _) x,gC,cV,Int.pow_zero,Int.mul_one,<-jt (p:=p) (Nat.le_refl _) x,<-cB]
 congr 1
 refine aC fun k _=>?_
 rw[gY,Int.pow_succ,Int.mul_comm (x^k) x,<-Int.mul_assoc,<-Int.mul_assoc,Int.mul_comm (co p k) x]
theorem KN(x:Int)(g:List Int):∀(L P:List Int),(∀k,co P k=cv (co L) (co g) k)->ev P x=ev L x*ev g x
 |[],P,h=>by
  rw[wY,Int.zero_mul]
  unfold ev
  exact gq fun k _=>by rw[h,eE (fun i _=> .inl (dF i)),Int.zero_mul]
 |a::L,P,h=>by
  obtain⟨Q,hQ⟩:∃Q:List Int,∀k,co Q k=cv (co L) (co g) k:=GK ((Fs.co L).cv (Fs.co g))
  have ih:=KN x g L Q hQ
  obtain⟨n,h1,h2,h3⟩:∃n,P.length<=n+1/\Q.length<=n/\g.length<=n+1:=⟨P.length+Q.length+g.length,by omega,by omega,by omega⟩
  have e:∀k,co P k=a*co g k+(if k=0 then 0 else co Q (k-1)):=fun k=>by
   rw[h,Ak]
   split
   ·rfl
   ·rw[hQ]
  rw[Gv,<-jt h1 x,aC (g:=fun k=>a*(co g k*x^k)+(if k=0 then 0 else co Q (k-1))*x^k) fun k _=>by rw[e k,Int.add_mul,Int.mul_assoc],d8,cB,wK,jt h3,jt h2,ih,Int.add_mul,Int.mul_assoc]
theorem BD(p:List Int)(r:Int):∃q l,Div 0 p (lin r) q l/\(∀k,co p k=(if k=0 then 0 else co q (k-1))-r*co q k+co l k)/\q.length<=p.length-1:=by
 obtain⟨q,l,h⟩:=wF (b:=0) (Hz r) (p:=p) fun k=>bD _
 have e:∀k,co p k=(if k=0 then 0 else co q (k-1))-r*co q k+co l k:=fun k=>by
  have:=h.eq k
  rw[bD,bD,FP]at this
  exact this.symm
 have hs:l.length<2:=h.short
 refine⟨q,l,h,e,?_⟩
 by_cases hq:q=[]
 ·rw[hq];exact Nat.zero_le _
 ·have h0:=oK hq h.qy.tr
  have hp:0<q.length:=List.length_pos_iff.mpr hq
  have h1:=e q.length
  rw[if_neg (by omega),bZ (p:=q) (Nat.le_refl _),Int.mul_zero,bZ (p:=l) (by omega),Int.sub_zero,Int.add_zero]at h1
  have:=tZ (p:=p) (k:=q.length) (by rw[h1];exact h0)
  omega
theorem wO:∀(m:Nat) (L:List Int),Mon L->L.length=m+1->∀xs:List Int,xs.Nodup->(∀x∈xs,ev L x=0)->xs.length<=m
 |_,_,_,_,[],_,_=>Nat.zero_le _
 |0,L,hL,hl,r::ys,_,hr=>by
  exfalso
  have e:L=[1]:=jN (q:=[1]) hl fun k=>by
   cases k with
   |zero=>have:=hL.one;rw[hl]at this;exact this
   |succ k=>rw[bZ (by omega),bZ (by show 1<=k+1;omega)]
  have:=hr r (List.mem_cons_self ..)
  rw[e,AW]at this
  exact absurd this (by decide)
 |m+1,L,hL,hl,r::ys,hn,hr=>by
  obtain⟨q,l,h,e,lq⟩:=BD L r
  have h0:=hr r (List.mem_cons_self ..)
  have l0:=h.root.mpr h0
  subst l0
  have hm:co q m=1:=by
   have h1:=e (m+1)
   rw[if_neg (by omega),Nat.add_sub_cancel,bZ (p:=q) (show q.length<=m+1 by omega),Int.mul_zero,dF,Int.sub_zero,Int.add_zero]at h1
   have h2:=hL.one
   rw[hl,Nat.add_sub_cancel,h1]at h2
   exact h2
  have hlq:q.length=m+1:=by
   have:=tZ (p:=q) (k:=m) (by rw[hm];decide)
   omega
  obtain⟨hn1,hn2⟩:=List.nodup_cons.mp hn
  have:=wO m q ⟨by omega,by rw[hlq,Nat.add_sub_cancel];exact hm⟩ hlq ys hn2 fun y hy=>by
   have h1:=h.ev y
   rw[hr y (List.mem_cons_of_mem _ hy),wY,Int.add_zero]at h1
   rcases Int.mul_eq_zero.mp h1.symm with z|z
   ·exact absurd (show y=r by omega) (fun z=>hn1 (z▸hy))
   ·exact z
  rw[List.length_cons];omega
theorem Ao{M:Nat}{x y:Int}(hx:x≠0)(h:Bd M (x*y)):Bd M y:=by
 unfold Bd at h⊢
 rw[Int.natAbs_mul]at h
 have h1:1<=x.natAbs:=by omega
 have:1*y.natAbs<=x.natAbs*y.natAbs:=Nat.mul_le_mul_right _ h1
 omega
theorem uL{e:Nat}:∀(d:Nat) (g:List Int) (M:Nat),g.length<=d->∀xs:List Int,xs.Nodup->d<=xs.length->(∀x∈xs,Bd e x)->(∀x∈xs,Bd M (ev g x))->∀k,Bd (M+d*(e+3)) (co g k)
 |0,g,_,hl,_,_,_,_,_,k=>by rw[bZ (by omega)];exact Bd.zero _
 |d+1,_,_,_,[],_,hd,_,_,_=>absurd hd (by show ¬d+1<=0;omega)
 |d+1,g,M,hl,r::ys,hn,hd,hx,hv,k=>by
  obtain⟨q,l,h,eq,lq⟩:=BD g r
  obtain⟨hn1,hn2⟩:=List.nodup_cons.mp hn
  have hl2:l.length<2:=h.short
  have er:ev l r=ev g r:=by rw[h.ev r,Int.sub_self,Int.zero_mul,Int.zero_add]
  have el:∀x,ev l x=co l 0:=fun x=>by
   match l,hl2 with
   |[],_=>rw[wY,dF]
   |[c],_=>rw[AW,cV]
  have c0:co l 0=ev g r:=by rw[<-el r,er]
  have hr:=hv r (List.mem_cons_self ..)
  have ih:=uL (e:=e) d q (M+1) (by omega) ys hn2 (by rw[List.length_cons]at hd;omega) (fun x h=>hx x (List.mem_cons_of_mem _ h)) fun y hy=>by
   refine Ao (x:=y-r) (fun z=>hn1 ((show y=r by omega)▸hy)) ?_
   have h1:=h.ev y
   rw[el y,c0]at h1
   rw[show(y-r)*ev q y=ev g y + -(ev g r)by omega]
   exact(hv y (List.mem_cons_of_mem _ hy)).add (xO hr)
  have b1:Bd (e+(M+1+d*(e+3))) (if k=0 then 0 else co q (k-1)):=by
   split
   ·exact Bd.zero _
   ·exact(ih _).mono (by omega)
  have b2:=xO ((hx r (List.mem_cons_self ..)).mul (ih k))
  have b3:Bd (e+(M+1+d*(e+3))+1) (co l k):=by
   cases k with
   |zero=>rw[c0];exact hr.mono (by omega)
   |succ k=>rw[bZ (by omega)];exact Bd.zero _
  have b4:=(b1.add b2).add b3
  have e1:(d+1)*(e+3)=d*(e+3)+(e+3):=Nat.succ_mul ..
  rw[eq k,Int.sub_eq_add_neg]
  exact b4.mono (by omega)
theorem SY{P:List Int}{x:Int}{u e:Nat}(hu:∀k,Bd u (co P k))(hx:Bd e x):Bd (u+P.length*(e+1)+P.length) (ev P x):=by
 have hp:∀k,Bd (k*e+1) (x^k):=fun k=>by
  induction k with
  |zero=>rw[Int.pow_zero];exact(Bd.of (n:=1) (by decide) (by decide)).mono (by omega)
  |succ k ih=>
   have e1:(k+1)*e=k*e+e:=Nat.succ_mul ..
   rw[Int.pow_succ];exact(ih.mul hx).mono (by omega)
 unfold ev
 refine(Ef (c:=u+P.length*(e+1)) P.length fun k hk=>((hu k).mul (hp k)).mono ?_).mono (by omega)
 have h1:(k+1)*(e+1)<=P.length*(e+1):=Nat.mul_le_mul_right _ (by omega)
 have h2:(k+1)*(e+1)=k*(e+1)+(e+1):=Nat.succ_mul ..
 have h3:k*(e+1)=k*e+k:=Nat.mul_succ ..
 omega
theorem nO(p:Int->Bool):∀xs:List Int,xs.length=(xs.filter p).length+(xs.filter fun x=>!p x).length
 |[]=>rfl
 |x::xs=>by
  have:=nO p xs
  cases h:p x
  ·rw[List.filter_cons_of_neg (by rw[h];decide),List.filter_cons_of_pos (by rw[h];rfl),List.length_cons,List.length_cons];omega
  ·rw[List.filter_cons_of_pos h,List.filter_cons_of_neg (by rw[h];decide),List.length_cons,List.length_cons];omega
theorem Dw{P L g:List Int}(hL:Mon L)(he:∀k,co P k=cv (co L) (co g) k)(hl:L.length+g.length=P.length+1){u e:Nat}(hu:∀k,Bd u (co P k))(h2:P.length<=2^e)(k:Nat):Bd (u+P.length*(e+1)+P.length+g.length*(e+3)) (co g k):=by
 obtain⟨xs,hxs⟩:∃xs:List Int,xs=(List.range P.length).map Int.ofNat:=⟨_,rfl⟩
 have nd:xs.Nodup:=by
  rw[hxs]
  refine List.Pairwise.map _ (fun a b h=>?_) (List.nodup_range (n:=P.length))
  exact fun z=>h (Int.ofNat.inj z)
 have ln:xs.length=P.length:=by rw[hxs];simp
 have bx:∀x∈xs,Bd e x:=fun x hx=>by
  rw[hxs]at hx
  obtain⟨i,hi,rfl⟩:=List.mem_map.mp hx
  have:=List.mem_range.mp hi
  show(Int.ofNat i).natAbs<2^e
  show i<2^e
  omega
 have h0:(xs.filter fun x=>decide (ev L x=0)).length<=L.length-1:=by
  have:=hL.pos
  exact wO (L.length-1) L hL (by omega) _ (nd.filter _) fun x hx=>of_decide_eq_true (List.mem_filter.mp hx).2
 have hc:xs.length=(xs.filter fun x=>decide (ev L x=0)).length+(xs.filter fun x=>!decide (ev L x=0)).length:=nO _ xs
 have hp:=hL.pos
 refine uL g.length g _ (Nat.le_refl _) (xs.filter fun x=>!decide (ev L x=0)) (nd.filter _) (by omega) (fun x hx=>bx x (List.mem_filter.mp hx).1) (fun x hx=>?_) k
 have hne:ev L x≠0:=fun z=>by
  have:=(List.mem_filter.mp hx).2
  rw[decide_eq_true z]at this
  exact absurd this (by decide)
 refine Ao hne ?_
 rw[<-KN x g L P he]
 exact SY hu (bx x (List.mem_filter.mp hx).1)
theorem GX{P:List Int}{a:Nat->Int}(hP:Mon P)(hK:Kp 0 P a){d u ua e U:Nat}(hS:∃Q0,Mon Q0/\Kp 0 Q0 a/\Q0.length<=d+1)(ha:∀n,n<=2*d->Bd ua (a n))(hu:∀k,Bd u (co P k))(h2:P.length<=2^e)(hU:u+P.length*(e+1)+P.length+P.length*(e+3)<=U):
  ∃g L N,Mon L/\Py 0 L/\Kp 0 L a/\(∀q,Kp 0 q a->Dv 0 L (co q))/\L.length+g.length=P.length+1/\(∀k,co P k=cv (co L) (co g) k)/\GcZ P (tp P a) g N/\Bd (d*(ua+d)+1) N/\∀k,Bd U (co g k):=by
 obtain⟨g,L,hL,hLy,hKL,hall,hlen,hE,G⟩:=FJ hP hK
 obtain⟨Q0,hQ,hKQ,hQl⟩:=hS
 have hLp:=hL.pos
 have hl:L.length<=d+1:=Nat.le_trans ((hall Q0 hKQ).len rfl hL hQ) hQl
 have hm:(L.length-1)*(ua+(L.length-1))+1<=d*(ua+d)+1:=by
  have:=Nat.mul_le_mul (show L.length-1<=d by omega) (show ua+(L.length-1)<=ua+d by omega)
  omega
 refine⟨g,L,_,hL,hLy,hKL,hall,hlen,hE,G,?_,fun k=>?_⟩
 ·exact(Dm.uz (u:=ua) fun i j hi hj=>ha _ (by omega)).mono hm
 ·refine(Dw hL hE hlen hu h2 k).mono (Nat.le_trans ?_ hU)
  have:=Nat.mul_le_mul_right (e+3) (show g.length<=P.length by omega)
  omega
end Pm
namespace K34
open PySem L2
seal PA PE PS PSs PT PW PI PG PGs PO PIf
def top(i:Nat):Stmt:=PySem.Challenge.pw_nextbyrule_k34_numbers_put_ahead.main.body.getD i (.Pass ⟨0,0,0,0⟩)
noncomputable abbrev mU:Stmt:=top 11
noncomputable abbrev uV:Stmt:=top 12
noncomputable abbrev oM:Stmt:=top 13
noncomputable abbrev Cu:Stmt:=top 14
noncomputable abbrev nZ:Stmt:=top 17
noncomputable abbrev pH:Stmt:=top 18
noncomputable abbrev vB:Stmt:=top 19
noncomputable abbrev lU:Stmt:=top 20
noncomputable abbrev nK:Stmt:=top 21
noncomputable abbrev oJ:Stmt:=top 22
noncomputable abbrev iT:Stmt:=top 25
noncomputable abbrev oX:Stmt:=top 26
noncomputable abbrev jA:Stmt:=top 27
noncomputable abbrev pL:Stmt:=top 28
noncomputable abbrev qZ:Stmt:=top 29
noncomputable abbrev fU:Stmt:=top 30
noncomputable abbrev fL:Stmt:=top 31
noncomputable abbrev rz:Stmt:=top 33
noncomputable abbrev lX:Stmt:=top 34
noncomputable abbrev lQ:Stmt:=top 35
noncomputable abbrev jc:Stmt:=top 37
noncomputable abbrev lW:Stmt:=top 38
noncomputable abbrev j9:Stmt:=top 39
noncomputable abbrev lJ:Stmt:=top 41
noncomputable abbrev Ce:Stmt:=top 42
noncomputable abbrev jP:Stmt:=top 43
noncomputable abbrev rO:Stmt:=top 44
noncomputable abbrev jg:Stmt:=top 45
noncomputable abbrev iu:Stmt:=top 46
noncomputable abbrev jr:Stmt:=top 47
noncomputable abbrev pI:Stmt:=top 48
noncomputable abbrev vD:Stmt:=top 49
noncomputable abbrev mz:Stmt:=top 50
noncomputable abbrev n8:Stmt:=top 51
noncomputable abbrev oE:Stmt:=top 52
noncomputable abbrev qW:Stmt:=top 53
noncomputable abbrev sE:Stmt:=top 54
noncomputable abbrev uW:Stmt:=top 55
theorem jT:aZ ["number","divisor"] ["number"] (aj mU):=⟨rfl,rfl,rfl,by decide +kernel,rfl,by decide +kernel,by decide +kernel⟩
theorem Dt:aZ ["by","number"] ["by","number"] (aj uV):=⟨rfl,rfl,rfl,by decide +kernel,rfl,by decide +kernel,by decide +kernel⟩
theorem eN:aZ ["prime","number","power","square","left"] ["prime","number"] (aj oM):=⟨rfl,rfl,rfl,by decide +kernel,rfl,by decide +kernel,by decide +kernel⟩
theorem Gx:aZ ["by","one","other"] ["by","one","other"] (aj Cu):=⟨rfl,rfl,rfl,by decide +kernel,rfl,by decide +kernel,by decide +kernel⟩
theorem mQ:aZ ["numbers","end"] ["numbers"] (aj nZ):=⟨rfl,rfl,rfl,by decide +kernel,rfl,by decide +kernel,by decide +kernel⟩
theorem eX:aZ ["by","one","other","top","often","left","shift","factor","k"] ["by","one","other"] (aj pH):=⟨rfl,rfl,rfl,by decide +kernel,rfl,by decide +kernel,by decide +kernel⟩
theorem xV:aZ ["prime","poly","last"] ["prime","poly"] (aj vB):=⟨rfl,rfl,rfl,by decide +kernel,rfl,by decide +kernel,by decide +kernel⟩
theorem eV:aZ ["by","one","other","great","small","left"] ["by","one","other"] (aj lU):=⟨rfl,rfl,rfl,by decide +kernel,rfl,by decide +kernel,by decide +kernel⟩
theorem mY:aZ ["by","rule","length","numbers"] ["by","rule"] (aj nK):=⟨rfl,rfl,rfl,by decide +kernel,rfl,by decide +kernel,by decide +kernel⟩
theorem qG:aZ ["by","poly","length"] ["by","poly"] (aj oJ):=⟨rfl,rfl,rfl,by decide +kernel,rfl,by decide +kernel,by decide +kernel⟩
theorem gW:aZ ["number","found"] ["number"] (aj iT):=⟨rfl,rfl,rfl,by decide +kernel,rfl,by decide +kernel,by decide +kernel⟩
theorem yH:aZ ["monic_one","poly"] ["monic_one","poly"] (aj oX):=⟨rfl,rfl,rfl,by decide +kernel,rfl,by decide +kernel,by decide +kernel⟩
theorem rT:aZ ["prime","poly"] ["prime","poly"] (aj jA):=⟨rfl,rfl,rfl,by decide +kernel,rfl,by decide +kernel,by decide +kernel⟩
theorem qM:aZ ["modulus","number","rest"] ["modulus","number"] (aj pL):=⟨rfl,rfl,rfl,by decide +kernel,rfl,by decide +kernel,by decide +kernel⟩
theorem uw:aZ ["modulus","number","prime","rest","more"] ["modulus","number","prime","rest"] (aj qZ):=⟨rfl,rfl,rfl,by decide +kernel,rfl,by decide +kernel,by decide +kernel⟩
theorem aW:aZ ["one","other","told","modulus","prime","ripe","seen","before"] ["one","other"] (aj fU):=⟨rfl,rfl,rfl,by decide +kernel,rfl,by decide +kernel,by decide +kernel⟩
theorem mV:aZ ["by","one","other"] ["by","one","other"] (aj fL):=⟨rfl,rfl,rfl,by decide +kernel,rfl,by decide +kernel,by decide +kernel⟩
theorem iI:aZ ["row","poly","by","starts","top","k","parts"] ["row","poly"] (aj rz):=⟨rfl,rfl,rfl,by decide +kernel,rfl,by decide +kernel,by decide +kernel⟩
theorem jh:aZ ["row","by","poly","top"] ["row"] (aj lX):=⟨rfl,rfl,rfl,by decide +kernel,rfl,by decide +kernel,by decide +kernel⟩
theorem j7:aZ ["row","least","rule"] ["row"] (aj lQ):=⟨rfl,rfl,rfl,by decide +kernel,rfl,by decide +kernel,by decide +kernel⟩
theorem pW:aZ ["length"] ["length"] (aj jc):=⟨rfl,rfl,rfl,by decide +kernel,rfl,by decide +kernel,by decide +kernel⟩
theorem j8:aZ ["by","rule","starts","rule_taken","starts_taken"] ["by","rule","starts"] (aj lW):=⟨rfl,rfl,rfl,by decide +kernel,rfl,by decide +kernel,by decide +kernel⟩
theorem jk:aZ ["row","numbers","least","rule"] ["row","numbers"] (aj j9):=⟨rfl,rfl,rfl,by decide +kernel,rfl,by decide +kernel,by decide +kernel⟩
theorem vo:aZ ["_law_script","_law_k"] ["_law_script","_law_k"] (aj lJ):=⟨rfl,rfl,rfl,by decide +kernel,rfl,by decide +kernel,by decide +kernel⟩
theorem vh:aZ ["_law_cell","_law_k","_law_number"] ["_law_cell","_law_k"] (aj Ce):=⟨rfl,rfl,rfl,by decide +kernel,rfl,by decide +kernel,by decide +kernel⟩
theorem tY:aZ ["_law_cell"] ["_law_cell"] (aj jP):=⟨rfl,rfl,rfl,by decide +kernel,rfl,by decide +kernel,by decide +kernel⟩
theorem CK:aZ ["_law_by","_law_number"] ["_law_by","_law_number"] (aj rO):=⟨rfl,rfl,rfl,by decide +kernel,rfl,by decide +kernel,by decide +kernel⟩
theorem fD:aZ ["_law_by","_law_cell","_law_k","_law_far","_law_small"] ["_law_by","_law_cell","_law_k"] (aj jg):=⟨rfl,rfl,rfl,by decide +kernel,rfl,by decide +kernel,by decide +kernel⟩
theorem cG:aZ ["_law_row","_law_number","_law_by","_law_rule","_law_starts","_law_some","_law_longer","_law_k"] ["_law_row","_law_number"] (aj iu):=⟨rfl,rfl,rfl,by decide +kernel,rfl,by decide +kernel,by decide +kernel⟩
theorem cM:aZ ["_law_script","_law_start","_law_by","_law_most","_law_cell","_law_size","_law_mine","_law_rule","_law_k","_law_row"] ["_law_script","_law_start","_law_by","_law_most"] (aj jr):=⟨rfl,rfl,rfl,by decide +kernel,rfl,by decide +kernel,by decide +kernel⟩
theorem f9:aZ ["_law_row","_law_count","_law_by","_law_rule","_law_starts","_law_found","_law_total"] ["_law_row","_law_count"] (aj pI):=⟨rfl,rfl,rfl,by decide +kernel,rfl,by decide +kernel,by decide +kernel⟩
theorem dI:aZ ["_law_by","_law_size","_law_some","_law_table","_law_done","_law_last","_law_column","_law_at","_law_k","_law_head","_law_row","_law_more"] ["_law_by","_law_size","_law_some"] (aj vD):=⟨rfl,rfl,rfl,by decide +kernel,rfl,by decide +kernel,by decide +kernel⟩
theorem vY:aZ ["_law_by","_law_number","_law_last"] ["_law_by","_law_number","_law_last"] (aj mz):=⟨rfl,rfl,rfl,by decide +kernel,rfl,by decide +kernel,by decide +kernel⟩
theorem yU:aZ ["_law_row"] ["_law_row"] (aj n8):=⟨rfl,rfl,rfl,by decide +kernel,rfl,by decide +kernel,by decide +kernel⟩
theorem qL:aZ ["_law_found","_law_by","_law_number"] ["_law_found","_law_by"] (aj oE):=⟨rfl,rfl,rfl,by decide +kernel,rfl,by decide +kernel,by decide +kernel⟩
theorem tU:aZ ["_law_found","_law_by","_law_most","_law_some","_law_size"] ["_law_found","_law_by","_law_most","_law_some"] (aj qW):=⟨rfl,rfl,rfl,by decide +kernel,rfl,by decide +kernel,by decide +kernel⟩
theorem jl:aZ ["_law_told","_law_kept","_law_found","e"] ["_law_told"] (aj sE):=⟨rfl,rfl,rfl,by decide +kernel,rfl,by decide +kernel,by decide +kernel⟩
theorem iC:aZ ["_law_script","_law_by","_law_row","_law_cell","_law_many","_law_numbers","_law_whole","_law_most","_law_handed","_law_found"] ["_law_script"] (aj uW):=⟨rfl,rfl,rfl,by decide +kernel,rfl,by decide +kernel,by decide +kernel⟩
noncomputable abbrev Al:Scope:={ kind:= .function,names:=[(".0",.local),("number",.local),("over",.globalImplicit),("last",.cell),("prime",.cell)],isGenerator:=false,isCoroutine:=false }
noncomputable abbrev vL:Scope:={ kind:= .function,names:=[(".0",.local),("k",.local),("taken",.globalImplicit),("by",.cell),("length",.cell),("rule",.cell)],isGenerator:=false,isCoroutine:=false }
noncomputable abbrev vQ:Scope:={ kind:= .function,names:=[(".0",.local),("k",.local),("taken",.globalImplicit),("by",.cell),("length",.cell),("poly",.cell)],isGenerator:=false,isCoroutine:=false }
noncomputable abbrev qm:Scope:={ kind:= .function,names:=[(".0",.local),("number",.local),("taken",.globalImplicit),("prime",.cell)],isGenerator:=false,isCoroutine:=false }
noncomputable abbrev lD:Scope:={ kind:= .function,names:=[(".0",.local),("rest",.local),("nearest",.globalImplicit),("prime",.cell)],isGenerator:=false,isCoroutine:=false }
noncomputable abbrev kW:Scope:={ kind:= .function,names:=[(".0",.local),("k",.local),("joined",.globalImplicit),("before",.cell),("modulus",.cell),("prime",.cell),("seen",.cell)],isGenerator:=false,isCoroutine:=false }
noncomputable abbrev yh:Scope:={ kind:= .function,names:=[(".0",.local),("j",.local),("k",.cell),("poly",.cell),("starts",.cell)],isGenerator:=false,isCoroutine:=false }
noncomputable abbrev ux:Scope:={ kind:= .function,names:=[(".0",.local),("number",.local),("taken",.globalImplicit),("by",.cell)],isGenerator:=false,isCoroutine:=false }
noncomputable abbrev uJ:Scope:={ kind:= .function,names:=[(".0",.local),("number",.local),("taken",.globalImplicit),("by",.cell)],isGenerator:=false,isCoroutine:=false }
noncomputable abbrev m8:Scope:={ kind:= .function,names:=[(".0",.local),("_law_one",.local),("_law_taken",.globalImplicit),("_law_by",.cell)],isGenerator:=false,isCoroutine:=false }
noncomputable abbrev pQ:Scope:={ kind:= .function,names:=[(".0",.local),("_law_k",.local),("_law_one_number",.globalImplicit),("_law_by",.cell),("_law_mine",.cell)],isGenerator:=false,isCoroutine:=false }
noncomputable abbrev qb:Scope:={ kind:= .function,names:=[(".0",.local),("_law_k",.local),("_law_one_number",.globalImplicit),("_law_by",.cell),("_law_mine",.cell)],isGenerator:=false,isCoroutine:=false }
noncomputable abbrev wk:Scope:={ kind:= .function,names:=[(".0",.local),("_law_k",.local),("_law_found",.cell),("_law_rule",.cell)],isGenerator:=false,isCoroutine:=false }
noncomputable abbrev BF:Scope:={ kind:= .function,names:=[(".0",.local),("_law_j",.local),("_law_i",.cell),("_law_some",.cell)],isGenerator:=false,isCoroutine:=false }
noncomputable abbrev Br:Scope:={ kind:= .function,names:=[(".0",.local),("_law_i",.cell),("range",.globalImplicit),("_law_size",.cell),("_law_some",.cell)],isGenerator:=false,isCoroutine:=false }
noncomputable abbrev Av:Scope:={ kind:= .function,names:=[(".0",.local),("_law_k",.local),("_law_column",.cell),("_law_table",.cell)],isGenerator:=false,isCoroutine:=false }
noncomputable abbrev Bg:Scope:={ kind:= .function,names:=[(".0",.local),("_law_j",.local),("_law_column",.cell),("_law_head",.cell),("_law_row",.cell)],isGenerator:=false,isCoroutine:=false }
noncomputable abbrev Cm:Scope:={ kind:= .function,names:=[(".0",.local),("_law_one",.local),("_law_shorter",.globalImplicit),("_law_by",.cell),("_law_last",.cell)],isGenerator:=false,isCoroutine:=false }
noncomputable abbrev HZ:Scope:={ kind:= .function,names:=[(".0",.local),("_law_k",.local),("_law_one_number",.globalImplicit),("_law_by",.cell),("_law_cell",.cell)],isGenerator:=false,isCoroutine:=false }
structure Bt(mg:Str->Option Value):Prop where
 b_ValueError:mg "ValueError" = none
 b_bool:mg "bool" = none
 b_int:mg "int" = none
 b_isinstance:mg "isinstance" = none
 b_len:mg "len" = none
 b_list:mg "list" = none
 b_max:mg "max" = none
 b_range:mg "range" = none
 b_sum:mg "sum" = none
 b_tuple:mg "tuple" = none
 g_BELOW_THE_PRIMES:∃t,mg "BELOW_THE_PRIMES" = some (.int 1000000 t)
 g_LONGEST:∃t,mg "LONGEST" = some (.int 12 t)
structure Ms(K:PySem.W.Frag)(mg:Str->Option Value)(base:Heap)(bF aP aG aY aO aD aR aQ au:Addr):Prop where
 m_NoBy:mg "NoBy" = some (.ref bF)
 m_NoName:mg "NoName" = some (.ref aP)
 m_NoNumber:mg "NoNumber" = some (.ref aG)
 m_NoRow:mg "NoRow" = some (.ref aY)
 m_NoText:mg "NoText" = some (.ref aO)
 m_RuleError:mg "RuleError" = some (.ref aD)
 m_TooBig:mg "TooBig" = some (.ref aR)
 m_TooFar:mg "TooFar" = some (.ref aQ)
 m_TooLong:mg "TooLong" = some (.ref au)
 x_TooLong:ExC mg base "TooLong" au
 s_TooLong_RuleError:ExS base au aD
 i_TooLong:ExI K au
 k_TooLong_NoBy:PySem.W.kitOne K (.ref au) (.ref bF)=some false
 k_TooLong_NoName:PySem.W.kitOne K (.ref au) (.ref aP)=some false
 k_TooLong_NoNumber:PySem.W.kitOne K (.ref au) (.ref aG)=some false
 k_TooLong_NoRow:PySem.W.kitOne K (.ref au) (.ref aY)=some false
 k_TooLong_NoText:PySem.W.kitOne K (.ref au) (.ref aO)=some false
 k_TooLong_RuleError:PySem.W.kitOne K (.ref au) (.ref aD)=some true
 k_TooLong_TooBig:PySem.W.kitOne K (.ref au) (.ref aR)=some false
 k_TooLong_TooFar:PySem.W.kitOne K (.ref au) (.ref aQ)=some false
 k_TooLong_TooLong:PySem.W.kitOne K (.ref au) (.ref au)=some true
 k_TooLong_ValueError:PySem.W.kitOne K (.ref au) (.type "ValueError")=some true
noncomputable abbrev Tz:Nat:=16
theorem dN(a:Int){b:Int}(h:0<b):0<=a%b:=Int.emod_nonneg _ (by omega)
theorem dO(a:Int){b:Int}(h:0<b):a%b<b:=Int.emod_lt_of_pos _ h
theorem bB{ns:List Int}{k:Int}(h0:0<=k)(h1:k<(ns.length:Int)):atI (ns.map V.int) k=some (.int (ns.getD k.toNat 0)):=by
 have e:k=((k.toNat:Nat):Int):=by omega
 have hk:k.toNat<ns.length:=by omega
 conv=>lhs;rw[e]
 exact Dd (by rw[List.getElem?_map,List.getElem?_eq_getElem hk,List.getD_eq_getElem?_getD,List.getElem?_eq_getElem hk]<;>rfl)
theorem oH{α:Type}{xs:List α}{k:Int}{v:α}(j:Nat)(e:k=(j:Int))(h:xs[j]?=some v):atI xs k=some v:=by rw[e];exact Dd h
theorem dec_true{p:Prop}[Decidable p](c:decide p=true):p:=of_decide_eq_true c
theorem dec_false{p:Prop}[Decidable p](c:¬decide p=true):¬p:=of_decide_eq_false (Bool.eq_false_iff.mpr c)
noncomputable def gJ(b x:Int):Prop:=b=0∨(0<=x/\x<b)
structure Rw where
 b:Int
 rule:List Int
 starts:List Int
structure ni(r:Rw):Prop where
 len:r.rule.length=r.starts.length
 short:r.rule.length<=24
 by0:0<=r.b
 by1:r.b<1000
 ruleNum:∀x∈r.rule,gJ r.b x
 startsNum:∀x∈r.starts,gJ r.b x
 ruleBd:∀x∈r.rule,Rm.Bd 60000 x
 startsBd:∀x∈r.starts,Rm.Bd 3000 x
noncomputable def Rw.row(r:Rw)(n:Nat):List Int:=Rm.row r.b r.rule r.starts n
noncomputable def Rw.at(r:Rw)(n:Nat):Int:=Rm.at_ r.b r.rule r.starts n
theorem ni.bd{r:Rw}(h:ni r)(n:Nat)(hn:n<=1000):Rm.Bd 61000000 (r.at n):=by
 have q:=Rm.Bh (b:=r.b) (rule:=r.rule) (starts:=r.starts) (a:=60000) (c:=3000) h.len h.by0 ((Rm.Bd.of (n:=10) (by have:=h.by0;omega) (by have:=h.by1;omega)).mono (by decide)) h.ruleBd h.startsBd n
 refine q.mono ?_
 have h1:=h.short
 have h2:n*(60000+r.rule.length)<=1000*60024:=Nat.mul_le_mul hn (by omega)
 omega
theorem ni.GB{r:Rw}(h:ni r)(n:Nat)(hn:n<=1000):∀x∈r.row n,Rm.Bd 61000000 x:=by
 intro x hx
 have e:r.row n=(List.range n).map r.at:=Rm.BK ..
 rw[e]at hx
 obtain⟨i,hi,rfl⟩:=List.mem_map.mp hx
 exact h.bd i (by have:=List.mem_range.mp hi;omega)
theorem Rw.eZ(r:Rw)(n:Nat):(r.row n).length=n:=Rm.eZ ..
theorem vH{x y:Int}{m n:Nat}(h:Rm.Bd m x)(h':Rm.Bd n y)(hn:m+n<=134217728):IntMulOk x y:=
 IntMulOk.of_le (intBits_le_iff.mpr h) (intBits_le_iff.mpr h') hn
noncomputable def fQ(H:Hp)(v:V)(r:Rw):Prop:=
 ∃a p q,v = .ref a/\H a=some (.tup [.int r.b,.ref p,.ref q])/\H p=some (.tup (r.rule.map V.int))/\H q=some (.tup (r.starts.map V.int))
theorem fQ.same{H H':Hp}{v:V}{r:Rw}(h:fQ H v r)(g:Same H H'):fQ H' v r:=by
 obtain⟨a,p,q,e,h1,h2,h3⟩:=h
 exact⟨a,p,q,e,g _ _ h1,g _ _ h2,g _ _ h3⟩
theorem Ju(rule:List Int)(f:Nat->Int)(n:Nat):∀m:Nat,((List.range m).map fun k=>rule.getD k 0*f (n-1-k)).sum=Rm.S rule f n m
 |0=>rfl
 |m+1=>by
  rw[List.range_succ,List.map_append,List.sum_append,Ju rule f n m]
  simp[Rm.S]
theorem rF(xs:List Int)(x:Int):(xs++[x]).map V.int=xs.map V.int++[.int x]:=by rw[List.map_append];rfl
noncomputable def Told(H:Hp)(Q:VK)(xs:List V):Prop:=∀r H',Same H H'->H r=none->H' r=some (.lst xs)->Q (.ref r) H'
theorem tV(xs:List V)(k:Nat):uQ xs none (some (k:Int))=xs.take k:=by
 unfold uQ
 rw[HT.jo,HT.jG,List.drop_zero,Nat.sub_zero,List.take_eq_take_iff]
 omega
noncomputable def vq(H:Hp)(Q:VK)(ns:List Int):Prop:=∀p H',Same H H'->H' p=some (.tup (ns.map V.int))->Q (.ref p) H'
theorem tW{xs:List Int}{n:Nat}(h:0<n)(hn:n<=xs.length):xs.take n=xs.take (n-1)++[xs.getD (n-1) 0]:=by
 obtain⟨m,rfl⟩:∃m,n=m+1:=⟨n-1,by omega⟩
 rw[Nat.add_sub_cancel,List.take_add_one,List.getElem?_eq_getElem (by omega),List.getD_eq_getElem?_getD,List.getElem?_eq_getElem (by omega)]
 rfl
theorem C5{xs:List Int}{n:Nat}(h:0<n)(hn:n<=xs.length)(ht:Pm.trim (xs.take n)=Pm.trim xs)(h0:xs.getD (n-1) 0=0):Pm.trim (xs.take (n-1))=Pm.trim xs:=by
 rw[tW h hn,h0,Pm.uG]at ht
 exact ht
theorem uy{xs:List Int}{n:Nat}(hn:n<=xs.length)(ht:Pm.trim (xs.take n)=Pm.trim xs)(h0:n=0∨xs.getD (n-1) 0≠0):xs.take n=Pm.trim xs:=by
 rcases h0 with h0|h0
 ·subst h0;rw[<-ht];rfl
 ·by_cases hz:n=0
  ·subst hz;rw[<-ht];rfl
  ·rw[<-ht,tW (by omega) hn,Pm.oY _ h0]
theorem oU{n j:Nat}{i:Int}(e:i=(j:Int))(h:j<n):ixN n i=some j:=by
 subst e
 unfold ixN
 rw[if_pos (by omega),if_pos (by omega),Int.toNat_natCast]
theorem iR(L:List Int)(j:Nat)(x:Int):(L.map V.int).set j (.int x)=(L.set j x).map V.int:=by rw[List.map_set]
theorem fY(n:Nat):(List.replicate n [V.int 0]).flatten=(Pm.ofF n fun _=>0).map V.int:=by
 induction n with
 |zero=>rfl
 |succ n ih=>
  rw[Pm.wW,List.map_append,<-ih,List.replicate_succ',List.flatten_append]
  rfl
theorem jK{n:Nat}{ix:List (Option Nat)}{te:TE}{σ:St}{H1:Hp}{Q:VK}(hz:n<=1000){rest:St}(hst:cst ix σ=none::rest)(f:Nat->Int)
  (he:∀H' k,Same H1 H'->k<n->∀kk:VK,kk (.int (f k)) H'->te (some (.int (0+(k:Int)))::rest) H' kk)
  (hQ:∀D,H1 D=none->Q (.ref D) (upd H1 D (.lst ((Pm.ofF n f).map V.int)))):m9 ix (kE 0) Dh te σ Q (Itr 0 n) H1:=by
 refine iD jm (by rw[List.length_map,List.length_range];exact Nat.le_of_lt (bW hz)) hst (fun _=>true) (fun x=>match x with | .int k=> .int (f k.toNat)|_=> .non) ?_ ?_ ?_
 ·intro H2 x g2 hx k hk;exact hk
 ·intro H2 x g2 hx _ k hk
  obtain⟨j,hj,rfl⟩:=List.mem_map.mp hx
  have e1:(0+(j:Int)).toNat=j:=by omega
  refine he H2 j g2 (List.mem_range.mp hj) k ?_
  have hk':k (V.int (f (0+(j:Int)).toNat)) H2:=hk
  rwa [e1]at hk'
 ·intro D hD
  have el:((((List.range n).map fun i=>V.int (0+(i:Nat))).filter fun _=>true).map fun x=>match x with | .int k=>V.int (f k.toNat)|_=>V.non)=(Pm.ofF n f).map V.int:=by
   rw[List.filter_eq_self.mpr (by simp),List.map_map,Pm.ofF,List.map_map]
   refine List.map_congr_left fun k _=>?_
   show V.int (f (0+(k:Int)).toNat)=V.int (f k)
   rw[show(0+(k:Int)).toNat=k by omega]
  rw[el]
  exact hQ D hD
theorem rR{K:PySem.W.Frag}{a:Addr}{xs:List Int}{ix:List (Option Nat)}{te:TE}{σ:St}{H1:Hp}{Q:VK}(hA:H1 a=some (.tup (xs.map V.int)))(hz:xs.length<=1000){rest:St}(hst:cst ix σ=none::rest)(f:Int->Int)
  (he:∀H' x,Same H1 H'->x∈xs->∀kk:VK,kk (.int (f x)) H'->te (some (.int x)::rest) H' kk)
  (hQ:∀D,H1 D=none->Q (.ref D) (upd H1 D (.lst ((xs.map f).map V.int)))):m9 ix (kE 0) Dh te σ Q (Itt K a) H1:=by
 refine iD (sV (SqT.of hA)) (by rw[List.length_map];exact Nat.le_of_lt (bW hz)) hst (fun _=>true) (fun x=>match x with | .int k=> .int (f k)|_=> .non) ?_ ?_ ?_
 ·intro H2 x g2 hx k hk;exact hk
 ·intro H2 x g2 hx _ k hk
  obtain⟨y,hy,rfl⟩:=List.mem_map.mp hx
  exact he H2 y g2 hy k hk
 ·intro D hD
  have el:(((xs.map V.int).filter fun _=>true).map fun x=>match x with | .int k=>V.int (f k)|_=>V.non)=(xs.map f).map V.int:=by
   rw[List.filter_eq_self.mpr (by simp),List.map_map,List.map_map];rfl
  rw[el]
  exact hQ D hD
theorem wH{K:PySem.W.Frag}{a:Addr}{xs:List Int}{ix:List (Option Nat)}{te:TE}{σ:St}{H1:Hp}{Q:VK}(hA:H1 a=some (.lst (xs.map V.int)))(hz:xs.length<=1000){rest:St}(hst:cst ix σ=none::rest)(f:Int->Int)
  (he:∀H' x,Same H1 H'->x∈xs->∀kk:VK,kk (.int (f x)) H'->te (some (.int x)::rest) H' kk)
  (hQ:∀D,H1 D=none->Q (.ref D) (upd H1 D (.lst ((xs.map f).map V.int)))):m9 ix (kE 0) Dh te σ Q (Itl K a) H1:=by
 refine iD (xJ (SqL.of hA)) (by rw[List.length_map];exact Nat.le_of_lt (bW hz)) hst (fun _=>true) (fun x=>match x with | .int k=> .int (f k)|_=> .non) ?_ ?_ ?_
 ·intro H2 x g2 hx k hk;exact hk
 ·intro H2 x g2 hx _ k hk
  obtain⟨y,hy,rfl⟩:=List.mem_map.mp hx
  exact he H2 y g2 hy k hk
 ·intro D hD
  have el:(((xs.map V.int).filter fun _=>true).map fun x=>match x with | .int k=>V.int (f k)|_=>V.non)=(xs.map f).map V.int:=by
   rw[List.filter_eq_self.mpr (by simp),List.map_map,List.map_map];rfl
  rw[el]
  exact hQ D hD
theorem dz:∀P∈Om.gF,2<=P/\P<1000:=by decide +kernel
inductive Lns(H:Hp)(ex:List Addr):List V->List (List Int)->Prop
 |nil:Lns H ex [] []
 |cons {t:Addr} {p:List Int} {xs:List V} {ps:List (List Int)}:t∉ex->H t=some (.lst (p.map V.int))->Lns H ex xs ps->Lns H ex (.ref t::xs) (p::ps)
noncomputable def Keep(ll:Addr)(H H':Hp):Prop:=∀a u,a≠ll->H a=some u->H' a=some u
theorem Keep.upd(ll:Addr)(H:Hp)(o:HO):Keep ll H (L2.upd H ll o):=fun a u n e=>by rw[bU n];exact e
theorem Lns.keep{H H':Hp}{ll:Addr}{ex:List Addr}(hm:ll∈ex)(g:Keep ll H H'):∀{xs:List V} {ps:List (List Int)},Lns H ex xs ps->Lns H' ex xs ps
 |_,_,.nil=> .nil
 |_,_,.cons n h r=> .cons n (g _ _ (fun z=>n (z▸hm)) h) (Lns.keep hm g r)
theorem Lns.same{H H':Hp}{ex:List Addr}(g:Same H H'):∀{xs:List V} {ps:List (List Int)},Lns H ex xs ps->Lns H' ex xs ps
 |_,_,.nil=> .nil
 |_,_,.cons n h r=> .cons n (g _ _ h) (Lns.same g r)
theorem Lns.len{H:Hp}{ex:List Addr}:∀{xs:List V} {ps:List (List Int)},Lns H ex xs ps->xs.length=ps.length
 |_,_,.nil=>rfl
 |_,_,.cons _ _ r=>by rw[List.length_cons,List.length_cons,Lns.len r]
theorem Lns.get{H:Hp}{ex:List Addr}:∀{xs:List V} {ps:List (List Int)} {i:Nat},Lns H ex xs ps->i<ps.length->∃t,xs[i]?=some (.ref t)/\t∉ex/\H t=some (.lst ((Dm.ln ps i).map V.int))
 |_,_,_,.nil,h=>absurd h (Nat.not_lt_zero _)
 |_,_,0,.cons n h _,_=>⟨_,rfl,n,h⟩
 |_,_,i+1,.cons _ _ r,h=>Lns.get (i:=i) r (by simpa using h)
theorem Lns.set{H:Hp}{ex:List Addr}{t:Addr}{q:List Int}(hn:t∉ex)(hT:H t=some (.lst (q.map V.int))):∀{xs:List V} {ps:List (List Int)} (i:Nat),Lns H ex xs ps->Lns H ex (xs.set i (.ref t)) (ps.set i q)
 |_,_,_,.nil=> .nil
 |_,_,0,.cons _ _ r=> .cons hn hT r
 |_,_,i+1,.cons n h r=> .cons n h (Lns.set hn hT i r)
theorem Lns.append{H:Hp}{ex:List Addr}{t:Addr}{q:List Int}(hn:t∉ex)(hT:H t=some (.lst (q.map V.int))):∀{xs:List V} {ps:List (List Int)},Lns H ex xs ps->Lns H ex (xs++[.ref t]) (ps++[q])
 |_,_,.nil=> .cons hn hT .nil
 |_,_,.cons n h r=> .cons n h (Lns.append hn hT r)
theorem tG{L:List (List Int)}{i:Nat}(q:List Int)(hi:i<L.length)(k:Nat):Dm.ln (L.set i q) k=if k=i then q else Dm.ln L k:=by
 unfold Dm.ln
 rw[List.getD_eq_getElem?_getD,List.getElem?_set,List.getD_eq_getElem?_getD]
 by_cases e:i=k
 ·subst e;simp[hi]
 ·rw[if_neg e,if_neg (fun z=>e z.symm)]
noncomputable def ByP(b:Int):Prop:=b=0∨∃P:Nat,P∈Om.gF/\b=(P:Int)
theorem ByP.dom{b:Int}(h:ByP b):Dm.Dom b:=by
 rcases h with rfl|⟨P,hP,rfl⟩
 ·exact Dm.Dom.zero
 ·exact Dm.Dom.prime hP (dz P hP).1
theorem ByP.range{b:Int}(h:ByP b):0<=b/\b<1000/\b≠1:=by
 rcases h with rfl|⟨P,hP,rfl⟩
 ·decide
 ·have:=dz P hP;omega
theorem ByP.one{b:Int}(h:ByP b):Rm.tk b 1=1:=by
 rcases h with rfl|⟨P,hP,rfl⟩
 ·exact Rm.bD 1
 ·have:=dz P hP
  rw[Rm.dU (by omega)];exact Int.emod_eq_of_lt (by decide) (by omega)
inductive EG(vs:List V)(H:Hp)(Q:VK)(E:XK):Prop|mk (b n:Int) (z_0:vs=[.int b,.int n]) (z_1:0<=b) (z_2:Q (.int (Rm.tk b n)) H)
noncomputable def dG:Sp:=fun vs H Q E=>EG  vs H Q E
inductive AZ(vs:List V)(H:Hp)(Q:VK)(E:XK):Prop|mk (n:Nat) (z_0:vs=[.int n]) (z_1:n<2097152) (z_2:∀b:Bool,(b=true↔Om.cA n)->Q (.bl b) H)
noncomputable def xH:Sp:=fun vs H Q E=>AZ  vs H Q E
inductive DF(vs:List V)(H:Hp)(Q:VK)(E:XK):Prop|mk (n q:Nat) (z_0:vs=[.int n]) (z_1:Om.cA q) (z_2:n<q) (z_3:q<2097152) (z_4:∀p:Nat,Om.cA p->n<p->p<=q->Q (.int p) H)
noncomputable def CG:Sp:=fun vs H Q E=>DF  vs H Q E
inductive vX(vs:List V)(H:Hp)(Q:VK)(E:XK):Prop|mk (P:Nat) (a:Int) (z_0:vs=[.int P,.int a]) (z_1:Om.cA P) (z_2:P<2097152) (z_3:0<a) (z_4:a<(P:Int)) (z_5:∀x:Int,0<=x->x<2097152->x%(P:Int)=a^(P-2)%(P:Int)->Q (.int x) H)
noncomputable def qw:Sp:=fun vs H Q E=>vX  vs H Q E
inductive D8(vs:List V)(H:Hp)(Q:VK)(E:XK):Prop|mk (P:Nat) (one other:Int) (z_0:vs=[.int P,.int one,.int other]) (z_1:Om.cA P) (z_2:P<2097152) (z_3:0<other) (z_4:other<(P:Int)) (z_5:Q (.int (one*other^(P-2)%(P:Int))) H)
noncomputable def vP:Sp:=fun vs H Q E=>D8  vs H Q E
inductive Gz(K:PySem.W.Frag)(vs:List V)(H:Hp)(Q:VK)(E:XK):Prop|mk (l:Addr) (xs:List Int) (z_0:vs=[.ref l]) (z_1:SqL K H l (xs.map V.int)) (z_2:vq H Q (Pm.trim xs))
noncomputable def wJ(K:PySem.W.Frag):Sp:=fun vs H Q E=>Gz K vs H Q E
noncomputable def Px(H:Hp)(Q:VK)(b:Int)(P M:List Int):Prop:=∀t x y q r H',Same H H'->H' t=some (.tup [.ref x,.ref y])->H' x=some (.tup (List.map V.int q))->H' y=some (.tup (List.map V.int r))->Pm.Div b P M q r->
 (∀z∈q,Rm.Bd 5300000 z)->(∀z∈r,Rm.Bd 5300000 z)->q.length<=P.length->Q (.ref t) H'
inductive v7(vs:List V)(H:Hp)(Q:VK)(E:XK):Prop|mk (b:Int) (a c:Addr) (P M:List Int) (z_0:vs=[.int b,.ref a,.ref c]) (z_1:0<=b) (z_2:b<2097152) (z_3:H a=some (.tup (P.map V.int))) (z_4:H c=some (.tup (M.map V.int))) (z_5:P.length<=40) (z_6:M.length<=40) (z_7:Pm.Mon M) (z_8:(∀k,Rm.tk b (Pm.co P k)=Pm.co P k)) (z_9:(∀x∈P,Rm.Bd 300000 x)) (z_10:(∀x∈M,Rm.Bd 124000 x)) (z_11:Px H Q b P M)
noncomputable def jF:Sp:=fun vs H Q E=>v7  vs H Q E
theorem Ae{L:List Int}{u:Nat}(h:∀k,Rm.Bd u (Pm.co L k)):∀x∈Pm.trim L,Rm.Bd u x:=fun x hx=>by
 obtain⟨k,hk,e⟩:=List.mem_iff_getElem.mp hx
 rw[<-e,<-Pm.uP hk,Pm.ig];exact h k
theorem max_zero(m n:Nat):(if(m:Int)-((n:Int)-1)>0 then(m:Int)-((n:Int)-1)else 0).toNat=m-(n-1)∨n=0:=by
 by_cases h:n=0
 ·exact .inr h
 ·left;split<;>omega
noncomputable def Ub(H:Hp)(Q:VK)(b:Int)(p:List Int):Prop:=∀t m H',Same H H'->H' t=some (.tup (List.map V.int m))->Pm.rK b p m->Q (.ref t) H'
inductive Af(vs:List V)(H:Hp)(Q:VK)(E:XK):Prop|mk (P:Nat) (a:Addr) (p:List Int) (z_0:vs=[.int P,.ref a]) (z_1:Om.cA P) (z_2:P<2097152) (z_3:H a=some (.tup (p.map V.int))) (z_4:p.length<=300) (z_5:Pm.Py P p) (z_6:Ub H Q P p)
noncomputable def xr:Sp:=fun vs H Q E=>Af  vs H Q E
noncomputable def Jv(H:Hp)(Q:VK)(b:Int)(p r:List Int):Prop:=∀t g H',Same H H'->H' t=some (.tup (List.map V.int g))->Pm.Gcd b p r g->g.length<=max p.length r.length->Q (.ref t) H'
inductive um(vs:List V)(H:Hp)(Q:VK)(E:XK):Prop|mk (P:Nat) (a c:Addr) (p r:List Int) (z_0:vs=[.int P,.ref a,.ref c]) (z_1:Om.cA P) (z_2:P<2097152) (z_3:H a=some (.tup (p.map V.int))) (z_4:H c=some (.tup (r.map V.int))) (z_5:p.length<=40) (z_6:r.length<=40) (z_7:Pm.Py P p) (z_8:Pm.Py P r) (z_9:(r=[]->p≠[])) (z_10:Jv H Q P p r)
noncomputable def j4:Sp:=fun vs H Q E=>um  vs H Q E
theorem Hv{P:Nat}(h0:2<=P)(h:P<2097152){p:List Int}(hp:Pm.Py P p):∀x∈p,Rm.Bd 124000 x:=fun x hx=>by
 have:=hp.nu x hx
 rw[Rm.dU (by omega)]at this
 rw[<-this]
 exact Rm.Bd.emod (by omega) ((Rm.Bd.of (n:=21) (by omega) (by omega)).mono (by decide))
inductive yx(vs:List V)(H:Hp)(Q:VK)(E:XK):Prop|mk (M x:Int) (z_0:vs=[.int M,.int x]) (z_1:0<M) (z_2:Q (.int (Pm.nr M x)) H)
noncomputable def oR:Sp:=fun vs H Q E=>yx  vs H Q E
inductive CF(vs:List V)(H:Hp)(Q:VK)(E:XK):Prop|mk (M t:Int) (p:Nat) (s:Int) (z_0:vs=[.int M,.int t,.int p,.int s]) (z_1:Om.cA p) (z_2:p<2097152) (z_3:0<M) (z_4:¬(p:Int)∣M) (z_5:Q (.int (Pm.jn M t p s)) H)
noncomputable def w6:Sp:=fun vs H Q E=>CF  vs H Q E
inductive uM(vs:List V)(H:Hp)(Q:VK)(E:XK):Prop|mk (p:Nat) (a:Addr) (P:List Int) (z_0:vs=[.int p,.ref a]) (z_1:0<p) (z_2:H a=some (.tup (P.map V.int))) (z_3:P.length<=100) (z_4:vq H Q (Pm.trim (P.map (Rm.tk p))))
noncomputable def nY:Sp:=fun vs H Q E=>uM  vs H Q E
inductive yM(vs:List V)(H:Hp)(Q:VK)(E:XK):Prop|mk (m a:Addr) (M P:List Int) (z_0:vs=[.ref m,.ref a]) (z_1:H m=some (.tup (M.map V.int))) (z_2:H a=some (.tup (P.map V.int))) (z_3:M.length<=40) (z_4:P.length<=40) (z_5:Pm.Mon M) (z_6:(∀x∈M,Rm.Bd 124000 x)) (z_7:(∀x∈P,Rm.Bd 300000 x)) (z_8:∀b H',Same H H'->(b=true↔Pm.Dv 0 M (Pm.co P))->Q (.bl b) H')
noncomputable def ud:Sp:=fun vs H Q E=>yM  vs H Q E
inductive Ot(vs:List V)(H:Hp)(Q:VK)(E:XK):Prop|mk (a c:Addr) (P t g:List Int) (N:Int) (U V':Nat) (z_0:vs=[.ref a,.ref c]) (z_1:H a=some (.tup (P.map V.int))) (z_2:H c=some (.tup (t.map V.int))) (z_3:P.length<=40) (z_4:t.length<=40) (z_5:Pm.Mon P) (z_6:(∀x∈P,Rm.Bd 124000 x)) (z_7:(∀x∈t,Rm.Bd 300000 x)) (z_8:Pm.GcZ P (Pm.co t) g N) (z_9:Rm.Bd V' N) (z_10:(∀k,Rm.Bd U (Pm.co g k))) (z_11:V'+U+57<=112100) (z_12:vq H Q g)
noncomputable def Vt:Sp:=fun vs H Q E=>Ot  vs H Q E
theorem CY(p:Nat)(P:List Int)(k:Nat):Rm.tk (p:Int) (Pm.co (Pm.trim (P.map (Rm.tk p))) k)=Rm.tk p (Pm.co P k):=by
 rw[Pm.ig,Pm.oW (Pm.tk0 _),Rm.iY]
theorem Ft(p:Nat)(P:List Int):Pm.Py p (Pm.trim (P.map (Rm.tk p))):=Pm.Py.of fun x hx=>by
 obtain⟨y,_,rfl⟩:=List.mem_map.mp hx
 exact Rm.iY ..
theorem CT(p:Nat)(P:List Int):(Pm.trim (P.map (Rm.tk p))).length<=P.length:=by
 have:=Pm.dJ (P.map (Rm.tk p))
 rwa [List.length_map]at this
theorem KC{p:Nat}(hp:Om.cA p){P:List Int}(hP:Pm.Mon P):Pm.trim (P.map (Rm.tk p))≠[]:=fun z=>by
 have:=CY p P (P.length-1)
 rw[z,Pm.dF,hP.one,Pm.zB hp,Pm.tk0]at this
 exact absurd this (by decide)
theorem Pr{P g told:List Int}{N M:Int}{prime bad good:Nat}{ripe:Bool}(I:Pm.WgI P g N told M prime ripe bad good)(bP:∀x∈P,Rm.Bd 124000 x)(h:bad+good<=5900):∀x∈told,Rm.Bd 124000 x:=fun x hx=>by
 by_cases c:M=1
 ·rw[I.first c]at hx;exact bP x hx
 ·obtain⟨k,hk,e⟩:=List.mem_iff_getElem.mp hx
  have n:=I.near c k
  rw[Pm.uP hk,e]at n
  unfold Pm.Nr at n
  have h1:=I.hi
  have h2:(2:Int)^(21*(bad+good))<=2^123900:=by exact_mod_cast Nat.pow_le_pow_right (n:=2) (by decide) (show 21*(bad+good)<=123900 by omega)
  have h3:M<=2^123900:=Int.le_trans h1 h2
  have hpos:=I.pos
  refine(show Rm.Bd 123900 x from ?_).mono (by decide)
  generalize hB:(2:Int)^123900=B at h3
  have h4:-B<x/\x<B:=by omega
  unfold Rm.Bd
  have h5:(x.natAbs:Int)<((2^123900:Nat):Int):=by
   rw[Int.natCast_pow]
   show(x.natAbs:Int)<(2:Int)^123900
   rw[hB];omega
  exact_mod_cast h5
noncomputable def JR(H:Hp)(a c:Addr)(P' g:List Int)(N:Int)(m:Nat)(σ':St)(H':Hp):Prop:=∃(o6 o7:Option V) (tt:Addr) (told:List Int) (M:Int) (prime:Nat) (ripe:Bool) (bad good:Nat),m=6000-(bad+good)/\σ'=[some (.ref a),some (.ref c),some (.ref tt),some (.int M),some (.int (prime:Int)),some (.bl ripe),o6,o7]/\Same H H'/\H' tt=some (.tup (told.map V.int))/\Pm.WgI P' g N told M prime ripe bad good/\Om.Many (6000-(bad+good)) prime/\1000000<=prime/\bad+good<=5900
inductive CW(vs:List V)(H:Hp)(Q:VK)(E:XK):Prop|mk (b:Int) (a:Addr) (c:List Int) (z_0:vs=[.int b,.ref a]) (z_1:0<=b) (z_2:H a=some (.tup (c.map V.int))) (z_3:c.length<=100) (z_4:vq H Q (Pm.aV b c))
noncomputable def wL:Sp:=fun vs H Q E=>CW  vs H Q E
inductive Aw(vs:List V)(H:Hp)(Q:VK)(E:XK):Prop|mk (b:Int) (a:Addr) (p:List Int) (z_0:vs=[.int b,.ref a]) (z_1:0<=b) (z_2:H a=some (.tup (p.map V.int))) (z_3:0<p.length) (z_4:p.length<=100) (z_5:vq H Q (Pm.fW b p))
noncomputable def xM:Sp:=fun vs H Q E=>Aw  vs H Q E
theorem Cd{lo:Int}{n:Nat}{ix:List (Option Nat)}{te:TE}{σ:St}{H1:Hp}{Q:VK}(hz:n<=1000){rest:St}(hst:cst ix σ=none::rest)(f:Nat->Int)
  (he:∀H' k,Same H1 H'->k<n->∀kk:VK,kk (.int (f k)) H'->te (some (.int (lo+(k:Int)))::rest) H' kk)
  (hQ:∀D,H1 D=none->Q (.ref D) (upd H1 D (.lst ((Pm.ofF n f).map V.int)))):m9 ix (kE 0) Dh te σ Q (Itr lo n) H1:=by
 refine iD jm (by rw[List.length_map,List.length_range];exact Nat.le_of_lt (bW hz)) hst (fun _=>true) (fun x=>match x with | .int k=> .int (f (k-lo).toNat)|_=> .non) ?_ ?_ ?_
 ·intro H2 x g2 hx k hk;exact hk
 ·intro H2 x g2 hx _ k hk
  obtain⟨j,hj,rfl⟩:=List.mem_map.mp hx
  have e1:(lo+(j:Int)-lo).toNat=j:=by omega
  refine he H2 j g2 (List.mem_range.mp hj) k ?_
  have hk':k (V.int (f (lo+(j:Int)-lo).toNat)) H2:=hk
  rwa [e1]at hk'
 ·intro D hD
  have el:((((List.range n).map fun i=>V.int (lo+(i:Nat))).filter fun _=>true).map fun x=>match x with | .int k=>V.int (f (k-lo).toNat)|_=>V.non)=(Pm.ofF n f).map V.int:=by
   rw[List.filter_eq_self.mpr (by simp),List.map_map,Pm.ofF,List.map_map]
   refine List.map_congr_left fun k _=>?_
   show V.int (f (lo+(k:Int)-lo).toNat)=V.int (f k)
   rw[show(lo+(k:Int)-lo).toNat=k by omega]
  rw[el]
  exact hQ D hD
theorem vW:(Om.gF.all fun p=>(List.range 32).all fun d=>decide (d<2)||decide (p<d*d)||decide (p%d≠0))=true:=by decide +kernel
theorem yO{P:Nat}(h:P∈Om.gF):Om.cA P:=by
 have hr:=dz P h
 refine Om.pC hr.1 fun d hd hdd hdv=>?_
 have h32:d<32:=by
  by_cases c:d<32
  ·exact c
  ·have:32*32<=d*d:=Nat.mul_le_mul (by omega) (by omega)
   omega
 have:=List.all_eq_true.mp (List.all_eq_true.mp vW P h) d (List.mem_range.mpr h32)
 simp only[Bool.or_eq_true,decide_eq_true_eq]at this
 have:=Nat.mod_eq_zero_of_dvd hdv
 omega
noncomputable def CQ(r:Rw):List Int:=Pm.trim (Pm.ofF r.rule.length fun k=>Rm.tk r.b (Pm.tp (Pm.aV r.b r.rule) r.at k))
theorem vO(r:Rw)(k:Nat):Pm.co (CQ r) k=Rm.tk r.b (Pm.tp (Pm.aV r.b r.rule) r.at k):=by
 rw[CQ,Pm.ig,Pm.cF]
 by_cases c:k<r.rule.length
 ·rw[if_pos c]
 ·rw[if_neg c,Pm.yZ _ _ k (by rw[Pm.cj];omega),Pm.tk0]
theorem DM(r:Rw):(CQ r).length<=r.rule.length:=by
 have:=Pm.dJ (Pm.ofF r.rule.length fun k=>Rm.tk r.b (Pm.tp (Pm.aV r.b r.rule) r.at k))
 rwa [Pm.aU]at this
theorem ni.oV{r:Rw}(ok:ni r):∀x∈Pm.aV r.b r.rule,Rm.Bd 60000 x:=Pm.tQ ok.by0 ok.by1 (by decide) ok.ruleBd
theorem Hw{r:Rw}(ok:ni r):∀x∈CQ r,Rm.Bd 300000 x:=fun x hx=>by
 obtain⟨k,_,rfl⟩:=Pm.fR (Pm.wU hx)
 refine Rm.uc ok.by0 ((Rm.Bd.of (n:=10) (by have:=ok.by0;omega) (by have:=ok.by1;omega)).mono (by decide)) ?_
 have hs:=ok.short
 have hl:=ok.len
 unfold Pm.tp
 rw[Pm.cj,Nat.add_sub_cancel]
 refine(Pm.Ef (c:=63000) _ fun i hi=>?_).mono (by omega)
 refine(Rm.Bd.mul (m:=60000) (n:=3000) (Pm.rA ok.oV _) ?_).mono (by omega)
 have e:r.at i=r.starts.getD i 0:=Rm.ql (by omega)
 rw[e];exact Rm.Bd.getD ok.startsBd _
inductive KL(vs:List V)(H:Hp)(Q:VK)(E:XK):Prop|mk (v:V) (r:Rw) (a:Addr) (z_0:vs=[v,.ref a]) (z_1:fQ H v r) (z_2:ni r) (z_3:H a=some (.tup ((Pm.aV r.b r.rule).map V.int))) (z_4:vq H Q (CQ r))
noncomputable def JH:Sp:=fun vs H Q E=>KL  vs H Q E
inductive CP(vs:List V)(H:Hp)(Q:VK)(E:XK):Prop|mk (b:Int) (a c:Addr) (P t:List Int) (z_0:vs=[.int b,.ref a,.ref c]) (z_1:H a=some (.tup (P.map V.int))) (z_2:H c=some (.tup (t.map V.int))) (z_3:P.length<=40) (z_4:t.length<=40) (z_5:Pm.Mon P) (z_6:(∀x∈P,Rm.Bd 124000 x)) (z_7:(∀x∈t,Rm.Bd 300000 x)) (z_8:((b=0/\∃(g:List Int) (N:Int) (U V':Nat),Pm.GcZ P (Pm.co t) g N/\Rm.Bd V' N/\(∀k,Rm.Bd U (Pm.co g k))/\V'+U+57<=112100/\vq H Q g)∨
 (∃p:Nat,b=(p:Int)/\Om.cA p/\p<2097152/\Pm.Py p P/\Pm.Py p t/\Jv H Q p P t)))
noncomputable def xU:Sp:=fun vs H Q E=>CP  vs H Q E
structure cI(b:Int)(f:Nat->Int)(L:List Int):Prop where
 mon:Pm.Mon L
 nu:∀k,Rm.tk b (Pm.co L k)=Pm.co L k
 kp:Pm.Kp b L f
 all:∀q,Pm.Kp b q f->Pm.Dv b L (Pm.co q)
noncomputable def Tame(r:Rw):Prop:=r.b=0->∃d ua u:Nat,10<=u/\(∀x∈r.rule,Rm.Bd u x)/\(∃Q0,Pm.Mon Q0/\Pm.Kp 0 Q0 r.at/\Q0.length<=d+1)/\(∀n,n<=2*d->Rm.Bd ua (r.at n))/\d*(ua+d)+1+(u+400)+57<=112100
theorem ni.kp{r:Rw}(ok:ni r):Pm.Kp r.b (Pm.aV r.b r.rule) r.at:=Pm.Kp.aV (Pm.Fb ok.len)
theorem Fq{b:Int}{L:List Int}(h:Pm.Mon L)(hn:∀k,Rm.tk b (Pm.co L k)=Pm.co L k):Pm.Py b L:=⟨Pm.fG (fun z=>by have:=h.pos;rw[z]at this;exact absurd this (by decide)) (by rw[h.one];decide),fun x hx=>by
 obtain⟨k,hk,e⟩:=List.mem_iff_getElem.mp hx
 have:=hn k
 rwa [Pm.uP hk,e]at this⟩
theorem tM(b:Int)(c:List Int)(h1:Rm.tk b 1=1)(k:Nat):Rm.tk b (Pm.co (Pm.aV b c) k)=Pm.co (Pm.aV b c) k:=by
 have h:∀x∈Pm.aV b c,Rm.tk b x=x:=fun x hx=>by
  rcases List.mem_append.mp hx with hx|hx
  ·obtain⟨j,_,e⟩:=Pm.fR hx
   rw[e,Rm.iY]
  ·rw[List.mem_singleton.mp hx,h1]
 by_cases hk:k<(Pm.aV b c).length
 ·exact h _ (Pm.B7 hk)
 ·rw[Pm.bZ (by omega),Pm.tk0]
theorem D4{p:Nat}(hp:Om.cA p){r:Rw}(ok:ni r)(hb:r.b=(p:Int)){g L o:List Int}(hG:Pm.Gcd p (Pm.aV r.b r.rule) (CQ r) g)(D:Pm.Div p (Pm.aV r.b r.rule) g o L):cI r.b r.at o/\o.length<=r.rule.length+1:=by
 have h1:=Pm.zB hp
 have hm:=Pm.iy r.b r.rule
 have hd:Pm.Dv p g (Pm.co (Pm.aV r.b r.rule)):=hG.one.to fun _=>rfl
 obtain⟨L',hL',hn',hl',e'⟩:=Pm.lB h1 hm hG.mon hd
 have D':Pm.Div p (Pm.aV r.b r.rule) g L' []:=⟨Fq hL' hn',Pm.Py.nil _,hG.mon.pos,fun k=>by rw[Pm.dF,Int.add_zero];exact(e' k).symm⟩
 obtain⟨eo,_⟩:=D.uniq hG.mon D'
 subst eo
 have W:Pm.NV p (Pm.aV p r.rule) (Pm.tp (Pm.aV p r.rule) r.at) g:=by
  rw[<-hb]
  refine⟨hG.mon,by rw[hb];rw[hb]at hd;exact hd,?_,?_⟩
  ·rw[hb]
   refine(hG.two.to (q:=CQ r) fun _=>rfl).congr fun k=>?_
   rw[vO,hb,Rm.iY]
  ·obtain⟨u,v,e⟩:=hG.sum
   refine⟨1,Pm.co u,Pm.co v,u.length+v.length,by rw[hb,h1];decide,(Pm.Fs.co u).mono (by omega),(Pm.Fs.co v).mono (by omega),fun k=>?_⟩
   rw[Int.one_mul,hb]
   rw[hb]at e
   rw[e k]
   refine Rm.bf rfl (Pm.gH (fun _ _=>rfl) fun i _=>?_)
   rw[vO,hb,Rm.iY]
 have ha:∀n,r.rule.length<=n->Rm.tk (p:Int) (r.at n)=Rm.tk p (Rm.S r.rule r.at n r.rule.length):=by
  rw[<-hb];exact Pm.Fb ok.len
 have K:=W.keeps (Dm.Dom.pr hp) ha hL' (by rw[<-hb];rw[<-hb]at e';exact e')
 refine⟨⟨hL',by rw[hb];exact hn',?_,fun q hq=>?_⟩,?_⟩
 ·rw[hb]
  refine(K o).mpr ⟨fun k=>if k=0 then 1 else 0,1,fun k hk=>if_neg (by omega),fun k=>?_⟩
  rw[Pm.lu,if_pos (Nat.zero_le _),Int.one_mul,Nat.sub_zero]
 ·rw[hb]at hq ⊢;exact(K q).mp hq
 ·have:=hG.mon.pos
  rw[Pm.cj]at hl'
  omega
inductive DG(vs:List V)(H:Hp)(Q:VK)(E:XK):Prop|mk (v:V) (r:Rw) (z_0:vs=[v]) (z_1:fQ H v r) (z_2:ni r) (z_3:ByP r.b) (z_4:Tame r) (z_5:∀t L H',Same H H'->H' t=some (.tup (List.map V.int L))->cI r.b r.at L->L.length<=r.rule.length+1->Q (.ref t) H')
noncomputable def CD:Sp:=fun vs H Q E=>DG  vs H Q E
noncomputable def cu(r:Rw)(L:List Int):Rw:=⟨r.b,Pm.fW r.b L,r.starts.take (L.length-1)⟩
inductive DB(vs:List V)(H:Hp)(Q:VK)(E:XK):Prop|mk (v:V) (r:Rw) (z_0:vs=[v]) (z_1:fQ H v r) (z_2:ni r) (z_3:ByP r.b) (z_4:Tame r) (z_5:∀v' L H',Same H H'->fQ H' v' (cu r L)->cI r.b r.at L->L.length<=r.rule.length+1->Q v' H')
noncomputable def wz:Sp:=fun vs H Q E=>DB  vs H Q E
theorem nF{n:Nat}{ix:List (Option Nat)}{te:TE}{σ:St}{H1:Hp}{Q:VK}(hz:n<=1000){rest:St}(hst:cst ix σ=none::rest)(P:Int->Prop)
  (he:∀H' k,Same H1 H'->k<n->∀kk:VK,(∀x H2,Same H' H2->P x->kk (.int x) H2)->te (some (.int (0+(k:Int)))::rest) H' kk)
  (hQ:∀D H' xs,H1 D=none->Same H1 H'->H' D=some (.lst (List.map V.int xs))->xs.length=n->(∀x∈xs,P x)->Q (.ref D) H'):m9 ix (kE 0) Dh te σ Q (Itr 0 n) H1:=by
 have I:ItS (Itr 0 n) ((List.range n).map fun i=>V.int (0+(i:Nat))) H1:=jm
 have lI:((List.range n).map fun i=>V.int (0+(i:Nat))).length=n:=by rw[List.length_map,List.length_range]
 constructor
 intro D hD
 refine⟨fun i m σ' H'=>m=n-i/\i<=n/\(∃o,σ'=o::rest)/\Same H1 H'/\∃xs:List Int,H' D=some (.lst (xs.map V.int))/\xs.length=i/\∀x∈xs,P x,⟨n,rfl,Nat.zero_le _,⟨none,hst⟩,Same.new hD _,[],aA,rfl,fun _ h=>nomatch h⟩,?_⟩
 rintro i m σ' H' ⟨rfl,hi,⟨o,rfl⟩,g,xs,hl,lx,hP⟩
 by_cases hlt:i<n
 ·refine .inr ⟨I.go i _ g (by rw[lI];exact hlt),fun x H2 y=>?_⟩
  obtain⟨rfl,hx⟩:=I.yld i _ x H2 g y
  have hx:=hx (by rw[lI];exact hlt)
  rw[List.getElem?_map,List.getElem?_range hlt]at hx
  cases hx
  change te (some (.int (0+(i:Int)))::rest) H2 _
  refine he H2 i g hlt _ fun x H3 g3 hx=>⟨_,g3 _ _ hl,by rw[List.length_map,lx];exact bW (by omega),n-(i+1),by omega,rfl,hlt,⟨_,rfl⟩,Same.upd (g.trans g3) hD _,xs++[x],?_,by rw[List.length_append,lx];rfl,fun z hz=>?_⟩
  ·rw[aA,rF]
  ·rcases List.mem_append.mp hz with hz|hz
   ·exact hP z hz
   ·rw[List.mem_singleton.mp hz];exact hx
 ·have e:i=n:=by omega
  subst e
  exact .inl ⟨I.stop _ _ g (by rw[lI];exact Nat.le_refl _),hQ D H' xs hD g hl lx hP⟩
theorem Dr{ns:List Int}{k:Int}(j:Nat)(h0:k<0)(e:k+(ns.length:Int)=(j:Int)):atI (ns.map V.int) k=some (.int (ns.getD j 0)):=by
 have hj:j<ns.length:=by omega
 unfold atI ixN
 rw[List.length_map,if_neg (by omega),if_pos (by omega),show(k+(ns.length:Int)).toNat=j by omega]
 show(ns.map V.int)[j]?=_
 rw[List.getElem?_map,List.getElem?_eq_getElem hj,List.getD_eq_getElem?_getD,List.getElem?_eq_getElem hj]
 rfl
theorem FD{x:Int}{n:Nat}(h:Rm.Bd n x):∀k:Nat,Rm.Bd (n*k+1) (x^k)
 |0=>by rw[Int.pow_zero,Nat.mul_zero];exact Rm.Bd.of (by decide) (by decide)
 |k+1=>by
  rw[Int.pow_succ]
  exact((FD h k).mul h).mono (by rw[Nat.mul_succ];omega)
noncomputable def byF:List Int:=[0,0,0,2,3,5,7,11,101,997]
structure ByF(b:Int):Prop where
 lo:0<=b
 hi:b<1000
 one:Rm.tk b 1=1
 p:ByP b
theorem NT:∀k<10,byF.getD k 0=0∨((byF.getD k 0).toNat∈Om.gF/\byF.getD k 0=((byF.getD k 0).toNat:Int)):=by decide +kernel
theorem C8:∀k<10,0<=byF.getD k 0/\byF.getD k 0<1000/\Rm.tk (byF.getD k 0) 1=1:=by decide
theorem Iz{k:Nat}(h:k<10):ByF (byF.getD k 0):=⟨(C8 k h).1,(C8 k h).2.1,(C8 k h).2.2,(NT k h).imp id fun z=>⟨_,z⟩⟩
theorem qF{b:Int}(hb:0<=b)(x:Int):gJ b (Rm.tk b x):=by
 by_cases h:b=0
 ·exact .inl h
 ·rw[Rm.dU h];exact .inr ⟨dN _ (by omega),dO _ (by omega)⟩
theorem qI{b x:Int}{n:Nat}(hb:ByF b)(hn:10<=n)(h:Rm.Bd n x):Rm.Bd n (Rm.tk b x):=
 Rm.uc hb.lo ((Rm.Bd.of (n:=10) (by have:=hb.lo;omega) (by have:=hb.hi;omega)).mono hn) h
theorem Oi{rule:List Int}{f:Nat->Int}{n a c:Nat}(hr:∀k,Rm.Bd a (rule.getD k 0)):∀m:Nat,m<=16->(∀k,k<m->Rm.Bd c (f (n-1-k)))->Rm.Bd (a+c+4) (Rm.S rule f n m):=fun m hm h=>by
 have key:∀m,(∀k,k<m->Rm.Bd c (f (n-1-k)))->(Rm.S rule f n m).natAbs<=m*2^(a+c):=fun m=>by
  induction m with
  |zero=>intro _;exact Nat.zero_le _
  |succ m ih=>
   intro h
   unfold Rm.S
   have h1:=ih fun k hk=>h k (by omega)
   have h2:(rule.getD m 0*f (n-1-m)).natAbs<2^(a+c):=(hr m).mul (h m (by omega))
   have h3:=Int.natAbs_add_le (Rm.S rule f n m) (rule.getD m 0*f (n-1-m))
   rw[Nat.succ_mul]
   omega
 have k1:=key m h
 have k2:m*2^(a+c)<=16*2^(a+c):=Nat.mul_le_mul_right _ hm
 show(Rm.S rule f n m).natAbs<2^(a+c+4)
 by_cases h0:m=0
 ·rw[h0];exact Nat.pow_pos (by decide)
 ·have k3:(Rm.S rule f n m).natAbs<16*2^(a+c):=by
   obtain⟨m',rfl⟩:∃m',m=m'+1:=⟨m-1,by omega⟩
   have q1:=key m' fun k hk=>h k (by omega)
   unfold Rm.S
   have h2:(rule.getD m' 0*f (n-1-m')).natAbs<2^(a+c):=(hr m').mul (h m' (by omega))
   have h3:=Int.natAbs_add_le (Rm.S rule f n m') (rule.getD m' 0*f (n-1-m'))
   have q2:m'*2^(a+c)<=15*2^(a+c):=Nat.mul_le_mul_right _ (by omega)
   omega
  rw[Nat.pow_add]
  have:(2:Nat)^4=16:=by decide
  omega
theorem Kr{b:Int}{rule starts:List Int}{a c:Nat}(hl:rule.length=starts.length)(h16:rule.length<=16)(hb:0<=b)(hb':Rm.Bd c b)(hr:∀x∈rule,Rm.Bd a x)(hs:∀x∈starts,Rm.Bd c x):
  ∀n,Rm.Bd (c+n*(a+4)) (Rm.at_ b rule starts n):=by
 intro n
 induction n using Nat.strongRecOn with
 |ind n ih=>
  by_cases h:n<starts.length
  ·rw[Rm.ql h]
   exact(Rm.Bd.getD hs n).mono (by omega)
  ·rw[Rm.su hl (by omega)]
   by_cases h0:rule.length=0
   ·rw[h0]
    exact Rm.uc hb (hb'.mono (by omega)) (.zero _)
   ·have hn:0<n:=by omega
    have q:=Oi (rule:=rule) (f:=Rm.at_ b rule starts) (n:=n) (a:=a) (c:=c+(n-1)*(a+4)) (fun k=>Rm.Bd.getD hr k) rule.length h16 fun k hk=>by
     refine(ih (n-1-k) (by omega)).mono ?_
     have:(n-1-k)*(a+4)<=(n-1)*(a+4):=Nat.mul_le_mul_right _ (by omega)
     omega
    have e:n*(a+4)=(n-1)*(a+4)+(a+4):=by
     obtain⟨m,rfl⟩:∃m,n=m+1:=⟨n-1,by omega⟩
     rw[Nat.add_sub_cancel,Nat.succ_mul]
    exact Rm.uc hb (hb'.mono (by omega)) (q.mono (by omega))
theorem Bo{b x:Int}(h:gJ b x):Rm.tk b x=x:=by
 rcases h with rfl|⟨h1,h2⟩
 ·exact Rm.bD x
 ·rw[Rm.dU (by omega)];exact Int.emod_eq_of_lt h1 h2
theorem Fl{b x:Int}{n:Nat}(hb:ByF b)(hn:10<=n)(h0:b≠0)(h:gJ b x):Rm.Bd n x:=by
 have:=hb.hi
 rcases h with z|z
 ·exact absurd z h0
 ·exact(Rm.Bd.of (n:=10) (by omega) (by omega)).mono hn
structure Bs(b:Int)(m:Nat)(r:Rw):Prop where
 by_:r.b=b
 len:r.rule.length=r.starts.length
 short:r.rule.length<=m
 m12:m<=12
 ruleNum:∀x∈r.rule,gJ b x
 startsNum:∀x∈r.starts,gJ b x
 ruleBd:∀x∈r.rule,Rm.Bd 13 x
 startsBd:∀x∈r.starts,Rm.Bd 31 x
theorem Bs.Bh{b:Int}{m:Nat}{r:Rw}(hb:ByF b)(h:Bs b m r)(n:Nat):Rm.Bd (31+n*17) (r.at n):=by
 have e:=h.by_
 have:=h.short
 have:=h.m12
 have:=hb.lo
 have:=hb.hi
 exact Kr h.len (by omega) (by rw[e];exact hb.lo) (Rm.Bd.of (by omega) (by omega)) h.ruleBd h.startsBd n
theorem Bs.uE{b:Int}{m:Nat}{r:Rw}(hb:ByF b)(h:Bs b m r)(n:Nat):gJ b (r.at n):=by
 by_cases z:b=0
 ·exact .inl z
 ·have e:=h.by_
  have h0:=hb.lo
  have:=Rm.xX (b:=r.b) (rule:=r.rule) (starts:=r.starts) h.len (by omega) (fun x hx=>?_) n
  ·rw[e]at this;exact .inr (by have q:r.at n=Rm.at_ b r.rule r.starts n:=(by rw[<-e];rfl);rw[q];exact this)
  ·rcases h.startsNum x hx with y|y
   ·exact absurd y z
   ·rw[e];exact y
noncomputable def uS(s:Nat):Nat:=13+12*s
structure RwS(b:Int)(r0:Rw)(s:Nat)(r:Rw):Prop where
 by_:r.b=b
 len:r.rule.length=r.starts.length
 short:r.rule.length<=12
 ruleNum:∀x∈r.rule,gJ b x
 ruleBd:∀x∈r.rule,Rm.Bd (uS s) x
 same:∀n,r.at n=r0.at n
theorem RwS.up{b:Int}{r0:Rw}{s:Nat}{r:Rw}(h:RwS b r0 s r):RwS b r0 (s+1) r:=
 ⟨h.by_,h.len,h.short,h.ruleNum,fun x hx=>(h.ruleBd x hx).mono (by unfold uS;omega),h.same⟩
theorem RwS.starts{b:Int}{r0:Rw}{s:Nat}{r:Rw}(h:RwS b r0 s r){x:Int}(hx:x∈r.starts):∃k,k<r.starts.length/\x=r0.at k:=by
 obtain⟨k,hk,e⟩:=List.mem_iff_getElem.mp hx
 refine⟨k,hk,?_⟩
 have e1:r.at k=r.starts.getD k 0:=Rm.ql hk
 rw[<-h.same k,e1,List.getD_eq_getElem?_getD,List.getElem?_eq_getElem hk,<-e];rfl
theorem RwS.ok{b:Int}(hb:ByF b){m:Nat}{r0 r:Rw}{s:Nat}(h0:Bs b m r0)(h:RwS b r0 s r)(hs:s<=3):ni r:=by
 have e:=h.by_
 have h12:=h.short
 have hl:=h.len
 refine⟨h.len,by omega,by rw[e];exact hb.lo,by rw[e];exact hb.hi,by rw[e];exact h.ruleNum,fun x hx=>?_,fun x hx=>(h.ruleBd x hx).mono (by unfold uS;omega),fun x hx=>?_⟩
 ·obtain⟨k,_,rfl⟩:=h.starts hx
  rw[e];exact h0.uE hb k
 ·obtain⟨k,hk,rfl⟩:=h.starts hx
  exact(h0.Bh hb k).mono (by have:k*17<=12*17:=Nat.mul_le_mul_right _ (by omega);omega)
noncomputable def yc(n:Int)(rule:List Int)(i k:Nat):Int:=(if k=0 then n else if k<=i then -(n*Pm.co rule (k-1))else 0)+(if k<i then Pm.co rule k else 0)
noncomputable def cZ(n:Int)(rule:List Int)(i:Nat):List Int:=Pm.ofF (rule.length+1) fun k=>yc n rule i k
theorem cD(n:Int)(rule:List Int)(i:Nat):(cZ n rule i).length=rule.length+1:=Pm.aU ..
theorem jC{n:Int}{rule:List Int}{i k:Nat}(h:k<rule.length+1):Pm.co (cZ n rule i) k=yc n rule i k:=by rw[cZ,Pm.cF,if_pos h]
theorem yV(n:Int)(rule:List Int):cZ n rule 0=[n]++Pm.ofF rule.length fun _=>0:=by
 refine Pm.jN (by rw[cD,List.length_append,Pm.aU];simp;omega) fun k=>?_
 by_cases h:k<rule.length+1
 ·rw[jC h,Pm.cQ,Pm.cF]
  unfold yc
  rw[if_neg (Nat.not_lt_zero _),Int.add_zero]
  by_cases c:k=0
  ·rw[if_pos c,if_pos (by simp;omega),c];rfl
  ·rw[if_neg c,if_neg (by omega),if_neg (by simp;omega)]
   split<;>rfl
 ·rw[Pm.bZ (by rw[cD];omega),Pm.bZ (by rw[List.length_append,Pm.aU];simp;omega)]
theorem yq{n:Int}{rule:List Int}{i:Nat}(hi:i<rule.length):
  ((cZ n rule i).set i (Pm.co (cZ n rule i) i+Pm.co rule i)).set (i+1) (Pm.co ((cZ n rule i).set i (Pm.co (cZ n rule i) i+Pm.co rule i)) (i+1)-n*Pm.co rule i)=cZ n rule (i+1):=by
 refine Pm.jN (by rw[List.length_set,List.length_set,cD,cD]) fun k=>?_
 rw[Pm.nH _ _ _ _ (by rw[List.length_set,cD];omega),Pm.nH _ _ _ _ (by rw[cD];omega),Pm.nH _ _ _ _ (by rw[cD];omega)]
 by_cases h:k<rule.length+1
 ·rw[jC h,jC (by omega),jC (by omega),jC h,if_neg (by omega:¬i+1=i)]
  unfold yc
  by_cases c:k=i+1
  ·rw[if_pos c,if_neg (by omega),if_neg (by omega),if_neg (by omega),if_neg (by omega),if_pos (by omega),if_neg (by omega),c,Nat.add_sub_cancel]
   omega
  ·rw[if_neg c]
   by_cases d:k=i
   ·rw[if_pos d,d,if_neg (Nat.lt_irrefl i),if_pos (by omega:i<i+1)]
    by_cases z:i=0
    ·rw[if_pos z,if_pos z];omega
    ·rw[if_neg z,if_neg z,if_pos (by omega),if_pos (by omega)];omega
   ·rw[if_neg d]
    by_cases z:k=0
    ·rw[if_pos z,if_pos z]
     by_cases y:k<i
     ·rw[if_pos y,if_pos (by omega)]
     ·rw[if_neg y,if_neg (by omega)]
    ·rw[if_neg z,if_neg z]
     by_cases y:k<i
     ·rw[if_pos (by omega:k<=i),if_pos y,if_pos (by omega:k<=i+1),if_pos (by omega:k<i+1)]
     ·rw[if_neg (by omega:¬k<=i),if_neg y,if_neg (by omega:¬k<=i+1),if_neg (by omega:¬k<i+1)]
 ·rw[if_neg (by omega),if_neg (by omega),Pm.bZ (by rw[cD];omega),Pm.bZ (by rw[cD];omega)]
theorem EY{n:Int}{rule:List Int}{u:Nat}(hu:10<=u)(hn:Rm.Bd 10 n)(h:∀x∈rule,Rm.Bd u x)(i:Nat):∀x∈cZ n rule i,Rm.Bd (u+12) x:=fun x hx=>by
 obtain⟨k,_,rfl⟩:=Pm.fR hx
 unfold yc
 refine(Rm.Bd.add (n:=u+11) ?_ ?_).mono (by omega)
 ·split
  ·exact hn.mono (by omega)
  ·split
   ·have:=(hn.mul (Pm.rA h (k-1))).mono (show 10+u<=u+11 by omega)
    unfold Rm.Bd at this⊢
    rw[Int.natAbs_neg];exact this
   ·exact Rm.Bd.zero _
 ·split
  ·exact(Pm.rA h k).mono (by omega)
  ·exact Rm.Bd.zero _
noncomputable def lH(b n:Int)(rule:List Int):List Int:=Pm.ofF (rule.length+1) fun k=>Rm.tk b (0-((if k<rule.length then 0-Pm.co rule k else 0)-n*(if k=0 then 1 else 0-Pm.co rule (k-1))))
theorem iW(b n:Int)(rule:List Int):(lH b n rule).length=rule.length+1:=Pm.aU ..
theorem yN{b n:Int}{r:Rw}(hl:r.rule.length=r.starts.length)(hs:∀x∈r.starts,gJ b x)(hb:r.b=b)(m:Nat):Rm.at_ b (lH b n r.rule) (r.row (r.rule.length+1)) m=r.at m:=by
 have e0:∀i,i<r.rule.length+1->(r.row (r.rule.length+1)).getD i 0=r.at i:=fun i hi=>Rm.rH _ _ _ hi
 refine Rm.rD (by rw[iW,Rw.eZ]) (g:=r.at) (fun i hi=>?_) (fun i hi=>?_) m
 ·rw[Rw.eZ]at hi
  exact(e0 i hi).symm
 ·rw[Rw.eZ]at hi
  have h1:r.at i=Rm.tk b (Rm.S r.rule r.at i r.rule.length):=by rw[<-hb];exact Rm.su hl (by omega)
  rw[iW,h1,Pm.Cw,Pm.Cw]
  have e1:Rm.tk b (Pm.sm (r.rule.length+1) fun k=>Pm.co (lH b n r.rule) k*r.at (i-1-k))=Rm.tk b (Pm.sm (r.rule.length+1) fun k=>(if k<r.rule.length then Pm.co r.rule k*r.at (i-1-k)else 0)+n*(if k=0 then r.at (i-1)else -(Pm.co r.rule (k-1)*r.at (i-1-k)))):=Pm.iz fun k hk=>by
   rw[lH,Pm.cF,if_pos hk,Rm.cT]
   refine congrArg (Rm.tk b) ?_
   by_cases c:k=0
   ·rw[if_pos c,if_pos c,c]
    by_cases d:0<r.rule.length
    ·rw[if_pos d,if_pos d,Nat.sub_zero,Int.mul_one,show(0-(0-Pm.co r.rule 0-n))=Pm.co r.rule 0+n by omega,Int.add_mul]
    ·rw[if_neg d,if_neg d,Nat.sub_zero,Int.mul_one,show(0-(0-n))=n by omega,Int.zero_add]
   ·rw[if_neg c,if_neg c]
    by_cases d:k<r.rule.length
    ·rw[if_pos d,if_pos d,Int.sub_mul,Int.sub_mul,Int.mul_assoc,Int.sub_mul,Int.sub_mul,Int.mul_sub,Int.mul_neg]
     omega
    ·rw[if_neg d,if_neg d,Int.sub_mul,Int.sub_mul,Int.mul_assoc,Int.sub_mul,Int.mul_sub,Int.mul_neg]
     omega
  rw[e1,Pm.d8,Pm.cB]
  have e2:Pm.sm (r.rule.length+1) (fun k=>if k<r.rule.length then Pm.co r.rule k*r.at (i-1-k)else 0)=Pm.sm r.rule.length fun k=>Pm.co r.rule k*r.at (i-1-k):=by
   rw[Pm.sm,if_neg (Nat.lt_irrefl _),Int.add_zero]
   exact Pm.aC fun k hk=>if_pos hk
  have e3:Pm.sm (r.rule.length+1) (fun k=>if k=0 then r.at (i-1)else -(Pm.co r.rule (k-1)*r.at (i-1-k)))=r.at (i-1) + -1*Pm.sm r.rule.length fun k=>Pm.co r.rule k*r.at (i-1-1-k):=by
   rw[Pm.gC,if_pos rfl,<-Pm.cB]
   congr 1
   refine Pm.aC fun k _=>?_
   rw[if_neg (by omega),Nat.add_sub_cancel,show i-1-(k+1)=i-1-1-k by omega]
   omega
  rw[e2,e3]
  have z:Rm.tk b (r.at (i-1) + -1*Pm.sm r.rule.length fun k=>Pm.co r.rule k*r.at (i-1-1-k))=0:=by
   have h2:r.at (i-1)=Rm.tk b (Rm.S r.rule r.at (i-1) r.rule.length):=by rw[<-hb];exact Rm.su hl (by omega)
   rw[h2,Pm.Cw,Rm.cJ,show ∀x:Int,x + -1*x=0 from fun x=>by omega,Pm.tk0]
  rw[<-Rm.fZ,<-Rm.bN,z,Int.mul_zero,Pm.tk0,Int.add_zero]
theorem qQ(b n:Int)(rule:List Int):(cZ n rule rule.length).map (Rm.tk b)=lH b n rule:=by
 refine Pm.jN (by rw[List.length_map,cD,iW]) fun k=>?_
 by_cases hk:k<rule.length+1
 ·rw[Pm.oW (Pm.tk0 b),jC hk,lH,Pm.cF,if_pos hk]
  refine congrArg (Rm.tk b) ?_
  unfold yc
  by_cases c:k=0
  ·rw[if_pos c,if_pos c,Int.mul_one]
   split<;>omega
  ·rw[if_neg c,if_neg c,if_pos (by omega),Int.mul_sub,Int.mul_zero]
   split<;>omega
 ·rw[Pm.bZ (by rw[List.length_map,cD];omega),Pm.bZ (by rw[iW];omega)]
theorem RwS.longer{b:Int}{m:Nat}{r0:Rw}{s:Nat}{r:Rw}(hb:ByF b)(h0:Bs b m r0)(h:RwS b r0 s r)(hs3:s<=3)(hs:r.rule.length<12){n:Int}(hn:Rm.Bd 10 n):
  RwS b r0 (s+1) ⟨b,(cZ n r.rule r.rule.length).map (Rm.tk b),r.row (r.rule.length+1)⟩:=by
 have e:=h.by_
 have ok:=h.ok hb h0 hs3
 refine⟨rfl,?_,?_,fun x hx=>?_,fun x hx=>?_,fun k=>?_⟩
 ·show((cZ n r.rule r.rule.length).map (Rm.tk b)).length=(r.row (r.rule.length+1)).length
  rw[List.length_map,cD,Rw.eZ]
 ·show((cZ n r.rule r.rule.length).map (Rm.tk b)).length<=12
  rw[List.length_map,cD];omega
 ·obtain⟨y,_,rfl⟩:=List.mem_map.mp hx
  exact qF hb.lo y
 ·obtain⟨y,hy,rfl⟩:=List.mem_map.mp hx
  exact qI hb (by unfold uS;omega) ((EY (by unfold uS;omega) hn h.ruleBd _ y hy).mono (by unfold uS;omega))
 ·have:=yN (b:=b) (n:=n) (r:=r) h.len (fun x hx=>by have:=ok.startsNum x hx;rw[e]at this;exact this) e k
  rw[<-h.same k,<-this]
  show Rm.at_ b ((cZ n r.rule r.rule.length).map (Rm.tk b)) _ k=_
  rw[qQ]
noncomputable def Fz(n m:Nat)(f:Nat->Nat->Int):List (List Int):=(List.range m).map fun i=>Pm.ofF n (f i)
theorem Ep(n m:Nat)(f:Nat->Nat->Int):(Fz n m f).length=m:=by rw[Fz,List.length_map,List.length_range]
theorem Dg{n m:Nat}{f:Nat->Nat->Int}{i:Nat}(h:i<m):Dm.ln (Fz n m f) i=Pm.ofF n (f i):=by
 unfold Dm.ln Fz
 rw[List.getD_eq_getElem?_getD,List.getElem?_map,List.getElem?_range h];rfl
theorem Hf{n m:Nat}{f:Nat->Nat->Int}{i k:Nat}(h:i<m)(hk:k<n):Pm.co (Dm.ln (Fz n m f) i) k=f i k:=by rw[Dg h,Pm.cF,if_pos hk]
theorem zj{J:It}{xs:List V}{ix:List (Option Nat)}{te:TE}{σ:St}{H1:Hp}{Q:VK}(I:ItS J xs H1)(hz:xs.length<=1000){rest:St}(hst:cst ix σ=none::rest)(G:V->List Int)
  (he:∀(H':Hp) (x:V),Same H1 H'->x∈xs->∀k:VK,(∀t' H2,Same H' H2->H' t'=none->H2 t'=some (.lst ((G x).map V.int))->k (.ref t') H2)->te (some x::rest) H' k)
  (hQ:∀D ys H',H1 D=none->Same H1 H'->H' D=some (.lst ys)->Lns H' [D] ys (xs.map G)->Q (.ref D) H'):
  m9 ix (kE 0) Dh te σ Q J H1:=by
 constructor
 intro D hD
 refine⟨fun i m σ' H'=>m=xs.length-i/\i<=xs.length/\(∃o,σ'=o::rest)/\Same H1 H'/\∃ys,H' D=some (.lst ys)/\Lns H' [D] ys ((xs.take i).map G),⟨xs.length,by simp,Nat.zero_le _,⟨none,hst⟩,Same.new hD _,[],aA,.nil⟩,?_⟩
 rintro i m σ' H' ⟨rfl,hi,⟨o,rfl⟩,g,ys,hl,hy⟩
 by_cases hlt:i<xs.length
 ·refine .inr ⟨I.go i _ g hlt,fun x H2 y=>?_⟩
  obtain⟨rfl,hx⟩:=I.yld i _ x H2 g y
  have hx:=hx hlt
  have hm:x∈xs:=List.mem_of_getElem? hx
  have et:xs.take (i+1)=xs.take i++[x]:=by rw[List.take_add_one,hx];rfl
  change te (some x::rest) H2 _
  refine he H2 x g hm _ fun t' H3 g3 hn h3=>⟨ys,g3 _ _ hl,?_,xs.length-(i+1),by omega,rfl,hlt,⟨_,rfl⟩,Same.upd (g.trans g3) hD _,ys++[.ref t'],aA,?_⟩
  ·have:=hy.len
   rw[List.length_map,List.length_take]at this
   have:=bW hz
   omega
  ·have tD:t'∉[D]:=fun z=>by
    rw[List.mem_singleton.mp z,hl]at hn;cases hn
   rw[et,List.map_append]
   exact(Lns.append tD h3 (hy.same g3)).keep (List.mem_singleton.mpr rfl) (Keep.upd D H3 _)
 ·have e:i=xs.length:=by omega
  subst e
  rw[List.take_length]at hy
  exact .inl ⟨I.stop _ _ g (Nat.le_refl _),hQ D ys H' hD g hl hy⟩
noncomputable def KJ(f:Nat->List Int):V->List Int
 |.int k=>f k.toNat
 |_=>[]
theorem rJ(N:Nat)(f:Nat->Nat->Int):(((List.range N).map fun i=>V.int (0+(i:Nat))).map (KJ fun i=>Pm.ofF N (f i)))=Fz N N f:=by
 rw[Fz,List.map_map]
 refine List.map_congr_left fun i _=>?_
 show Pm.ofF N (f (0+(i:Int)).toNat)=_
 rw[show(0+(i:Int)).toNat=i by omega]
inductive E1(K:PySem.W.Frag)(vs:List V)(H:Hp)(Q:VK)(E:XK):Prop|mk (a:Addr) (ns:List Int) (k:Int) (z_0:vs=[.ref a,.int k]) (z_1:SqL K H a (ns.map V.int)) (z_2:0<=k) (z_3:k<=1000) (z_4:(∀x∈ns,PySem.Builtin.Int.intBits x<=1048576)) (z_5:∀c,Rm.Bd 1048576 c->Q (.int c) H)
noncomputable def v5(K:PySem.W.Frag):Sp:=fun vs H Q E=>E1 K vs H Q E
inductive HJ(vs:List V)(H:Hp)(Q:VK)(E:XK):Prop|mk (c k:Int) (z_0:vs=[.int c,.int k]) (z_1:0<=k) (z_2:k<=1000) (z_3:∀x,0<=x->x<2147483587->Q (.int x) H)
noncomputable def uF:Sp:=fun vs H Q E=>HJ  vs H Q E
inductive Kz(vs:List V)(H:Hp)(Q:VK)(E:XK):Prop|mk (c:Int) (z_0:vs=[.int c]) (z_1:∀b H',Same H H'->ByF b->Q (.int b) H')
noncomputable def Kh:Sp:=fun vs H Q E=>Kz  vs H Q E
noncomputable def wX:List Int:=[0,1,-1,2,1,-2,3,0,1,5]
theorem C1:∀k<10,-10<wX.getD k 0/\wX.getD k 0<10:=by decide
inductive Hg(vs:List V)(H:Hp)(Q:VK)(E:XK):Prop|mk (b c k:Int) (z_0:vs=[.int b,.int c,.int k]) (z_1:ByF b) (z_2:Rm.Bd 1048576 c) (z_3:0<=k) (z_4:k<=30) (z_5:∀x H',Same H H'->gJ b x->Rm.Bd 31 x->(k<15->Rm.Bd 13 x)->Q (.int x) H')
noncomputable def Bl:Sp:=fun vs H Q E=>Hg  vs H Q E
structure RwW(r:Rw)(c:Nat):Prop where
 len:r.rule.length=r.starts.length
 short:r.rule.length<=24
 by0:0<=r.b
 ruleBd:∀x∈r.rule,Rm.Bd 60000 x
 GB:∀n,n<=c->∀x∈r.row n,Rm.Bd 61000000 x
theorem ni.w{r:Rw}(h:ni r){c:Nat}(hc:c<=1000):RwW r c:=⟨h.len,h.short,h.by0,h.ruleBd,fun n hn=>h.GB n (by omega)⟩
inductive yg(vs:List V)(H:Hp)(Q:VK)(E:XK):Prop|mk (v:V) (r:Rw) (c:Int) (z_0:vs=[v,.int c]) (z_1:fQ H v r) (z_2:RwW r c.toNat) (z_3:0<=c) (z_4:c<=900) (z_5:Told H Q ((r.row c.toNat).map V.int))
noncomputable def jy:Sp:=fun vs H Q E=>yg  vs H Q E
inductive Ah(vs:List V)(H:Hp)(Q:VK)(E:XK):Prop|mk (b:Int) (m:Nat) (r0:Rw) (s:Nat) (v:V) (r:Rw) (n:Int) (z_0:vs=[v,.int n]) (z_1:fQ H v r) (z_2:ByF b) (z_3:Bs b m r0) (z_4:RwS b r0 s r) (z_5:s<3) (z_6:r.rule.length<12) (z_7:Rm.Bd 10 n) (z_8:∀v' r' H',Same H H'->fQ H' v' r'->RwS b r0 (s+1) r'->r'.rule.length=r.rule.length+1->Q v' H')
noncomputable def xR:Sp:=fun vs H Q E=>Ah  vs H Q E
noncomputable def ou:List Int:=[0,0,1,0,2,0,0,3]
theorem BW:∀k<8,0<=ou.getD k 0/\ou.getD k 0<=3:=by decide
inductive Em(K:PySem.W.Frag)(vs:List V)(H:Hp)(Q:VK)(E:XK):Prop|mk (a:Addr) (ns:List Int) (st b m:Int) (z_0:vs=[.ref a,.int st,.int b,.int m]) (z_1:SqL K H a (ns.map V.int)) (z_2:0<=st) (z_3:st<=500) (z_4:(∀x∈ns,PySem.Builtin.Int.intBits x<=1048576)) (z_5:ByF b) (z_6:0<=m) (z_7:m<=12) (z_8:∀v r0 s r H',Same H H'->fQ H' v r->Bs b m.toNat r0->RwS b r0 s r->s<=3->r.rule.length<=m.toNat+s->Q v H')
noncomputable def BJ(K:PySem.W.Frag):Sp:=fun vs H Q E=>Em K vs H Q E
inductive yX(vs:List V)(H:Hp)(Q:VK)(E:XK):Prop|mk (b x last:Int) (z_0:vs=[.int b,.int x,.int last]) (z_1:0<=b) (z_2:(b=0->last≠0/\Rm.Bd 8999 last)) (z_3:Q (.int (Dm.sh b x last)) H)
noncomputable def uq:Sp:=fun vs H Q E=>yX  vs H Q E
theorem J8{x:Int}{n:Nat}(h:Rm.Bd n x)(hx:x≠0):x.natAbs.log2<n:=(Nat.log2_lt (by omega)).mpr h
theorem RkI.GD{b:Int}{n c:Nat}{A0 A:Nat->Nat->Int}{t:List (List Int)}{last:Int}{ua:Nat}(h:Dm.RkI b n c A0 A t last ua)(hb:b=0)(hc:c<=10)(hua:ua<=850):last≠0/\Rm.Bd 8999 last:=by
 have e:=h.la hb
 have nz:=h.nz
 rw[<-e,hb,Rm.bD]at nz
 refine⟨nz,?_⟩
 rw[e]
 refine(Dm.uz fun i k _ _=>h.bdd _ _).mono ?_
 have:c*(ua+c)<=10*(850+10):=Nat.mul_le_mul hc (by omega)
 omega
noncomputable def hkN(n:Nat)(a:Nat->Int):Nat->Nat->Int:=fun i k=>if i<n/\k<n then a (i+k)else 0
theorem Fo{n:Nat}{a:Nat->Int}{i k:Nat}(hi:i<n)(hk:k<n):hkN n a i k=a (i+k):=if_pos ⟨hi,hk⟩
theorem Dc{b:Int}{n m:Nat}{a x:Nat->Int}(hm:m<=n):Dm.Rel b n m (hkN n a) x↔Dm.Rel b n m (Dm.hk a) x:=
 forall_congr' fun i=>forall_congr' fun hi=>by rw[Pm.aC fun k hk=>by rw[Fo hi (by omega)]];rfl
inductive GR(vs:List V)(H:Hp)(Q:VK)(E:XK):Prop|mk (b:Int) (n:Nat) (l:Addr) (ps:List Int) (a:Nat->Int) (L:List Int) (ua:Nat) (z_0:vs=[.int b,.int (n:Int),.ref l]) (z_1:H l=some (.lst (ps.map V.int))) (z_2:2*n<=ps.length+1) (z_3:(∀i,i<ps.length->Pm.co ps i=a i)) (z_4:ByP b) (z_5:cI b a L) (z_6:L.length<=n+1) (z_7:n<=12) (z_8:(∀i,Rm.tk b (a i)=a i)) (z_9:ua<=850) (z_10:10<=ua) (z_11:(∀i,i<=22->Rm.Bd ua (a i))) (z_12:∀H',Same H H'->Q (.int ((L.length-1:Nat):Int)) H')
noncomputable def Bc:Sp:=fun vs H Q E=>GR  vs H Q E
theorem E3{m:Nat}{p:Nat->Bool}:((List.range m).filter p=[]/\∀i,i<m->p i=false)∨∃i r,(List.range m).filter p=i::r/\i<m/\p i=true:=by
 cases e:(List.range m).filter p with
 |nil=>
  refine .inl ⟨rfl,fun i hi=>?_⟩
  have:=List.filter_eq_nil_iff.mp e i (List.mem_range.mpr hi)
  simpa using this
 |cons i r=>
  have hm:i∈(List.range m).filter p:=by rw[e];exact List.mem_cons_self
  obtain⟨h1,h2⟩:=List.mem_filter.mp hm
  exact .inr ⟨i,r,rfl,List.mem_range.mp h1,h2⟩
theorem Bf{lo n:Nat}{ix:List (Option Nat)}{tc:TT}{te:TE}{σ:St}{H1:Hp}{Q:VK}(hz:n<=1000){rest:St}(hst:cst ix σ=none::rest)(p:Nat->Bool)
  (ht:∀H' k,Same H1 H'->k<n->∀kk:Bool->Hp->Prop,kk (p k) H'->tc (some (.int ((lo:Int)+(k:Int)))::rest) H' kk)
  (he:∀H' k,Same H1 H'->k<n->p k=true->∀kk:VK,kk (.int ((lo:Int)+(k:Int))) H'->te (some (.int ((lo:Int)+(k:Int)))::rest) H' kk)
  (hQ:∀D,H1 D=none->Q (.ref D) (upd H1 D (.lst ((((List.range n).filter p).map fun k:Nat=>(lo:Int)+(k:Int)).map V.int)))):m9 ix (kE 0) tc te σ Q (Itr (lo:Int) n) H1:=by
 refine iD jm (by rw[List.length_map,List.length_range];exact Nat.le_of_lt (bW hz)) hst (fun x=>match x with | .int k=>p (k-lo).toNat|_=>false) (fun x=>x) ?_ ?_ ?_
 ·intro H2 x g2 hx k hk
  obtain⟨j,hj,rfl⟩:=List.mem_map.mp hx
  refine ht H2 j g2 (List.mem_range.mp hj) k ?_
  have hk':k (p ((lo:Int)+(j:Int)-lo).toNat) H2:=hk
  rwa [show((lo:Int)+(j:Int)-lo).toNat=j by omega]at hk'
 ·intro H2 x g2 hx hp k hk
  obtain⟨j,hj,rfl⟩:=List.mem_map.mp hx
  have hp':p ((lo:Int)+(j:Int)-lo).toNat=true:=hp
  rw[show((lo:Int)+(j:Int)-lo).toNat=j by omega]at hp'
  exact he H2 j g2 (List.mem_range.mp hj) hp' k hk
 ·intro D hD
  have el:((((List.range n).map fun i=>V.int ((lo:Int)+(i:Nat))).filter fun x=>match x with | .int k=>p (k-lo).toNat|_=>false).map fun x=>x)=(((List.range n).filter p).map fun k:Nat=>(lo:Int)+(k:Int)).map V.int:=by
   rw[List.map_id',List.filter_map,List.map_map]
   refine congrArg (List.map _) (List.filter_congr fun k _=>?_)
   show p ((lo:Int)+(k:Int)-lo).toNat=p k
   rw[show((lo:Int)+(k:Int)-lo).toNat=k by omega]
  rw[el]
  exact hQ D hD
theorem Bm{P0:Nat}(hP:P0∈Om.gF)(h2:2<=P0){a:Nat->Int}:∀(n:Nat) (P:List Int),P.length=n->Pm.Mon P->(∀k,Rm.tk P0 (Pm.co P k)=Pm.co P k)->Pm.Kp P0 P a->∃L,cI P0 a L/\L.length<=n:=fun n=>by
 induction n using Nat.strongRecOn with
 |ind n ih=>
  intro P hl hm hn hK
  by_cases c:∀q,Pm.Kp P0 q a->Pm.Dv P0 P (Pm.co q)
  ·exact⟨P,⟨hm,hn,hK,c⟩,by omega⟩
  ·obtain⟨q,hq⟩:=Classical.not_forall.mp c
   have hq1:Pm.Kp P0 q a:=Classical.byContradiction fun z=>hq fun y=>absurd y z
   have hq2:¬Pm.Dv P0 P (Pm.co q):=fun z=>hq fun _=>z
   have eq:∀k,Pm.co (q.map (Rm.tk (P0:Int))) k=Rm.tk P0 (Pm.co q k):=fun k=>Pm.oW (Pm.tk0 _) ..
   obtain⟨s,r,D⟩:=Pm.wF hm (p:=q.map (Rm.tk (P0:Int))) (fun k=>by rw[eq,Rm.iY])
   have hr:Pm.Kp P0 r a:=(D.kp hK).mp (hq1.congr fun k=>by rw[eq,Rm.iY])
   by_cases z:r=[]
   ·refine absurd ⟨Pm.co s,s.length,Pm.Fs.co s,fun k=>?_⟩ hq2
    have:=D.eq k
    rw[z,Pm.dF,Int.add_zero,eq,Rm.iY]at this
    exact this.symm
   ·have M:=Pm.B5 hP h2 D.ry z
    have hs:=D.short
    obtain⟨L,h1,h3⟩:=ih r.length (by omega) _ M.len (M.mon z) (fun k=>M.py.co k) ((Pm.In2.scale M.to r).kp hr hr)
    exact⟨L,h1,by omega⟩
theorem Er{b:Int}(hB:ByP b){P:List Int}{a:Nat->Int}(hm:Pm.Mon P)(hn:∀k,Rm.tk b (Pm.co P k)=Pm.co P k)(hK:Pm.Kp b P a):∃L,cI b a L/\L.length<=P.length:=by
 rcases hB with rfl|⟨P0,hP,rfl⟩
 ·obtain⟨g,L,hL,hy,hk,hall,hl,_,G⟩:=Pm.FJ hm hK
  have:=G.mon.pos
  exact⟨L,⟨hL,fun k=>Rm.bD _,hk,hall⟩,by omega⟩
 ·exact Bm hP (dz P0 hP).1 _ P rfl hm hn hK
theorem cI.uniq{b:Int}(h1:Rm.tk b 1=1){f:Nat->Int}{L L':List Int}(h:cI b f L)(h':cI b f L'):L=L':=by
 have d:=h.all L' h'.kp
 have d':=h'.all L h.kp
 have l1:=d.len h1 h.mon h'.mon
 have l2:=d'.len h1 h'.mon h.mon
 refine Pm.jN (by omega) fun k=>?_
 rw[<-h.nu k,<-h'.nu k]
 exact(d.same h1 h.mon h'.mon (by omega) k).symm
theorem cI.congr{b:Int}{f f':Nat->Int}(e:∀n,f n=f' n){L:List Int}(h:cI b f L):cI b f' L:=by
 have:f=f':=funext e
 rw[<-this];exact h
theorem pD{r:Rw}(hn:∀n,Rm.tk r.b (r.at n)=r.at n){L:List Int}(h:cI r.b r.at L)(hl:L.length<=r.starts.length+1)(n:Nat):(cu r L).at n=r.at n:=by
 have hp:=h.mon.pos
 refine Pm.CV h.nu h.mon h.kp hn (starts:=r.starts.take (L.length-1)) ?_ ?_ n
 ·rw[List.length_take];omega
 ·intro i hi
  rw[List.length_take]at hi
  have e:r.at i=r.starts.getD i 0:=Rm.ql (by omega)
  rw[e,List.getD_eq_getElem?_getD,List.getElem?_take,if_pos (by omega),<-List.getD_eq_getElem?_getD]
theorem ni.uE{r:Rw}(ok:ni r)(n:Nat):gJ r.b (r.at n):=by
 by_cases h:r.b=0
 ·exact .inl h
 ·have h0:=ok.by0
  refine .inr (Rm.xX ok.len (by omega) (fun x hx=>?_) n)
  rcases ok.startsNum x hx with z|z
  ·exact absurd z h
  ·exact z
theorem ni.AF{r:Rw}(ok:ni r)(n:Nat):Rm.tk r.b (r.at n)=r.at n:=Bo (ok.uE n)
structure Mr(b:Int)(r:Rw)(ua u:Nat):Prop where
 hB:ByF b
 by_:r.b=b
 ok:ni r
 len12:r.rule.length<=12
 ruleBd:∀x∈r.rule,Rm.Bd u x
 at_:∀n,n<=24->Rm.Bd ua (r.at n)
 u10:10<=u
 ua10:10<=ua
 sz:12*(ua+12)+1+(u+400)+57<=112100
theorem Mr.tame{b:Int}{r:Rw}{ua u:Nat}(h:Mr b r ua u):Tame r:=fun hz=>by
 have hl:=h.len12
 have hk:=h.ok.kp
 rw[hz]at hk
 exact⟨12,ua,u,h.u10,h.ruleBd,⟨_,Pm.iy _ _,hk,by rw[Pm.cj];omega⟩,fun n hn=>h.at_ n (by omega),h.sz⟩
theorem Mr.byp{b:Int}{r:Rw}{ua u:Nat}(h:Mr b r ua u):ByP r.b:=by rw[h.by_];exact h.hB.p
theorem Mr.ex{b:Int}{r:Rw}{ua u:Nat}(h:Mr b r ua u):∃L,cI b r.at L/\L.length<=r.rule.length+1:=by
 have hk:=h.ok.kp
 rw[h.by_]at hk
 obtain⟨L,h1,h2⟩:=Er h.hB.p (Pm.iy b r.rule) (tM b r.rule h.hB.one) hk
 exact⟨L,h1,by rw[Pm.cj]at h2;exact h2⟩
theorem Mr.sH{b:Int}{r:Rw}{ua u:Nat}(h:Mr b r ua u){L:List Int}(lst:cI b r.at L)(ll:L.length<=13)(k:Nat):Rm.Bd (12*(ua+12)+11) (Pm.co L k):=by
 by_cases z:b=0
 ·have hne:=Dm.vZ h.hB.p.dom (by rw[h.hB.one];decide) lst.mon lst.nu lst.kp lst.all
  have hk:=lst.kp
  rw[z]at hne hk
  rw[Rm.bD]at hne
  have q:=Pm.sH lst.mon hk hne (u:=ua) (fun n hn=>h.at_ n (by omega)) k
  have z1:(L.length-1)*(ua+(L.length-1))<=12*(ua+12):=Nat.mul_le_mul (by omega) (by omega)
  exact q.mono (by omega)
 ·have:=lst.nu k
  rw[<-this]
  exact Fl h.hB (by omega) z (qF h.hB.lo _)
theorem jJ{r:Rw}{L:List Int}(hl:L.length<=r.rule.length+1)(ok:ni r):(cu r L).rule.length=L.length-1/\(cu r L).starts.length=L.length-1:=by
 have:=ok.len
 refine⟨Pm.dX ..,?_⟩
 show(r.starts.take (L.length-1)).length=_
 rw[List.length_take];omega
theorem Mr.short{b:Int}{r:Rw}{ua u:Nat}(h:Mr b r ua u){L:List Int}(lst:cI b r.at L)(ll:L.length<=r.rule.length+1)(hs:12*(ua+12)+1+(12*(ua+12)+11+400)+57<=112100):Mr b (cu r L) ua (12*(ua+12)+11):=by
 have e:=h.by_
 have ok:=h.ok
 have l12:=h.len12
 obtain⟨l1,l2⟩:=jJ ll ok
 have lst':cI r.b r.at L:=by rw[e];exact lst
 have bd:∀x∈(cu r L).rule,Rm.Bd (12*(ua+12)+11) x:=fun x hx=>by
  obtain⟨k,_,rfl⟩:=Pm.fR (show x∈Pm.ofF _ _ from hx)
  rw[e]
  refine qI h.hB (by omega) ?_
  rw[Int.zero_sub];exact Pm.xO (h.sH lst (by omega) _)
 have hl:=ok.len
 refine⟨h.hB,e,⟨by omega,by omega,ok.by0,ok.by1,fun x hx=>?_,fun x hx=>ok.startsNum x (List.mem_of_mem_take hx),fun x hx=>(bd x hx).mono (by omega),fun x hx=>ok.startsBd x (List.mem_of_mem_take hx)⟩,by omega,bd,fun n hn=>?_,by omega,h.ua10,hs⟩
 ·obtain⟨k,_,rfl⟩:=Pm.fR (show x∈Pm.ofF _ _ from hx)
  exact qF ok.by0 _
 ·rw[pD ok.AF lst' (by omega)];exact h.at_ n hn
theorem RwS.mr{b:Int}(hb:ByF b){m:Nat}{r0 r:Rw}{s:Nat}(h0:Bs b m r0)(h:RwS b r0 s r)(hs:s<=3):Mr b r 439 49:=
 ⟨hb,h.by_,h.ok hb h0 hs,h.short,fun x hx=>(h.ruleBd x hx).mono (by unfold uS;omega),fun n hn=>by
  rw[h.same n]
  exact(h0.Bh hb n).mono (by omega),by decide,by decide,by decide⟩
theorem vV(r:Rw)(n:Nat):r.row n=Pm.ofF n r.at:=Rm.BK ..
inductive IV(vs:List V)(H:Hp)(Q:VK)(E:XK):Prop|mk (v:V) (b:Int) (r:Rw) (ua u:Nat) (L:List Int) (z_0:vs=[v]) (z_1:fQ H v r) (z_2:Mr b r ua u) (z_3:ua<=850) (z_4:cI b r.at L) (z_5:L.length<=r.rule.length+1) (z_6:∀H',Same H H'->Q (.int ((L.length-1:Nat):Int)) H')
noncomputable def KQ:Sp:=fun vs H Q E=>IV  vs H Q E
inductive C7(vs:List V)(H:Hp)(Q:VK)(E:XK):Prop|mk (v:V) (r:Rw) (z_0:vs=[v,.int r.b]) (z_1:fQ H v r) (z_2:ni r) (z_3:∀H',Same H H'->Q (.bl true) H')
noncomputable def wI:Sp:=fun vs H Q E=>C7  vs H Q E
structure Rt(b:Int)(r:Rw)(a:Nat->Int)(L:List Int)(ua:Nat):Prop where
 hB:ByF b
 by_:r.b=b
 ok:ni r
 same:∀n,r.at n=a n
 lst:cI b a L
 len:r.rule.length=L.length-1
 len12:r.rule.length<=12
 hua:ua<=850
 ua10:10<=ua
 bd:∀i,i<=22->Rm.Bd ua (a i)
inductive DV(vs:List V)(H:Hp)(Q:VK)(E:XK):Prop|mk (v:V) (b:Int) (r:Rw) (m:Int) (l:Addr) (a:Nat->Int) (L:List Int) (ua:Nat) (z_0:vs=[v,.int b,.int m,.ref l]) (z_1:fQ H v r) (z_2:Rt b r a L ua) (z_3:(r.rule.length:Int)<=m) (z_4:H l=some (.lst ((Pm.ofF 48 a).map V.int))) (z_5:∀H',Same H H'->Q (.bl true) H')
noncomputable def Ci:Sp:=fun vs H Q E=>DV  vs H Q E
noncomputable def wV(C:Addr):(Hp->VK->XK->Prop)->Hp->VK->XK->Prop:=fun sp0 H Q _=>∃(R:V->Hp->Prop) (far:Bool),(∀Q' E',(far=false->∀v H2,Same H H2->R v H2->Q' v H2)->(far=true->∀H2,Same H H2->E' (.ref C) none H2)->sp0 H Q' E')/\
 (far=false->∀v H2,Same H H2->R v H2->Q v H2)/\(far=true->∀H3,Same H H3->Q (.str "long") H3)
structure TR(b:Int)(r:Rw)(a:Nat->Int)(L:List Int):Prop where
 by_:r.b=b
 ok:ni r
 same:∀n,r.at n=a n
 lst:cI b a L
 len:r.rule.length=L.length-1
 len12:r.rule.length<=12
theorem TR.rt{b:Int}{r:Rw}{a:Nat->Int}{L:List Int}(h:TR b r a L)(hB:ByF b){ua:Nat}(hua:ua<=850)(ua10:10<=ua)(bd:∀i,i<=22->Rm.Bd ua (a i)):Rt b r a L ua:=⟨hB,h.by_,h.ok,h.same,h.lst,h.len,h.len12,hua,ua10,bd⟩
theorem TR.congr{b:Int}{r:Rw}{a a':Nat->Int}{L:List Int}(h:TR b r a L)(e:∀n,a n=a' n):TR b r a' L:=⟨h.by_,h.ok,fun n=>(h.same n).trans (e n),h.lst.congr e,h.len,h.len12⟩
theorem Mr.told{b:Int}{r:Rw}{ua u:Nat}(h:Mr b r ua u){L:List Int}(lst:cI b r.at L)(ll:L.length<=r.rule.length+1)(hs:12*(ua+12)+1+(12*(ua+12)+11+400)+57<=112100):TR b (cu r L) r.at L:=by
 have l:=jJ ll h.ok
 have:=h.len12
 have hl:=h.ok.len
 exact⟨h.by_,(h.short lst ll hs).ok,pD h.ok.AF (by rw[h.by_];exact lst) (by omega),lst,l.1,by rw[l.1];omega⟩
theorem uH{b:Int}{xs:List Int}(h:∀x∈xs,gJ b x):xs.map (Rm.tk b)=xs:=by
 exact(List.map_congr_left (f:=Rm.tk b) (g:=id) fun x hx=>Bo (h x hx)).trans (List.map_id xs)
theorem wM{J:It}{xs:List Int}{ix:List (Option Nat)}{te:TE}{σ:St}{H1:Hp}{Q:VK}(I:ItS J (xs.map V.int) H1)(hz:xs.length<=1000){rest:St}(hst:cst ix σ=none::rest)(f:Int->Int)
  (he:∀H' x,Same H1 H'->x∈xs->∀kk:VK,kk (.int (f x)) H'->te (some (.int x)::rest) H' kk)
  (hQ:∀D,H1 D=none->Q (.ref D) (upd H1 D (.lst ((xs.map f).map V.int)))):m9 ix (kE 0) Dh te σ Q J H1:=by
 refine iD I (by rw[List.length_map];exact Nat.le_of_lt (bW hz)) hst (fun _=>true) (fun x=>match x with | .int k=> .int (f k)|_=> .non) ?_ ?_ ?_
 ·intro H2 x g2 hx k hk;exact hk
 ·intro H2 x g2 hx _ k hk
  obtain⟨y,hy,rfl⟩:=List.mem_map.mp hx
  exact he H2 y g2 hy k hk
 ·intro D hD
  have el:(((xs.map V.int).filter fun _=>true).map fun x=>match x with | .int k=>V.int (f k)|_=>V.non)=(xs.map f).map V.int:=by
   rw[List.filter_eq_self.mpr (by simp),List.map_map,List.map_map];rfl
  rw[el]
  exact hQ D hD
noncomputable def Ints(H:Hp)(a:Addr)(xs:List Int):Prop:=H a=some (.lst (xs.map V.int))∨H a=some (.tup (xs.map V.int))
theorem Ints.same{H H':Hp}{a:Addr}{xs:List Int}(h:Ints H a xs)(g:Same H H'):Ints H' a xs:=h.imp (g _ _) (g _ _)
theorem sZ{K:PySem.W.Frag}{a:Addr}{xs:List Int}{ix:List (Option Nat)}{te:TE}{σ:St}{H1:Hp}{Q:VK}(hA:Ints H1 a xs)(hz:xs.length<=1000){rest:St}(hst:cst ix σ=none::rest)(f:Int->Int)
  (he:∀H' x,Same H1 H'->x∈xs->∀kk:VK,kk (.int (f x)) H'->te (some (.int x)::rest) H' kk)
  (hQ:∀D,H1 D=none->Q (.ref D) (upd H1 D (.lst ((xs.map f).map V.int)))):∃a',V.ref a = .ref a'/\(((∃ys,SqL K H1 a' ys)/\m9 ix (kE 0) Dh te σ Q (Itl K a') H1)∨((∃ys,SqT K H1 a' ys)/\m9 ix (kE 0) Dh te σ Q (Itt K a') H1)):=by
 rcases hA with h|h
 ·exact⟨a,rfl,.inl ⟨⟨_,SqL.of h⟩,wM (xJ (SqL.of h)) hz hst f he hQ⟩⟩
 ·exact⟨a,rfl,.inr ⟨⟨_,SqT.of h⟩,wM (sV (SqT.of h)) hz hst f he hQ⟩⟩
inductive GJ(C:Addr)(vs:List V)(H:Hp)(Q:VK)(E:XK):Prop|mk (n:Int) (z_0:vs=[.int n]) (z_1:(n<=12->Q .non H)) (z_2:(12<n->E (.ref C) none H))
noncomputable def FQ(C:Addr):Sp:=fun vs H Q E=>GJ C vs H Q E
inductive Ge(vs:List V)(H:Hp)(Q:VK)(E:XK):Prop|mk (b:Int) (a c:Addr) (ns ms:List Int) (ua u:Nat) (z_0:vs=[.int b,.ref a,.ref c]) (z_1:Ints H a ns) (z_2:Ints H c ms) (z_3:ns.length<=1000) (z_4:ms.length<=1000) (z_5:Mr b ⟨b,ns.map (Rm.tk b),ms.map (Rm.tk b)⟩ ua u) (z_6:12*(ua+12)+1+(12*(ua+12)+11+400)+57<=112100) (z_7:∀v' r' L H',Same H H'->fQ H' v' r'->TR b r' (⟨b,ns.map (Rm.tk b),ms.map (Rm.tk b)⟩:Rw).at L->L.length<=ns.length+1->Q v' H')
noncomputable def Fj:Sp:=fun vs H Q E=>Ge  vs H Q E
noncomputable def ahd(ns:List Int)(a:Nat->Int):Nat->Int:=fun n=>if n<ns.length then Pm.co ns n else a (n-ns.length)
noncomputable abbrev zer(k:Nat):List Int:=Pm.ofF k fun _=>0
theorem Ez{b:Int}{lr ls ns:List Int}(hl:lr.length=ls.length)(n:Nat):(⟨b,lr++zer ns.length,ns++ls⟩:Rw).at n=ahd ns (⟨b,lr,ls⟩:Rw).at n:=by
 refine Rm.rD (by rw[List.length_append,List.length_append,Pm.aU];omega) (g:=ahd ns (⟨b,lr,ls⟩:Rw).at) (fun i hi=>?_) (fun i hi=>?_) n
 ·rw[List.length_append]at hi
  have e:(ns++ls).getD i 0=Pm.co (ns++ls) i:=rfl
  rw[e,Pm.cQ]
  unfold ahd
  by_cases c:i<ns.length
  ·rw[if_pos c,if_pos c]
  ·rw[if_neg c,if_neg c]
   exact Rm.ql (show i-ns.length<ls.length by omega)
 ·rw[List.length_append]at hi
  have e0:ahd ns (⟨b,lr,ls⟩:Rw).at i=(⟨b,lr,ls⟩:Rw).at (i-ns.length):=if_neg (by omega)
  have e1:(⟨b,lr,ls⟩:Rw).at (i-ns.length)=Rm.tk b (Rm.S lr (⟨b,lr,ls⟩:Rw).at (i-ns.length) lr.length):=Rm.su hl (show ls.length<=i-ns.length by omega)
  rw[e0,e1,Pm.Cw,Pm.Cw,List.length_append,Pm.aU]
  refine congrArg (Rm.tk b) ?_
  rw[Pm.fj (m:=lr.length) (n:=lr.length+ns.length) (by omega) fun k h1 h2=>by
   rw[Pm.cQ,if_neg (by omega),Pm.cF]
   split<;>rw[Int.zero_mul]]
  refine Pm.aC fun k hk=>?_
  rw[Pm.cQ,if_pos hk]
  congr 1
  unfold ahd
  rw[if_neg (by omega),show i-1-k-ns.length=i-ns.length-1-k by omega]
theorem Mr.Jw{b:Int}{r:Rw}{ua u:Nat}(h:Mr b r ua u)(hua:ua<=700){L:List Int}(lst:cI b r.at L)(ll:L.length<=r.rule.length+1){ns:List Int}(hn:∀x∈ns,gJ b x)(hnb:∀x∈ns,Rm.Bd ua x)(h12:L.length-1+ns.length<=12):
  Mr b ⟨b,(cu r L).rule++zer ns.length,ns++(cu r L).starts⟩ ua (12*(ua+12)+11)/\∀n,(⟨b,(cu r L).rule++zer ns.length,ns++(cu r L).starts⟩:Rw).at n=ahd ns r.at n:=by
 have eb:=h.by_
 have M:=h.short lst ll (by omega)
 obtain⟨l1,l2⟩:=jJ ll h.ok
 have hl:=h.ok.len
 have hb0:=h.hB.lo
 have ua10:=h.ua10
 have ea:∀n,(⟨b,(cu r L).rule++zer ns.length,ns++(cu r L).starts⟩:Rw).at n=ahd ns r.at n:=fun n=>by
  rw[Ez (by omega)]
  unfold ahd
  split
  ·rfl
  ·have:=pD h.ok.AF (L:=L) (by rw[eb];exact lst) (by omega) (n-ns.length)
   rw[<-this]
   show Rm.at_ b _ _ _=Rm.at_ r.b _ _ _
   rw[eb]
 have nz:∀x∈zer ns.length,x=0:=fun x hx=>by obtain⟨k,_,rfl⟩:=Pm.fR hx;rfl
 have n0:gJ b 0:=by
  by_cases z:b=0
  ·exact .inl z
  ·exact .inr ⟨Int.le_refl _,by omega⟩
 have ab:∀n,n<=24->Rm.Bd ua (ahd ns r.at n):=fun n hn=>by
  unfold ahd
  split
  ·exact Pm.rA hnb _
  ·exact h.at_ _ (by omega)
 refine⟨⟨h.hB,rfl,⟨?_,?_,hb0,h.hB.hi,fun x hx=>?_,fun x hx=>?_,fun x hx=>?_,fun x hx=>?_⟩,?_,fun x hx=>?_,fun n hn=>by rw[ea n];exact ab n hn,by omega,ua10,M.sz⟩,ea⟩
 ·show((cu r L).rule++zer ns.length).length=(ns++(cu r L).starts).length
  rw[List.length_append,List.length_append,Pm.aU];omega
 ·show((cu r L).rule++zer ns.length).length<=24
  rw[List.length_append,Pm.aU];omega
 ·rcases List.mem_append.mp hx with z|z
  ·have:=M.ok.ruleNum x z
   rw[M.by_]at this;exact this
  ·rw[nz x z];exact n0
 ·rcases List.mem_append.mp hx with z|z
  ·exact hn x z
  ·have:=M.ok.startsNum x z
   rw[M.by_]at this;exact this
 ·rcases List.mem_append.mp hx with z|z
  ·exact M.ok.ruleBd x z
  ·rw[nz x z];exact Rm.Bd.zero _
 ·rcases List.mem_append.mp hx with z|z
  ·exact(hnb x z).mono (by omega)
  ·exact M.ok.startsBd x z
 ·show((cu r L).rule++zer ns.length).length<=12
  rw[List.length_append,Pm.aU];omega
 ·rcases List.mem_append.mp hx with z|z
  ·exact M.ruleBd x z
  ·rw[nz x z];exact Rm.Bd.zero _
theorem Ea{n m:Nat}(a:Nat->Int)(h:n<=m):(Pm.ofF m a).take n=Pm.ofF n a:=by
 rw[Pm.ofF,Pm.ofF,<-List.map_take,List.take_range,Nat.min_eq_left h]
inductive Eo(C:Addr)(vs:List V)(H:Hp)(Q:VK)(E:XK):Prop|mk (v:V) (b:Int) (r:Rw) (ua u:Nat) (L:List Int) (ln:Addr) (ns:List Int) (z_0:vs=[v,.ref ln]) (z_1:fQ H v r) (z_2:Mr b r ua u) (z_3:ua<=700) (z_4:cI b r.at L) (z_5:L.length<=r.rule.length+1) (z_6:H ln=some (.lst (ns.map V.int))) (z_7:ns.length<=12) (z_8:(∀x∈ns,gJ b x)) (z_9:(∀x∈ns,Rm.Bd ua x)) (z_10:(L.length-1+ns.length<=12->∀v' r' L' H',Same H H'->fQ H' v' r'->TR b r' (ahd ns r.at) L'->r'.rule.length<=L.length-1+ns.length->Q v' H')) (z_11:(12<L.length-1+ns.length->∀H',Same H H'->E (.ref C) none H'))
noncomputable def AH(C:Addr):Sp:=fun vs H Q E=>Eo C vs H Q E
theorem fQ.MN{H H':Hp}{v:V}{r:Rw}(h:fQ H v r)(g:qg H H'):fQ H' v r:=by
 obtain⟨a,p,q,e,h1,h2,h3⟩:=h
 exact⟨a,p,q,e,g.tup h1,g.tup h2,g.tup h3⟩
noncomputable abbrev V8(x:Str):Str:=(x++ ".<locals>.")++ "<lambda>"
inductive Gj(K:PySem.W.Frag)(T:Addr)(vs:List V)(H:Hp)(Q:VK)(E:XK):Prop|mk (a:Addr) (ns:List Int) (z_0:vs=[.ref a]) (z_1:SqL K H a (ns.map V.int)) (z_2:ns.length<=63) (z_3:(∀x∈ns,PySem.Builtin.Int.intBits x<=1048576)) (z_4:(∀q,pO H T q)) (z_5:∀H',Q (.bl true) H')
noncomputable def Cj(K:PySem.W.Frag)(T:Addr):Sp:=fun vs H Q E=>Gj K T vs H Q E
noncomputable def vU:List Int:=[0,1,2,3,4,6,9,12]
theorem Et:∀k<8,0<=vU.getD k 0/\vU.getD k 0<=12:=by decide
noncomputable def Rw.on(r:Rw)(n:Nat):Rw:=⟨r.b,r.rule,Pm.ofF r.rule.length fun m=>r.at (n+m)⟩
theorem Rw.Q6{r:Rw}(hl:r.rule.length=r.starts.length)(n m:Nat):(r.on n).at m=r.at (n+m):=
 Rm.CM (b:=r.b) (rule:=r.rule) (starts:=r.starts) (w:=(r.on n).starts) (d:=n) hl (by show(Pm.ofF _ _).length=_;rw[Pm.aU,hl]) (fun i hi=>by
  have e:(r.on n).starts.getD i 0=Pm.co (Pm.ofF r.rule.length fun m=>r.at (n+m)) i:=rfl
  have hi':i<r.rule.length:=by rw[<-Pm.aU r.rule.length fun m=>r.at (n+m)];exact hi
  rw[e,Pm.cF,if_pos hi'];rfl) m
theorem RwS.onM{b:Int}(hb:ByF b){m:Nat}{r0 r:Rw}{s:Nat}(h0:Bs b m r0)(h:RwS b r0 s r)(hs:s<=3){k:Nat}(hk:k<=12):Mr b (r.on k) 643 49:=by
 have M:=h.mr hb h0 hs
 have eb:=h.by_
 have h12:=h.short
 have ab:∀n,n<=24->Rm.Bd 643 (r.at (k+n)):=fun n hn=>by
  rw[h.same]
  exact(h0.Bh hb _).mono (by have:(k+n)*17<=36*17:=Nat.mul_le_mul_right _ (by omega);omega)
 refine⟨hb,eb,⟨?_,M.ok.short,M.ok.by0,M.ok.by1,M.ok.ruleNum,fun x hx=>?_,M.ok.ruleBd,fun x hx=>?_⟩,h12,M.ruleBd,fun n hn=>?_,by decide,by decide,by decide⟩
 ·show r.rule.length=(Pm.ofF _ _).length
  rw[Pm.aU]
 ·obtain⟨j,_,rfl⟩:=Pm.fR (show x∈Pm.ofF _ _ from hx)
  exact M.ok.uE _
 ·obtain⟨j,hj,rfl⟩:=Pm.fR (show x∈Pm.ofF _ _ from hx)
  exact(ab j (by omega)).mono (by decide)
 ·rw[Rw.Q6 h.len];exact ab n hn
theorem Mr.mono{b:Int}{r:Rw}{ua u ua' u':Nat}(h:Mr b r ua u)(h1:ua<=ua')(h2:u<=u')(hs:12*(ua'+12)+1+(u'+400)+57<=112100):Mr b r ua' u':=
 ⟨h.hB,h.by_,h.ok,h.len12,fun x hx=>(h.ruleBd x hx).mono h2,fun n hn=>(h.at_ n hn).mono h1,Nat.le_trans h.u10 h2,Nat.le_trans h.ua10 h1,hs⟩
theorem GC(r:Rw){n s N:Nat}(h:n+s<=N):uQ ((Pm.ofF N r.at).map V.int) (some (n:Int)) (some ((n:Int)+(s:Int)))=(Pm.ofF s fun m=>r.at (n+m)).map V.int:=by
 have lN:((Pm.ofF N r.at).map V.int).length=N:=by rw[List.length_map,Pm.aU]
 unfold uQ
 rw[show(n:Int)+(s:Int)=((n+s:Nat):Int)by omega,HT.jo,HT.jo,lN,Nat.min_eq_left h,Nat.min_eq_left (show n<=N by omega),show n+s-n=s by omega]
 apply List.ext_getElem
 ·simp[Pm.ofF];omega
 ·intro i h1 h2
  simp[Pm.ofF]
theorem Ht(ns:List Int)(a:Nat->Int)(N:Nat):ns++Pm.ofF N a=Pm.ofF (ns.length+N) (ahd ns a):=by
 refine Pm.jN (by rw[List.length_append,Pm.aU,Pm.aU]) fun k=>?_
 rw[Pm.cQ,Pm.cF (ns.length+N) (ahd ns a) k]
 unfold ahd
 by_cases c:k<ns.length
 ·rw[if_pos c,if_pos (by omega),if_pos c]
 ·rw[if_neg c,if_neg c,Pm.cF]
  by_cases d:k-ns.length<N
  ·rw[if_pos d,if_pos (by omega)]
  ·rw[if_neg d,if_neg (by omega)]
section
variable {P:Program} {w:World} {K:PySem.W.Frag} {mg:Str->Option Value} {base:Heap}
variable {bF aP aG aY aO aD aR aQ au:Addr}
theorem El(B:Bt mg)(F:Fn K mg "taken" uV ["by","number"])(M:Ms K mg base bF aP aG aY aO aD aR aQ au):Cal P w K mg base "taken" 1 ["by","number"] dG:=by
 refine F.cal Dt (fun vs H Q E h=>?_) (fun f cdv A outer s H vs Q E hr h=>?_)
 ·obtain⟨b,n,rfl,_⟩:=h;rfl
 ·obtain⟨b,n,rfl,h0,q⟩:=h
  refine⟨_,(ao (fJ (bI (xeq K hr) (pv 0) aq (bQ _))
   (aJ (bh (pv 1)))
   cC)
   (aJ (bh (aM dD (pv 1) (pv 0))))),?_⟩
  refine⟨_,rfl,_,rfl,?_⟩
  refine j6 (fun c=>?_) (fun c=>?_)
  ·refine⟨_,rfl,?_⟩
   have c':b=0:=dec_true c
   have e:Rm.tk b n=n:=by rw[c',Rm.bD]
   rw[e]at q;exact q
  ·have c':¬b=0:=dec_false c
   refine⟨_,rfl,_,rfl,_,_,rfl,rfl,(by omega:(0:Int)<b),?_⟩
   rw[Rm.dU c']at q;exact q
theorem wj(B:Bt mg)(F:Fn K mg "is_prime" mU ["number"])(M:Ms K mg base bF aP aG aY aO aD aR aQ au):Cal P w K mg base "is_prime" 1 ["number"] xH:=by
 refine F.cal jT (fun vs H Q E h=>?_) (fun f cdv A outer s H vs Q E hr h=>?_)
 ·obtain⟨n,rfl,_⟩:=h;rfl
 ·obtain⟨n,rfl,hn,q⟩:=h
  refine⟨_,(ao (fJ (bI yQ (pv 0) aq (bQ _))
   (aJ (bh pY))
   cC)
   (ao (aL (i:=1) jT.nd rfl (Or.inl rfl) aq)
   (ao (jd PassesOwn.never (bI Oa (aM v_mul (pv 1) (pv 1)) (pv 0) (bQ _))
   (ao (fJ (bI (xeq K hr) (aM dD (pv 0) (pv 1)) aq (bQ _))
   (aJ (bh pY))
   cC)
   (aJ (aL (i:=1) jT.nd rfl (Or.inl rfl) (aM (gO K) (pv 1) aq)))))
   (aJ (bh pY))))),?_⟩
  refine⟨_,rfl,_,_,rfl,rfl,_,rfl,?_⟩
  refine j6 (fun c=>?_) (fun c=>?_)
  ·have c':(n:Int)<2:=dec_true c
   exact q false ⟨fun z=>absurd z (by decide),fun z=>by have:=z.1;omega⟩
  ·have c':¬(n:Int)<2:=dec_false c
   refine⟨fun m σ' H'=>∃d:Nat,σ'=[some (.int n),some (.int (d:Int))]/\H'=H/\2<=d/\d<=n+1/\m=n+2-d/\∀e:Nat,2<=e->e<d->¬e∣n,⟨_,2,rfl,rfl,by omega,by omega,rfl,fun e h1 h2=>by omega⟩,?_⟩
   rintro m σ' H' ⟨d,rfl,rfl,h2,hdn,rfl,hd⟩
   refine⟨_,rfl,_,rfl,mulL (by omega) (by omega),_,rfl,_,_,rfl,rfl,_,rfl,?_⟩
   refine j6 (fun c2=>?_) (fun c2=>?_)
   ·have c2':(d:Int)*d<=n:=dec_true c2
    have c2n:d*d<=n:=by exact_mod_cast c2'
    have hdl:d*1<=d*d:=Nat.mul_le_mul_left d (by omega)
    refine⟨_,fun _ _ z=>z,?_⟩
    refine⟨_,rfl,_,rfl,_,_,rfl,rfl,(by omega:(0:Int)<(d:Int)),?_⟩
    refine⟨_,rfl,?_⟩
    refine j6 (fun c3=>?_) (fun c3=>?_)
    ·have c3':(n:Int)%(d:Int)=0:=dec_true c3
     have hdv:d∣n:=Int.ofNat_dvd.mp (Int.dvd_of_emod_eq_zero c3')
     exact q false ⟨fun z=>absurd z (by decide),fun z=>absurd z (Om.Bq h2 c2n hdv)⟩
    ·have c3':¬(n:Int)%(d:Int)=0:=dec_false c3
     refine⟨_,rfl,?_⟩
     exact⟨n+2-(d+1),by omega,d+1,by simp,rfl,by omega,by omega,rfl,fun e h1 h3=>by
      rcases Nat.lt_or_ge e d with z|z
      ·exact hd e h1 z
      ·have:e=d:=by omega
       subst this
       exact fun z=>c3' (Int.emod_eq_zero_of_dvd (Int.ofNat_dvd.mpr z))⟩
   ·have c2':¬(d:Int)*d<=n:=dec_false c2
    have c2n:¬d*d<=n:=fun z=>c2' (by exact_mod_cast z)
    exact q true ⟨fun _=>Om.pC (by omega) fun e h1 h3 hdv=>by
     by_cases c4:e<d
     ·exact hd e h1 c4 hdv
     ·have:d*d<=e*e:=Nat.mul_le_mul (by omega) (by omega)
      omega,fun _=>rfl⟩
theorem qj(B:Bt mg)(F:Fn K mg "prime_above" iT ["number"])(M:Ms K mg base bF aP aG aY aO aD aR aQ au)(mL:Cal P w K mg base "is_prime" 1 ["number"] xH):Cal P w K mg base "prime_above" 2 ["number"] CG:=by
 refine F.cal gW (fun vs H Q E h=>?_) (fun f cdv A outer s H vs Q E hr h=>?_)
 ·obtain⟨n,q,rfl,_⟩:=h;rfl
 ·obtain⟨n,q',rfl,hq,hnq,hqb,q⟩:=h
  refine⟨_,(ao (aL (i:=1) gW.nd rfl (Or.inl rfl) (aM (gO K) (pv 0) aq))
   (ao (jd PassesOwn.never (ju (gU (aB mL hr rfl (aX (pv 1) ak))))
   (aJ (aL (i:=1) gW.nd rfl (Or.inl rfl) (aM (gO K) (pv 1) aq))))
   (aJ (bh (pv 1))))),?_⟩
  refine⟨_,rfl,?_⟩
  refine⟨fun m σ' H'=>∃f:Nat,σ'=[some (.int n),some (.int (f:Int))]/\H'=H/\n<f/\f<=q'/\m=q'-f,⟨_,n+1,rfl,rfl,by omega,by omega,rfl⟩,?_⟩
  rintro m σ' H' ⟨f,rfl,rfl,h1,h2,rfl⟩
  refine⟨_,rfl,f,rfl,by omega,fun b hb=>?_⟩
  refine⟨b,rfl,?_⟩
  cases b with
  |false=>
   refine⟨_,fun _ _ z=>z,?_⟩
   refine⟨_,rfl,?_⟩
   have hne:f≠q':=fun e=>absurd (hb.mpr (e▸hq)) (by decide)
   exact⟨q'-(f+1),by omega,f+1,rfl,rfl,by omega,by omega,rfl⟩
  |true=>
   refine⟨_,rfl,?_⟩
   exact q f (hb.mp rfl) h1 h2
theorem yu(B:Bt mg)(F:Fn K mg "inverse" oM ["prime","number"])(M:Ms K mg base bF aP aG aY aO aD aR aQ au)(bV:Cal P w K mg base "taken" 1 ["by","number"] dG):Cal P w K mg base "inverse" 2 ["prime","number"] qw:=by
 refine F.cal eN (fun vs H Q E h=>?_) (fun f cdv A outer s H vs Q E hr h=>?_)
 ·obtain⟨P,a,rfl,_⟩:=h;rfl
 ·obtain⟨P',a,rfl,hP,hPb,h0,h1,q⟩:=h
  have hr2:2<=P'/\P'<2097152:=⟨hP.1,hPb⟩
  refine⟨_,(ao (aL (i:=2) eN.nd rfl (Or.inl rfl) aq)
   (ao (aL (i:=3) eN.nd rfl (Or.inl rfl) (pv 1))
   (ao (aL (i:=4) eN.nd rfl (Or.inl rfl) (aM cP (pv 0) aq))
   (ao (jd PassesOwn.never (bI rY (pv 4) aq (bQ _))
   (ao (qP (fJ (bI (xeq K hr) (aM dD (pv 4) aq) aq (bQ _))
   (aJ (aL (i:=2) eN.nd rfl (Or.inl rfl) (aB bV hr rfl (aX (pv 0) (kI (aM v_mul (pv 2) (pv 3)) ak)))))
   cC))
   (ao (aL (i:=3) eN.nd rfl (Or.inl rfl) (aB bV hr rfl (aX (pv 0) (kI (aM v_mul (pv 3) (pv 3)) ak))))
   (aJ (aL (i:=4) eN.nd rfl (Or.inl rfl) (aM zJ (pv 4) aq))))))
   (aJ (bh (pv 2))))))),?_⟩
  refine⟨_,rfl,?_⟩
  refine⟨_,rfl,_,_,rfl,rfl,?_⟩
  have e0:((P':Int)-2).toNat=P'-2:=by omega
  refine⟨fun m σ' H'=>∃power square left:Int,σ'=[some (.int P'),some (.int a),some (.int power),some (.int square),some (.int left)]/\H'=H/\m=left.toNat/\0<=power/\power<2097152/\0<=square/\square<2097152/\0<=left/\Om.Keeps P' a (P'-2) power square left.toNat,
   ⟨_,1,a,(P':Int)-2,rfl,rfl,rfl,by decide,by decide,by omega,by omega,by omega,by rw[e0];exact Om.vf _ _ _⟩,?_⟩
  rintro m σ' H' ⟨power,square,left,rfl,rfl,rfl,p0,p1,s0,s1,l0,hk⟩
  refine⟨_,rfl,_,_,rfl,rfl,_,rfl,?_⟩
  refine j6 (fun c=>?_) (fun c=>?_)
  ·have c':0<left:=dec_true c
   refine⟨_,fun _ _ z=>z,?_⟩
   have hpos:(0:Int)<(P':Int):=by omega
   have tkP:∀n,Rm.tk (P':Int) n=n%(P':Int):=fun n=>Rm.dU (by omega) n
   refine EW.by (fun σ' H2=>∃power':Int,σ'=[some (.int P'),some (.int a),some (.int power'),some (.int square),some (.int left)]/\H2=H'/\((left%2=1/\power'=power*square%(P':Int))∨(¬left%2=1/\power'=power))) (fun N hN=>?_) ?_
   ·refine⟨_,rfl,_,_,rfl,rfl,(by decide:(0:Int)<2),_,rfl,?_⟩
    refine j6 (fun c2=>?_) (fun c2=>?_)
    ·refine⟨_,rfl,_,rfl,_,rfl,mulL (by omega) (by omega),P',_,rfl,by omega,?_⟩
     exact hN _ _ ⟨_,rfl,rfl,.inl ⟨dec_true c2,tkP _⟩⟩
    ·exact hN _ _ ⟨_,rfl,rfl,.inr ⟨dec_false c2,rfl⟩⟩
   rintro σ' H2 ⟨power',rfl,rfl,hp⟩
   refine⟨_,rfl,_,rfl,_,rfl,mulL (by omega) (by omega),P',_,rfl,by omega,?_⟩
   refine⟨_,rfl,_,_,rfl,rfl,⟨by decide,by decide⟩,?_⟩
   have b1:=dN (square*square) hpos
   have b2:=dO (square*square) hpos
   have b3:=dN (power*square) hpos
   have b4:=dO (power*square) hpos
   have el:(left/2).toNat=left.toNat/2:=by omega
   refine⟨_,?_,power',square*square%(P':Int),left/2,by rw[tkP];rfl,rfl,rfl,?_,?_,b1,by omega,by omega,?_⟩
   ·omega
   ·rcases hp with⟨_,rfl⟩|⟨_,rfl⟩
    ·exact b3
    ·exact p0
   ·rcases hp with⟨_,rfl⟩|⟨_,rfl⟩
    ·omega
    ·exact p1
   ·rw[el]
    rcases hp with⟨hodd,rfl⟩|⟨hodd,rfl⟩
    ·exact Om.C2 hk (by omega)
    ·exact Om.yC hk (by omega)
  ·have c':left=0:=by have:=dec_false c;omega
   subst c'
   refine⟨_,rfl,?_⟩
   exact q power p0 p1 (Om.Ai hk)
theorem Ia(B:Bt mg)(F:Fn K mg "over" Cu ["by","one","other"])(M:Ms K mg base bF aP aG aY aO aD aR aQ au)(bV:Cal P w K mg base "taken" 1 ["by","number"] dG)(nG:Cal P w K mg base "inverse" 2 ["prime","number"] qw):Cal P w K mg base "over" 3 ["by","one","other"] vP:=by
 refine F.cal Gx (fun vs H Q E h=>?_) (fun f cdv A outer s H vs Q E hr h=>?_)
 ·obtain⟨P,one,other,rfl,_⟩:=h;rfl
 ·obtain⟨P',one,other,rfl,hP,hPb,o0,o1,q⟩:=h
  refine⟨_,(ao (fJ (bI (xeq K hr) (pv 0) aq (bQ _))
   (aJ xK)
   cC)
   (ao (fJ (bI (xeq K hr) (aB bV hr rfl (aX (pv 0) (aX (pv 2) ak))) aq (bQ _))
   (aJ xK)
   cC)
   (aJ (bh (aB bV hr rfl (aX (pv 0) (kI (aM v_mul (pv 1) (aB nG hr rfl (aX (pv 0) (aX (pv 2) ak)))) ak))))))),?_⟩
  have hr2:2<=P'/\P'<2097152:=⟨hP.1,hPb⟩
  refine⟨_,rfl,_,rfl,?_⟩
  refine j6 (fun c=>absurd (dec_true c) (by omega)) (fun _=>?_)
  have tkP:∀n,Rm.tk (P':Int) n=n%(P':Int):=fun n=>Rm.dU (by omega) n
  refine⟨_,rfl,_,rfl,P',other,rfl,by omega,_,rfl,?_⟩
  have et:Rm.tk (P':Int) other=other:=by rw[tkP];exact Int.emod_eq_of_lt (by omega) o1
  rw[et]
  refine j6 (fun c2=>absurd (dec_true c2) (by omega)) (fun _=>?_)
  refine⟨_,rfl,_,rfl,_,rfl,_,rfl,P',other,rfl,hP,hPb,o0,o1,fun x x0 x1 hx=>?_⟩
  refine⟨mulR (by omega) (by omega),P',_,rfl,by omega,?_⟩
  rw[tkP,Om.mod_mul (rfl:one%(P':Int)=one%(P':Int)) hx]
  exact q
theorem zc(B:Bt mg)(F:Fn K mg "trimmed" nZ ["numbers"])(M:Ms K mg base bF aP aG aY aO aD aR aQ au):Cal P w K mg base "trimmed" 1 ["numbers"] (wJ K):=by
 refine F.cal mQ (fun vs H Q E h=>?_) (fun f cdv A outer s H vs Q E hr h=>?_)
 ·obtain⟨l,xs,rfl,_⟩:=h;rfl
 ·obtain⟨l,xs,rfl,hL,q⟩:=h
  refine⟨_,(ao (aL (i:=1) mQ.nd rfl (Or.inl rfl) (aN (jj K) rfl B.b_len boot_len (aX (pv 0) ak)))
   (ao (jd PassesOwn.never (PW.pt (E6 (bI rY (pv 1) aq (bQ _)) (Cg (bI (xeq K hr) (bG (xix K) (pv 0) (aM cP (pv 1) aq) (fun _ _=>rfl)) aq (bQ _)))))
   (aJ (aL (i:=1) mQ.nd rfl (Or.inl rfl) (aM cP (pv 1) aq))))
   (aJ (bh (bJ (gK K) rfl B.b_tuple boot_tuple (aK (jH (xsl K) (pv 0) pG (jR (pv 1))) ak)))))),?_⟩
  have lL:(xs.map V.int).length=xs.length:=List.length_map _
  refine⟨_,rfl,.ref l,xs.length,rfl,.inl ⟨_,hL,lL.symm⟩,?_⟩
  refine⟨fun m σ' H'=>∃n:Nat,m=n/\n<=xs.length/\σ'=[some (.ref l),some (.int (n:Int))]/\H'=H/\Pm.trim (xs.take n)=Pm.trim xs,⟨_,xs.length,rfl,Nat.le_refl _,rfl,rfl,by rw[List.take_length]⟩,?_⟩
  rintro m σ' H' ⟨n,e0,hn,rfl,rfl,ht⟩
  refine⟨_,rfl,_,_,rfl,rfl,_,rfl,?_⟩
  refine j6 (fun c=>?_) (fun c=>qe ?_)
  ·have h0:0<n:=by have:=dec_true c;omega
   have e1:((n:Int)-1).toNat=n-1:=by omega
   refine⟨_,rfl,_,rfl,_,_,rfl,rfl,_,_,.inl hL,bB (ns:=xs) (by omega:(0:Int)<=(n:Int)-1) (by omega),_,rfl,?_⟩
   refine j6 (fun c2=>?_) (fun c2=>?_)
   ·have hz:=dec_true c2
    rw[e1]at hz
    refine⟨_,fun _ _ z=>z,?_⟩
    refine⟨_,rfl,_,_,rfl,rfl,?_⟩
    refine⟨n-1,by omega,n-1,rfl,by omega,?_,rfl,C5 h0 hn ht hz⟩
    rw[show((n-1:Nat):Int)=(n:Int)-1 by omega]
    rfl
   ·have hz:=dec_false c2
    rw[e1]at hz
    refine⟨_,rfl,_,rfl,_,rfl,.inl ⟨_,hL,fun p hp=>?_⟩⟩
    refine⟨p,_,rfl,.inl ⟨SqL.of aA,fun p2 hp2=>?_⟩⟩
    refine q p2 _ ((Same.new hp _).trans (Same.new hp2 _)) ?_
    rw[aA,tV,<-List.map_take,uy hn ht (.inr hz)]
  ·have h0:n=0:=by have:=dec_false c;omega
   refine⟨_,rfl,_,rfl,_,rfl,.inl ⟨_,hL,fun p hp=>?_⟩⟩
   refine⟨p,_,rfl,.inl ⟨SqL.of aA,fun p2 hp2=>?_⟩⟩
   refine q p2 _ ((Same.new hp _).trans (Same.new hp2 _)) ?_
   rw[aA,tV,<-List.map_take,uy hn ht (.inl h0)]
theorem yL(B:Bt mg)(F:Fn K mg "divided" pH ["by","one","other"])(M:Ms K mg base bF aP aG aY aO aD aR aQ au)(bV:Cal P w K mg base "taken" 1 ["by","number"] dG)(dH:Cal P w K mg base "trimmed" 1 ["numbers"] (wJ K)):Cal P w K mg base "divided" 2 ["by","one","other"] jF:=by
 refine F.cal eX (fun vs H Q E h=>?_) (fun f cdv A outer s H vs Q E hr h=>?_)
 ·obtain⟨b,a,c,P,M,rfl,_⟩:=h;rfl
 ·obtain⟨b,a,c,P,M,rfl,hb,hb1,hA,hC,zA,zC,hM,nP,bA,bC,q⟩:=h
  refine⟨_,(ao (aL (i:=3) eX.nd rfl (Or.inl rfl) (aM cP (aN (jj K) rfl B.b_len boot_len (aX (pv 2) ak)) aq))
   (ao (aL (i:=4) eX.nd rfl (Or.inl rfl) (aM v_mul (gQ (fB aq ak)) (aN (zK rfl) rfl B.b_max boot_max (fB aq (kI (aM cP (aN (jj K) rfl B.b_len boot_len (aX (pv 1) ak)) (pv 3)) ak)))))
   (ao (aL (i:=5) eX.nd rfl (Or.inl rfl) (bJ (xlist K) rfl B.b_list boot_list (aX (pv 1) ak)))
   (ao (m5 PassesOwn.never rfl (zO rfl B.b_range (kI (aM cP (aN (jj K) rfl B.b_len boot_len (aX (pv 4) ak)) aq) (K2 (AK uo aq) (K2 (AK uo aq) ak)))) (bK (i:=6) eX.nd rfl (Or.inl rfl))
   (ao (aL (i:=7) eX.nd rfl (Or.inl rfl) (bG (xix K) (pv 5) (aM (gO K) (pv 6) (pv 3)) (fun _ _=>rfl)))
   (ao (mZ (pv 7) (nJ (pv 4) (pv 6) set_list))
   (aJ (m5 PassesOwn.never rfl (cH rfl B.b_range (aK (aN (jj K) rfl B.b_len boot_len (aX (pv 2) ak)) ak)) (bK (i:=8) eX.nd rfl (Or.inl rfl))
   (aJ (mZ (aB bV hr rfl (aX (pv 0) (kI (aM cP (bG (xix K) (pv 5) (aM (gO K) (pv 6) (pv 8)) (fun _ _=>rfl)) (aM v_mul (pv 7) (bG (xix K) (pv 2) (pv 8) (fun _ _=>rfl)))) ak))) (nJ (pv 5) (aM (gO K) (pv 6) (pv 8)) set_list))))))))
   (aJ (bh (jO (aK (aB dH hr rfl (aX (pv 4) ak)) (aK (aB dH hr rfl (aX (pv 5) ak)) ak))))))))),?_⟩
  have lP:(P.map V.int).length=P.length:=List.length_map _
  have lM:(M.map V.int).length=M.length:=List.length_map _
  have hMp:=hM.pos
  refine⟨_,rfl,.ref c,M.length,rfl,.inr ⟨_,SqT.of hC,lM.symm⟩,_,_,rfl,rfl,?_⟩
  refine⟨(by show 1<=sizeLine;decide),fun l0 h0=>?_⟩
  have g0:=Same.new h0 (.lst [.int 0])
  refine⟨_,rfl,.ref a,P.length,rfl,.inr ⟨_,SqT.of (g0 _ _ hA),lP.symm⟩,_,rfl,_,_,rfl,rfl,_,_,rfl,?_⟩
  have en:(if(P.length:Int)-((M.length:Int)-1)>0 then(P.length:Int)-((M.length:Int)-1)else 0).toNat=P.length-(M.length-1):=(max_zero P.length M.length).resolve_right (by omega)
  refine⟨_,aA,?_,?_,?_,fun lo hlo=>?_⟩
  ·split<;>omega
  ·split<;>omega
  ·rw[en];show 1*(P.length-(M.length-1))<=sizeLine;rw[Nat.one_mul];exact Nat.le_of_lt (bW (by omega))
  rw[en,fY]
  have hlo0:H lo=none:=g0.free hlo
  have g1:=g0.trans (Same.new hlo (.lst ((Pm.ofF (P.length-(M.length-1)) fun _=>0).map V.int)))
  have hO0:(upd (upd H l0 (.lst [.int 0])) lo (.lst ((Pm.ofF (P.length-(M.length-1)) fun _=>0).map V.int))) lo=some (.lst ((Pm.ofF (P.length-(M.length-1)) fun _=>0).map V.int)):=aA
  generalize upd (upd H l0 (.lst [.int 0])) lo (.lst ((Pm.ofF (P.length-(M.length-1)) fun _=>0).map V.int))=H1 at g1 hO0
  refine⟨_,rfl,a,_,rfl,.inr (SqT.of (g1 _ _ hA)),fun ll hll=>?_⟩
  have hll0:H ll=none:=g1.free hll
  have hne:lo≠ll:=dB hO0 hll
  have gll:=Same.new hll (.lst (P.map V.int))
  have g2:=g1.trans gll
  have hO2:=gll _ _ hO0
  have hL2:(upd H1 ll (.lst (P.map V.int))) ll=some (.lst (P.map V.int)):=aA
  generalize upd H1 ll (.lst (P.map V.int))=H2 at gll g2 hO2 hL2
  generalize hn:P.length-(M.length-1)=n at hO2
  refine⟨_,rfl,.ref lo,n,rfl,.inl ⟨_,SqL.of hO2,by rw[List.length_map,Pm.aU]⟩,_,_,rfl,rfl,_,rfl,_,rfl,(n:Int)-1,-1,rfl,⟨by omega,by omega,by omega,by omega⟩,?_⟩
  refine DC (lo:=(n:Int)-1) (n:=((n:Int)-1-(-1)).toNat) (fun i σ' H'=>∃o6 o7 o8 O L,σ'=[some (.int b),some (.ref a),some (.ref c),some (.int ((M.length:Int)-1)),some (.ref lo),some (.ref ll),o6,o7,o8]/\Same H H'/\H' lo=some (.lst (List.map V.int O))/\H' ll=some (.lst (List.map V.int L))/\Pm.BQ b P M (n-i) O L/\(∀k,Rm.Bd (300000+i*124001) (Pm.co O k))/\∀k,Rm.Bd (300000+i*124001) (Pm.co L k))
   ⟨_,_,_,_,P,rfl,g2,hO2,hL2,(by rw[Nat.sub_zero,<-hn];exact Pm.BQ.start nP),fun k=>by rw[Pm.cF];split<;>exact Rm.Bd.zero _,fun k=>(Pm.rA bA k).mono (by omega)⟩ ?_ ?_
  ·rintro i σ' H' hi ⟨o6,o7,o8,O,L,rfl,g,hO,hL,I,bO,bL⟩
   have hi':i<n:=by omega
   have hs:n-i=n-(i+1)+1:=by omega
   rw[hs]at I
   generalize es:n-(i+1)=s at I
   have esI:(n:Int)-1-(i:Int)=(s:Int):=by omega
   rw[esI]
   have hlL:=I.ll
   have hlO:=I.ol
   have lO:(O.map V.int).length=O.length:=List.length_map _
   have e1:((s:Int)+((M.length:Int)-1)).toNat=s+(M.length-1):=by omega
   refine⟨_,rfl,_,rfl,_,rfl,_,_,.inl (SqL.of hL),bB (ns:=L) (by omega:(0:Int)<=(s:Int)+((M.length:Int)-1)) (by omega),?_⟩
   rw[e1]
   have hF:Rm.Bd (300000+i*124001) (L.getD (s+(M.length-1)) 0):=bL _
   have eF:L.getD (s+(M.length-1)) 0=Pm.co L (s+(M.length-1)):=rfl
   rw[eF]at hF⊢
   generalize hf:Pm.co L (s+(M.length-1))=f at hF
   refine⟨_,rfl,_,rfl,_,rfl,lo,_,_,s,rfl,rfl,hO,oU rfl (by rw[lO];omega),?_⟩
   have hO3:(upd H' lo (.lst ((O.map V.int).set s (.int f)))) lo=some (.lst ((O.set s f).map V.int)):=by rw[aA,iR]
   have hL3:(upd H' lo (.lst ((O.map V.int).set s (.int f)))) ll=some (.lst (L.map V.int)):=by rw[bU hne.symm];exact hL
   have g3:=g.upd hlo0 (.lst ((O.map V.int).set s (.int f)))
   generalize upd H' lo (.lst ((O.map V.int).set s (.int f)))=H3 at hO3 hL3 g3
   refine⟨_,rfl,.ref c,M.length,rfl,.inr ⟨_,SqT.of (g3 _ _ hC),lM.symm⟩,?_⟩
   refine⟨(M.length:Int),rfl,(by omega:-(2^62)<=(M.length:Int)),(by omega:(M.length:Int)<2^62),?_⟩
   refine iB (lo:=0) (n:=(M.length:Int).toNat) (fun t σ' H'=>∃o8 L',σ'=[some (.int b),some (.ref a),some (.ref c),some (.int ((M.length:Int)-1)),some (.ref lo),some (.ref ll),some (.int (s:Int)),some (.int f),o8]/\Same H H'/\H' lo=some (.lst ((O.set s f).map V.int))/\H' ll=some (.lst (List.map V.int L'))/\L'.length=L.length/\∀k,Pm.co L' k=Pm.lf b f s t L M k)
    ⟨_,L,rfl,g3,hO3,hL3,rfl,fun k=>(Pm.GZ ..).symm⟩ ?_ ?_
   ·rintro t σ' H4 ht ⟨o8,L',rfl,g4,hO4,hL4,zL',eL'⟩
    have ht':t<M.length:=by omega
    have lL':(L'.map V.int).length=L'.length:=List.length_map _
    have e2:((s:Int)+(0+(t:Int))).toNat=s+t:=by omega
    have e3:(0+(t:Int)).toNat=t:=by omega
    refine⟨_,rfl,_,rfl,_,rfl,_,rfl,_,_,.inl (SqL.of hL4),bB (ns:=L') (by omega:(0:Int)<=(s:Int)+(0+(t:Int))) (by omega),?_⟩
    refine⟨_,rfl,_,rfl,_,rfl,_,_,.inr (SqT.of (g4 _ _ hC)),bB (ns:=M) (by omega:(0:Int)<=0+(t:Int)) (by omega),?_⟩
    refine⟨vH hF (Rm.Bd.getD bC _) (by have:i*124001<=40*124001:=Nat.mul_le_mul_right _ (by omega);omega),_,_,rfl,rfl,?_⟩
    refine⟨b,_,rfl,hb,?_⟩
    refine⟨_,rfl,_,rfl,_,rfl,ll,_,_,s+t,rfl,rfl,hL4,oU (by omega) (by rw[lL'];omega),?_⟩
    refine⟨_,L'.set (s+t) _,rfl,g4.upd hll0 _,(by rw[bU hne];exact hO4),(by rw[aA,iR]),(by rw[List.length_set];exact zL'),fun k=>?_⟩
    rw[Pm.nH _ _ _ _ (by omega),Pm.Hl,e2,e3,<-eL' k]
    by_cases ek:k=s+t
    ·rw[if_pos ek,if_pos ek,ek];rfl
    ·rw[if_neg ek,if_neg ek]
   ·rintro σ' H4 ⟨o8,L',rfl,g4,hO4,hL4,zL',eL'⟩
    rw[Int.toNat_natCast]at eL'
    refine⟨_,_,_,O.set s f,L',rfl,g4,hO4,hL4,?_,fun k=>?_,fun k=>?_⟩
    ·rw[<-hf]
     rw[<-hf]at eL'
     exact I.step hM (by omega) zL' eL'
    ·rw[Pm.nH _ _ _ _ (by omega)]
     split
     ·exact hF.mono (by omega)
     ·exact(bO k).mono (by omega)
    ·rw[eL' k]
     exact(Pm.IB hb hb1 (by omega) hF bL bC k).mono (by omega)
  ·rintro σ' H' ⟨o6,o7,o8,O,L,rfl,g,hO,hL,I,bO,bL⟩
   have e9:((n:Int)-1-(-1)).toNat=n:=by omega
   rw[e9]at I bO bL
   rw[Nat.sub_self]at I
   refine⟨_,rfl,lo,O,rfl,SqL.of hO,fun t1 H3 g3 h3=>?_⟩
   refine⟨_,rfl,ll,L,rfl,SqL.of (g3 _ _ hL),fun t2 H4 g4 h4=>?_⟩
   refine⟨(by show 2<=sizeLine;decide),fun t ht=>?_⟩
   have gt:=Same.new ht (.tup [.ref t1,.ref t2])
   have hz:300000+n*124001<=5300000:=by have:n*124001<=40*124001:=Nat.mul_le_mul_right _ (by omega);omega
   refine q t t1 t2 (Pm.trim O) (Pm.trim L) _ (g.trans (g3.trans (g4.trans gt))) aA (gt _ _ (g4 _ _ h3)) (gt _ _ h4) (I.stop hM) (fun z hz'=>(Ae bO z hz').mono hz) (fun z hz'=>(Ae bL z hz').mono hz) ?_
   have:=Pm.dJ O
   have:=I.ol
   omega
theorem Ei(B:Bt mg)(F:Fn K mg "monic" vB ["prime","poly"])(M:Ms K mg base bF aP aG aY aO aD aR aQ au)(qp:Cal P w K mg base "over" 3 ["by","one","other"] vP):Cal P w K mg base "monic" 4 ["prime","poly"] xr:=by
 refine F.cal xV (fun vs H Q E h=>?_) (fun f cdv A outer s H vs Q E hr h=>?_)
 ·obtain⟨P,a,p,rfl,_⟩:=h;rfl
 ·obtain⟨P',a,p,rfl,hP,hPb,hA,zA,pP,q⟩:=h
  refine⟨_,(ao (fJ (bI (xeq K hr) (aN (jj K) rfl B.b_len boot_len (aX (pv 1) ak)) aq (bQ _))
   (aJ (bh (jO ak)))
   cC)
   (ao (aL (i:=2) xV.nd rfl (Or.inr rfl) (bG (xix K) (pv 1) (aM cP (aN (jj K) rfl B.b_len boot_len (aX (pv 1) ak)) aq) (fun _ _=>rfl)))
   (aJ (bh (bJ (gK K) rfl B.b_tuple boot_tuple (aK (dY (sc:=Al) (N:=["number","last","prime"]) (ix:=[none,some 2,some 0]) (cY (by kernel_rfl) (by kernel_rfl) (by kernel_rfl) (by kernel_rfl) (by kernel_rfl) (by kernel_rfl) (by kernel_rfl) (by kernel_rfl)) rfl (Fw K (pv 1)) (fun cl C s₀ H₀ ex=>⟨(bK (i:=0) (show(["number","last","prime"]:List Str).Nodup by decide +kernel) rfl (Or.inl rfl)),dg,(aB qp hr rfl (aX (pv 2) (aX (pv 0) (aX (pv 1) ak))))⟩)) ak)))))),?_⟩
  have hr2:2<=P'/\P'<2097152:=⟨hP.1,hPb⟩
  have lP:(p.map V.int).length=p.length:=List.length_map _
  refine⟨_,rfl,.ref a,p.length,rfl,.inr ⟨_,SqT.of hA,lP.symm⟩,_,rfl,?_⟩
  refine j6 (fun c=>?_) (fun c=>?_)
  ·have c':(p.length:Int)=0:=dec_true c
   have e:p=[]:=List.eq_nil_of_length_eq_zero (by omega)
   subst e
   exact⟨Nat.zero_le _,fun t ht=>q t [] _ (Same.new ht _) aA (Pm.rK.nil _)⟩
  ·have c':¬(p.length:Int)=0:=dec_false c
   have hn:p≠[]:=fun e=>c' (by rw[e];rfl)
   have hpos:0<p.length:=by omega
   have e1:((p.length:Int)-1).toNat=p.length-1:=by omega
   refine⟨_,rfl,_,rfl,.ref a,p.length,rfl,.inr ⟨_,SqT.of hA,lP.symm⟩,_,_,rfl,rfl,_,_,.inr (SqT.of hA),bB (ns:=p) (by omega:(0:Int)<=(p.length:Int)-1) (by omega),?_⟩
   rw[e1]
   have l0:=Pm.oK hn pP.tr
   have l1:=pP.co (p.length-1)
   rw[Rm.dU (by omega)]at l1
   have r0:0<=Pm.co p (p.length-1):=by rw[<-l1];exact Int.emod_nonneg _ (by omega)
   have r1:Pm.co p (p.length-1)<(P':Int):=by rw[<-l1];exact Int.emod_lt_of_pos _ (by omega)
   refine⟨_,rfl,a,rfl,.inr ⟨⟨_,SqT.of hA⟩,rR hA (by omega) rfl (fun x=>x*(Pm.co p (p.length-1))^(P'-2)%(P':Int)) ?_ ?_⟩⟩
   ·intro H2 x g2 hx k hk
    exact⟨_,rfl,_,rfl,_,rfl,P',x,_,rfl,hP,hPb,by show 0<Pm.co p (p.length-1);omega,r1,hk⟩
   ·intro D hD
    refine⟨D,_,rfl,.inl ⟨SqL.of aA,fun t ht=>?_⟩⟩
    exact q t (Pm.fH P' p) _ ((Same.new hD _).trans (Same.new ht _)) aA (Pm.Cr hP pP hn)
theorem v9(B:Bt mg)(F:Fn K mg "greatest" lU ["by","one","other"])(M:Ms K mg base bF aP aG aY aO aD aR aQ au)(oF:Cal P w K mg base "monic" 4 ["prime","poly"] xr)(d9:Cal P w K mg base "divided" 2 ["by","one","other"] jF):Cal P w K mg base "greatest" 5 ["by","one","other"] j4:=by
 refine F.cal eV (fun vs H Q E h=>?_) (fun f cdv A outer s H vs Q E hr h=>?_)
 ·obtain⟨P,a,c,p,r,rfl,_⟩:=h;rfl
 ·obtain⟨P',a,c,p,r,rfl,hP,hPb,hA,hC,zA,zC,pP,pR,hne,q⟩:=h
  refine⟨_,(ao (aL (i:=3) eV.nd rfl (Or.inl rfl) (aB oF hr rfl (aX (pv 0) (aX (pv 1) ak))))
   (ao (aL (i:=4) eV.nd rfl (Or.inl rfl) (aB oF hr rfl (aX (pv 0) (aX (pv 2) ak))))
   (ao (jd PassesOwn.never (bI rY (aN (jj K) rfl B.b_len boot_len (aX (pv 4) ak)) aq (bQ _))
   (ao (aL (i:=5) eV.nd rfl (Or.inl rfl) (bG (xix K) (aB d9 hr rfl (aX (pv 0) (aX (pv 3) (aX (pv 4) ak)))) aq (fun _ _=>rfl)))
   (ao (aL (i:=3) eV.nd rfl (Or.inl rfl) (pv 4))
   (aJ (aL (i:=4) eV.nd rfl (Or.inl rfl) (aB oF hr rfl (aX (pv 0) (aX (pv 5) ak))))))))
   (aJ (bh (pv 3)))))),?_⟩
  have hr2:2<=P'/\P'<2097152:=⟨hP.1,hPb⟩
  refine⟨_,rfl,_,rfl,P',a,p,rfl,hP,hPb,hA,by omega,pP,fun tg g0 H1 g1 hG mG=>?_⟩
  refine⟨_,rfl,_,rfl,P',c,r,rfl,hP,hPb,g1 _ _ hC,by omega,pR,fun ts s0 H2 g2 hS' mS=>?_⟩
  have lg0:=mG.len
  have ls0:=mS.len
  refine⟨fun m σ' H'=>∃(o5:Option V) (tg ts:Addr) (g s:List Int),m=s.length/\σ'=[some (.int P'),some (.ref a),some (.ref c),some (.ref tg),some (.ref ts),o5]/\Same H H'/\H' tg=some (.tup (g.map V.int))/\H' ts=some (.tup (s.map V.int))/\Pm.Eh P' p r g s/\g.length<=max p.length r.length/\s.length<=max p.length r.length,
   ⟨_,_,tg,ts,g0,s0,rfl,rfl,g1.trans g2,g2 _ _ hG,hS',Pm.Eh.start mG mS hne,by omega,by omega⟩,?_⟩
  rintro m σ' H' ⟨o5,tg,ts,gg,ss,rfl,rfl,g,hG,hS',I,zg,zs⟩
  have lS:(ss.map V.int).length=ss.length:=List.length_map _
  refine⟨_,rfl,.ref ts,ss.length,rfl,.inr ⟨_,SqT.of hS',lS.symm⟩,_,_,rfl,rfl,_,rfl,?_⟩
  refine j6 (fun cc=>?_) (fun cc=>?_)
  ·have hs:ss≠[]:=fun e=>by have:=dec_true cc;rw[e]at this;simp at this
   have hMs:=I.sm_ hs
   refine⟨_,fun _ _ z=>z,?_⟩
   refine⟨_,rfl,_,rfl,_,rfl,P',tg,ts,gg,ss,rfl,by omega,by omega,hG,hS',by omega,by omega,hMs,I.gy.co,(fun x hx=>(Hv hr2.1 hr2.2 I.gy x hx).mono (by decide)),Hv hr2.1 hr2.2 I.sy,fun t x y o l H3 g3 hT hX hY D _ _ _=>?_⟩
   refine⟨_,_,.inr (SqT.of hT),rfl,?_⟩
   refine⟨_,rfl,?_⟩
   have hsh:=D.short
   refine⟨_,rfl,_,rfl,P',y,l,rfl,hP,hPb,hY,by omega,D.ry,fun tm m H4 g4 hM mM=>?_⟩
   have lm:=mM.len
   exact⟨m.length,by omega,_,ts,tm,ss,m,rfl,rfl,g.trans (g3.trans g4),(g3.trans g4) _ _ hS',hM,I.step hs D mM,zs,by omega⟩
  ·have hs:ss=[]:=List.eq_nil_of_length_eq_zero (by have:=dec_false cc;omega)
   refine⟨_,rfl,?_⟩
   exact q tg gg H' g hG (I.stop hs) zg
theorem yD(B:Bt mg)(F:Fn K mg "nearest" pL ["modulus","number"])(M:Ms K mg base bF aP aG aY aO aD aR aQ au):Cal P w K mg base "nearest" 1 ["modulus","number"] oR:=by
 refine F.cal qM (fun vs H Q E h=>?_) (fun f cdv A outer s H vs Q E hr h=>?_)
 ·obtain⟨M,x,rfl,_⟩:=h;rfl
 ·obtain⟨M,x,rfl,hM,q⟩:=h
  refine⟨_,(ao (aL (i:=2) qM.nd rfl (Or.inl rfl) (aM dD (pv 1) (pv 0)))
   (aJ (bh (xq (bI rY (aM v_mul aq (pv 2)) (pv 0) (bQ _)) (aM cP (pv 2) (pv 0)) (pv 2))))),?_⟩
  refine⟨_,rfl,_,rfl,_,_,rfl,rfl,hM,?_⟩
  refine⟨_,rfl,mulL (by decide) (by decide),_,rfl,_,_,rfl,rfl,_,rfl,?_⟩
  refine j6 (fun c=>?_) (fun c=>?_)
  ·have c':2*(x%M)>M:=dec_true c
   refine⟨_,rfl,_,rfl,_,_,rfl,rfl,?_⟩
   have e:Pm.nr M x=x%M-M:=if_pos c'
   rw[e]at q;exact q
  ·have c':¬2*(x%M)>M:=dec_false c
   refine⟨_,rfl,?_⟩
   have e:Pm.nr M x=x%M:=if_neg c'
   rw[e]at q;exact q
theorem Bx(B:Bt mg)(F:Fn K mg "joined" qZ ["modulus","number","prime","rest"])(M:Ms K mg base bF aP aG aY aO aD aR aQ au)(qp:Cal P w K mg base "over" 3 ["by","one","other"] vP)(bV:Cal P w K mg base "taken" 1 ["by","number"] dG)(iH:Cal P w K mg base "nearest" 1 ["modulus","number"] oR):Cal P w K mg base "joined" 4 ["modulus","number","prime","rest"] w6:=by
 refine F.cal uw (fun vs H Q E h=>?_) (fun f cdv A outer s H vs Q E hr h=>?_)
 ·obtain⟨M,t,p,s,rfl,_⟩:=h;rfl
 ·obtain⟨M,t,p,s',rfl,hp,hpb,hM,hpM,q⟩:=h
  refine⟨_,(ao (aL (i:=4) uw.nd rfl (Or.inl rfl) (aB qp hr rfl (aX (pv 2) (aK (aB bV hr rfl (aX (pv 2) (kI (aM cP (pv 3) (pv 1)) ak))) (aK (aB bV hr rfl (aX (pv 2) (aX (pv 0) ak))) ak)))))
   (aJ (bh (aB iH hr rfl (kI (aM v_mul (pv 0) (pv 2)) (kI (aM (gO K) (pv 1) (aM v_mul (pv 0) (pv 4))) ak)))))),?_⟩
  have h2:=hp.1
  have hp0:(p:Int)≠0:=by omega
  have r0:=Int.emod_nonneg M hp0
  have r1:=Int.emod_lt_of_pos M (show(0:Int)<p by omega)
  have rn:M%(p:Int)≠0:=fun z=>hpM (Int.dvd_of_emod_eq_zero z)
  have et:Rm.tk (p:Int) M=M%(p:Int):=Rm.dU hp0 M
  refine⟨_,rfl,_,rfl,_,rfl,_,rfl,_,_,rfl,rfl,p,_,rfl,by omega,?_⟩
  refine⟨_,rfl,_,rfl,p,M,rfl,by omega,?_⟩
  refine⟨p,_,_,rfl,hp,hpb,by rw[et];omega,by rw[et];exact r1,?_⟩
  have hw:=Pm.D3 (M:=M) (t:=t) (s:=s') hp
  refine⟨_,rfl,_,rfl,mulR (by omega) (by omega),?_⟩
  refine⟨_,rfl,_,rfl,_,rfl,mulR (by show -(2^64)<Pm.jw M t p s';omega) (by show Pm.jw M t p s'<2^64;omega),?_⟩
  exact⟨_,_,rfl,Int.mul_pos hM (by omega),q⟩
theorem rP(B:Bt mg)(F:Fn K mg "taken_poly" jA ["prime","poly"])(M:Ms K mg base bF aP aG aY aO aD aR aQ au)(dH:Cal P w K mg base "trimmed" 1 ["numbers"] (wJ K))(bV:Cal P w K mg base "taken" 1 ["by","number"] dG):Cal P w K mg base "taken_poly" 2 ["prime","poly"] nY:=by
 refine F.cal rT (fun vs H Q E h=>?_) (fun f cdv A outer s H vs Q E hr h=>?_)
 ·obtain⟨p,a,P,rfl,_⟩:=h;rfl
 ·obtain⟨p,a,P',rfl,hp,hA,zA,q⟩:=h
  refine⟨_,(aJ (bh (aB dH hr rfl (aK (dY (sc:=qm) (N:=["number","prime"]) (ix:=[none,some 0]) (cY (by kernel_rfl) (by kernel_rfl) (by kernel_rfl) (by kernel_rfl) (by kernel_rfl) (by kernel_rfl) (by kernel_rfl) (by kernel_rfl)) rfl (Fw K (pv 1)) (fun cl C s₀ H₀ ex=>⟨(bK (i:=0) (show(["number","prime"]:List Str).Nodup by decide +kernel) rfl (Or.inl rfl)),dg,(aB bV hr rfl (aX (pv 1) (aX (pv 0) ak)))⟩)) ak)))),?_⟩
  refine⟨_,rfl,a,rfl,.inr ⟨⟨_,SqT.of hA⟩,rR hA (by omega) rfl (fun x=>Rm.tk p x) ?_ ?_⟩⟩
  ·intro H2 x g2 hx k hk
   exact⟨_,rfl,_,rfl,p,x,rfl,by omega,hk⟩
  ·intro D hD
   refine⟨D,_,rfl,SqL.of aA,fun t1 H3 g3 h3=>?_⟩
   exact q t1 H3 ((Same.new hD _).trans g3) h3
theorem zp(B:Bt mg)(F:Fn K mg "divides" oX ["monic_one","poly"])(M:Ms K mg base bF aP aG aY aO aD aR aQ au)(d9:Cal P w K mg base "divided" 2 ["by","one","other"] jF):Cal P w K mg base "divides" 3 ["monic_one","poly"] ud:=by
 refine F.cal yH (fun vs H Q E h=>?_) (fun f cdv A outer s H vs Q E hr h=>?_)
 ·obtain⟨m,a,M,P,rfl,_⟩:=h;rfl
 ·obtain⟨m,a,M,P',rfl,hMm,hA,zM,zP,hM,bM,bP,q⟩:=h
  refine⟨_,(aJ (bh (iQ (xeq K hr) (bG (xix K) (aB d9 hr rfl (fB aq (aX (pv 1) (aX (pv 0) ak)))) aq (fun _ _=>rfl)) (jO ak) (bQ _)))),?_⟩
  refine⟨_,rfl,_,rfl,0,a,m,P',M,rfl,by decide,by decide,hA,hMm,zP,zM,hM,fun k=>Rm.bD _,bP,bM,fun t x y o l H3 g3 hT hX hY D _ _ _=>?_⟩
  refine⟨_,_,.inr (SqT.of hT),rfl,?_⟩
  refine⟨Nat.zero_le _,fun t0 ht0=>?_⟩
  have g4:=Same.new ht0 (.tup [])
  refine UJ (ns:=l) (ms:=[]) (SqT.of (g4 _ _ hY)) (SqT.of aA) ?_
  exact q _ _ (g3.trans g4) (by show decide (l=[])=true↔_;rw[decide_eq_true_iff];exact D.dv hM)
theorem mC(B:Bt mg)(F:Fn K mg "whole_greatest" fU ["one","other"])(M:Ms K mg base bF aP aG aY aO aD aR aQ au)(kj:Cal P w K mg base "divides" 3 ["monic_one","poly"] ud)(iM:Cal P w K mg base "prime_above" 2 ["number"] CG)(gh:Cal P w K mg base "greatest" 5 ["by","one","other"] j4)(gR:Cal P w K mg base "taken_poly" 2 ["prime","poly"] nY)(iH:Cal P w K mg base "nearest" 1 ["modulus","number"] oR)(qX:Cal P w K mg base "joined" 4 ["modulus","number","prime","rest"] w6):Cal P w K mg base "whole_greatest" 6 ["one","other"] Vt:=by
 refine F.cal aW (fun vs H Q E h=>?_) (fun f cdv A outer s H vs Q E hr h=>?_)
 ·obtain⟨a,c,P,t,g,N,U,V',rfl,_⟩:=h;rfl
 ·obtain⟨a,c,P',t,g,N,U,V',rfl,hA,hC,zP,zt,hP,bP,bt,G,hV,hU,hUV,q⟩:=h
  refine⟨_,(ao (aL (i:=2) aW.nd rfl (Or.inl rfl) (pv 0))
   (ao (aL (i:=3) aW.nd rfl (Or.inr rfl) aq)
   (ao (aL (i:=4) aW.nd rfl (Or.inr rfl) (xP rfl B.g_BELOW_THE_PRIMES))
   (ao (aL (i:=5) aW.nd rfl (Or.inl rfl) pY)
   (ao (jd PassesOwn.never (PW.pt (pA (ju (gU (pv 5))) (pA (ju (gU (aB kj hr rfl (aX (pv 2) (aX (pv 0) ak))))) (qO (ju (gU (aB kj hr rfl (aX (pv 2) (aX (pv 1) ak)))))))))
   (ao (aL (i:=4) aW.nd rfl (Or.inr rfl) (aB iM hr rfl (aX (pv 4) ak)))
   (ao (aL (i:=6) aW.nd rfl (Or.inr rfl) (aB gh hr rfl (aX (pv 4) (aK (aB gR hr rfl (aX (pv 4) (aX (pv 0) ak))) (aK (aB gR hr rfl (aX (pv 4) (aX (pv 1) ak))) ak)))))
   (aJ (fJ (bI yQ (aN (jj K) rfl B.b_len boot_len (aX (pv 6) ak)) (aN (jj K) rfl B.b_len boot_len (aX (pv 2) ak)) (bQ _))
   (ao (aL (i:=2) aW.nd rfl (Or.inl rfl) (bJ (gK K) rfl B.b_tuple boot_tuple (aK (dY (sc:=lD) (N:=["rest","prime"]) (ix:=[none,some 4]) (cY (by kernel_rfl) (by kernel_rfl) (by kernel_rfl) (by kernel_rfl) (by kernel_rfl) (by kernel_rfl) (by kernel_rfl) (by kernel_rfl)) rfl (Fw K (pv 6)) (fun cl C s₀ H₀ ex=>⟨(bK (i:=0) (show(["rest","prime"]:List Str).Nodup by decide +kernel) rfl (Or.inl rfl)),dg,(aB iH hr rfl (aX (pv 1) (aX (pv 0) ak)))⟩)) ak)))
   (ao (aL (i:=3) aW.nd rfl (Or.inr rfl) (pv 4))
   (aJ (aL (i:=5) aW.nd rfl (Or.inl rfl) pY))))
   (aJ (qP (fJ (bI (xeq K hr) (aN (jj K) rfl B.b_len boot_len (aX (pv 6) ak)) (aN (jj K) rfl B.b_len boot_len (aX (pv 2) ak)) (bQ _))
   (ao (aL (i:=7) aW.nd rfl (Or.inr rfl) (pv 2))
   (ao (aL (i:=2) aW.nd rfl (Or.inl rfl) (bJ (gK K) rfl B.b_tuple boot_tuple (aK (dY (sc:=kW) (N:=["k","before","modulus","prime","seen"]) (ix:=[none,some 7,some 3,some 4,some 6]) (cY (by kernel_rfl) (by kernel_rfl) (by kernel_rfl) (by kernel_rfl) (by kernel_rfl) (by kernel_rfl) (by kernel_rfl) (by kernel_rfl)) rfl (cH rfl B.b_range (aK (aN (jj K) rfl B.b_len boot_len (aX (pv 6) ak)) ak)) (fun cl C s₀ H₀ ex=>⟨(bK (i:=0) (show(["k","before","modulus","prime","seen"]:List Str).Nodup by decide +kernel) rfl (Or.inl rfl)),dg,(aB qX hr rfl (aX (pv 2) (aK (bG (xix K) (pv 1) (pv 0) (fun _ _=>rfl)) (aX (pv 3) (aK (bG (xix K) (pv 4) (pv 0) (fun _ _=>rfl)) ak)))))⟩)) ak)))
   (ao (aL (i:=3) aW.nd rfl (Or.inr rfl) (aM v_mul (pv 3) (pv 4)))
   (aJ (aL (i:=5) aW.nd rfl (Or.inl rfl) (iQ (xeq K hr) (pv 2) (pv 7) (bQ _)))))))
   cC))))))))
   (aJ (bh (pv 2)))))))),?_⟩
  have hgP:g.length<=P'.length:=G.one.len rfl G.mon hP
  refine⟨_,rfl,?_⟩
  refine⟨JR H a c P' g N,⟨_,_,_,a,P',1,1000000,true,0,0,rfl,rfl,Same.refl _,hA,Pm.WgI.start hP hgP _,Om.many,by omega,by omega⟩,?_⟩
  rintro m σ' H' ⟨o6,o7,tt,told,M,prime,ripe,bad,good,rfl,rfl,gg,hT,I,hmany,hbig,h900⟩
  have bT:=Pr I bP h900
  have zT:=I.le
  refine⟨_,rfl,ripe,rfl,?_⟩
  refine j6 (fun cr=>?b1) (fun cr=>?n1)
  case' b1=>
   have hne:¬(ripe=true/\told=g):=fun z=>by rw[z.1]at cr;exact absurd cr (by decide)
   have gx:=gg
   have hTx:=hT
   generalize H'=Hx at gx hTx⊢
  case' n1=>
   refine⟨_,rfl,_,rfl,tt,a,told,P',rfl,hT,gg _ _ hA,by omega,zP,I.mon,bT,(fun x hx=>(bP x hx).mono (by decide)),fun b1 H1 g1 e1=>?_⟩
   refine⟨b1,rfl,?_⟩
   refine j6 (fun c1=>?b2) (fun c1=>?n2)
  case' b2=>
   have hne:¬(ripe=true/\told=g):=fun z=>by
    have:b1=true:=e1.mpr (by rw[z.2];exact G.one)
    rw[this]at c1;exact absurd c1 (by decide)
   have gx:=gg.trans g1
   have hTx:=g1 _ _ hT
   generalize H1=Hx at gx hTx⊢
  case' n2=>
   refine⟨_,rfl,_,rfl,tt,c,told,t,rfl,g1 _ _ hT,(gg.trans g1) _ _ hC,by omega,zt,I.mon,bT,bt,fun b2 H2 g2 e2=>?_⟩
   refine⟨b2,rfl,?_⟩
   refine j6 (fun c2=>?b3) (fun c2=>?n3)
  case n3=>
   have hb1:b1=true:=by cases b1<;>first|rfl|exact absurd rfl c1
   have hb2:b2=true:=by cases b2<;>first|rfl|exact absurd rfl c2
   have e:=G.told I.mon (e1.mp hb1) (e2.mp hb2) I.ge
   subst e
   refine⟨_,rfl,?_⟩
   exact q tt H2 (gg.trans (g1.trans g2)) ((g1.trans g2) _ _ hT)
  case' b3=>
   have hne:¬(ripe=true/\told=g):=fun z=>by
    have:b2=true:=e2.mpr (by rw[z.2];exact G.two)
    rw[this]at c2;exact absurd c2 (by decide)
   have gx:=gg.trans (g1.trans g2)
   have hTx:=(g1.trans g2) _ _ hT
   generalize H2=Hx at gx hTx⊢
  all_goals
   have hfew:=I.few G.ne hV hU hne
   obtain⟨k,hk'⟩:∃k,6000-(bad+good)=k+1:=⟨6000-(bad+good)-1,by omega⟩
   rw[hk']at hmany
   obtain⟨q0,hq0,hlt0,hq0b,hnext⟩:=hmany.next
   refine⟨_,fun _ _ z=>z,?_⟩
   refine⟨_,rfl,prime,q0,rfl,hq0,hlt0,by omega,fun p hp hlt hle=>?_⟩
   have hN:=hnext p hle
   refine⟨_,rfl,_,rfl,_,rfl,p,a,P',rfl,by omega,gx _ _ hA,by omega,fun t1 H3 g3 h3=>?_⟩
   refine⟨_,rfl,_,rfl,p,c,t,rfl,by omega,(gx.trans g3) _ _ hC,by omega,fun t2 H4 g4 h4=>?_⟩
   have l1:=CT p P'
   have l2:=CT p t
   refine⟨p,t1,t2,_,_,rfl,hp,by omega,g4 _ _ h3,h4,by omega,by omega,Ft p P',Ft p t,fun _=>KC hp hP,fun ts s' H5 g5 hS hG hsl=>?_⟩
   have sn:=G.seen hp (CY p P') (CY p t) hG
   have lS:(s'.map V.int).length=s'.length:=List.length_map _
   have lT:(told.map V.int).length=told.length:=List.length_map _
   have gy:=gx.trans (g3.trans (g4.trans g5))
   have hTy:=(g3.trans (g4.trans g5)) _ _ hTx
   refine⟨_,rfl,.ref ts,s'.length,rfl,.inr ⟨_,SqT.of hS,lS.symm⟩,_,rfl,.ref tt,told.length,rfl,.inr ⟨_,SqT.of hTy,lT.symm⟩,_,_,rfl,rfl,_,rfl,?_⟩
   refine j6 (fun d1=>?_) (fun d1=>?_)
   ·have d1':(s'.length:Int)<told.length:=dec_true d1
    refine⟨_,rfl,ts,rfl,.inr ⟨⟨_,SqT.of hS⟩,rR hS (by omega) rfl (fun x=>Pm.nr p x) ?_ ?_⟩⟩
    ·intro H6 x g6 hx kk hk
     exact⟨_,rfl,_,rfl,p,x,rfl,by omega,hk⟩
    ·intro D hD
     refine⟨D,_,rfl,.inl ⟨SqL.of aA,fun tn ht=>?_⟩⟩
     obtain⟨bad',good',hbg,I'⟩:=I.anew hp hlt (by omega) (by omega) sn (by omega)
     refine⟨_,rfl,?_⟩
     exact⟨6000-(bad'+good'),by omega,_,_,tn,s'.map (Pm.nr p),p,p,true,bad',good',rfl,rfl,gy.trans ((Same.new hD _).trans (Same.new ht _)),aA,I',(by rw[hbg,show 6000-(bad+good+1)=k by omega];exact hN),by omega,by omega⟩
   ·have d1':¬(s'.length:Int)<told.length:=dec_false d1
    refine EW.by (fun σ' H2=>∃m',m'<6000-(bad+good)/\JR H a c P' g N m' σ' H2) (fun N0 hN0=>?_) (fun σ' H2 z=>z)
    refine⟨_,rfl,.ref ts,s'.length,rfl,.inr ⟨_,SqT.of hS,lS.symm⟩,_,rfl,.ref tt,told.length,rfl,.inr ⟨_,SqT.of hTy,lT.symm⟩,_,rfl,?_⟩
    refine j6 (fun d2=>?_) (fun d2=>?_)
    ·have d2':(s'.length:Int)=told.length:=dec_true d2
     have hl:s'.length=told.length:=by omega
     have hpM:¬(p:Int)∣M:=fun z=>by have:=I.div p hp z;omega
     refine⟨_,rfl,?_⟩
     refine⟨_,rfl,.ref ts,s'.length,rfl,.inr ⟨_,SqT.of hS,lS.symm⟩,?_⟩
     refine⟨(s'.length:Int),rfl,(by omega:-(2^62)<=(s'.length:Int)),(by omega:(s'.length:Int)<2^62),?_⟩
     rw[Int.toNat_natCast]
     refine jK (n:=s'.length) (by omega) rfl (fun k=>Pm.jn M (told.getD k 0) p (s'.getD k 0)) ?_ ?_
     ·intro H6 k6 g6 hk6 kk hk
      have e1:(0+(k6:Int)).toNat=k6:=by omega
      refine⟨_,rfl,_,rfl,_,rfl,_,_,.inr (SqT.of (g6 _ _ hTy)),bB (ns:=told) (by omega:(0:Int)<=0+(k6:Int)) (by omega),?_⟩
      refine⟨_,rfl,_,rfl,_,rfl,_,_,.inr (SqT.of (g6 _ _ hS)),bB (ns:=s') (by omega:(0:Int)<=0+(k6:Int)) (by omega),?_⟩
      rw[e1]
      exact⟨M,_,p,_,rfl,hp,by omega,I.pos,hpM,hk⟩
     ·intro D hD
      refine⟨D,_,rfl,.inl ⟨SqL.of aA,fun tn ht=>?_⟩⟩
      have gn:=(Same.new hD (.lst ((Pm.ofF s'.length fun k=>Pm.jn M (told.getD k 0) p (s'.getD k 0)).map V.int))).trans (Same.new ht (.tup ((Pm.ofF s'.length fun k=>Pm.jn M (told.getD k 0) p (s'.getD k 0)).map V.int)))
      refine⟨_,rfl,_,rfl,mulR (by omega) (by omega),?_⟩
      refine⟨_,rfl,_,rfl,?_⟩
      refine UJ (ns:=Pm.ofF s'.length fun k=>Pm.jn M (told.getD k 0) p (s'.getD k 0)) (ms:=told) (SqT.of aA) (SqT.of (gn _ _ hTy)) ?_
      obtain⟨bad',good',hbg,I'⟩:=I.join (told':=Pm.ofF s'.length fun k=>Pm.jn M (told.getD k 0) p (s'.getD k 0)) (ripe':=decide ((Pm.ofF s'.length fun k=>Pm.jn M (told.getD k 0) p (s'.getD k 0))=told)) hp hlt (by omega) (by omega) sn hl (by rw[Pm.aU];exact hl) (fun k6 hk6=>⟨Pm.jw M (told.getD k6 0) p (s'.getD k6 0),Pm.Ow hp hpM,by rw[Pm.cF,if_pos (by omega)];rfl⟩) (decide_eq_true_iff)
      exact hN0 _ _ ⟨6000-(bad'+good'),by omega,_,_,tn,_,M*p,p,_,bad',good',rfl,rfl,gy.trans gn,aA,I',(by rw[hbg,show 6000-(bad+good+1)=k by omega];exact hN),by omega,by omega⟩
    ·have d2':¬(s'.length:Int)=told.length:=dec_false d2
     have I':=I.stay hp hlt (by omega) sn (by omega)
     exact hN0 _ _ ⟨6000-(bad+1+good),by omega,_,_,tt,told,M,p,ripe,bad+1,good,rfl,rfl,gy,hTy,I',(by rw[show 6000-(bad+1+good)=k by omega];exact hN),by omega,by omega⟩
theorem zf(B:Bt mg)(F:Fn K mg "of_rule" nK ["by","rule"])(M:Ms K mg base bF aP aG aY aO aD aR aQ au)(bV:Cal P w K mg base "taken" 1 ["by","number"] dG):Cal P w K mg base "of_rule" 2 ["by","rule"] wL:=by
 refine F.cal mY (fun vs H Q E h=>?_) (fun f cdv A outer s H vs Q E hr h=>?_)
 ·obtain⟨b,a,c,rfl,_⟩:=h;rfl
 ·obtain⟨b,a,c,rfl,hb,hA,zA,q⟩:=h
  refine⟨_,(ao (aL (i:=2) mY.nd rfl (Or.inr rfl) (aN (jj K) rfl B.b_len boot_len (aX (pv 1) ak)))
   (ao (rN (i:=3) (hN:=mY.nd) (hi':=rfl) (hx:=(Or.inl rfl)) (sc:=vL) (N:=["k","by","length","rule"]) (ix:=[none,some 0,some 2,some 1]) (cY (by kernel_rfl) (by kernel_rfl) (by kernel_rfl) (by kernel_rfl) (by kernel_rfl) (by kernel_rfl) (by kernel_rfl) (by kernel_rfl)) rfl (cH rfl B.b_range (aX (pv 2) ak)) (fun cl C s₀ H₀ ex=>⟨(bK (i:=0) (show(["k","by","length","rule"]:List Str).Nodup by decide +kernel) rfl (Or.inl rfl)),dg,(aB bV hr rfl (aX (pv 1) (kI (aM cP aq (bG (xix K) (pv 3) (aM cP (aM cP (pv 2) aq) (pv 0)) (fun _ _=>rfl))) ak)))⟩))
   (aJ (bh (bJ (gK K) rfl B.b_tuple boot_tuple (kI (aM (gO K) (pv 3) (gQ (fB aq ak))) ak)))))),?_⟩
  have lC:(c.map V.int).length=c.length:=List.length_map _
  refine⟨_,rfl,.ref a,c.length,rfl,.inr ⟨_,SqT.of hA,lC.symm⟩,?_⟩
  refine⟨_,rfl,(c.length:Int),rfl,(by omega:-(2^62)<=(c.length:Int)),(by omega:(c.length:Int)<2^62),?_⟩
  rw[Int.toNat_natCast]
  refine jK (n:=c.length) (by omega) rfl (fun k=>Rm.tk b (0-Pm.co c (c.length-1-k))) ?_ ?_
  ·intro H2 k g2 hk kk hkk
   have e1:((c.length:Int)-1-(0+(k:Int))).toNat=c.length-1-k:=by omega
   refine⟨_,rfl,_,rfl,_,rfl,_,_,rfl,rfl,_,rfl,_,_,rfl,rfl,_,_,.inr (SqT.of (g2 _ _ hA)),bB (ns:=c) (by omega:(0:Int)<=(c.length:Int)-1-(0+(k:Int))) (by omega),_,_,rfl,rfl,?_⟩
   refine⟨b,_,rfl,hb,?_⟩
   rw[e1]
   exact hkk
  ·intro D hD
   have g1:=Same.new hD (.lst ((Pm.ofF c.length fun k=>Rm.tk b (0-Pm.co c (c.length-1-k))).map V.int))
   refine⟨_,rfl,(by show 1<=sizeLine;decide),fun l2 hl2=>?_⟩
   have g2:=Same.new hl2 (.lst [.int 1])
   refine .inl ⟨_,_,g2 _ _ aA,aA,?_,fun l3 hl3=>?_⟩
   ·rw[List.length_map,Pm.aU];exact Nat.le_of_lt (bW (by show _+1<=1000;omega))
   refine⟨l3,_,rfl,.inl ⟨SqL.of aA,fun t ht=>?_⟩⟩
   refine q t _ (g1.trans (g2.trans ((Same.new hl3 _).trans (Same.new ht _)))) ?_
   rw[aA,Pm.aV,rF]
theorem yR(B:Bt mg)(F:Fn K mg "rule_of" oJ ["by","poly"])(M:Ms K mg base bF aP aG aY aO aD aR aQ au)(bV:Cal P w K mg base "taken" 1 ["by","number"] dG):Cal P w K mg base "rule_of" 2 ["by","poly"] xM:=by
 refine F.cal qG (fun vs H Q E h=>?_) (fun f cdv A outer s H vs Q E hr h=>?_)
 ·obtain⟨b,a,p,rfl,_⟩:=h;rfl
 ·obtain⟨b,a,p,rfl,hb,hA,z0,zA,q⟩:=h
  refine⟨_,(ao (aL (i:=2) qG.nd rfl (Or.inr rfl) (aM cP (aN (jj K) rfl B.b_len boot_len (aX (pv 1) ak)) aq))
   (aJ (bh (bJ (gK K) rfl B.b_tuple boot_tuple (aK (dY (sc:=vQ) (N:=["k","by","length","poly"]) (ix:=[none,some 0,some 2,some 1]) (cY (by kernel_rfl) (by kernel_rfl) (by kernel_rfl) (by kernel_rfl) (by kernel_rfl) (by kernel_rfl) (by kernel_rfl) (by kernel_rfl)) rfl (cH rfl B.b_range (aX (pv 2) ak)) (fun cl C s₀ H₀ ex=>⟨(bK (i:=0) (show(["k","by","length","poly"]:List Str).Nodup by decide +kernel) rfl (Or.inl rfl)),dg,(aB bV hr rfl (aX (pv 1) (kI (aM cP aq (bG (xix K) (pv 3) (aM cP (aM cP (pv 2) aq) (pv 0)) (fun _ _=>rfl))) ak)))⟩)) ak))))),?_⟩
  have lC:(p.map V.int).length=p.length:=List.length_map _
  refine⟨_,rfl,.ref a,p.length,rfl,.inr ⟨_,SqT.of hA,lC.symm⟩,_,_,rfl,rfl,?_⟩
  refine⟨_,rfl,(p.length:Int)-1,rfl,(by omega:-(2^62)<=(p.length:Int)-1),(by omega:(p.length:Int)-1<2^62),?_⟩
  rw[show((p.length:Int)-1).toNat=p.length-1 by omega]
  refine jK (n:=p.length-1) (by omega) rfl (fun k=>Rm.tk b (0-Pm.co p (p.length-1-1-k))) ?_ ?_
  ·intro H2 k g2 hk kk hkk
   have e1:((p.length:Int)-1-1-(0+(k:Int))).toNat=p.length-1-1-k:=by omega
   refine⟨_,rfl,_,rfl,_,rfl,_,_,rfl,rfl,_,rfl,_,_,rfl,rfl,_,_,.inr (SqT.of (g2 _ _ hA)),bB (ns:=p) (by omega:(0:Int)<=(p.length:Int)-1-1-(0+(k:Int))) (by omega),_,_,rfl,rfl,?_⟩
   refine⟨b,_,rfl,hb,?_⟩
   rw[e1]
   exact hkk
  ·intro D hD
   refine⟨D,_,rfl,.inl ⟨SqL.of aA,fun t ht=>?_⟩⟩
   exact q t _ ((Same.new hD _).trans (Same.new ht _)) aA
theorem zX(B:Bt mg)(F:Fn K mg "top_of" rz ["row","poly"])(M:Ms K mg base bF aP aG aY aO aD aR aQ au)(bV:Cal P w K mg base "taken" 1 ["by","number"] dG)(dH:Cal P w K mg base "trimmed" 1 ["numbers"] (wJ K)):Cal P w K mg base "top_of" 2 ["row","poly"] JH:=by
 refine F.cal iI (fun vs H Q E h=>?_) (fun f cdv A outer s H vs Q E hr h=>?_)
 ·obtain⟨v,r,a,rfl,_⟩:=h;rfl
 ·obtain⟨v,r,a,rfl,⟨a0,p,p2,rfl,hA,hR,hS⟩,ok,hP,q⟩:=h
  refine⟨_,(ao (aL (i:=2) iI.nd rfl (Or.inl rfl) (bG (xix K) (pv 0) aq (fun _ _=>rfl)))
   (ao (aL (i:=3) iI.nd rfl (Or.inr rfl) (bG (xix K) (pv 0) aq (fun _ _=>rfl)))
   (ao (aL (i:=4) iI.nd rfl (Or.inl rfl) (gQ ak))
   (ao (m5 PassesOwn.never rfl (cH rfl B.b_range (aK (aN (jj K) rfl B.b_len boot_len (aX (pv 3) ak)) ak)) (bK (i:=5) iI.nd rfl (Or.inr rfl))
   (ao (rN (i:=6) (hN:=iI.nd) (hi':=rfl) (hx:=(Or.inl rfl)) (sc:=yh) (N:=["j","k","poly","starts"]) (ix:=[none,some 5,some 1,some 3]) (cY (by kernel_rfl) (by kernel_rfl) (by kernel_rfl) (by kernel_rfl) (by kernel_rfl) (by kernel_rfl) (by kernel_rfl) (by kernel_rfl)) rfl (nW rfl B.b_range (kI (aM (gO K) (pv 5) aq) (aK (aN (jj K) rfl B.b_len boot_len (aX (pv 1) ak)) ak))) (fun cl C s₀ H₀ ex=>⟨(bK (i:=0) (show(["j","k","poly","starts"]:List Str).Nodup by decide +kernel) rfl (Or.inl rfl)),dg,(aM v_mul (bG (xix K) (pv 2) (pv 0) (fun _ _=>rfl)) (bG (xix K) (pv 3) (aM cP (aM cP (pv 0) aq) (pv 1)) (fun _ _=>rfl)))⟩))
   (aJ (uU (C6 K (pv 4) (aB bV hr rfl (aX (pv 2) (aK (aN (Vv K rfl) rfl B.b_sum boot_sum (aX (pv 6) ak)) ak))))))))
   (aJ (bh (aB dH hr rfl (aX (pv 4) ak)))))))),?_⟩
  have hl:=ok.len
  have hs:=ok.short
  have lS:(r.starts.map V.int).length=r.starts.length:=List.length_map _
  have lP:((Pm.aV r.b r.rule).map V.int).length=r.rule.length+1:=by rw[List.length_map,Pm.cj]
  refine⟨_,rfl,_,_,.inr (SqT.of hA),rfl,?_⟩
  refine⟨_,rfl,_,_,.inr (SqT.of hA),rfl,?_⟩
  refine⟨Nat.zero_le _,fun l0 h0=>?_⟩
  have g0:=Same.new h0 (.lst [])
  refine⟨_,rfl,.ref p2,r.starts.length,rfl,.inr ⟨_,SqT.of (g0 _ _ hS),lS.symm⟩,?_⟩
  refine⟨(r.starts.length:Int),rfl,(by omega:-(2^62)<=(r.starts.length:Int)),(by omega:(r.starts.length:Int)<2^62),?_⟩
  refine iB (lo:=0) (n:=(r.starts.length:Int).toNat) (fun i σ' H'=>∃o5 o6,σ'=[some (.ref a0),some (.ref a),some (.int r.b),some (.ref p2),some (.ref l0),o5,o6]/\Same H H'/\H' l0=some (.lst ((Pm.ofF i fun k=>Rm.tk r.b (Pm.tp (Pm.aV r.b r.rule) r.at k)).map V.int)))
   ⟨_,_,rfl,g0,aA⟩ ?_ ?_
  ·rintro i σ' H' hi ⟨o5,o6,rfl,g,hL⟩
   have hi':i<r.starts.length:=by omega
   refine⟨_,rfl,_,rfl,.ref a,r.rule.length+1,rfl,.inr ⟨_,SqT.of (g _ _ hP),lP.symm⟩,?_⟩
   refine⟨_,_,rfl,⟨by omega,by omega,by omega,by omega⟩,?_⟩
   rw[show(((r.rule.length+1:Nat):Int)-(0+(i:Int)+1)).toNat=r.rule.length-i by omega]
   refine Cd (lo:=0+(i:Int)+1) (n:=r.rule.length-i) (by omega) rfl (fun k=>Pm.co (Pm.aV r.b r.rule) (i+1+k)*r.at k) ?_ ?_
   ·intro H2 k g2 hk kk hkk
    have e1:(0+(i:Int)+1+(k:Int)).toNat=i+1+k:=by omega
    have e2:(0+(i:Int)+1+(k:Int)-1-(0+(i:Int))).toNat=k:=by omega
    have lq:(Pm.aV r.b r.rule).length=r.rule.length+1:=Pm.cj ..
    refine⟨_,rfl,_,rfl,_,_,.inr (SqT.of (g2 _ _ (g _ _ hP))),bB (ns:=Pm.aV r.b r.rule) (by omega:(0:Int)<=0+(i:Int)+1+(k:Int)) (by omega),?_⟩
    refine⟨_,rfl,_,rfl,_,_,rfl,rfl,_,rfl,_,_,rfl,rfl,_,_,.inr (SqT.of (g2 _ _ (g _ _ hS))),bB (ns:=r.starts) (by omega:(0:Int)<=0+(i:Int)+1+(k:Int)-1-(0+(i:Int))) (by omega),?_⟩
    refine⟨vH (Rm.Bd.getD ok.oV _) (Rm.Bd.getD ok.startsBd _) (by decide),?_⟩
    rw[e1,e2]
    have e3:r.at k=r.starts.getD k 0:=Rm.ql (by omega)
    rw[e3]at hkk
    exact hkk
   ·intro D hD
    have g3:=Same.new hD (.lst ((Pm.ofF (r.rule.length-i) fun k=>Pm.co (Pm.aV r.b r.rule) (i+1+k)*r.at k).map V.int))
    have hL3:=g3 _ _ hL
    have lL:((Pm.ofF i fun k=>Rm.tk r.b (Pm.tp (Pm.aV r.b r.rule) r.at k)).map V.int).length=i:=by rw[List.length_map,Pm.aU]
    refine⟨_,rfl,.inl ⟨rfl,_,SqL.of hL3⟩,_,rfl,_,rfl,D,_,rfl,SqL.of aA,r.b,_,rfl,ok.by0,?_⟩
    refine⟨l0,_,_,rfl,rfl,hL3,?_,?_⟩
    ·rw[lL];exact bW (by omega)
    ·refine⟨_,_,rfl,(g.trans g3).upd h0 _,?_⟩
     rw[aA,Pm.wW,rF]
     have e4:Pm.tp (Pm.aV r.b r.rule) r.at i=(Pm.ofF (r.rule.length-i) fun k=>Pm.co (Pm.aV r.b r.rule) (i+1+k)*r.at k).sum:=by
      unfold Pm.tp
      rw[Pm.ofF,Pm.wZ,Pm.cj,Nat.add_sub_cancel]
     rw[e4]
  ·rintro σ' H' ⟨o5,o6,rfl,g,hL⟩
   refine⟨_,rfl,l0,_,rfl,SqL.of hL,fun t1 H3 g3 h3=>?_⟩
   refine q t1 H3 (g.trans g3) ?_
   rw[h3,CQ,hl,Int.toNat_natCast]
theorem lK(B:Bt mg)(F:Fn K mg "shared_divisor" fL ["by","one","other"])(M:Ms K mg base bF aP aG aY aO aD aR aQ au)(fP:Cal P w K mg base "whole_greatest" 6 ["one","other"] Vt)(gh:Cal P w K mg base "greatest" 5 ["by","one","other"] j4):Cal P w K mg base "shared_divisor" 7 ["by","one","other"] xU:=by
 refine F.cal mV (fun vs H Q E h=>?_) (fun f cdv A outer s H vs Q E hr h=>?_)
 ·obtain⟨b,a,c,P,t,rfl,_⟩:=h;rfl
 ·obtain⟨b,a,c,P',t,rfl,hA,hC,zP,zt,hP,bP,bt,h⟩:=h
  refine⟨_,(aJ (bh (xq (bI (xeq K hr) (pv 0) aq (bQ _)) (aB fP hr rfl (aX (pv 1) (aX (pv 2) ak))) (aB gh hr rfl (aX (pv 0) (aX (pv 1) (aX (pv 2) ak))))))),?_⟩
  refine⟨_,rfl,_,rfl,?_⟩
  refine j6 (fun c0=>?_) (fun c0=>?_)
  ·have c0':b=0:=dec_true c0
   rcases h with⟨_,g,N,U,V',G,hV,hU,hUV,q⟩|⟨p,rfl,hp,_⟩
   ·exact⟨_,rfl,_,rfl,a,c,P',t,g,N,U,V',rfl,hA,hC,zP,zt,hP,bP,bt,G,hV,hU,hUV,q⟩
   ·have:=hp.1;omega
  ·have c0':¬b=0:=dec_false c0
   rcases h with⟨z,_⟩|⟨p,rfl,hp,hpb,yP,yt,q⟩
   ·exact absurd z c0'
   ·exact⟨_,rfl,_,rfl,_,rfl,p,a,c,P',t,rfl,hp,hpb,hA,hC,zP,zt,yP,yt,fun _ z=>by have:=hP.pos;rw[z]at this;exact absurd this (by decide),q⟩
theorem v8(B:Bt mg)(F:Fn K mg "least_of" lX ["row"])(M:Ms K mg base bF aP aG aY aO aD aR aQ au)(nU:Cal P w K mg base "of_rule" 2 ["by","rule"] wL)(sI:Cal P w K mg base "top_of" 2 ["row","poly"] JH)(d9:Cal P w K mg base "divided" 2 ["by","one","other"] jF)(fM:Cal P w K mg base "shared_divisor" 7 ["by","one","other"] xU):Cal P w K mg base "least_of" 8 ["row"] CD:=by
 refine F.cal jh (fun vs H Q E h=>?_) (fun f cdv A outer s H vs Q E hr h=>?_)
 ·obtain⟨v,r,rfl,_⟩:=h;rfl
 ·obtain⟨v,r,rfl,⟨a0,p,p2,rfl,hA,hR,hS⟩,ok,hB,hT,q⟩:=h
  refine⟨_,(ao (aL (i:=1) jh.nd rfl (Or.inl rfl) (bG (xix K) (pv 0) aq (fun _ _=>rfl)))
   (ao (aL (i:=2) jh.nd rfl (Or.inl rfl) (aB nU hr rfl (aX (pv 1) (aK (bG (xix K) (pv 0) aq (fun _ _=>rfl)) ak))))
   (ao (aL (i:=3) jh.nd rfl (Or.inl rfl) (aB sI hr rfl (aX (pv 0) (aX (pv 2) ak))))
   (aJ (bh (bG (xix K) (aB d9 hr rfl (aX (pv 1) (aX (pv 2) (aK (aB fM hr rfl (aX (pv 1) (aX (pv 2) (aX (pv 3) ak)))) ak)))) aq (fun _ _=>rfl))))))),?_⟩
  have hs:=ok.short
  have hb1:=ok.by1
  have hm:=Pm.iy r.b r.rule
  have lq:(Pm.aV r.b r.rule).length=r.rule.length+1:=Pm.cj ..
  refine⟨_,rfl,_,_,.inr (SqT.of hA),rfl,?_⟩
  refine⟨_,rfl,_,rfl,_,_,.inr (SqT.of hA),rfl,r.b,p,r.rule,rfl,ok.by0,hR,by omega,fun tP H1 g1 hP=>?_⟩
  refine⟨_,rfl,_,rfl,.ref a0,r,tP,rfl,⟨a0,p,p2,rfl,g1 _ _ hA,g1 _ _ hR,g1 _ _ hS⟩,ok,hP,fun tT H2 g2 hTp=>?_⟩
  have hP2:=g2 _ _ hP
  have lt:=DM r
  refine⟨_,rfl,_,rfl,_,rfl,_,rfl,_,rfl,r.b,tP,tT,Pm.aV r.b r.rule,CQ r,rfl,hP2,hTp,by omega,by omega,hm,(fun x hx=>(ok.oV x hx).mono (by decide)),Hw ok,?_⟩
  have nP:=tM r.b r.rule hB.one
  by_cases h0:r.b=0
  ·obtain⟨d,ua,u,hu10,hur,hQ0,hua,hsz⟩:=hT h0
   have hK:=ok.kp
   rw[h0]at hK
   rw[h0]at hm lq
   obtain⟨g,L,N,hL,hLy,hKL,hall,hlen,hE,G,hV,hU⟩:=Pm.GX hm hK hQ0 hua (u:=u) (e:=5) (U:=u+400) (fun k=>by have:=Pm.tQ ok.by0 ok.by1 hu10 hur;rw[h0]at this;exact Pm.rA this k) (by rw[lq];omega) (by rw[lq];omega)
   have eT:Pm.co (CQ r)=Pm.tp (Pm.aV 0 r.rule) r.at:=funext fun k=>by rw[vO,h0,Rm.bD]
   refine .inl ⟨h0,g,N,_,_,by rw[h0,eT];exact G,hV,hU,by omega,fun tg H3 g3 hg=>?_⟩
   have hgl:g.length<=r.rule.length+1:=by have:=hL.pos;omega
   have bg:∀x∈g,Rm.Bd 124000 x:=fun x hx=>by
    obtain⟨k,hk,e⟩:=List.mem_iff_getElem.mp hx
    have:=hU k
    rw[Pm.uP hk,e]at this
    exact this.mono (by omega)
   refine⟨r.b,tP,tg,Pm.aV r.b r.rule,g,rfl,ok.by0,by omega,g3 _ _ hP2,hg,by rw[h0];omega,by omega,G.mon,nP,(fun x hx=>(ok.oV x hx).mono (by decide)),bg,fun t x y o l H4 g4 ht hx hy D _ _ _=>?_⟩
   refine⟨_,_,.inr (SqT.of ht),rfl,?_⟩
   have D':Pm.Div r.b (Pm.aV r.b r.rule) g L []:=⟨by rw[h0];exact hLy,Pm.Py.nil _,G.mon.pos,fun k=>by rw[Pm.dF,Int.add_zero,h0,hE k]⟩
   obtain⟨eo,_⟩:=D.uniq G.mon D'
   subst eo
   exact q x o H4 (g1.trans (g2.trans (g3.trans g4))) hx ⟨hL,fun k=>by rw[h0];exact Rm.bD _,by rw[h0];exact hKL,by rw[h0];exact hall⟩ (by have:=G.mon.pos;omega)
  ·obtain⟨P0,hP0,hb⟩:=hB.resolve_left h0
   have hp:=yO hP0
   have hr:=dz P0 hP0
   have yP:Pm.Py (P0:Int) (Pm.aV r.b r.rule):=by rw[<-hb];exact Fq hm nP
   have yt:Pm.Py (P0:Int) (CQ r):=by rw[<-hb];exact Pm.Py.ofF ..
   refine .inr ⟨P0,hb,hp,by omega,yP,yt,fun tg g H3 g3 hg hG hgl=>?_⟩
   have bg:∀x∈g,Rm.Bd 124000 x:=Hv hr.1 (by omega) hG.py
   refine⟨r.b,tP,tg,Pm.aV r.b r.rule,g,rfl,ok.by0,by omega,g3 _ _ hP2,hg,by omega,by omega,hG.mon,nP,(fun x hx=>(ok.oV x hx).mono (by decide)),bg,fun t x y o l H4 g4 ht hx hy D _ _ _=>?_⟩
   refine⟨_,_,.inr (SqT.of ht),rfl,?_⟩
   rw[hb]at D
   rw[<-hb]at D
   obtain⟨hl1,hl2⟩:=D4 hp ok hb hG (by rw[hb]at D ⊢;exact D)
   exact q x o H4 (g1.trans (g2.trans (g3.trans g4))) hx hl1 hl2
theorem uX(B:Bt mg)(F:Fn K mg "shortest" lQ ["row"])(M:Ms K mg base bF aP aG aY aO aD aR aQ au)(mj:Cal P w K mg base "least_of" 8 ["row"] CD)(oN:Cal P w K mg base "rule_of" 2 ["by","poly"] xM):Cal P w K mg base "shortest" 9 ["row"] wz:=by
 refine F.cal j7 (fun vs H Q E h=>?_) (fun f cdv A outer s H vs Q E hr h=>?_)
 ·obtain⟨v,r,rfl,_⟩:=h;rfl
 ·obtain⟨v,r,rfl,⟨a0,p,p2,rfl,hA,hR,hS⟩,ok,hB,hT,q⟩:=h
  refine⟨_,(ao (aL (i:=1) j7.nd rfl (Or.inl rfl) (aB mj hr rfl (aX (pv 0) ak)))
   (ao (aL (i:=2) j7.nd rfl (Or.inl rfl) (aB oN hr rfl (aK (bG (xix K) (pv 0) aq (fun _ _=>rfl)) (aX (pv 1) ak))))
   (aJ (bh (jO (aK (bG (xix K) (pv 0) aq (fun _ _=>rfl)) (aX (pv 2) (aK (bJ (gK K) rfl B.b_tuple boot_tuple (aK (jH (xsl K) (bG (xix K) (pv 0) aq (fun _ _=>rfl)) pG (jR (aN (jj K) rfl B.b_len boot_len (aX (pv 2) ak)))) ak)) ak)))))))),?_⟩
  have hs:=ok.short
  have hl:=ok.len
  have lS:(r.starts.map V.int).length=r.starts.length:=List.length_map _
  refine⟨_,rfl,.ref a0,r,rfl,⟨a0,p,p2,rfl,hA,hR,hS⟩,ok,hB,hT,fun tL L H1 g1 hL lst ll=>?_⟩
  have hLp:=lst.mon.pos
  refine⟨_,rfl,_,_,.inr (SqT.of (g1 _ _ hA)),rfl,_,rfl,r.b,tL,L,rfl,ok.by0,hL,hLp,by omega,fun tR H2 g2 hR2=>?_⟩
  have lR:((Pm.fW r.b L).map V.int).length=L.length-1:=by rw[List.length_map,Pm.dX]
  have hA2:=(g1.trans g2) _ _ hA
  have hS2:=(g1.trans g2) _ _ hS
  refine⟨_,rfl,_,_,.inr (SqT.of hA2),rfl,_,rfl,_,rfl,_,_,.inr (SqT.of hA2),rfl,?_⟩
  refine⟨_,rfl,.ref tR,L.length-1,rfl,.inr ⟨_,SqT.of hR2,lR.symm⟩,?_⟩
  refine⟨_,rfl,?_⟩
  by_cases hw:r.starts.length<=L.length-1
  ·refine .inr (.inr ⟨_,SqT.of hS2,?_,?_⟩)
   ·rw[HT.jo,HT.jG,lS];omega
   ·refine⟨p2,_,rfl,.inr ⟨SqT.of hS2,?_⟩⟩
    refine⟨(by show 3<=sizeLine;decide),fun t ht=>?_⟩
    have g3:=Same.new ht (.tup [.int r.b,.ref tR,.ref p2])
    refine q (.ref t) L _ (g1.trans (g2.trans g3)) ⟨t,tR,p2,rfl,aA,g3 _ _ hR2,?_⟩ lst ll
    show _=some (HO.tup ((r.starts.take (L.length-1)).map V.int))
    rw[List.take_of_length_le hw]
    exact g3 _ _ hS2
  ·refine .inr (.inl ⟨_,SqT.of hS2,?_,fun p3 hp3=>?_⟩)
   ·rw[HT.jo,HT.jG,lS];omega
   ·refine⟨p3,_,rfl,.inr ⟨SqT.of aA,?_⟩⟩
    have g3:=Same.new hp3 (.tup (uQ (r.starts.map V.int) none (some ((L.length-1:Nat):Int))))
    refine⟨(by show 3<=sizeLine;decide),fun t ht=>?_⟩
    have g4:=Same.new ht (.tup [.int r.b,.ref tR,.ref p3])
    refine q (.ref t) L _ (g1.trans (g2.trans (g3.trans g4))) ⟨t,tR,p3,rfl,aA,(g3.trans g4) _ _ hR2,?_⟩ lst ll
    show _=some (HO.tup ((r.starts.take (L.length-1)).map V.int))
    rw[List.map_take,<-tV]
    exact g4 _ _ aA
theorem vG(B:Bt mg)(F:Fn K mg "_law_cell_at" lJ ["_law_script","_law_k"])(M:Ms K mg base bF aP aG aY aO aD aR aQ au):Cal P w K mg base "_law_cell_at" 1 ["_law_script","_law_k"] (v5 K):=by
 refine F.cal vo (fun vs H Q E h=>?_) (fun f cdv A outer s H vs Q E hr h=>?_)
 ·obtain⟨a,ns,k,rfl,_⟩:=h;rfl
 ·obtain⟨a,ns,k,rfl,hS,h0,h1,hB,q⟩:=h
  refine⟨_,(ao (fJ (bI yQ (pv 1) (aN (jj K) rfl B.b_len boot_len (aX (pv 0) ak)) (bQ _))
   (aJ (bh (bG (xix K) (pv 0) (pv 1) (fun _ _=>rfl))))
   cC)
   (aJ (bh (aM v_mul (aM (gO K) (aM v_mul (pv 1) aq) aq) (aM (gO K) (pv 1) aq))))),?_⟩
  have hl:(ns.map V.int).length=ns.length:=List.length_map _
  refine⟨_,rfl,_,rfl,.ref a,ns.length,rfl,.inl ⟨_,hS,hl.symm⟩,_,_,rfl,rfl,_,rfl,?_⟩
  refine j6 (fun c=>?_) (fun c=>?_)
  ·have c':k<(ns.length:Int):=dec_true c
   refine⟨_,rfl,_,rfl,ns.map V.int,.int (ns.getD k.toNat 0),.inl hS,bB h0 c',q _ ?_⟩
   exact intBits_le_iff.mp (hB _ (Pm.B7 (by omega)))
  ·refine⟨_,rfl,mulR (by decide) (by decide),_,rfl,mulR (by show -(2^64)<k+31;omega) (by show k+31<2^64;omega),q _ ?_⟩
   refine(Rm.Bd.mul (m:=40) (n:=40) (Rm.Bd.of (by omega) (by omega)) (Rm.Bd.of (by omega) (by omega))).mono (by decide)
theorem Gs(B:Bt mg)(F:Fn K mg "_law_mix" Ce ["_law_cell","_law_k"])(M:Ms K mg base bF aP aG aY aO aD aR aQ au):Cal P w K mg base "_law_mix" 1 ["_law_cell","_law_k"] uF:=by
 refine F.cal vh (fun vs H Q E h=>?_) (fun f cdv A outer s H vs Q E hr h=>?_)
 ·obtain⟨c,k,rfl,_⟩:=h;rfl
 ·obtain⟨c,k,rfl,h0,h1,q⟩:=h
  refine⟨_,(ao (aL (i:=2) vh.nd rfl (Or.inl rfl) (aM dD (aM (gO K) (aM v_mul (aM (gO K) (aM dD (pv 0) aq) aq) (aM (gO K) (aM (gO K) aq (aM v_mul aq (pv 1))) (aM v_mul (aM v_mul aq (pv 1)) (pv 1)))) (pv 1)) aq))
   (ao (aL (i:=2) vh.nd rfl (Or.inl rfl) (aM dD (aM v_mul (pv 2) (pv 2)) aq))
   (aJ (bh (aM zJ (aM dD (aM v_mul (pv 2) (aM (gO K) (aM (gO K) (pv 2) (pv 1)) aq)) aq) aq))))),?_⟩
  have b1:0<=c%2147483629:=dN _ (by decide)
  have b2:c%2147483629<2147483629:=dO _ (by decide)
  refine⟨_,rfl,_,_,rfl,rfl,(by decide:(0:Int)<2147483629),?_⟩
  refine⟨_,rfl,mulL (by decide) (by decide),_,rfl,mulL (by decide) (by decide),_,rfl,mulR (by omega) (by omega),?_⟩
  refine⟨mulL (by show -(2^64)<c%2147483629+1;omega) (by show c%2147483629+1<2^64;omega),_,rfl,_,_,rfl,rfl,(by decide:(0:Int)<2147483647),?_⟩
  dsimp only
  have m0:=dN ((c%2147483629+1)*(48271+69621*k+2*k*k)+k) (show(0:Int)<2147483647 by decide)
  have m1:=dO ((c%2147483629+1)*(48271+69621*k+2*k*k)+k) (show(0:Int)<2147483647 by decide)
  generalize ((c%2147483629+1)*(48271+69621*k+2*k*k)+k)%2147483647=y at m0 m1
  refine⟨_,rfl,_,rfl,mulL (by omega) (by omega),_,_,rfl,rfl,(by decide:(0:Int)<2147483629),?_⟩
  dsimp only
  have n0:=dN (y*y) (show(0:Int)<2147483629 by decide)
  have n1:=dO (y*y) (show(0:Int)<2147483629 by decide)
  generalize y*y%2147483629=z at n0 n1
  refine⟨_,rfl,_,rfl,_,rfl,mulL (by omega) (by omega),_,_,rfl,rfl,(by decide:(0:Int)<2147483587),_,_,rfl,rfl,⟨by decide,by decide⟩,?_⟩
  have l0:=dN (z*(z+k+1)) (show(0:Int)<2147483587 by decide)
  have l1:=dO (z*(z+k+1)) (show(0:Int)<2147483587 by decide)
  generalize hw:z*(z+k+1)%2147483587=w at l0 l1
  exact q _ (by omega) (by omega)
theorem uf(B:Bt mg)(F:Fn K mg "_law_drawn_by" jP ["_law_cell"])(M:Ms K mg base bF aP aG aY aO aD aR aQ au)(dZ:Cal P w K mg base "_law_mix" 1 ["_law_cell","_law_k"] uF):Cal P w K mg base "_law_drawn_by" 2 ["_law_cell"] Kh:=by
 refine F.cal tY (fun vs H Q E h=>?_) (fun f cdv A outer s H vs Q E hr h=>?_)
 ·obtain⟨c,rfl,_⟩:=h;rfl
 ·obtain⟨c,rfl,q⟩:=h
  refine⟨_,(aJ (bh (bG (xix K) (gQ (fB aq (fB aq (fB aq (fB aq (fB aq (fB aq (fB aq (fB aq (fB aq (fB aq ak))))))))))) (aM dD (aB dZ hr rfl (aX (pv 0) (fB aq ak))) aq) (fun _ _=>rfl)))),?_⟩
  refine⟨(by show 10<=sizeLine;decide),fun p hp=>?_⟩
  refine⟨_,rfl,c,1,rfl,by decide,by decide,fun x h0 h1=>?_⟩
  have e0:=dN x (show(0:Int)<10 by decide)
  have e1:=dO x (show(0:Int)<10 by decide)
  refine⟨_,_,rfl,rfl,(by decide:(0:Int)<10),_,_,.inl (SqL.of aA),bB (ns:=byF) e0 e1,?_⟩
  exact q _ _ (Same.new hp _) (Iz (by omega))
theorem A9(B:Bt mg)(F:Fn K mg "_law_taken" rO ["_law_by","_law_number"])(M:Ms K mg base bF aP aG aY aO aD aR aQ au):Cal P w K mg base "_law_taken" 1 ["_law_by","_law_number"] dG:=by
 refine F.cal CK (fun vs H Q E h=>?_) (fun f cdv A outer s H vs Q E hr h=>?_)
 ·obtain⟨b,n,rfl,_⟩:=h;rfl
 ·obtain⟨b,n,rfl,h0,q⟩:=h
  refine⟨_,(ao (fJ (bI (xeq K hr) (pv 0) aq (bQ _))
   (aJ (bh (pv 1)))
   cC)
   (aJ (bh (aM dD (pv 1) (pv 0))))),?_⟩
  refine⟨_,rfl,_,rfl,?_⟩
  refine j6 (fun c=>?_) (fun c=>?_)
  ·refine⟨_,rfl,?_⟩
   have c':b=0:=dec_true c
   have e:Rm.tk b n=n:=by rw[c',Rm.bD]
   rw[e]at q;exact q
  ·have c':¬b=0:=dec_false c
   refine⟨_,rfl,_,rfl,_,_,rfl,rfl,(by omega:(0:Int)<b),?_⟩
   rw[Rm.dU c']at q;exact q
theorem qd(B:Bt mg)(F:Fn K mg "_law_one_number" jg ["_law_by","_law_cell","_law_k"])(M:Ms K mg base bF aP aG aY aO aD aR aQ au)(dZ:Cal P w K mg base "_law_mix" 1 ["_law_cell","_law_k"] uF)(cX:Cal P w K mg base "_law_taken" 1 ["_law_by","_law_number"] dG):Cal P w K mg base "_law_one_number" 2 ["_law_by","_law_cell","_law_k"] Bl:=by
 refine F.cal fD (fun vs H Q E h=>?_) (fun f cdv A outer s H vs Q E hr h=>?_)
 ·obtain⟨b,c,k,rfl,_⟩:=h;rfl
 ·obtain⟨b,c,k,rfl,hb,hc,h0,h1,q⟩:=h
  refine⟨_,(ao (aL (i:=3) fD.nd rfl (Or.inl rfl) (aM cP (aM (gO K) (aM dD (aM v_mul (aM (gO K) (pv 1) aq) (aM Df (aM (gO K) (pv 2) aq) aq)) (aM cP (aM v_mul aq (aM Df aq aq)) aq)) aq) (aM Df aq aq)))
   (ao (aL (i:=4) fD.nd rfl (Or.inl rfl) (bG (xix K) (gQ (fB aq (fB aq (K2 (AK uo aq) (fB aq (fB aq (K2 (AK uo aq) (fB aq (fB aq (fB aq (fB aq ak))))))))))) (aM dD (aB dZ hr rfl (aX (pv 1) (kI (aM (gO K) aq (pv 2)) ak))) aq) (fun _ _=>rfl)))
   (ao (qP (fJ (PW.pt (E6 (bI yQ (pv 2) aq (bQ _)) (Cg (bI (xeq K hr) (aM dD (aB dZ hr rfl (aX (pv 1) (kI (aM (gO K) aq (pv 2)) ak))) aq) aq (bQ _)))))
   (aJ (aL (i:=4) fD.nd rfl (Or.inl rfl) (aM cP (aM dD (aB dZ hr rfl (aX (pv 1) (kI (aM (gO K) aq (pv 2)) ak))) aq) aq)))
   cC))
   (aJ (bh (aB cX hr rfl (aX (pv 0) (aK (bG (xix K) (gQ (aX (pv 4) (aX (pv 3) ak))) (bJ tH rfl B.b_int boot_int (aK (Rh (iQ rY (pv 0) aq (bQ _)) (Ax (Fv (iQ rY (pv 2) aq (bQ _)) (Ax (iQ (xeq K hr) (aM dD (aB dZ hr rfl (aX (pv 1) (kI (aM (gO K) aq (pv 2)) ak))) aq) aq (bQ _)))))) ak)) (fun _ _=>rfl)) ak)))))))),?_⟩
  have hp7:Rm.Bd (6*7+1) ((k+3)^7):=FD (Rm.Bd.of (by omega) (by omega)) 7
  refine⟨_,rfl,_,rfl,_,_,rfl,rfl,⟨by decide,by decide,by show(k+3).natAbs<2^64;omega⟩,vH (m:=1048577) (n:=43) (Rm.Bd.add hc ((Rm.Bd.of (n:=1) (by decide) (by decide)).mono (by decide))) hp7 (by decide),?_⟩
  refine⟨_,_,rfl,rfl,⟨by decide,by decide,by decide⟩,mulL (by decide) (by decide),_,_,rfl,rfl,_,_,rfl,rfl,(by decide:(0:Int)<2*10^(9:Int).toNat-1),?_⟩
  refine⟨_,_,rfl,rfl,⟨by decide,by decide,by decide⟩,_,_,rfl,rfl,?_⟩
  dsimp only
  have f0:=dN ((c+1)*(k+3)^(7:Int).toNat) (show(0:Int)<2*10^(9:Int).toNat-1 by decide)
  have f1:=dO ((c+1)*(k+3)^(7:Int).toNat) (show(0:Int)<2*10^(9:Int).toNat-1 by decide)
  have ef:(2*10^(9:Int).toNat-1:Int)=1999999999:=by decide
  have eg:(10^(9:Int).toNat:Int)=1000000000:=by decide
  generalize hfar:(c+1)*(k+3)^(7:Int).toNat%(2*10^(9:Int).toNat-1)+1-10^(9:Int).toNat=far
  have bfar:Rm.Bd 31 far:=by
   rw[ef]at f0 f1 hfar
   rw[eg]at hfar
   generalize (c+1)*(k+3)^(7:Int).toNat%1999999999=w at f0 f1 hfar
   exact Rm.Bd.of (by omega) (by omega)
  clear f0 f1 hfar
  refine⟨_,rfl,_,rfl,(by show 10<=sizeLine;decide),fun p hp=>?_⟩
  refine⟨_,rfl,_,rfl,c,20+k,rfl,by omega,by omega,fun x x0 x1=>?_⟩
  have e0:=dN x (show(0:Int)<10 by decide)
  have e1:=dO x (show(0:Int)<10 by decide)
  refine⟨_,_,rfl,rfl,(by decide:(0:Int)<10),_,_,.inl (SqL.of aA),bB (ns:=wX) e0 e1,?_⟩
  have bs:=C1 (x%10).toNat (by omega)
  generalize wX.getD (x%10).toNat 0=sm at bs
  have bs0:Rm.Bd 13 sm:=Rm.Bd.of (by omega) (by omega)
  have g1:=Same.new hp (.lst ([.int 0,.int 1,.int (-1),.int 2,.int 1,.int (-2),.int 3,.int 0,.int 1,.int 5]))
  generalize upd H p (.lst ([.int 0,.int 1,.int (-1),.int 2,.int 1,.int (-2),.int 3,.int 0,.int 1,.int 5]))=H1 at g1
  refine EW.by (fun σ' H'=>∃sm,σ'=[some (.int b),some (.int c),some (.int k),some (.int far),some (.int sm)]/\H1=H'/\Rm.Bd 13 sm) (fun NN hNN=>?_) ?_
  ·have same:NN [some (.int b),some (.int c),some (.int k),some (.int far),some (.int sm)] H1:=hNN _ _ ⟨sm,rfl,rfl,bs0⟩
   refine⟨_,rfl,_,_,rfl,rfl,_,rfl,?_⟩
   refine j6 (fun _=>?_) (fun _=>qe same)
   refine⟨_,rfl,_,rfl,c,70+k,rfl,by omega,by omega,fun x2 _ _=>?_⟩
   refine⟨_,_,rfl,rfl,(by decide:(0:Int)<40),_,rfl,?_⟩
   refine j6 (fun _=>?_) (fun _=>same)
   refine⟨_,rfl,_,rfl,c,90+k,rfl,by omega,by omega,fun x3 _ _=>?_⟩
   have z0:=dN x3 (show(0:Int)<9999 by decide)
   have z1:=dO x3 (show(0:Int)<9999 by decide)
   exact⟨_,_,rfl,rfl,(by decide:(0:Int)<9999),_,_,rfl,rfl,hNN _ _ ⟨_,rfl,rfl,Rm.Bd.of (by show -(2^13)<x3%9999-4999;omega) (by show x3%9999-4999<2^13;omega)⟩⟩
  rintro _ _ ⟨sm,rfl,rfl,bsm⟩
  refine⟨_,rfl,_,rfl,_,rfl,(by show 2<=sizeLine;decide),fun p2 hp2=>?_⟩
  have g2:=Same.new hp2 (.lst [.int sm,.int far])
  have g12:=g1.trans g2
  have hL:(upd H1 p2 (.lst [.int sm,.int far])) p2=some (.lst ([sm,far].map V.int)):=aA
  generalize upd H1 p2 (.lst [.int sm,.int far])=H2 at g2 g12 hL
  have fin:∀t:Bool,(t=true->b≠0∨15<=k)->∃v,atI ([sm,far].map V.int) (if t=true then 1 else 0)=some (.int v)/\Q (.int (Rm.tk b v)) H2:=fun t ht=>by
   cases t
   ·exact⟨_,bB (ns:=[sm,far]) (by decide) (by show(0:Int)<2;decide),q _ _ g12 (qF hb.lo _) (qI hb (by decide) (bsm.mono (by decide))) fun _=>qI hb (by decide) bsm⟩
   ·refine⟨_,bB (ns:=[sm,far]) (by decide) (by show(1:Int)<2;decide),q _ _ g12 (qF hb.lo _) (qI hb (by decide) bfar) fun h15=>?_⟩
    rcases ht rfl with z|z
    ·exact Fl hb (by decide) z (qF hb.lo _)
    ·omega
  have fT:∀h,∃v,atI ([sm,far].map V.int) 1=some (.int v)/\Q (.int (Rm.tk b v)) H2:=fun h=>fin true fun _=>h
  refine⟨_,rfl,_,_,rfl,rfl,_,rfl,?_⟩
  refine j6 (fun cb=> .inr ⟨_,rfl,?_⟩) (fun _=>?_)
  ·have hb7:b≠0∨15<=k:= .inl (by have:=dec_true cb;omega)
   exact⟨_,_,.inl (SqL.of hL),(fT hb7).choose_spec.1,b,_,rfl,hb.lo,(fT hb7).choose_spec.2⟩
  refine⟨_,rfl,_,_,rfl,rfl,_,rfl,?_⟩
  refine j6 (fun ck=>?_) (fun _=> .inr ⟨_,rfl,_,_,.inl (SqL.of hL),(fin false (fun z=>nomatch z)).choose_spec.1,b,_,rfl,hb.lo,(fin false (fun z=>nomatch z)).choose_spec.2⟩)
  have hk15:b≠0∨15<=k:= .inr (by have:=dec_true ck;omega)
  refine⟨_,rfl,_,rfl,c,50+k,rfl,by omega,by omega,fun x2 _ _=>?_⟩
  refine⟨_,_,rfl,rfl,(by decide:(0:Int)<7),?_⟩
  exact .inr ⟨_,rfl,_,_,.inl (SqL.of hL),(fin _ fun _=>hk15).choose_spec.1,b,_,rfl,hb.lo,(fin _ fun _=>hk15).choose_spec.2⟩
theorem xY(B:Bt mg)(F:Fn K mg "_law_places" pI ["_law_row","_law_count"])(M:Ms K mg base bF aP aG aY aO aD aR aQ au)(cX:Cal P w K mg base "_law_taken" 1 ["_law_by","_law_number"] dG):Cal P w K mg base "_law_places" 2 ["_law_row","_law_count"] jy:=by
 refine F.cal f9 (fun vs H Q E h=>?_) (fun f cdv A outer s H vs Q E hr h=>?_)
 ·obtain⟨v,r,c,rfl,_⟩:=h;rfl
 ·obtain⟨v,r,c,rfl,⟨a,p,p2,rfl,hA,hR,hS⟩,ok,hc0,hc1,q⟩:=h
  refine⟨_,(ao (mZ (pv 0) (Hi K (n:=3) rfl (gM (bK (i:=2) f9.nd rfl (Or.inl rfl)) (gM (bK (i:=3) f9.nd rfl (Or.inr rfl)) (gM (bK (i:=4) f9.nd rfl (Or.inl rfl)) wu)))))
   (ao (aL (i:=5) f9.nd rfl (Or.inr rfl) (Jm (bJ (xlist K) rfl B.b_list boot_list (aK (jH (xsl K) (pv 4) pG (jR (pv 1))) ak))))
   (ao (jd PassesOwn.never (bI yQ (aN (jj K) rfl B.b_len boot_len (aX (pv 5) ak)) (pv 1) (bQ _))
   (ao (aL (i:=6) f9.nd rfl (Or.inl rfl) (aN (Vv K rfl) rfl B.b_sum boot_sum (aK (dY (sc:=wk) (N:=["_law_k","_law_found","_law_rule"]) (ix:=[none,some 5,some 3]) (cY (by kernel_rfl) (by kernel_rfl) (by kernel_rfl) (by kernel_rfl) (by kernel_rfl) (by kernel_rfl) (by kernel_rfl) (by kernel_rfl)) rfl (cH rfl B.b_range (aK (aN (jj K) rfl B.b_len boot_len (aX (pv 3) ak)) ak)) (fun cl C s₀ H₀ ex=>⟨(bK (i:=0) (show(["_law_k","_law_found","_law_rule"]:List Str).Nodup by decide +kernel) rfl (Or.inl rfl)),dg,(aM v_mul (bG (xix K) (pv 2) (pv 0) (fun _ _=>rfl)) (bG (xix K) (pv 1) (aM cP (AK uo aq) (pv 0)) (fun _ _=>rfl)))⟩)) ak)))
   (aJ (uU (C6 K (pv 5) (aB cX hr rfl (aX (pv 2) (aX (pv 6) ak))))))))
   (aJ (bh (pv 5)))))),?_⟩
  have hl:=ok.len
  have hl2:=ok.short
  have lS:(r.starts.map V.int).length=r.starts.length:=List.length_map _
  have lR:(r.rule.map V.int).length=r.rule.length:=List.length_map _
  refine⟨_,rfl,a,_,rfl,SqT.of hA,rfl,_,_,rfl,_,_,rfl,_,_,rfl,rfl,?_⟩
  have hcut:uQ (r.starts.map V.int) none (some c)=(r.row (min c.toNat r.starts.length)).map V.int:=by
   have e:r.row (min c.toNat r.starts.length)=r.starts.take (min c.toNat r.starts.length):=Rm.mW (Nat.min_le_right _ _)
   rw[e]
   have e2:c=((c.toNat:Nat):Int):=by omega
   unfold uQ
   rw[e2,HT.jo,HT.jG,List.drop_zero,Nat.sub_zero,lS,List.map_take,Int.toNat_natCast]
  refine Bar.by (fun v H1=>∃l,v = .ref l/\Same H H1/\H l=none/\H1 l=some (.lst ((r.row (min c.toNat r.starts.length)).map V.int))) (fun kk hkk=>?_) ?_
  ·refine⟨_,rfl,_,rfl,_,rfl,?_⟩
   by_cases hw:r.starts.length<=c.toNat
   ·refine .inr (.inr ⟨_,SqT.of hS,?_,?_⟩)
    ·have e2:c=((c.toNat:Nat):Int):=by omega
     rw[e2,HT.jo,HT.jG,lS];omega
    ·refine⟨p2,_,rfl,.inr (SqT.of hS),fun l hl1=>hkk _ _ ⟨l,rfl,Same.new hl1 _,hl1,?_⟩⟩
     rw[aA,Nat.min_eq_right hw]
     have e:r.row r.starts.length=r.starts:=(Rm.mW (Nat.le_refl _)).trans (List.take_length ..)
     rw[e]
   ·refine .inr (.inl ⟨_,SqT.of hS,?_,fun p3 hp3=>?_⟩)
    ·have e2:c=((c.toNat:Nat):Int):=by omega
     rw[e2,HT.jo,HT.jG,lS];omega
    ·refine⟨p3,_,rfl,.inr (SqT.of aA),fun l hl1=>?_⟩
     have g3:=Same.new hp3 (.tup (uQ (r.starts.map V.int) none (some c)))
     refine hkk _ _ ⟨l,rfl,g3.trans (Same.new hl1 _),g3.free hl1,?_⟩
     rw[aA,hcut]
  rintro v H1 ⟨l,rfl,g1,hl1,hr1⟩
  refine⟨fun m σ' H'=>∃(n:Nat) (o6:Option V),m=c.toNat-n/\min c.toNat r.starts.length<=n/\n<=c.toNat/\σ'=[some (.ref a),some (.int c),some (.int r.b),some (.ref p),some (.ref p2),some (.ref l),o6]/\Same H H'/\H' l=some (.lst ((r.row n).map V.int)),
   ⟨_,min c.toNat r.starts.length,_,rfl,Nat.le_refl _,Nat.min_le_left _ _,rfl,g1,hr1⟩,?_⟩
  rintro m σ' H' ⟨n,o6,rfl,h1,h2,rfl,g,hL⟩
  have lL:((r.row n).map V.int).length=n:=by rw[List.length_map,Rw.eZ]
  have lN:(r.row n).length=n:=Rw.eZ ..
  refine⟨_,rfl,.ref l,n,rfl,.inl ⟨_,SqL.of hL,lL.symm⟩,_,rfl,_,_,rfl,rfl,_,rfl,?_⟩
  refine j6 (fun cc=>?_) (fun cc=>?_)
  ·have hn:n<c.toNat:=by have:=dec_true cc;omega
   refine⟨_,fun _ _ z=>z,?_⟩
   refine⟨_,rfl,.ref p,r.rule.length,rfl,.inr ⟨_,SqT.of (g _ _ hR),lR.symm⟩,?_⟩
   refine⟨(r.rule.length:Int),rfl,(by omega:-(2^62)<=(r.rule.length:Int)),(by omega:(r.rule.length:Int)<2^62),?_⟩
   rw[Int.toNat_natCast]
   refine jK (n:=r.rule.length) (by omega) rfl (fun k=>r.rule.getD k 0*(r.row n).getD (n-1-k) 0) ?_ ?_
   ·intro H2 k g2 hk kk hkk
    refine⟨_,rfl,_,rfl,_,_,.inr (SqT.of (g2 _ _ (g _ _ hR))),bB (ns:=r.rule) (by omega:(0:Int)<=0+(k:Int)) (by omega),?_⟩
    refine⟨_,rfl,_,rfl,_,rfl,_,_,rfl,rfl,_,_,.inl (SqL.of (g2 _ _ hL)),Dr (ns:=r.row n) (n-1-k) (by omega) (by rw[lN];omega),?_⟩
    refine⟨vH (Rm.Bd.getD ok.ruleBd _) (Rm.Bd.getD (ok.GB n (by omega)) _) (by decide),?_⟩
    rw[show(0+(k:Int)).toNat=k by omega]
    exact hkk
   ·intro D hD
    have gD:=Same.new hD (.lst ((Pm.ofF r.rule.length fun k=>r.rule.getD k 0*(r.row n).getD (n-1-k) 0).map V.int))
    refine⟨D,_,rfl,SqL.of aA,?_⟩
    have es:(Pm.ofF r.rule.length fun k=>r.rule.getD k 0*(r.row n).getD (n-1-k) 0).sum=Rm.S r.rule (fun i=>(r.row n).getD i 0) n r.rule.length:=Ju r.rule (fun i=>(r.row n).getD i 0) n r.rule.length
    rw[es]
    have hL3:=gD _ _ hL
    generalize upd H' D (.lst ((Pm.ofF r.rule.length fun k=>r.rule.getD k 0*(r.row n).getD (n-1-k) 0).map V.int))=H3 at gD hL3
    refine⟨_,rfl,.inl ⟨rfl,_,SqL.of hL3⟩,_,rfl,_,rfl,r.b,_,rfl,ok.by0,?_⟩
    refine⟨l,_,_,rfl,rfl,hL3,?_,?_⟩
    ·rw[lL];exact bW (by omega)
    ·refine⟨c.toNat-(n+1),by omega,n+1,_,rfl,by omega,by omega,rfl,(g.trans gD).upd hl1 _,?_⟩
     rw[aA]
     have e:r.row (n+1)=r.row n++[Rm.tk r.b (Rm.S r.rule (fun i=>(r.row n).getD i 0) n r.rule.length)]:=by
      show _++[if n<r.starts.length then r.starts.getD n 0 else _]=_
      rw[if_neg (by omega)];rfl
     rw[e,List.map_append];rfl
  ·have hn:n=c.toNat:=by have:=dec_false cc;omega
   subst hn
   exact⟨_,rfl,q l H' g hl1 hL⟩
theorem pJ(B:Bt mg)(F:Fn K mg "_law_made_longer" iu ["_law_row","_law_number"])(M:Ms K mg base bF aP aG aY aO aD aR aQ au)(cO:Cal P w K mg base "_law_places" 2 ["_law_row","_law_count"] jy)(cX:Cal P w K mg base "_law_taken" 1 ["_law_by","_law_number"] dG):Cal P w K mg base "_law_made_longer" 3 ["_law_row","_law_number"] xR:=by
 refine F.cal cG (fun vs H Q E h=>?_) (fun f cdv A outer s H vs Q E hr h=>?_)
 ·obtain⟨b,m,r0,s,v,r,n,rfl,_⟩:=h;rfl
 ·obtain⟨b,m,r0,s',v,r,n,rfl,hRI,hb,h0,ok,hs,hsh,hn,q⟩:=h
  refine⟨_,(ao (mZ (pv 0) (Hi K (n:=3) rfl (gM (bK (i:=2) cG.nd rfl (Or.inr rfl)) (gM (bK (i:=3) cG.nd rfl (Or.inl rfl)) (gM (bK (i:=4) cG.nd rfl (Or.inl rfl)) wu)))))
   (ao (aL (i:=5) cG.nd rfl (Or.inl rfl) (aB cO hr rfl (aX (pv 0) (kI (aM (gO K) (aN (jj K) rfl B.b_len boot_len (aX (pv 3) ak)) aq) ak))))
   (ao (aL (i:=6) cG.nd rfl (Or.inl rfl) (aM (gO K) (gQ (aX (pv 1) ak)) (aM v_mul (gQ (fB aq ak)) (aN (jj K) rfl B.b_len boot_len (aX (pv 3) ak)))))
   (ao (m5 PassesOwn.never rfl (cH rfl B.b_range (aK (aN (jj K) rfl B.b_len boot_len (aX (pv 3) ak)) ak)) (bK (i:=7) cG.nd rfl (Or.inl rfl))
   (ao (mZ (aM (gO K) (bG (xix K) (pv 6) (pv 7) (fun _ _=>rfl)) (bG (xix K) (pv 3) (pv 7) (fun _ _=>rfl))) (nJ (pv 6) (pv 7) set_list))
   (aJ (mZ (aM cP (bG (xix K) (pv 6) (aM (gO K) (pv 7) aq) (fun _ _=>rfl)) (aM v_mul (pv 1) (bG (xix K) (pv 3) (pv 7) (fun _ _=>rfl)))) (nJ (pv 6) (aM (gO K) (pv 7) aq) set_list)))))
   (aJ (bh (jO (aX (pv 2) (aK (bJ (gK K) rfl B.b_tuple boot_tuple (aK (dY (sc:=m8) (N:=["_law_one","_law_by"]) (ix:=[none,some 2]) (cY (by kernel_rfl) (by kernel_rfl) (by kernel_rfl) (by kernel_rfl) (by kernel_rfl) (by kernel_rfl) (by kernel_rfl) (by kernel_rfl)) rfl (Fw K (pv 6)) (fun cl C s₀ H₀ ex=>⟨(bK (i:=0) (show(["_law_one","_law_by"]:List Str).Nodup by decide +kernel) rfl (Or.inl rfl)),dg,(aB cX hr rfl (aX (pv 1) (aX (pv 0) ak)))⟩)) ak)) (aK (bJ (gK K) rfl B.b_tuple boot_tuple (aX (pv 5) ak)) ak)))))))))),?_⟩
  obtain⟨a,p,p2,rfl,hA,hR,hS⟩:=id hRI
  have hO:=ok.ok hb h0 (by omega)
  have eb:=ok.by_
  have lR:(r.rule.map V.int).length=r.rule.length:=List.length_map _
  refine⟨_,rfl,a,_,rfl,SqT.of hA,rfl,_,_,rfl,_,_,rfl,_,_,rfl,rfl,?_⟩
  refine⟨_,rfl,_,rfl,.ref p,r.rule.length,rfl,.inr ⟨_,SqT.of hR,lR.symm⟩,.ref a,r,(r.rule.length:Int)+1,rfl,hRI,hO.w (by omega),by omega,by omega,fun l1 H1 g1 hl1 h1=>?_⟩
  rw[show((r.rule.length:Int)+1).toNat=r.rule.length+1 by omega]at h1
  refine⟨_,rfl,(by show 1<=sizeLine;decide),fun l2 hl2=>?_⟩
  have g2:=Same.new hl2 (.lst [.int n])
  refine⟨(by show 1<=sizeLine;decide),fun l3 hl3=>?_⟩
  have g3:=Same.new hl3 (.lst [.int 0])
  have h2:(upd (upd H1 l2 (.lst [.int n])) l3 (.lst [.int 0])) l2=some (.lst [.int n]):=g3 _ _ aA
  have h3:(upd (upd H1 l2 (.lst [.int n])) l3 (.lst [.int 0])) l3=some (.lst [.int 0]):=aA
  have g13:=g2.trans g3
  generalize upd (upd H1 l2 (.lst [.int n])) l3 (.lst [.int 0])=H3 at g13 h2 h3
  refine⟨_,rfl,.ref p,r.rule.length,rfl,.inr ⟨_,SqT.of (g13 _ _ (g1 _ _ hR)),lR.symm⟩,?_⟩
  refine⟨_,h3,by omega,by omega,?_,fun l4 hl4=>?_⟩
  ·show 1*(r.rule.length:Int).toNat<=sizeLine
   rw[Nat.one_mul];exact Nat.le_of_lt (bW (by omega))
  rw[show(r.rule.length:Int).toNat=r.rule.length from Int.toNat_natCast _,fY]
  have g4:=Same.new hl4 (.lst ((Pm.ofF r.rule.length fun _=>0).map V.int))
  have h2':=g4 _ _ h2
  have h4:(upd H3 l4 (.lst ((Pm.ofF r.rule.length fun _=>0).map V.int))) l4=some (.lst ((Pm.ofF r.rule.length fun _=>0).map V.int)):=aA
  have g14:=g13.trans g4
  generalize upd H3 l4 (.lst ((Pm.ofF r.rule.length fun _=>0).map V.int))=H4 at g4 g14 h2' h4
  refine .inl ⟨_,_,h2',h4,?_,fun l5 hl5=>?_⟩
  ·rw[List.length_map,Pm.aU];exact Nat.le_of_lt (bW (by show 1+_<=1000;omega))
  have g5:=Same.new hl5 (.lst ([.int n]++(Pm.ofF r.rule.length fun _=>0).map V.int))
  have e5:([.int n]++(Pm.ofF r.rule.length fun _=>0).map V.int:List V)=(cZ n r.rule 0).map V.int:=by rw[yV,List.map_append];rfl
  have h5:(upd H4 l5 (.lst ([.int n]++(Pm.ofF r.rule.length fun _=>0).map V.int))) l5=some (.lst ((cZ n r.rule 0).map V.int)):=by rw[aA,e5]
  have g15:=g1.trans (g14.trans g5)
  have f5:H l5=none:=(g1.trans g14).free hl5
  have f51:H1 l5=none:=g14.free hl5
  have g15':=g14.trans g5
  generalize upd H4 l5 (.lst ([.int n]++(Pm.ofF r.rule.length fun _=>0).map V.int))=H5 at g5 h5 g15 g15'
  refine⟨_,rfl,.ref p,r.rule.length,rfl,.inr ⟨_,SqT.of (g15 _ _ hR),lR.symm⟩,?_⟩
  refine⟨(r.rule.length:Int),rfl,(by omega:-(2^62)<=(r.rule.length:Int)),(by omega:(r.rule.length:Int)<2^62),?_⟩
  refine iB (lo:=0) (n:=(r.rule.length:Int).toNat) (fun i σ' H'=>∃o7,σ'=[some (.ref a),some (.int n),some (.int r.b),some (.ref p),some (.ref p2),some (.ref l1),some (.ref l5),o7]/\Same H H'/\Same H1 H'/\H' l5=some (.lst ((cZ n r.rule i).map V.int))) ⟨_,rfl,g15,g15',h5⟩ ?_ ?_
  ·rintro i σ' H' hi ⟨o7,rfl,g,gg,hL⟩
   have hi':i<r.rule.length:=by omega
   have e1:(0+(i:Int)).toNat=i:=by omega
   have e2:(0+(i:Int)+1).toNat=i+1:=by omega
   have lL:(cZ n r.rule i).length=r.rule.length+1:=cD ..
   refine⟨_,rfl,_,rfl,_,_,.inl (SqL.of hL),bB (ns:=cZ n r.rule i) (by omega:(0:Int)<=0+(i:Int)) (by omega),?_⟩
   refine⟨_,rfl,_,rfl,_,_,.inr (SqT.of (g _ _ hR)),bB (ns:=r.rule) (by omega:(0:Int)<=0+(i:Int)) (by omega),?_⟩
   refine⟨_,rfl,_,rfl,l5,_,_,i,rfl,rfl,hL,oU (by omega) (by rw[List.length_map];omega),?_⟩
   rw[iR,e1]
   have gu:=g.upd f5 (.lst (((cZ n r.rule i).set i ((cZ n r.rule i).getD i 0+r.rule.getD i 0)).map V.int))
   have ggu:=gg.upd f51 (.lst (((cZ n r.rule i).set i ((cZ n r.rule i).getD i 0+r.rule.getD i 0)).map V.int))
   have hL2:(upd H' l5 (.lst (((cZ n r.rule i).set i ((cZ n r.rule i).getD i 0+r.rule.getD i 0)).map V.int))) l5=some (.lst (((cZ n r.rule i).set i ((cZ n r.rule i).getD i 0+r.rule.getD i 0)).map V.int)):=aA
   generalize upd H' l5 (.lst (((cZ n r.rule i).set i ((cZ n r.rule i).getD i 0+r.rule.getD i 0)).map V.int))=H6 at gu ggu hL2
   refine⟨_,rfl,_,rfl,_,_,.inl (SqL.of hL2),bB (ns:=(cZ n r.rule i).set i ((cZ n r.rule i).getD i 0+r.rule.getD i 0)) (by omega:(0:Int)<=0+(i:Int)+1) (by rw[List.length_set];omega),?_⟩
   refine⟨_,rfl,_,rfl,_,rfl,_,_,.inr (SqT.of (gu _ _ hR)),bB (ns:=r.rule) (by omega:(0:Int)<=0+(i:Int)) (by omega),?_⟩
   refine⟨vH hn (Rm.Bd.getD hO.ruleBd _) (by decide),_,_,rfl,rfl,?_⟩
   refine⟨_,rfl,_,rfl,l5,_,_,i+1,rfl,rfl,hL2,oU (by omega) (by rw[List.length_map,List.length_set];omega),?_⟩
   rw[iR,e1,e2]
   refine⟨_,rfl,gu.upd f5 _,ggu.upd f51 _,?_⟩
   rw[aA,<-yq hi'];rfl
  ·rintro σ' H' ⟨o7,rfl,g,gg,hL⟩
   rw[Int.toNat_natCast]at hL
   have lL:(cZ n r.rule r.rule.length).length=r.rule.length+1:=cD ..
   refine⟨_,rfl,_,rfl,l5,rfl,.inl ⟨⟨_,SqL.of hL⟩,?_⟩⟩
   refine wH hL (by omega) rfl (fun x=>Rm.tk r.b x) ?_ ?_
   ·intro H2 x g2 hx k hk
    exact⟨_,rfl,_,rfl,r.b,x,rfl,hO.by0,hk⟩
   ·intro D hD
    have gD:=Same.new hD (.lst (((cZ n r.rule r.rule.length).map fun x=>Rm.tk r.b x).map V.int))
    refine⟨D,_,rfl,.inl ⟨SqL.of aA,fun t1 ht1=>?_⟩⟩
    have gt1:=Same.new ht1 (.tup (((cZ n r.rule r.rule.length).map fun x=>Rm.tk r.b x).map V.int))
    refine⟨_,rfl,l1,_,rfl,.inl ⟨SqL.of (gt1 _ _ (gD _ _ (gg _ _ h1))),fun t2 ht2=>?_⟩⟩
    have gt2:=Same.new ht2 (.tup ((r.row (r.rule.length+1)).map V.int))
    refine⟨(by show 3<=sizeLine;decide),fun t3 ht3=>?_⟩
    have gt3:=Same.new ht3 (.tup [.int r.b,.ref t1,.ref t2])
    have fin:=ok.longer hb h0 (by omega) hsh hn
    rw[<-eb]at fin
    refine q _ ⟨r.b,(cZ n r.rule r.rule.length).map (Rm.tk r.b),r.row (r.rule.length+1)⟩ _ (g.trans (gD.trans (gt1.trans (gt2.trans gt3)))) ⟨t3,t1,t2,rfl,aA,gt3 _ _ (gt2 _ _ aA),gt3 _ _ aA⟩ (by rw[<-eb];exact fin) (by show((cZ n r.rule r.rule.length).map (Rm.tk r.b)).length=_;rw[List.length_map,cD])
theorem rE(B:Bt mg)(F:Fn K mg "_law_drawn_row" jr ["_law_script","_law_start","_law_by","_law_most"])(M:Ms K mg base bF aP aG aY aO aD aR aQ au)(dW:Cal P w K mg base "_law_cell_at" 1 ["_law_script","_law_k"] (v5 K))(dZ:Cal P w K mg base "_law_mix" 1 ["_law_cell","_law_k"] uF)(cR:Cal P w K mg base "_law_one_number" 2 ["_law_by","_law_cell","_law_k"] Bl)(gZ:Cal P w K mg base "_law_made_longer" 3 ["_law_row","_law_number"] xR)(cX:Cal P w K mg base "_law_taken" 1 ["_law_by","_law_number"] dG):Cal P w K mg base "_law_drawn_row" 4 ["_law_script","_law_start","_law_by","_law_most"] (BJ K):=by
 refine F.cal cM (fun vs H Q E h=>?_) (fun f cdv A outer s H vs Q E hr h=>?_)
 ·obtain⟨a,ns,st,b,m,rfl,_⟩:=h;rfl
 ·obtain⟨a,ns,st,b,m,rfl,hS,s0,s1,hB,hb,m0,m1,q⟩:=h
  refine⟨_,(ao (aL (i:=4) cM.nd rfl (Or.inl rfl) (aB dW hr rfl (aX (pv 0) (aX (pv 1) ak))))
   (ao (aL (i:=5) cM.nd rfl (Or.inl rfl) (aM dD (aB dZ hr rfl (aX (pv 4) (fB aq ak))) (aM (gO K) (pv 3) aq)))
   (ao (aL (i:=6) cM.nd rfl (Or.inr rfl) (aB dW hr rfl (aX (pv 0) (kI (aM (gO K) (pv 1) aq) ak))))
   (ao (aL (i:=7) cM.nd rfl (Or.inl rfl) (bJ (gK K) rfl B.b_tuple boot_tuple (aK (dY (sc:=pQ) (N:=["_law_k","_law_by","_law_mine"]) (ix:=[none,some 2,some 6]) (cY (by kernel_rfl) (by kernel_rfl) (by kernel_rfl) (by kernel_rfl) (by kernel_rfl) (by kernel_rfl) (by kernel_rfl) (by kernel_rfl)) rfl (cH rfl B.b_range (aX (pv 5) ak)) (fun cl C s₀ H₀ ex=>⟨(bK (i:=0) (show(["_law_k","_law_by","_law_mine"]:List Str).Nodup by decide +kernel) rfl (Or.inl rfl)),dg,(aB cR hr rfl (aX (pv 1) (aX (pv 2) (aX (pv 0) ak))))⟩)) ak)))
   (ao (aL (i:=9) cM.nd rfl (Or.inl rfl) (jO (aX (pv 2) (aX (pv 7) (aK (bJ (gK K) rfl B.b_tuple boot_tuple (aK (dY (sc:=qb) (N:=["_law_k","_law_by","_law_mine"]) (ix:=[none,some 2,some 6]) (cY (by kernel_rfl) (by kernel_rfl) (by kernel_rfl) (by kernel_rfl) (by kernel_rfl) (by kernel_rfl) (by kernel_rfl) (by kernel_rfl)) rfl (cH rfl B.b_range (aX (pv 5) ak)) (fun cl C s₀ H₀ ex=>⟨(bK (i:=0) (show(["_law_k","_law_by","_law_mine"]:List Str).Nodup by decide +kernel) rfl (Or.inl rfl)),dg,(aB cR hr rfl (aX (pv 1) (aX (pv 2) (kI (aM (gO K) aq (pv 0)) ak))))⟩)) ak)) ak)))))
   (ao (m5 PassesOwn.never rfl (cH rfl B.b_range (aK (bG (xix K) (gQ (fB aq (fB aq (fB aq (fB aq (fB aq (fB aq (fB aq (fB aq ak))))))))) (aM dD (aB dZ hr rfl (aX (pv 4) (fB aq ak))) aq) (fun _ _=>rfl)) ak)) (bK (i:=8) cM.nd rfl (Or.inl rfl))
   (aJ (qP (fJ (bI yQ (aN (jj K) rfl B.b_len boot_len (aK (bG (xix K) (pv 9) aq (fun _ _=>rfl)) ak)) aq (bQ _))
   (aJ (aL (i:=9) cM.nd rfl (Or.inl rfl) (aB gZ hr rfl (aX (pv 9) (aK (aB cX hr rfl (aX (pv 2) (kI (aM cP (aM dD (aB dZ hr rfl (aX (pv 4) (kI (aM (gO K) aq (pv 8)) ak))) aq) aq) ak))) ak)))))
   cC))))
   (aJ (bh (pv 9))))))))),?_⟩
  refine⟨_,rfl,_,rfl,a,ns,st,rfl,hS,s0,by omega,hB,fun c hc=>?_⟩
  refine⟨_,rfl,c,2,rfl,by decide,by decide,fun x x0 x1=>?_⟩
  refine⟨_,rfl,_,_,rfl,rfl,(by show 0<m+1;omega),?_⟩
  have k0:=dN x (show 0<m+1 by omega)
  have k1:=dO x (show 0<m+1 by omega)
  dsimp only
  generalize x%(m+1)=sz at k0 k1
  refine⟨_,rfl,_,rfl,a,ns,st+1,rfl,hS,by omega,by omega,hB,fun c2 hc2=>?_⟩
  obtain⟨N,rfl⟩:∃N:Nat,sz=(N:Int):=⟨sz.toNat,by omega⟩
  refine⟨_,rfl,N,rfl,(by omega:-(2^62)<=(N:Int)),(by omega:(N:Int)<2^62),?_⟩
  rw[Int.toNat_natCast]
  refine nF (n:=N) (by omega) rfl (fun x=>gJ b x/\Rm.Bd 13 x) ?_ ?_
  ·intro H2 k g2 hk kk hkk
   exact⟨_,rfl,_,rfl,_,rfl,b,c2,0+(k:Int),rfl,hb,hc2,by omega,by omega,fun x H3 g3 h1 _ h2=>hkk x H3 g3 ⟨h1,h2 (by omega)⟩⟩
  intro D H1 rule hD g1 hD1 lr hr
  refine⟨D,_,rfl,.inl ⟨SqL.of hD1,fun t1 ht1=>?_⟩⟩
  have gt1:=Same.new ht1 (.tup (rule.map V.int))
  have h1:(upd H1 t1 (.tup (rule.map V.int))) t1=some (.tup (rule.map V.int)):=aA
  have g2:=g1.trans gt1
  generalize upd H1 t1 (.tup (rule.map V.int))=H2 at gt1 h1 g2
  refine⟨_,rfl,_,rfl,_,rfl,N,rfl,(by omega:-(2^62)<=(N:Int)),(by omega:(N:Int)<2^62),?_⟩
  rw[Int.toNat_natCast]
  refine nF (n:=N) (by omega) rfl (fun x=>gJ b x/\Rm.Bd 31 x) ?_ ?_
  ·intro H3 k g3 hk kk hkk
   exact⟨_,rfl,_,rfl,_,rfl,b,c2,15+(0+(k:Int)),rfl,hb,hc2,by omega,by omega,fun x H3 g3 h1 h2 _=>hkk x H3 g3 ⟨h1,h2⟩⟩
  intro D2 H3 starts hD2 g3 hD3 ls hs
  refine⟨D2,_,rfl,.inl ⟨SqL.of hD3,fun t2 ht2=>?_⟩⟩
  have gt2:=Same.new ht2 (.tup (starts.map V.int))
  refine⟨(by show 3<=sizeLine;decide),fun t3 ht3=>?_⟩
  have gt3:=Same.new ht3 (.tup [.int b,.ref t1,.ref t2])
  have gA:=g2.trans (g3.trans (gt2.trans gt3))
  have R0:fQ (upd (upd H3 t2 (.tup (starts.map V.int))) t3 (.tup [.int b,.ref t1,.ref t2])) (.ref t3) ⟨b,rule,starts⟩:=⟨t3,t1,t2,rfl,aA,gt3 _ _ (gt2 _ _ (g3 _ _ h1)),gt3 _ _ aA⟩
  generalize upd (upd H3 t2 (.tup (starts.map V.int))) t3 (.tup [.int b,.ref t1,.ref t2])=H4 at gA R0
  have B0:Bs b m.toNat ⟨b,rule,starts⟩:=⟨rfl,lr.trans ls.symm,(by show rule.length<=m.toNat;omega),by omega,fun x hx=>(hr x hx).1,fun x hx=>(hs x hx).1,fun x hx=>(hr x hx).2,fun x hx=>(hs x hx).2⟩
  have S0:RwS b ⟨b,rule,starts⟩ 0 ⟨b,rule,starts⟩:=⟨rfl,lr.trans ls.symm,(by show rule.length<=12;omega),fun x hx=>(hr x hx).1,fun x hx=>(hr x hx).2,fun _=>rfl⟩
  have lr0:rule.length<=m.toNat:=by omega
  refine⟨(by show 8<=sizeLine;decide),fun p8 hp8=>?_⟩
  have g8:=Same.new hp8 (.lst (ou.map V.int))
  refine⟨_,rfl,c,3,rfl,by decide,by decide,fun y y0 y1=>?_⟩
  have e0:=dN y (show(0:Int)<8 by decide)
  have e1:=dO y (show(0:Int)<8 by decide)
  refine⟨_,_,rfl,rfl,(by decide:(0:Int)<8),_,_,.inl (SqL.of aA),bB (ns:=ou) e0 e1,?_⟩
  have ty:=BW (y%8).toNat (by omega)
  generalize ou.getD (y%8).toNat 0=T at ty
  have g9:=gA.trans g8
  have R1:=R0.same g8
  have eH:(upd H4 p8 (.lst [.int 0,.int 0,.int 1,.int 0,.int 2,.int 0,.int 0,.int 3]))=upd H4 p8 (.lst (ou.map V.int)):=rfl
  rw[eH]
  generalize upd H4 p8 (.lst (ou.map V.int))=H5 at g9 R1
  refine⟨T,rfl,(by omega:-(2^62)<=T),(by omega:T<2^62),?_⟩
  refine iB (lo:=0) (n:=T.toNat) (fun i σ' H'=>∃(v:V) (r:Rw) (o8:Option V),σ'=[some (.ref a),some (.int st),some (.int b),some (.int m),some (.int c),some (.int N),some (.int c2),some (.ref t1),o8,some v]/\Same H H'/\fQ H' v r/\RwS b ⟨b,rule,starts⟩ i r/\r.rule.length<=m.toNat+i) ⟨.ref t3,_,_,rfl,g9,R1,S0,lr0⟩ ?_ ?_
  ·rintro i σ' H' hi ⟨v,r,o8,rfl,g,hR,ok,lm⟩
   obtain⟨ra,rp,rq,rfl,hA,hP,hQ2⟩:=id hR
   refine EW.by (fun σ' H'=>∃(v:V) (r:Rw) (o8:Option V),σ'=[some (.ref a),some (.int st),some (.int b),some (.int m),some (.int c),some (.int N),some (.int c2),some (.ref t1),o8,some v]/\Same H H'/\fQ H' v r/\RwS b ⟨b,rule,starts⟩ (i+1) r/\r.rule.length<=m.toNat+(i+1)) (fun NN hNN=>?_) (fun σ' H' z=>z)
   refine⟨_,rfl,_,_,.inr (SqT.of hA),rfl,.ref rp,r.rule.length,rfl,.inr ⟨_,SqT.of hP,(List.length_map _).symm⟩,_,_,rfl,rfl,_,rfl,?_⟩
   refine j6 (fun cc=>?_) (fun cc=>hNN _ _ ⟨_,r,_,rfl,g,hR,ok.up,by omega⟩)
   have hsh:r.rule.length<12:=by have:=dec_true cc;omega
   refine⟨_,rfl,_,rfl,_,rfl,_,rfl,c,4+(0+(i:Int)),rfl,by omega,by omega,fun y2 _ _=>?_⟩
   have z0:=dN y2 (show(0:Int)<5 by decide)
   have z1:=dO y2 (show(0:Int)<5 by decide)
   refine⟨_,_,rfl,rfl,(by decide:(0:Int)<5),_,_,rfl,rfl,b,_,rfl,hb.lo,?_⟩
   refine⟨b,m.toNat,_,i,_,r,_,rfl,hR,hb,B0,ok,by omega,hsh,qI hb (by decide) (Rm.Bd.of (by show -(2^10)<y2%5-2;omega) (by show y2%5-2<2^10;omega)),fun v' r' H2 g2 R2 ok2 l2=>?_⟩
   exact hNN _ _ ⟨v',r',_,rfl,g.trans g2,R2,ok2,by omega⟩
  ·rintro σ' H' ⟨v,r,o8,rfl,g,hR,ok,lm⟩
   exact⟨_,rfl,q v _ _ r H' g hR B0 ok (by omega) lm⟩
theorem uT(B:Bt mg)(F:Fn K mg "_law_shorter" mz ["_law_by","_law_number","_law_last"])(M:Ms K mg base bF aP aG aY aO aD aR aQ au):Cal P w K mg base "_law_shorter" 1 ["_law_by","_law_number","_law_last"] uq:=by
 refine F.cal vY (fun vs H Q E h=>?_) (fun f cdv A outer s H vs Q E hr h=>?_)
 ·obtain⟨b,x,last,rfl,_⟩:=h;rfl
 ·obtain⟨b,x,last,rfl,h0,hl,q⟩:=h
  refine⟨_,(ao (fJ (bI (xeq K hr) (pv 0) aq (bQ _))
   (aJ (bh (aM Dq (pv 1) (pv 2))))
   cC)
   (aJ (bh (aM dD (pv 1) (pv 0))))),?_⟩
  refine⟨_,rfl,_,rfl,?_⟩
  refine j6 (fun c=>?_) (fun c=>?_)
  ·have c':b=0:=dec_true c
   obtain⟨h1,h2⟩:=hl c'
   refine⟨_,rfl,_,rfl,_,_,rfl,rfl,⟨h1,Nat.lt_of_lt_of_le (J8 h2 h1) (by decide)⟩,?_⟩
   unfold Dm.sh at q
   rw[if_pos c']at q;exact q
  ·have c':¬b=0:=dec_false c
   refine⟨_,rfl,_,rfl,_,_,rfl,rfl,(by omega:(0:Int)<b),?_⟩
   unfold Dm.sh at q
   rw[if_neg c']at q;exact q
theorem DQ(B:Bt mg)(F:Fn K mg "_law_rank" vD ["_law_by","_law_size","_law_some"])(M:Ms K mg base bF aP aG aY aO aD aR aQ au)(mD:Cal P w K mg base "_law_shorter" 1 ["_law_by","_law_number","_law_last"] uq):Cal P w K mg base "_law_rank" 2 ["_law_by","_law_size","_law_some"] Bc:=by
 refine F.cal dI (fun vs H Q E h=>?_) (fun f cdv A outer s H vs Q E hr h=>?_)
 ·obtain⟨b,n,l,ps,a,L,ua,rfl,_⟩:=h;rfl
 ·obtain⟨b,n,l,ps,a,L,ua,rfl,hL,hps,ea,hB,lst,ll,n12,atk,hua,ua10,abd,q⟩:=h
  refine⟨_,(ao (aL (i:=3) dI.nd rfl (Or.inr rfl) (Ey (sc:=Br) (N:=["_law_i","_law_size","_law_some"]) (ix:=[none,some 1,some 2]) (ow:=["_law_i"]) (DL (by kernel_rfl) (by kernel_rfl) (by kernel_rfl) (by kernel_rfl) (by kernel_rfl) (by kernel_rfl) (by kernel_rfl) (by kernel_rfl) (by kernel_rfl) (by kernel_rfl)) rfl (cH rfl B.b_range (aX (pv 1) ak)) (fun cl C s₀ H₀ ex=>⟨(bK (i:=0) (show(["_law_i","_law_size","_law_some"]:List Str).Nodup by decide +kernel) rfl (Or.inr rfl)),dg,(dY (sc:=BF) (N:=["_law_j","_law_i","_law_some"]) (ix:=[none,some 0,some 2]) (cY (by kernel_rfl) (by kernel_rfl) (by kernel_rfl) (by kernel_rfl) (by kernel_rfl) (by kernel_rfl) (by kernel_rfl) (by kernel_rfl)) rfl (cH rfl B.b_range (aX (pv 1) ak)) (fun cl C s₀ H₀ ex=>⟨(bK (i:=0) (show(["_law_j","_law_i","_law_some"]:List Str).Nodup by decide +kernel) rfl (Or.inl rfl)),dg,(bG (xix K) (pv 2) (aM (gO K) (pv 1) (pv 0)) (fun _ _=>rfl))⟩))⟩)))
   (ao (aL (i:=4) dI.nd rfl (Or.inl rfl) aq)
   (ao (aL (i:=5) dI.nd rfl (Or.inr rfl) aq)
   (ao (m5 PassesOwn.never rfl (cH rfl B.b_range (aX (pv 1) ak)) (bK (i:=6) dI.nd rfl (Or.inr rfl))
   (ao (aL (i:=7) dI.nd rfl (Or.inl rfl) (jH (xsl K) (dY (sc:=Av) (N:=["_law_k","_law_column","_law_table"]) (ix:=[none,some 6,some 3]) (cY (by kernel_rfl) (by kernel_rfl) (by kernel_rfl) (by kernel_rfl) (by kernel_rfl) (by kernel_rfl) (by kernel_rfl) (by kernel_rfl)) rfl (nW rfl B.b_range (aX (pv 4) (aX (pv 1) ak))) (fun cl C s₀ H₀ ex=>⟨(bK (i:=0) (show(["_law_k","_law_column","_law_table"]:List Str).Nodup by decide +kernel) rfl (Or.inl rfl)),(HX (bI (xne K hr) (bG (xix K) (bG (xix K) (pv 2) (pv 0) (fun _ _=>rfl)) (pv 1) (fun _ _=>rfl)) aq (bQ _))),(pv 0)⟩)) pG (jR aq)))
   (aJ (fJ (bI (xne K hr) (pv 7) (gQ ak) (bQ _))
   (ao (mZ (jO (aK (bG (xix K) (pv 3) (bG (xix K) (pv 7) aq (fun _ _=>rfl)) (fun _ _=>rfl)) (aK (bG (xix K) (pv 3) (pv 4) (fun _ _=>rfl)) ak))) (Hi K (n:=2) rfl (gM (nJ (pv 3) (pv 4) set_list) (gM (nJ (pv 3) (bG (xix K) (pv 7) aq (fun _ _=>rfl)) set_list) wu))))
   (ao (aL (i:=9) dI.nd rfl (Or.inr rfl) (bG (xix K) (pv 3) (pv 4) (fun _ _=>rfl)))
   (ao (m5 PassesOwn.never rfl (nW rfl B.b_range (kI (aM (gO K) (pv 4) aq) (aX (pv 1) ak))) (bK (i:=8) dI.nd rfl (Or.inl rfl))
   (ao (aL (i:=10) dI.nd rfl (Or.inr rfl) (bG (xix K) (pv 3) (pv 8) (fun _ _=>rfl)))
   (ao (rN (i:=11) (hN:=dI.nd) (hi':=rfl) (hx:=(Or.inl rfl)) (sc:=Bg) (N:=["_law_j","_law_column","_law_head","_law_row"]) (ix:=[none,some 6,some 9,some 10]) (cY (by kernel_rfl) (by kernel_rfl) (by kernel_rfl) (by kernel_rfl) (by kernel_rfl) (by kernel_rfl) (by kernel_rfl) (by kernel_rfl)) rfl (cH rfl B.b_range (aX (pv 1) ak)) (fun cl C s₀ H₀ ex=>⟨(bK (i:=0) (show(["_law_j","_law_column","_law_head","_law_row"]:List Str).Nodup by decide +kernel) rfl (Or.inl rfl)),dg,(aM cP (aM v_mul (bG (xix K) (pv 2) (pv 1) (fun _ _=>rfl)) (bG (xix K) (pv 3) (pv 0) (fun _ _=>rfl))) (aM v_mul (bG (xix K) (pv 3) (pv 1) (fun _ _=>rfl)) (bG (xix K) (pv 2) (pv 0) (fun _ _=>rfl))))⟩))
   (aJ (mZ (dY (sc:=Cm) (N:=["_law_one","_law_by","_law_last"]) (ix:=[none,some 0,some 5]) (cY (by kernel_rfl) (by kernel_rfl) (by kernel_rfl) (by kernel_rfl) (by kernel_rfl) (by kernel_rfl) (by kernel_rfl) (by kernel_rfl)) rfl (Fw K (pv 11)) (fun cl C s₀ H₀ ex=>⟨(bK (i:=0) (show(["_law_one","_law_by","_law_last"]:List Str).Nodup by decide +kernel) rfl (Or.inl rfl)),dg,(aB mD hr rfl (aX (pv 1) (aX (pv 0) (aX (pv 2) ak))))⟩)) (nJ (pv 3) (pv 8) set_list))))))
   (ao (aL (i:=5) dI.nd rfl (Or.inr rfl) (bG (xix K) (pv 9) (pv 6) (fun _ _=>rfl)))
   (aJ (aL (i:=4) dI.nd rfl (Or.inl rfl) (aM (gO K) (pv 4) aq)))))))
   cC))))
   (aJ (bh (pv 4))))))),?_⟩
  obtain⟨hb0,hb1,_⟩:=hB.range
  have hD:=hB.dom
  have hp:=lst.mon.pos
  have hone:Rm.tk b 1≠0:=by rw[hB.one];decide
  refine⟨_,rfl,(n:Int),rfl,(by omega:-(2^62)<=(n:Int)),(by omega:(n:Int)<2^62),?_⟩
  rw[Int.toNat_natCast]
  refine zj jm (by rw[List.length_map,List.length_range];omega) rfl (KJ fun i=>Pm.ofF n fun j=>a (i+j)) ?_ ?_
  ·intro H1 x g1 hx k hk
   obtain⟨i,hi,rfl⟩:=List.mem_map.mp hx
   have hi':=List.mem_range.mp hi
   refine⟨_,rfl,(n:Int),rfl,(by omega:-(2^62)<=(n:Int)),(by omega:(n:Int)<2^62),?_⟩
   rw[Int.toNat_natCast]
   refine jK (n:=n) (by omega) rfl (fun j=>a (i+j)) ?_ ?_
   ·intro H2 j g2 hj kk hkk
    refine⟨_,rfl,_,rfl,_,rfl,_,_,.inl (SqL.of (g2 _ _ (g1 _ _ hL))),bB (ns:=ps) (by omega:(0:Int)<=0+(i:Int)+(0+(j:Int))) (by omega),?_⟩
    rw[show(0+(i:Int)+(0+(j:Int))).toNat=i+j by omega]
    have:=ea (i+j) (by omega)
    unfold Pm.co at this
    rw[this]
    exact hkk
   ·intro D hD'
    refine hk D _ (Same.new hD' _) hD' ?_
    rw[aA]
    show _=some (HO.lst ((Pm.ofF n fun j=>a ((0+(i:Int)).toNat+j)).map V.int))
    rw[show(0+(i:Int)).toNat=i by omega]
  intro lt xs H1 fT g1 hT hX
  rw[rJ]at hX
  have R0:Dm.RkI b n 0 (hkN n a) (hkN n a) (Fz n n fun i j=>a (i+j)) 1 ua:=Dm.RkI.start hB.one (Ep ..) (fun i hi=>by rw[Dg hi,Pm.aU]) (fun i k hi hk=>by rw[Hf hi hk,Fo hi hk,atk]) (fun i k=>by
   unfold hkN
   split
   ·rename_i z;exact abd _ (by omega)
   ·exact Rm.Bd.zero _)
  have hI:Dm.Ind b n (L.length-1) (hkN n a):=fun x hx=>by
   have:=Dm.E4 (n':=n) (by omega) (Dm.qu hD (Dm.vZ hD hone lst.mon lst.nu lst.kp lst.all))
   exact this x ((Dc (by omega)).mp hx)
  have hrel:∀j,L.length-1<=j->j<n->∃x,Dm.Rel b n n (hkN n a) x/\Rm.tk b (x j)≠0/\∀k,j<k->x k=0:=fun j h1 h2=>by
   obtain⟨x,y1,y2,y3⟩:=Dm.DR hone lst.mon lst.kp h1 h2
   exact⟨x,(Dc (Nat.le_refl _)).mpr y1,y2,y3⟩
  refine⟨_,rfl,(n:Int),rfl,(by omega:-(2^62)<=(n:Int)),(by omega:(n:Int)<2^62),?_⟩
  refine iB (lo:=0) (n:=(n:Int).toNat) (fun c σ' H'=>∃(xs:List V) (t:List (List Int)) (last:Int) (A:Nat->Nat->Int) (o6 o7 o8 o9 o10 o11:Option V),σ'=[some (.int b),some (.int (n:Int)),some (.ref l),some (.ref lt),some (.int ((min c (L.length-1):Nat):Int)),some (.int last),o6,o7,o8,o9,o10,o11]/\Same H H'/\H' lt=some (.lst xs)/\Lns H' [lt] xs t/\Dm.RkI b n (min c (L.length-1)) (hkN n a) A t last ua)
   ⟨xs,_,1,hkN n a,_,_,_,_,_,_,by rw[Nat.zero_min];rfl,g1,hT,hX,by rw[Nat.zero_min];exact R0⟩ ?_ ?_
  ·rintro c σ' H2 hc' ⟨xs2,t,last,A,o6,o7,o8,o9,o10,o11,rfl,g2,hT2,hX2,R⟩
   have hc:c<n:=by omega
   obtain⟨d,hd⟩:∃d,min c (L.length-1)=d:=⟨_,rfl⟩
   rw[hd]at R⊢
   have dn:d<=n:=by omega
   have lx:=hX2.len
   have lt':=R.len
   refine⟨_,rfl,_,rfl,(d:Int),(n:Int),rfl,⟨by omega,by omega,by omega,by omega⟩,?_⟩
   rw[show((n:Int)-(d:Int)).toNat=n-d by omega]
   refine Bf (lo:=d) (n:=n-d) (by omega) rfl (fun k=>!decide (Pm.co (Dm.ln t (d+k)) c=0)) ?_ ?_ ?_
   ·intro H3 k g3 hk kk hkk
    obtain⟨tk,e1,e2,e3⟩:=(hX2.same g3).get (i:=d+k) (by omega)
    have lw:=R.wd (d+k) (by omega)
    refine⟨_,rfl,_,rfl,_,_,.inl (SqL.of (g3 _ _ hT2)),oH (d+k) (by omega) e1,?_⟩
    refine⟨_,rfl,_,_,.inl (SqL.of e3),bB (ns:=Dm.ln t (d+k)) (by omega:(0:Int)<=0+(c:Int)) (by omega),?_⟩
    rw[show(0+(c:Int)).toNat=c by omega]
    exact⟨_,rfl,hkk⟩
   ·intro H3 k g3 hk _ kk hkk
    exact⟨_,rfl,hkk⟩
   intro D hDn
   have gD:=Same.new hDn (.lst ((((List.range (n-d)).filter fun k=>!decide (Pm.co (Dm.ln t (d+k)) c=0)).map fun k:Nat=>(d:Int)+(k:Int)).map V.int))
   refine⟨_,rfl,.inl ⟨_,SqL.of aA,fun la hla=>?_⟩⟩
   have cut1:∀zs:List V,uQ zs none (some 1)=zs.take 1:=fun zs=>tV zs 1
   rw[cut1]
   have gla:=Same.new hla (.lst (List.take 1 ((((List.range (n-d)).filter fun k=>!decide (Pm.co (Dm.ln t (d+k)) c=0)).map fun k:Nat=>(d:Int)+(k:Int)).map V.int)))
   have gDl:=gD.trans gla
   have hA:(upd (upd H2 D (.lst ((((List.range (n-d)).filter fun k=>!decide (Pm.co (Dm.ln t (d+k)) c=0)).map fun k:Nat=>(d:Int)+(k:Int)).map V.int))) la (.lst (List.take 1 ((((List.range (n-d)).filter fun k=>!decide (Pm.co (Dm.ln t (d+k)) c=0)).map fun k:Nat=>(d:Int)+(k:Int)).map V.int)))) la=some (.lst (List.take 1 ((((List.range (n-d)).filter fun k=>!decide (Pm.co (Dm.ln t (d+k)) c=0)).map fun k:Nat=>(d:Int)+(k:Int)).map V.int))):=aA
   generalize upd (upd H2 D (.lst ((((List.range (n-d)).filter fun k=>!decide (Pm.co (Dm.ln t (d+k)) c=0)).map fun k:Nat=>(d:Int)+(k:Int)).map V.int))) la (.lst (List.take 1 ((((List.range (n-d)).filter fun k=>!decide (Pm.co (Dm.ln t (d+k)) c=0)).map fun k:Nat=>(d:Int)+(k:Int)).map V.int)))=H3 at gDl hA
   have ne_la:la≠lt:=fun z=>by rw[z,gD _ _ hT2]at hla;cases hla
   have hT3:=gDl _ _ hT2
   have hX3:=hX2.same gDl
   have g3:=g2.trans gDl
   rcases E3 (m:=n-d) (p:=fun k=>!decide (Pm.co (Dm.ln t (d+k)) c=0))with⟨e0,hz⟩|⟨i,r,e1,hi,hpi⟩
   ·-- none: the heads are all found
    rw[e0]at hA
    have hA':H3 la=some (.lst (([]:List Int).map V.int)):=hA
    have hcl:L.length-1<=c:=Nat.le_of_not_lt fun z=>by
     have ed:d=c:=by omega
     rw[ed]at R hz
     obtain⟨i,h1,h2,h3⟩:=R.some hD hI z (by omega)
     have:=hz (i-c) (by omega)
     rw[show c+(i-c)=i by omega,decide_eq_false h3]at this
     cases this
    have ed:d=L.length-1:=by omega
    refine⟨_,rfl,(by show 0<=sizeLine;decide),fun le hle=>?_⟩
    have gle:=Same.new hle (.lst ([]:List V))
    refine JQ (ns:=[]) (ms:=[]) (SqL.of (gle _ _ hA')) (SqL.of aA) ⟨_,rfl,?_⟩
    rw[decide_eq_true rfl]
    refine qe ⟨xs2,t,last,A,some (.int (0+(c:Int))),some (.ref la),o8,o9,o10,o11,?_,g3.trans gle,gle _ _ hT3,hX3.same gle,?_⟩
    ·rw[show min (c+1) (L.length-1)=d by omega];rfl
    ·rw[show min (c+1) (L.length-1)=d by omega];exact R
   ·-- a head
    rw[e1]at hA
    have hA':H3 la=some (.lst ([(d:Int)+(i:Int)].map V.int)):=hA
    have hne:Pm.co (Dm.ln t (d+i)) c≠0:=fun z=>by rw[decide_eq_true z]at hpi;cases hpi
    have hcl:c<L.length-1:=Nat.lt_of_not_le fun z=>by
     have ed:d=L.length-1:=by omega
     rw[ed]at R hne
     exact hne (R.none hD (by omega) hrel c hc _ (by omega) (by omega))
    have ed:d=c:=by omega
    subst ed
    obtain⟨a0,ha0⟩:∃a0,d+i=a0:=⟨_,rfl⟩
    have hda:d<=a0:=by omega
    have han:a0<n:=by omega
    have eI:(d:Int)+(i:Int)=(a0:Int):=by omega
    rw[ha0]at hne
    rw[eI]at hA'
    clear hpi e1 hA hi
    refine⟨_,rfl,(by show 0<=sizeLine;decide),fun le hle=>?_⟩
    have gle:=Same.new hle (.lst ([]:List V))
    refine JQ (ns:=[(a0:Int)]) (ms:=[]) (SqL.of (gle _ _ hA')) (SqL.of aA) ⟨_,rfl,?_⟩
    rw[decide_eq_false (by intro z;cases z)]
    refine K7 ?_
    have hA4:=gle _ _ hA'
    have hT4:=gle _ _ hT3
    have hX4:=hX3.same gle
    have g4:=g3.trans gle
    generalize upd H3 le (.lst ([]:List V))=H4 at gle hA4 hT4 hX4 g4
    clear gle hA' hT3 hX3 g3 gDl hX2 hT2 gla gD hX hT g1 hla hDn
    obtain⟨ta,fa1,fa2,fa3⟩:=hX4.get (i:=a0) (by omega)
    obtain⟨td,fd1,fd2,fd3⟩:=hX4.get (i:=d) (by omega)
    refine⟨_,rfl,_,rfl,_,_,.inl (SqL.of hA4),rfl,_,_,.inl (SqL.of hT4),oH a0 rfl fa1,?_⟩
    refine⟨_,rfl,_,rfl,_,_,.inl (SqL.of hT4),oH d rfl fd1,(by show 2<=sizeLine;decide),fun tp htp=>?_⟩
    have gtp:=Same.new htp (.tup [.ref ta,.ref td])
    have hP5:(upd H4 tp (.tup [.ref ta,.ref td])) tp=some (.tup [.ref ta,.ref td]):=aA
    have hA5:=gtp _ _ hA4
    have hT5:=gtp _ _ hT4
    have hX5:=hX4.same gtp
    have g5:=g4.trans gtp
    have fa5:=gtp _ _ fa3
    have fd5:=gtp _ _ fd3
    generalize upd H4 tp (.tup [.ref ta,.ref td])=H5 at gtp hP5 hA5 hT5 hX5 g5 fa5 fd5
    have ne_la':la≠lt:=ne_la
    refine⟨tp,_,rfl,SqT.of hP5,rfl,_,_,rfl,?_⟩
    refine⟨_,rfl,_,rfl,lt,_,_,d,rfl,rfl,hT5,oU (by omega) (by omega),?_⟩
    have k6:=Keep.upd lt H5 (.lst (xs2.set d (.ref ta)))
    have hT6:(upd H5 lt (.lst (xs2.set d (.ref ta)))) lt=some (.lst (xs2.set d (.ref ta))):=aA
    have g6:=g5.upd fT (.lst (xs2.set d (.ref ta)))
    have hX6:=(Lns.set fa2 fa5 d hX5).keep (List.mem_singleton.mpr rfl) k6
    have hA6:=k6 _ _ ne_la hA5
    have fd6:=k6 _ _ (fun z=>fd2 (List.mem_singleton.mpr z)) fd5
    generalize upd H5 lt (.lst (xs2.set d (.ref ta)))=H6 at k6 hT6 g6 hX6 hA6 fd6
    refine⟨_,_,rfl,?_⟩
    refine⟨_,rfl,_,rfl,_,_,.inl (SqL.of hA6),rfl,lt,_,_,a0,rfl,rfl,hT6,oU (by omega) (by rw[List.length_set];omega),rfl,?_⟩
    have k7:=Keep.upd lt H6 (.lst ((xs2.set d (.ref ta)).set a0 (.ref td)))
    have hT7:(upd H6 lt (.lst ((xs2.set d (.ref ta)).set a0 (.ref td)))) lt=some (.lst ((xs2.set d (.ref ta)).set a0 (.ref td))):=aA
    have g7:=g6.upd fT (.lst ((xs2.set d (.ref ta)).set a0 (.ref td)))
    have hX7:=(Lns.set fd2 fd6 a0 hX6).keep (List.mem_singleton.mpr rfl) k7
    generalize upd H6 lt (.lst ((xs2.set d (.ref ta)).set a0 (.ref td)))=H7 at k7 hT7 g7 hX7
    generalize (xs2.set d (.ref ta)).set a0 (.ref td)=xs7 at hT7 hX7
    have lT1:((t.set d (Dm.ln t a0)).set a0 (Dm.ln t d)).length=n:=by rw[List.length_set,List.length_set];omega
    have eT1:∀k,Dm.ln ((t.set d (Dm.ln t a0)).set a0 (Dm.ln t d)) k=if k=d then Dm.ln t a0 else if k=a0 then Dm.ln t d else Dm.ln t k:=fun k=>by
     rw[tG _ (by rw[List.length_set];omega),tG _ (by omega)]
     by_cases z1:k=d
     ·rw[if_pos z1,if_pos z1]
      by_cases z2:k=a0
      ·rw[if_pos z2,<-z1,z2]
      ·rw[if_neg z2]
     ·rw[if_neg z1,if_neg z1]
    generalize (t.set d (Dm.ln t a0)).set a0 (Dm.ln t d)=t1 at hX7 lT1 eT1
    clear k6 hT6 hA6 fd6 g6 hX6 k7 hA5 hT5 hX5 hP5 fa5 fd5 fa3 fd3 hA4 hT4 hX4 g4 g5 gtp
    obtain⟨th,fh1,fh2,fh3⟩:=hX7.get (i:=d) (by omega)
    rw[eT1,if_pos rfl]at fh3
    refine⟨_,rfl,_,rfl,_,_,.inl (SqL.of hT7),oH d rfl fh1,?_⟩
    have lh:(Dm.ln t a0).length=n:=R.wd a0 han
    refine⟨_,rfl,_,rfl,(d:Int)+1,(n:Int),rfl,⟨by omega,by omega,by omega,by omega⟩,?_⟩
    refine iB (lo:=(d:Int)+1) (n:=((n:Int)-((d:Int)+1)).toNat) (fun m σ' H'=>∃(xs':List V) (t':List (List Int)) (o8 o10 o11:Option V),σ'=[some (.int b),some (.int (n:Int)),some (.ref l),some (.ref lt),some (.int (d:Int)),some (.int last),some (.int (0+(d:Int))),some (.ref la),o8,some (.ref th),o10,o11]/\Same H H'/\H' lt=some (.lst xs')/\Lns H' [lt] xs' t'/\H' th=some (.lst ((Dm.ln t a0).map V.int))/\t'.length=n/\(∀k,k<n->(Dm.ln t' k).length=n)/\
     (∀k,d+1+m<=k->k<n->Dm.ln t' k=Dm.ln t (if k=a0 then d else k))/\∀k,d<k->k<d+1+m->∀j,j<n->Pm.co (Dm.ln t' k) j=Dm.sh b (Pm.co (Dm.ln t a0) d*Pm.co (Dm.ln t (if k=a0 then d else k)) j-Pm.co (Dm.ln t (if k=a0 then d else k)) d*Pm.co (Dm.ln t a0) j) last)
     ⟨xs7,t1,_,_,_,rfl,g7,hT7,hX7,fh3,lT1,fun k hk=>?_,fun k h1 h2=>?_,fun k h1 h2=>by omega⟩ ?_ ?_
    ·rw[eT1]
     split
     ·exact lh
     ·split
      ·exact R.wd d (by omega)
      ·exact R.wd k hk
    ·rw[eT1,if_neg (by omega)]
     split<;>rfl
    ·rintro m σ' H8 hm ⟨xs8,t8,o8,o10,o11,rfl,g8,hT8,hX8,hh8,l8,w8,e8,f8⟩
     obtain⟨k,hk⟩:∃k,d+1+m=k:=⟨_,rfl⟩
     have hkn:k<n:=by omega
     have eK:(d:Int)+1+(m:Int)=(k:Int):=by omega
     rw[eK]
     obtain⟨tr,r1,r2,r3⟩:=hX8.get (i:=k) (by omega)
     have eR:=e8 k (by omega) hkn
     have bR:∀j,j<n->Rm.Bd 100000 (Pm.co (Dm.ln t8 k) j):=fun j hj=>by
      rw[eR]
      refine(R.bd hb0 hb1 (i:=if k=a0 then d else k) ?_ ?_ n12 hj).mono ?_
      ·split<;>omega
      ·split<;>omega
      ·have:14*(ua+14)<=14*(850+14):=Nat.mul_le_mul_left _ (by omega)
       omega
     have bH:∀j,j<n->Rm.Bd 100000 (Pm.co (Dm.ln t a0) j):=fun j hj=>by
      refine(R.bd hb0 hb1 hda han n12 hj).mono ?_
      have:14*(ua+14)<=14*(850+14):=Nat.mul_le_mul_left _ (by omega)
      omega
     have lr:(Dm.ln t8 k).length=n:=w8 k hkn
     refine⟨_,rfl,_,rfl,_,_,.inl (SqL.of hT8),oH k rfl r1,?_⟩
     refine⟨_,rfl,(n:Int),rfl,(by omega:-(2^62)<=(n:Int)),(by omega:(n:Int)<2^62),?_⟩
     rw[Int.toNat_natCast]
     refine jK (n:=n) (by omega) rfl (fun j=>Pm.co (Dm.ln t a0) d*Pm.co (Dm.ln t8 k) j-Pm.co (Dm.ln t8 k) d*Pm.co (Dm.ln t a0) j) ?_ ?_
     ·intro H9 j g9 hj kk hkk
      have ix0:(0:Int)<=0+(d:Int):=by omega
      have ix1:(0:Int)<=0+(j:Int):=by omega
      refine⟨_,rfl,_,rfl,_,_,.inl (SqL.of (g9 _ _ hh8)),bB (ns:=Dm.ln t a0) ix0 (by omega),?_⟩
      refine⟨_,rfl,_,rfl,_,_,.inl (SqL.of (g9 _ _ r3)),bB (ns:=Dm.ln t8 k) ix1 (by omega),?_⟩
      rw[show(0+(d:Int)).toNat=d by omega,show(0+(j:Int)).toNat=j by omega]
      refine⟨vH (bH d (by omega)) (bR j hj) (by decide),?_⟩
      refine⟨_,rfl,_,rfl,_,_,.inl (SqL.of (g9 _ _ r3)),bB (ns:=Dm.ln t8 k) ix0 (by omega),?_⟩
      refine⟨_,rfl,_,rfl,_,_,.inl (SqL.of (g9 _ _ hh8)),bB (ns:=Dm.ln t a0) ix1 (by omega),?_⟩
      rw[show(0+(d:Int)).toNat=d by omega,show(0+(j:Int)).toNat=j by omega]
      exact⟨vH (bR d (by omega)) (bH j hj) (by decide),_,_,rfl,rfl,hkk⟩
     ·intro D9 hD9
      have g9:=Same.new hD9 (.lst ((Pm.ofF n fun j=>Pm.co (Dm.ln t a0) d*Pm.co (Dm.ln t8 k) j-Pm.co (Dm.ln t8 k) d*Pm.co (Dm.ln t a0) j).map V.int))
      have h9:(upd H8 D9 (.lst ((Pm.ofF n fun j=>Pm.co (Dm.ln t a0) d*Pm.co (Dm.ln t8 k) j-Pm.co (Dm.ln t8 k) d*Pm.co (Dm.ln t a0) j).map V.int))) D9=some (.lst ((Pm.ofF n fun j=>Pm.co (Dm.ln t a0) d*Pm.co (Dm.ln t8 k) j-Pm.co (Dm.ln t8 k) d*Pm.co (Dm.ln t a0) j).map V.int)):=aA
      generalize upd H8 D9 (.lst ((Pm.ofF n fun j=>Pm.co (Dm.ln t a0) d*Pm.co (Dm.ln t8 k) j-Pm.co (Dm.ln t8 k) d*Pm.co (Dm.ln t a0) j).map V.int))=H9 at g9 h9
      refine⟨_,rfl,D9,rfl,.inl ⟨⟨_,SqL.of h9⟩,wH h9 (by rw[Pm.aU];omega) rfl (fun x=>Dm.sh b x last) ?_ ?_⟩⟩
      ·intro H10 x g10 hx kk hkk
       exact⟨_,rfl,_,rfl,_,rfl,b,x,last,rfl,hb0,fun z=>RkI.GD R z (by omega) hua,hkk⟩
      ·intro D10 hD10
       have g10:=Same.new hD10 (.lst (((Pm.ofF n fun j=>Pm.co (Dm.ln t a0) d*Pm.co (Dm.ln t8 k) j-Pm.co (Dm.ln t8 k) d*Pm.co (Dm.ln t a0) j).map fun x=>Dm.sh b x last).map V.int))
       have h10:(upd H9 D10 (.lst (((Pm.ofF n fun j=>Pm.co (Dm.ln t a0) d*Pm.co (Dm.ln t8 k) j-Pm.co (Dm.ln t8 k) d*Pm.co (Dm.ln t a0) j).map fun x=>Dm.sh b x last).map V.int))) D10=some (.lst (((Pm.ofF n fun j=>Pm.co (Dm.ln t a0) d*Pm.co (Dm.ln t8 k) j-Pm.co (Dm.ln t8 k) d*Pm.co (Dm.ln t a0) j).map fun x=>Dm.sh b x last).map V.int)):=aA
       have ne10:D10∉[lt]:=fun z=>by
        rw[List.mem_singleton.mp z,g9 _ _ hT8]at hD10;cases hD10
       generalize upd H9 D10 (.lst (((Pm.ofF n fun j=>Pm.co (Dm.ln t a0) d*Pm.co (Dm.ln t8 k) j-Pm.co (Dm.ln t8 k) d*Pm.co (Dm.ln t a0) j).map fun x=>Dm.sh b x last).map V.int))=H10 at g10 h10
       have g910:=g9.trans g10
       have hT10:=g910 _ _ hT8
       have hX10:=hX8.same g910
       have lx8:=hX8.len
       have ne_th:th≠lt:=fun z=>fh2 (List.mem_singleton.mpr z)
       refine⟨_,rfl,_,rfl,lt,_,_,k,rfl,rfl,hT10,oU (by omega) (by omega),?_⟩
       have k11:=Keep.upd lt H10 (.lst (xs8.set k (.ref D10)))
       have en:(Pm.ofF n fun j=>Pm.co (Dm.ln t a0) d*Pm.co (Dm.ln t8 k) j-Pm.co (Dm.ln t8 k) d*Pm.co (Dm.ln t a0) j).map (fun x=>Dm.sh b x last)=Pm.ofF n fun j=>Dm.sh b (Pm.co (Dm.ln t a0) d*Pm.co (Dm.ln t8 k) j-Pm.co (Dm.ln t8 k) d*Pm.co (Dm.ln t a0) j) last:=by
        rw[Pm.ofF,Pm.ofF,List.map_map];rfl
       rw[en]at h10
       refine⟨xs8.set k (.ref D10),t8.set k (Pm.ofF n fun j=>Dm.sh b (Pm.co (Dm.ln t a0) d*Pm.co (Dm.ln t8 k) j-Pm.co (Dm.ln t8 k) d*Pm.co (Dm.ln t a0) j) last),_,_,_,rfl,(g8.trans g910).upd fT _,aA,(Lns.set ne10 h10 k hX10).keep (List.mem_singleton.mpr rfl) k11,k11 _ _ ne_th (g910 _ _ hh8),by rw[List.length_set];exact l8,fun k' hk'=>?_,fun k' h1 h2=>?_,fun k' h1 h2 j hj=>?_⟩
       ·rw[tG _ (by omega)]
        split
        ·exact Pm.aU ..
        ·exact w8 k' hk'
       ·rw[tG _ (by omega),if_neg (by omega)]
        exact e8 k' (by omega) h2
       ·rw[tG _ (by omega)]
        by_cases z:k'=k
        ·rw[if_pos z,Pm.cF,if_pos hj,z,eR]
        ·rw[if_neg z]
         exact f8 k' h1 (by omega) j hj
    ·rintro σ' H8 ⟨xs8,t8,o8,o10,o11,rfl,g8,hT8,hX8,hh8,l8,w8,e8,f8⟩
     refine⟨_,rfl,_,rfl,_,_,.inl (SqL.of hh8),bB (ns:=Dm.ln t a0) (by omega:(0:Int)<=0+(d:Int)) (by omega),?_⟩
     rw[show(0+(d:Int)).toNat=d by omega]
     have S:=R.step hD hda han hne l8 w8 (fun k h1 h2 j hj=>f8 k h1 (by omega) j hj)
     refine⟨_,rfl,xs8,t8,Pm.co (Dm.ln t a0) d,Dm.xch A d a0,some (.int (0+(d:Int))),some (.ref la),o8,some (.ref th),o10,o11,?_,g8,hT8,hX8,?_⟩
     ·rw[show min (d+1) (L.length-1)=d+1 by omega];rfl
     ·rw[show min (d+1) (L.length-1)=d+1 by omega];exact S
  ·rintro σ' H2 ⟨xs2,t,last,A,o6,o7,o8,o9,o10,o11,rfl,g2,hT2,hX2,R⟩
   refine⟨_,rfl,?_⟩
   rw[show min (n:Int).toNat (L.length-1)=L.length-1 by omega]
   exact q _ g2
theorem yr(B:Bt mg)(F:Fn K mg "_law_length" n8 ["_law_row"])(M:Ms K mg base bF aP aG aY aO aD aR aQ au)(mX:Cal P w K mg base "_law_rank" 2 ["_law_by","_law_size","_law_some"] Bc)(cO:Cal P w K mg base "_law_places" 2 ["_law_row","_law_count"] jy):Cal P w K mg base "_law_length" 3 ["_law_row"] KQ:=by
 refine F.cal yU (fun vs H Q E h=>?_) (fun f cdv A outer s H vs Q E hr h=>?_)
 ·obtain⟨v,b,r,ua,u,L,rfl,_⟩:=h;rfl
 ·obtain⟨v,b,r,ua,u,L,rfl,hR,hM,hua,lst,ll,q⟩:=h
  refine⟨_,(aJ (bh (aB mX hr rfl (aK (bG (xix K) (pv 0) aq (fun _ _=>rfl)) (aK (aN (jj K) rfl B.b_len boot_len (aK (bG (xix K) (pv 0) aq (fun _ _=>rfl)) ak)) (aK (aB cO hr rfl (aX (pv 0) (kI (aM v_mul aq (aN (jj K) rfl B.b_len boot_len (aK (bG (xix K) (pv 0) aq (fun _ _=>rfl)) ak))) ak))) ak)))))),?_⟩
  obtain⟨a,p,p2,rfl,hA,hP,hS⟩:=id hR
  have h12:=hM.len12
  have lP:(r.rule.map V.int).length=r.rule.length:=List.length_map _
  refine⟨_,rfl,_,_,.inr (SqT.of hA),rfl,_,rfl,_,_,.inr (SqT.of hA),rfl,.ref p,r.rule.length,rfl,.inr ⟨_,SqT.of hP,lP.symm⟩,?_⟩
  refine⟨_,rfl,_,rfl,_,_,.inr (SqT.of hA),rfl,.ref p,r.rule.length,rfl,.inr ⟨_,SqT.of hP,lP.symm⟩,mulL (by decide) (by decide),?_⟩
  refine⟨.ref a,r,2*(r.rule.length:Int),rfl,hR,hM.ok.w (by omega),by omega,by omega,fun l1 H1 g1 f1 h1=>?_⟩
  rw[show(2*(r.rule.length:Int)).toNat=2*r.rule.length by omega]at h1
  refine⟨r.b,r.rule.length,l1,r.row (2*r.rule.length),r.at,L,ua,rfl,h1,by rw[Rw.eZ];omega,fun i hi=>by rw[Rw.eZ]at hi;exact Rm.rH _ _ _ hi,hM.byp,by rw[hM.by_];exact lst,ll,h12,fun i=>hM.ok.AF i,hua,hM.ua10,fun i hi=>hM.at_ i (by omega),fun H2 g2=>q _ (g1.trans g2)⟩
theorem zq(B:Bt mg)(F:Fn K mg "_law_is_row" oE ["_law_found","_law_by"])(M:Ms K mg base bF aP aG aY aO aD aR aQ au)(cX:Cal P w K mg base "_law_taken" 1 ["_law_by","_law_number"] dG):Cal P w K mg base "_law_is_row" 2 ["_law_found","_law_by"] wI:=by
 refine F.cal qL (fun vs H Q E h=>?_) (fun f cdv A outer s H vs Q E hr h=>?_)
 ·obtain⟨v,r,rfl,_⟩:=h;rfl
 ·obtain⟨v,r,rfl,hR,ok,q⟩:=h
  refine⟨_,(ao (fJ (PW.pt (pA (ju (gU (aN dj rfl B.b_isinstance boot_isinstance (aX (pv 0) (aX (m6 rfl B.b_tuple boot_tuple) ak))))) (pA (bI (xne K hr) (aN (jj K) rfl B.b_len boot_len (aX (pv 0) ak)) aq (bQ _)) (pA (ju (gU (aN dj rfl B.b_isinstance boot_isinstance (aK (bG (xix K) (pv 0) aq (fun _ _=>rfl)) (aX (m6 rfl B.b_int boot_int) ak))))) (qO (gU (aN dj rfl B.b_isinstance boot_isinstance (aK (bG (xix K) (pv 0) aq (fun _ _=>rfl)) (aX (m6 rfl B.b_bool boot_bool) ak)))))))))
   (aJ (bh pY))
   cC)
   (ao (fJ (PW.pt (pA (ju (gU (aN dj rfl B.b_isinstance boot_isinstance (aK (bG (xix K) (pv 0) aq (fun _ _=>rfl)) (aX (m6 rfl B.b_tuple boot_tuple) ak))))) (pA (ju (gU (aN dj rfl B.b_isinstance boot_isinstance (aK (bG (xix K) (pv 0) aq (fun _ _=>rfl)) (aX (m6 rfl B.b_tuple boot_tuple) ak))))) (qO (bI (xne K hr) (aN (jj K) rfl B.b_len boot_len (aK (bG (xix K) (pv 0) aq (fun _ _=>rfl)) ak)) (aN (jj K) rfl B.b_len boot_len (aK (bG (xix K) (pv 0) aq (fun _ _=>rfl)) ak)) (bQ _))))))
   (aJ (bh pY))
   cC)
   (ao (m5 PassesOwn.never rfl (Fw K (aM (gO K) (bG (xix K) (pv 0) aq (fun _ _=>rfl)) (bG (xix K) (pv 0) aq (fun _ _=>rfl)))) (bK (i:=2) qL.nd rfl (Or.inl rfl))
   (aJ (fJ (PW.pt (pA (ju (gU (aN dj rfl B.b_isinstance boot_isinstance (aX (pv 2) (aX (m6 rfl B.b_int boot_int) ak))))) (pA (gU (aN dj rfl B.b_isinstance boot_isinstance (aX (pv 2) (aX (m6 rfl B.b_bool boot_bool) ak)))) (qO (bI (xne K hr) (pv 2) (aB cX hr rfl (aX (pv 1) (aX (pv 2) ak))) (bQ _))))))
   (aJ (bh pY))
   cC)))
   (aJ (bh (iQ (xeq K hr) (bG (xix K) (pv 0) aq (fun _ _=>rfl)) (pv 1) (bQ _))))))),?_⟩
  obtain⟨a,p,p2,rfl,hA,hP,hS⟩:=id hR
  have hl:=ok.len
  have hs:=ok.short
  have ty:DK H (.ref a)=some "tuple" := by simp only[DK,hA]
  have ty1:DK H (.ref p)=some "tuple" := by simp only[DK,hP]
  have ty2:DK H (.ref p2)=some "tuple" := by simp only[DK,hS]
  have lP:(r.rule.map V.int).length=r.rule.length:=List.length_map _
  have lS:(r.starts.map V.int).length=r.starts.length:=List.length_map _
  refine⟨_,rfl,.ref a,"tuple","tuple",rfl,ty,by simp,_,rfl,qe ?_⟩
  refine⟨_,rfl,.ref a,3,rfl,.inr ⟨_,SqT.of hA,rfl⟩,_,rfl,qe ?_⟩
  refine⟨_,rfl,_,_,.inr (SqT.of hA),rfl,.int r.b,"int","int",rfl,rfl,by simp,_,rfl,qe ?_⟩
  refine⟨_,rfl,_,_,.inr (SqT.of hA),rfl,.int r.b,"bool","int",rfl,rfl,by simp,_,rfl,qe ?_⟩
  refine⟨_,rfl,_,_,.inr (SqT.of hA),rfl,.ref p,"tuple","tuple",rfl,ty1,by simp,_,rfl,qe ?_⟩
  refine⟨_,rfl,_,_,.inr (SqT.of hA),rfl,.ref p2,"tuple","tuple",rfl,ty2,by simp,_,rfl,qe ?_⟩
  refine⟨_,rfl,_,_,.inr (SqT.of hA),rfl,.ref p,r.rule.length,rfl,.inr ⟨_,SqT.of hP,lP.symm⟩,_,rfl,_,_,.inr (SqT.of hA),rfl,.ref p2,r.starts.length,rfl,.inr ⟨_,SqT.of hS,lS.symm⟩,_,rfl,?_⟩
  rw[decide_eq_true (by rw[hl])]
  refine qe ?_
  have fin:∀(o:Option V) (H':Hp),Same H H'->(tOp (zx K id) (fun σ H Q=>K3 0 σ H fun x H1=>tC (.int 0) σ H1 fun y H2=>K5 K x y H2 Q) (K3 1)) [some (.ref a),some (.int r.b),o] H' Q:=fun o H' g=>by
   refine⟨_,rfl,_,_,.inr (SqT.of (g _ _ hA)),rfl,_,rfl,?_⟩
   dsimp only[zx,id]
   rw[decide_eq_true rfl]
   exact q _ g
  refine⟨_,rfl,_,_,.inr (SqT.of hA),rfl,_,rfl,_,_,.inr (SqT.of hA),rfl,?_⟩
  refine .inr ⟨_,_,SqT.of hP,SqT.of hS,by rw[lP,lS];exact Nat.le_of_lt (bW (by omega)),fun e=>?_,fun e e'=>absurd (by rw[List.map_eq_nil_iff]at e' ⊢;exact List.length_eq_zero_iff.mp (by rw[hl,e'];rfl)) e,fun e e' p3 hp3=>?_⟩
  ·have e2:r.starts=[]:=List.length_eq_zero_iff.mp (by rw[<-hl,List.map_eq_nil_iff.mp e];rfl)
   rw[e2]at hS
   refine⟨p2,rfl,.inr ⟨⟨_,SqT.of hS⟩,Bj (sV (SqT.of hS)) (fun i σ' H'=>∃o,σ'=[some (.ref a),some (.int r.b),o]/\Same H H') ⟨_,rfl,Same.refl _⟩ (fun i σ' H' ⟨_,_,z⟩=>z) ?_ ?_⟩⟩
   ·rintro i x σ' H' hx ⟨o,rfl,g⟩
    cases hx
   ·rintro σ' H' ⟨o,rfl,g⟩
    exact fin o H' g
  ·have g3:=Same.new hp3 (.tup (r.rule.map V.int++r.starts.map V.int))
   have h3:(upd H p3 (.tup (r.rule.map V.int++r.starts.map V.int))) p3=some (.tup ((r.rule++r.starts).map V.int)):=by rw[aA,List.map_append]
   generalize upd H p3 (.tup (r.rule.map V.int++r.starts.map V.int))=H3 at g3 h3
   refine⟨p3,rfl,.inr ⟨⟨_,SqT.of h3⟩,Bj (sV (SqT.of h3)) (fun i σ' H'=>∃o,σ'=[some (.ref a),some (.int r.b),o]/\Same H3 H') ⟨_,rfl,Same.refl _⟩ (fun i σ' H' ⟨_,_,z⟩=>z) ?_ ?_⟩⟩
   ·rintro i x σ' H' hx ⟨o,rfl,g⟩
    obtain⟨y,hy,rfl⟩:=List.mem_map.mp (List.mem_of_getElem? hx)
    have hn:gJ r.b y:=by
     rcases List.mem_append.mp hy with z|z
     ·exact ok.ruleNum y z
     ·exact ok.startsNum y z
    refine⟨_,rfl,.int y,"int","int",rfl,rfl,by simp,_,rfl,qe ?_⟩
    refine⟨_,rfl,.int y,"bool","int",rfl,rfl,by simp,_,rfl,qe ?_⟩
    refine⟨_,rfl,_,rfl,_,rfl,r.b,y,rfl,ok.by0,?_⟩
    rw[Bo hn]
    exact⟨_,rfl,LC rfl ⟨_,rfl,g⟩⟩
   ·rintro σ' H' ⟨o,rfl,g⟩
    exact fin o H' (g3.trans g)
theorem B4(B:Bt mg)(F:Fn K mg "_law_right" qW ["_law_found","_law_by","_law_most","_law_some"])(M:Ms K mg base bF aP aG aY aO aD aR aQ au)(oA:Cal P w K mg base "_law_is_row" 2 ["_law_found","_law_by"] wI)(mX:Cal P w K mg base "_law_rank" 2 ["_law_by","_law_size","_law_some"] Bc)(cO:Cal P w K mg base "_law_places" 2 ["_law_row","_law_count"] jy):Cal P w K mg base "_law_right" 3 ["_law_found","_law_by","_law_most","_law_some"] Ci:=by
 refine F.cal tU (fun vs H Q E h=>?_) (fun f cdv A outer s H vs Q E hr h=>?_)
 ·obtain⟨v,b,r,m,l,a,L,ua,rfl,_⟩:=h;rfl
 ·obtain⟨v,b,r,m,l,a,L,ua,rfl,hR,hT,hm,hL,q⟩:=h
  refine⟨_,(ao (fJ (PW.pt (pA (ju (gU (aB oA hr rfl (aX (pv 0) (aX (pv 1) ak))))) (qO (bI rY (aN (jj K) rfl B.b_len boot_len (aK (bG (xix K) (pv 0) aq (fun _ _=>rfl)) ak)) (pv 2) (bQ _)))))
   (aJ (bh pY))
   cC)
   (ao (aL (i:=4) tU.nd rfl (Or.inl rfl) (aN (jj K) rfl B.b_len boot_len (aK (bG (xix K) (pv 0) aq (fun _ _=>rfl)) ak)))
   (aJ (bh (Fv (iQ (xeq K hr) (aB cO hr rfl (aX (pv 0) (aK (aN (jj K) rfl B.b_len boot_len (aX (pv 3) ak)) ak))) (pv 3) (bQ _)) (Ax (iQ (xeq K hr) (aB mX hr rfl (aX (pv 1) (aX (pv 4) (aX (pv 3) ak)))) (pv 4) (bQ _)))))))),?_⟩
  have eb:=hT.by_
  subst eb
  have h12:=hT.len12
  have hp:=hT.lst.mon.pos
  have hle:=hT.len
  refine⟨_,rfl,_,rfl,v,r,rfl,hR,hT.ok,fun H1 g1=>⟨_,rfl,qe ?_⟩⟩
  obtain⟨ar,p,p2,rfl,hA,hP,hS⟩:=id (hR.same g1)
  have lP:(r.rule.map V.int).length=r.rule.length:=List.length_map _
  refine⟨_,rfl,_,_,.inr (SqT.of hA),rfl,.ref p,r.rule.length,rfl,.inr ⟨_,SqT.of hP,lP.symm⟩,_,rfl,_,_,rfl,rfl,_,rfl,?_⟩
  rw[decide_eq_false (by omega:¬m<(r.rule.length:Int))]
  refine qe ?_
  refine⟨_,rfl,_,_,.inr (SqT.of hA),rfl,.ref p,r.rule.length,rfl,.inr ⟨_,SqT.of hP,lP.symm⟩,?_⟩
  have hL1:=g1 _ _ hL
  have lA:((Pm.ofF 48 a).map V.int).length=48:=by rw[List.length_map,Pm.aU]
  refine⟨_,rfl,_,rfl,.ref l,48,rfl,.inl ⟨_,SqL.of hL1,lA.symm⟩,.ref ar,r,48,rfl,hR.same g1,hT.ok.w (by decide),by decide,by decide,fun l2 H2 g2 f2 h2=>?_⟩
  have e48:r.row (48:Int).toNat=Pm.ofF 48 a:=by
   rw[vV]
   exact congrArg (Pm.ofF 48) (funext hT.same)
  rw[e48]at h2
  have hL2:=g2 _ _ hL1
  refine⟨_,rfl,JQ (SqL.of h2) (SqL.of hL2) ⟨_,rfl,?_⟩⟩
  rw[decide_eq_true rfl]
  refine K7 ?_
  refine⟨_,rfl,_,rfl,_,rfl,r.b,r.rule.length,l,Pm.ofF 48 a,a,L,ua,rfl,hL2,by rw[Pm.aU];omega,fun i hi=>by rw[Pm.aU]at hi;rw[Pm.cF,if_pos hi],hT.hB.p,hT.lst,by omega,h12,fun i=>by rw[<-hT.same i];exact hT.ok.AF i,hT.hua,hT.ua10,hT.bd,fun H3 g3=>?_⟩
  refine⟨_,rfl,?_⟩
  dsimp only[zx,id]
  rw[decide_eq_true (by rw[hle])]
  exact q _ (g1.trans (g2.trans g3))
theorem Az(B:Bt mg)(F:Fn K mg "_law_heard" sE ["_law_told"])(M:Ms K mg base bF aP aG aY aO aD aR aQ au):KZ P w K mg base "_law_heard" 13 ["_law_told"] (xQ P w K mg base 12 (wV au)):=by
 refine F.VR jl (fun s vs H Q E h=>?_) (fun f cdv A outer s H vs Q E hr h=>?_)
 ·obtain⟨f,sp0,rfl,_⟩:=h;rfl
 ·obtain⟨f,sp0,rfl,hL,R,far,h0,q1,q2⟩:=h
  refine⟨_,(ao (aL (i:=1) jl.nd rfl (Or.inl rfl) Fd)
   (ao (aL (i:=2) jl.nd rfl (Or.inl rfl) Fd)
   (ao (vI (i:=0) (v:=2) (j:=3) hL hr rfl rfl rfl rfl (Or.inl rfl) jl.nd rfl (Or.inl rfl) rfl rfl rfl M.m_RuleError (fun a=>(aJ (aL (i:=1) jl.nd rfl (Or.inl rfl) (pv 3)))))
   (ao (fJ (Ir (IY (pv 1)))
   (aJ (bh (pv 2)))
   cC)
   (ao (fJ (PW.pt (pA (gU (aN (HW K) rfl B.b_isinstance boot_isinstance (aX (pv 1) (Uj (jO (aX (m7 rfl M.m_NoBy) (aX (m7 rfl M.m_NoName) (aX (m7 rfl M.m_NoNumber) (aX (m7 rfl M.m_NoRow) (aX (m7 rfl M.m_NoText) (aX (m7 rfl M.m_TooBig) (aX (m7 rfl M.m_TooFar) ak)))))))) ak)))) (qO (ju (gU (aN (HW K) rfl B.b_isinstance boot_isinstance (aX (pv 1) (aX (m6 rfl B.b_ValueError nR) ak))))))))
   (aJ (bh uK))
   cC)
   (aJ (bh (bG (xix K) (gQ (fB uK (fB uK ak))) (bJ tH rfl B.b_int boot_int (aK (aN (HW K) rfl B.b_isinstance boot_isinstance (aX (pv 1) (aX (m7 rfl M.m_TooLong) ak))) ak)) (fun _ _=>rfl))))))))),?_⟩
  refine⟨rfl,h0 _ _ (fun hf v H2 g2 hv=>?_) fun hf H2 g2=>⟨_,rfl,M.s_TooLong_RuleError,fun a ha=>?_⟩⟩
  ·refine⟨_,rfl,_,rfl,?_⟩
   rw[decide_eq_true rfl]
   exact K7 ⟨_,rfl,q1 hf v H2 g2 hv⟩
  have g0:=g2.trans (Same.new ha (FT a au))
  have hA:(upd H2 a (FT a au)) a=some (FT a au):=aA
  generalize upd H2 a (FT a au)=H3 at g0 hA
  refine⟨_,rfl,_,rfl,_,rfl,?_⟩
  rw[decide_eq_false (by intro z;cases z)]
  refine qe ?_
  refine⟨_,rfl,(by show 7<=sizeLine;decide),fun p hp=>?_⟩
  have g1:=Same.new hp (.tup [.ref bF,.ref aP,.ref aG,.ref aY,.ref aO,.ref aR,.ref aQ])
  replace hA:=g1 _ _ hA
  refine⟨a,au,.ref p,false,rfl,hA,M.i_TooLong,.inr (.inr ⟨p,[bF,aP,aG,aY,aO,aR,aQ],rfl,aA,?_⟩),?_⟩
  ·simp only[List.map,PySem.W.kitAny,M.k_TooLong_NoBy,M.k_TooLong_NoName,M.k_TooLong_NoNumber,M.k_TooLong_NoRow,M.k_TooLong_NoText,M.k_TooLong_TooBig,M.k_TooLong_TooFar]
  ·generalize upd H3 p (.tup [.ref bF,.ref aP,.ref aG,.ref aY,.ref aO,.ref aR,.ref aQ])=H4 at g1 hA
   refine⟨_,rfl,qe ?_⟩
   refine⟨_,rfl,a,au,_,true,rfl,hA,M.i_TooLong,.inr (.inl ⟨_,rfl,M.k_TooLong_ValueError⟩),_,rfl,qe ?_⟩
   refine⟨(by show 2<=sizeLine;decide),fun ls hls=>?_⟩
   have g2':=Same.new hls (.lst [.str "other",.str "long"])
   refine⟨_,rfl,a,au,_,true,rfl,g2' _ _ hA,M.i_TooLong,.inl ⟨_,rfl,M.k_TooLong_TooLong⟩,.inr ⟨_,rfl,_,_,.inl (SqL.of aA),rfl,q2 hf _ (g0.trans (g1.trans g2'))⟩⟩
theorem pX(B:Bt mg)(F:Fn K mg "refuse_long" jc ["length"])(M:Ms K mg base bF aP aG aY aO aD aR aQ au):Cal P w K mg base "refuse_long" 1 ["length"] (FQ au):=by
 refine F.Vg pW (fun vs H Q E h=>?_) (fun f cdv A outer s H vs Q E hr h=>?_)
 ·obtain⟨n,rfl,_⟩:=h;rfl
 ·obtain⟨n,rfl,q1,q2⟩:=h
  refine⟨_,(aJ (fJ (bI rY (pv 0) (xP rfl B.g_LONGEST) (bQ _))
   (aJ (ED M.x_TooLong rfl (fB uK ak)))
   cC)),?_⟩
  refine⟨_,rfl,_,_,rfl,rfl,_,rfl,?_⟩
  exact j6 (fun c=>⟨(by show 1<=sizeLine;decide),q2 (dec_true c)⟩) (fun c=>q1 (by have:=dec_false c;omega))
theorem vg(B:Bt mg)(F:Fn K mg "told_row" lW ["by","rule","starts"])(M:Ms K mg base bF aP aG aY aO aD aR aQ au)(bV:Cal P w K mg base "taken" 1 ["by","number"] dG)(gb:Cal P w K mg base "shortest" 9 ["row"] wz):Cal P w K mg base "told_row" 10 ["by","rule","starts"] Fj:=by
 refine F.cal j8 (fun vs H Q E h=>?_) (fun f cdv A outer s H vs Q E hr h=>?_)
 ·obtain⟨b,a,c,ns,ms,ua,u,rfl,_⟩:=h;rfl
 ·obtain⟨b,a,c,ns,ms,ua,u,rfl,hA,hC,zn,zm,hM,hs,q⟩:=h
  refine⟨_,(ao (aL (i:=3) j8.nd rfl (Or.inl rfl) (bJ (gK K) rfl B.b_tuple boot_tuple (aK (dY (sc:=ux) (N:=["number","by"]) (ix:=[none,some 0]) (cY (by kernel_rfl) (by kernel_rfl) (by kernel_rfl) (by kernel_rfl) (by kernel_rfl) (by kernel_rfl) (by kernel_rfl) (by kernel_rfl)) rfl (Fw K (pv 1)) (fun cl C s₀ H₀ ex=>⟨(bK (i:=0) (show(["number","by"]:List Str).Nodup by decide +kernel) rfl (Or.inl rfl)),dg,(aB bV hr rfl (aX (pv 1) (aX (pv 0) ak)))⟩)) ak)))
   (ao (aL (i:=4) j8.nd rfl (Or.inl rfl) (bJ (gK K) rfl B.b_tuple boot_tuple (aK (dY (sc:=uJ) (N:=["number","by"]) (ix:=[none,some 0]) (cY (by kernel_rfl) (by kernel_rfl) (by kernel_rfl) (by kernel_rfl) (by kernel_rfl) (by kernel_rfl) (by kernel_rfl) (by kernel_rfl)) rfl (Fw K (pv 2)) (fun cl C s₀ H₀ ex=>⟨(bK (i:=0) (show(["number","by"]:List Str).Nodup by decide +kernel) rfl (Or.inl rfl)),dg,(aB bV hr rfl (aX (pv 1) (aX (pv 0) ak)))⟩)) ak)))
   (aJ (bh (aB gb hr rfl (Uj (jO (aX (pv 0) (aX (pv 3) (aX (pv 4) ak)))) ak)))))),?_⟩
  have hb0:=hM.hB.lo
  refine⟨_,rfl,sZ hA zn rfl (Rm.tk b) ?_ ?_⟩
  ·intro H2 x g2 hx kk hkk
   exact⟨_,rfl,_,rfl,b,x,rfl,hb0,hkk⟩
  intro D hD
  have gD:=Same.new hD (.lst ((ns.map (Rm.tk b)).map V.int))
  refine⟨D,_,rfl,.inl ⟨SqL.of aA,fun t1 ht1=>?_⟩⟩
  have g1:=Same.new ht1 (.tup ((ns.map (Rm.tk b)).map V.int))
  have h1:(upd (upd H D (.lst ((ns.map (Rm.tk b)).map V.int))) t1 (.tup ((ns.map (Rm.tk b)).map V.int))) t1=some (.tup ((ns.map (Rm.tk b)).map V.int)):=aA
  have gD1:=gD.trans g1
  generalize upd (upd H D (.lst ((ns.map (Rm.tk b)).map V.int))) t1 (.tup ((ns.map (Rm.tk b)).map V.int))=H1 at gD1 h1
  refine⟨_,rfl,sZ (hC.same gD1) zm rfl (Rm.tk b) ?_ ?_⟩
  ·intro H2 x g2 hx kk hkk
   exact⟨_,rfl,_,rfl,b,x,rfl,hb0,hkk⟩
  intro D2 hD2
  have gD2:=Same.new hD2 (.lst ((ms.map (Rm.tk b)).map V.int))
  refine⟨D2,_,rfl,.inl ⟨SqL.of aA,fun t2 ht2=>?_⟩⟩
  have g2:=Same.new ht2 (.tup ((ms.map (Rm.tk b)).map V.int))
  have h2:(upd (upd H1 D2 (.lst ((ms.map (Rm.tk b)).map V.int))) t2 (.tup ((ms.map (Rm.tk b)).map V.int))) t2=some (.tup ((ms.map (Rm.tk b)).map V.int)):=aA
  have gD12:=gD2.trans g2
  have h12:=gD12 _ _ h1
  generalize upd (upd H1 D2 (.lst ((ms.map (Rm.tk b)).map V.int))) t2 (.tup ((ms.map (Rm.tk b)).map V.int))=H2 at gD12 h2 h12
  refine⟨_,rfl,_,rfl,_,rfl,(by show 3<=sizeLine;decide),fun t3 ht3=>?_⟩
  have g3:=Same.new ht3 (.tup [.int b,.ref t1,.ref t2])
  refine⟨.ref t3,⟨b,ns.map (Rm.tk b),ms.map (Rm.tk b)⟩,rfl,⟨t3,t1,t2,rfl,aA,g3 _ _ h12,g3 _ _ h2⟩,hM.ok,hM.byp,hM.tame,fun v' L H4 g4 hR lst ll=>?_⟩
  exact q v' _ L H4 (gD1.trans (gD12.trans (g3.trans g4))) hR (hM.told lst ll hs) (by have:(ns.map (Rm.tk b)).length=ns.length:=List.length_map _;rw[<-this];exact ll)
theorem tE(B:Bt mg)(F:Fn K mg "put_ahead" j9 ["row","numbers"])(M:Ms K mg base bF aP aG aY aO aD aR aQ au)(gb:Cal P w K mg base "shortest" 9 ["row"] wz)(je:Cal P w K mg base "refuse_long" 1 ["length"] (FQ au))(mO:Cal P w K mg base "told_row" 10 ["by","rule","starts"] Fj):Cal P w K mg base "put_ahead" 11 ["row","numbers"] (AH au):=by
 refine F.Vg jk (fun vs H Q E h=>?_) (fun f cdv A outer s H vs Q E hr h=>?_)
 ·obtain⟨v,b,r,ua,u,L,ln,ns,rfl,_⟩:=h;rfl
 ·obtain⟨v,b,r,ua,u,L,ln,ns,rfl,hR,hM,hua,lst,ll,hN,n12,hn,hnb,q1,q2⟩:=h
  refine⟨_,(ao (aL (i:=2) jk.nd rfl (Or.inl rfl) (aB gb hr rfl (aX (pv 0) ak)))
   (ao (uU (zU je hr rfl (kI (aM (gO K) (aN (jj K) rfl B.b_len boot_len (aK (bG (xix K) (pv 2) aq (fun _ _=>rfl)) ak)) (aN (jj K) rfl B.b_len boot_len (aX (pv 1) ak))) ak)))
   (ao (aL (i:=3) jk.nd rfl (Or.inl rfl) (aM (gO K) (bJ (xlist K) rfl B.b_list boot_list (aK (bG (xix K) (pv 2) aq (fun _ _=>rfl)) ak)) (aM v_mul (gQ (fB aq ak)) (aN (jj K) rfl B.b_len boot_len (aX (pv 1) ak)))))
   (aJ (bh (aB mO hr rfl (aK (bG (xix K) (pv 0) aq (fun _ _=>rfl)) (aX (pv 3) (kI (aM (gO K) (bJ (xlist K) rfl B.b_list boot_list (aX (pv 1) ak)) (bJ (xlist K) rfl B.b_list boot_list (aK (bG (xix K) (pv 2) aq (fun _ _=>rfl)) ak))) ak))))))))),?_⟩
  obtain⟨a,p,p2,rfl,hA,hP,hS⟩:=id hR
  have eb:=hM.by_
  have h12:=hM.len12
  have hlp:=lst.mon.pos
  have hb0:=hM.hB.lo
  have lN:(ns.map V.int).length=ns.length:=List.length_map _
  refine⟨_,rfl,.ref a,r,rfl,hR,hM.ok,hM.byp,hM.tame,fun v2 L2 H2 g2 hR2 lst2 ll2=>?_⟩
  have eL:L2=L:=by
   rw[eb]at lst2
   exact lst2.uniq hM.hB.one lst
  subst eL
  obtain⟨l1,l2⟩:=jJ ll hM.ok
  obtain⟨a2,s1,s2,rfl,hA2,hP2,hS2⟩:=id hR2
  have lS:((cu r L2).rule.map V.int).length=L2.length-1:=by rw[List.length_map,l1]
  have hN2:=g2 _ _ hN
  refine⟨_,rfl,_,_,.inr (SqT.of hA2),rfl,.ref s1,L2.length-1,rfl,.inr ⟨_,SqT.of hP2,lS.symm⟩,_,rfl,.ref ln,ns.length,rfl,.inl ⟨_,SqL.of hN2,lN.symm⟩,?_⟩
  refine⟨((L2.length-1:Nat):Int)+(ns.length:Int),rfl,fun hle=>?_,fun hlt=>q2 (by omega) _ g2⟩
  have hle':L2.length-1+ns.length<=12:=by omega
  obtain⟨M2,ea⟩:=hM.Jw hua lst ll hn hnb hle'
  refine⟨_,rfl,_,_,.inr (SqT.of hA2),rfl,s1,_,rfl,.inr (SqT.of hP2),fun l3 hl3=>?_⟩
  have g3:=Same.new hl3 (.lst ((cu r L2).rule.map V.int))
  refine⟨(by show 1<=sizeLine;decide),fun l4 hl4=>?_⟩
  have g4:=Same.new hl4 (.lst [.int 0])
  have h4:(upd (upd H2 l3 (.lst ((cu r L2).rule.map V.int))) l4 (.lst [.int 0])) l4=some (.lst [.int 0]):=aA
  have h3:(upd (upd H2 l3 (.lst ((cu r L2).rule.map V.int))) l4 (.lst [.int 0])) l3=some (.lst ((cu r L2).rule.map V.int)):=g4 _ _ aA
  have g34:=g3.trans g4
  generalize upd (upd H2 l3 (.lst ((cu r L2).rule.map V.int))) l4 (.lst [.int 0])=H4 at g34 h3 h4
  refine⟨_,rfl,.ref ln,ns.length,rfl,.inl ⟨_,SqL.of (g34 _ _ hN2),lN.symm⟩,?_⟩
  refine⟨_,h4,by omega,by omega,?_,fun l5 hl5=>?_⟩
  ·show 1*(ns.length:Int).toNat<=sizeLine
   rw[Nat.one_mul];exact Nat.le_of_lt (bW (by omega))
  rw[show(ns.length:Int).toNat=ns.length from Int.toNat_natCast _,fY]
  have g5:=Same.new hl5 (.lst ((zer ns.length).map V.int))
  have h5:(upd H4 l5 (.lst ((zer ns.length).map V.int))) l5=some (.lst ((zer ns.length).map V.int)):=aA
  have h35:=g5 _ _ h3
  have g35:=g34.trans g5
  generalize upd H4 l5 (.lst ((zer ns.length).map V.int))=H5 at g35 h5 h35
  refine .inl ⟨_,_,h35,h5,?_,fun l6 hl6=>?_⟩
  ·rw[List.length_map,List.length_map,Pm.aU];exact Nat.le_of_lt (bW (by omega))
  rw[<-List.map_append]
  have g6:=Same.new hl6 (.lst (((cu r L2).rule++zer ns.length).map V.int))
  have h6:(upd H5 l6 (.lst (((cu r L2).rule++zer ns.length).map V.int))) l6=some (.lst (((cu r L2).rule++zer ns.length).map V.int)):=aA
  have g36:=g35.trans g6
  generalize upd H5 l6 (.lst (((cu r L2).rule++zer ns.length).map V.int))=H6 at g36 h6
  refine⟨_,rfl,_,_,.inr (SqT.of ((g2.trans g36) _ _ hA)),rfl,_,rfl,?_⟩
  refine⟨_,rfl,ln,_,rfl,.inl (SqL.of (g36 _ _ hN2)),fun l7 hl7=>?_⟩
  have g7:=Same.new hl7 (.lst (ns.map V.int))
  refine⟨_,rfl,_,_,.inr (SqT.of (g7 _ _ (g36 _ _ hA2))),rfl,s2,_,rfl,.inr (SqT.of (g7 _ _ (g36 _ _ hS2))),fun l8 hl8=>?_⟩
  have g8:=Same.new hl8 (.lst ((cu r L2).starts.map V.int))
  refine .inl ⟨_,_,g8 _ _ aA,aA,?_,fun l9 hl9=>?_⟩
  ·rw[List.length_map,List.length_map,l2];exact Nat.le_of_lt (bW (by omega))
  rw[<-List.map_append]
  have g9:=Same.new hl9 (.lst ((ns++(cu r L2).starts).map V.int))
  have g79:=g7.trans (g8.trans g9)
  rw[eb]
  have e1:((cu r L2).rule++zer ns.length).map (Rm.tk b)=(cu r L2).rule++zer ns.length:=uH fun y hy=>M2.ok.ruleNum y hy
  have e2:(ns++(cu r L2).starts).map (Rm.tk b)=ns++(cu r L2).starts:=uH fun y hy=>M2.ok.startsNum y hy
  refine⟨b,l6,l9,(cu r L2).rule++zer ns.length,ns++(cu r L2).starts,ua,12*(ua+12)+11,rfl,.inl (g79 _ _ h6),.inl aA,by rw[List.length_append,Pm.aU];omega,by rw[List.length_append];omega,by rw[e1,e2];exact M2,by omega,fun v' r' L' H' g' hR' hT' hl'=>?_⟩
  rw[e1,e2]at hT'
  rw[List.length_append,Pm.aU]at hl'
  have hlen:=hT'.len
  exact q1 hle' v' r' L' H' (g2.trans (g36.trans (g79.trans g'))) hR' (hT'.congr ea) (by omega)
theorem Jp{T:Addr}(MK:MkD mg base "law" T)(KB:K.In base)(B:Bt mg){f:Addr}{fd:FuncData}(F:Fun K "law" "law" uW f fd)(hf:mg "law" = some (.ref f))(M:Ms K mg base bF aP aG aY aO aD aR aQ au)(jV:Cal P w K mg base "_law_drawn_by" 2 ["_law_cell"] Kh)(dW:Cal P w K mg base "_law_cell_at" 1 ["_law_script","_law_k"] (v5 K))(jq:Cal P w K mg base "_law_drawn_row" 4 ["_law_script","_law_start","_law_by","_law_most"] (BJ K))(dZ:Cal P w K mg base "_law_mix" 1 ["_law_cell","_law_k"] uF)(cR:Cal P w K mg base "_law_one_number" 2 ["_law_by","_law_cell","_law_k"] Bl)(cO:Cal P w K mg base "_law_places" 2 ["_law_row","_law_count"] jy)(oZ:Cal P w K mg base "_law_length" 3 ["_law_row"] KQ)(sJ:KZ P w K mg base "_law_heard" 13 ["_law_told"] (xQ P w K mg base 12 (wV au)))(jZ:Cal P w K mg base "put_ahead" 11 ["row","numbers"] (AH au))(rG:Cal P w K mg base "_law_right" 3 ["_law_found","_law_by","_law_most","_law_some"] Ci):zY P w K mg base (jf P w) Tz f fd ["_law_script"] (Cj K T):=by
 refine F.okM (k:=15) hf MK KB iC (fun vs H Q E h=>?_) (fun cdv A outer s H vs Q E hM hr h=>?_)
 ·obtain⟨a,ns,rfl,_⟩:=h;rfl
 ·obtain⟨a,ss,rfl,hS,hlen,hBt,hT,q⟩:=h
  refine⟨_,(ao (aL (i:=1) iC.nd rfl (Or.inr rfl) (aB jV hr rfl (aK (aB dW hr rfl (aX (pv 0) (fB aq ak))) ak)))
   (ao (aL (i:=2) iC.nd rfl (Or.inr rfl) (aB jq hr rfl (aX (pv 0) (fB aq (aX (pv 1) (fB aq ak))))))
   (ao (aL (i:=3) iC.nd rfl (Or.inr rfl) (aB dW hr rfl (aX (pv 0) (fB aq ak))))
   (ao (aL (i:=4) iC.nd rfl (Or.inl rfl) (bG (xix K) (gQ (fB aq (fB aq (fB aq (fB aq (fB aq (fB aq (fB aq (fB aq ak))))))))) (aM dD (aB dZ hr rfl (aX (pv 3) (fB aq ak))) aq) (fun _ _=>rfl)))
   (ao (rN (i:=5) (hN:=iC.nd) (hi':=rfl) (hx:=(Or.inl rfl)) (sc:=HZ) (N:=["_law_k","_law_by","_law_cell"]) (ix:=[none,some 1,some 3]) (cY (by kernel_rfl) (by kernel_rfl) (by kernel_rfl) (by kernel_rfl) (by kernel_rfl) (by kernel_rfl) (by kernel_rfl) (by kernel_rfl)) rfl (cH rfl B.b_range (aX (pv 4) ak)) (fun cl C s₀ H₀ ex=>⟨(bK (i:=0) (show(["_law_k","_law_by","_law_cell"]:List Str).Nodup by decide +kernel) rfl (Or.inl rfl)),dg,(aB cR hr rfl (aX (pv 1) (aX (pv 2) (aX (pv 0) ak))))⟩))
   (ao (qP (fJ (bI (xeq K hr) (aM dD (aB dZ hr rfl (aX (pv 3) (fB aq ak))) aq) aq (bQ _))
   (aJ (aL (i:=5) iC.nd rfl (Or.inl rfl) (aM v_mul (gQ (fB aq ak)) (pv 4))))
   cC))
   (ao (qP (fJ (bI (xeq K hr) (aM dD (aB dZ hr rfl (aX (pv 3) (fB aq ak))) aq) aq (bQ _))
   (ao (aL (i:=6) iC.nd rfl (Or.inl rfl) (aB cO hr rfl (aX (pv 2) (kI (aM (gO K) (pv 4) aq) ak))))
   (ao (aL (i:=5) iC.nd rfl (Or.inl rfl) (jH (xsl K) (pv 6) pG (jR (pv 4))))
   (aJ (aL (i:=2) iC.nd rfl (Or.inr rfl) (jO (aX (pv 1) (aK (bG (xix K) (pv 2) aq (fun _ _=>rfl)) (aK (bJ (gK K) rfl B.b_tuple boot_tuple (aK (jH (xsl K) (pv 6) (jR (pv 4)) (jR (aM (gO K) (pv 4) (aN (jj K) rfl B.b_len boot_len (aK (bG (xix K) (pv 2) aq (fun _ _=>rfl)) ak))))) ak)) ak))))))))
   cC))
   (ao (aL (i:=7) iC.nd rfl (Or.inl rfl) (aM (gO K) (aB oZ hr rfl (aX (pv 2) ak)) (pv 4)))
   (ao (aL (i:=8) iC.nd rfl (Or.inr rfl) (bJ (xlist K) rfl B.b_list boot_list (aX (pv 5) ak)))
   (ao (aL (i:=9) iC.nd rfl (Or.inl rfl) (Gk (N:=["_law_row","_law_handed"]) (ix:=[some 2,some 8]) sJ hr rfl hM (J6 (by kernel_rfl) (by kernel_rfl) (by kernel_rfl) (by kernel_rfl) (by kernel_rfl) (by kernel_rfl) (by kernel_rfl) (by kernel_rfl)) (fun f cd cl A outer s₀ H₀ E hr=>(Bu jZ hr rfl (aX (pv 0) (aX (pv 1) ak)))) rfl))
   (ao (fJ (bI (xne K hr) (pv 8) (pv 5) (bQ _))
   (aJ (bh pY))
   cC)
   (ao (fJ (bI rY (pv 7) aq (bQ _))
   (aJ (bh (iQ (xeq K hr) (pv 9) uK (bQ _))))
   cC)
   (aJ (bh (aB rG hr rfl (aX (pv 9) (aX (pv 1) (aX (pv 7) (kI (aM (gO K) (pv 5) (aB cO hr rfl (aX (pv 2) (kI (aM cP aq (pv 4)) ak)))) ak))))))))))))))))))),?_⟩
  refine⟨_,rfl,a,ss,0,rfl,hS,by decide,by decide,hBt,fun c hc=>?_⟩
  refine⟨c,rfl,fun b H1 g1 hb=>?_⟩
  refine⟨_,rfl,_,rfl,a,ss,1,b,6,rfl,g1.seq hS,by decide,by decide,hBt,hb,by decide,by decide,fun v r0 s r H2 g2 hR h0 hRs hs3 hm=>?_⟩
  refine⟨_,rfl,a,ss,3,rfl,g2.seq (g1.seq hS),by decide,by decide,hBt,fun c3 hc3=>?_⟩
  have hb0:=hb.lo
  refine⟨(by show 8<=sizeLine;decide),fun l3 hl3=>?_⟩
  have g3:=Same.new hl3 (.lst (vU.map V.int))
  refine⟨_,rfl,c3,1,rfl,by decide,by decide,fun x1 _ _=>?_⟩
  have e0:=dN x1 (show(0:Int)<8 by decide)
  have e1:=dO x1 (show(0:Int)<8 by decide)
  refine⟨_,_,rfl,rfl,(by decide:(0:Int)<8),_,_,.inl (SqL.of aA),bB (ns:=vU) e0 e1,?_⟩
  have bn:=Et (x1%8).toNat (by omega)
  generalize vU.getD (x1%8).toNat 0=km at bn
  obtain⟨m,rfl⟩:∃m:Nat,km=(m:Int):=⟨km.toNat,by omega⟩
  have m12:m<=12:=by omega
  have eH:(upd H2 l3 (.lst [.int 0,.int 1,.int 2,.int 3,.int 4,.int 6,.int 9,.int 12]))=upd H2 l3 (.lst (vU.map V.int)):=rfl
  rw[eH]
  have hR3:=hR.same g3
  have hT3:=(hT (V8 "law")).same (g1.trans (g2.trans g3))
  generalize upd H2 l3 (.lst (vU.map V.int))=H3 at g3 hR3 hT3
  clear hT hR
  refine⟨_,rfl,(m:Int),rfl,(by omega:-(2^62)<=(m:Int)),(by omega:(m:Int)<2^62),?_⟩
  rw[Int.toNat_natCast]
  refine nF (n:=m) (by omega) rfl (fun x=>gJ b x/\Rm.Bd 643 x) ?_ ?_
  ·intro H4 k g4 hk kk hkk
   exact⟨_,rfl,_,rfl,_,rfl,b,c3,0+(k:Int),rfl,hb,hc3,by omega,by omega,fun x H5 g5 h1 h2 _=>hkk x H5 g5 ⟨h1,h2.mono (by decide)⟩⟩
  intro D H4 ns hD g4 hD4 lns hns
  have hR4:=hR3.same g4
  have hT4:=hT3.same g4
  refine EW.by (fun σ' H'=>∃(D':Addr) (ns':List Int),σ'=[some (.ref a),some (.int b),some v,some (.int c3),some (.int (m:Int)),some (.ref D'),none,none,none,none]/\Same H4 H'/\H' D'=some (.lst (ns'.map V.int))/\ns'.length=m/\∀x∈ns',gJ b x/\Rm.Bd 643 x) (fun NN hNN=>?_) ?_
  ·refine⟨_,rfl,c3,2,rfl,by decide,by decide,fun x2 _ _=>?_⟩
   refine⟨_,_,rfl,rfl,(by decide:(0:Int)<3),_,rfl,?_⟩
   refine j6 (fun _=>?_) (fun _=>hNN _ _ ⟨D,ns,rfl,Same.refl _,hD4,lns,hns⟩)
   refine⟨(by show 1<=sizeLine;decide),fun l5 hl5=>?_⟩
   have g5:=Same.new hl5 (.lst [.int 0])
   refine⟨_,rfl,_,aA,by omega,by omega,?_,fun l6 hl6=>?_⟩
   ·show 1*(m:Int).toNat<=sizeLine
    rw[Nat.one_mul];exact Nat.le_of_lt (bW (by omega))
   rw[show(m:Int).toNat=m from Int.toNat_natCast _,fY]
   have g6:=Same.new hl6 (.lst ((zer m).map V.int))
   refine hNN _ _ ⟨l6,zer m,rfl,g5.trans g6,aA,Pm.aU ..,fun x hx=>?_⟩
   obtain⟨k,_,rfl⟩:=Pm.fR hx
   refine⟨?_,Rm.Bd.zero _⟩
   by_cases z:b=0
   ·exact .inl z
   ·exact .inr ⟨Int.le_refl _,by omega⟩
  rintro _ H5 ⟨D5,ns5,rfl,g5,hD5,lns5,hns5⟩
  have hR5:=hR4.same g5
  have hT5:=hT4.same g5
  clear hD4 lns hns hR4 hT4 hR3 hT3
  have M0:=(hRs.mr hb h0 hs3).mono (ua':=643) (u':=49) (by decide) (by decide) (by decide)
  have ok:=M0.ok
  refine EW.by (fun σ' H'=>∃(D':Addr) (ns':List Int) (v':V) (r':Rw) (o6:Option V),σ'=[some (.ref a),some (.int b),some v',some (.int c3),some (.int (m:Int)),some (.ref D'),o6,none,none,none]/\Same H5 H'/\H' D'=some (.lst (ns'.map V.int))/\ns'.length=m/\(∀x∈ns',gJ b x/\Rm.Bd 643 x)/\fQ H' v' r'/\Mr b r' 643 49) (fun NN hNN=>?_) ?_
  ·refine⟨_,rfl,c3,2,rfl,by decide,by decide,fun x2 _ _=>?_⟩
   refine⟨_,_,rfl,rfl,(by decide:(0:Int)<3),_,rfl,?_⟩
   refine j6 (fun _=>?_) (fun _=>hNN _ _ ⟨D5,ns5,v,r,_,rfl,Same.refl _,hD5,lns5,hns5,hR5,M0⟩)
   refine⟨_,rfl,_,rfl,v,r,(m:Int)+24,rfl,hR5,ok.w (by omega),by omega,by omega,fun lw H6 g6 f6 hw=>?_⟩
   have eW:r.row ((m:Int)+24).toNat=Pm.ofF (m+24) r.at:=by rw[show((m:Int)+24).toNat=m+24 by omega];exact vV r _
   rw[eW]at hw
   refine⟨_,rfl,_,rfl,_,rfl,.inl ⟨_,SqL.of hw,fun l7 hl7=>?_⟩⟩
   rw[tV,<-List.map_take,Ea _ (by omega)]
   have g7:=Same.new hl7 (.lst ((Pm.ofF m r.at).map V.int))
   have h7:(upd H6 l7 (.lst ((Pm.ofF m r.at).map V.int))) l7=some (.lst ((Pm.ofF m r.at).map V.int)):=aA
   have hw7:=g7 _ _ hw
   have hR7:=(hR5.same g6).same g7
   have g67:=g6.trans g7
   generalize upd H6 l7 (.lst ((Pm.ofF m r.at).map V.int))=H7 at g67 h7 hw7 hR7
   obtain⟨ar,p,p2,rfl,hA,hP,hSt⟩:=id hR7
   have lP:(r.rule.map V.int).length=r.rule.length:=List.length_map _
   refine⟨_,rfl,_,rfl,_,_,.inr (SqT.of hA),rfl,?_⟩
   refine⟨_,rfl,_,rfl,_,rfl,_,rfl,_,rfl,_,_,.inr (SqT.of hA),rfl,.ref p,r.rule.length,rfl,.inr ⟨_,SqT.of hP,lP.symm⟩,_,rfl,.inl ⟨_,SqL.of hw7,fun l8 hl8=>?_⟩⟩
   have h12:=M0.len12
   rw[GC r (show m+r.rule.length<=m+24 by omega)]
   have g8:=Same.new hl8 (.lst ((Pm.ofF r.rule.length fun j=>r.at (m+j)).map V.int))
   refine⟨l8,_,rfl,.inl ⟨SqL.of aA,fun t9 ht9=>⟨(by show 3<=sizeLine;decide),fun t10 ht10=>?_⟩⟩⟩
   have g9:=Same.new ht9 (.tup ((Pm.ofF r.rule.length fun j=>r.at (m+j)).map V.int))
   have g10:=Same.new ht10 (.tup [.int b,.ref p,.ref t9])
   have g810:=g8.trans (g9.trans g10)
   have eb:=M0.by_
   refine hNN _ _ ⟨l7,Pm.ofF m r.at,.ref t10,r.on m,_,rfl,g67.trans g810,g810 _ _ h7,Pm.aU ..,fun x hx=>?_,⟨t10,p,t9,rfl,?_,g810 _ _ hP,g10 _ _ aA⟩,hRs.onM hb h0 hs3 m12⟩
   ·obtain⟨k,hk,rfl⟩:=Pm.fR hx
    have:=ok.uE k
    rw[eb]at this
    exact⟨this,M0.at_ k (by omega)⟩
   ·rw[aA]
    show _=some (HO.tup [.int r.b,.ref p,.ref t9])
    rw[eb]
  rintro _ H6 ⟨D6,ns6,v6,r6,o6,rfl,g6,hD6,lns6,hns6,hR6,M6⟩
  have hT6:=hT5.same g6
  clear hT5 hR5 hD5 hns5 lns5 M0 ok
  obtain⟨L,lst,ll⟩:=M6.ex
  have hlp:=lst.mon.pos
  refine⟨_,rfl,v6,b,r6,643,49,L,rfl,hR6,M6,by decide,lst,ll,fun H7 g7=>?_⟩
  have hD7:=g7 _ _ hD6
  refine⟨_,rfl,_,rfl,D6,_,rfl,.inl (SqL.of hD7),fun lh hlh=>?_⟩
  have g8:=Same.new hlh (.lst (ns6.map V.int))
  have h8:(upd H7 lh (.lst (ns6.map V.int))) lh=some (.lst (ns6.map V.int)):=aA
  have g78:=g7.trans g8
  have hD8:=g78 _ _ hD6
  have hR8:=hR6.same g78
  have hT8:=hT6.same g78
  generalize upd H7 lh (.lst (ns6.map V.int))=H8 at g78 h8 hD8 hR8 hT8
  refine⟨hT8,fun H9 g9 hT9=>?_⟩
  have hR9:=hR8.MN g9
  have h9:=g9.lst h8
  have hD9:=g9.lst hD8
  have hlen9:L.length-1+ns6.length=L.length-1+m:=by omega
  by_cases hL:L.length-1+ns6.length<=12
  ·refine⟨fun v2 H2=>∃r2 L2,fQ H2 v2 r2/\TR b r2 (ahd ns6 r6.at) L2/\r2.rule.length<=L.length-1+ns6.length,false,fun Q' E' h1 _=>⟨_,rfl,_,rfl,v6,b,r6,643,49,L,lh,ns6,rfl,hR9,M6,by decide,lst,ll,h9,by omega,fun x hx=>(hns6 x hx).1,fun x hx=>(hns6 x hx).2,fun _ v2 r2 L2 H' g' hR' hT' hl'=>h1 rfl v2 H' g' ⟨r2,L2,hR',hT',hl'⟩,fun z=>absurd hL (by omega)⟩,fun _ v2 H10 g10 ⟨r2,L2,hR2,hT2,hl2⟩=>?_,fun z=>nomatch z⟩
   refine⟨_,rfl,_,rfl,JQ (SqL.of (g10 _ _ h9)) (SqL.of (g10 _ _ hD9)) ⟨_,rfl,?_⟩⟩
   rw[decide_eq_true rfl]
   refine qe ?_
   refine⟨_,rfl,_,_,rfl,rfl,_,rfl,?_⟩
   rw[decide_eq_false (by omega:¬(12:Int)<((L.length-1:Nat):Int)+(m:Int))]
   refine qe ?_
   refine⟨_,rfl,_,rfl,_,rfl,_,rfl,_,rfl,_,rfl,_,_,rfl,rfl,v6,r6,48-(m:Int),rfl,hR9.same g10,M6.ok.w (by omega),by omega,by omega,fun l11 H11 g11 f11 h11=>?_⟩
   have e11:r6.row (48-(m:Int)).toNat=Pm.ofF (48-m) r6.at:=by rw[show(48-(m:Int)).toNat=48-m by omega];exact vV r6 _
   rw[e11]at h11
   have hD11:=g11 _ _ (g10 _ _ hD9)
   refine .inl ⟨_,_,hD11,h11,?_,fun l12 hl12=>?_⟩
   ·rw[List.length_map,List.length_map,Pm.aU];exact Nat.le_of_lt (bW (by omega))
   rw[<-List.map_append,Ht,show ns6.length+(48-m)=48 by omega]
   have g12:=Same.new hl12 (.lst ((Pm.ofF 48 (ahd ns6 r6.at)).map V.int))
   have bd12:∀i,i<=22->Rm.Bd 643 (ahd ns6 r6.at i):=fun i hi=>by
    unfold ahd
    split
    ·exact Pm.rA (fun x hx=>(hns6 x hx).2) _
    ·exact M6.at_ _ (by omega)
   exact⟨v2,b,r2,_,l12,_,L2,643,rfl,(hR2.same g11).same g12,hT2.rt hb (by decide) (by decide) bd12,by omega,aA,fun H13 g13=>q _⟩
  ·refine⟨fun _ _=>False,true,fun Q' E' _ h2=>⟨_,rfl,_,rfl,v6,b,r6,643,49,L,lh,ns6,rfl,hR9,M6,by decide,lst,ll,h9,by omega,fun x hx=>(hns6 x hx).1,fun x hx=>(hns6 x hx).2,fun z=>absurd z hL,fun _ H' g'=>h2 rfl H' g'⟩,(fun z=>nomatch z),fun _ H10 g10=>?_⟩
   refine⟨_,rfl,_,rfl,JQ (SqL.of (g10 _ _ h9)) (SqL.of (g10 _ _ hD9)) ⟨_,rfl,?_⟩⟩
   rw[decide_eq_true rfl]
   refine qe ?_
   refine⟨_,rfl,_,_,rfl,rfl,_,rfl,?_⟩
   rw[decide_eq_true (by omega:(12:Int)<((L.length-1:Nat):Int)+(m:Int))]
   refine K7 ⟨_,rfl,?_⟩
   dsimp only[tC,zx,id]
   rw[decide_eq_true rfl]
   exact q _
end
theorem all_mk{l:PySem.W.OpenLaw}{w:World}{K:PySem.W.Frag}{h:Heap}{mg:Str->Option Value}{fa:Addr}(X:K.In h)(G:h.Ns mainGlobals mg)(hfa:mg "law" = some (.ref fa))
  (F0:iG K "is_prime" mU) (F1:iG K "taken" uV) (F2:iG K "inverse" oM) (F3:iG K "over" Cu) (F4:iG K "trimmed" nZ) (F5:iG K "divided" pH) (F6:iG K "monic" vB) (F7:iG K "greatest" lU) (F8:iG K "of_rule" nK) (F9:iG K "rule_of" oJ) (F10:iG K "prime_above" iT) (F11:iG K "divides" oX) (F12:iG K "taken_poly" jA) (F13:iG K "nearest" pL) (F14:iG K "joined" qZ) (F15:iG K "whole_greatest" fU) (F16:iG K "shared_divisor" fL) (F17:iG K "top_of" rz) (F18:iG K "least_of" lX) (F19:iG K "shortest" lQ) (F20:iG K "refuse_long" jc) (F21:iG K "told_row" lW) (F22:iG K "put_ahead" j9) (F23:iG K "_law_cell_at" lJ) (F24:iG K "_law_mix" Ce) (F25:iG K "_law_drawn_by" jP) (F26:iG K "_law_taken" rO) (F27:iG K "_law_one_number" jg) (F28:iG K "_law_places" pI) (F29:iG K "_law_made_longer" iu) (F30:iG K "_law_drawn_row" jr) (F31:iG K "_law_shorter" mz) (F32:iG K "_law_rank" vD) (F33:iG K "_law_length" n8) (F34:iG K "_law_is_row" oE) (F35:iG K "_law_right" qW) (F36:iG K "_law_heard" sE) (FL:iG K "law" uW) (z_ValueError:PySem.W.nsIn K mainGlobals "ValueError" = some none) (z_bool:PySem.W.nsIn K mainGlobals "bool" = some none) (z_int:PySem.W.nsIn K mainGlobals "int" = some none) (z_isinstance:PySem.W.nsIn K mainGlobals "isinstance" = some none) (z_len:PySem.W.nsIn K mainGlobals "len" = some none) (z_list:PySem.W.nsIn K mainGlobals "list" = some none) (z_max:PySem.W.nsIn K mainGlobals "max" = some none) (z_range:PySem.W.nsIn K mainGlobals "range" = some none) (z_sum:PySem.W.nsIn K mainGlobals "sum" = some none) (z_tuple:PySem.W.nsIn K mainGlobals "tuple" = some none) (g_BELOW_THE_PRIMES:∃t,PySem.W.nsIn K mainGlobals "BELOW_THE_PRIMES" = some (some (.int 1000000 t))) (g_LONGEST:∃t,PySem.W.nsIn K mainGlobals "LONGEST" = some (some (.int 12 t))) {bF:Addr} (n_NoBy:PySem.W.nsIn K mainGlobals "NoBy" = some (some (.ref bF))) {aP:Addr} (n_NoName:PySem.W.nsIn K mainGlobals "NoName" = some (some (.ref aP))) {aG:Addr} (n_NoNumber:PySem.W.nsIn K mainGlobals "NoNumber" = some (some (.ref aG))) {aY:Addr} (n_NoRow:PySem.W.nsIn K mainGlobals "NoRow" = some (some (.ref aY))) {aO:Addr} (n_NoText:PySem.W.nsIn K mainGlobals "NoText" = some (some (.ref aO))) {aD:Addr} (n_RuleError:PySem.W.nsIn K mainGlobals "RuleError" = some (some (.ref aD))) {aR:Addr} (n_TooBig:PySem.W.nsIn K mainGlobals "TooBig" = some (some (.ref aR))) {aQ:Addr} (n_TooFar:PySem.W.nsIn K mainGlobals "TooFar" = some (some (.ref aQ))) {au:Addr} (n_TooLong:PySem.W.nsIn K mainGlobals "TooLong" = some (some (.ref au))) (q_TooLong:PySem.W.excIn K au [.type "ValueError",.type "Exception",.type "BaseException",.type "object"] "ValueError.__new__" = true) (u_TooLong_RuleError:Ab K au aD=true) (v_TooLong_RuleError:PySem.W.ktsIn K aD "BaseException" = true) (w1_TooLong:PySem.W.findIn K (.ref au) "__getattribute__" = some (some (.builtin "BaseException.__getattribute__"))) (w2_TooLong:PySem.W.findIn K (.ref au) "__getattr__" = some none) (w3_TooLong:PySem.W.findIn K (.ref au) "__class__" = some (some (.builtin "object.__class__"))) (w4_TooLong:PySem.W.mroIn K au (.type "BaseException")=some true) (w5_TooLong:PySem.W.mroIn K au (.type "object")=some true) (w6_TooLong:(PySem.W.clsIn K au).isSome=true) (k_TooLong_NoBy:PySem.W.kitOne K (.ref au) (.ref bF)=some false) (k_TooLong_NoName:PySem.W.kitOne K (.ref au) (.ref aP)=some false) (k_TooLong_NoNumber:PySem.W.kitOne K (.ref au) (.ref aG)=some false) (k_TooLong_NoRow:PySem.W.kitOne K (.ref au) (.ref aY)=some false) (k_TooLong_NoText:PySem.W.kitOne K (.ref au) (.ref aO)=some false) (k_TooLong_RuleError:PySem.W.kitOne K (.ref au) (.ref aD)=some true) (k_TooLong_TooBig:PySem.W.kitOne K (.ref au) (.ref aR)=some false) (k_TooLong_TooFar:PySem.W.kitOne K (.ref au) (.ref aQ)=some false) (k_TooLong_TooLong:PySem.W.kitOne K (.ref au) (.ref au)=some true) (k_TooLong_ValueError:PySem.W.kitOne K (.ref au) (.type "ValueError")=some true):
  ∃fd:FuncData,(∀(s:Shared) (v:Value),BindsTo s fd ⟨[v],[]⟩ [("_law_script",v)])/\∀(T:Addr) (base:Heap),K.In base->base.Ns mainGlobals mg->MkD mg base "law" T->zY l.prog w K mg base (jf l.prog w) Tz fa fd ["_law_script"] (Cj K T):=by
 obtain⟨f,oc,od,kV,doc,pm,an,cdv,ct,sl,e1,e2,e3,e4⟩:=FL.ex
 have e:=hfa.symm.trans (PySem.W.mg_of X G e1)
 cases e
 have FF:=Fg (st:=uW) e2 e3 e4
 have B:Bt mg:=⟨PySem.W.mg_none_of X G z_ValueError,PySem.W.mg_none_of X G z_bool,PySem.W.mg_none_of X G z_int,PySem.W.mg_none_of X G z_isinstance,PySem.W.mg_none_of X G z_len,PySem.W.mg_none_of X G z_list,PySem.W.mg_none_of X G z_max,PySem.W.mg_none_of X G z_range,PySem.W.mg_none_of X G z_sum,PySem.W.mg_none_of X G z_tuple,(let⟨t,q⟩:=g_BELOW_THE_PRIMES;⟨t,PySem.W.mg_of X G q⟩),(let⟨t,q⟩:=g_LONGEST;⟨t,PySem.W.mg_of X G q⟩)⟩
 have G0:=F0.fn X G (ps:=["number"]) fun _ _ _ _ _ _ us hl=>by obtain⟨_,rfl⟩:=L2.us1 hl;rfl
 have G1:=F1.fn X G (ps:=["by","number"]) fun _ _ _ _ _ _ us hl=>by obtain⟨_,_,rfl⟩:=L2.us2 hl;rfl
 have G2:=F2.fn X G (ps:=["prime","number"]) fun _ _ _ _ _ _ us hl=>by obtain⟨_,_,rfl⟩:=L2.us2 hl;rfl
 have G3:=F3.fn X G (ps:=["by","one","other"]) fun _ _ _ _ _ _ us hl=>by obtain⟨_,_,_,rfl⟩:=L2.us3 hl;rfl
 have G4:=F4.fn X G (ps:=["numbers"]) fun _ _ _ _ _ _ us hl=>by obtain⟨_,rfl⟩:=L2.us1 hl;rfl
 have G5:=F5.fn X G (ps:=["by","one","other"]) fun _ _ _ _ _ _ us hl=>by obtain⟨_,_,_,rfl⟩:=L2.us3 hl;rfl
 have G6:=F6.fn X G (ps:=["prime","poly"]) fun _ _ _ _ _ _ us hl=>by obtain⟨_,_,rfl⟩:=L2.us2 hl;rfl
 have G7:=F7.fn X G (ps:=["by","one","other"]) fun _ _ _ _ _ _ us hl=>by obtain⟨_,_,_,rfl⟩:=L2.us3 hl;rfl
 have G8:=F8.fn X G (ps:=["by","rule"]) fun _ _ _ _ _ _ us hl=>by obtain⟨_,_,rfl⟩:=L2.us2 hl;rfl
 have G9:=F9.fn X G (ps:=["by","poly"]) fun _ _ _ _ _ _ us hl=>by obtain⟨_,_,rfl⟩:=L2.us2 hl;rfl
 have G10:=F10.fn X G (ps:=["number"]) fun _ _ _ _ _ _ us hl=>by obtain⟨_,rfl⟩:=L2.us1 hl;rfl
 have G11:=F11.fn X G (ps:=["monic_one","poly"]) fun _ _ _ _ _ _ us hl=>by obtain⟨_,_,rfl⟩:=L2.us2 hl;rfl
 have G12:=F12.fn X G (ps:=["prime","poly"]) fun _ _ _ _ _ _ us hl=>by obtain⟨_,_,rfl⟩:=L2.us2 hl;rfl
 have G13:=F13.fn X G (ps:=["modulus","number"]) fun _ _ _ _ _ _ us hl=>by obtain⟨_,_,rfl⟩:=L2.us2 hl;rfl
 have G14:=F14.fn X G (ps:=["modulus","number","prime","rest"]) fun _ _ _ _ _ _ us hl=>by obtain⟨_,_,_,_,rfl⟩:=L2.us4 hl;rfl
 have G15:=F15.fn X G (ps:=["one","other"]) fun _ _ _ _ _ _ us hl=>by obtain⟨_,_,rfl⟩:=L2.us2 hl;rfl
 have G16:=F16.fn X G (ps:=["by","one","other"]) fun _ _ _ _ _ _ us hl=>by obtain⟨_,_,_,rfl⟩:=L2.us3 hl;rfl
 have G17:=F17.fn X G (ps:=["row","poly"]) fun _ _ _ _ _ _ us hl=>by obtain⟨_,_,rfl⟩:=L2.us2 hl;rfl
 have G18:=F18.fn X G (ps:=["row"]) fun _ _ _ _ _ _ us hl=>by obtain⟨_,rfl⟩:=L2.us1 hl;rfl
 have G19:=F19.fn X G (ps:=["row"]) fun _ _ _ _ _ _ us hl=>by obtain⟨_,rfl⟩:=L2.us1 hl;rfl
 have G20:=F20.fn X G (ps:=["length"]) fun _ _ _ _ _ _ us hl=>by obtain⟨_,rfl⟩:=L2.us1 hl;rfl
 have G21:=F21.fn X G (ps:=["by","rule","starts"]) fun _ _ _ _ _ _ us hl=>by obtain⟨_,_,_,rfl⟩:=L2.us3 hl;rfl
 have G22:=F22.fn X G (ps:=["row","numbers"]) fun _ _ _ _ _ _ us hl=>by obtain⟨_,_,rfl⟩:=L2.us2 hl;rfl
 have G23:=F23.fn X G (ps:=["_law_script","_law_k"]) fun _ _ _ _ _ _ us hl=>by obtain⟨_,_,rfl⟩:=L2.us2 hl;rfl
 have G24:=F24.fn X G (ps:=["_law_cell","_law_k"]) fun _ _ _ _ _ _ us hl=>by obtain⟨_,_,rfl⟩:=L2.us2 hl;rfl
 have G25:=F25.fn X G (ps:=["_law_cell"]) fun _ _ _ _ _ _ us hl=>by obtain⟨_,rfl⟩:=L2.us1 hl;rfl
 have G26:=F26.fn X G (ps:=["_law_by","_law_number"]) fun _ _ _ _ _ _ us hl=>by obtain⟨_,_,rfl⟩:=L2.us2 hl;rfl
 have G27:=F27.fn X G (ps:=["_law_by","_law_cell","_law_k"]) fun _ _ _ _ _ _ us hl=>by obtain⟨_,_,_,rfl⟩:=L2.us3 hl;rfl
 have G28:=F28.fn X G (ps:=["_law_row","_law_count"]) fun _ _ _ _ _ _ us hl=>by obtain⟨_,_,rfl⟩:=L2.us2 hl;rfl
 have G29:=F29.fn X G (ps:=["_law_row","_law_number"]) fun _ _ _ _ _ _ us hl=>by obtain⟨_,_,rfl⟩:=L2.us2 hl;rfl
 have G30:=F30.fn X G (ps:=["_law_script","_law_start","_law_by","_law_most"]) fun _ _ _ _ _ _ us hl=>by obtain⟨_,_,_,_,rfl⟩:=L2.us4 hl;rfl
 have G31:=F31.fn X G (ps:=["_law_by","_law_number","_law_last"]) fun _ _ _ _ _ _ us hl=>by obtain⟨_,_,_,rfl⟩:=L2.us3 hl;rfl
 have G32:=F32.fn X G (ps:=["_law_by","_law_size","_law_some"]) fun _ _ _ _ _ _ us hl=>by obtain⟨_,_,_,rfl⟩:=L2.us3 hl;rfl
 have G33:=F33.fn X G (ps:=["_law_row"]) fun _ _ _ _ _ _ us hl=>by obtain⟨_,rfl⟩:=L2.us1 hl;rfl
 have G34:=F34.fn X G (ps:=["_law_found","_law_by"]) fun _ _ _ _ _ _ us hl=>by obtain⟨_,_,rfl⟩:=L2.us2 hl;rfl
 have G35:=F35.fn X G (ps:=["_law_found","_law_by","_law_most","_law_some"]) fun _ _ _ _ _ _ us hl=>by obtain⟨_,_,_,_,rfl⟩:=L2.us4 hl;rfl
 have G36:=F36.fn X G (ps:=["_law_told"]) fun _ _ _ _ _ _ us hl=>by obtain⟨_,rfl⟩:=L2.us1 hl;rfl
 refine⟨PySem.W.fnOf "law" "law" (aH uW) (aF uW) (aj uW) .none kV doc pm an cdv ct,fun s v=> .of_eq rfl,fun T base kB gB MK=>?_⟩
 have M:Ms K mg base bF aP aG aY aO aD aR aQ au:=⟨PySem.W.mg_of X G n_NoBy,PySem.W.mg_of X G n_NoName,PySem.W.mg_of X G n_NoNumber,PySem.W.mg_of X G n_NoRow,PySem.W.mg_of X G n_NoText,PySem.W.mg_of X G n_RuleError,PySem.W.mg_of X G n_TooBig,PySem.W.mg_of X G n_TooFar,PySem.W.mg_of X G n_TooLong,Kq kB gB n_TooLong q_TooLong F.excBase_ValueError (by decide),Ky kB u_TooLong_RuleError v_TooLong_RuleError,⟨w1_TooLong,w2_TooLong,w3_TooLong,w4_TooLong,w5_TooLong,w6_TooLong⟩,k_TooLong_NoBy,k_TooLong_NoName,k_TooLong_NoNumber,k_TooLong_NoRow,k_TooLong_NoText,k_TooLong_RuleError,k_TooLong_TooBig,k_TooLong_TooFar,k_TooLong_TooLong,k_TooLong_ValueError⟩
 have mL:=wj (P:=l.prog) (w:=w) (base:=base) B G0 M
 have bV:=El (P:=l.prog) (w:=w) (base:=base) B G1 M
 have nG:=yu (P:=l.prog) (w:=w) (base:=base) B G2 M bV
 have qp:=Ia (P:=l.prog) (w:=w) (base:=base) B G3 M bV nG
 have dH:=zc (P:=l.prog) (w:=w) (base:=base) B G4 M
 have d9:=yL (P:=l.prog) (w:=w) (base:=base) B G5 M bV dH
 have oF:=Ei (P:=l.prog) (w:=w) (base:=base) B G6 M qp
 have gh:=v9 (P:=l.prog) (w:=w) (base:=base) B G7 M oF d9
 have nU:=zf (P:=l.prog) (w:=w) (base:=base) B G8 M bV
 have oN:=yR (P:=l.prog) (w:=w) (base:=base) B G9 M bV
 have iM:=qj (P:=l.prog) (w:=w) (base:=base) B G10 M mL
 have kj:=zp (P:=l.prog) (w:=w) (base:=base) B G11 M d9
 have gR:=rP (P:=l.prog) (w:=w) (base:=base) B G12 M dH bV
 have iH:=yD (P:=l.prog) (w:=w) (base:=base) B G13 M
 have qX:=Bx (P:=l.prog) (w:=w) (base:=base) B G14 M qp bV iH
 have fP:=mC (P:=l.prog) (w:=w) (base:=base) B G15 M kj iM gh gR iH qX
 have fM:=lK (P:=l.prog) (w:=w) (base:=base) B G16 M fP gh
 have sI:=zX (P:=l.prog) (w:=w) (base:=base) B G17 M bV dH
 have mj:=v8 (P:=l.prog) (w:=w) (base:=base) B G18 M nU sI d9 fM
 have gb:=uX (P:=l.prog) (w:=w) (base:=base) B G19 M mj oN
 have je:=pX (P:=l.prog) (w:=w) (base:=base) B G20 M
 have mO:=vg (P:=l.prog) (w:=w) (base:=base) B G21 M bV gb
 have jZ:=tE (P:=l.prog) (w:=w) (base:=base) B G22 M gb je mO
 have dW:=vG (P:=l.prog) (w:=w) (base:=base) B G23 M
 have dZ:=Gs (P:=l.prog) (w:=w) (base:=base) B G24 M
 have jV:=uf (P:=l.prog) (w:=w) (base:=base) B G25 M dZ
 have cX:=A9 (P:=l.prog) (w:=w) (base:=base) B G26 M
 have cR:=qd (P:=l.prog) (w:=w) (base:=base) B G27 M dZ cX
 have cO:=xY (P:=l.prog) (w:=w) (base:=base) B G28 M cX
 have gZ:=pJ (P:=l.prog) (w:=w) (base:=base) B G29 M cO cX
 have jq:=rE (P:=l.prog) (w:=w) (base:=base) B G30 M dW dZ cR gZ cX
 have mD:=uT (P:=l.prog) (w:=w) (base:=base) B G31 M
 have mX:=DQ (P:=l.prog) (w:=w) (base:=base) B G32 M mD
 have oZ:=yr (P:=l.prog) (w:=w) (base:=base) B G33 M mX cO
 have oA:=zq (P:=l.prog) (w:=w) (base:=base) B G34 M cX
 have rG:=B4 (P:=l.prog) (w:=w) (base:=base) B G35 M oA mX cO
 have sJ:=Az (P:=l.prog) (w:=w) (base:=base) B G36 M
 exact Jp MK kB B FF hfa M jV dW jq dZ cR cO oZ sJ jZ rG
end K34
namespace L2
open PySem PySem.W PySem.W.X
theorem DW{q:Program}{loose:List Str}{XP:(Str->Option Value)->Heap->Prop}{K:Params->Frag}{as:List Addr}{n t:Nat}{r:RowW}{d:DefRec}{kwd:List (Str×PySem.Expr)}{run:Value->List Value->Sem Value}(keys:∀P,as=(K P).map (·.1))
  (W:WalkO q loose XP (fun w h=>(K w.params).In h) r d kwd run):WalkX q loose XP (obsZ as) (valZ K n t) r d kwd run:=
 fun w s0 s1 mg mb G y a o pm cd doc dV kV h1 h2 h3 h4 h5 h6 args vals as' L p1 p2 p3 p4 p5=>W w s0 s1 mg mb G (InK.keeps w _ _ (z_facts keys y).2.1 L.keeps) a o pm cd doc dV kV h1 h2 h3 h4 h5 h6 args vals as' p1 p2 p3 p4 p5
end L2
namespace K34
def topF(i:Nat):PySem.Stmt:=PySem.Challenge.pw_nextbyrule_k34_numbers_put_ahead.main.body.getD i (.Pass ⟨0,0,0,0⟩)
def pwL:PySem.Program:={ PySem.Challenge.pw_nextbyrule_k34_numbers_put_ahead with main:={ PySem.Challenge.pw_nextbyrule_k34_numbers_put_ahead.main with body:=[topF 0,topF 1,topF 2,topF 3,topF 4,topF 5,topF 6,topF 7,topF 8,topF 9,topF 10,topF 11,topF 12,topF 13,topF 14,topF 15,topF 16,topF 17,topF 18,topF 19,topF 20,topF 21,topF 22,topF 23,topF 24,topF 25,topF 26,topF 27,topF 28,topF 29,topF 30,topF 31,topF 32,topF 33,topF 34,topF 35,topF 36,topF 37,topF 38,topF 39,topF 40,topF 41,topF 42,topF 43,topF 44,topF 45,topF 46,topF 47,topF 48,topF 49,topF 50,topF 51,topF 52,topF 53,topF 54,topF 55] } }
def rwL:PySem.W.OpenLaw:={ PySem.Challenge.rw_nextbyrule_k34_numbers_put_ahead with prog:=pwL }
end K34
namespace K34
namespace H
noncomputable section
open PySem PySem.W PySem.Calls PyProof.Rows
theorem warm:(K34.pwL.main.body.isEmpty||true)=true:=by k_qdec
abbrev nd(v:Obj)(l r:BT):BT:= .node v l r
abbrev e:BT:= .nil
abbrev kh:=PyData.keyHash
abbrev tt(i:Nat):Stmt:=PySem.W.Fast.tw10042496693761554944 i
def z0:Str:=⟨⟨[95,95,110,97,109,101,95,95]⟩⟩
def z1:Str:=⟨⟨[108,97,119,95,110,101,120,116,98,121,114,117,108,101,95,107,51,52,95,110,117,109,98,101,114,115,95,112,117,116,95,97,104,101,97,100]⟩⟩
def z2:Str:=⟨⟨[95,95,100,111,99,95,95]⟩⟩
def z3:Str:=⟨⟨[95,95,112,97,99,107,97,103,101,95,95]⟩⟩
def z4:Str:=⟨⟨[95,95,108,111,97,100,101,114,95,95]⟩⟩
def z5:Str:=⟨⟨[95,95,115,112,101,99,95,95]⟩⟩
def z6:Str:=⟨⟨[95,95,97,110,110,111,116,97,116,105,111,110,115,95,95]⟩⟩
def z7:Str:=⟨⟨[95,95,98,117,105,108,116,105,110,115,95,95]⟩⟩
def z8:Str:=⟨⟨[95,95,102,105,108,101,95,95]⟩⟩
def z9:Str:=⟨⟨[47,99,108,97,105,109,47,99,117,116,46,112,121]⟩⟩
def z10:Str:=⟨⟨[95,95,99,97,99,104,101,100,95,95]⟩⟩
def z11:Str:=⟨⟨[82,117,108,101,69,114,114,111,114]⟩⟩
def z12:Str:=⟨⟨[78,111,78,117,109,98,101,114]⟩⟩
def z13:Str:=⟨⟨[78,111,66,121]⟩⟩
def z14:Str:=⟨⟨[78,111,84,101,120,116]⟩⟩
def z15:Str:=⟨⟨[84,111,111,70,97,114]⟩⟩
def z16:Str:=⟨⟨[84,111,111,76,111,110,103]⟩⟩
def z17:Str:=⟨⟨[84,111,111,66,105,103]⟩⟩
def z18:Str:=⟨⟨[78,111,82,111,119]⟩⟩
def z19:Str:=⟨⟨[78,111,78,97,109,101]⟩⟩
def z20:Str:=⟨⟨[105,115,95,112,114,105,109,101]⟩⟩
def z21:Str:=⟨⟨[116,97,107,101,110]⟩⟩
def z22:Str:=⟨⟨[105,110,118,101,114,115,101]⟩⟩
def z23:Str:=⟨⟨[111,118,101,114]⟩⟩
def z24:Str:=⟨⟨[76,79,78,71,69,83,84]⟩⟩
def z25:Str:=⟨⟨[116,114,105,109,109,101,100]⟩⟩
def z26:Str:=⟨⟨[100,105,118,105,100,101,100]⟩⟩
def z27:Str:=⟨⟨[109,111,110,105,99]⟩⟩
def z28:Str:=⟨⟨[103,114,101,97,116,101,115,116]⟩⟩
def z29:Str:=⟨⟨[111,102,95,114,117,108,101]⟩⟩
def z30:Str:=⟨⟨[114,117,108,101,95,111,102]⟩⟩
def z31:Str:=⟨⟨[66,69,76,79,87,95,84,72,69,95,80,82,73,77,69,83]⟩⟩
def z32:Str:=⟨⟨[112,114,105,109,101,95,97,98,111,118,101]⟩⟩
def z33:Str:=⟨⟨[100,105,118,105,100,101,115]⟩⟩
def z34:Str:=⟨⟨[116,97,107,101,110,95,112,111,108,121]⟩⟩
def z35:Str:=⟨⟨[110,101,97,114,101,115,116]⟩⟩
def z36:Str:=⟨⟨[106,111,105,110,101,100]⟩⟩
def z37:Str:=⟨⟨[119,104,111,108,101,95,103,114,101,97,116,101,115,116]⟩⟩
def z38:Str:=⟨⟨[115,104,97,114,101,100,95,100,105,118,105,115,111,114]⟩⟩
def z39:Str:=⟨⟨[116,111,112,95,111,102]⟩⟩
def z40:Str:=⟨⟨[108,101,97,115,116,95,111,102]⟩⟩
def z41:Str:=⟨⟨[115,104,111,114,116,101,115,116]⟩⟩
def z42:Str:=⟨⟨[114,101,102,117,115,101,95,108,111,110,103]⟩⟩
def z43:Str:=⟨⟨[116,111,108,100,95,114,111,119]⟩⟩
def z44:Str:=⟨⟨[112,117,116,95,97,104,101,97,100]⟩⟩
def z45:Str:=⟨⟨[95,108,97,119,95,99,101,108,108,95,97,116]⟩⟩
def z46:Str:=⟨⟨[95,108,97,119,95,109,105,120]⟩⟩
def z47:Str:=⟨⟨[95,108,97,119,95,100,114,97,119,110,95,98,121]⟩⟩
def z48:Str:=⟨⟨[95,108,97,119,95,116,97,107,101,110]⟩⟩
def z49:Str:=⟨⟨[95,108,97,119,95,111,110,101,95,110,117,109,98,101,114]⟩⟩
def z50:Str:=⟨⟨[95,108,97,119,95,109,97,100,101,95,108,111,110,103,101,114]⟩⟩
def z51:Str:=⟨⟨[95,108,97,119,95,100,114,97,119,110,95,114,111,119]⟩⟩
def z52:Str:=⟨⟨[95,108,97,119,95,112,108,97,99,101,115]⟩⟩
def z53:Str:=⟨⟨[95,108,97,119,95,114,97,110,107]⟩⟩
def z54:Str:=⟨⟨[95,108,97,119,95,115,104,111,114,116,101,114]⟩⟩
def z55:Str:=⟨⟨[95,108,97,119,95,108,101,110,103,116,104]⟩⟩
def z56:Str:=⟨⟨[95,108,97,119,95,105,115,95,114,111,119]⟩⟩
def z57:Str:=⟨⟨[95,108,97,119,95,114,105,103,104,116]⟩⟩
def z58:Str:=⟨⟨[95,108,97,119,95,104,101,97,114,100]⟩⟩
def z59:Str:=⟨⟨[108,97,119]⟩⟩
def z60:Str:=⟨⟨[60,109,111,100,117,108,101,62]⟩⟩
def z61:Str:=⟨⟨[95,95,109,97,105,110,95,95]⟩⟩
def z62:Str:=⟨⟨[95,95,109,111,100,117,108,101,95,95]⟩⟩
def z63:Str:=⟨⟨[110,101,120,116,98,121,114,117,108,101,46,101,114,114,111,114,115]⟩⟩
def z64:Str:=⟨⟨[95,95,113,117,97,108,110,97,109,101,95,95]⟩⟩
def z65:Str:=⟨⟨[95,95,102,105,114,115,116,108,105,110,101,110,111,95,95]⟩⟩
def z66:Str:=⟨⟨[95,95,115,116,97,116,105,99,95,97,116,116,114,105,98,117,116,101,115,95,95]⟩⟩
def z67:Str:=⟨⟨[95,95,119,101,97,107,114,101,102,95,95]⟩⟩
def z68:Str:=⟨⟨[110,117,109,98,101,114]⟩⟩
def z69:Str:=⟨⟨[100,105,118,105,115,111,114]⟩⟩
def z70:Str:=⟨⟨[110,101,120,116,98,121,114,117,108,101,46,110,117,109,98,101,114,115]⟩⟩
def z71:Str:=⟨⟨[98,121]⟩⟩
def z72:Str:=⟨⟨[112,114,105,109,101]⟩⟩
def z73:Str:=⟨⟨[112,111,119,101,114]⟩⟩
def z74:Str:=⟨⟨[115,113,117,97,114,101]⟩⟩
def z75:Str:=⟨⟨[108,101,102,116]⟩⟩
def z76:Str:=⟨⟨[111,110,101]⟩⟩
def z77:Str:=⟨⟨[111,116,104,101,114]⟩⟩
def z78:Str:=⟨⟨[110,117,109,98,101,114,115]⟩⟩
def z79:Str:=⟨⟨[101,110,100]⟩⟩
def z80:Str:=⟨⟨[110,101,120,116,98,121,114,117,108,101,46,112,111,108,121,115]⟩⟩
def z81:Str:=⟨⟨[116,111,112]⟩⟩
def z82:Str:=⟨⟨[111,102,116,101,110]⟩⟩
def z83:Str:=⟨⟨[115,104,105,102,116]⟩⟩
def z84:Str:=⟨⟨[102,97,99,116,111,114]⟩⟩
def z85:Str:=⟨⟨[107]⟩⟩
def z86:Str:=⟨⟨[103,114,101,97,116]⟩⟩
def z87:Str:=⟨⟨[115,109,97,108,108]⟩⟩
def z88:Str:=⟨⟨[102,111,117,110,100]⟩⟩
def z89:Str:=⟨⟨[110,101,120,116,98,121,114,117,108,101,46,119,104,111,108,101,115]⟩⟩
def z90:Str:=⟨⟨[109,111,110,105,99,95,111,110,101]⟩⟩
def z91:Str:=⟨⟨[112,111,108,121]⟩⟩
def z92:Str:=⟨⟨[109,111,100,117,108,117,115]⟩⟩
def z93:Str:=⟨⟨[114,101,115,116]⟩⟩
def z94:Str:=⟨⟨[109,111,114,101]⟩⟩
def z95:Str:=⟨⟨[110,101,120,116,98,121,114,117,108,101,46,115,104,111,114,116,101,115,116]⟩⟩
def z96:Str:=⟨⟨[114,111,119]⟩⟩
def z97:Str:=⟨⟨[108,101,97,115,116]⟩⟩
def z98:Str:=⟨⟨[114,117,108,101]⟩⟩
def z99:Str:=⟨⟨[108,101,110,103,116,104]⟩⟩
def Oz:Str:=⟨⟨[110,101,120,116,98,121,114,117,108,101,46,109,105,120,101,115]⟩⟩
def Wn:Str:=⟨⟨[95,108,97,119,95,115,99,114,105,112,116]⟩⟩
def Sv:Str:=⟨⟨[95,108,97,119,95,107]⟩⟩
def Qh:Str:=⟨⟨[95,108,97,119,95,99,101,108,108]⟩⟩
def K4:Str:=⟨⟨[95,108,97,119,95,110,117,109,98,101,114]⟩⟩
def Ka:Str:=⟨⟨[95,108,97,119,95,98,121]⟩⟩
def Wc:Str:=⟨⟨[95,108,97,119,95,102,97,114]⟩⟩
def Wh:Str:=⟨⟨[95,108,97,119,95,115,109,97,108,108]⟩⟩
def Wq:Str:=⟨⟨[95,108,97,119,95,108,97,115,116]⟩⟩
def Wa:Str:=⟨⟨[95,108,97,119,95,114,111,119]⟩⟩
def Q9:Str:=⟨⟨[95,108,97,119,95,102,111,117,110,100]⟩⟩
def Wy:Str:=⟨⟨[95,108,97,119,95,109,111,115,116]⟩⟩
def V0:Str:=⟨⟨[95,108,97,119,95,115,111,109,101]⟩⟩
def Wz:Str:=⟨⟨[95,108,97,119,95,115,105,122,101]⟩⟩
def VL:Str:=⟨⟨[95,108,97,119,95,116,111,108,100]⟩⟩
def V7:Str:=⟨⟨[95,108,97,119,95,107,101,112,116]⟩⟩
def VJ:Str:=⟨⟨[101]⟩⟩
noncomputable abbrev t0:String:=PySem.W.SL.s14018661285674007319x4
noncomputable abbrev t1:String:=PySem.W.SL.s7097527257260152453x26
noncomputable abbrev t2:String:=PySem.W.SL.s2766695959194262286x5
noncomputable abbrev t3:String:=PySem.W.SL.s5856160107412720595x4
noncomputable abbrev t4:String:=PySem.W.SL.s658472552662922059x5
noncomputable abbrev t5:String:=PySem.W.SL.s6070975301684473832x10
noncomputable abbrev t6:String:=PySem.W.SL.s11030030927630378310x26
noncomputable abbrev t7:String:=PySem.W.SL.s10062305145149207511x16
noncomputable abbrev t8:String:=PySem.W.SL.s17162191345867700912x4
noncomputable abbrev t9:String:=PySem.W.SL.s4209523147560561109x18
noncomputable abbrev t10:String:=PySem.W.SL.s5946037652744460706x9
noncomputable abbrev t11:String:=PySem.W.SL.s4278001404047624695x13
noncomputable abbrev t12:String:=PySem.W.SL.s2742458400755230247x6
noncomputable abbrev t13:String:=PySem.W.SL.s14755015743595814543x17
noncomputable abbrev t14:String:=PySem.W.SL.s10220274742760427390x26
noncomputable abbrev t15:String:=PySem.W.SL.s4290257624100764138x5
noncomputable abbrev t16:String:=PySem.W.SL.s4860613602091757760x24
noncomputable abbrev t17:String:=PySem.W.SL.s7174869446012820540x8
def l3(P:Params):List DictEntry:=[⟨kh P z0,.str z0 165,.str z1 543⟩,⟨kh P z2,.str z2 166,.none⟩,⟨kh P z3,.str z3 167,.none⟩,⟨kh P z4,.str z4 168,.builtin t1⟩,⟨kh P z5,.str z5 169,.none⟩,⟨kh P z6,.str z6 170,.ref 6⟩,⟨kh P z7,.str z7 171,.ref 4⟩,⟨kh P z8,.str z8 173,.str z9 172⟩,⟨kh P z10,.str z10 174,.none⟩,⟨kh P z11,.str z11 206,.ref 24⟩,⟨kh P z12,.str z12 222,.ref 37⟩,⟨kh P z13,.str z13 238,.ref 49⟩,⟨kh P z14,.str z14 254,.ref 61⟩,⟨kh P z15,.str z15 270,.ref 73⟩,⟨kh P z16,.str z16 286,.ref 85⟩,⟨kh P z17,.str z17 302,.ref 97⟩,⟨kh P z18,.str z18 318,.ref 109⟩,⟨kh P z19,.str z19 334,.ref 121⟩,⟨kh P z20,.str z20 344,.ref 130⟩,⟨kh P z21,.str z21 352,.ref 137⟩,⟨kh P z22,.str z22 363,.ref 144⟩,⟨kh P z23,.str z23 372,.ref 151⟩,⟨kh P z24,.str z24 374,.int 12 373⟩,⟨kh P z25,.str z25 384,.ref 158⟩,⟨kh P z26,.str z26 399,.ref 165⟩,⟨kh P z27,.str z27 405,.ref 170⟩,⟨kh P z28,.str z28 417,.ref 177⟩,⟨kh P z29,.str z29 423,.ref 182⟩,⟨kh P z30,.str z30 429,.ref 187⟩,⟨kh P z31,.str z31 433,.int 1000000 432⟩,⟨kh P z32,.str z32 441,.ref 194⟩,⟨kh P z33,.str z33 449,.ref 201⟩,⟨kh P z34,.str z34 455,.ref 206⟩,⟨kh P z35,.str z35 464,.ref 213⟩,⟨kh P z36,.str z36 475,.ref 220⟩,⟨kh P z37,.str z37 481,.ref 225⟩,⟨kh P z38,.str z38 490,.ref 232⟩,⟨kh P z39,.str z39 498,.ref 237⟩,⟨kh P z40,.str z40 508,.ref 244⟩,⟨kh P z41,.str z41 517,.ref 251⟩,⟨kh P z42,.str z42 526,.ref 258⟩,⟨kh P z43,.str z43 532,.ref 263⟩,⟨kh P z44,.str z44 542,.ref 270⟩,⟨kh P z45,.str z45 552,.ref 277⟩,⟨kh P z46,.str z46 561,.ref 284⟩,⟨kh P z47,.str z47 568,.ref 291⟩,⟨kh P z48,.str z48 576,.ref 298⟩,⟨kh P z49,.str z49 587,.ref 305⟩,⟨kh P z50,.str z50 593,.ref 310⟩,⟨kh P z51,.str z51 599,.ref 315⟩,⟨kh P z52,.str z52 605,.ref 320⟩,⟨kh P z53,.str z53 611,.ref 325⟩,⟨kh P z54,.str z54 620,.ref 332⟩,⟨kh P z55,.str z55 627,.ref 339⟩,⟨kh P z56,.str z56 636,.ref 346⟩,⟨kh P z57,.str z57 647,.ref 353⟩,⟨kh P z58,.str z58 657,.ref 360⟩,⟨kh P z59,.str z59 663,.ref 365⟩]
def o3(P:Params):Obj:=⟨.type t0,.none,.dict ⟨l3 P⟩ 58,⟨[]⟩⟩
def V5(P:Params):Obj:=⟨.type t0,.none,.dict ⟨[⟨kh P z0,.str z0 165,.str z63 187⟩,⟨kh P z2,.str z2 166,.none⟩,⟨kh P z3,.str z3 167,.none⟩,⟨kh P z4,.str z4 168,.builtin t1⟩,⟨kh P z5,.str z5 169,.none⟩,⟨kh P z6,.str z6 170,.ref 6⟩,⟨kh P z7,.str z7 171,.ref 4⟩,⟨kh P z8,.str z8 173,.str z9 172⟩,⟨kh P z10,.str z10 174,.none⟩,⟨kh P z11,.str z11 206,.ref 24⟩]⟩ 10,⟨[]⟩⟩
def Ww(P:Params):Obj:=⟨.type t0,.none,.dict ⟨[⟨kh P z0,.str z0 165,.str z63 187⟩,⟨kh P z2,.str z2 166,.none⟩,⟨kh P z3,.str z3 167,.none⟩,⟨kh P z4,.str z4 168,.builtin t1⟩,⟨kh P z5,.str z5 169,.none⟩,⟨kh P z6,.str z6 170,.ref 6⟩,⟨kh P z7,.str z7 171,.ref 4⟩,⟨kh P z8,.str z8 173,.str z9 172⟩,⟨kh P z10,.str z10 174,.none⟩,⟨kh P z11,.str z11 206,.ref 24⟩,⟨kh P z12,.str z12 222,.ref 37⟩]⟩ 11,⟨[]⟩⟩
def Wf(P:Params):Obj:=⟨.type t0,.none,.dict ⟨[⟨kh P z0,.str z0 165,.str z63 187⟩,⟨kh P z2,.str z2 166,.none⟩,⟨kh P z3,.str z3 167,.none⟩,⟨kh P z4,.str z4 168,.builtin t1⟩,⟨kh P z5,.str z5 169,.none⟩,⟨kh P z6,.str z6 170,.ref 6⟩,⟨kh P z7,.str z7 171,.ref 4⟩,⟨kh P z8,.str z8 173,.str z9 172⟩,⟨kh P z10,.str z10 174,.none⟩,⟨kh P z11,.str z11 206,.ref 24⟩,⟨kh P z12,.str z12 222,.ref 37⟩,⟨kh P z13,.str z13 238,.ref 49⟩]⟩ 12,⟨[]⟩⟩
def Ox(P:Params):Obj:=⟨.type t0,.none,.dict ⟨[⟨kh P z0,.str z0 165,.str z63 187⟩,⟨kh P z2,.str z2 166,.none⟩,⟨kh P z3,.str z3 167,.none⟩,⟨kh P z4,.str z4 168,.builtin t1⟩,⟨kh P z5,.str z5 169,.none⟩,⟨kh P z6,.str z6 170,.ref 6⟩,⟨kh P z7,.str z7 171,.ref 4⟩,⟨kh P z8,.str z8 173,.str z9 172⟩,⟨kh P z10,.str z10 174,.none⟩,⟨kh P z11,.str z11 206,.ref 24⟩,⟨kh P z12,.str z12 222,.ref 37⟩,⟨kh P z13,.str z13 238,.ref 49⟩,⟨kh P z14,.str z14 254,.ref 61⟩]⟩ 13,⟨[]⟩⟩
def R4(P:Params):Obj:=⟨.type t0,.none,.dict ⟨[⟨kh P z0,.str z0 165,.str z63 187⟩,⟨kh P z2,.str z2 166,.none⟩,⟨kh P z3,.str z3 167,.none⟩,⟨kh P z4,.str z4 168,.builtin t1⟩,⟨kh P z5,.str z5 169,.none⟩,⟨kh P z6,.str z6 170,.ref 6⟩,⟨kh P z7,.str z7 171,.ref 4⟩,⟨kh P z8,.str z8 173,.str z9 172⟩,⟨kh P z10,.str z10 174,.none⟩,⟨kh P z11,.str z11 206,.ref 24⟩,⟨kh P z12,.str z12 222,.ref 37⟩,⟨kh P z13,.str z13 238,.ref 49⟩,⟨kh P z14,.str z14 254,.ref 61⟩,⟨kh P z15,.str z15 270,.ref 73⟩]⟩ 14,⟨[]⟩⟩
def Oj(P:Params):Obj:=⟨.type t0,.none,.dict ⟨[⟨kh P z0,.str z0 165,.str z63 187⟩,⟨kh P z2,.str z2 166,.none⟩,⟨kh P z3,.str z3 167,.none⟩,⟨kh P z4,.str z4 168,.builtin t1⟩,⟨kh P z5,.str z5 169,.none⟩,⟨kh P z6,.str z6 170,.ref 6⟩,⟨kh P z7,.str z7 171,.ref 4⟩,⟨kh P z8,.str z8 173,.str z9 172⟩,⟨kh P z10,.str z10 174,.none⟩,⟨kh P z11,.str z11 206,.ref 24⟩,⟨kh P z12,.str z12 222,.ref 37⟩,⟨kh P z13,.str z13 238,.ref 49⟩,⟨kh P z14,.str z14 254,.ref 61⟩,⟨kh P z15,.str z15 270,.ref 73⟩,⟨kh P z16,.str z16 286,.ref 85⟩]⟩ 15,⟨[]⟩⟩
def Sh(P:Params):Obj:=⟨.type t0,.none,.dict ⟨[⟨kh P z0,.str z0 165,.str z63 187⟩,⟨kh P z2,.str z2 166,.none⟩,⟨kh P z3,.str z3 167,.none⟩,⟨kh P z4,.str z4 168,.builtin t1⟩,⟨kh P z5,.str z5 169,.none⟩,⟨kh P z6,.str z6 170,.ref 6⟩,⟨kh P z7,.str z7 171,.ref 4⟩,⟨kh P z8,.str z8 173,.str z9 172⟩,⟨kh P z10,.str z10 174,.none⟩,⟨kh P z11,.str z11 206,.ref 24⟩,⟨kh P z12,.str z12 222,.ref 37⟩,⟨kh P z13,.str z13 238,.ref 49⟩,⟨kh P z14,.str z14 254,.ref 61⟩,⟨kh P z15,.str z15 270,.ref 73⟩,⟨kh P z16,.str z16 286,.ref 85⟩,⟨kh P z17,.str z17 302,.ref 97⟩]⟩ 16,⟨[]⟩⟩
def PY(P:Params):Obj:=⟨.type t0,.none,.dict ⟨[⟨kh P z0,.str z0 165,.str z63 187⟩,⟨kh P z2,.str z2 166,.none⟩,⟨kh P z3,.str z3 167,.none⟩,⟨kh P z4,.str z4 168,.builtin t1⟩,⟨kh P z5,.str z5 169,.none⟩,⟨kh P z6,.str z6 170,.ref 6⟩,⟨kh P z7,.str z7 171,.ref 4⟩,⟨kh P z8,.str z8 173,.str z9 172⟩,⟨kh P z10,.str z10 174,.none⟩,⟨kh P z11,.str z11 206,.ref 24⟩,⟨kh P z12,.str z12 222,.ref 37⟩,⟨kh P z13,.str z13 238,.ref 49⟩,⟨kh P z14,.str z14 254,.ref 61⟩,⟨kh P z15,.str z15 270,.ref 73⟩,⟨kh P z16,.str z16 286,.ref 85⟩,⟨kh P z17,.str z17 302,.ref 97⟩,⟨kh P z18,.str z18 318,.ref 109⟩]⟩ 17,⟨[]⟩⟩
def Mf(P:Params):Obj:=⟨.type t0,.none,.dict ⟨[⟨kh P z0,.str z0 165,.str z80 375⟩,⟨kh P z2,.str z2 166,.none⟩,⟨kh P z3,.str z3 167,.none⟩,⟨kh P z4,.str z4 168,.builtin t1⟩,⟨kh P z5,.str z5 169,.none⟩,⟨kh P z6,.str z6 170,.ref 6⟩,⟨kh P z7,.str z7 171,.ref 4⟩,⟨kh P z8,.str z8 173,.str z9 172⟩,⟨kh P z10,.str z10 174,.none⟩,⟨kh P z11,.str z11 206,.ref 24⟩,⟨kh P z12,.str z12 222,.ref 37⟩,⟨kh P z13,.str z13 238,.ref 49⟩,⟨kh P z14,.str z14 254,.ref 61⟩,⟨kh P z15,.str z15 270,.ref 73⟩,⟨kh P z16,.str z16 286,.ref 85⟩,⟨kh P z17,.str z17 302,.ref 97⟩,⟨kh P z18,.str z18 318,.ref 109⟩,⟨kh P z19,.str z19 334,.ref 121⟩,⟨kh P z20,.str z20 344,.ref 130⟩,⟨kh P z21,.str z21 352,.ref 137⟩,⟨kh P z22,.str z22 363,.ref 144⟩,⟨kh P z23,.str z23 372,.ref 151⟩,⟨kh P z24,.str z24 374,.int 12 373⟩,⟨kh P z25,.str z25 384,.ref 158⟩]⟩ 24,⟨[]⟩⟩
def Pb(P:Params):Obj:=⟨.type t0,.none,.dict ⟨[⟨kh P z0,.str z0 165,.str z95 491⟩,⟨kh P z2,.str z2 166,.none⟩,⟨kh P z3,.str z3 167,.none⟩,⟨kh P z4,.str z4 168,.builtin t1⟩,⟨kh P z5,.str z5 169,.none⟩,⟨kh P z6,.str z6 170,.ref 6⟩,⟨kh P z7,.str z7 171,.ref 4⟩,⟨kh P z8,.str z8 173,.str z9 172⟩,⟨kh P z10,.str z10 174,.none⟩,⟨kh P z11,.str z11 206,.ref 24⟩,⟨kh P z12,.str z12 222,.ref 37⟩,⟨kh P z13,.str z13 238,.ref 49⟩,⟨kh P z14,.str z14 254,.ref 61⟩,⟨kh P z15,.str z15 270,.ref 73⟩,⟨kh P z16,.str z16 286,.ref 85⟩,⟨kh P z17,.str z17 302,.ref 97⟩,⟨kh P z18,.str z18 318,.ref 109⟩,⟨kh P z19,.str z19 334,.ref 121⟩,⟨kh P z20,.str z20 344,.ref 130⟩,⟨kh P z21,.str z21 352,.ref 137⟩,⟨kh P z22,.str z22 363,.ref 144⟩,⟨kh P z23,.str z23 372,.ref 151⟩,⟨kh P z24,.str z24 374,.int 12 373⟩,⟨kh P z25,.str z25 384,.ref 158⟩,⟨kh P z26,.str z26 399,.ref 165⟩,⟨kh P z27,.str z27 405,.ref 170⟩,⟨kh P z28,.str z28 417,.ref 177⟩,⟨kh P z29,.str z29 423,.ref 182⟩,⟨kh P z30,.str z30 429,.ref 187⟩,⟨kh P z31,.str z31 433,.int 1000000 432⟩,⟨kh P z32,.str z32 441,.ref 194⟩,⟨kh P z33,.str z33 449,.ref 201⟩,⟨kh P z34,.str z34 455,.ref 206⟩,⟨kh P z35,.str z35 464,.ref 213⟩,⟨kh P z36,.str z36 475,.ref 220⟩,⟨kh P z37,.str z37 481,.ref 225⟩,⟨kh P z38,.str z38 490,.ref 232⟩]⟩ 37,⟨[]⟩⟩
def Lq(P:Params):Obj:=⟨.type t0,.none,.dict ⟨(l3 P).take 50⟩ 50,⟨[]⟩⟩
def o11(P:Params):Obj:=⟨.type t2,.none,.seq ⟨[]⟩ 0,⟨[]⟩⟩
def l12(P:Params):List Value:=[.int 2 0,.int 0 0,.ref 20,.int 4 0,.int 0 0,.ref 33,.int 6 0,.int 0 0,.ref 45,.int 8 0,.int 0 0,.ref 57,.int 10 0,.int 0 0,.ref 69,.int 12 0,.int 0 0,.ref 81,.int 14 0,.int 0 0,.ref 93,.int 16 0,.int 0 0,.ref 105,.int 18 0,.int 0 0,.ref 117,.int 21 0,.int 0 0,.ref 129,.int 30 0,.int 0 0,.ref 136,.int 34 0,.int 0 0,.ref 143,.int 44 0,.int 0 0,.ref 150,.int 52 0,.int 0 0,.ref 157,.int 57 0,.int 0 0,.ref 164,.int 67 0,.int 0 0,.ref 169,.int 72 0,.int 0 0,.ref 176,.int 80 0,.int 0 0,.ref 181,.int 84 0,.int 0 0,.ref 186,.int 89 0,.int 0 0,.ref 193,.int 94 0,.int 0 0,.ref 200,.int 96 0,.int 0 0,.ref 205,.int 98 0,.int 0 0,.ref 212,.int 101 0,.int 0 0,.ref 219,.int 104 0,.int 0 0,.ref 224,.int 122 0,.int 0 0,.ref 231,.int 125 0,.int 0 0,.ref 236,.int 133 0,.int 0 0,.ref 243,.int 138 0,.int 0 0,.ref 250,.int 143 0,.int 0 0,.ref 257,.int 146 0,.int 0 0,.ref 262,.int 150 0,.int 0 0,.ref 269,.int 156 0,.int 0 0,.ref 276,.int 160 0,.int 0 0,.ref 283,.int 164 0,.int 0 0,.ref 290,.int 166 0,.int 0 0,.ref 297,.int 170 0,.int 0 0,.ref 304,.int 176 0,.int 0 0,.ref 309,.int 184 0,.int 0 0,.ref 314,.int 194 0,.int 0 0,.ref 319,.int 201 0,.int 0 0,.ref 324,.int 217 0,.int 0 0,.ref 331,.int 221 0,.int 0 0,.ref 338,.int 223 0,.int 0 0,.ref 345,.int 232 0,.int 0 0,.ref 352,.int 237 0,.int 0 0,.ref 359,.int 249 0,.int 0 0,.ref 364]
def o12(P:Params):Obj:=⟨.none,.none,.fields ⟨l12 P⟩,⟨[]⟩⟩
def Kd(P:Params):Obj:=⟨.none,.none,.fields ⟨(l12 P).take 0⟩,⟨[]⟩⟩
def Ni(P:Params):Obj:=⟨.none,.none,.fields ⟨(l12 P).take 3⟩,⟨[]⟩⟩
def RP(P:Params):Obj:=⟨.none,.none,.fields ⟨(l12 P).take 6⟩,⟨[]⟩⟩
def Ly(P:Params):Obj:=⟨.none,.none,.fields ⟨(l12 P).take 9⟩,⟨[]⟩⟩
def J2(P:Params):Obj:=⟨.none,.none,.fields ⟨(l12 P).take 12⟩,⟨[]⟩⟩
def Jr(P:Params):Obj:=⟨.none,.none,.fields ⟨(l12 P).take 15⟩,⟨[]⟩⟩
def Ks(P:Params):Obj:=⟨.none,.none,.fields ⟨(l12 P).take 18⟩,⟨[]⟩⟩
def JG(P:Params):Obj:=⟨.none,.none,.fields ⟨(l12 P).take 21⟩,⟨[]⟩⟩
def Ip(P:Params):Obj:=⟨.none,.none,.fields ⟨(l12 P).take 24⟩,⟨[]⟩⟩
def J0(P:Params):Obj:=⟨.none,.none,.fields ⟨(l12 P).take 42⟩,⟨[]⟩⟩
def KD(P:Params):Obj:=⟨.none,.none,.fields ⟨(l12 P).take 78⟩,⟨[]⟩⟩
def JK(P:Params):Obj:=⟨.none,.none,.fields ⟨(l12 P).take 117⟩,⟨[]⟩⟩
def o13(P:Params):Obj:=⟨.type t3,.none,.fields ⟨[.str z60 182,.str z60 183,.str z9 184,.int 1 0,.int 0 0,.int 0 0,.int 0 0,.int 0 0,.ref 11,.bool false,.int 181 0,.ref 12,.none,.none,.none,.none,.int 185 0,.int 1 0,.str z9 186]⟩,⟨[]⟩⟩
def o14(P:Params):Obj:=⟨.type t4,.none,.plain,⟨[.some (.ref 13),.some (.ref 3),.some (.ref 3),.none,.some (.str z61 164),.none,.some (.ref 0)]⟩⟩
def o15(P:Params):Obj:=⟨.type t2,.none,.seq ⟨[.type t5]⟩ 0,⟨[]⟩⟩
def o16(P:Params):Obj:=⟨.type t6,.none,.fields ⟨[.builtin t7,.type t8]⟩,⟨[]⟩⟩
def o17(P:Params):Obj:=⟨.type t0,.none,.dict ⟨[⟨kh P z62,.str z62 196,.str z63 187⟩,⟨kh P z64,.str z64 198,.str z11 197⟩,⟨kh P z65,.str z65 200,.int 2 199⟩,⟨kh P z66,.str z66 201,.ref 22⟩]⟩ 4,⟨[]⟩⟩
def o18(P:Params):Obj:=⟨.type t2,.none,.seq ⟨[]⟩ 0,⟨[]⟩⟩
def o19(P:Params):Obj:=⟨.none,.none,.fields ⟨[]⟩,⟨[]⟩⟩
def o20(P:Params):Obj:=⟨.type t3,.none,.fields ⟨[.str z11 191,.str z11 192,.str z9 193,.int 2 0,.int 0 0,.int 0 0,.int 0 0,.int 0 0,.ref 18,.bool false,.int 181 0,.ref 19,.none,.none,.none,.none,.int 194 0,.int 2 0,.str z9 195]⟩,⟨[]⟩⟩
def o21(P:Params):Obj:=⟨.type t4,.none,.plain,⟨[.some (.ref 20),.some (.ref 3),.some (.ref 17),.none,.some (.str z63 187),.none,.some (.ref 0)]⟩⟩
def o22(P:Params):Obj:=⟨.type t2,.none,.seq ⟨[]⟩ 0,⟨[]⟩⟩
def o23(P:Params):Obj:=⟨.type t0,.none,.dict ⟨[⟨kh P z62,.str z62 196,.str z63 187⟩,⟨kh P z65,.str z65 200,.int 2 199⟩,⟨kh P z66,.str z66 201,.ref 22⟩,⟨kh P z67,.str z67 203,.ref 25⟩,⟨kh P z2,.str z2 204,.none⟩]⟩ 3,⟨[]⟩⟩
def o24(P:Params):Obj:=⟨.type t8,.none,.cls ⟨z11,[.type t5],[.ref 24,.type t5,.type t10,.type t11,.type t12],23,z11,true,[],[.ref 37,.ref 49,.ref 61,.ref 73,.ref 85,.ref 97,.ref 109,.ref 121],false,.none,false⟩,⟨[.some (.ref 15),.none,.some (.str z11 189),.some (.str z11 197),.some (.builtin t9),.some (.bool true)]⟩⟩
def Od(P:Params):Obj:=⟨.type t8,.none,.cls ⟨z11,[.type t5],[.ref 24,.type t5,.type t10,.type t11,.type t12],23,z11,true,[],[],false,.none,false⟩,⟨[.some (.ref 15),.none,.some (.str z11 189),.some (.str z11 197),.some (.builtin t9),.some (.bool true)]⟩⟩
def SN(P:Params):Obj:=⟨.type t8,.none,.cls ⟨z11,[.type t5],[.ref 24,.type t5,.type t10,.type t11,.type t12],23,z11,true,[],[.ref 37],false,.none,false⟩,⟨[.some (.ref 15),.none,.some (.str z11 189),.some (.str z11 197),.some (.builtin t9),.some (.bool true)]⟩⟩
def Ry(P:Params):Obj:=⟨.type t8,.none,.cls ⟨z11,[.type t5],[.ref 24,.type t5,.type t10,.type t11,.type t12],23,z11,true,[],[.ref 37,.ref 49],false,.none,false⟩,⟨[.some (.ref 15),.none,.some (.str z11 189),.some (.str z11 197),.some (.builtin t9),.some (.bool true)]⟩⟩
def Je(P:Params):Obj:=⟨.type t8,.none,.cls ⟨z11,[.type t5],[.ref 24,.type t5,.type t10,.type t11,.type t12],23,z11,true,[],[.ref 37,.ref 49,.ref 61],false,.none,false⟩,⟨[.some (.ref 15),.none,.some (.str z11 189),.some (.str z11 197),.some (.builtin t9),.some (.bool true)]⟩⟩
def Jc(P:Params):Obj:=⟨.type t8,.none,.cls ⟨z11,[.type t5],[.ref 24,.type t5,.type t10,.type t11,.type t12],23,z11,true,[],[.ref 37,.ref 49,.ref 61,.ref 73],false,.none,false⟩,⟨[.some (.ref 15),.none,.some (.str z11 189),.some (.str z11 197),.some (.builtin t9),.some (.bool true)]⟩⟩
def Km(P:Params):Obj:=⟨.type t8,.none,.cls ⟨z11,[.type t5],[.ref 24,.type t5,.type t10,.type t11,.type t12],23,z11,true,[],[.ref 37,.ref 49,.ref 61,.ref 73,.ref 85],false,.none,false⟩,⟨[.some (.ref 15),.none,.some (.str z11 189),.some (.str z11 197),.some (.builtin t9),.some (.bool true)]⟩⟩
def JN(P:Params):Obj:=⟨.type t8,.none,.cls ⟨z11,[.type t5],[.ref 24,.type t5,.type t10,.type t11,.type t12],23,z11,true,[],[.ref 37,.ref 49,.ref 61,.ref 73,.ref 85,.ref 97],false,.none,false⟩,⟨[.some (.ref 15),.none,.some (.str z11 189),.some (.str z11 197),.some (.builtin t9),.some (.bool true)]⟩⟩
def Jb(P:Params):Obj:=⟨.type t8,.none,.cls ⟨z11,[.type t5],[.ref 24,.type t5,.type t10,.type t11,.type t12],23,z11,true,[],[.ref 37,.ref 49,.ref 61,.ref 73,.ref 85,.ref 97,.ref 109],false,.none,false⟩,⟨[.some (.ref 15),.none,.some (.str z11 189),.some (.str z11 197),.some (.builtin t9),.some (.bool true)]⟩⟩
def o25(P:Params):Obj:=⟨.type t13,.none,.fields ⟨[.str z67 202,.ref 24,.builtin t14,.none]⟩,⟨[]⟩⟩
def o26(P:Params):Obj:=⟨.type t15,.none,.fields ⟨[.ref 24,.ref 24,.ref 24]⟩,⟨[]⟩⟩
def o27(P:Params):Obj:=⟨.type t6,.none,.fields ⟨[.builtin t16,.ref 24]⟩,⟨[]⟩⟩
def o28(P:Params):Obj:=⟨.type t2,.none,.seq ⟨[.ref 24]⟩ 0,⟨[]⟩⟩
def o29(P:Params):Obj:=⟨.type t6,.none,.fields ⟨[.builtin t7,.type t8]⟩,⟨[]⟩⟩
def o30(P:Params):Obj:=⟨.type t0,.none,.dict ⟨[⟨kh P z62,.str z62 214,.str z63 187⟩,⟨kh P z64,.str z64 216,.str z12 215⟩,⟨kh P z65,.str z65 218,.int 4 217⟩,⟨kh P z66,.str z66 219,.ref 35⟩]⟩ 4,⟨[]⟩⟩
def o31(P:Params):Obj:=⟨.type t2,.none,.seq ⟨[]⟩ 0,⟨[]⟩⟩
def o32(P:Params):Obj:=⟨.none,.none,.fields ⟨[]⟩,⟨[]⟩⟩
def o33(P:Params):Obj:=⟨.type t3,.none,.fields ⟨[.str z12 209,.str z12 210,.str z9 211,.int 4 0,.int 0 0,.int 0 0,.int 0 0,.int 0 0,.ref 31,.bool false,.int 181 0,.ref 32,.none,.none,.none,.none,.int 212 0,.int 4 0,.str z9 213]⟩,⟨[]⟩⟩
def o34(P:Params):Obj:=⟨.type t4,.none,.plain,⟨[.some (.ref 33),.some (.ref 3),.some (.ref 30),.none,.some (.str z63 187),.none,.some (.ref 0)]⟩⟩
def o35(P:Params):Obj:=⟨.type t2,.none,.seq ⟨[]⟩ 0,⟨[]⟩⟩
def o36(P:Params):Obj:=⟨.type t0,.none,.dict ⟨[⟨kh P z62,.str z62 214,.str z63 187⟩,⟨kh P z65,.str z65 218,.int 4 217⟩,⟨kh P z66,.str z66 219,.ref 35⟩,⟨kh P z2,.str z2 220,.none⟩]⟩ 2,⟨[]⟩⟩
def o37(P:Params):Obj:=⟨.type t8,.none,.cls ⟨z12,[.ref 24],[.ref 37,.ref 24,.type t5,.type t10,.type t11,.type t12],36,z12,true,[],[],false,.none,false⟩,⟨[.some (.ref 28),.none,.some (.str z12 207),.some (.str z12 215),.some (.builtin t9),.some (.bool true)]⟩⟩
def o38(P:Params):Obj:=⟨.type t15,.none,.fields ⟨[.ref 37,.ref 37,.ref 37]⟩,⟨[]⟩⟩
def o39(P:Params):Obj:=⟨.type t6,.none,.fields ⟨[.builtin t16,.ref 37]⟩,⟨[]⟩⟩
def o40(P:Params):Obj:=⟨.type t2,.none,.seq ⟨[.ref 24]⟩ 0,⟨[]⟩⟩
def o41(P:Params):Obj:=⟨.type t6,.none,.fields ⟨[.builtin t7,.type t8]⟩,⟨[]⟩⟩
def o42(P:Params):Obj:=⟨.type t0,.none,.dict ⟨[⟨kh P z62,.str z62 230,.str z63 187⟩,⟨kh P z64,.str z64 232,.str z13 231⟩,⟨kh P z65,.str z65 234,.int 6 233⟩,⟨kh P z66,.str z66 235,.ref 47⟩]⟩ 4,⟨[]⟩⟩
def o43(P:Params):Obj:=⟨.type t2,.none,.seq ⟨[]⟩ 0,⟨[]⟩⟩
def o44(P:Params):Obj:=⟨.none,.none,.fields ⟨[]⟩,⟨[]⟩⟩
def o45(P:Params):Obj:=⟨.type t3,.none,.fields ⟨[.str z13 225,.str z13 226,.str z9 227,.int 6 0,.int 0 0,.int 0 0,.int 0 0,.int 0 0,.ref 43,.bool false,.int 181 0,.ref 44,.none,.none,.none,.none,.int 228 0,.int 6 0,.str z9 229]⟩,⟨[]⟩⟩
def o46(P:Params):Obj:=⟨.type t4,.none,.plain,⟨[.some (.ref 45),.some (.ref 3),.some (.ref 42),.none,.some (.str z63 187),.none,.some (.ref 0)]⟩⟩
def o47(P:Params):Obj:=⟨.type t2,.none,.seq ⟨[]⟩ 0,⟨[]⟩⟩
def o48(P:Params):Obj:=⟨.type t0,.none,.dict ⟨[⟨kh P z62,.str z62 230,.str z63 187⟩,⟨kh P z65,.str z65 234,.int 6 233⟩,⟨kh P z66,.str z66 235,.ref 47⟩,⟨kh P z2,.str z2 236,.none⟩]⟩ 2,⟨[]⟩⟩
def o49(P:Params):Obj:=⟨.type t8,.none,.cls ⟨z13,[.ref 24],[.ref 49,.ref 24,.type t5,.type t10,.type t11,.type t12],48,z13,true,[],[],false,.none,false⟩,⟨[.some (.ref 40),.none,.some (.str z13 223),.some (.str z13 231),.some (.builtin t9),.some (.bool true)]⟩⟩
def o50(P:Params):Obj:=⟨.type t15,.none,.fields ⟨[.ref 49,.ref 49,.ref 49]⟩,⟨[]⟩⟩
def o51(P:Params):Obj:=⟨.type t6,.none,.fields ⟨[.builtin t16,.ref 49]⟩,⟨[]⟩⟩
def o52(P:Params):Obj:=⟨.type t2,.none,.seq ⟨[.ref 24]⟩ 0,⟨[]⟩⟩
def o53(P:Params):Obj:=⟨.type t6,.none,.fields ⟨[.builtin t7,.type t8]⟩,⟨[]⟩⟩
def o54(P:Params):Obj:=⟨.type t0,.none,.dict ⟨[⟨kh P z62,.str z62 246,.str z63 187⟩,⟨kh P z64,.str z64 248,.str z14 247⟩,⟨kh P z65,.str z65 250,.int 8 249⟩,⟨kh P z66,.str z66 251,.ref 59⟩]⟩ 4,⟨[]⟩⟩
def o55(P:Params):Obj:=⟨.type t2,.none,.seq ⟨[]⟩ 0,⟨[]⟩⟩
def o56(P:Params):Obj:=⟨.none,.none,.fields ⟨[]⟩,⟨[]⟩⟩
def o57(P:Params):Obj:=⟨.type t3,.none,.fields ⟨[.str z14 241,.str z14 242,.str z9 243,.int 8 0,.int 0 0,.int 0 0,.int 0 0,.int 0 0,.ref 55,.bool false,.int 181 0,.ref 56,.none,.none,.none,.none,.int 244 0,.int 8 0,.str z9 245]⟩,⟨[]⟩⟩
def o58(P:Params):Obj:=⟨.type t4,.none,.plain,⟨[.some (.ref 57),.some (.ref 3),.some (.ref 54),.none,.some (.str z63 187),.none,.some (.ref 0)]⟩⟩
def o59(P:Params):Obj:=⟨.type t2,.none,.seq ⟨[]⟩ 0,⟨[]⟩⟩
def o60(P:Params):Obj:=⟨.type t0,.none,.dict ⟨[⟨kh P z62,.str z62 246,.str z63 187⟩,⟨kh P z65,.str z65 250,.int 8 249⟩,⟨kh P z66,.str z66 251,.ref 59⟩,⟨kh P z2,.str z2 252,.none⟩]⟩ 2,⟨[]⟩⟩
def o61(P:Params):Obj:=⟨.type t8,.none,.cls ⟨z14,[.ref 24],[.ref 61,.ref 24,.type t5,.type t10,.type t11,.type t12],60,z14,true,[],[],false,.none,false⟩,⟨[.some (.ref 52),.none,.some (.str z14 239),.some (.str z14 247),.some (.builtin t9),.some (.bool true)]⟩⟩
def o62(P:Params):Obj:=⟨.type t15,.none,.fields ⟨[.ref 61,.ref 61,.ref 61]⟩,⟨[]⟩⟩
def o63(P:Params):Obj:=⟨.type t6,.none,.fields ⟨[.builtin t16,.ref 61]⟩,⟨[]⟩⟩
def o64(P:Params):Obj:=⟨.type t2,.none,.seq ⟨[.ref 24]⟩ 0,⟨[]⟩⟩
def o65(P:Params):Obj:=⟨.type t6,.none,.fields ⟨[.builtin t7,.type t8]⟩,⟨[]⟩⟩
def o66(P:Params):Obj:=⟨.type t0,.none,.dict ⟨[⟨kh P z62,.str z62 262,.str z63 187⟩,⟨kh P z64,.str z64 264,.str z15 263⟩,⟨kh P z65,.str z65 266,.int 10 265⟩,⟨kh P z66,.str z66 267,.ref 71⟩]⟩ 4,⟨[]⟩⟩
def o67(P:Params):Obj:=⟨.type t2,.none,.seq ⟨[]⟩ 0,⟨[]⟩⟩
def o68(P:Params):Obj:=⟨.none,.none,.fields ⟨[]⟩,⟨[]⟩⟩
def o69(P:Params):Obj:=⟨.type t3,.none,.fields ⟨[.str z15 257,.str z15 258,.str z9 259,.int 10 0,.int 0 0,.int 0 0,.int 0 0,.int 0 0,.ref 67,.bool false,.int 181 0,.ref 68,.none,.none,.none,.none,.int 260 0,.int 10 0,.str z9 261]⟩,⟨[]⟩⟩
def o70(P:Params):Obj:=⟨.type t4,.none,.plain,⟨[.some (.ref 69),.some (.ref 3),.some (.ref 66),.none,.some (.str z63 187),.none,.some (.ref 0)]⟩⟩
def o71(P:Params):Obj:=⟨.type t2,.none,.seq ⟨[]⟩ 0,⟨[]⟩⟩
def o72(P:Params):Obj:=⟨.type t0,.none,.dict ⟨[⟨kh P z62,.str z62 262,.str z63 187⟩,⟨kh P z65,.str z65 266,.int 10 265⟩,⟨kh P z66,.str z66 267,.ref 71⟩,⟨kh P z2,.str z2 268,.none⟩]⟩ 2,⟨[]⟩⟩
def o73(P:Params):Obj:=⟨.type t8,.none,.cls ⟨z15,[.ref 24],[.ref 73,.ref 24,.type t5,.type t10,.type t11,.type t12],72,z15,true,[],[],false,.none,false⟩,⟨[.some (.ref 64),.none,.some (.str z15 255),.some (.str z15 263),.some (.builtin t9),.some (.bool true)]⟩⟩
def o74(P:Params):Obj:=⟨.type t15,.none,.fields ⟨[.ref 73,.ref 73,.ref 73]⟩,⟨[]⟩⟩
def o75(P:Params):Obj:=⟨.type t6,.none,.fields ⟨[.builtin t16,.ref 73]⟩,⟨[]⟩⟩
def o76(P:Params):Obj:=⟨.type t2,.none,.seq ⟨[.ref 24]⟩ 0,⟨[]⟩⟩
def o77(P:Params):Obj:=⟨.type t6,.none,.fields ⟨[.builtin t7,.type t8]⟩,⟨[]⟩⟩
def o78(P:Params):Obj:=⟨.type t0,.none,.dict ⟨[⟨kh P z62,.str z62 278,.str z63 187⟩,⟨kh P z64,.str z64 280,.str z16 279⟩,⟨kh P z65,.str z65 282,.int 12 281⟩,⟨kh P z66,.str z66 283,.ref 83⟩]⟩ 4,⟨[]⟩⟩
def o79(P:Params):Obj:=⟨.type t2,.none,.seq ⟨[]⟩ 0,⟨[]⟩⟩
def o80(P:Params):Obj:=⟨.none,.none,.fields ⟨[]⟩,⟨[]⟩⟩
def o81(P:Params):Obj:=⟨.type t3,.none,.fields ⟨[.str z16 273,.str z16 274,.str z9 275,.int 12 0,.int 0 0,.int 0 0,.int 0 0,.int 0 0,.ref 79,.bool false,.int 181 0,.ref 80,.none,.none,.none,.none,.int 276 0,.int 12 0,.str z9 277]⟩,⟨[]⟩⟩
def o82(P:Params):Obj:=⟨.type t4,.none,.plain,⟨[.some (.ref 81),.some (.ref 3),.some (.ref 78),.none,.some (.str z63 187),.none,.some (.ref 0)]⟩⟩
def o83(P:Params):Obj:=⟨.type t2,.none,.seq ⟨[]⟩ 0,⟨[]⟩⟩
def o84(P:Params):Obj:=⟨.type t0,.none,.dict ⟨[⟨kh P z62,.str z62 278,.str z63 187⟩,⟨kh P z65,.str z65 282,.int 12 281⟩,⟨kh P z66,.str z66 283,.ref 83⟩,⟨kh P z2,.str z2 284,.none⟩]⟩ 2,⟨[]⟩⟩
def o85(P:Params):Obj:=⟨.type t8,.none,.cls ⟨z16,[.ref 24],[.ref 85,.ref 24,.type t5,.type t10,.type t11,.type t12],84,z16,true,[],[],false,.none,false⟩,⟨[.some (.ref 76),.none,.some (.str z16 271),.some (.str z16 279),.some (.builtin t9),.some (.bool true)]⟩⟩
def o86(P:Params):Obj:=⟨.type t15,.none,.fields ⟨[.ref 85,.ref 85,.ref 85]⟩,⟨[]⟩⟩
def o87(P:Params):Obj:=⟨.type t6,.none,.fields ⟨[.builtin t16,.ref 85]⟩,⟨[]⟩⟩
def o88(P:Params):Obj:=⟨.type t2,.none,.seq ⟨[.ref 24]⟩ 0,⟨[]⟩⟩
def o89(P:Params):Obj:=⟨.type t6,.none,.fields ⟨[.builtin t7,.type t8]⟩,⟨[]⟩⟩
def o90(P:Params):Obj:=⟨.type t0,.none,.dict ⟨[⟨kh P z62,.str z62 294,.str z63 187⟩,⟨kh P z64,.str z64 296,.str z17 295⟩,⟨kh P z65,.str z65 298,.int 14 297⟩,⟨kh P z66,.str z66 299,.ref 95⟩]⟩ 4,⟨[]⟩⟩
def o91(P:Params):Obj:=⟨.type t2,.none,.seq ⟨[]⟩ 0,⟨[]⟩⟩
def o92(P:Params):Obj:=⟨.none,.none,.fields ⟨[]⟩,⟨[]⟩⟩
def o93(P:Params):Obj:=⟨.type t3,.none,.fields ⟨[.str z17 289,.str z17 290,.str z9 291,.int 14 0,.int 0 0,.int 0 0,.int 0 0,.int 0 0,.ref 91,.bool false,.int 181 0,.ref 92,.none,.none,.none,.none,.int 292 0,.int 14 0,.str z9 293]⟩,⟨[]⟩⟩
def o94(P:Params):Obj:=⟨.type t4,.none,.plain,⟨[.some (.ref 93),.some (.ref 3),.some (.ref 90),.none,.some (.str z63 187),.none,.some (.ref 0)]⟩⟩
def o95(P:Params):Obj:=⟨.type t2,.none,.seq ⟨[]⟩ 0,⟨[]⟩⟩
def o96(P:Params):Obj:=⟨.type t0,.none,.dict ⟨[⟨kh P z62,.str z62 294,.str z63 187⟩,⟨kh P z65,.str z65 298,.int 14 297⟩,⟨kh P z66,.str z66 299,.ref 95⟩,⟨kh P z2,.str z2 300,.none⟩]⟩ 2,⟨[]⟩⟩
def o97(P:Params):Obj:=⟨.type t8,.none,.cls ⟨z17,[.ref 24],[.ref 97,.ref 24,.type t5,.type t10,.type t11,.type t12],96,z17,true,[],[],false,.none,false⟩,⟨[.some (.ref 88),.none,.some (.str z17 287),.some (.str z17 295),.some (.builtin t9),.some (.bool true)]⟩⟩
def o98(P:Params):Obj:=⟨.type t15,.none,.fields ⟨[.ref 97,.ref 97,.ref 97]⟩,⟨[]⟩⟩
def o99(P:Params):Obj:=⟨.type t6,.none,.fields ⟨[.builtin t16,.ref 97]⟩,⟨[]⟩⟩
def o100(P:Params):Obj:=⟨.type t2,.none,.seq ⟨[.ref 24]⟩ 0,⟨[]⟩⟩
def U4(P:Params):Obj:=⟨.type t6,.none,.fields ⟨[.builtin t7,.type t8]⟩,⟨[]⟩⟩
def UU(P:Params):Obj:=⟨.type t0,.none,.dict ⟨[⟨kh P z62,.str z62 310,.str z63 187⟩,⟨kh P z64,.str z64 312,.str z18 311⟩,⟨kh P z65,.str z65 314,.int 16 313⟩,⟨kh P z66,.str z66 315,.ref 107⟩]⟩ 4,⟨[]⟩⟩
def Vo(P:Params):Obj:=⟨.type t2,.none,.seq ⟨[]⟩ 0,⟨[]⟩⟩
def VD(P:Params):Obj:=⟨.none,.none,.fields ⟨[]⟩,⟨[]⟩⟩
def Vl(P:Params):Obj:=⟨.type t3,.none,.fields ⟨[.str z18 305,.str z18 306,.str z9 307,.int 16 0,.int 0 0,.int 0 0,.int 0 0,.int 0 0,.ref 103,.bool false,.int 181 0,.ref 104,.none,.none,.none,.none,.int 308 0,.int 16 0,.str z9 309]⟩,⟨[]⟩⟩
def Uk(P:Params):Obj:=⟨.type t4,.none,.plain,⟨[.some (.ref 105),.some (.ref 3),.some (.ref 102),.none,.some (.str z63 187),.none,.some (.ref 0)]⟩⟩
def NP(P:Params):Obj:=⟨.type t2,.none,.seq ⟨[]⟩ 0,⟨[]⟩⟩
def Qa(P:Params):Obj:=⟨.type t0,.none,.dict ⟨[⟨kh P z62,.str z62 310,.str z63 187⟩,⟨kh P z65,.str z65 314,.int 16 313⟩,⟨kh P z66,.str z66 315,.ref 107⟩,⟨kh P z2,.str z2 316,.none⟩]⟩ 2,⟨[]⟩⟩
def Rf(P:Params):Obj:=⟨.type t8,.none,.cls ⟨z18,[.ref 24],[.ref 109,.ref 24,.type t5,.type t10,.type t11,.type t12],108,z18,true,[],[],false,.none,false⟩,⟨[.some (.ref 100),.none,.some (.str z18 303),.some (.str z18 311),.some (.builtin t9),.some (.bool true)]⟩⟩
def Ue(P:Params):Obj:=⟨.type t15,.none,.fields ⟨[.ref 109,.ref 109,.ref 109]⟩,⟨[]⟩⟩
def o111(P:Params):Obj:=⟨.type t6,.none,.fields ⟨[.builtin t16,.ref 109]⟩,⟨[]⟩⟩
def Ti(P:Params):Obj:=⟨.type t2,.none,.seq ⟨[.ref 24]⟩ 0,⟨[]⟩⟩
def U3(P:Params):Obj:=⟨.type t6,.none,.fields ⟨[.builtin t7,.type t8]⟩,⟨[]⟩⟩
def Vh(P:Params):Obj:=⟨.type t0,.none,.dict ⟨[⟨kh P z62,.str z62 326,.str z63 187⟩,⟨kh P z64,.str z64 328,.str z19 327⟩,⟨kh P z65,.str z65 330,.int 18 329⟩,⟨kh P z66,.str z66 331,.ref 119⟩]⟩ 4,⟨[]⟩⟩
def U9(P:Params):Obj:=⟨.type t2,.none,.seq ⟨[]⟩ 0,⟨[]⟩⟩
def Vb(P:Params):Obj:=⟨.none,.none,.fields ⟨[]⟩,⟨[]⟩⟩
def Vp(P:Params):Obj:=⟨.type t3,.none,.fields ⟨[.str z19 321,.str z19 322,.str z9 323,.int 18 0,.int 0 0,.int 0 0,.int 0 0,.int 0 0,.ref 115,.bool false,.int 181 0,.ref 116,.none,.none,.none,.none,.int 324 0,.int 18 0,.str z9 325]⟩,⟨[]⟩⟩
def Vz(P:Params):Obj:=⟨.type t4,.none,.plain,⟨[.some (.ref 117),.some (.ref 3),.some (.ref 114),.none,.some (.str z63 187),.none,.some (.ref 0)]⟩⟩
def Qg(P:Params):Obj:=⟨.type t2,.none,.seq ⟨[]⟩ 0,⟨[]⟩⟩
def OX(P:Params):Obj:=⟨.type t0,.none,.dict ⟨[⟨kh P z62,.str z62 326,.str z63 187⟩,⟨kh P z65,.str z65 330,.int 18 329⟩,⟨kh P z66,.str z66 331,.ref 119⟩,⟨kh P z2,.str z2 332,.none⟩]⟩ 2,⟨[]⟩⟩
def Ql(P:Params):Obj:=⟨.type t8,.none,.cls ⟨z19,[.ref 24],[.ref 121,.ref 24,.type t5,.type t10,.type t11,.type t12],120,z19,true,[],[],false,.none,false⟩,⟨[.some (.ref 112),.none,.some (.str z19 319),.some (.str z19 327),.some (.builtin t9),.some (.bool true)]⟩⟩
def UO(P:Params):Obj:=⟨.type t15,.none,.fields ⟨[.ref 121,.ref 121,.ref 121]⟩,⟨[]⟩⟩
def Ux(P:Params):Obj:=⟨.type t6,.none,.fields ⟨[.builtin t16,.ref 121]⟩,⟨[]⟩⟩
def Lg(P:Params):Obj:=⟨.type t2,.none,.seq ⟨[]⟩ 0,⟨[]⟩⟩
def Vr(P:Params):Obj:=⟨.none,.none,.fields ⟨[]⟩,⟨[]⟩⟩
def Nx(P:Params):Obj:=⟨.type t2,.none,.seq ⟨[.str z68 340,.str z69 341]⟩ 0,⟨[]⟩⟩
def MD(P:Params):Obj:=⟨.type t2,.none,.seq ⟨[]⟩ 0,⟨[]⟩⟩
def RQ(P:Params):Obj:=⟨.none,.none,.func ⟨z20,z20,L2.aH (tt 11),.stmts (L2.aF (tt 11)),L2.aj (tt 11),0,[],.none,.none,.none,.none,.none,.none,.none,0⟩,⟨[]⟩⟩
def Rq(P:Params):Obj:=⟨.type t3,.none,.fields ⟨[.str z20 337,.str z20 338,.str z9 339,.int 21 0,.int 1 0,.int 0 0,.int 0 0,.int 3 0,.ref 124,.bool true,.int 181 0,.ref 125,.none,.ref 126,.ref 127,.ref 128,.int 342 0,.int 21 0,.str z9 343]⟩,⟨[]⟩⟩
def Tc(P:Params):Obj:=⟨.type t17,.none,.func ⟨z20,z20,L2.aH (tt 11),.stmts (L2.aF (tt 11)),L2.aj (tt 11),3,[],.none,.none,.none,.str z70 335,.none,.ref 129,.none,0⟩,⟨[]⟩⟩
def Qd(P:Params):Obj:=⟨.type t2,.none,.seq ⟨[]⟩ 0,⟨[]⟩⟩
def Vs(P:Params):Obj:=⟨.none,.none,.fields ⟨[]⟩,⟨[]⟩⟩
def OV(P:Params):Obj:=⟨.type t2,.none,.seq ⟨[.str z71 348,.str z68 349]⟩ 0,⟨[]⟩⟩
def Ss(P:Params):Obj:=⟨.type t2,.none,.seq ⟨[]⟩ 0,⟨[]⟩⟩
def Tg(P:Params):Obj:=⟨.none,.none,.func ⟨z21,z21,L2.aH (tt 12),.stmts (L2.aF (tt 12)),L2.aj (tt 12),0,[],.none,.none,.none,.none,.none,.none,.none,0⟩,⟨[]⟩⟩
def Mj(P:Params):Obj:=⟨.type t3,.none,.fields ⟨[.str z21 345,.str z21 346,.str z9 347,.int 30 0,.int 2 0,.int 0 0,.int 0 0,.int 3 0,.ref 131,.bool true,.int 181 0,.ref 132,.none,.ref 133,.ref 134,.ref 135,.int 350 0,.int 30 0,.str z9 351]⟩,⟨[]⟩⟩
def Tj(P:Params):Obj:=⟨.type t17,.none,.func ⟨z21,z21,L2.aH (tt 12),.stmts (L2.aF (tt 12)),L2.aj (tt 12),3,[],.none,.none,.none,.str z70 335,.none,.ref 136,.none,0⟩,⟨[]⟩⟩
def MF(P:Params):Obj:=⟨.type t2,.none,.seq ⟨[]⟩ 0,⟨[]⟩⟩
def UC(P:Params):Obj:=⟨.none,.none,.fields ⟨[]⟩,⟨[]⟩⟩
def Rb(P:Params):Obj:=⟨.type t2,.none,.seq ⟨[.str z72 356,.str z68 357,.str z73 358,.str z74 359,.str z75 360]⟩ 0,⟨[]⟩⟩
def Q7(P:Params):Obj:=⟨.type t2,.none,.seq ⟨[]⟩ 0,⟨[]⟩⟩
def Rv(P:Params):Obj:=⟨.none,.none,.func ⟨z22,z22,L2.aH (tt 13),.stmts (L2.aF (tt 13)),L2.aj (tt 13),0,[],.none,.none,.none,.none,.none,.none,.none,0⟩,⟨[]⟩⟩
def Lw(P:Params):Obj:=⟨.type t3,.none,.fields ⟨[.str z22 353,.str z22 354,.str z9 355,.int 34 0,.int 2 0,.int 0 0,.int 0 0,.int 3 0,.ref 138,.bool true,.int 181 0,.ref 139,.none,.ref 140,.ref 141,.ref 142,.int 361 0,.int 34 0,.str z9 362]⟩,⟨[]⟩⟩
def Ru(P:Params):Obj:=⟨.type t17,.none,.func ⟨z22,z22,L2.aH (tt 13),.stmts (L2.aF (tt 13)),L2.aj (tt 13),3,[],.none,.none,.none,.str z70 335,.none,.ref 143,.none,0⟩,⟨[]⟩⟩
def Mt(P:Params):Obj:=⟨.type t2,.none,.seq ⟨[]⟩ 0,⟨[]⟩⟩
def UN(P:Params):Obj:=⟨.none,.none,.fields ⟨[]⟩,⟨[]⟩⟩
def SR(P:Params):Obj:=⟨.type t2,.none,.seq ⟨[.str z71 367,.str z76 368,.str z77 369]⟩ 0,⟨[]⟩⟩
def QK(P:Params):Obj:=⟨.type t2,.none,.seq ⟨[]⟩ 0,⟨[]⟩⟩
def Qt(P:Params):Obj:=⟨.none,.none,.func ⟨z23,z23,L2.aH (tt 14),.stmts (L2.aF (tt 14)),L2.aj (tt 14),0,[],.none,.none,.none,.none,.none,.none,.none,0⟩,⟨[]⟩⟩
def Tp(P:Params):Obj:=⟨.type t3,.none,.fields ⟨[.str z23 364,.str z23 365,.str z9 366,.int 44 0,.int 3 0,.int 0 0,.int 0 0,.int 3 0,.ref 145,.bool true,.int 181 0,.ref 146,.none,.ref 147,.ref 148,.ref 149,.int 370 0,.int 44 0,.str z9 371]⟩,⟨[]⟩⟩
def RX(P:Params):Obj:=⟨.type t17,.none,.func ⟨z23,z23,L2.aH (tt 14),.stmts (L2.aF (tt 14)),L2.aj (tt 14),3,[],.none,.none,.none,.str z70 335,.none,.ref 150,.none,0⟩,⟨[]⟩⟩
def TQ(P:Params):Obj:=⟨.type t2,.none,.seq ⟨[]⟩ 0,⟨[]⟩⟩
def UY(P:Params):Obj:=⟨.none,.none,.fields ⟨[]⟩,⟨[]⟩⟩
def Q8(P:Params):Obj:=⟨.type t2,.none,.seq ⟨[.str z78 380,.str z79 381]⟩ 0,⟨[]⟩⟩
def Lj(P:Params):Obj:=⟨.type t2,.none,.seq ⟨[]⟩ 0,⟨[]⟩⟩
def Qu(P:Params):Obj:=⟨.none,.none,.func ⟨z25,z25,L2.aH (tt 17),.stmts (L2.aF (tt 17)),L2.aj (tt 17),0,[],.none,.none,.none,.none,.none,.none,.none,0⟩,⟨[]⟩⟩
def Rk(P:Params):Obj:=⟨.type t3,.none,.fields ⟨[.str z25 377,.str z25 378,.str z9 379,.int 52 0,.int 1 0,.int 0 0,.int 0 0,.int 3 0,.ref 152,.bool true,.int 181 0,.ref 153,.none,.ref 154,.ref 155,.ref 156,.int 382 0,.int 52 0,.str z9 383]⟩,⟨[]⟩⟩
def O9(P:Params):Obj:=⟨.type t17,.none,.func ⟨z25,z25,L2.aH (tt 17),.stmts (L2.aF (tt 17)),L2.aj (tt 17),3,[],.none,.none,.none,.str z80 375,.none,.ref 157,.none,0⟩,⟨[]⟩⟩
def OL(P:Params):Obj:=⟨.type t2,.none,.seq ⟨[]⟩ 0,⟨[]⟩⟩
def Ud(P:Params):Obj:=⟨.none,.none,.fields ⟨[]⟩,⟨[]⟩⟩
def OB(P:Params):Obj:=⟨.type t2,.none,.seq ⟨[.str z71 388,.str z76 389,.str z77 390,.str z81 391,.str z82 392,.str z75 393,.str z83 394,.str z84 395,.str z85 396]⟩ 0,⟨[]⟩⟩
def QJ(P:Params):Obj:=⟨.type t2,.none,.seq ⟨[]⟩ 0,⟨[]⟩⟩
def LQ(P:Params):Obj:=⟨.none,.none,.func ⟨z26,z26,L2.aH (tt 18),.stmts (L2.aF (tt 18)),L2.aj (tt 18),0,[],.none,.none,.none,.none,.none,.none,.none,0⟩,⟨[]⟩⟩
def Lp(P:Params):Obj:=⟨.type t3,.none,.fields ⟨[.str z26 385,.str z26 386,.str z9 387,.int 57 0,.int 3 0,.int 0 0,.int 0 0,.int 3 0,.ref 159,.bool true,.int 181 0,.ref 160,.none,.ref 161,.ref 162,.ref 163,.int 397 0,.int 57 0,.str z9 398]⟩,⟨[]⟩⟩
def SX(P:Params):Obj:=⟨.type t17,.none,.func ⟨z26,z26,L2.aH (tt 18),.stmts (L2.aF (tt 18)),L2.aj (tt 18),3,[],.none,.none,.none,.str z80 375,.none,.ref 164,.none,0⟩,⟨[]⟩⟩
def QX(P:Params):Obj:=⟨.type t2,.none,.seq ⟨[]⟩ 0,⟨[]⟩⟩
def Uh(P:Params):Obj:=⟨.none,.none,.fields ⟨[]⟩,⟨[]⟩⟩
def MJ(P:Params):Obj:=⟨.none,.none,.func ⟨z27,z27,L2.aH (tt 19),.stmts (L2.aF (tt 19)),L2.aj (tt 19),0,[],.none,.none,.none,.none,.none,.none,.none,0⟩,⟨[]⟩⟩
def LZ(P:Params):Obj:=⟨.type t3,.none,.fields ⟨[.str z27 400,.str z27 401,.str z9 402,.int 67 0,.int 2 0,.int 0 0,.int 0 0,.int 3 0,.ref 166,.bool true,.int 181 0,.ref 167,.none,.none,.none,.ref 168,.int 403 0,.int 67 0,.str z9 404]⟩,⟨[]⟩⟩
def Qz(P:Params):Obj:=⟨.type t17,.none,.func ⟨z27,z27,L2.aH (tt 19),.stmts (L2.aF (tt 19)),L2.aj (tt 19),3,[],.none,.none,.none,.str z80 375,.none,.ref 169,.none,0⟩,⟨[]⟩⟩
def Sw(P:Params):Obj:=⟨.type t2,.none,.seq ⟨[]⟩ 0,⟨[]⟩⟩
def Vm(P:Params):Obj:=⟨.none,.none,.fields ⟨[]⟩,⟨[]⟩⟩
def Pq(P:Params):Obj:=⟨.type t2,.none,.seq ⟨[.str z71 409,.str z76 410,.str z77 411,.str z86 412,.str z87 413,.str z75 414]⟩ 0,⟨[]⟩⟩
def Oo(P:Params):Obj:=⟨.type t2,.none,.seq ⟨[]⟩ 0,⟨[]⟩⟩
def QV(P:Params):Obj:=⟨.none,.none,.func ⟨z28,z28,L2.aH (tt 20),.stmts (L2.aF (tt 20)),L2.aj (tt 20),0,[],.none,.none,.none,.none,.none,.none,.none,0⟩,⟨[]⟩⟩
def TV(P:Params):Obj:=⟨.type t3,.none,.fields ⟨[.str z28 406,.str z28 407,.str z9 408,.int 72 0,.int 3 0,.int 0 0,.int 0 0,.int 3 0,.ref 171,.bool true,.int 181 0,.ref 172,.none,.ref 173,.ref 174,.ref 175,.int 415 0,.int 72 0,.str z9 416]⟩,⟨[]⟩⟩
def O7(P:Params):Obj:=⟨.type t17,.none,.func ⟨z28,z28,L2.aH (tt 20),.stmts (L2.aF (tt 20)),L2.aj (tt 20),3,[],.none,.none,.none,.str z80 375,.none,.ref 176,.none,0⟩,⟨[]⟩⟩
def MV(P:Params):Obj:=⟨.type t2,.none,.seq ⟨[]⟩ 0,⟨[]⟩⟩
def Vu(P:Params):Obj:=⟨.none,.none,.fields ⟨[]⟩,⟨[]⟩⟩
def LR(P:Params):Obj:=⟨.none,.none,.func ⟨z29,z29,L2.aH (tt 21),.stmts (L2.aF (tt 21)),L2.aj (tt 21),0,[],.none,.none,.none,.none,.none,.none,.none,0⟩,⟨[]⟩⟩
def PV(P:Params):Obj:=⟨.type t3,.none,.fields ⟨[.str z29 418,.str z29 419,.str z9 420,.int 80 0,.int 2 0,.int 0 0,.int 0 0,.int 3 0,.ref 178,.bool true,.int 181 0,.ref 179,.none,.none,.none,.ref 180,.int 421 0,.int 80 0,.str z9 422]⟩,⟨[]⟩⟩
def Lb(P:Params):Obj:=⟨.type t17,.none,.func ⟨z29,z29,L2.aH (tt 21),.stmts (L2.aF (tt 21)),L2.aj (tt 21),3,[],.none,.none,.none,.str z80 375,.none,.ref 181,.none,0⟩,⟨[]⟩⟩
def Qo(P:Params):Obj:=⟨.type t2,.none,.seq ⟨[]⟩ 0,⟨[]⟩⟩
def Vq(P:Params):Obj:=⟨.none,.none,.fields ⟨[]⟩,⟨[]⟩⟩
def Nf(P:Params):Obj:=⟨.none,.none,.func ⟨z30,z30,L2.aH (tt 22),.stmts (L2.aF (tt 22)),L2.aj (tt 22),0,[],.none,.none,.none,.none,.none,.none,.none,0⟩,⟨[]⟩⟩
def Lf(P:Params):Obj:=⟨.type t3,.none,.fields ⟨[.str z30 424,.str z30 425,.str z9 426,.int 84 0,.int 2 0,.int 0 0,.int 0 0,.int 3 0,.ref 183,.bool true,.int 181 0,.ref 184,.none,.none,.none,.ref 185,.int 427 0,.int 84 0,.str z9 428]⟩,⟨[]⟩⟩
def Sg(P:Params):Obj:=⟨.type t17,.none,.func ⟨z30,z30,L2.aH (tt 22),.stmts (L2.aF (tt 22)),L2.aj (tt 22),3,[],.none,.none,.none,.str z80 375,.none,.ref 186,.none,0⟩,⟨[]⟩⟩
def Nt(P:Params):Obj:=⟨.type t2,.none,.seq ⟨[]⟩ 0,⟨[]⟩⟩
def Ur(P:Params):Obj:=⟨.none,.none,.fields ⟨[]⟩,⟨[]⟩⟩
def M7(P:Params):Obj:=⟨.type t2,.none,.seq ⟨[.str z68 437,.str z88 438]⟩ 0,⟨[]⟩⟩
def Qw(P:Params):Obj:=⟨.type t2,.none,.seq ⟨[]⟩ 0,⟨[]⟩⟩
def TY(P:Params):Obj:=⟨.none,.none,.func ⟨z32,z32,L2.aH (tt 25),.stmts (L2.aF (tt 25)),L2.aj (tt 25),0,[],.none,.none,.none,.none,.none,.none,.none,0⟩,⟨[]⟩⟩
def RV(P:Params):Obj:=⟨.type t3,.none,.fields ⟨[.str z32 434,.str z32 435,.str z9 436,.int 89 0,.int 1 0,.int 0 0,.int 0 0,.int 3 0,.ref 188,.bool true,.int 181 0,.ref 189,.none,.ref 190,.ref 191,.ref 192,.int 439 0,.int 89 0,.str z9 440]⟩,⟨[]⟩⟩
def Tn(P:Params):Obj:=⟨.type t17,.none,.func ⟨z32,z32,L2.aH (tt 25),.stmts (L2.aF (tt 25)),L2.aj (tt 25),3,[],.none,.none,.none,.str z89 430,.none,.ref 193,.none,0⟩,⟨[]⟩⟩
def MB(P:Params):Obj:=⟨.type t2,.none,.seq ⟨[]⟩ 0,⟨[]⟩⟩
def U5(P:Params):Obj:=⟨.none,.none,.fields ⟨[]⟩,⟨[]⟩⟩
def Nu(P:Params):Obj:=⟨.type t2,.none,.seq ⟨[.str z90 445,.str z91 446]⟩ 0,⟨[]⟩⟩
def QY(P:Params):Obj:=⟨.type t2,.none,.seq ⟨[]⟩ 0,⟨[]⟩⟩
def RL(P:Params):Obj:=⟨.none,.none,.func ⟨z33,z33,L2.aH (tt 26),.stmts (L2.aF (tt 26)),L2.aj (tt 26),0,[],.none,.none,.none,.none,.none,.none,.none,0⟩,⟨[]⟩⟩
def o200(P:Params):Obj:=⟨.type t3,.none,.fields ⟨[.str z33 442,.str z33 443,.str z9 444,.int 94 0,.int 2 0,.int 0 0,.int 0 0,.int 3 0,.ref 195,.bool true,.int 181 0,.ref 196,.none,.ref 197,.ref 198,.ref 199,.int 447 0,.int 94 0,.str z9 448]⟩,⟨[]⟩⟩
def Ln(P:Params):Obj:=⟨.type t17,.none,.func ⟨z33,z33,L2.aH (tt 26),.stmts (L2.aF (tt 26)),L2.aj (tt 26),3,[],.none,.none,.none,.str z89 430,.none,.ref 200,.none,0⟩,⟨[]⟩⟩
def Pk(P:Params):Obj:=⟨.type t2,.none,.seq ⟨[]⟩ 0,⟨[]⟩⟩
def Uw(P:Params):Obj:=⟨.none,.none,.fields ⟨[]⟩,⟨[]⟩⟩
def Qj(P:Params):Obj:=⟨.none,.none,.func ⟨z34,z34,L2.aH (tt 27),.stmts (L2.aF (tt 27)),L2.aj (tt 27),0,[],.none,.none,.none,.none,.none,.none,.none,0⟩,⟨[]⟩⟩
def Li(P:Params):Obj:=⟨.type t3,.none,.fields ⟨[.str z34 450,.str z34 451,.str z9 452,.int 96 0,.int 2 0,.int 0 0,.int 0 0,.int 3 0,.ref 202,.bool true,.int 181 0,.ref 203,.none,.none,.none,.ref 204,.int 453 0,.int 96 0,.str z9 454]⟩,⟨[]⟩⟩
def QS(P:Params):Obj:=⟨.type t17,.none,.func ⟨z34,z34,L2.aH (tt 27),.stmts (L2.aF (tt 27)),L2.aj (tt 27),3,[],.none,.none,.none,.str z89 430,.none,.ref 205,.none,0⟩,⟨[]⟩⟩
def MP(P:Params):Obj:=⟨.type t2,.none,.seq ⟨[]⟩ 0,⟨[]⟩⟩
def Va(P:Params):Obj:=⟨.none,.none,.fields ⟨[]⟩,⟨[]⟩⟩
def N7(P:Params):Obj:=⟨.type t2,.none,.seq ⟨[.str z92 459,.str z68 460,.str z93 461]⟩ 0,⟨[]⟩⟩
def Pg(P:Params):Obj:=⟨.type t2,.none,.seq ⟨[]⟩ 0,⟨[]⟩⟩
def Ra(P:Params):Obj:=⟨.none,.none,.func ⟨z35,z35,L2.aH (tt 28),.stmts (L2.aF (tt 28)),L2.aj (tt 28),0,[],.none,.none,.none,.none,.none,.none,.none,0⟩,⟨[]⟩⟩
def LV(P:Params):Obj:=⟨.type t3,.none,.fields ⟨[.str z35 456,.str z35 457,.str z9 458,.int 98 0,.int 2 0,.int 0 0,.int 0 0,.int 3 0,.ref 207,.bool true,.int 181 0,.ref 208,.none,.ref 209,.ref 210,.ref 211,.int 462 0,.int 98 0,.str z9 463]⟩,⟨[]⟩⟩
def Nj(P:Params):Obj:=⟨.type t17,.none,.func ⟨z35,z35,L2.aH (tt 28),.stmts (L2.aF (tt 28)),L2.aj (tt 28),3,[],.none,.none,.none,.str z89 430,.none,.ref 212,.none,0⟩,⟨[]⟩⟩
def Qm(P:Params):Obj:=⟨.type t2,.none,.seq ⟨[]⟩ 0,⟨[]⟩⟩
def U7(P:Params):Obj:=⟨.none,.none,.fields ⟨[]⟩,⟨[]⟩⟩
def Pu(P:Params):Obj:=⟨.type t2,.none,.seq ⟨[.str z92 468,.str z68 469,.str z72 470,.str z93 471,.str z94 472]⟩ 0,⟨[]⟩⟩
def Qs(P:Params):Obj:=⟨.type t2,.none,.seq ⟨[]⟩ 0,⟨[]⟩⟩
def Mw(P:Params):Obj:=⟨.none,.none,.func ⟨z36,z36,L2.aH (tt 29),.stmts (L2.aF (tt 29)),L2.aj (tt 29),0,[],.none,.none,.none,.none,.none,.none,.none,0⟩,⟨[]⟩⟩
def Ob(P:Params):Obj:=⟨.type t3,.none,.fields ⟨[.str z36 465,.str z36 466,.str z9 467,.int 101 0,.int 4 0,.int 0 0,.int 0 0,.int 3 0,.ref 214,.bool true,.int 181 0,.ref 215,.none,.ref 216,.ref 217,.ref 218,.int 473 0,.int 101 0,.str z9 474]⟩,⟨[]⟩⟩
def O8(P:Params):Obj:=⟨.type t17,.none,.func ⟨z36,z36,L2.aH (tt 29),.stmts (L2.aF (tt 29)),L2.aj (tt 29),3,[],.none,.none,.none,.str z89 430,.none,.ref 219,.none,0⟩,⟨[]⟩⟩
def Nb(P:Params):Obj:=⟨.type t2,.none,.seq ⟨[]⟩ 0,⟨[]⟩⟩
def Uv(P:Params):Obj:=⟨.none,.none,.fields ⟨[]⟩,⟨[]⟩⟩
def SM(P:Params):Obj:=⟨.none,.none,.func ⟨z37,z37,L2.aH (tt 30),.stmts (L2.aF (tt 30)),L2.aj (tt 30),0,[],.none,.none,.none,.none,.none,.none,.none,0⟩,⟨[]⟩⟩
def Tq(P:Params):Obj:=⟨.type t3,.none,.fields ⟨[.str z37 476,.str z37 477,.str z9 478,.int 104 0,.int 2 0,.int 0 0,.int 0 0,.int 3 0,.ref 221,.bool true,.int 181 0,.ref 222,.none,.none,.none,.ref 223,.int 479 0,.int 104 0,.str z9 480]⟩,⟨[]⟩⟩
def RM(P:Params):Obj:=⟨.type t17,.none,.func ⟨z37,z37,L2.aH (tt 30),.stmts (L2.aF (tt 30)),L2.aj (tt 30),3,[],.none,.none,.none,.str z89 430,.none,.ref 224,.none,0⟩,⟨[]⟩⟩
def Ld(P:Params):Obj:=⟨.type t2,.none,.seq ⟨[]⟩ 0,⟨[]⟩⟩
def Ut(P:Params):Obj:=⟨.none,.none,.fields ⟨[]⟩,⟨[]⟩⟩
def QG(P:Params):Obj:=⟨.type t2,.none,.seq ⟨[.str z71 485,.str z76 486,.str z77 487]⟩ 0,⟨[]⟩⟩
def Mv(P:Params):Obj:=⟨.type t2,.none,.seq ⟨[]⟩ 0,⟨[]⟩⟩
def Sd(P:Params):Obj:=⟨.none,.none,.func ⟨z38,z38,L2.aH (tt 31),.stmts (L2.aF (tt 31)),L2.aj (tt 31),0,[],.none,.none,.none,.none,.none,.none,.none,0⟩,⟨[]⟩⟩
def Mh(P:Params):Obj:=⟨.type t3,.none,.fields ⟨[.str z38 482,.str z38 483,.str z9 484,.int 122 0,.int 3 0,.int 0 0,.int 0 0,.int 3 0,.ref 226,.bool true,.int 181 0,.ref 227,.none,.ref 228,.ref 229,.ref 230,.int 488 0,.int 122 0,.str z9 489]⟩,⟨[]⟩⟩
def O2(P:Params):Obj:=⟨.type t17,.none,.func ⟨z38,z38,L2.aH (tt 31),.stmts (L2.aF (tt 31)),L2.aj (tt 31),3,[],.none,.none,.none,.str z89 430,.none,.ref 231,.none,0⟩,⟨[]⟩⟩
def QN(P:Params):Obj:=⟨.type t2,.none,.seq ⟨[]⟩ 0,⟨[]⟩⟩
def UZ(P:Params):Obj:=⟨.none,.none,.fields ⟨[]⟩,⟨[]⟩⟩
def Qc(P:Params):Obj:=⟨.none,.none,.func ⟨z39,z39,L2.aH (tt 33),.stmts (L2.aF (tt 33)),L2.aj (tt 33),0,[],.none,.none,.none,.none,.none,.none,.none,0⟩,⟨[]⟩⟩
def RW(P:Params):Obj:=⟨.type t3,.none,.fields ⟨[.str z39 493,.str z39 494,.str z9 495,.int 125 0,.int 2 0,.int 0 0,.int 0 0,.int 3 0,.ref 233,.bool true,.int 181 0,.ref 234,.none,.none,.none,.ref 235,.int 496 0,.int 125 0,.str z9 497]⟩,⟨[]⟩⟩
def K9(P:Params):Obj:=⟨.type t17,.none,.func ⟨z39,z39,L2.aH (tt 33),.stmts (L2.aF (tt 33)),L2.aj (tt 33),3,[],.none,.none,.none,.str z95 491,.none,.ref 236,.none,0⟩,⟨[]⟩⟩
def OJ(P:Params):Obj:=⟨.type t2,.none,.seq ⟨[]⟩ 0,⟨[]⟩⟩
def Ul(P:Params):Obj:=⟨.none,.none,.fields ⟨[]⟩,⟨[]⟩⟩
def Pj(P:Params):Obj:=⟨.type t2,.none,.seq ⟨[.str z96 502,.str z71 503,.str z91 504,.str z81 505]⟩ 0,⟨[]⟩⟩
def Qq(P:Params):Obj:=⟨.type t2,.none,.seq ⟨[]⟩ 0,⟨[]⟩⟩
def QZ(P:Params):Obj:=⟨.none,.none,.func ⟨z40,z40,L2.aH (tt 34),.stmts (L2.aF (tt 34)),L2.aj (tt 34),0,[],.none,.none,.none,.none,.none,.none,.none,0⟩,⟨[]⟩⟩
def Oh(P:Params):Obj:=⟨.type t3,.none,.fields ⟨[.str z40 499,.str z40 500,.str z9 501,.int 133 0,.int 1 0,.int 0 0,.int 0 0,.int 3 0,.ref 238,.bool true,.int 181 0,.ref 239,.none,.ref 240,.ref 241,.ref 242,.int 506 0,.int 133 0,.str z9 507]⟩,⟨[]⟩⟩
def SQ(P:Params):Obj:=⟨.type t17,.none,.func ⟨z40,z40,L2.aH (tt 34),.stmts (L2.aF (tt 34)),L2.aj (tt 34),3,[],.none,.none,.none,.str z95 491,.none,.ref 243,.none,0⟩,⟨[]⟩⟩
def Qy(P:Params):Obj:=⟨.type t2,.none,.seq ⟨[]⟩ 0,⟨[]⟩⟩
def Um(P:Params):Obj:=⟨.none,.none,.fields ⟨[]⟩,⟨[]⟩⟩
def Rg(P:Params):Obj:=⟨.type t2,.none,.seq ⟨[.str z96 512,.str z97 513,.str z98 514]⟩ 0,⟨[]⟩⟩
def Tr(P:Params):Obj:=⟨.type t2,.none,.seq ⟨[]⟩ 0,⟨[]⟩⟩
def Tf(P:Params):Obj:=⟨.none,.none,.func ⟨z41,z41,L2.aH (tt 35),.stmts (L2.aF (tt 35)),L2.aj (tt 35),0,[],.none,.none,.none,.none,.none,.none,.none,0⟩,⟨[]⟩⟩
def PB(P:Params):Obj:=⟨.type t3,.none,.fields ⟨[.str z41 509,.str z41 510,.str z9 511,.int 138 0,.int 1 0,.int 0 0,.int 0 0,.int 3 0,.ref 245,.bool true,.int 181 0,.ref 246,.none,.ref 247,.ref 248,.ref 249,.int 515 0,.int 138 0,.str z9 516]⟩,⟨[]⟩⟩
def Qv(P:Params):Obj:=⟨.type t17,.none,.func ⟨z41,z41,L2.aH (tt 35),.stmts (L2.aF (tt 35)),L2.aj (tt 35),3,[],.none,.none,.none,.str z95 491,.none,.ref 250,.none,0⟩,⟨[]⟩⟩
def Ph(P:Params):Obj:=⟨.type t2,.none,.seq ⟨[]⟩ 0,⟨[]⟩⟩
def U6(P:Params):Obj:=⟨.none,.none,.fields ⟨[]⟩,⟨[]⟩⟩
def QB(P:Params):Obj:=⟨.type t2,.none,.seq ⟨[.str z99 523]⟩ 0,⟨[]⟩⟩
def Ls(P:Params):Obj:=⟨.type t2,.none,.seq ⟨[]⟩ 0,⟨[]⟩⟩
def ML(P:Params):Obj:=⟨.none,.none,.func ⟨z42,z42,L2.aH (tt 37),.stmts (L2.aF (tt 37)),L2.aj (tt 37),0,[],.none,.none,.none,.none,.none,.none,.none,0⟩,⟨[]⟩⟩
def Nh(P:Params):Obj:=⟨.type t3,.none,.fields ⟨[.str z42 520,.str z42 521,.str z9 522,.int 143 0,.int 1 0,.int 0 0,.int 0 0,.int 3 0,.ref 252,.bool true,.int 181 0,.ref 253,.none,.ref 254,.ref 255,.ref 256,.int 524 0,.int 143 0,.str z9 525]⟩,⟨[]⟩⟩
def Sx(P:Params):Obj:=⟨.type t17,.none,.func ⟨z42,z42,L2.aH (tt 37),.stmts (L2.aF (tt 37)),L2.aj (tt 37),3,[],.none,.none,.none,.str Oz 518,.none,.ref 257,.none,0⟩,⟨[]⟩⟩
def Mu(P:Params):Obj:=⟨.type t2,.none,.seq ⟨[]⟩ 0,⟨[]⟩⟩
def UG(P:Params):Obj:=⟨.none,.none,.fields ⟨[]⟩,⟨[]⟩⟩
def Mz(P:Params):Obj:=⟨.none,.none,.func ⟨z43,z43,L2.aH (tt 38),.stmts (L2.aF (tt 38)),L2.aj (tt 38),0,[],.none,.none,.none,.none,.none,.none,.none,0⟩,⟨[]⟩⟩
def Rj(P:Params):Obj:=⟨.type t3,.none,.fields ⟨[.str z43 527,.str z43 528,.str z9 529,.int 146 0,.int 3 0,.int 0 0,.int 0 0,.int 3 0,.ref 259,.bool true,.int 181 0,.ref 260,.none,.none,.none,.ref 261,.int 530 0,.int 146 0,.str z9 531]⟩,⟨[]⟩⟩
def NK(P:Params):Obj:=⟨.type t17,.none,.func ⟨z43,z43,L2.aH (tt 38),.stmts (L2.aF (tt 38)),L2.aj (tt 38),3,[],.none,.none,.none,.str Oz 518,.none,.ref 262,.none,0⟩,⟨[]⟩⟩
def R9(P:Params):Obj:=⟨.type t2,.none,.seq ⟨[]⟩ 0,⟨[]⟩⟩
def Uu(P:Params):Obj:=⟨.none,.none,.fields ⟨[]⟩,⟨[]⟩⟩
def R5(P:Params):Obj:=⟨.type t2,.none,.seq ⟨[.str z96 536,.str z78 537,.str z97 538,.str z98 539]⟩ 0,⟨[]⟩⟩
def SD(P:Params):Obj:=⟨.type t2,.none,.seq ⟨[]⟩ 0,⟨[]⟩⟩
def Rz(P:Params):Obj:=⟨.none,.none,.func ⟨z44,z44,L2.aH (tt 39),.stmts (L2.aF (tt 39)),L2.aj (tt 39),0,[],.none,.none,.none,.none,.none,.none,.none,0⟩,⟨[]⟩⟩
def QT(P:Params):Obj:=⟨.type t3,.none,.fields ⟨[.str z44 533,.str z44 534,.str z9 535,.int 150 0,.int 2 0,.int 0 0,.int 0 0,.int 3 0,.ref 264,.bool true,.int 181 0,.ref 265,.none,.ref 266,.ref 267,.ref 268,.int 540 0,.int 150 0,.str z9 541]⟩,⟨[]⟩⟩
def QF(P:Params):Obj:=⟨.type t17,.none,.func ⟨z44,z44,L2.aH (tt 39),.stmts (L2.aF (tt 39)),L2.aj (tt 39),3,[],.none,.none,.none,.str Oz 518,.none,.ref 269,.none,0⟩,⟨[]⟩⟩
def QC(P:Params):Obj:=⟨.type t2,.none,.seq ⟨[]⟩ 0,⟨[]⟩⟩
def Us(P:Params):Obj:=⟨.none,.none,.fields ⟨[]⟩,⟨[]⟩⟩
def PD(P:Params):Obj:=⟨.type t2,.none,.seq ⟨[.str Wn 548,.str Sv 549]⟩ 0,⟨[]⟩⟩
def PZ(P:Params):Obj:=⟨.type t2,.none,.seq ⟨[]⟩ 0,⟨[]⟩⟩
def PK(P:Params):Obj:=⟨.none,.none,.func ⟨z45,z45,L2.aH (tt 41),.stmts (L2.aF (tt 41)),L2.aj (tt 41),0,[],.none,.none,.none,.none,.none,.none,.none,0⟩,⟨[]⟩⟩
def O3(P:Params):Obj:=⟨.type t3,.none,.fields ⟨[.str z45 545,.str z45 546,.str z9 547,.int 156 0,.int 2 0,.int 0 0,.int 0 0,.int 3 0,.ref 271,.bool true,.int 181 0,.ref 272,.none,.ref 273,.ref 274,.ref 275,.int 550 0,.int 156 0,.str z9 551]⟩,⟨[]⟩⟩
def RT(P:Params):Obj:=⟨.type t17,.none,.func ⟨z45,z45,L2.aH (tt 41),.stmts (L2.aF (tt 41)),L2.aj (tt 41),3,[],.none,.none,.none,.str z1 543,.none,.ref 276,.none,0⟩,⟨[]⟩⟩
def R3(P:Params):Obj:=⟨.type t2,.none,.seq ⟨[]⟩ 0,⟨[]⟩⟩
def Uo(P:Params):Obj:=⟨.none,.none,.fields ⟨[]⟩,⟨[]⟩⟩
def Sy(P:Params):Obj:=⟨.type t2,.none,.seq ⟨[.str Qh 556,.str Sv 557,.str K4 558]⟩ 0,⟨[]⟩⟩
def NZ(P:Params):Obj:=⟨.type t2,.none,.seq ⟨[]⟩ 0,⟨[]⟩⟩
def QW(P:Params):Obj:=⟨.none,.none,.func ⟨z46,z46,L2.aH (tt 42),.stmts (L2.aF (tt 42)),L2.aj (tt 42),0,[],.none,.none,.none,.none,.none,.none,.none,0⟩,⟨[]⟩⟩
def Q5(P:Params):Obj:=⟨.type t3,.none,.fields ⟨[.str z46 553,.str z46 554,.str z9 555,.int 160 0,.int 2 0,.int 0 0,.int 0 0,.int 3 0,.ref 278,.bool true,.int 181 0,.ref 279,.none,.ref 280,.ref 281,.ref 282,.int 559 0,.int 160 0,.str z9 560]⟩,⟨[]⟩⟩
def RG(P:Params):Obj:=⟨.type t17,.none,.func ⟨z46,z46,L2.aH (tt 42),.stmts (L2.aF (tt 42)),L2.aj (tt 42),3,[],.none,.none,.none,.str z1 543,.none,.ref 283,.none,0⟩,⟨[]⟩⟩
def M4(P:Params):Obj:=⟨.type t2,.none,.seq ⟨[]⟩ 0,⟨[]⟩⟩
def UQ(P:Params):Obj:=⟨.none,.none,.fields ⟨[]⟩,⟨[]⟩⟩
def MG(P:Params):Obj:=⟨.type t2,.none,.seq ⟨[.str Qh 565]⟩ 0,⟨[]⟩⟩
def Ng(P:Params):Obj:=⟨.type t2,.none,.seq ⟨[]⟩ 0,⟨[]⟩⟩
def Ol(P:Params):Obj:=⟨.none,.none,.func ⟨z47,z47,L2.aH (tt 43),.stmts (L2.aF (tt 43)),L2.aj (tt 43),0,[],.none,.none,.none,.none,.none,.none,.none,0⟩,⟨[]⟩⟩
def La(P:Params):Obj:=⟨.type t3,.none,.fields ⟨[.str z47 562,.str z47 563,.str z9 564,.int 164 0,.int 1 0,.int 0 0,.int 0 0,.int 3 0,.ref 285,.bool true,.int 181 0,.ref 286,.none,.ref 287,.ref 288,.ref 289,.int 566 0,.int 164 0,.str z9 567]⟩,⟨[]⟩⟩
def QM(P:Params):Obj:=⟨.type t17,.none,.func ⟨z47,z47,L2.aH (tt 43),.stmts (L2.aF (tt 43)),L2.aj (tt 43),3,[],.none,.none,.none,.str z1 543,.none,.ref 290,.none,0⟩,⟨[]⟩⟩
def RJ(P:Params):Obj:=⟨.type t2,.none,.seq ⟨[]⟩ 0,⟨[]⟩⟩
def UL(P:Params):Obj:=⟨.none,.none,.fields ⟨[]⟩,⟨[]⟩⟩
def Qf(P:Params):Obj:=⟨.type t2,.none,.seq ⟨[.str Ka 572,.str K4 573]⟩ 0,⟨[]⟩⟩
def Mp(P:Params):Obj:=⟨.type t2,.none,.seq ⟨[]⟩ 0,⟨[]⟩⟩
def Mx(P:Params):Obj:=⟨.none,.none,.func ⟨z48,z48,L2.aH (tt 44),.stmts (L2.aF (tt 44)),L2.aj (tt 44),0,[],.none,.none,.none,.none,.none,.none,.none,0⟩,⟨[]⟩⟩
def Lz(P:Params):Obj:=⟨.type t3,.none,.fields ⟨[.str z48 569,.str z48 570,.str z9 571,.int 166 0,.int 2 0,.int 0 0,.int 0 0,.int 3 0,.ref 292,.bool true,.int 181 0,.ref 293,.none,.ref 294,.ref 295,.ref 296,.int 574 0,.int 166 0,.str z9 575]⟩,⟨[]⟩⟩
def SV(P:Params):Obj:=⟨.type t17,.none,.func ⟨z48,z48,L2.aH (tt 44),.stmts (L2.aF (tt 44)),L2.aj (tt 44),3,[],.none,.none,.none,.str z1 543,.none,.ref 297,.none,0⟩,⟨[]⟩⟩
def MH(P:Params):Obj:=⟨.type t2,.none,.seq ⟨[]⟩ 0,⟨[]⟩⟩
def o300(P:Params):Obj:=⟨.none,.none,.fields ⟨[]⟩,⟨[]⟩⟩
def NS(P:Params):Obj:=⟨.type t2,.none,.seq ⟨[.str Ka 580,.str Qh 581,.str Sv 582,.str Wc 583,.str Wh 584]⟩ 0,⟨[]⟩⟩
def Ov(P:Params):Obj:=⟨.type t2,.none,.seq ⟨[]⟩ 0,⟨[]⟩⟩
def Tt(P:Params):Obj:=⟨.none,.none,.func ⟨z49,z49,L2.aH (tt 45),.stmts (L2.aF (tt 45)),L2.aj (tt 45),0,[],.none,.none,.none,.none,.none,.none,.none,0⟩,⟨[]⟩⟩
def RZ(P:Params):Obj:=⟨.type t3,.none,.fields ⟨[.str z49 577,.str z49 578,.str z9 579,.int 170 0,.int 3 0,.int 0 0,.int 0 0,.int 3 0,.ref 299,.bool true,.int 181 0,.ref 300,.none,.ref 301,.ref 302,.ref 303,.int 585 0,.int 170 0,.str z9 586]⟩,⟨[]⟩⟩
def SW(P:Params):Obj:=⟨.type t17,.none,.func ⟨z49,z49,L2.aH (tt 45),.stmts (L2.aF (tt 45)),L2.aj (tt 45),3,[],.none,.none,.none,.str z1 543,.none,.ref 304,.none,0⟩,⟨[]⟩⟩
def O1(P:Params):Obj:=⟨.type t2,.none,.seq ⟨[]⟩ 0,⟨[]⟩⟩
def Vi(P:Params):Obj:=⟨.none,.none,.fields ⟨[]⟩,⟨[]⟩⟩
def Nv(P:Params):Obj:=⟨.none,.none,.func ⟨z50,z50,L2.aH (tt 46),.stmts (L2.aF (tt 46)),L2.aj (tt 46),0,[],.none,.none,.none,.none,.none,.none,.none,0⟩,⟨[]⟩⟩
def SJ(P:Params):Obj:=⟨.type t3,.none,.fields ⟨[.str z50 588,.str z50 589,.str z9 590,.int 176 0,.int 2 0,.int 0 0,.int 0 0,.int 3 0,.ref 306,.bool true,.int 181 0,.ref 307,.none,.none,.none,.ref 308,.int 591 0,.int 176 0,.str z9 592]⟩,⟨[]⟩⟩
def Pz(P:Params):Obj:=⟨.type t17,.none,.func ⟨z50,z50,L2.aH (tt 46),.stmts (L2.aF (tt 46)),L2.aj (tt 46),3,[],.none,.none,.none,.str z1 543,.none,.ref 309,.none,0⟩,⟨[]⟩⟩
def QH(P:Params):Obj:=⟨.type t2,.none,.seq ⟨[]⟩ 0,⟨[]⟩⟩
def UW(P:Params):Obj:=⟨.none,.none,.fields ⟨[]⟩,⟨[]⟩⟩
def RB(P:Params):Obj:=⟨.none,.none,.func ⟨z51,z51,L2.aH (tt 47),.stmts (L2.aF (tt 47)),L2.aj (tt 47),0,[],.none,.none,.none,.none,.none,.none,.none,0⟩,⟨[]⟩⟩
def Te(P:Params):Obj:=⟨.type t3,.none,.fields ⟨[.str z51 594,.str z51 595,.str z9 596,.int 184 0,.int 4 0,.int 0 0,.int 0 0,.int 3 0,.ref 311,.bool true,.int 181 0,.ref 312,.none,.none,.none,.ref 313,.int 597 0,.int 184 0,.str z9 598]⟩,⟨[]⟩⟩
def PX(P:Params):Obj:=⟨.type t17,.none,.func ⟨z51,z51,L2.aH (tt 47),.stmts (L2.aF (tt 47)),L2.aj (tt 47),3,[],.none,.none,.none,.str z1 543,.none,.ref 314,.none,0⟩,⟨[]⟩⟩
def PF(P:Params):Obj:=⟨.type t2,.none,.seq ⟨[]⟩ 0,⟨[]⟩⟩
def Ug(P:Params):Obj:=⟨.none,.none,.fields ⟨[]⟩,⟨[]⟩⟩
def Nq(P:Params):Obj:=⟨.none,.none,.func ⟨z52,z52,L2.aH (tt 48),.stmts (L2.aF (tt 48)),L2.aj (tt 48),0,[],.none,.none,.none,.none,.none,.none,.none,0⟩,⟨[]⟩⟩
def Oc(P:Params):Obj:=⟨.type t3,.none,.fields ⟨[.str z52 600,.str z52 601,.str z9 602,.int 194 0,.int 2 0,.int 0 0,.int 0 0,.int 3 0,.ref 316,.bool true,.int 181 0,.ref 317,.none,.none,.none,.ref 318,.int 603 0,.int 194 0,.str z9 604]⟩,⟨[]⟩⟩
def Rx(P:Params):Obj:=⟨.type t17,.none,.func ⟨z52,z52,L2.aH (tt 48),.stmts (L2.aF (tt 48)),L2.aj (tt 48),3,[],.none,.none,.none,.str z1 543,.none,.ref 319,.none,0⟩,⟨[]⟩⟩
def N8(P:Params):Obj:=⟨.type t2,.none,.seq ⟨[]⟩ 0,⟨[]⟩⟩
def Vk(P:Params):Obj:=⟨.none,.none,.fields ⟨[]⟩,⟨[]⟩⟩
def Tw(P:Params):Obj:=⟨.none,.none,.func ⟨z53,z53,L2.aH (tt 49),.stmts (L2.aF (tt 49)),L2.aj (tt 49),0,[],.none,.none,.none,.none,.none,.none,.none,0⟩,⟨[]⟩⟩
def N5(P:Params):Obj:=⟨.type t3,.none,.fields ⟨[.str z53 606,.str z53 607,.str z9 608,.int 201 0,.int 3 0,.int 0 0,.int 0 0,.int 3 0,.ref 321,.bool true,.int 181 0,.ref 322,.none,.none,.none,.ref 323,.int 609 0,.int 201 0,.str z9 610]⟩,⟨[]⟩⟩
def OD(P:Params):Obj:=⟨.type t17,.none,.func ⟨z53,z53,L2.aH (tt 49),.stmts (L2.aF (tt 49)),L2.aj (tt 49),3,[],.none,.none,.none,.str z1 543,.none,.ref 324,.none,0⟩,⟨[]⟩⟩
def Mg(P:Params):Obj:=⟨.type t2,.none,.seq ⟨[]⟩ 0,⟨[]⟩⟩
def Vd(P:Params):Obj:=⟨.none,.none,.fields ⟨[]⟩,⟨[]⟩⟩
def MR(P:Params):Obj:=⟨.type t2,.none,.seq ⟨[.str Ka 615,.str K4 616,.str Wq 617]⟩ 0,⟨[]⟩⟩
def MX(P:Params):Obj:=⟨.type t2,.none,.seq ⟨[]⟩ 0,⟨[]⟩⟩
def OG(P:Params):Obj:=⟨.none,.none,.func ⟨z54,z54,L2.aH (tt 50),.stmts (L2.aF (tt 50)),L2.aj (tt 50),0,[],.none,.none,.none,.none,.none,.none,.none,0⟩,⟨[]⟩⟩
def Nz(P:Params):Obj:=⟨.type t3,.none,.fields ⟨[.str z54 612,.str z54 613,.str z9 614,.int 217 0,.int 3 0,.int 0 0,.int 0 0,.int 3 0,.ref 326,.bool true,.int 181 0,.ref 327,.none,.ref 328,.ref 329,.ref 330,.int 618 0,.int 217 0,.str z9 619]⟩,⟨[]⟩⟩
def NQ(P:Params):Obj:=⟨.type t17,.none,.func ⟨z54,z54,L2.aH (tt 50),.stmts (L2.aF (tt 50)),L2.aj (tt 50),3,[],.none,.none,.none,.str z1 543,.none,.ref 331,.none,0⟩,⟨[]⟩⟩
def R7(P:Params):Obj:=⟨.type t2,.none,.seq ⟨[]⟩ 0,⟨[]⟩⟩
def Uz(P:Params):Obj:=⟨.none,.none,.fields ⟨[]⟩,⟨[]⟩⟩
def O5(P:Params):Obj:=⟨.type t2,.none,.seq ⟨[.str Wa 624]⟩ 0,⟨[]⟩⟩
def RK(P:Params):Obj:=⟨.type t2,.none,.seq ⟨[]⟩ 0,⟨[]⟩⟩
def Qi(P:Params):Obj:=⟨.none,.none,.func ⟨z55,z55,L2.aH (tt 51),.stmts (L2.aF (tt 51)),L2.aj (tt 51),0,[],.none,.none,.none,.none,.none,.none,.none,0⟩,⟨[]⟩⟩
def RH(P:Params):Obj:=⟨.type t3,.none,.fields ⟨[.str z55 621,.str z55 622,.str z9 623,.int 221 0,.int 1 0,.int 0 0,.int 0 0,.int 3 0,.ref 333,.bool true,.int 181 0,.ref 334,.none,.ref 335,.ref 336,.ref 337,.int 625 0,.int 221 0,.str z9 626]⟩,⟨[]⟩⟩
def Qp(P:Params):Obj:=⟨.type t17,.none,.func ⟨z55,z55,L2.aH (tt 51),.stmts (L2.aF (tt 51)),L2.aj (tt 51),3,[],.none,.none,.none,.str z1 543,.none,.ref 338,.none,0⟩,⟨[]⟩⟩
def QL(P:Params):Obj:=⟨.type t2,.none,.seq ⟨[]⟩ 0,⟨[]⟩⟩
def Vn(P:Params):Obj:=⟨.none,.none,.fields ⟨[]⟩,⟨[]⟩⟩
def LD(P:Params):Obj:=⟨.type t2,.none,.seq ⟨[.str Q9 631,.str Ka 632,.str K4 633]⟩ 0,⟨[]⟩⟩
def NW(P:Params):Obj:=⟨.type t2,.none,.seq ⟨[]⟩ 0,⟨[]⟩⟩
def Np(P:Params):Obj:=⟨.none,.none,.func ⟨z56,z56,L2.aH (tt 52),.stmts (L2.aF (tt 52)),L2.aj (tt 52),0,[],.none,.none,.none,.none,.none,.none,.none,0⟩,⟨[]⟩⟩
def Oq(P:Params):Obj:=⟨.type t3,.none,.fields ⟨[.str z56 628,.str z56 629,.str z9 630,.int 223 0,.int 2 0,.int 0 0,.int 0 0,.int 3 0,.ref 340,.bool true,.int 181 0,.ref 341,.none,.ref 342,.ref 343,.ref 344,.int 634 0,.int 223 0,.str z9 635]⟩,⟨[]⟩⟩
def Og(P:Params):Obj:=⟨.type t17,.none,.func ⟨z56,z56,L2.aH (tt 52),.stmts (L2.aF (tt 52)),L2.aj (tt 52),3,[],.none,.none,.none,.str z1 543,.none,.ref 345,.none,0⟩,⟨[]⟩⟩
def Ro(P:Params):Obj:=⟨.type t2,.none,.seq ⟨[]⟩ 0,⟨[]⟩⟩
def Vf(P:Params):Obj:=⟨.none,.none,.fields ⟨[]⟩,⟨[]⟩⟩
def MQ(P:Params):Obj:=⟨.type t2,.none,.seq ⟨[.str Q9 640,.str Ka 641,.str Wy 642,.str V0 643,.str Wz 644]⟩ 0,⟨[]⟩⟩
def M9(P:Params):Obj:=⟨.type t2,.none,.seq ⟨[]⟩ 0,⟨[]⟩⟩
def Rn(P:Params):Obj:=⟨.none,.none,.func ⟨z57,z57,L2.aH (tt 53),.stmts (L2.aF (tt 53)),L2.aj (tt 53),0,[],.none,.none,.none,.none,.none,.none,.none,0⟩,⟨[]⟩⟩
def LN(P:Params):Obj:=⟨.type t3,.none,.fields ⟨[.str z57 637,.str z57 638,.str z9 639,.int 232 0,.int 4 0,.int 0 0,.int 0 0,.int 3 0,.ref 347,.bool true,.int 181 0,.ref 348,.none,.ref 349,.ref 350,.ref 351,.int 645 0,.int 232 0,.str z9 646]⟩,⟨[]⟩⟩
def Ml(P:Params):Obj:=⟨.type t17,.none,.func ⟨z57,z57,L2.aH (tt 53),.stmts (L2.aF (tt 53)),L2.aj (tt 53),3,[],.none,.none,.none,.str z1 543,.none,.ref 352,.none,0⟩,⟨[]⟩⟩
def Ua(P:Params):Obj:=⟨.type t2,.none,.seq ⟨[]⟩ 0,⟨[]⟩⟩
def Vw(P:Params):Obj:=⟨.none,.none,.fields ⟨[]⟩,⟨[]⟩⟩
def LY(P:Params):Obj:=⟨.type t2,.none,.seq ⟨[.str VL 651,.str V7 652,.str Q9 653,.str VJ 654]⟩ 0,⟨[]⟩⟩
def Le(P:Params):Obj:=⟨.type t2,.none,.seq ⟨[]⟩ 0,⟨[]⟩⟩
def O4(P:Params):Obj:=⟨.none,.none,.func ⟨z58,z58,L2.aH (tt 54),.stmts (L2.aF (tt 54)),L2.aj (tt 54),0,[],.none,.none,.none,.none,.none,.none,.none,0⟩,⟨[]⟩⟩
def SG(P:Params):Obj:=⟨.type t3,.none,.fields ⟨[.str z58 648,.str z58 649,.str z9 650,.int 237 0,.int 1 0,.int 0 0,.int 0 0,.int 3 0,.ref 354,.bool true,.int 181 0,.ref 355,.none,.ref 356,.ref 357,.ref 358,.int 655 0,.int 237 0,.str z9 656]⟩,⟨[]⟩⟩
def PJ(P:Params):Obj:=⟨.type t17,.none,.func ⟨z58,z58,L2.aH (tt 54),.stmts (L2.aF (tt 54)),L2.aj (tt 54),3,[],.none,.none,.none,.str z1 543,.none,.ref 359,.none,0⟩,⟨[]⟩⟩
def Mq(P:Params):Obj:=⟨.type t2,.none,.seq ⟨[]⟩ 0,⟨[]⟩⟩
def UH(P:Params):Obj:=⟨.none,.none,.fields ⟨[]⟩,⟨[]⟩⟩
def R6(P:Params):Obj:=⟨.none,.none,.func ⟨z59,z59,L2.aH (tt 55),.stmts (L2.aF (tt 55)),L2.aj (tt 55),0,[],.none,.none,.none,.none,.none,.none,.none,0⟩,⟨[]⟩⟩
def M8(P:Params):Obj:=⟨.type t3,.none,.fields ⟨[.str z59 658,.str z59 659,.str z9 660,.int 249 0,.int 1 0,.int 0 0,.int 0 0,.int 3 0,.ref 361,.bool true,.int 181 0,.ref 362,.none,.none,.none,.ref 363,.int 661 0,.int 249 0,.str z9 662]⟩,⟨[]⟩⟩
def O6(P:Params):Obj:=⟨.type t17,.none,.func ⟨z59,z59,L2.aH (tt 55),.stmts (L2.aF (tt 55)),L2.aj (tt 55),3,[],.none,.none,.none,.str z1 543,.none,.ref 364,.none,0⟩,⟨[]⟩⟩
def TF(P:Params):BT:=(nd (PySem.W.boot_o_0 P) (nd (PySem.W.boot_o_1 P) (nd (o3 P) (nd (PySem.W.boot_o_7 P) (nd (o15 P) (nd (o31 P) (nd (o63 P) (nd (MD P) (nd (Ls P) e e) e) (nd (Qw P) (nd (Oc P) e e) e)) (nd (o95 P) (nd (OL P) (nd (MG P) e e) e) (nd (SM P) (nd (Rn P) e e) e))) (nd (o47 P) (nd (o79 P) (nd (Lw P) (nd (QC P) e e) e) (nd (MP P) (nd (O5 P) e e) e)) (nd (o111 P) (nd (QV P) (nd (Tt P) e e) e) (nd (Ul P) e e)))) (nd (o23 P) (nd (o39 P) (nd (o71 P) (nd (Tg P) (nd (NK P) e e) e) (nd (RL P) (nd (Vd P) e e) e)) (nd (Vo P) (nd (Uh P) (nd (Mp P) e e) e) (nd (Mh P) (nd (SG P) e e) e))) (nd (o55 P) (nd (o87 P) (nd (RX P) (nd (Uo P) e e) e) (nd (U7 P) (nd (NW P) e e) e)) (nd (Qg P) (nd (Qo P) (nd (QH P) e e) e) (nd (Rg P) e e))))) (nd (o11 P) (nd (o19 P) (nd (o35 P) (nd (o67 P) (nd (Qd P) (nd (Mu P) e e) e) (nd (MB P) (nd (Tw P) e e) e)) (nd (o99 P) (nd (LQ P) (nd (QM P) e e) e) (nd (Ut P) (nd (Vw P) e e) e))) (nd (o51 P) (nd (o83 P) (nd (SR P) (nd (PK P) e e) e) (nd (Ra P) (nd (Qp P) e e) e)) (nd (U9 P) (nd (Vu P) (nd (Vi P) e e) e) (nd (Oh P) e e)))) (nd (o27 P) (nd (o43 P) (nd (o75 P) (nd (UC P) (nd (SD P) e e) e) (nd (Uw P) (nd (Nz P) e e) e)) (nd (NP P) (nd (Sw P) (nd (MH P) e e) e) (nd (Qc P) (nd (R6 P) e e) e))) (nd (o59 P) (nd (o91 P) (nd (Lj P) (nd (Q5 P) e e) e) (nd (Ob P) (nd (Ro P) e e) e)) (nd (Ux P) (nd (Sg P) (nd (PX P) e e) e) (nd (Qv P) e e)))))) (nd (PySem.W.boot_o_5 P) (nd (PySem.W.boot_o_9 P) (nd (o17 P) (nd (o33 P) (nd (o65 P) (nd (Rq P) (nd (Nh P) e e) e) (nd (RV P) (nd (N8 P) e e) e)) (nd (o97 P) (nd (OB P) (nd (Ol P) e e) e) (nd (RM P) (nd (Ml P) e e) e))) (nd (o49 P) (nd (o81 P) (nd (Mt P) (nd (PD P) e e) e) (nd (N7 P) (nd (Qi P) e e) e)) (nd (U3 P) (nd (O7 P) (nd (SW P) e e) e) (nd (Qq P) e e)))) (nd (o25 P) (nd (o41 P) (nd (o73 P) (nd (Tj P) (nd (Uu P) e e) e) (nd (Ln P) (nd (MX P) e e) e)) (nd (Vl P) (nd (LZ P) (nd (Lz P) e e) e) (nd (QN P) (nd (Mq P) e e) e))) (nd (o57 P) (nd (o89 P) (nd (UY P) (nd (NZ P) e e) e) (nd (Qs P) (nd (Oq P) e e) e)) (nd (Ql P) (nd (Nf P) (nd (RB P) e e) e) (nd (Tf P) e e))))) (nd (o13 P) (nd (o21 P) (nd (o37 P) (nd (o69 P) (nd (OV P) (nd (Mz P) e e) e) (nd (Nu P) (nd (OD P) e e) e)) (nd (U4 P) (nd (SX P) (nd (UL P) e e) e) (nd (Mv P) (nd (Le P) e e) e))) (nd (o53 P) (nd (o85 P) (nd (Qt P) (nd (RT P) e e) e) (nd (Nj P) (nd (Vn P) e e) e)) (nd (Vp P) (nd (PV P) (nd (SJ P) e e) e) (nd (Qy P) e e)))) (nd (o29 P) (nd (o45 P) (nd (o77 P) (nd (Q7 P) (nd (QT P) e e) e) (nd (Li P) (nd (R7 P) e e) e)) (nd (Rf P) (nd (Pq P) (nd (NS P) e e) e) (nd (K9 P) (nd (O6 P) e e) e))) (nd (o61 P) (nd (o93 P) (nd (Rk P) (nd (M4 P) e e) e) (nd (Nb P) (nd (MQ P) e e) e)) (nd (Vr P) (nd (Ur P) (nd (Ug P) e e) e) (nd (U6 P) e e))))))) (nd (PySem.W.boot_o_2 P) (nd (PySem.W.boot_o_4 P) (nd (PySem.W.boot_o_8 P) (nd (o16 P) (nd (o32 P) (nd (o64 P) (nd (RQ P) (nd (ML P) e e) e) (nd (TY P) (nd (Rx P) e e) e)) (nd (o96 P) (nd (Ud P) (nd (Ng P) e e) e) (nd (Tq P) (nd (LN P) e e) e))) (nd (o48 P) (nd (o80 P) (nd (Ru P) (nd (Us P) e e) e) (nd (Va P) (nd (RK P) e e) e)) (nd (Ti P) (nd (TV P) (nd (RZ P) e e) e) (nd (Pj P) e e)))) (nd (o24 P) (nd (o40 P) (nd (o72 P) (nd (Mj P) (nd (R9 P) e e) e) (nd (o200 P) (nd (MR P) e e) e)) (nd (VD P) (nd (MJ P) (nd (Mx P) e e) e) (nd (O2 P) (nd (PJ P) e e) e))) (nd (o56 P) (nd (o88 P) (nd (TQ P) (nd (Sy P) e e) e) (nd (Pu P) (nd (Np P) e e) e)) (nd (OX P) (nd (Vq P) (nd (UW P) e e) e) (nd (Tr P) e e))))) (nd (o12 P) (nd (o20 P) (nd (o36 P) (nd (o68 P) (nd (Vs P) (nd (UG P) e e) e) (nd (U5 P) (nd (N5 P) e e) e)) (nd (o100 P) (nd (Lp P) (nd (RJ P) e e) e) (nd (QG P) (nd (LY P) e e) e))) (nd (o52 P) (nd (o84 P) (nd (QK P) (nd (O3 P) e e) e) (nd (LV P) (nd (QL P) e e) e)) (nd (Vb P) (nd (LR P) (nd (Nv P) e e) e) (nd (SQ P) e e)))) (nd (o28 P) (nd (o44 P) (nd (o76 P) (nd (Rb P) (nd (Rz P) e e) e) (nd (Qj P) (nd (NQ P) e e) e)) (nd (Qa P) (nd (Vm P) (nd (o300 P) e e) e) (nd (RW P) (nd (M8 P) e e) e))) (nd (o60 P) (nd (o92 P) (nd (Qu P) (nd (RG P) e e) e) (nd (O8 P) (nd (Vf P) e e) e)) (nd (Lg P) (nd (Nt P) (nd (PF P) e e) e) (nd (Ph P) e e)))))) (nd (PySem.W.boot_o_6 P) (nd (PySem.W.boot_o_10 P) (nd (o18 P) (nd (o34 P) (nd (o66 P) (nd (Tc P) (nd (Sx P) e e) e) (nd (Tn P) (nd (Vk P) e e) e)) (nd (o98 P) (nd (QJ P) (nd (La P) e e) e) (nd (Ld P) (nd (Ua P) e e) e))) (nd (o50 P) (nd (o82 P) (nd (UN P) (nd (PZ P) e e) e) (nd (Pg P) (nd (RH P) e e) e)) (nd (Vh P) (nd (MV P) (nd (O1 P) e e) e) (nd (QZ P) e e)))) (nd (o26 P) (nd (o42 P) (nd (o74 P) (nd (MF P) (nd (R5 P) e e) e) (nd (Pk P) (nd (OG P) e e) e)) (nd (Uk P) (nd (Qz P) (nd (SV P) e e) e) (nd (UZ P) (nd (UH P) e e) e))) (nd (o58 P) (nd (o90 P) (nd (Q8 P) (nd (QW P) e e) e) (nd (Mw P) (nd (Og P) e e) e)) (nd (UO P) (nd (Lf P) (nd (Te P) e e) e) (nd (PB P) e e))))) (nd (o14 P) (nd (o22 P) (nd (o38 P) (nd (o70 P) (nd (Ss P) (nd (Rj P) e e) e) (nd (QY P) (nd (Mg P) e e) e)) (nd (UU P) (nd (QX P) (nd (Qf P) e e) e) (nd (Sd P) (nd (O4 P) e e) e))) (nd (o54 P) (nd (o86 P) (nd (Tp P) (nd (R3 P) e e) e) (nd (Qm P) (nd (LD P) e e) e)) (nd (Vz P) (nd (Lb P) (nd (Pz P) e e) e) (nd (Um P) e e)))) (nd (o30 P) (nd (o46 P) (nd (o78 P) (nd (Rv P) (nd (QF P) e e) e) (nd (QS P) (nd (Uz P) e e) e)) (nd (Ue P) (nd (Oo P) (nd (Ov P) e e) e) (nd (OJ P) e e))) (nd (o62 P) (nd (o94 P) (nd (O9 P) (nd (UQ P) e e) e) (nd (Uv P) (nd (M9 P) e e) e)) (nd (Nx P) (nd (M7 P) (nd (Nq P) e e) e) (nd (QB P) e e))))))))
def HF(P:Params):Heap:=⟨⟨[PySem.W.boot_o_0 P,PySem.W.boot_o_1 P,PySem.W.boot_o_2 P,o3 P,PySem.W.boot_o_4 P,PySem.W.boot_o_5 P,PySem.W.boot_o_6 P,PySem.W.boot_o_7 P,PySem.W.boot_o_8 P,PySem.W.boot_o_9 P,PySem.W.boot_o_10 P,o11 P,o12 P,o13 P,o14 P,o15 P,o16 P,o17 P,o18 P,o19 P,o20 P,o21 P,o22 P,o23 P,o24 P,o25 P,o26 P,o27 P,o28 P,o29 P,o30 P,o31 P,o32 P,o33 P,o34 P,o35 P,o36 P,o37 P,o38 P,o39 P,o40 P,o41 P,o42 P,o43 P,o44 P,o45 P,o46 P,o47 P,o48 P,o49 P,o50 P,o51 P,o52 P,o53 P,o54 P,o55 P,o56 P,o57 P,o58 P,o59 P,o60 P,o61 P,o62 P,o63 P,o64 P,o65 P,o66 P,o67 P,o68 P,o69 P,o70 P,o71 P,o72 P,o73 P,o74 P,o75 P,o76 P,o77 P,o78 P,o79 P,o80 P,o81 P,o82 P,o83 P,o84 P,o85 P,o86 P,o87 P,o88 P,o89 P,o90 P,o91 P,o92 P,o93 P,o94 P,o95 P,o96 P,o97 P,o98 P,o99 P,o100 P,U4 P,UU P,Vo P,VD P,Vl P,Uk P,NP P,Qa P,Rf P,Ue P,o111 P,Ti P,U3 P,Vh P,U9 P,Vb P,Vp P,Vz P,Qg P,OX P,Ql P,UO P,Ux P,Lg P,Vr P,Nx P,MD P,RQ P,Rq P,Tc P,Qd P,Vs P,OV P,Ss P,Tg P,Mj P,Tj P,MF P,UC P,Rb P,Q7 P,Rv P,Lw P,Ru P,Mt P,UN P,SR P,QK P,Qt P,Tp P,RX P,TQ P,UY P,Q8 P,Lj P,Qu P,Rk P,O9 P,OL P,Ud P,OB P,QJ P,LQ P,Lp P,SX P,QX P,Uh P,MJ P,LZ P,Qz P,Sw P,Vm P,Pq P,Oo P,QV P,TV P,O7 P,MV P,Vu P,LR P,PV P,Lb P,Qo P,Vq P,Nf P,Lf P,Sg P,Nt P,Ur P,M7 P,Qw P,TY P,RV P,Tn P,MB P,U5 P,Nu P,QY P,RL P,o200 P,Ln P,Pk P,Uw P,Qj P,Li P,QS P,MP P,Va P,N7 P,Pg P,Ra P,LV P,Nj P,Qm P,U7 P,Pu P,Qs P,Mw P,Ob P,O8 P,Nb P,Uv P,SM P,Tq P,RM P,Ld P,Ut P,QG P,Mv P,Sd P,Mh P,O2 P,QN P,UZ P,Qc P,RW P,K9 P,OJ P,Ul P,Pj P,Qq P,QZ P,Oh P,SQ P,Qy P,Um P,Rg P,Tr P,Tf P,PB P,Qv P,Ph P,U6 P,QB P,Ls P,ML P,Nh P,Sx P,Mu P,UG P,Mz P,Rj P,NK P,R9 P,Uu P,R5 P,SD P,Rz P,QT P,QF P,QC P,Us P,PD P,PZ P,PK P,O3 P,RT P,R3 P,Uo P,Sy P,NZ P,QW P,Q5 P,RG P,M4 P,UQ P,MG P,Ng P,Ol P,La P,QM P,RJ P,UL P,Qf P,Mp P,Mx P,Lz P,SV P,MH P,o300 P,NS P,Ov P,Tt P,RZ P,SW P,O1 P,Vi P,Nv P,SJ P,Pz P,QH P,UW P,RB P,Te P,PX P,PF P,Ug P,Nq P,Oc P,Rx P,N8 P,Vk P,Tw P,N5 P,OD P,Mg P,Vd P,MR P,MX P,OG P,Nz P,NQ P,R7 P,Uz P,O5 P,RK P,Qi P,RH P,Qp P,QL P,Vn P,LD P,NW P,Np P,Oq P,Og P,Ro P,Vf P,MQ P,M9 P,Rn P,LN P,Ml P,Ua P,Vw P,LY P,Le P,O4 P,SG P,PJ P,Mq P,UH P,R6 P,M8 P,O6 P]⟩,{}⟩
def K(P:Params):Frag:=(nat_lit 0,PySem.W.boot_o_0 P)::(nat_lit 1,PySem.W.boot_o_1 P)::(nat_lit 2,PySem.W.boot_o_2 P)::(nat_lit 3,o3 P)::(nat_lit 4,PySem.W.boot_o_4 P)::(nat_lit 5,PySem.W.boot_o_5 P)::(nat_lit 6,PySem.W.boot_o_6 P)::(nat_lit 7,PySem.W.boot_o_7 P)::(nat_lit 9,PySem.W.boot_o_9 P)::(nat_lit 10,PySem.W.boot_o_10 P)::(nat_lit 11,o11 P)::(nat_lit 12,o12 P)::(nat_lit 13,o13 P)::(nat_lit 14,o14 P)::(nat_lit 15,o15 P)::(nat_lit 22,o22 P)::(nat_lit 23,o23 P)::(nat_lit 24,o24 P)::(nat_lit 25,o25 P)::(nat_lit 28,o28 P)::(nat_lit 35,o35 P)::(nat_lit 36,o36 P)::(nat_lit 37,o37 P)::(nat_lit 40,o40 P)::(nat_lit 47,o47 P)::(nat_lit 48,o48 P)::(nat_lit 49,o49 P)::(nat_lit 52,o52 P)::(nat_lit 59,o59 P)::(nat_lit 60,o60 P)::(nat_lit 61,o61 P)::(nat_lit 64,o64 P)::(nat_lit 71,o71 P)::(nat_lit 72,o72 P)::(nat_lit 73,o73 P)::(nat_lit 76,o76 P)::(nat_lit 83,o83 P)::(nat_lit 84,o84 P)::(nat_lit 85,o85 P)::(nat_lit 88,o88 P)::(nat_lit 95,o95 P)::(nat_lit 96,o96 P)::(nat_lit 97,o97 P)::(nat_lit 100,o100 P)::(nat_lit 107,NP P)::(nat_lit 108,Qa P)::(nat_lit 109,Rf P)::(nat_lit 112,Ti P)::(nat_lit 119,Qg P)::(nat_lit 120,OX P)::(nat_lit 121,Ql P)::(nat_lit 124,Lg P)::(nat_lit 126,Nx P)::(nat_lit 127,MD P)::(nat_lit 128,RQ P)::(nat_lit 129,Rq P)::(nat_lit 130,Tc P)::(nat_lit 131,Qd P)::(nat_lit 133,OV P)::(nat_lit 134,Ss P)::(nat_lit 135,Tg P)::(nat_lit 136,Mj P)::(nat_lit 137,Tj P)::(nat_lit 138,MF P)::(nat_lit 140,Rb P)::(nat_lit 141,Q7 P)::(nat_lit 142,Rv P)::(nat_lit 143,Lw P)::(nat_lit 144,Ru P)::(nat_lit 145,Mt P)::(nat_lit 147,SR P)::(nat_lit 148,QK P)::(nat_lit 149,Qt P)::(nat_lit 150,Tp P)::(nat_lit 151,RX P)::(nat_lit 152,TQ P)::(nat_lit 154,Q8 P)::(nat_lit 155,Lj P)::(nat_lit 156,Qu P)::(nat_lit 157,Rk P)::(nat_lit 158,O9 P)::(nat_lit 159,OL P)::(nat_lit 161,OB P)::(nat_lit 162,QJ P)::(nat_lit 163,LQ P)::(nat_lit 164,Lp P)::(nat_lit 165,SX P)::(nat_lit 166,QX P)::(nat_lit 168,MJ P)::(nat_lit 169,LZ P)::(nat_lit 170,Qz P)::(nat_lit 171,Sw P)::(nat_lit 173,Pq P)::(nat_lit 174,Oo P)::(nat_lit 175,QV P)::(nat_lit 176,TV P)::(nat_lit 177,O7 P)::(nat_lit 178,MV P)::(nat_lit 180,LR P)::(nat_lit 181,PV P)::(nat_lit 182,Lb P)::(nat_lit 183,Qo P)::(nat_lit 185,Nf P)::(nat_lit 186,Lf P)::(nat_lit 187,Sg P)::(nat_lit 188,Nt P)::(nat_lit 190,M7 P)::(nat_lit 191,Qw P)::(nat_lit 192,TY P)::(nat_lit 193,RV P)::(nat_lit 194,Tn P)::(nat_lit 195,MB P)::(nat_lit 197,Nu P)::(nat_lit 198,QY P)::(nat_lit 199,RL P)::(nat_lit 200,o200 P)::(nat_lit 201,Ln P)::(nat_lit 202,Pk P)::(nat_lit 204,Qj P)::(nat_lit 205,Li P)::(nat_lit 206,QS P)::(nat_lit 207,MP P)::(nat_lit 209,N7 P)::(nat_lit 210,Pg P)::(nat_lit 211,Ra P)::(nat_lit 212,LV P)::(nat_lit 213,Nj P)::(nat_lit 214,Qm P)::(nat_lit 216,Pu P)::(nat_lit 217,Qs P)::(nat_lit 218,Mw P)::(nat_lit 219,Ob P)::(nat_lit 220,O8 P)::(nat_lit 221,Nb P)::(nat_lit 223,SM P)::(nat_lit 224,Tq P)::(nat_lit 225,RM P)::(nat_lit 226,Ld P)::(nat_lit 228,QG P)::(nat_lit 229,Mv P)::(nat_lit 230,Sd P)::(nat_lit 231,Mh P)::(nat_lit 232,O2 P)::(nat_lit 233,QN P)::(nat_lit 235,Qc P)::(nat_lit 236,RW P)::(nat_lit 237,K9 P)::(nat_lit 238,OJ P)::(nat_lit 240,Pj P)::(nat_lit 241,Qq P)::(nat_lit 242,QZ P)::(nat_lit 243,Oh P)::(nat_lit 244,SQ P)::(nat_lit 245,Qy P)::(nat_lit 247,Rg P)::(nat_lit 248,Tr P)::(nat_lit 249,Tf P)::(nat_lit 250,PB P)::(nat_lit 251,Qv P)::(nat_lit 252,Ph P)::(nat_lit 254,QB P)::(nat_lit 255,Ls P)::(nat_lit 256,ML P)::(nat_lit 257,Nh P)::(nat_lit 258,Sx P)::(nat_lit 259,Mu P)::(nat_lit 261,Mz P)::(nat_lit 262,Rj P)::(nat_lit 263,NK P)::(nat_lit 264,R9 P)::(nat_lit 266,R5 P)::(nat_lit 267,SD P)::(nat_lit 268,Rz P)::(nat_lit 269,QT P)::(nat_lit 270,QF P)::(nat_lit 271,QC P)::(nat_lit 273,PD P)::(nat_lit 274,PZ P)::(nat_lit 275,PK P)::(nat_lit 276,O3 P)::(nat_lit 277,RT P)::(nat_lit 278,R3 P)::(nat_lit 280,Sy P)::(nat_lit 281,NZ P)::(nat_lit 282,QW P)::(nat_lit 283,Q5 P)::(nat_lit 284,RG P)::(nat_lit 285,M4 P)::(nat_lit 287,MG P)::(nat_lit 288,Ng P)::(nat_lit 289,Ol P)::(nat_lit 290,La P)::(nat_lit 291,QM P)::(nat_lit 292,RJ P)::(nat_lit 294,Qf P)::(nat_lit 295,Mp P)::(nat_lit 296,Mx P)::(nat_lit 297,Lz P)::(nat_lit 298,SV P)::(nat_lit 299,MH P)::(nat_lit 301,NS P)::(nat_lit 302,Ov P)::(nat_lit 303,Tt P)::(nat_lit 304,RZ P)::(nat_lit 305,SW P)::(nat_lit 306,O1 P)::(nat_lit 308,Nv P)::(nat_lit 309,SJ P)::(nat_lit 310,Pz P)::(nat_lit 311,QH P)::(nat_lit 313,RB P)::(nat_lit 314,Te P)::(nat_lit 315,PX P)::(nat_lit 316,PF P)::(nat_lit 318,Nq P)::(nat_lit 319,Oc P)::(nat_lit 320,Rx P)::(nat_lit 321,N8 P)::(nat_lit 323,Tw P)::(nat_lit 324,N5 P)::(nat_lit 325,OD P)::(nat_lit 326,Mg P)::(nat_lit 328,MR P)::(nat_lit 329,MX P)::(nat_lit 330,OG P)::(nat_lit 331,Nz P)::(nat_lit 332,NQ P)::(nat_lit 333,R7 P)::(nat_lit 335,O5 P)::(nat_lit 336,RK P)::(nat_lit 337,Qi P)::(nat_lit 338,RH P)::(nat_lit 339,Qp P)::(nat_lit 340,QL P)::(nat_lit 342,LD P)::(nat_lit 343,NW P)::(nat_lit 344,Np P)::(nat_lit 345,Oq P)::(nat_lit 346,Og P)::(nat_lit 347,Ro P)::(nat_lit 349,MQ P)::(nat_lit 350,M9 P)::(nat_lit 351,Rn P)::(nat_lit 352,LN P)::(nat_lit 353,Ml P)::(nat_lit 354,Ua P)::(nat_lit 356,LY P)::(nat_lit 357,Le P)::(nat_lit 358,O4 P)::(nat_lit 359,SG P)::(nat_lit 360,PJ P)::(nat_lit 361,Mq P)::(nat_lit 363,R6 P)::(nat_lit 364,M8 P)::(nat_lit 365,O6 P)::[]
def as:List Nat:=[nat_lit 0,nat_lit 1,nat_lit 2,nat_lit 3,nat_lit 4,nat_lit 5,nat_lit 6,nat_lit 7,nat_lit 9,nat_lit 10,nat_lit 11,nat_lit 12,nat_lit 13,nat_lit 14,nat_lit 15,nat_lit 22,nat_lit 23,nat_lit 24,nat_lit 25,nat_lit 28,nat_lit 35,nat_lit 36,nat_lit 37,nat_lit 40,nat_lit 47,nat_lit 48,nat_lit 49,nat_lit 52,nat_lit 59,nat_lit 60,nat_lit 61,nat_lit 64,nat_lit 71,nat_lit 72,nat_lit 73,nat_lit 76,nat_lit 83,nat_lit 84,nat_lit 85,nat_lit 88,nat_lit 95,nat_lit 96,nat_lit 97,nat_lit 100,nat_lit 107,nat_lit 108,nat_lit 109,nat_lit 112,nat_lit 119,nat_lit 120,nat_lit 121,nat_lit 124,nat_lit 126,nat_lit 127,nat_lit 128,nat_lit 129,nat_lit 130,nat_lit 131,nat_lit 133,nat_lit 134,nat_lit 135,nat_lit 136,nat_lit 137,nat_lit 138,nat_lit 140,nat_lit 141,nat_lit 142,nat_lit 143,nat_lit 144,nat_lit 145,nat_lit 147,nat_lit 148,nat_lit 149,nat_lit 150,nat_lit 151,nat_lit 152,nat_lit 154,nat_lit 155,nat_lit 156,nat_lit 157,nat_lit 158,nat_lit 159,nat_lit 161,nat_lit 162,nat_lit 163,nat_lit 164,nat_lit 165,nat_lit 166,nat_lit 168,nat_lit 169,nat_lit 170,nat_lit 171,nat_lit 173,nat_lit 174,nat_lit 175,nat_lit 176,nat_lit 177,nat_lit 178,nat_lit 180,nat_lit 181,nat_lit 182,nat_lit 183,nat_lit 185,nat_lit 186,nat_lit 187,nat_lit 188,nat_lit 190,nat_lit 191,nat_lit 192,nat_lit 193,nat_lit 194,nat_lit 195,nat_lit 197,nat_lit 198,nat_lit 199,nat_lit 200,nat_lit 201,nat_lit 202,nat_lit 204,nat_lit 205,nat_lit 206,nat_lit 207,nat_lit 209,nat_lit 210,nat_lit 211,nat_lit 212,nat_lit 213,nat_lit 214,nat_lit 216,nat_lit 217,nat_lit 218,nat_lit 219,nat_lit 220,nat_lit 221,nat_lit 223,nat_lit 224,nat_lit 225,nat_lit 226,nat_lit 228,nat_lit 229,nat_lit 230,nat_lit 231,nat_lit 232,nat_lit 233,nat_lit 235,nat_lit 236,nat_lit 237,nat_lit 238,nat_lit 240,nat_lit 241,nat_lit 242,nat_lit 243,nat_lit 244,nat_lit 245,nat_lit 247,nat_lit 248,nat_lit 249,nat_lit 250,nat_lit 251,nat_lit 252,nat_lit 254,nat_lit 255,nat_lit 256,nat_lit 257,nat_lit 258,nat_lit 259,nat_lit 261,nat_lit 262,nat_lit 263,nat_lit 264,nat_lit 266,nat_lit 267,nat_lit 268,nat_lit 269,nat_lit 270,nat_lit 271,nat_lit 273,nat_lit 274,nat_lit 275,nat_lit 276,nat_lit 277,nat_lit 278,nat_lit 280,nat_lit 281,nat_lit 282,nat_lit 283,nat_lit 284,nat_lit 285,nat_lit 287,nat_lit 288,nat_lit 289,nat_lit 290,nat_lit 291,nat_lit 292,nat_lit 294,nat_lit 295,nat_lit 296,nat_lit 297,nat_lit 298,nat_lit 299,nat_lit 301,nat_lit 302,nat_lit 303,nat_lit 304,nat_lit 305,nat_lit 306,nat_lit 308,nat_lit 309,nat_lit 310,nat_lit 311,nat_lit 313,nat_lit 314,nat_lit 315,nat_lit 316,nat_lit 318,nat_lit 319,nat_lit 320,nat_lit 321,nat_lit 323,nat_lit 324,nat_lit 325,nat_lit 326,nat_lit 328,nat_lit 329,nat_lit 330,nat_lit 331,nat_lit 332,nat_lit 333,nat_lit 335,nat_lit 336,nat_lit 337,nat_lit 338,nat_lit 339,nat_lit 340,nat_lit 342,nat_lit 343,nat_lit 344,nat_lit 345,nat_lit 346,nat_lit 347,nat_lit 349,nat_lit 350,nat_lit 351,nat_lit 352,nat_lit 353,nat_lit 354,nat_lit 356,nat_lit 357,nat_lit 358,nat_lit 359,nat_lit 360,nat_lit 361,nat_lit 363,nat_lit 364,nat_lit 365]
def cut(n:Nat)(t:BT):Nat->Nat->BT:=BT.rec (motive:=fun _=>Nat->Nat->BT) (fun _ _=> .nil) (fun v _ _ l r a b=>cond (Nat.blt b n) (.node v (l (Nat.mul 2 a) (Nat.add a b)) (r (Nat.mul 2 a) (Nat.add (Nat.mul 2 a) b))) .nil) t
def HA(P:Params):Heap:=⟨⟨[PySem.W.boot_o_0 P,PySem.W.boot_o_1 P,PySem.W.boot_o_2 P,PySem.W.boot_o_3 P,PySem.W.boot_o_4 P,PySem.W.boot_o_5 P,PySem.W.boot_o_6 P,PySem.W.boot_o_7 P,PySem.W.boot_o_8 P,PySem.W.boot_o_9 P,PySem.W.boot_o_10 P,o11 P,Kd P,o13 P,o14 P]⟩,{}⟩
def SA(w:World)(os:OsState):Shared:=⟨HA w.params,⟨[]⟩,{},187,os⟩
def T1(P:Params):BT:=((cut 15 (TF P) 1 0).set 3 fun _=>PySem.W.boot_o_3 P).set 12 fun _=>Kd P
def S1(w:World)(os:OsState):SharedT:=⟨T1 w.params,15,{},⟨[]⟩,{},187,os⟩
def T2(P:Params):BT:=(((cut 28 (TF P) 1 0).set 3 fun _=>V5 P).set 12 fun _=>Ni P).set 24 fun _=>Od P
def S2(w:World)(os:OsState):SharedT:=⟨T2 w.params,28,{},⟨[]⟩,{},207,os⟩
def T3(P:Params):BT:=(((cut 40 (TF P) 1 0).set 3 fun _=>Ww P).set 12 fun _=>RP P).set 24 fun _=>SN P
def S3(w:World)(os:OsState):SharedT:=⟨T3 w.params,40,{},⟨[]⟩,{},223,os⟩
def T4(P:Params):BT:=(((cut 52 (TF P) 1 0).set 3 fun _=>Wf P).set 12 fun _=>Ly P).set 24 fun _=>Ry P
def S4(w:World)(os:OsState):SharedT:=⟨T4 w.params,52,{},⟨[]⟩,{},239,os⟩
def T5(P:Params):BT:=(((cut 64 (TF P) 1 0).set 3 fun _=>Ox P).set 12 fun _=>J2 P).set 24 fun _=>Je P
def S5(w:World)(os:OsState):SharedT:=⟨T5 w.params,64,{},⟨[]⟩,{},255,os⟩
def T6(P:Params):BT:=(((cut 76 (TF P) 1 0).set 3 fun _=>R4 P).set 12 fun _=>Jr P).set 24 fun _=>Jc P
def S6(w:World)(os:OsState):SharedT:=⟨T6 w.params,76,{},⟨[]⟩,{},271,os⟩
def T7(P:Params):BT:=(((cut 88 (TF P) 1 0).set 3 fun _=>Oj P).set 12 fun _=>Ks P).set 24 fun _=>Km P
def S7(w:World)(os:OsState):SharedT:=⟨T7 w.params,88,{},⟨[]⟩,{},287,os⟩
def T8(P:Params):BT:=(((cut 100 (TF P) 1 0).set 3 fun _=>Sh P).set 12 fun _=>JG P).set 24 fun _=>JN P
def S8(w:World)(os:OsState):SharedT:=⟨T8 w.params,100,{},⟨[]⟩,{},303,os⟩
def T9(P:Params):BT:=(((cut 112 (TF P) 1 0).set 3 fun _=>PY P).set 12 fun _=>Ip P).set 24 fun _=>Jb P
def S9(w:World)(os:OsState):SharedT:=⟨T9 w.params,112,{},⟨[]⟩,{},319,os⟩
def T10(P:Params):BT:=((cut 159 (TF P) 1 0).set 3 fun _=>Mf P).set 12 fun _=>J0 P
def S10(w:World)(os:OsState):SharedT:=⟨T10 w.params,159,{},⟨[]⟩,{},385,os⟩
def T11(P:Params):BT:=((cut 233 (TF P) 1 0).set 3 fun _=>Pb P).set 12 fun _=>KD P
def S11(w:World)(os:OsState):SharedT:=⟨T11 w.params,233,{},⟨[]⟩,{},493,os⟩
def T12(P:Params):BT:=((cut 316 (TF P) 1 0).set 3 fun _=>Lq P).set 12 fun _=>JK P
def S12(w:World)(os:OsState):SharedT:=⟨T12 w.params,316,{},⟨[]⟩,{},600,os⟩
def T13(P:Params):BT:=cut 366 (TF P) 1 0
def S13(w:World)(os:OsState):SharedT:=⟨T13 w.params,366,{},⟨[]⟩,{},664,os⟩
def SF(w:World)(os:OsState):Shared:=⟨HF w.params,⟨[]⟩,{},664,os⟩
def ann:Option Value:=some (.ref 6)
def env:Env:={ scope:=pwL.main.scope,locals:=mainNs,globals:=mainNs,cells:=[],code:= .ref 13,frame:=some 14 }
def cE:Code:= .body (behindTheImports pwL) env
abbrev BB:List Frame:=[topFrame ⟨0,0,0,0⟩]
def q:Program:={ pwL with main:={ pwL.main with body:=[topF 1,topF 2,topF 3,topF 4,topF 5,topF 6,topF 7,topF 8,topF 9,topF 11,topF 12,topF 13,topF 14,topF 15,topF 17,topF 18,topF 19,topF 20,topF 21,topF 22,topF 24,topF 25,topF 26,topF 27,topF 28,topF 29,topF 30,topF 31,topF 33,topF 34,topF 35,topF 37,topF 38,topF 39,topF 41,topF 42,topF 43,topF 44,topF 45,topF 46,topF 47,topF 48,topF 49,topF 50,topF 51,topF 52,topF 53,topF 54,topF 55] } }
theorem warm2:((fun(_:Env) (_:Code) (_:Program)=>true) env cE q)=true:=by k_qdec
theorem a0:@segRunT=PySem.W.Fast.tw10110043849684766642:=PySem.W.Fast.te10110043849684766642
theorem a1:@treeTable=PySem.W.Fast.tw14364793385576792824:=PySem.W.Fast.te14364793385576792824
theorem a2:@topGo=PySem.W.Fast.tw15667345088766844465:=PySem.W.Fast.te15667345088766844465
theorem a3:@topRun=PySem.W.Fast.tw14082659384304107361:=PySem.W.Fast.te14082659384304107361
theorem a4:@segRun=PySem.W.Fast.tw14374325043358763698:=PySem.W.Fast.te14374325043358763698
theorem a5:@denote=PySem.W.Fast.tw11892475500146522536:=PySem.W.Fast.te11892475500146522536
theorem a6:@cE=PySem.W.Fast.tw7732491209529680073:=PySem.W.Fast.te7732491209529680073
theorem a7:@env=PySem.W.Fast.tw3725166644962831410:=PySem.W.Fast.te3725166644962831410
theorem a8:@q=PySem.W.Fast.tw1702863601547036642:=PySem.W.Fast.te1702863601547036642
theorem a9:@pwL=PySem.W.Fast.tw12291718094182632858:=PySem.W.Fast.te12291718094182632858
theorem a10:@topF=PySem.W.Fast.tw10042496693761554944:=PySem.W.Fast.te10042496693761554944
theorem a11:@importedModules=PySem.W.Fast.tw5923862056798008813:=PySem.W.Fast.te5923862056798008813
theorem a12:@openSeen=PySem.W.Fast.tw4187177175401517315:=PySem.W.Fast.te4187177175401517315
theorem a13:@Heap.nsMap=PySem.W.Fast.tw8920871248978507458:=PySem.W.Fast.te8920871248978507458
set_option maxHeartbeats 0
theorem pre(w:World)(os:OsState):topGo treeTable pwL w 11 ann 12 ⟨boot_heap w.params,⟨[]⟩,boot_drawn,boot_toks,os⟩ (topStub pwL)=some (SA w os,⟨denote treeTable cE,cE,⟨0,0,0,0⟩,BB⟩):=by
 (try rw[a0]);(try rw[a1]);(try rw[a2]);(try rw[a3]);(try rw[a4]);(try rw[a5]);(try rw[a6]);(try rw[a7]);(try rw[a8]);(try rw[a9]);(try rw[a10]);kernel_rfl
theorem blk(w:World)(os:OsState):segRun treeTable pwL w 11 ann 1 1 (SA w os) (blockOf (behindTheImports pwL) env cE ⟨0,0,0,0⟩ BB)=some (.next,(S1 w os).abs,cE,⟨0,0,0,0⟩):=by
 (try rw[a0]);(try rw[a1]);(try rw[a2]);(try rw[a3]);(try rw[a4]);(try rw[a5]);(try rw[a6]);(try rw[a7]);(try rw[a8]);(try rw[a9]);(try rw[a10]);kernel_rfl
abbrev c1:List Stmt:=[topF 0,topF 1]
theorem p1(w:World)(os:OsState):segRunT treeTable pwL w 11 ann 1 196 (S1 w os) (piecesOf c1 env cE ⟨0,0,0,0⟩ BB)=some (.next,S2 w os,cE,⟨2,0,3,8⟩):=by
 unfold c1;(try rw[a0]);(try rw[a1]);(try rw[a2]);(try rw[a3]);(try rw[a4]);(try rw[a5]);(try rw[a6]);(try rw[a7]);(try rw[a8]);(try rw[a9]);(try rw[a10]);kernel_rfl
abbrev c2:List Stmt:=[topF 2]
theorem p2(w:World)(os:OsState):segRunT treeTable pwL w 11 ann 1 214 (S2 w os) (piecesOf c2 env cE ⟨2,0,3,8⟩ BB)=some (.next,S3 w os,cE,⟨4,0,5,8⟩):=by
 unfold c2;(try rw[a0]);(try rw[a1]);(try rw[a2]);(try rw[a3]);(try rw[a4]);(try rw[a5]);(try rw[a6]);(try rw[a7]);(try rw[a8]);(try rw[a9]);(try rw[a10]);kernel_rfl
abbrev c3:List Stmt:=[topF 3]
theorem p3(w:World)(os:OsState):segRunT treeTable pwL w 11 ann 1 214 (S3 w os) (piecesOf c3 env cE ⟨4,0,5,8⟩ BB)=some (.next,S4 w os,cE,⟨6,0,7,8⟩):=by
 unfold c3;(try rw[a0]);(try rw[a1]);(try rw[a2]);(try rw[a3]);(try rw[a4]);(try rw[a5]);(try rw[a6]);(try rw[a7]);(try rw[a8]);(try rw[a9]);(try rw[a10]);kernel_rfl
abbrev c4:List Stmt:=[topF 4]
theorem p4(w:World)(os:OsState):segRunT treeTable pwL w 11 ann 1 214 (S4 w os) (piecesOf c4 env cE ⟨6,0,7,8⟩ BB)=some (.next,S5 w os,cE,⟨8,0,9,8⟩):=by
 unfold c4;(try rw[a0]);(try rw[a1]);(try rw[a2]);(try rw[a3]);(try rw[a4]);(try rw[a5]);(try rw[a6]);(try rw[a7]);(try rw[a8]);(try rw[a9]);(try rw[a10]);kernel_rfl
abbrev c5:List Stmt:=[topF 5]
theorem p5(w:World)(os:OsState):segRunT treeTable pwL w 11 ann 1 214 (S5 w os) (piecesOf c5 env cE ⟨8,0,9,8⟩ BB)=some (.next,S6 w os,cE,⟨10,0,11,8⟩):=by
 unfold c5;(try rw[a0]);(try rw[a1]);(try rw[a2]);(try rw[a3]);(try rw[a4]);(try rw[a5]);(try rw[a6]);(try rw[a7]);(try rw[a8]);(try rw[a9]);(try rw[a10]);kernel_rfl
abbrev c6:List Stmt:=[topF 6]
theorem p6(w:World)(os:OsState):segRunT treeTable pwL w 11 ann 1 214 (S6 w os) (piecesOf c6 env cE ⟨10,0,11,8⟩ BB)=some (.next,S7 w os,cE,⟨12,0,13,8⟩):=by
 unfold c6;(try rw[a0]);(try rw[a1]);(try rw[a2]);(try rw[a3]);(try rw[a4]);(try rw[a5]);(try rw[a6]);(try rw[a7]);(try rw[a8]);(try rw[a9]);(try rw[a10]);kernel_rfl
abbrev c7:List Stmt:=[topF 7]
theorem p7(w:World)(os:OsState):segRunT treeTable pwL w 11 ann 1 214 (S7 w os) (piecesOf c7 env cE ⟨12,0,13,8⟩ BB)=some (.next,S8 w os,cE,⟨14,0,15,8⟩):=by
 unfold c7;(try rw[a0]);(try rw[a1]);(try rw[a2]);(try rw[a3]);(try rw[a4]);(try rw[a5]);(try rw[a6]);(try rw[a7]);(try rw[a8]);(try rw[a9]);(try rw[a10]);kernel_rfl
abbrev c8:List Stmt:=[topF 8]
theorem p8(w:World)(os:OsState):segRunT treeTable pwL w 11 ann 1 214 (S8 w os) (piecesOf c8 env cE ⟨14,0,15,8⟩ BB)=some (.next,S9 w os,cE,⟨16,0,17,8⟩):=by
 unfold c8;(try rw[a0]);(try rw[a1]);(try rw[a2]);(try rw[a3]);(try rw[a4]);(try rw[a5]);(try rw[a6]);(try rw[a7]);(try rw[a8]);(try rw[a9]);(try rw[a10]);kernel_rfl
abbrev c9:List Stmt:=[topF 9,topF 10,topF 11,topF 12,topF 13,topF 14,topF 15,topF 16,topF 17]
theorem p9(w:World)(os:OsState):segRunT treeTable pwL w 11 ann 1 395 (S9 w os) (piecesOf c9 env cE ⟨16,0,17,8⟩ BB)=some (.next,S10 w os,cE,⟨52,0,56,31⟩):=by
 unfold c9;(try rw[a0]);(try rw[a1]);(try rw[a2]);(try rw[a3]);(try rw[a4]);(try rw[a5]);(try rw[a6]);(try rw[a7]);(try rw[a8]);(try rw[a9]);(try rw[a10]);kernel_rfl
abbrev c10:List Stmt:=[topF 18,topF 19,topF 20,topF 21,topF 22,topF 23,topF 24,topF 25,topF 26,topF 27,topF 28,topF 29,topF 30,topF 31,topF 32]
theorem p10(w:World)(os:OsState):segRunT treeTable pwL w 11 ann 1 384 (S10 w os) (piecesOf c10 env cE ⟨52,0,56,31⟩ BB)=some (.next,S11 w os,cE,⟨124,0,124,8⟩):=by
 unfold c10;(try rw[a0]);(try rw[a1]);(try rw[a2]);(try rw[a3]);(try rw[a4]);(try rw[a5]);(try rw[a6]);(try rw[a7]);(try rw[a8]);(try rw[a9]);(try rw[a10]);kernel_rfl
abbrev c11:List Stmt:=[topF 33,topF 34,topF 35,topF 36,topF 37,topF 38,topF 39,topF 40,topF 41,topF 42,topF 43,topF 44,topF 45,topF 46,topF 47]
theorem p11(w:World)(os:OsState):segRunT treeTable pwL w 11 ann 1 400 (S11 w os) (piecesOf c11 env cE ⟨124,0,124,8⟩ BB)=some (.next,S12 w os,cE,⟨184,0,193,19⟩):=by
 unfold c11;(try rw[a0]);(try rw[a1]);(try rw[a2]);(try rw[a3]);(try rw[a4]);(try rw[a5]);(try rw[a6]);(try rw[a7]);(try rw[a8]);(try rw[a9]);(try rw[a10]);kernel_rfl
abbrev c12:List Stmt:=[topF 48,topF 49,topF 50,topF 51,topF 52,topF 53,topF 54,topF 55]
theorem p12(w:World)(os:OsState):segRunT treeTable pwL w 11 ann 1 235 (S12 w os) (piecesOf c12 env cE ⟨184,0,193,19⟩ BB)=some (.next,S13 w os,cE,⟨249,0,268,107⟩):=by
 unfold c12;(try rw[a0]);(try rw[a1]);(try rw[a2]);(try rw[a3]);(try rw[a4]);(try rw[a5]);(try rw[a6]);(try rw[a7]);(try rw[a8]);(try rw[a9]);(try rw[a10]);kernel_rfl
theorem fin(w:World)(os:OsState):topRun treeTable pwL w 11 ann 2 (S13 w os).abs ⟨doneF .next,cE,⟨249,0,268,107⟩,BB⟩=some (SF w os):=by
 (try rw[a0]);(try rw[a1]);(try rw[a2]);(try rw[a3]);(try rw[a4]);(try rw[a5]);(try rw[a6]);(try rw[a7]);(try rw[a8]);(try rw[a9]);(try rw[a10]);kernel_rfl
theorem body:behindTheImports pwL=c1++(c2++(c3++(c4++(c5++(c6++(c7++(c8++(c9++(c10++(c11++(c12++([])))))))))))):=by
 (try rw[a6]);(try rw[a7]);(try rw[a8]);(try rw[a9]);(try rw[a10]);kernel_rfl
theorem run(w:World)(os:OsState):topRun treeTable pwL w 11 ann (12+(1+(196+(214+(214+(214+(214+(214+(214+(214+(395+(384+(400+(235+(2))))))))))))))) ⟨boot_heap w.params,⟨[]⟩,boot_drawn,boot_toks,os⟩ (topStub pwL)=some (SF w os):=
 go_top (pre w os) (piece_block (blk w os) (by rw[body];exact piece_app (segRun_of (p1 w os)) (piece_app (segRun_of (p2 w os)) (piece_app (segRun_of (p3 w os)) (piece_app (segRun_of (p4 w os)) (piece_app (segRun_of (p5 w os)) (piece_app (segRun_of (p6 w os)) (piece_app (segRun_of (p7 w os)) (piece_app (segRun_of (p8 w os)) (piece_app (segRun_of (p9 w os)) (piece_app (segRun_of (p10 w os)) (piece_app (segRun_of (p11 w os)) (piece_app (segRun_of (p12 w os)) (piece_nil (fin w os)))))))))))))))
theorem size(w:World):((boot_heap w.params).isNs mainGlobals&&(Array.mk ([]:List GenState)).size==0,(boot_heap w.params).objs.size,(boot_heap w.params).nsMap mainGlobals "__annotations__")=(true,11,ann):=by
 (try rw[a11]);(try rw[a12]);(try rw[a13]);kernel_rfl
abbrev Xt(s:Shared):Bool:=xlAt q [] s&&recOk [] s
theorem lk1(w:World)(os:OsState):(staticsOk (importedModules pwL.main.body) (boot_heap w.params) (HF w.params)&&namesBound pwL (HF w.params)&&gensDone (SF w os)&&laidKept (boot_heap w.params) (HF w.params))=true:=by
 (try rw[a11]);(try rw[a12]);(try rw[a13]);(try rw[a6]);(try rw[a7]);(try rw[a8]);(try rw[a9]);(try rw[a10]);kernel_rfl
theorem lk2(w:World)(os:OsState):openSeen q [] (importedModules pwL.main.body) Xt true (SF w os)=openGood q []:=by
 (try rw[a11]);(try rw[a12]);(try rw[a13]);(try rw[a6]);(try rw[a7]);(try rw[a8]);(try rw[a9]);(try rw[a10]);kernel_rfl
theorem lk3(w:World)(os:OsState):PySem.W.X.obsZ as (SF w os)=PySem.W.X.valZ K 366 664 w:=by
 (try rw[a11]);(try rw[a12]);(try rw[a13]);(try rw[a6]);(try rw[a7]);(try rw[a8]);(try rw[a9]);(try rw[a10]);kernel_rfl
theorem imports:opening pwL=plainProg pwL.main.scope.names:=by kernel_rfl
theorem left:LeftO pwL q [] Xt (PySem.W.X.obsZ as) (PySem.W.X.valZ K 366 664) 6318:=
 LeftO.of_pieces (boot_open imports (by rfl) (fun s=>by kernel_rfl)) size run (by rfl) fun w=>funext fun os=>looks_pair (lk1 w os) (looks_pair (lk2 w os) (lk3 w os))
end
end H
end K34
open PySem PySem.W PyProof.Rows
set_option maxRecDepth 100000 in
set_option maxHeartbeats 0 in
theorem PySem.Challenge.cw_nextbyrule_k34_numbers_put_ahead_holds : PySem.Challenge.rw_nextbyrule_k34_numbers_put_ahead.Holds := by
 change K34.rwL.Holds
 w_on;o_law;rename_i said
 refine holds_openX (d:=?d) (kwd:=?kwd) K34.H.left (fun s h=>xl_of s (Bool.and_eq_true_iff.mp h).1) XL.keeps (by rfl) (by rfl) (by rfl) (fun s h=>recFacts_of (Bool.and_eq_true_iff.mp h).2) (by rfl) said (by decide +kernel) ⟨rfl,rfl,rfl,rfl,rfl,by decide +kernel⟩ ?hw ?hc
 case hw=>w_witness2
 k_fill
 refine L2.DW (fun _=>by kernel_rfl) ?_
 refine L2.Dn "law" (l:=K34.rwL) (n:=63) (k:=K34.Tz) (x:= "_law_script") (CX:=fun w=>L2.jf K34.rwL.prog w) (sp:=fun _ T=>K34.Cj _ T) rfl (by decide) rfl ⟨rfl,by decide,by decide⟩ (fun w h Y=>Y) (by kernel_rfl) (fun _=>by kernel_rfl) ?F (fun w T H a ns hl hb hT hS=>⟨a,ns,rfl,hS,hl,hb,hT,fun _=>rfl⟩) (fun _ _ _ _ _ z=>L2.mK z)
 case F=>
  intro w mg fa h KX G hmg
  refine' K34.all_mk KX G hmg ?F0 ?F1 ?F2 ?F3 ?F4 ?F5 ?F6 ?F7 ?F8 ?F9 ?F10 ?F11 ?F12 ?F13 ?F14 ?F15 ?F16 ?F17 ?F18 ?F19 ?F20 ?F21 ?F22 ?F23 ?F24 ?F25 ?F26 ?F27 ?F28 ?F29 ?F30 ?F31 ?F32 ?F33 ?F34 ?F35 ?F36 ?FL ?z_ValueError ?z_bool ?z_int ?z_isinstance ?z_len ?z_list ?z_max ?z_range ?z_sum ?z_tuple ?g_BELOW_THE_PRIMES ?g_LONGEST ?n_NoBy ?n_NoName ?n_NoNumber ?n_NoRow ?n_NoText ?n_RuleError ?n_TooBig ?n_TooFar ?n_TooLong ?q_TooLong ?u_TooLong_RuleError ?v_TooLong_RuleError ?w1_TooLong ?w2_TooLong ?w3_TooLong ?w4_TooLong ?w5_TooLong ?w6_TooLong ?k_TooLong_NoBy ?k_TooLong_NoName ?k_TooLong_NoNumber ?k_TooLong_NoRow ?k_TooLong_NoText ?k_TooLong_RuleError ?k_TooLong_TooBig ?k_TooLong_TooFar ?k_TooLong_TooLong ?k_TooLong_ValueError
  (case F0=>(refine' L2.bw ?a ?l ?c ?k;(case a=>k_is);(case l=>k_is);(case c=>k_is);(case k=>k_is)))
  (case F1=>(refine' L2.bw ?a ?l ?c ?k;(case a=>k_is);(case l=>k_is);(case c=>k_is);(case k=>k_is)))
  (case F2=>(refine' L2.bw ?a ?l ?c ?k;(case a=>k_is);(case l=>k_is);(case c=>k_is);(case k=>k_is)))
  (case F3=>(refine' L2.bw ?a ?l ?c ?k;(case a=>k_is);(case l=>k_is);(case c=>k_is);(case k=>k_is)))
  (case F4=>(refine' L2.bw ?a ?l ?c ?k;(case a=>k_is);(case l=>k_is);(case c=>k_is);(case k=>k_is)))
  (case F5=>(refine' L2.bw ?a ?l ?c ?k;(case a=>k_is);(case l=>k_is);(case c=>k_is);(case k=>k_is)))
  (case F6=>(refine' L2.bw ?a ?l ?c ?k;(case a=>k_is);(case l=>k_is);(case c=>k_is);(case k=>k_is)))
  (case F7=>(refine' L2.bw ?a ?l ?c ?k;(case a=>k_is);(case l=>k_is);(case c=>k_is);(case k=>k_is)))
  (case F8=>(refine' L2.bw ?a ?l ?c ?k;(case a=>k_is);(case l=>k_is);(case c=>k_is);(case k=>k_is)))
  (case F9=>(refine' L2.bw ?a ?l ?c ?k;(case a=>k_is);(case l=>k_is);(case c=>k_is);(case k=>k_is)))
  (case F10=>(refine' L2.bw ?a ?l ?c ?k;(case a=>k_is);(case l=>k_is);(case c=>k_is);(case k=>k_is)))
  (case F11=>(refine' L2.bw ?a ?l ?c ?k;(case a=>k_is);(case l=>k_is);(case c=>k_is);(case k=>k_is)))
  (case F12=>(refine' L2.bw ?a ?l ?c ?k;(case a=>k_is);(case l=>k_is);(case c=>k_is);(case k=>k_is)))
  (case F13=>(refine' L2.bw ?a ?l ?c ?k;(case a=>k_is);(case l=>k_is);(case c=>k_is);(case k=>k_is)))
  (case F14=>(refine' L2.bw ?a ?l ?c ?k;(case a=>k_is);(case l=>k_is);(case c=>k_is);(case k=>k_is)))
  (case F15=>(refine' L2.bw ?a ?l ?c ?k;(case a=>k_is);(case l=>k_is);(case c=>k_is);(case k=>k_is)))
  (case F16=>(refine' L2.bw ?a ?l ?c ?k;(case a=>k_is);(case l=>k_is);(case c=>k_is);(case k=>k_is)))
  (case F17=>(refine' L2.bw ?a ?l ?c ?k;(case a=>k_is);(case l=>k_is);(case c=>k_is);(case k=>k_is)))
  (case F18=>(refine' L2.bw ?a ?l ?c ?k;(case a=>k_is);(case l=>k_is);(case c=>k_is);(case k=>k_is)))
  (case F19=>(refine' L2.bw ?a ?l ?c ?k;(case a=>k_is);(case l=>k_is);(case c=>k_is);(case k=>k_is)))
  (case F20=>(refine' L2.bw ?a ?l ?c ?k;(case a=>k_is);(case l=>k_is);(case c=>k_is);(case k=>k_is)))
  (case F21=>(refine' L2.bw ?a ?l ?c ?k;(case a=>k_is);(case l=>k_is);(case c=>k_is);(case k=>k_is)))
  (case F22=>(refine' L2.bw ?a ?l ?c ?k;(case a=>k_is);(case l=>k_is);(case c=>k_is);(case k=>k_is)))
  (case F23=>(refine' L2.bw ?a ?l ?c ?k;(case a=>k_is);(case l=>k_is);(case c=>k_is);(case k=>k_is)))
  (case F24=>(refine' L2.bw ?a ?l ?c ?k;(case a=>k_is);(case l=>k_is);(case c=>k_is);(case k=>k_is)))
  (case F25=>(refine' L2.bw ?a ?l ?c ?k;(case a=>k_is);(case l=>k_is);(case c=>k_is);(case k=>k_is)))
  (case F26=>(refine' L2.bw ?a ?l ?c ?k;(case a=>k_is);(case l=>k_is);(case c=>k_is);(case k=>k_is)))
  (case F27=>(refine' L2.bw ?a ?l ?c ?k;(case a=>k_is);(case l=>k_is);(case c=>k_is);(case k=>k_is)))
  (case F28=>(refine' L2.bw ?a ?l ?c ?k;(case a=>k_is);(case l=>k_is);(case c=>k_is);(case k=>k_is)))
  (case F29=>(refine' L2.bw ?a ?l ?c ?k;(case a=>k_is);(case l=>k_is);(case c=>k_is);(case k=>k_is)))
  (case F30=>(refine' L2.bw ?a ?l ?c ?k;(case a=>k_is);(case l=>k_is);(case c=>k_is);(case k=>k_is)))
  (case F31=>(refine' L2.bw ?a ?l ?c ?k;(case a=>k_is);(case l=>k_is);(case c=>k_is);(case k=>k_is)))
  (case F32=>(refine' L2.bw ?a ?l ?c ?k;(case a=>k_is);(case l=>k_is);(case c=>k_is);(case k=>k_is)))
  (case F33=>(refine' L2.bw ?a ?l ?c ?k;(case a=>k_is);(case l=>k_is);(case c=>k_is);(case k=>k_is)))
  (case F34=>(refine' L2.bw ?a ?l ?c ?k;(case a=>k_is);(case l=>k_is);(case c=>k_is);(case k=>k_is)))
  (case F35=>(refine' L2.bw ?a ?l ?c ?k;(case a=>k_is);(case l=>k_is);(case c=>k_is);(case k=>k_is)))
  (case F36=>(refine' L2.bw ?a ?l ?c ?k;(case a=>k_is);(case l=>k_is);(case c=>k_is);(case k=>k_is)))
  (case FL=>(refine' L2.bw ?a ?l ?c ?k;(case a=>k_is);(case l=>k_is);(case c=>k_is);(case k=>k_is)))
  (case z_ValueError=>k_is)
  (case z_bool=>k_is)
  (case z_int=>k_is)
  (case z_isinstance=>k_is)
  (case z_len=>k_is)
  (case z_list=>k_is)
  (case z_max=>k_is)
  (case z_range=>k_is)
  (case z_sum=>k_is)
  (case z_tuple=>k_is)
  (case g_BELOW_THE_PRIMES=>exact⟨_,by k_is⟩)
  (case g_LONGEST=>exact⟨_,by k_is⟩)
  (case n_NoBy=>k_is)
  (case n_NoName=>k_is)
  (case n_NoNumber=>k_is)
  (case n_NoRow=>k_is)
  (case n_NoText=>k_is)
  (case n_RuleError=>k_is)
  (case n_TooBig=>k_is)
  (case n_TooFar=>k_is)
  (case n_TooLong=>k_is)
  (case q_TooLong=>k_exc)
  (case u_TooLong_RuleError=>kernel_rfl)
  (case v_TooLong_RuleError=>kernel_rfl)
  (case w1_TooLong=>k_is)
  (case w2_TooLong=>k_is)
  (case w3_TooLong=>k_is)
  (case w4_TooLong=>k_is)
  (case w5_TooLong=>k_is)
  (case w6_TooLong=>kernel_rfl)
  (case k_TooLong_NoBy=>kit_is)
  (case k_TooLong_NoName=>kit_is)
  (case k_TooLong_NoNumber=>kit_is)
  (case k_TooLong_NoRow=>kit_is)
  (case k_TooLong_NoText=>kit_is)
  (case k_TooLong_RuleError=>kit_is)
  (case k_TooLong_TooBig=>kit_is)
  (case k_TooLong_TooFar=>kit_is)
  (case k_TooLong_TooLong=>kit_is)
  (case k_TooLong_ValueError=>kit_is)
